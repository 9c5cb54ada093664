import PyProof.Rows.All
import Wide.All
import OpenK.AllK
import Wide.FinOn
import HandS.ForMost
import HandS.ForExc
import HandS.Walk
import HandS.Evl
import HandS.ExcInit
import HandS.ExcField
import HandS.ExcIs
import HandS.IsInst
import HandS.RaiseMore
import HandS.TupAny
import HandS.TryOnly
import HandS.Defaults
import HandS.Steps
import KE.KExcIs
import HandS.TupMul
import PyProof.ReprRoads
import HandS.Replace
import KE.DataMinMax
import KE.DataCmp
import PyProof.StrBlock2
import HandS.Ends
import HandS.Style
import KE.KDictDisplayH
import PyProof.Draws
import PyProof.EnumMake
import PyProof.WalksMore
import HandS.Zip0
import HandS.DictComp
import HandS.TupLe
import HandS.Nested
import HandS.NestedK
import HandS.EndTab
import HandS.HeadWalk
import KE.KNestM
import HandS.Rev
import HandS.MapObj
import PyProof.StrWalks
import PyProof.JoinWalk
import HandS.Strs
import HandS.Conv
import PyProof.ListIndex
import HandS.SetKeys
import HandS.SetBool
import HandS.SortInts
import KE.KDictKeyed
import HandS.SetFor
import HandS.Flow
import HandS.WordsDict
import KE.KRevSl
import HandS.TryMany
import HandS.Iter
import HandS.TupLen
import KE.KDictList
import HandS.WrittenGet
import PyProof.AutoSeq1
import HandS.Sort
import HandS.RevRange
import HandS.WideBits
import PyProof.ListStr
import HandS.Finally
import PySem.Challenge.RW_anytext_k34_programs_in_order
set_option Elab.async false
set_option linter.all false
set_option maxRecDepth 100000
set_option maxHeartbeats 4000000
/-! own words: readings step by step, operators by several kinds of values -/
namespace AT
open PySem PySem.Spec PyProof.Rows L2
abbrev Ex := Evl.Ex
section
variable {X : Cx} {f : Value → Value → Sem Value} {r r' : R2}
theorem OpR.or (h : OpR X f r) (h' : OpR X f r') : OpR X f (fun x y H Q => r x y H Q ∨ r' x y H Q) := by
  intro pins s σ H x y v u Q I rx ry q
  rcases q with q | q
  · exact h pins s σ H x y v u Q I rx ry q
  · exact h' pins s σ H x y v u Q I rx ry q
theorem CallR.or {f : Value} {r r' : List V → Hp → VK → Prop} (h : CallR X f r) (h' : CallR X f r') : CallR X f (fun x H Q => r x H Q ∨ r' x H Q) := by
  intro pins s σ H x us Q I rx q
  rcases q with q | q
  · exact h pins s σ H x us Q I rx q
  · exact h' pins s σ H x us Q I rx q
end
/-! ### operators -/
/-- + of ints, of texts, of lists -/
def oAdd (K : PySem.W.Frag) : R2 := fun x y H Q => (rI0 (fun i j => .int (i + j)) x y H Q) ∨ (∃ i j : Str, x = .str i ∧ y = .str j ∧ i.length + j.length ≤ sizeLine ∧ Q (.str (i ++ j)) H) ∨ rCat x y H Q ∨ rCatT K x y H Q
theorem op_addP {X : Cx} : OpR X (binaryOp .Add) (oAdd X.K) := OpR.or op_add (OpR.or op_add_str (OpR.or op_cat op_catT))
def oSub : R2 := rI0 fun i j => .int (i - j)
theorem op_subP {X : Cx} : OpR X (binaryOp .Sub) oSub := op_sub
def oMul : R2 := rI CMul fun i j => .int (i * j)
theorem op_mulP {X : Cx} : OpR X (binaryOp .Mult) oMul := op_mul
def oMod : R2 := rI (fun _ j => j ≠ 0) fun i j => .int (i.fmod j)
theorem op_modP {X : Cx} : OpR X (binaryOp .Mod) oMod := op_modN
def oDiv : R2 := rI CDivN fun i j => .int (i.fdiv j)
theorem op_divP {X : Cx} : OpR X (binaryOp .FloorDiv) oDiv := op_fdivN
def oPow : R2 := rI CPow fun i j => .int (i ^ j.toNat)
theorem op_powP {X : Cx} : OpR X (binaryOp .Pow) oPow := op_pow
def oLt : R2 := rI0 fun i j => .bl (decide (i < j))
def oLe : R2 := rI0 fun i j => .bl (decide (i ≤ j))
def oGt : R2 := rI0 fun i j => .bl (decide (j < i))
def oGe : R2 := rI0 fun i j => .bl (decide (j ≤ i))
theorem op_ltP {X : Cx} : OpR X (compareOp .Lt) oLt := op_lt
theorem op_leP {X : Cx} : OpR X (compareOp .LtE) oLe := op_le
theorem op_gtP {X : Cx} : OpR X (compareOp .Gt) oGt := op_gt
theorem op_geP {X : Cx} : OpR X (compareOp .GtE) oGe := op_ge
/-- == of ints, bools, texts; of data -/
def oEq (K : PySem.W.Frag) : R2 := fun x y H Q => rEq x y H Q ∨ rEqD K x y H Q
def oNe (K : PySem.W.Frag) : R2 := fun x y H Q => rNe x y H Q ∨ rNeD K x y H Q
theorem op_eqP {X : Cx} (hu : X.A.units + 64 < cLine) : OpR X (compareOp .Eq) (oEq X.K) := OpR.or op_eq (op_eqD hu)
theorem op_neP {X : Cx} (hu : X.A.units + 64 < cLine) : OpR X (compareOp .NotEq) (oNe X.K) := OpR.or op_ne (op_neD hu)

/-! ### reading, step by step -/
section rd
variable {K : PySem.W.Frag} {σ : L2.St} {H : Hp} {Q : VK} {QB : Bool → Hp → Prop} {QL : List V → Hp → Prop} {D : Ends} {ta tb tc te to : TE} {tt uu : TT} {tl : TA} {t u : TS} {g : TG} {i : Nat} {v w x y : V} {r r' : R2} {QS : L2.St → Hp → Prop}
theorem rd_seq (h : t { D with nx := u D } σ H) : tSeq t u D σ H := h
theorem rd_asg (h : te σ H fun x H1 => g x σ H1 D.nx) : tAsg te g D σ H := h
theorem rd_name (h : QS (σ.set i (some v)) H) : gName i v σ H QS := h
theorem rd_var (e : σ[i]? = some (some v)) (h : Q v H) : tVar i σ H Q := ⟨v, e, h⟩
theorem rd_c (h : Q v H) : tC v σ H Q := h
theorem rd_op (h : ta σ H fun x H1 => tb σ H1 fun y H2 => r x y H2 Q) : tOp r ta tb σ H Q := h
theorem rd_ret (h : te σ H D.rt) : tRet te D σ H := h
theorem rd_retN (h : D.rt .non H) : tRetN D σ H := h
theorem rd_if (h : tt σ H fun b H1 => if b = true then t D σ H1 else u D σ H1) : tIfS tt t u D σ H := h
theorem rd_ife (h : tt σ H fun b H1 => if b = true then ta σ H1 Q else tb σ H1 Q) : tIf tt ta tb σ H Q := h
theorem rd_next (h : D.nx σ H) : tNext D σ H := h
theorem rd_drop (h : te σ H fun _ H1 => D.nx σ H1) : tDrop te D σ H := h
theorem rd_test (h : te σ H fun x H' => ∃ k, x = .bl k ∧ QB k H') : tTest te σ H QB := h
theorem rd_tB (h : te σ H fun x H' => ∃ k, x = .bl k ∧ QB k H') : tB te σ H QB := h
theorem rd_bl {b : Bool} {P : Bool → Prop} (h : P b) : ∃ k, V.bl b = .bl k ∧ P k := ⟨b, rfl, h⟩
theorem rd_not (h : tt σ H fun c H1 => QB (!c) H1) : tNot tt σ H QB := h
theorem rd_and (h : tt σ H fun c H1 => if c = true then uu σ H1 QB else QB false H1) : tAnd tt uu σ H QB := h
theorem rd_or (h : tt σ H fun c H1 => if c = true then QB true H1 else uu σ H1 QB) : tOr tt uu σ H QB := h
theorem rd_nil (h : QL [] H) : tNil σ H QL := h
theorem rd_cons (h : ta σ H fun x H1 => tl σ H1 fun xs H2 => QL (x :: xs) H2) : tCons ta tl σ H QL := h
theorem rd_lst (h : tl σ H fun xs H1 => xs.length ≤ sizeLine ∧ ∀ p, H1 p = none → Q (.ref p) (upd H1 p (.lst xs))) : tLst tl σ H Q := h
theorem rd_tup (h : tl σ H fun xs H1 => xs.length ≤ sizeLine ∧ ∀ p, H1 p = none → Q (.ref p) (upd H1 p (.tup xs))) : tTup tl σ H Q := h
theorem rd_cb {rc : List V → Hp → VK → Prop} (h : tl σ H fun vs H1 => rc vs H1 Q) : tCB rc tl σ H Q := h
theorem rd_chain (h : ta σ H fun x H1 => tb σ H1 fun y H2 => r x y H2 fun z H3 => ∃ k, z = .bl k ∧ if k = true then tc σ H3 fun w H4 => r' y w H4 Q else Q (.bl false) H3) : tChain r r' ta tb tc σ H Q := h
theorem rd_call {sp : Sp} {dvs : List V} {E : XK} (h : tl σ H fun vs H1 => sp (vs ++ dvs) H1 Q E) : tCall sp dvs E tl σ H Q := h
theorem rd_iteT {A B : Prop} (h : A) : if true = true then A else B := iteT h
theorem rd_iteF {A B : Prop} (h : B) : if false = true then A else B := iteF h
theorem rd_itet {A B : Prop} {c : Bool} (e : c = true) (h : A) : if c = true then A else B := by rw [e]; exact iteT h
theorem rd_itef {A B : Prop} {c : Bool} (e : c = false) (h : B) : if c = true then A else B := by rw [e]; exact iteF h
theorem rd_ite {A B : Prop} {c : Bool} (h1 : c = true → A) (h2 : c = false → B) : if c = true then A else B := by
  cases c with
  | true => exact iteT (h1 rfl)
  | false => exact iteF (h2 rfl)
theorem rd_iteD {A B p : Prop} [Decidable p] (h1 : p → A) (h2 : ¬ p → B) : if decide p = true then A else B := rd_ite (fun e => h1 (of_decide_eq_true e)) fun e => h2 (of_decide_eq_false e)
theorem rd_iteN {A B p : Prop} [Decidable p] (h1 : ¬ p → A) (h2 : p → B) : if (!decide p) = true then A else B := rd_ite (fun e => h1 (by simpa using e)) fun e => h2 (by simpa using e)
/-! ints -/
variable {a b : Int}
theorem rd_addI (h : Q (.int (a + b)) H) : oAdd K (.int a) (.int b) H Q := .inl ⟨a, b, rfl, rfl, h⟩
theorem rd_subI (h : Q (.int (a - b)) H) : oSub (.int a) (.int b) H Q := ⟨a, b, rfl, rfl, h⟩
theorem rd_mulI (c : CMul a b) (h : Q (.int (a * b)) H) : oMul (.int a) (.int b) H Q := ⟨a, b, rfl, rfl, c, h⟩
theorem rd_modI (c : b ≠ 0) (h : Q (.int (a.fmod b)) H) : oMod (.int a) (.int b) H Q := ⟨a, b, rfl, rfl, c, h⟩
theorem rd_divI (c : CDivN a b) (h : Q (.int (a.fdiv b)) H) : oDiv (.int a) (.int b) H Q := ⟨a, b, rfl, rfl, c, h⟩
theorem rd_powI (c : CPow a b) (h : Q (.int (a ^ b.toNat)) H) : oPow (.int a) (.int b) H Q := ⟨a, b, rfl, rfl, c, h⟩
theorem rd_lt (h : Q (.bl (decide (a < b))) H) : oLt (.int a) (.int b) H Q := ⟨a, b, rfl, rfl, h⟩
theorem rd_le (h : Q (.bl (decide (a ≤ b))) H) : oLe (.int a) (.int b) H Q := ⟨a, b, rfl, rfl, h⟩
theorem rd_gt (h : Q (.bl (decide (b < a))) H) : oGt (.int a) (.int b) H Q := ⟨a, b, rfl, rfl, h⟩
theorem rd_ge (h : Q (.bl (decide (b ≤ a))) H) : oGe (.int a) (.int b) H Q := ⟨a, b, rfl, rfl, h⟩
theorem rd_eqI (h : Q (.bl (decide (a = b))) H) : oEq K (.int a) (.int b) H Q := .inl ⟨rfl, by
  have e : decide (V.int a = V.int b) = decide (a = b) := decide_eq_decide.mpr ⟨fun z => V.int.inj z, fun z => by rw [z]⟩
  rw [e]; exact h⟩
theorem rd_neI (h : Q (.bl (!decide (a = b))) H) : oNe K (.int a) (.int b) H Q := .inl ⟨rfl, by
  have e : decide (V.int a = V.int b) = decide (a = b) := decide_eq_decide.mpr ⟨fun z => V.int.inj z, fun z => by rw [z]⟩
  rw [e]; exact h⟩
theorem rd_eqS {x y : Str} (h : Q (.bl (decide (x = y))) H) : oEq K (.str x) (.str y) H Q := .inl ⟨rfl, by
  have e : decide (V.str x = V.str y) = decide (x = y) := decide_eq_decide.mpr ⟨fun z => V.str.inj z, fun z => by rw [z]⟩
  rw [e]; exact h⟩
theorem rd_neS {x y : Str} (h : Q (.bl (!decide (x = y))) H) : oNe K (.str x) (.str y) H Q := .inl ⟨rfl, by
  have e : decide (V.str x = V.str y) = decide (x = y) := decide_eq_decide.mpr ⟨fun z => V.str.inj z, fun z => by rw [z]⟩
  rw [e]; exact h⟩
theorem rd_addS {x y : Str} (c : x.length + y.length ≤ sizeLine) (h : Q (.str (x ++ y)) H) : oAdd K (.str x) (.str y) H Q := .inr (.inl ⟨x, y, rfl, rfl, c, h⟩)
theorem rd_cat {l m : Addr} {xs ys : List V} (h1 : H l = some (.lst xs)) (h2 : H m = some (.lst ys)) (c : xs.length + ys.length ≤ sizeLine) (h : ∀ p, H p = none → Q (.ref p) (upd H p (.lst (xs ++ ys)))) : oAdd K (.ref l) (.ref m) H Q := .inr (.inr (.inl ⟨l, m, xs, ys, rfl, rfl, h1, h2, c, h⟩))
/-! calls of built-ins -/
end rd
/-! ### heaps -/
theorem ex_upd {H0 H : Hp} {p : Addr} {o : HO} (e : Ex H0 H) (h : H p = none) : Ex H0 (upd H p o) := fun a u q => by
  rw [upd_ne (ne_of_none (e a u q) h)]
  exact e a u q
theorem sq_upd {K : PySem.W.Frag} {H : Hp} {a p : Addr} {o : HO} {xs : List V} (hp : H p = none) (h : SqL K H a xs) : SqL K (upd H p o) a xs := Evl.ex_l (Evl.Ex.new hp) h
theorem sqt_upd {K : PySem.W.Frag} {H : Hp} {a p : Addr} {o : HO} {xs : List V} (hp : H p = none) (h : SqT K H a xs) : SqT K (upd H p o) a xs := Evl.ex_t (Evl.Ex.new hp) h
theorem at_upd {H : Hp} {a p : Addr} {o u : HO} (hp : H p = none) (h : H a = some u) : upd H p o a = some u := by
  rw [upd_ne (ne_of_none h hp)]; exact h

/-! ### more operators: in, len, slices, what is walked, repr -/
section
variable {X : Cx}
def oIn (K : PySem.W.Frag) : R2 := fun x y H Q => (∃ (c : Nat) (z : Str), x = .str ⟨#[c]⟩ ∧ y = .str z ∧ Q (.bl (decide (c ∈ z.cps.toList))) H) ∨ rIn K false x y H Q
def oNotIn (K : PySem.W.Frag) : R2 := fun x y H Q => (∃ (c : Nat) (z : Str), x = .str ⟨#[c]⟩ ∧ y = .str z ∧ Q (.bl (!decide (c ∈ z.cps.toList))) H) ∨ rIn K true x y H Q
theorem op_inP : OpR X (compareOp .In) (oIn X.K) := OpR.or op_in_sign op_in_seq
theorem op_notInP : OpR X (compareOp .NotIn) (oNotIn X.K) := OpR.or op_notIn_sign op_notIn_seq
def cLen (K : PySem.W.Frag) : List V → Hp → VK → Prop := fun xs H Q => (∃ x n, xs = [x] ∧ LenV K x H n ∧ Q (.int n) H) ∨ ∃ a kvs, xs = [V.ref a] ∧ H a = some (.dK kvs) ∧ Q (.int kvs.length) H
theorem call_lenP : CallR X (.builtin "len") (cLen X.K) := CallR.or call_len call_lenD
def cInt : List V → Hp → VK → Prop := fun xs H Q => (∃ i, xs = [.int i] ∧ Q (.int i) H) ∨ ∃ k, xs = [.bl k] ∧ Q (.int (if k then 1 else 0)) H
theorem call_intP : CallR X (.type "int") cInt := call_int1
def cAbs : List V → Hp → VK → Prop := fun xs H Q => ∃ i, xs = [.int i] ∧ Q (.int (if i < 0 then -i else i)) H
theorem call_absP : CallR X (.builtin "abs") cAbs := call_abs
def oSl (K : PySem.W.Frag) : V → Option Int → Option Int → Hp → VK → Prop := fun x lo hi H Q => rSlL K x lo hi H Q ∨ rSlS x lo hi H Q ∨ rSlA K x lo hi H Q
theorem sl_P : SlR X (oSl X.K) := SlR.or sl_list (SlR.or sl_str sl_tupA)
theorem PI.or {tg iter : Expr} {w w' : TI} (h : PI X tg iter w) (h' : PI X tg iter w') : PI X tg iter (fun σ H R => w σ H R ∨ w' σ H R) :=
  ⟨fun pins s σ H R I q => q.elim (h.run pins s σ H R I) (h'.run pins s σ H R I)⟩
def iAny (K : PySem.W.Frag) (te : TE) : TI := fun σ H R => iList K te σ H R ∨ iTup K te σ H R ∨ iStr te σ H R
theorem pi_any {tg e : Expr} {te : TE} (he : PE X e te) : PI X tg e (iAny X.K te) := PI.or (pi_list he) (PI.or (pi_tup he) (pi_str he))
theorem call_repr_bl : CallR X (.builtin "repr") (fun xs H Q => ∃ b, xs = [.bl b] ∧ Q (.str (if b then "True" else "False")) H) := by
  intro pins s σ H xs us Q I r h
  obtain ⟨b, rfl, q⟩ := h
  obtain ⟨u, rfl, ru⟩ := vals1 r
  cases (show u = Value.bool b from ru)
  exact PySem.P.repr_of_bool ⟨.str _, H, I.tok _, ⟨_, rfl⟩, q⟩
def cRepr : List V → Hp → VK → Prop := fun xs H Q => (∃ i, xs = [.int i] ∧ i.natAbs.log2 < 1920 ∧ Q (.str (toString i)) H) ∨ ∃ b, xs = [.bl b] ∧ Q (.str (if b then "True" else "False")) H
theorem call_reprP : CallR X (.builtin "repr") cRepr := CallR.or SkE.call_repr_int call_repr_bl
end
/-! ### own defs -/
/-- the def named x stands at f; all its parameters are written at a call -/
structure Own (K : PySem.W.Frag) (mg : Str → Option Value) (x : Str) (f : Addr) (fd : FuncData) (ps : List Str) : Prop where
  g : mg x = some (.ref f)
  k : PySem.W.keepIn K (.ref f) = true
  b : Binds K fd ps []
section
variable {X : Cx} {k : Nat} {f : Addr} {fd : FuncData} {ps : List Str} {sp : Sp} {x : Str} {p pos : Pos} {e : Expr} {es : List Expr} {t : TA}
def tCalled (sp : Sp) (t : TA) : TE := fun σ H Q => t σ H fun vs H1 => sp vs H1 Q E0
/-- a call of a def that raises nothing -/
theorem pe_callE (F : FnOk X.prog X.w X.K X.mg X.base CX0 k f fd ps sp) (hr : Room k X.A) (O : Own X.K X.mg x f fd ps) (ha : PA X (e :: es) t) (hg : Gl X x := by rfl)
    (hdb : (x == ("__debug__" : Str)) = false := by decide) (he : starEach (e :: es) X.env = (false, eval e X.env) :: starEach es X.env := by rfl) (hpl : (backTo pos (starEach es X.env)).any (·.1) = false := by rfl) :
    PE X (.Call (.Name x p) (e :: es) [] pos) (tCalled sp t) := pe_callS (E := fun _ => E0) F hr hg O.g O.k O.b (fun _ _ _ _ _ _ _ h => h.elim) ha hdb he hpl
def tCalledR (sp : Sp) (W : WX) (t : TA) : TE := fun σ H Q => t σ H fun vs H1 => sp vs H1 Q fun c d H2 => W c d σ H2
/-- a call of a def that may raise -/
theorem pe_callR {W : WX} (F : FnOk X.prog X.w X.K X.mg X.base (L2.CX X.prog X.w) k f fd ps sp) (hr : Room k X.A) (O : Own X.K X.mg x f fd ps) (tk : Takes X W) (ha : PA X (e :: es) t) (hg : Gl X x := by rfl)
    (hdb : (x == ("__debug__" : Str)) = false := by decide) (he : starEach (e :: es) X.env = (false, eval e X.env) :: starEach es X.env := by rfl) (hpl : (backTo pos (starEach es X.env)).any (·.1) = false := by rfl) :
    PE X (.Call (.Name x p) (e :: es) [] pos) (tCalledR sp W t) := pe_callS (E := WE W) F hr hg O.g O.k O.b (fun σ => passAt tk σ) ha hdb he hpl
end
/-! ### exceptions with the one attribute «what» -/
/-- the __init__ of the family: self.what = what -/
def spInit (K : PySem.W.Frag) : Sp := fun vs H Q _ => ∃ (a C : Addr) (v : V), vs = [.ref a, v] ∧ OexC K C ∧ PySem.W.findIn K (.ref C) "what" = some none ∧ H a = some (exo a C none) ∧
  ∀ dx, H dx = none → dx ≠ a → Q .non (upd (upd H dx (exd dx [("what", v)])) a (exo a C (some dx)))
/-- what the written part says of such a class -/
structure ErrX (K : PySem.W.Frag) (C fI : Addr) : Prop where
  ox : OexC K C
  xf : XfC K C
  nw : PySem.W.findIn K (.ref C) "what" = some none
  ini : PySem.W.findIn K (.ref C) "__init__" = some (some (.ref fI))
  cl : PySem.W.isClsIn K C = true
  cc : PySem.W.findIn K (.ref C) "__class__" = some (some (.builtin "object.__class__"))
  mo : PySem.W.mroIn K C (.type "object") = some true
  se : PySem.W.subIn K (.ref C) (.ref C) = some true
/-- of the builtin that tells an object's class -/
structure ClsB (K : PySem.W.Frag) : Prop where
  sp : PySem.W.specialIn K (.builtin "object.__class__") "__get__" = some (some (.builtin "getset_descriptor.__get__"))
  tk : PySem.W.takesIn K (.builtin "object.__class__") = some true
theorem mk_what {K : PySem.W.Frag} {C fI : Addr} {v : V} {H1 : Hp} {Q : XK} {vs : List V} (T : ErrX K C fI) (ev : vs = [v]) (h : ∀ d, H1 d = none → Q (.ref C) (some d) (upd H1 d (.xd [("what", v)]))) :
    vs.length ≤ 1000 ∧ ∀ a, H1 a = none → spInit K (.ref a :: (vs ++ [])) (upd H1 a (exo a C none))
      (fun u H2 => u = .non ∧ ∃ (d : Addr) (fs : List (Str × V)), H2 a = some (exo a C (some d)) ∧ H2 d = some (exd d fs) ∧ H1 d = none ∧ Q (.ref C) (some d) (upd (del H2 a) d (.xd fs))) (fun _ _ _ => False) := by
  subst ev
  refine ⟨by show 1 ≤ 1000; decide, fun a ha => ⟨a, C, v, rfl, T.ox, T.nw, upd_same, fun dx hdx ne => ⟨rfl, dx, [("what", v)], upd_same, ?_, ?_, ?_⟩⟩⟩
  · rw [upd_ne ne, upd_same]
  · rw [upd_ne ne] at hdx
    exact hdx
  · rw [upd_ne ne] at hdx
    have e : upd (del (upd (upd (upd H1 a (exo a C none)) dx (exd dx [("what", v)])) a (exo a C (some dx))) a) dx (.xd [("what", v)]) = upd H1 dx (.xd [("what", v)]) := by
      funext b
      by_cases h1 : b = dx
      · rw [h1, upd_same, upd_same]
      · rw [upd_ne h1, upd_ne h1]
        by_cases h2 : b = a
        · rw [h2, del_same, ha]
        · rw [del_ne h2, upd_ne h2, upd_ne h1, upd_ne h2]
    rw [e]
    exact h dx hdx
/-- raise C(e) -/
def tRaised (C : Addr) (W : WX) (ta : TA) : TS := fun _ σ H => ta σ H fun vs H1 => ∃ v, vs = [v] ∧ ∀ d, H1 d = none → W (.ref C) (some d) σ (upd H1 d (.xd [("what", v)]))
section
variable {X : Cx} {C fI : Addr} {fd : FuncData} {x : Str} {p pos pos2 : Pos} {e : Expr} {ta : TA} {W : WX}
theorem PA.imp {es : List Expr} {t t' : TA} (h : PA X es t) (hi : ∀ σ H Q, t' σ H Q → t σ H Q) : PA X es t' := ⟨fun pos pins s σ H Q I q => h.run pos pins s σ H Q I (hi σ H Q q)⟩
theorem PS.imp {st : Stmt} {t t' : TS} (h : PS X st t) (hi : ∀ D σ H, t' D σ H → t D σ H) : PS X st t' := ⟨fun pins s σ H D I q => h.run pins s σ H D I (hi D σ H q)⟩
/-- a reading is monotone in its wish -/
def MonoA (t : TA) : Prop := ∀ σ H (Q Q' : List V → Hp → Prop), (∀ vs H1, Q vs H1 → Q' vs H1) → t σ H Q → t σ H Q'
theorem ps_raiseW (hc : X.calm = true) (T : ErrX X.K C fI) (G : FnOk X.prog X.w X.K X.mg X.base CX0 1 fI fd ["self", "what"] (spInit X.K)) (tI : PySem.W.typeIn X.K (.ref fI) = some (.type "function")) (bI : Binds X.K fd ["self", "what"] []) (hr : Room 2 X.A) (hm : X.mg x = some (.ref C))
    (tk : Takes X W) (ha : PA X (e :: []) ta) (mo : MonoA ta) (hg : Gl X x := by rfl) (hdb : (x == ("__debug__" : Str)) = false := by decide)
    (he : starEach (e :: []) X.env = (false, eval e X.env) :: starEach [] X.env := by rfl) (hpl : (backTo pos (starEach [] X.env)).any (·.1) = false := by rfl) :
    PS X (.Raise (some (.Call (.Name x p) (e :: []) [] pos)) none pos2) (tRaised C W ta) := by
  refine PS.imp (ps_raise hc tk (pmk_oex (pos := pos) T.ox T.ini tI G hr bI .nil pass0 hg hm ha hdb he hpl)) fun D σ H q => ?_
  refine mo σ H _ _ (fun vs H1 q => ?_) q
  obtain ⟨v, ev, h⟩ := q
  exact mk_what (Q := fun c d H' => W c d σ H') T ev h
theorem MonoA.nil : MonoA tNil := fun _ _ _ _ h q => h _ _ q
theorem MonoA.one {te : TE} (m : ∀ σ H (Q Q' : VK), (∀ v H1, Q v H1 → Q' v H1) → te σ H Q → te σ H Q') : MonoA (tCons te tNil) := fun σ H Q Q' h q => m σ H _ _ (fun v H1 z => h _ _ z) q
theorem mono_var {i : Nat} : ∀ σ H (Q Q' : VK), (∀ v H1, Q v H1 → Q' v H1) → tVar i σ H Q → tVar i σ H Q' := fun _ _ _ _ h ⟨v, e, q⟩ => ⟨v, e, h _ _ q⟩
theorem mono_c {v : V} : ∀ σ H (Q Q' : VK), (∀ v H1, Q v H1 → Q' v H1) → tC v σ H Q → tC v σ H Q' := fun _ _ _ _ h q => h _ _ q
end
/-- isinstance(e, c), isinstance(e, (c, ..)): e the exception that the suite holds -/
def cIsE (K : PySem.W.Frag) (D a dd : Addr) : List V → Hp → VK → Prop := fun xs H Q => ∃ (fs : List (Str × V)) (b : Bool), H dd = some (.xd fs) ∧
  ((∃ (c : V) (cv : Value), xs = [.ref a, c] ∧ ClsV c cv ∧ PySem.W.kitOne K (.ref D) cv = some b) ∨ ∃ (tp : Addr) (cs : List V) (us : List Value), xs = [.ref a, .ref tp] ∧ H tp = some (.tup cs) ∧ Paired ClsV cs us ∧ PySem.W.kitAny K (.ref D) us = some b) ∧ Q (.bl b) H
theorem call_isX {X : Cx} {a D dd fI : Addr} {oe : Obj} {pn : List (Addr × Obj)} (T : ErrX X.K D fI) (B : ClsB X.K) (hz : Zc (.ref D) (some dd) oe) (hf : ∃ vs, oe.data = .fields vs) : CallR (X.suite a ((a, oe) :: pn)) (.builtin "isinstance") (cIsE X.K D a dd) := by
  intro pins s σ H xs us Q I r h
  obtain ⟨fs, b, hdd, hc, q⟩ := h
  obtain ⟨mA, hns, _⟩ := (show ObjOk X.prog X.w H s.heap dd (.xd fs) from I.hok dd _ hdd)
  obtain ⟨od, ho, _⟩ := lookIn_ns hns
  obtain ⟨hget, _⟩ := I.pin (a, oe) (List.mem_append.mpr (.inl List.mem_cons_self))
  obtain ⟨vs, hv⟩ := hf
  have J : PySem.W.InstAt s.heap a oe D (some od) := ⟨hget, hz.1, by unfold PySem.W.notCls; rw [hv] <;> rfl, by rw [hz.2]; exact ho⟩
  have Z : PySem.W.KitX X.K (.ref a) (.ref D) (fun h => PySem.W.InstAt h a oe D (some od)) := PySem.W.kitx_exc T.cl T.xf.ga T.xf.gg T.xf.exC T.cc B.sp B.tk T.mo
  rcases hc with ⟨c, cv, rfl, hcv, e⟩ | ⟨tp, cs, ws, rfl, hT, hcs, e⟩
  · obtain ⟨u1, u2, rfl, r1, r2⟩ := vals2 r
    cases (show u1 = Value.ref a from r1)
    have e2 := hcv.eq r2
    subst e2
    exact PySem.W.kia_one Z I.kIn J e (fun z => nomatch z) fun tk => ⟨.bl b, H, I.tok tk, rfl, q⟩
  · obtain ⟨u1, u2, rfl, r1, r2⟩ := vals2 r
    cases (show u1 = Value.ref a from r1)
    cases (show u2 = Value.ref tp from r2)
    obtain ⟨_, its, rv, o, h1, h2, n, h3⟩ := (show ObjOk X.prog X.w H s.heap tp (.tup cs) from I.hok tp _ hT)
    have e3 := ClsV.all hcs rv
    subst e3
    obtain ⟨oc, od', dt, sl⟩ := o
    simp only at h2 h3
    subst h2 h3
    exact PySem.W.kia_tup Z I.kIn J h1 e (fun z => nomatch z) fun tk => ⟨.bl b, H, I.tok tk, rfl, q⟩
/-- an own class or a class of Python's beside it: what isinstance says -/
theorem kit_ref {K : PySem.W.Frag} {D C fI : Addr} {b : Bool} (T : ErrX K D fI) (cl : PySem.W.isClsIn K C = true) (ty : PySem.W.typeIn K (.ref C) = some (.type "type")) (s : PySem.W.subIn K (.ref D) (.ref C) = some b) : PySem.W.kitOne K (.ref D) (.ref C) = some b := by
  by_cases e : D = C
  · subst e
    rw [T.se] at s
    obtain rfl : true = b := Option.some.inj s
    unfold PySem.W.kitOne
    rw [if_pos (by simp)]
  · unfold PySem.W.kitOne
    rw [if_neg (by simp [e])]
    show (if ((PySem.W.clsIn K C).isSome && PySem.W.typeIn K (.ref C) == some (.type "type")) = true then PySem.W.subIn K (.ref D) (.ref C) else none) = some b
    have e1 : (PySem.W.clsIn K C).isSome = true := cl
    rw [e1, ty, s]
    rfl
theorem kit_bt {K : PySem.W.Frag} {D : Addr} {n : String} {b : Bool} (m : PySem.W.kitMeta n = true) (s : PySem.W.subIn K (.ref D) (.type n) = some b) : PySem.W.kitOne K (.ref D) (.type n) = some b := by
  unfold PySem.W.kitOne
  rw [if_neg (by simp)]
  show (if PySem.W.kitMeta n = true then PySem.W.subIn K (.ref D) (.type n) else none) = some b
  rw [if_pos m, s]

theorem PSs.exi {ι : Type} {X : Cx} {st : List Stmt} {P : ι → Prop} {t : ι → TS} (h : ∀ i, P i → PSs X st (t i)) : PSs X st (fun D σ H => ∃ i, P i ∧ t i D σ H) :=
  ⟨fun pins s σ H D I ⟨i, p, q⟩ => (h i p).run pins s σ H D I q⟩
/-- what a suite knows of its exception: its class, its dict, where the family's __init__ stands -/
structure Caught (K : PySem.W.Frag) (cls : Value) (d : Option Addr) (i : Addr × Addr × Addr) : Prop where
  c : cls = .ref i.1
  e : d = some i.2.1
  x : ErrX K i.1 i.2.2
theorem Caught.z {K : PySem.W.Frag} {cls : Value} {d : Option Addr} {i : Addr × Addr × Addr} {oe : Obj} (h : Caught K cls d i) (hz : Zc cls d oe) : Zc (.ref i.1) (some i.2.1) oe := ⟨hz.1.trans h.c, hz.2.trans h.e⟩
/-! ### reading of calls -/
section
variable {K : PySem.W.Frag} {σ : L2.St} {H : Hp} {Q : VK} {D : Ends} {tl : TA} {te ta tb : TE} {a : Int} {v x : V} {n : Nat} {W : WX} {C : Addr}
theorem rd_called {sp : Sp} (h : tl σ H fun vs H1 => sp vs H1 Q E0) : tCalled sp tl σ H Q := h
theorem rd_calledR {sp : Sp} (h : tl σ H fun vs H1 => sp vs H1 Q fun c d H2 => W c d σ H2) : tCalledR sp W tl σ H Q := h
theorem rd_raised (h : tl σ H fun vs H1 => ∃ v, vs = [v] ∧ ∀ d, H1 d = none → W (.ref C) (some d) σ (upd H1 d (.xd [("what", v)]))) : tRaised C W tl D σ H := h
theorem rd_raised1 {P : V → Prop} (h : P v) : ∃ v', [v] = [v'] ∧ P v' := ⟨v, rfl, h⟩
theorem rd_int (h : Q (.int a) H) : cInt [.int a] H Q := .inl ⟨a, rfl, h⟩
theorem rd_abs (h : Q (.int (if a < 0 then -a else a)) H) : cAbs [.int a] H Q := ⟨a, rfl, h⟩
theorem rd_lenL {p : Addr} {xs : List V} (e : SqL K H p xs) (h : Q (.int (xs.length : Nat)) H) : cLen K [.ref p] H Q := .inl ⟨_, _, rfl, .inl ⟨xs, e, rfl⟩, h⟩
theorem rd_lenT {p : Addr} {xs : List V} (e : SqT K H p xs) (h : Q (.int (xs.length : Nat)) H) : cLen K [.ref p] H Q := .inl ⟨_, _, rfl, .inr ⟨xs, e, rfl⟩, h⟩
theorem rd_lenS {z : Str} (e : z.length ≤ sizeLine) (h : Q (.int (z.length : Nat)) H) : cLen K [.str z] H Q := .inl ⟨_, _, rfl, ⟨e, rfl⟩, h⟩
theorem rd_ixL {p : Addr} {xs : List V} (e : SqL K H p xs) (ha : atI xs a = some v) (h : Q v H) : rIx K (.ref p) (.int a) H Q := .inl ⟨p, xs, a, v, rfl, rfl, e, ha, h⟩
theorem rd_ixT {p : Addr} {xs : List V} (e : SqT K H p xs) (ha : atI xs a = some v) (h : Q v H) : rIx K (.ref p) (.int a) H Q := .inr (.inl ⟨p, xs, a, v, rfl, rfl, e, ha, h⟩)
theorem rd_ixS {z : Str} {c : Nat} (e : z.length ≤ sizeLine) (ha : atI z.cps.toList a = some c) (h : Q (.str ⟨#[c]⟩) H) : rIx K (.str z) (.int a) H Q := .inr (.inr ⟨z, a, c, rfl, rfl, e, ha, h⟩)
theorem rd_inS {c : Nat} {z : Str} (h : Q (.bl (decide (c ∈ z.cps.toList))) H) : oIn K (.str ⟨#[c]⟩) (.str z) H Q := .inl ⟨c, z, rfl, rfl, h⟩
theorem rd_niS {c : Nat} {z : Str} (h : Q (.bl (!decide (c ∈ z.cps.toList))) H) : oNotIn K (.str ⟨#[c]⟩) (.str z) H Q := .inl ⟨c, z, rfl, rfl, h⟩
theorem rd_rng1 {ta : TA} {R : It → Hp → Prop} (h : ta σ H fun vs H1 => ∃ j : Int, vs = [.int j] ∧ -(2 ^ 62) ≤ j ∧ j < 2 ^ 62 ∧ R (Itr 0 j.toNat) H1) : iRng1 ta σ H R := h
theorem rd_rng2 {ta : TA} {R : It → Hp → Prop} (h : ta σ H fun vs H1 => ∃ i j : Int, vs = [.int i, .int j] ∧ (-(2 ^ 62) ≤ i ∧ i < 2 ^ 62 ∧ -(2 ^ 62) ≤ j ∧ j < 2 ^ 62) ∧ R (Itr i (j - i).toNat) H1) : iRng2 ta σ H R := h
theorem rd_bm {T : String} {r : V → List V → Hp → VK → Prop} {to : TE} {t : TA} (h : to σ H fun x H1 => tyV K T x H1 ∧ t σ H1 fun xs H2 => r x xs H2 Q) : tBM K T r to t σ H Q := h
theorem rd_andV (h : ta σ H fun x H1 => ∃ c, x = .bl c ∧ if c = true then tb σ H1 Q else Q (.bl false) H1) : tAndV ta tb σ H Q := h
theorem rd_orV (h : ta σ H fun x H1 => ∃ c, x = .bl c ∧ if c = true then Q (.bl true) H1 else tb σ H1 Q) : tOrV ta tb σ H Q := h
theorem rd_sl {r : V → Option Int → Option Int → Hp → VK → Prop} {tl th : TO} (h : te σ H fun x H1 => tl σ H1 fun l H2 => th σ H2 fun u H3 => r x l u H3 Q) : tSl r te tl th σ H Q := h
theorem rd_noPart {Q : Option Int → Hp → Prop} (h : Q none H) : tNoPart σ H Q := h
theorem rd_part {Q : Option Int → Hp → Prop} (h : te σ H fun x H1 => ∃ i, x = .int i ∧ Q (some i) H1) : tPart te σ H Q := h
theorem rd_intv {P : Int → Prop} (h : P a) : ∃ i, V.int a = .int i ∧ P i := ⟨a, rfl, h⟩
theorem rd_slS {z : Str} {lo hi : Option Int} (e : z.length ≤ sizeLine) (h : Q (.str (cutS z lo hi)) H) : oSl K (.str z) lo hi H Q := .inr (.inl ⟨z, rfl, e, h⟩)
end

section
variable {CX : CXT} {P : Program} {w : World} {K : PySem.W.Frag} {mg : Str → Option Value} {base : Heap} {N : List Str} {q : Str} {sc : Scope} {f : Addr} {cdv : Value} {A : Around} {outer : List Env} {s : Shared} {H : Hp} {E : XK}
theorem cxK : (cxOf CX P w K mg base N q sc f cdv A outer s H E).nox.K = K := rfl
theorem cxK' : (cxOf CX P w K mg base N q sc f cdv A outer s H E).K = K := rfl
end

/-! ### loops and comprehensions -/
def forB (g : TG) (tb : TS) (D : Ends) (σ : L2.St) (J : It) (H : Hp) : Prop := tFor (fun _ H R => R J H) g tb D σ H
def lcB (g : TG) (tt : TT) (te : TE) (vs : List Nat) (σ : L2.St) (Q : VK) (J : It) (H : Hp) : Prop := tLc (fun _ H R => R J H) g tt te vs σ H Q
section
variable {K : PySem.W.Frag} {σ : L2.St} {H : Hp} {Q : VK} {D : Ends} {wi : TI} {g : TG} {tb : TS} {tt : TT} {te : TE} {vs : List Nat} {J : It} {n : Nat} {G : Hp → Prop} {Y : Nat → Hp → V → Hp → Prop} {R : It → Hp → Prop}
theorem rd_for (h : wi σ H (forB g tb D σ)) : tFor wi g tb D σ H := h
theorem rd_lc (h : wi σ H (lcB g tt te vs σ Q)) : tLc wi g tt te vs σ H Q := h
theorem fo_range {n : Nat} (Pv : Nat → L2.St → Hp → Prop) (h0 : Pv 0 σ H) (hs : ∀ (i : Nat) σ H, i < n → Pv i σ H → g (.int (i : Int)) σ H fun σ2 H2 => tb { D with nx := Pv (i + 1), ct := Pv (i + 1), bk := D.nx } σ2 H2) (hd : ∀ σ H, Pv n σ H → D.nx σ H) : forB g tb D σ (Itr 0 n) H :=
  for_range (lo := 0) Pv h0 (fun i σ H hi p => by rw [Int.zero_add]; exact hs i σ H hi p) hd
theorem fo_range2 {lo : Int} {n : Nat} (Pv : Nat → L2.St → Hp → Prop) (h0 : Pv 0 σ H) (hs : ∀ (i : Nat) σ H, i < n → Pv i σ H → g (.int (lo + (i : Int))) σ H fun σ2 H2 => tb { D with nx := Pv (i + 1), ct := Pv (i + 1), bk := D.nx } σ2 H2) (hd : ∀ σ H, Pv n σ H → D.nx σ H) : forB g tb D σ (Itr lo n) H :=
  for_range (lo := lo) Pv h0 hs hd
theorem fo_it (w : Walk J n G Y) (Pv : Nat → L2.St → Hp → Prop) (h0 : Pv 0 σ H) (hG : ∀ i σ H, i ≤ n → Pv i σ H → G H)
    (hs : ∀ i x σ H H', i < n → Pv i σ H → Y i H x H' → g x σ H' fun σ2 H2 => tb { D with nx := Pv (i + 1), ct := Pv (i + 1), bk := D.nx } σ2 H2) (hd : ∀ σ H, Pv n σ H → D.nx σ H) : forB g tb D σ J H := for_it w Pv h0 hG hs hd
/-- over a text -/
theorem fo_str {z : Str} (Pv : Nat → L2.St → Hp → Prop) (h0 : Pv 0 σ H) (hs : ∀ (i : Nat) c σ H, z.cps.toList[i]? = some c → Pv i σ H → g (.str ⟨#[c]⟩) σ H fun σ2 H2 => tb { D with nx := Pv (i + 1), ct := Pv (i + 1), bk := D.nx } σ2 H2) (hd : ∀ σ H, Pv z.length σ H → D.nx σ H) : forB g tb D σ (Its z) H :=
  fo_it walk_str Pv h0 (fun _ _ _ _ _ => True.intro) (fun i x σ H H' hi p y => by
    obtain ⟨rfl, c, e, rfl⟩ := y
    exact hs i c σ _ (by rw [Array.getElem?_toList]; exact e) p) hd
theorem fo_list {a : Addr} {xs : List V} (Pv : Nat → L2.St → Hp → Prop) (h0 : Pv 0 σ H) (hl : ∀ i σ H, i ≤ xs.length → Pv i σ H → SqL K H a xs) (hs : ∀ (i : Nat) x σ H, xs[i]? = some x → Pv i σ H → g x σ H fun σ2 H2 => tb { D with nx := Pv (i + 1), ct := Pv (i + 1), bk := D.nx } σ2 H2)
    (hd : ∀ σ H, Pv xs.length σ H → D.nx σ H) : forB g tb D σ (Itl K a) H := for_list Pv h0 hl hs hd
theorem fo_tup {a : Addr} {xs : List V} (Pv : Nat → L2.St → Hp → Prop) (h0 : Pv 0 σ H) (hl : ∀ i σ H, i ≤ xs.length → Pv i σ H → SqT K H a xs) (hs : ∀ (i : Nat) x σ H, xs[i]? = some x → Pv i σ H → g x σ H fun σ2 H2 => tb { D with nx := Pv (i + 1), ct := Pv (i + 1), bk := D.nx } σ2 H2)
    (hd : ∀ σ H, Pv xs.length σ H → D.nx σ H) : forB g tb D σ (Itt K a) H := for_tup Pv h0 hl hs hd
/-- what is walked -/
theorem rd_anyL {a : Addr} {xs : List V} {te : TE} (he : ∀ Q : VK, Q (.ref a) H → te σ H Q) (hs : SqL K H a xs) (h : R (Itl K a) H) : iAny K te σ H R := .inl (he _ ⟨a, rfl, ⟨xs, hs⟩, h⟩)
theorem rd_anyT {a : Addr} {xs : List V} {te : TE} (he : ∀ Q : VK, Q (.ref a) H → te σ H Q) (hs : SqT K H a xs) (h : R (Itt K a) H) : iAny K te σ H R := .inr (.inl (he _ ⟨a, rfl, ⟨xs, hs⟩, h⟩))
theorem rd_anyS {z : Str} {te : TE} (he : ∀ Q : VK, Q (.str z) H → te σ H Q) (h : R (Its z) H) : iAny K te σ H R := .inr (.inr (he _ ⟨z, rfl, h⟩))
/-- a comprehension whose parts leave the heap -/
theorem lc_pure {j : Nat} {xs : Nat → V} {f : Nat → Bool} {v : Nat → V} (w : Walk J n G Y) (hY : ∀ i H x H', i < n → Y i H x H' → H' = H ∧ x = xs i) (hG : ∀ Hc, Ex H Hc → G Hc) (hn : n < 100000)
    (ht : ∀ i Hc, i < n → Ex H Hc → Ans tt ((wipe σ [j]).set j (some (xs i))) Hc (f i)) (he : ∀ i Hc, i < n → Ex H Hc → f i = true → Val te ((wipe σ [j]).set j (some (xs i))) Hc (v i))
    (h : ∀ L, H L = none → Q (.ref L) (upd H L (.lst (Evl.given n f v)))) : lcB (gName j) tt te [j] σ Q J H := by
  intro L hL
  have hz : ∀ m, m ≤ n → (Evl.given m f v).length < sizeLine := fun m hm => Nat.lt_of_le_of_lt (Evl.given_len m f v) (Nat.lt_of_le_of_lt hm (Nat.lt_trans hn (by decide)))
  refine lc_it w (fun i Hc => i ≤ n ∧ Hc = upd H L (.lst (Evl.given i f v))) ⟨Nat.zero_le _, rfl⟩ (fun i Hc _ p => ?_) (fun i x Hc H' hi p y => ?_) fun Hc p => ?_
  · obtain ⟨_, rfl⟩ := p
    exact hG _ (Evl.Ex.new hL)
  · obtain ⟨hi1, rfl⟩ := p
    obtain ⟨rfl, rfl⟩ := hY _ _ _ _ hi y
    have e0 := Evl.Ex.new (o := .lst (Evl.given i f v)) hL
    refine ⟨by simp [wipe], ?_⟩
    refine ht i _ hi e0 _ ?_
    cases hf : f i with
    | true =>
      refine rd_iteT ?_
      refine he i _ hi e0 hf _ ?_
      refine ⟨_, upd_same, hz i (Nat.le_of_lt hi), hi, ?_⟩
      rw [upd_upd, Evl.given_yes hf]
    | false =>
      refine rd_iteF ⟨hi, ?_⟩
      rw [Evl.given_no hf]
  · obtain ⟨_, rfl⟩ := p
    exact h L hL
theorem rd_yes {QB : Bool → Hp → Prop} (h : QB true H) : tYes σ H QB := h
theorem ans_yes : Ans tYes σ H true := fun _ q => q
end
/-- the list that is given -/
theorem given_eq {α : Type} (l : List α) (p : α → Bool) (f : α → V) (q : Nat → Bool) (v : Nat → V) (hq : ∀ i x, l[i]? = some x → q i = p x) (hv : ∀ i x, l[i]? = some x → v i = f x) : ∀ n, n ≤ l.length → Evl.given n q v = ((l.take n).filter p).map f
  | 0, _ => rfl
  | n + 1, h => by
    have hx : l[n]? = some (l[n]'h) := List.getElem?_eq_getElem h
    have ih := given_eq l p f q v hq hv n (Nat.le_of_lt h)
    rw [List.take_succ, hx]
    cases e : p (l[n]'h) with
    | true =>
      rw [Evl.given_yes ((hq _ _ hx).trans e), ih, List.filter_append, List.map_append, hv _ _ hx]
      simp [e]
    | false =>
      rw [Evl.given_no ((hq _ _ hx).trans e), ih, List.filter_append, List.map_append]
      simp [e]

theorem rd_gsub {to ti : TE} {t : TSet} {v : V} {σ : L2.St} {H : Hp} {Q : L2.St → Hp → Prop} (h : to σ H fun o H1 => ti σ H1 fun i H2 => t o i v H2 fun H3 => Q σ H3) : gSub to ti t v σ H Q := h
theorem rd_while {tt : TT} {tb : TS} {D : Ends} {σ : L2.St} {H : Hp} (Pv : L2.St → Hp → Prop) (μ : L2.St → Hp → Nat) (h0 : Pv σ H)
    (hs : ∀ σ H, Pv σ H → tt σ H fun b H1 => if b = true then tb { D with nx := fun σ' H' => Pv σ' H' ∧ μ σ' H' < μ σ H, ct := fun σ' H' => Pv σ' H' ∧ μ σ' H' < μ σ H, bk := D.nx } σ H1 else D.nx σ H1)
    (mono : ∀ σ H Q Q', (∀ b H1, Q b H1 → Q' b H1) → tt σ H Q → tt σ H Q') : tWhile tt tb D σ H := while_by Pv μ h0 hs mono

/-! ### the same, the written part named -/
section
variable {X : Cx} (K : PySem.W.Frag) (hK : X.K = K := by rfl)
include hK
theorem kAdd : OpR X (binaryOp .Add) (oAdd K) := hK ▸ op_addP
theorem kEq (hu : X.A.units + 64 < cLine) : OpR X (compareOp .Eq) (oEq K) := hK ▸ op_eqP hu
theorem kNe (hu : X.A.units + 64 < cLine) : OpR X (compareOp .NotEq) (oNe K) := hK ▸ op_neP hu
theorem kIn : OpR X (compareOp .In) (oIn K) := hK ▸ op_inP
theorem kNotIn : OpR X (compareOp .NotIn) (oNotIn K) := hK ▸ op_notInP
theorem kLen : CallR X (.builtin "len") (cLen K) := hK ▸ call_lenP
theorem kSl : SlR X (oSl K) := hK ▸ sl_P
theorem kIx : IxR X (rIx K) := hK ▸ ix_seq
theorem kAny {tg e : Expr} {te : TE} (he : PE X e te) : PI X tg e (iAny K te) := hK ▸ pi_any he
theorem kAll (hc : X.calm = true := by rfl) : CallR X (.builtin "all") (rAll K) := hK ▸ cr_all hc
theorem kAnyOf (hc : X.calm = true := by rfl) : CallR X (.builtin "any") (rAny K) := hK ▸ cr_any hc
theorem kSum (hc : X.calm = true := by rfl) : CallR X (.builtin "sum") (rSum K) := hK ▸ cr_sum hc
end
section
variable {X : Cx} {x : Str} {pos : Pos}
theorem pe_globS {s : Str} {t : Tok} (hg : Gl X x) (hm : X.mg x = some (.str s t)) (hd : (x == ("__debug__" : Str)) = false := by decide) : PE X (.Name x pos) (tC (.str s)) := pe_glob hg hm ⟨t, rfl⟩ hd
theorem pe_globI {i : Int} {t : Tok} (hg : Gl X x) (hm : X.mg x = some (.int i t)) (hd : (x == ("__debug__" : Str)) = false := by decide) : PE X (.Name x pos) (tC (.int i)) := pe_glob hg hm ⟨t, rfl⟩ hd
theorem pe_globR {a : Addr} (hg : Gl X x) (hm : X.mg x = some (.ref a)) (hd : (x == ("__debug__" : Str)) = false := by decide) : PE X (.Name x pos) (tC (.ref a)) := pe_glob (v := .ref a) hg hm rfl hd
end

theorem rd_iteNF {A B : Prop} (h : A) : if (!false) = true then A else B := iteT h
theorem rd_iteNT {A B : Prop} (h : B) : if (!true) = true then A else B := iteF h

section
variable {X : Cx} {x : Str} {pos : Pos}
theorem pe_blT {n : String} (hg : Gl X x) (hm : X.mg x = none) (hv : bootBuiltins x = some (.type n)) (hn : x ≠ "__name__" := by decide) (hd : (x == ("__debug__" : Str)) = false := by decide) : PE X (.Name x pos) (tC (.ty n)) := pe_bltn (v := .ty n) hg hm hv rfl hn hd
end
/-! ### lists of flat values compared -/
def okS (z : Str) : Prop := PyData.strOk z = true
theorem okS_iff {z : Str} : okS z ↔ ∀ c ∈ z.cps.toList, c < 0x110000 := by
  unfold okS PyData.strOk
  rw [← Array.all_toList, List.all_eq_true]
  exact ⟨fun h c hc => by simpa using h c hc, fun h c hc => by simpa using h c hc⟩
theorem okS_app {x y : Str} (hx : okS x) (hy : okS y) : okS (x ++ y) := okS_iff.mpr fun c hc => by
  have e : (x ++ y).cps.toList = x.cps.toList ++ y.cps.toList := TL.tl_append x y
  rw [e] at hc
  exact (List.mem_append.mp hc).elim (okS_iff.mp hx c) (okS_iff.mp hy c)
theorem okS_one {z : Str} {c : Nat} (hz : okS z) (hc : c ∈ z.cps.toList) : okS ⟨#[c]⟩ := okS_iff.mpr fun d hd => by
  have e : d = c := by simpa using hd
  rw [e]
  exact okS_iff.mp hz c hc
theorem okS_sub {x y : Str} (hy : okS y) (h : ∀ c ∈ x.cps.toList, c ∈ y.cps.toList) : okS x := okS_iff.mpr fun c hc => okS_iff.mp hy c (h c hc)
def dOf : V → PyData
  | .bl b => .bool b
  | .int i => .int i
  | .str x => .str x
  | _ => .none
def flat1 : V → Bool
  | .non => true
  | .bl _ => true
  | .int _ => true
  | .str x => PyData.strOk x
  | _ => false
theorem dp_flat {K : PySem.W.Frag} {H : Hp} {v : V} (h : flat1 v = true) : Dp K H v (dOf v) := by
  cases v with
  | non => exact .non
  | bl b => exact .bl b
  | int i => exact .int i
  | str x => exact .str x
  | byt _ => exact absurd h Bool.false_ne_true
  | flt _ => exact absurd h Bool.false_ne_true
  | ref _ => exact absurd h Bool.false_ne_true
  | ty _ => exact absurd h Bool.false_ne_true
theorem lay_flat {v : V} (h : flat1 v = true) : (dOf v).canLay0 = true ∧ (dOf v).depth = 0 := by
  cases v with
  | str x => exact ⟨h, rfl⟩
  | _ => exact ⟨rfl, rfl⟩
theorem dpAll_flat {K : PySem.W.Frag} {H : Hp} : ∀ {xs : List V}, xs.all flat1 = true → DpAll K H xs (xs.map dOf)
  | [], _ => .nil
  | v :: xs, h => by
    rw [List.all_cons, Bool.and_eq_true] at h
    exact .cons (dp_flat h.1) (dpAll_flat h.2)
theorem lay_all : ∀ {xs : List V}, xs.all flat1 = true → PyData.canLayAll0 (xs.map dOf) = true ∧ PyData.depthAll (xs.map dOf) = 0
  | [], _ => ⟨rfl, rfl⟩
  | v :: xs, h => by
    rw [List.all_cons, Bool.and_eq_true] at h
    obtain ⟨h1, h2⟩ := lay_flat h.1
    obtain ⟨h3, h4⟩ := lay_all h.2
    refine ⟨?_, ?_⟩
    · show ((dOf v).canLay0 && PyData.canLayAll0 (xs.map dOf)) = true
      rw [h1, h3]
      rfl
    · show max (dOf v).depth (PyData.depthAll (xs.map dOf)) = 0
      rw [h2, h4]
      rfl
theorem shaped_list {xs : List V} (h : xs.all flat1 = true) : SeqAt.shaped (.list (xs.map dOf)) = true := by
  obtain ⟨h1, h2⟩ := lay_all h
  refine Bool.and_eq_true_iff.mpr ⟨h1, decide_eq_true ?_⟩
  show PyData.depthAll (xs.map dOf) + 1 ≤ 64
  rw [h2]
  decide
theorem refl_list {xs : List V} (h : xs.all flat1 = true) : PyData.eqv (.list (xs.map dOf)) (.list (xs.map dOf)) = true := SeqAt.eqv_refl _ (lay_all h).1
section
variable {K : PySem.W.Frag} {p q : Addr} {xs : List V} {H : Hp} {Q : VK}
theorem rd_neL (hp : SqL K H p xs) (hq : SqL K H q xs) (hf : xs.all flat1 = true) (h : Q (.bl false) H) : oNe K (.ref p) (.ref q) H Q :=
  .inr ⟨_, _, .lst hp (dpAll_flat hf), .lst hq (dpAll_flat hf), shaped_list hf, shaped_list hf, by rw [refl_list hf]; exact h⟩
theorem rd_eqL (hp : SqL K H p xs) (hq : SqL K H q xs) (hf : xs.all flat1 = true) (h : Q (.bl true) H) : oEq K (.ref p) (.ref q) H Q :=
  .inr ⟨_, _, .lst hp (dpAll_flat hf), .lst hq (dpAll_flat hf), shaped_list hf, shaped_list hf, by rw [refl_list hf]; exact h⟩
theorem rd_eqNil (hp : SqL K H p xs) (hq : SqL K H q []) (hf : xs.all flat1 = true) (h : Q (.bl xs.isEmpty) H) : oEq K (.ref p) (.ref q) H Q :=
  .inr ⟨_, .list [], .lst hp (dpAll_flat hf), .lst hq .nil, shaped_list hf, rfl, by
    cases xs with
    | nil => exact h
    | cons a r => exact h⟩
end
theorem rd_reprB {b : Bool} {H : Hp} {Q : VK} (h : Q (.str (if b then "True" else "False")) H) : cRepr [.bl b] H Q := .inr ⟨b, rfl, h⟩

section
variable {σ : L2.St} {H : Hp} {Q : VK} {D : Ends} {t u : TS} {te ta tb : TE} {g : TG} {a b : Bool}
theorem rd_seqA (h : tAsg te g { D with nx := u D } σ H) : tSeq (tAsg te g) u D σ H := h
theorem rd_seqD (h : tDrop te { D with nx := u D } σ H) : tSeq (tDrop te) u D σ H := h
/-- a statement, then the rest: R is what holds between -/
theorem rd_cut (R : L2.St → Hp → Prop) (h1 : ∀ N : L2.St → Hp → Prop, (∀ σ H, R σ H → N σ H) → t { D with nx := N } σ H) (h2 : ∀ σ H, R σ H → u D σ H) : tSeq t u D σ H := h1 (u D) h2
theorem val_andV (h1 : Val ta σ H (.bl a)) (h2 : a = true → Val tb σ H (.bl b)) : Val (tAndV ta tb) σ H (.bl (a && b)) := fun Q q => h1 _ ⟨a, rfl, by
  cases a with
  | true => exact iteT (h2 rfl _ q)
  | false => exact iteF q⟩
theorem val_orV (h1 : Val ta σ H (.bl a)) (h2 : a = false → Val tb σ H (.bl b)) : Val (tOrV ta tb) σ H (.bl (a || b)) := fun Q q => h1 _ ⟨a, rfl, by
  cases a with
  | true => exact iteT q
  | false => exact iteF (h2 rfl _ q)⟩
theorem val_is {v w : V} (h : Val te σ H v) (e : v = w) : Val te σ H w := e ▸ h
theorem rd_val {v : V} (h : Val te σ H v) (q : Q v H) : te σ H Q := h Q q
end

theorem rd_idS {t u : TS} {D : Ends} {σ : L2.St} {H : Hp} (h : tSeq t u D σ H) : tSeq t u D σ H := h
theorem rd_idI {c : TT} {t u : TS} {D : Ends} {σ : L2.St} {H : Hp} (h : tIfS c t u D σ H) : tIfS c t u D σ H := h
end AT

set_option Elab.async false
set_option linter.all false
set_option maxRecDepth 100000
set_option maxHeartbeats 4000000
/-! own words, second part: objects that are made and asked where something may be raised; data; tuples -/
namespace AT
open PySem PySem.Spec L2
section
variable {X : Cx} {Cx1 : CXT} {n : Nat} {fa Ca : Addr} {fn : FuncData} {pr : List Str} {pm : Sp} {W : WX} {nm mt : Str} {q1 q2 q3 : Pos} {o a0 : Expr} {as : List Expr} {to : TE} {ta : TA}
/-- C(..) whose __init__ may raise -/
def tMakeR (C : Addr) (sp : Sp) (W : WX) (t : TA) : TE := fun σ H Q => t σ H fun vs H1 => ∀ x dx, H1 x = none → H1 dx = none → dx ≠ x → sp (.ref x :: vs) (upd (upd H1 dx (.own x)) x (.ins C dx [])) (fun v H2 => v = .non ∧ Q (.ref x) H2) fun c d H2 => W c d σ H2
theorem pe_makeR (M : Mk X.K Ca fa) (G : FnOk X.prog X.w X.K X.mg X.base (L2.CX X.prog X.w) n fa fn pr pm) (hr : Room (n + 1) X.A) (hm : X.mg nm = some (.ref Ca)) (hb : Binds X.K fn pr []) (tk : Takes X W) (ha : PA X (a0 :: as) ta) (hg : Gl X nm := by rfl)
    (hdb : (nm == ("__debug__" : Str)) = false := by decide) (he : starEach (a0 :: as) X.env = (false, eval a0 X.env) :: starEach as X.env := by rfl) (hpl : (backTo q2 (starEach as X.env)).any (·.1) = false := by rfl) :
    PE X (.Call (.Name nm q1) (a0 :: as) [] q2) (tMakeR Ca pm W ta) := by
  refine ⟨fun P s σ H Q I h => wpAny_Call_Name_kw (ld_glob I hg hm ?_ hdb)⟩
  refine PySem.W.callWith_K (h₀ := X.base) I.ok.mod.kin M.kp (thn (ha.run q2 P s σ H _ I h) fun us t ⟨vs, H1, J, rv, q⟩ => ⟨J.kIn, ?_⟩) he hpl
  have fresh1 := J.hok.fresh (Nat.le_succ t.heap.objs.size)
  have fresh0 := J.hok.fresh (Nat.le_refl t.heap.objs.size)
  have asked := q _ _ fresh1 fresh0 (Nat.ne_of_lt (Nat.lt_succ_self _))
  have J2 := Inv.made (C := Ca) J
  have rel : Vals (V.ref (t.heap.objs.size + 1) :: vs) (Value.ref (t.heap.objs.size + 1) :: us) := .cons rfl rv
  have len : (Value.ref (t.heap.objs.size + 1) :: us ++ []).length = pr.length := by
    rw [List.append_nil, ← rel.length]
    exact G.len _ _ _ _ asked
  have bind := hb _ (Value.ref (t.heap.objs.size + 1) :: us) J2.kIn len
  rw [List.append_nil] at bind
  have ran := G.run _ X.stack _ _ ⟨Value.ref (t.heap.objs.size + 1) :: us, []⟩ _ _ _ (fun c d H2 => W c d σ H2) (hr.make Ca us []) (J2.env0.make Ca us []) bind rel asked
  refine wpAny_call (make_map (f := fa) J.kIn M.makes M.init (beq_iff_eq.mp M.fn) (codeAny_mono ran fun res z hz => ?_))
  cases res with
  | error er => exact passAt tk σ _ _ _ _ _ J2 hz
  | ok fl =>
    cases fl with
    | ret u =>
      have back := J2.after hz
      obtain ⟨v, H3, J3, r3, e3, q3⟩ := back
      subst e3
      exact ⟨r3, .ref (t.heap.objs.size + 1), H3, J3, rfl, q3⟩
    | next => exact hz.elim
    | brk => exact hz.elim
    | cont => exact hz.elim
/-- o.m(..) whose m may raise -/
def tMethR (C : Addr) (m : Str) (sp : Sp) (W : WX) (to : TE) (t : TA) : TE := fun σ H Q => to σ H fun x H1 => ∃ a dx fs, x = .ref a ∧ H1 a = some (.ins C dx fs) ∧ fs.lookup m = none ∧ t σ H1 fun vs H2 => sp (x :: vs) H2 Q fun c d H3 => W c d σ H3
theorem pe_methRs {pl : Sem Bool} (hmt : Meth X.K Ca mt fa) (cl : Cls X.K Ca) (ho : PE X o to) (G : FnOk X.prog X.w X.K X.mg X.base (L2.CX X.prog X.w) n fa fn pr pm) (hr : Room n X.A) (hb : Binds X.K fn pr []) (tk : Takes X W) (ha : PA X (a0 :: as) ta)
    (hst : starEach (a0 :: as) X.env = (false, eval a0 X.env) :: starEach as X.env := by rfl) (hpl : (backTo q2 (starEach as X.env)).any (·.1) = false := by rfl)
    (ht : eval (.Call (.Attribute o mt q3) (a0 :: as) [] q2) X.env = (do
      let r ← eval o X.env
      standAt q3.atName
      let (g, more) ← holding [r] (getMethod r mt pl)
      callWith q2 g more (backTo q2 (starEach (a0 :: as) X.env)) (backToKw q2 (keywordEach [] X.env))) := by rfl) : PE X (.Call (.Attribute o mt q3) (a0 :: as) [] q2) (tMethR Ca mt pm W to ta) := by
  refine ⟨fun P s σ H Q I h => PySem.W.methodCall_KW (pl := pl) (thn (ho.run P s σ H _ I h) fun u t ⟨x, H1, J, rx, a, dx, fs, ex, ea, nl, q⟩ => ?_) ht⟩
  subst ex
  obtain rfl : u = Value.ref a := rx
  refine getmeth_ok J ea cl hmt nl (PySem.W.callWith_K (first := [.ref a]) (h₀ := X.base) J.ok.mod.kin hmt.kp (thn (ha.run q2 P t σ H1 _ J q) fun us t2 ⟨vs, H2, J2, rv, z⟩ => ⟨J2.kIn, ?_⟩) hst hpl)
  exact run_fnS (us := .ref a :: us) (vs := .ref a :: vs) (E := WE W) G hr hb (passAt tk σ) J2 (.cons rfl rv) z
theorem pe_methR0 {pl : Sem Bool} (hmt : Meth X.K Ca mt fa) (cl : Cls X.K Ca) (ho : PE X o to) (G : FnOk X.prog X.w X.K X.mg X.base (L2.CX X.prog X.w) n fa fn pr pm) (hr : Room n X.A) (hb : Binds X.K fn pr []) (tk : Takes X W)
    (ht : eval (.Call (.Attribute o mt q3) [] [] q2) X.env = (do
      let r ← eval o X.env
      standAt q3.atName
      let (g, more) ← holding [r] (getMethod r mt pl)
      callWith q2 g more (backTo q2 (starEach [] X.env)) (backToKw q2 (keywordEach [] X.env))) := by rfl) : PE X (.Call (.Attribute o mt q3) [] [] q2) (tMethR Ca mt pm W to tNil) := by
  refine ⟨fun P s σ H Q I h => PySem.W.methodCall_KW (pl := pl) (thn (ho.run P s σ H _ I h) fun u t ⟨x, H1, J, rx, a, dx, fs, ex, ea, nl, q⟩ => ?_) ht⟩
  subst ex
  obtain rfl : u = Value.ref a := rx
  refine getmeth_ok J ea cl hmt nl ?_
  exact PySem.W.callWith_K0 (first := [.ref a]) J.kIn hmt.kp (run_fnS (us := [.ref a]) (vs := [.ref a]) (E := WE W) G hr hb (passAt tk σ) J (.cons rfl .nil) q)
end

/-! ### the place of a sign in a text -/
section
open PySem.Builtin.Str PySem.StrLaws
theorem first_sign (x : Str) (c : Nat) (h : c ∈ x.cps.toList) : ∃ rest, occurrences x ⟨#[c]⟩ 0 x.length 1 = x.cps.toList.idxOf c :: rest := by
  have key := occ_first x ⟨#[c]⟩ x.length 1 (Nat.le_refl 1) (List.range' 0 (x.length + 1 - 0)) 0 fun _ _ => Nat.zero_le _
  rw [occ_eq]
  have sub := fun k => subAt_one x c k
  rcases key with ⟨_, hn⟩ | ⟨pre, i, post, e, h0, hi, hn⟩
  · obtain ⟨j, hj⟩ := List.getElem?_of_mem h
    have hlt : j < x.length := (List.getElem?_eq_some_iff.mp hj).1
    exact absurd ((sub j).mpr hj) (hn j (List.mem_range'.mpr ⟨j, by omega, by omega⟩))
  · have hx := (sub i).mp hi
    have before : ∀ k, k < i → x.cps.toList[k]? ≠ some c := fun k hk q => hn k (range'_split e k hk) ((sub k).mpr q)
    obtain ⟨hl, hv⟩ := List.getElem?_eq_some_iff.mp hx
    have e2 : x.cps.toList.idxOf c = i := by
      have hlt : x.cps.toList.idxOf c < x.cps.toList.length := List.idxOf_lt_length_iff.mpr h
      have hget : x.cps.toList[x.cps.toList.idxOf c] = c := List.getElem_idxOf hlt
      rcases Nat.lt_trichotomy (x.cps.toList.idxOf c) i with z | z | z
      · exact absurd (List.getElem?_eq_some_iff.mpr ⟨hlt, hget⟩) (before _ z)
      · exact z
      · exact absurd hv (by
          have := List.not_of_lt_findIdx (p := (· == c)) (xs := x.cps.toList) z
          simpa using this)
    rw [e2]
    generalize hg : (forIn (List.range' 0 (x.length + 1 - 0)) ((#[] : Array Nat), 0) (occBody x ⟨#[c]⟩ x.length 1)).run.fst = arr at h0
    cases hl : arr.toList with
    | nil =>
      rw [← Array.getElem?_toList, hl] at h0
      cases h0
    | cons a r =>
      rw [← Array.getElem?_toList, hl] at h0
      exact ⟨r, by rw [Option.some.inj (show some a = some i from h0)]⟩
end
def mIdx : V → List V → Hp → VK → Prop := fun x xs H Q => ∃ (a : Str) (c : Nat), x = .str a ∧ xs = [.str ⟨#[c]⟩] ∧ c ∈ a.cps.toList ∧ Q (.int (a.cps.toList.idxOf c : Nat)) H
section
variable {X : Cx}
theorem mt_strIdx : MtR X "str.index" mIdx := by
  intro P s σ H x xs v us Q I rx rs h
  obtain ⟨a, c, ex, es, hc, q⟩ := h
  obtain ⟨rest, e⟩ := first_sign a c hc
  exact mt_sindex P s σ H x xs v us Q I rx rs ⟨a, _, _, rest, ex, es, e, q⟩
/-! ### the least and the greatest of a tuple of ints -/
theorem reads_ints {hp : Heap} : ∀ {ns : List Int} {us : List Value}, Vals (ns.map V.int) us → ReadsAll hp us (ns.map PyData.int) []
  | [], _, r => by cases r; exact .nil
  | n :: ns, _, r => by
    cases r with
    | cons r1 r2 =>
      obtain ⟨t, rfl⟩ := r1
      exact ReadsAll.cons (as := []) (bs := []) (.int n t) (reads_ints r2)
theorem alike_ints (ns : List Int) : PySem.W.AlikeAll (ns.map PyData.int) := ⟨fun x hx y hy => by
  obtain ⟨a, _, rfl⟩ := List.mem_map.mp hx
  obtain ⟨b, _, rfl⟩ := List.mem_map.mp hy
  rfl, fun x hx => by
  obtain ⟨a, _, rfl⟩ := List.mem_map.mp hx
  exact fun z => by cases z⟩
theorem depth_ints : ∀ ns : List Int, PyData.depthAll (ns.map PyData.int) = 0
  | [] => rfl
  | n :: ns => by
    show max 0 (PyData.depthAll (ns.map PyData.int)) = 0
    rw [depth_ints ns]
    rfl
/-- min(t), max(t): t a tuple of ints, not empty -/
def cMinT (K : PySem.W.Frag) : List V → Hp → VK → Prop := fun vs H Q => ∃ (a : Addr) (n : Int) (ns : List Int), vs = [.ref a] ∧ SqT K H a ((n :: ns).map V.int) ∧ Q (.int (ns.foldl min n)) H
def cMaxT (K : PySem.W.Frag) : List V → Hp → VK → Prop := fun vs H Q => ∃ (a : Addr) (n : Int) (ns : List Int), vs = [.ref a] ∧ SqT K H a ((n :: ns).map V.int) ∧ Q (.int (ns.foldl max n)) H
theorem call_minT (hc : X.calm = true) (hu : X.A.units + 64 < cLine) : CallR X (.builtin "min") (cMinT X.K) := by
  intro P s σ H vs us Q I r h
  obtain ⟨a, n, ns, rfl, ht, q⟩ := h
  obtain ⟨u, rfl, ru⟩ := vals1 r
  cases (show u = Value.ref a from ru)
  obtain ⟨its, rv, pl, _⟩ := I.tuple ht
  refine PySem.W.min_tuple_data (x := .int n) (xs := ns.map .int) (I.ok.hd hc) pl (reads_ints (ns := n :: ns) rv) (alike_ints (n :: ns)) (by
    have e := depth_ints (n :: ns)
    rw [List.map_cons] at e
    rw [e]
    omega) fun i v h' tk bs hv hr hk => ?_
  rw [PySem.W.minD_ints] at hr
  cases hr with
  | int _ t => exact ⟨.int _, H, I.kept hk, ⟨t, rfl⟩, q⟩
theorem call_maxT (hc : X.calm = true) (hu : X.A.units + 64 < cLine) : CallR X (.builtin "max") (cMaxT X.K) := by
  intro P s σ H vs us Q I r h
  obtain ⟨a, n, ns, rfl, ht, q⟩ := h
  obtain ⟨u, rfl, ru⟩ := vals1 r
  cases (show u = Value.ref a from ru)
  obtain ⟨its, rv, pl, _⟩ := I.tuple ht
  refine PySem.W.max_tuple_data (x := .int n) (xs := ns.map .int) (I.ok.hd hc) pl (reads_ints (ns := n :: ns) rv) (alike_ints (n :: ns)) (by
    have e := depth_ints (n :: ns)
    rw [List.map_cons] at e
    rw [e]
    omega) fun i v h' tk bs hv hr hk => ?_
  rw [PySem.W.maxD_ints] at hr
  cases hr with
  | int _ t => exact ⟨.int _, H, I.kept hk, ⟨t, rfl⟩, q⟩
end

section
variable {X : Cx} (K : PySem.W.Frag) (hK : X.K = K := by rfl)
include hK
theorem kMin (hu : X.A.units + 64 < cLine) (hc : X.calm = true := by rfl) : CallR X (.builtin "min") (cMinT K) := hK ▸ call_minT hc hu
theorem kMax (hu : X.A.units + 64 < cLine) (hc : X.calm = true := by rfl) : CallR X (.builtin "max") (cMaxT K) := hK ▸ call_maxT hc hu
theorem kFld {o : Expr} {f : Str} {p : Pos} {te : TE} (h : PE X (.Attribute o f p) (tFld X.K te f)) : PE X (.Attribute o f p) (tFld K te f) := hK ▸ h
theorem kBm {e : Expr} {T : String} {r : V → List V → Hp → VK → Prop} {to : TE} {t : TA} (h : PE X e (tBM X.K T r to t)) : PE X e (tBM K T r to t) := hK ▸ h
theorem kBm0 {e : Expr} {T : String} {r : V → List V → Hp → VK → Prop} {to : TE} (h : PE X e (tBM0 X.K T r to)) : PE X e (tBM0 K T r to) := hK ▸ h
def cTupOf (K : PySem.W.Frag) : List V → Hp → VK → Prop := fun xs H Q => ∃ p ys, xs = [.ref p] ∧ ((SqL K H p ys ∧ ∀ l, H l = none → Q (.ref l) (upd H l (.tup ys))) ∨ (SqT K H p ys ∧ Q (.ref p) H))
def cLstOf (K : PySem.W.Frag) : List V → Hp → VK → Prop := fun xs H Q => ∃ p ys, xs = [.ref p] ∧ (SqL K H p ys ∨ SqT K H p ys) ∧ ∀ l, H l = none → Q (.ref l) (upd H l (.lst ys))
def mJoin (K : PySem.W.Frag) : V → List V → Hp → VK → Prop := fun x xs H Q => ∃ a p, ∃ ys : List Str, x = .str a ∧ xs = [.ref p] ∧ (SqL K H p (ys.map V.str) ∨ SqT K H p (ys.map V.str)) ∧ (ys.map (·.length)).sum + ys.length * a.length ≤ 16777216 ∧ Q (.str (Txt.join a ys)) H
theorem kTupOf : CallR X (.type "tuple") (cTupOf K) := hK ▸ call_tuple_of
theorem kLstOf : CallR X (.type "list") (cLstOf K) := hK ▸ call_list_of
theorem kJoin : MtR X "str.join" (mJoin K) := hK ▸ mt_join
end
/-! ### a text, several times -/
def oMulP : R2 := fun x y H Q => oMul x y H Q ∨ ∃ (z : Str) (n : Int), x = .str z ∧ y = .int n ∧ MulOk z n ∧ Q (.str (Txt.mul z n)) H
theorem op_mulS {X : Cx} : OpR X (binaryOp .Mult) (fun x y H Q => ∃ (z : Str) (n : Int), x = .str z ∧ y = .int n ∧ MulOk z n ∧ Q (.str (Txt.mul z n)) H) := by
  intro P s σ H x y v u Q I rx ry h
  obtain ⟨z, n, rfl, rfl, ok, q⟩ := h
  obtain ⟨t, rfl⟩ := rx
  obtain ⟨t2, rfl⟩ := ry
  exact PySem.SB.mul ok fun t' k => ⟨.str _, H, I.tok _, ⟨t', rfl⟩, q⟩
theorem op_mulPP {X : Cx} : OpR X (binaryOp .Mult) oMulP := OpR.or op_mulP op_mulS
section
variable {K : PySem.W.Frag} {σ : L2.St} {H : Hp} {Q : VK} {D : Ends} {te tv : TE} {f : Str} {a C dx : Addr} {fs : List (Str × V)} {v : V} {t : TA} {sp : Sp} {W : WX}
theorem rd_fld (h : te σ H fun x H1 => ∃ a C dx fs v, x = .ref a ∧ H1 a = some (.ins C dx fs) ∧ Cls K C ∧ NoAttr K C f ∧ fs.lookup f = some v ∧ Q v H1) : tFld K te f σ H Q := h
theorem rd_fldv {P : Addr → Prop} : True := True.intro
theorem rd_mulN {x y : Int} (c : CMul x y) (h : Q (.int (x * y)) H) : oMulP (.int x) (.int y) H Q := .inl ⟨x, y, rfl, rfl, c, h⟩
theorem rd_mulT {z : Str} {n : Int} (c : MulOk z n) (h : Q (.str (Txt.mul z n)) H) : oMulP (.str z) (.int n) H Q := .inr ⟨z, n, rfl, rfl, c, h⟩
theorem rd_tupL {p : Addr} {ys : List V} (e : SqL K H p ys) (h : ∀ l, H l = none → Q (.ref l) (upd H l (.tup ys))) : cTupOf K [.ref p] H Q := ⟨p, ys, rfl, .inl ⟨e, h⟩⟩
theorem rd_tupT {p : Addr} {ys : List V} (e : SqT K H p ys) (h : Q (.ref p) H) : cTupOf K [.ref p] H Q := ⟨p, ys, rfl, .inr ⟨e, h⟩⟩
theorem rd_lstL {p : Addr} {ys : List V} (e : SqL K H p ys ∨ SqT K H p ys) (h : ∀ l, H l = none → Q (.ref l) (upd H l (.lst ys))) : cLstOf K [.ref p] H Q := ⟨p, ys, rfl, e, h⟩
theorem rd_idx {z : Str} {c : Nat} (hc : c ∈ z.cps.toList) (h : Q (.int (z.cps.toList.idxOf c : Nat)) H) : mIdx (.str z) [.str ⟨#[c]⟩] H Q := ⟨z, c, rfl, rfl, hc, h⟩
end

/-! ### comprehensions whose parts change the heap: P of the new list's place, the turn, what is in it, the heap -/
theorem lc_gen {J : It} {n j : Nat} {G : Hp → Prop} {Y : Nat → Hp → V → Hp → Prop} {xs : Nat → V} {σ : L2.St} {H : Hp} {Q : VK} {te : TE} (P : Addr → Nat → List V → Hp → Prop) (w : Walk J n G Y) (hY : ∀ i H x H', i < n → Y i H x H' → H' = H ∧ x = xs i) (hn : n < 100000)
    (h0 : ∀ L, H L = none → P L 0 [] (upd H L (.lst []))) (hG : ∀ L i vs Hc, H L = none → P L i vs Hc → G Hc)
    (he : ∀ L i vs Hc, i < n → H L = none → Hc L = some (.lst vs) → vs.length = i → P L i vs Hc → ∀ N : VK, (∀ v H2, H2 L = some (.lst vs) → P L (i + 1) (vs ++ [v]) (upd H2 L (.lst (vs ++ [v]))) → N v H2) → te ((wipe σ [j]).set j (some (xs i))) Hc N)
    (h : ∀ L vs Hc, H L = none → Hc L = some (.lst vs) → vs.length = n → P L n vs Hc → Q (.ref L) Hc) : lcB (gName j) tYes te [j] σ Q J H := by
  intro L hL
  refine lc_it w (fun i Hc => ∃ vs, Hc L = some (.lst vs) ∧ vs.length = i ∧ P L i vs Hc) ⟨[], upd_same, rfl, h0 L hL⟩ (fun i Hc _ p => ?_) (fun i x Hc H' hi p y => ?_) fun Hc p => ?_
  · obtain ⟨vs, _, _, p⟩ := p
    exact hG L i vs Hc hL p
  · obtain ⟨vs, h1, h2, p⟩ := p
    obtain ⟨rfl, rfl⟩ := hY _ _ _ _ hi y
    refine ⟨by simp [wipe], rd_yes ?_⟩
    refine rd_iteT ?_
    refine he L i vs _ hi hL h1 h2 p _ fun v H2 z1 z2 => ?_
    exact ⟨vs, z1, Nat.lt_of_lt_of_le (by rw [h2]; omega : vs.length < 100000) (by decide), vs ++ [v], upd_same, by rw [List.length_append, h2]; rfl, z2⟩
  · obtain ⟨vs, h1, h2, p⟩ := p
    exact h L vs Hc hL h1 h2 p
/-- the heap but for one place -/
def hide (L : Addr) (H : Hp) : Hp := fun b => if b = L then none else H b
theorem hide_ne {L b : Addr} {H : Hp} (h : b ≠ L) : hide L H b = H b := if_neg h
theorem hide_ex {L : Addr} {H : Hp} : Ex (hide L H) H := fun b o e => by
  by_cases h : b = L
  · rw [h] at e
    have z : hide L H L = none := if_pos rfl
    rw [z] at e
    cases e
  · rw [hide_ne h] at e
    exact e
theorem hide_mono {L : Addr} {H H' : Hp} (k : ∀ b o, b ≠ L → H b = some o → H' b = some o) : Ex (hide L H) (hide L H') := fun b o e => by
  by_cases h : b = L
  · rw [h] at e
    have z : hide L H L = none := if_pos rfl
    rw [z] at e
    cases e
  · rw [hide_ne h] at e ⊢
    exact k b o h e
theorem ex_hide {L : Addr} {H H' : Hp} (hL : H L = none) (e : Ex H H') : Ex H (hide L H') := fun b o q => by
  rw [hide_ne (ne_of_none q hL)]
  exact e b o q
/-- each value is new or stood before: R of the turn, the value and the heap without the new list -/
theorem lc_new {J : It} {n j : Nat} {G : Hp → Prop} {Y : Nat → Hp → V → Hp → Prop} {xs : Nat → V} {σ : L2.St} {H : Hp} {Q : VK} {te : TE} (R : Nat → V → Hp → Prop) (w : Walk J n G Y) (hY : ∀ i H x H', i < n → Y i H x H' → H' = H ∧ x = xs i) (hn : n < 100000)
    (hG : ∀ Hc, Ex H Hc → G Hc) (mR : ∀ i v H1 H2, Ex H1 H2 → R i v H1 → R i v H2)
    (he : ∀ L i Hc, i < n → H L = none → (∃ vs, Hc L = some (.lst vs)) → Ex H Hc → ∀ N : VK, (∀ v H2, Ex Hc H2 → R i v (hide L H2) → N v H2) → te ((wipe σ [j]).set j (some (xs i))) Hc N)
    (h : ∀ L vs Hc, H L = none → Ex H Hc → Hc L = some (.lst vs) → vs.length = n → (∀ i v, vs[i]? = some v → R i v (hide L Hc)) → Q (.ref L) Hc) : lcB (gName j) tYes te [j] σ Q J H := by
  refine lc_gen (fun L i vs Hc => Ex H Hc ∧ ∀ i v, vs[i]? = some v → R i v (hide L Hc)) w hY hn (fun L hL => ⟨Evl.Ex.new hL, fun i v z => by cases z⟩) (fun L i vs Hc _ p => hG Hc p.1) (fun L i vs Hc hi hL h1 h2 p N hN => ?_) (fun L vs Hc hL h1 h2 p => h L vs Hc hL p.1 h1 h2 p.2)
  refine he L i Hc hi hL ⟨vs, h1⟩ p.1 N fun v H2 e2 r2 => hN v H2 (e2 L _ h1) ?_
  have kp : Ex (hide L H2) (hide L (upd H2 L (.lst (vs ++ [v])))) := hide_mono fun b o hb q => by rw [upd_ne hb]; exact q
  have kp0 : Ex (hide L Hc) (hide L H2) := hide_mono fun b o _ q => e2 b o q
  refine ⟨Evl.Ex.mut (p.1.trans e2) hL, fun i' v' hv => ?_⟩
  by_cases hlt : i' < vs.length
  · rw [List.getElem?_append_left hlt] at hv
    exact mR _ _ _ _ (kp0.trans kp) (p.2 i' v' hv)
  · rw [List.getElem?_append_right (by omega)] at hv
    have e0 : i' - vs.length = 0 := by
      rcases Nat.eq_zero_or_pos (i' - vs.length) with z | z
      · exact z
      · rw [List.getElem?_eq_none (by simp; omega)] at hv
        cases hv
    rw [e0] at hv
    obtain rfl : v = v' := Option.some.inj hv
    have e3 : i' = i := by omega
    rw [e3]
    exact mR _ _ _ _ kp r2

theorem rd_sfld {K : PySem.W.Frag} {ta tv : TE} {f : Str} {D : Ends} {σ : L2.St} {H : Hp} (h : tv σ H fun y H1 => ta σ H1 fun x H2 => ∃ a C dx fs, x = .ref a ∧ H2 a = some (.ins C dx fs) ∧ Cls K C ∧ NoAttr K C f ∧ fs.length < 1000 ∧ D.nx σ (upd H2 a (.ins C dx (putF f y fs)))) : sFld K ta tv f D σ H := h
theorem kSf {X : Cx} (K : PySem.W.Frag) (hK : X.K = K := by rfl) {st : Stmt} {ta tv : TE} {f : Str} (h : PS X st (sFld X.K ta tv f)) : PS X st (sFld K ta tv f) := hK ▸ h

section
variable {K : PySem.W.Frag} {σ : L2.St} {H : Hp} {Q : VK} {te to : TE} {t : TA} {C : Addr} {m f : Str} {sp : Sp} {W : WX} {dvs : List V} {E : XK}
theorem rd_makeR (h : t σ H fun vs H1 => ∀ x dx, H1 x = none → H1 dx = none → dx ≠ x → sp (.ref x :: vs) (upd (upd H1 dx (.own x)) x (.ins C dx [])) (fun v H2 => v = .non ∧ Q (.ref x) H2) fun c d H2 => W c d σ H2) : tMakeR C sp W t σ H Q := h
theorem rd_methR (h : to σ H fun x H1 => ∃ a dx fs, x = .ref a ∧ H1 a = some (.ins C dx fs) ∧ fs.lookup m = none ∧ t σ H1 fun vs H2 => sp (x :: vs) H2 Q fun c d H3 => W c d σ H3) : tMethR C m sp W to t σ H Q := h
theorem rd_meth (h : to σ H fun x H1 => ∃ a dx fs, x = .ref a ∧ H1 a = some (.ins C dx fs) ∧ fs.lookup m = none ∧ t σ H1 fun vs H2 => sp (x :: (vs ++ dvs)) H2 Q E) : tMeth C m sp dvs E to t σ H Q := h
theorem rd_notV (h : te σ H fun x H1 => ∃ c, x = .bl c ∧ Q (.bl (!c)) H1) : tNotV te σ H Q := h
theorem rd_xf {a : Addr} {cls : Value} {d : Option Addr} {C : Addr} {f : Str} (h : te σ H fun x H1 => x = .ref a ∧ cls = .ref C ∧ ∃ (dd : Addr) (fs : List (Str × V)) (v : V), d = some dd ∧ H1 dd = some (.xd fs) ∧ fs.lookup f = some v ∧ Q v H1) : tXf a cls d C f te σ H Q := h
end
/-! ### more on comprehensions, numbers, texts -/
theorem look_map {f : NameKind → Bool} : ∀ (l : List (Str × NameKind)) (y : Str), (l.lookup y = some .cell ∨ l.lookup y = some .free) → ∀ g : Str × NameKind → Str × NameKind, (∀ n k, g (n, k) = (n, k) ∨ (k = .free ∧ g (n, k) = (n, .cell))) → ((l.map g).lookup y = some .cell ∨ (l.map g).lookup y = some .free)
  | [], _, h, _, _ => by rcases h with h | h <;> cases h
  | (n, k) :: l, y, h, g, hg => by
    rw [List.map_cons]
    rw [List.lookup_cons] at h
    cases e : y == n with
    | true =>
      rw [e] at h
      rcases hg n k with z | ⟨z1, z2⟩
      · rw [z, List.lookup_cons, e]; exact h
      · rw [z2, List.lookup_cons, e]; exact .inl rfl
    | false =>
      rw [e] at h
      have ih := look_map (f := f) l y h g hg
      rcases hg n k with z | ⟨z1, z2⟩
      · rw [z, List.lookup_cons, e]; exact ih
      · rw [z2, List.lookup_cons, e]; exact ih
theorem blkOk_in {X : Cx} {N : List Str} (hN : X.N = N) {s : Shared} {H : Hp} {sc0 scope : Scope} {C : Addr} {cl : List (Str × Addr)} {fp : List Addr} {own : List (Str × Nat)} (h : blkC N sc0 scope own = true) :
    BlkOk (X.blk s H sc0 (compEnvC sc0 cl C X.env) fp).N (X.blk s H sc0 (compEnvC sc0 cl C X.env) fp).env.scope scope own := by
  subst hN
  have b := blkOk_by h
  refine ⟨b.kind, b.uniq, b.ix, fun y hy hf => ?_, b.own⟩
  refine look_map (f := fun _ => true) _ _ (b.free y hy hf) _ fun n k => ?_
  by_cases c : (k == NameKind.free && X.env.scope.kind == ScopeKind.function && X.env.kindOf n == some NameKind.cell) = true
  · right
    refine ⟨?_, if_pos c⟩
    have c1 : (k == NameKind.free) = true := by
      rw [Bool.and_eq_true, Bool.and_eq_true] at c
      exact c.1.1
    cases k <;> first | rfl | cases c1
  · left
    exact if_neg c
theorem given_range (v : Nat → V) : ∀ n, Evl.given n (fun _ => true) v = (List.range n).map v
  | 0 => rfl
  | n + 1 => by rw [Evl.given_yes rfl, given_range v n, List.range_succ, List.map_append]; rfl
/-- a comprehension whose parts leave the heap, without a test -/
theorem lc_map {J : It} {n j : Nat} {G : Hp → Prop} {Y : Nat → Hp → V → Hp → Prop} {xs v : Nat → V} {σ : L2.St} {H : Hp} {Q : VK} {te : TE} (w : Walk J n G Y) (hY : ∀ i H x H', i < n → Y i H x H' → H' = H ∧ x = xs i) (hG : ∀ Hc, Ex H Hc → G Hc) (hn : n < 100000)
    (he : ∀ i Hc, i < n → Ex H Hc → Val te ((wipe σ [j]).set j (some (xs i))) Hc (v i))
    (h : ∀ L, H L = none → Q (.ref L) (upd H L (.lst ((List.range n).map v)))) : lcB (gName j) tYes te [j] σ Q J H := by
  refine lc_pure (f := fun _ => true) w hY hG hn (fun _ _ _ _ => ans_yes) (fun i Hc hi e _ => he i Hc hi e) fun L hL => ?_
  rw [given_range]
  exact h L hL
theorem walk_range0 {n : Nat} : Walk (Itr 0 n) n (fun _ => True) fun i H x H' => H' = H ∧ x = V.int (i : Nat) := by
  obtain ⟨a, b, c⟩ := walk_range (lo := 0) (n := n)
  refine ⟨a, b, fun i H x H' hi g y => ?_⟩
  have := c i H x H' hi g y
  refine ⟨this.1, ?_⟩
  rw [this.2]
  show V.int (0 + (i : Int)) = _
  rw [Int.zero_add]
theorem fmod_nat (a m : Nat) : Int.fmod (a : Int) (m : Int) = ((a % m : Nat) : Int) := by
  rw [Int.fmod_eq_emod_of_nonneg _ (Int.natCast_nonneg m)]
  rfl
theorem fold_app (c : Nat) : ∀ (k : Nat) (a : Array Nat), (List.foldl (fun x y => x ++ y) a (List.replicate k #[c])).toList = a.toList ++ List.replicate k c
  | 0, a => by simp
  | k + 1, a => by
    rw [List.replicate_succ, List.foldl_cons, fold_app c k, List.replicate_succ]
    simp
theorem mul_sign (c : Nat) (n : Int) (h : 0 < n) : (Txt.mul ⟨#[c]⟩ n).cps.toList = List.replicate n.toNat c := by
  unfold Txt.mul
  rw [if_neg (by omega)]
  by_cases e : n = 1
  · subst e; rfl
  · have hb : (n == 1 || (⟨#[c]⟩ : Str).length == 0) = false := by
      have : (⟨#[c]⟩ : Str).length = 1 := rfl
      simp [e, this]
    rw [if_neg (by rw [hb]; decide)]
    show (List.foldl (fun x y => x ++ y) #[] (List.replicate n.toNat #[c])).toList = _
    rw [fold_app]
    rfl
theorem ixN_nat {n j : Nat} (h : j < n) : ixN n (j : Int) = some j := by
  unfold ixN
  rw [if_pos (Int.natCast_nonneg j), if_pos (by omega), Int.toNat_natCast]
theorem seqIndex_nat {n j : Nat} (h : j < n) : seqIndex? (j : Int) n = some j := by
  unfold seqIndex?
  have h0 : ¬ (j : Int) < 0 := by omega
  simp only [h0, if_false]
  rw [if_pos (by simp; omega), Int.toNat_natCast]
theorem erase_map {α β : Type} (f : α → β) : ∀ (l : List α) (j : Nat), (l.map f).eraseIdx j = (l.eraseIdx j).map f
  | [], _ => rfl
  | _ :: _, 0 => rfl
  | a :: l, j + 1 => by
    show f a :: (l.map f).eraseIdx j = f a :: (l.eraseIdx j).map f
    rw [erase_map f l j]
theorem mulOk_sign (c : Nat) {n : Int} (h0 : 0 < n) (h1 : n < 100000) : MulOk ⟨#[c]⟩ n := by
  have e : (⟨#[c]⟩ : Str).length = 1 := rfl
  refine ⟨by simp; omega, fun _ _ => ?_, fun _ _ => ?_⟩
  · rw [e]
    intro hh
    have : ((2:Int) ^ 63 - 1) / n ≥ 1 := by
      refine Int.le_ediv_of_mul_le h0 ?_
      omega
    omega
  · rw [e]
    unfold Builtin.Str.tooLong
    have : sizeLine ≥ 100000 := by decide
    exact decide_eq_false (by omega)
theorem first_at {l : List Nat} {c : Nat} {r : List Nat} (h : l = c :: r) : l.idxOf c = 0 := by
  rw [h]
  exact List.idxOf_cons_self
theorem atI_last {α : Type} {l : List α} (h : 0 < l.length) : atI l (-1) = some (l[l.length - 1]'(by omega)) := by
  have e : ixN l.length (-1) = some (l.length - 1) := by
    unfold ixN
    rw [if_neg (by decide), if_pos (by omega)]
    congr 1
    omega
  show (ixN l.length (-1)).bind (fun j => l[j]?) = _
  rw [e]
  exact List.getElem?_eq_getElem _
end AT

set_option Elab.async false
set_option linter.all false
set_option maxRecDepth 100000
set_option maxHeartbeats 4000000
/-! own words, third part: a law's own def, run where nothing is being shown; the repr of data -/
namespace AT
open PySem PySem.Spec L2
/-- as FnOk, but only where no repr is under way -/
structure FnG (P : Program) (w : World) (K : PySem.W.Frag) (mg : Str → Option Value) (base : Heap) (CX : CXT) (k : Nat) (f : Addr) (fd : FuncData) (ps : List Str) (sp : Sp) : Prop where
  len : ∀ vs H Q E, sp vs H Q E → vs.length = ps.length
  run : ∀ (A : Around) (outer : List Env) (s : Shared) (H : Hp) (args : Args) (us : List Value) (vs : List V) (Q : VK) (E : XK), A.guards = some [] → Room k A → Env0 P w K mg base A outer s H → BindsTo s fd args (ps.zip us) → Vals vs us → sp vs H Q E →
    codeAny (model P w) A (.call (.ref f) args) (CR CX outer P w H s Q E) s
theorem fn_ofG {CX : CXT} {P : Program} {w : World} {K : PySem.W.Frag} {mg : Str → Option Value} {base : Heap} {k : Nat} {f : Addr} {name qual : Str} {params : Arguments} {body : List Stmt} {scope : Scope} {dV kV doc pm cdv ct oc : Value} {an od : Option Addr} {osl : Array (Option Value)} {N ps : List Str} {sp : Sp}
    (lk : List.lookup f K = some { cls := oc, dict := od, data := Data.func (PySem.W.fnOf name qual params body scope dV kV doc pm an cdv ct), slots := osl }) (hcd : PySem.W.codeIn K cdv qual = true) (S : FnScope N ps scope)
    (len : ∀ vs H Q E, sp vs H Q E → vs.length = ps.length)
    (hb : ∀ (A : Around) (outer : List Env) (s : Shared) (H : Hp) (vs : List V) (Q : VK) (E : XK), A.guards = some [] → Room k (A.deeper (PyProof.Rows.envOfC qual scope s.heap.objs.size f cdv)) → sp vs H Q E →
      ∃ t, PSs (cxOf CX P w K mg base N qual scope f cdv A outer s H E) body t ∧ t { nx := fun _ H' => Q .non H', rt := Q } (L2.start N vs) H) :
    FnG P w K mg base CX (k + 1) f (PySem.W.fnOf name qual params body scope dV kV doc pm an cdv ct) ps sp := by
  refine ⟨len, fun A outer s H args us vs Q E hg hr e0 bd rv hsp => ?_⟩
  have hl := len vs H Q E hsp
  have KX : K.In s.heap := e0.mod.kin.keeps fun b o e => (e0.bs b o e).1
  have lim : s.heap.NoLimit := e0.mod.nolimit.keeps fun b o e => (e0.bs b o e).1
  refine codeAny_call_function hr.depth (KX f _ lk) rfl S.co S.gen rfl (PySem.W.codeRec_of KX hcd) (bd _ _ _ _ ?_)
  refine wpAny_newFunctionEnv_cells S.kind (fun x hx => ?_) fun env he s1 x => ?_
  · obtain ⟨n, v⟩ := x
    rcases S.par n (List.of_mem_zip hx).1 with q | q
    · exact .inl q
    · exact .inr ⟨q, PySem.W.cellsFrom_some scope.names (s.heap.objs.size + 1) [] (.inl q)⟩
  · subst he
    refine ⟨lim.keeps x.toInCall.keep, codeAny_func ?_⟩
    obtain ⟨t, ht, hq⟩ := hb A outer s H vs Q E hg (hr.deeper _) hsp
    have I := inv_start (CX := CX) (E := E) S hr.hd e0 hl rv x
    refine wpAny_mono (ht.run [] s1 (L2.start N vs) H _ I hq) (fun fl s' hs => ?_) fun e s' hs => hs
    cases fl with
    | next =>
      obtain ⟨σ', H', J, q⟩ := hs
      exact ⟨.non, H', J.os, J.bare, J.base, J.hok, rfl, q⟩
    | brk =>
      obtain ⟨_, _, _, q⟩ := hs
      exact q.elim
    | cont =>
      obtain ⟨_, _, _, q⟩ := hs
      exact q.elim
    | ret u =>
      obtain ⟨v, σ', H', J, rv, q⟩ := hs
      exact ⟨v, H', J.os, J.bare, J.base, J.hok, rv, q⟩
theorem _root_.L2.Fun.okG {P : Program} {w : World} {K : PySem.W.Frag} {mg : Str → Option Value} {base : Heap} {x qual : Str} {st : Stmt} {f : Addr} {fd : FuncData} {N ps : List Str} {k : Nat} {sp : Sp} (F : Fun K x qual st f fd) (S : FnScope N ps (defScope st)) (len : ∀ vs H Q E, sp vs H Q E → vs.length = ps.length)
    (hb : ∀ (cdv : Value) (A : Around) (outer : List Env) (s : Shared) (H : Hp) (vs : List V) (Q : VK) (E : XK), A.guards = some [] → Room k (A.deeper (PyProof.Rows.envOfC qual (defScope st) s.heap.objs.size f cdv)) → sp vs H Q E →
      ∃ t, PSs (cxOf CX0 P w K mg base N qual (defScope st) f cdv A outer s H E).nox (defBody st) t ∧ t { nx := fun _ H' => Q .non H', rt := Q } (L2.start N vs) H) : FnG P w K mg base CX0 (k + 1) f fd ps sp := by
  obtain ⟨oc, od, kV, doc, pm, an, cdv, ct, osl, rfl, lk, hcd⟩ := F.ex
  refine fn_ofG lk hcd S len fun A outer s H vs Q E hg hr hsp => ?_
  obtain ⟨t, h, q⟩ := hb cdv A outer s H vs Q E hg hr hsp
  exact ⟨t, PSs.nox h, q⟩
theorem law_callG {P : Program} {w : World} {K : PySem.W.Frag} {mg mb : Str → Option Value} {k : Nat} {fa a : Addr} {fd : FuncData} {x : Str} {sp : Sp} {s₁ : Shared} {vs : List Value} {ns : List Int}
    (KX : K.In s₁.heap) (hns : s₁.heap.Ns mainGlobals mg) (hb : s₁.heap.Ns builtinsNs mb) (hbb : ∀ x : Str, x ≠ "__name__" → mb x = bootBuiltins x) (hlim : s₁.heap.NoLimit) (hg : s₁.gens = #[]) (ha : s₁.heap.get? a = some { cls := .type "list", data := .seq vs.toArray })
    (hi : PyProof.Rows.IntsAre vs ns) (hl : ns.length ≤ sizeLine) (hr : Room k callerA) (F : ∀ base : Heap, K.In base → base.Ns mainGlobals mg → FnG P w K mg base CX0 k fa fd [x] sp) (hbind : ∀ (s : Shared) (u : Value), BindsTo s fd { pos := [u] } [(x, u)])
    (hsp : ∀ H : Hp, Only H → SqL K H a (ns.map V.int) → sp [.ref a] H (fun v _ => v = .bl true) E0) :
    codeAny (model P w) callerA (.call (.ref fa) { pos := [.ref a] }) (fun r s' => r = .ok (.ret (.bool true)) ∧ OldK s₁.heap s'.heap ∧ s'.os = s₁.os ∧ PyProof.Rows.AllBare s'.gens) s₁ := by
  have core : ∀ H : Hp, Only H → SqL K H a (ns.map V.int) → HOk P w H s₁.heap → (∀ b, H b ≠ none → b = a) → (H a ≠ none → K.lookup a = none) →
      codeAny (model P w) callerA (.call (.ref fa) { pos := [.ref a] }) (fun r s' => r = .ok (.ret (.bool true)) ∧ OldK s₁.heap s'.heap ∧ s'.os = s₁.os ∧ PyProof.Rows.AllBare s'.gens) s₁ := by
    intro H hO hS hok hA hK
    have nd : ∀ {b : Addr} {o : Obj} {es ep}, s₁.heap.get? b = some o → o.data = .dict es ep → H b = none := by
      intro b o es ep e d
      cases q : H b with
      | none => rfl
      | some u =>
        obtain rfl := hA b (by rw [q]; exact fun z => by cases z)
        rw [ha] at e
        obtain rfl := Option.some.inj e
        cases d
    have nsK : ∀ {b : Addr} {m : Str → Option Value}, s₁.heap.Ns b m → (hidT s₁.heap H).Ns b m := by
      rintro b m ⟨o, es, ep, e, d, r⟩
      exact ⟨o, es, ep, hidT_get e (nd e d), d, r⟩
    have hKb : K.In (hidT s₁.heap H) := fun b o e => hidT_get (KX b o e) (by
      cases q : H b with
      | none => rfl
      | some u =>
        have nb : H b ≠ none := by rw [q]; exact fun z => by cases z
        obtain rfl := hA b nb
        have z := hK nb
        rw [e] at z
        cases z)
    have hM : L2.Mod K mg (hidT s₁.heap H) := ⟨hKb, nsK hns, ⟨mb, nsK hb, hbb⟩, by
      obtain ⟨mc, h1, h2⟩ := hlim
      exact ⟨mc, nsK h1, h2⟩⟩
    have e0 : Env0 P w K mg (hidT s₁.heap H) callerA [] s₁ H := ⟨rfl, hM, fun b o e => of_hidT e, Nat.le_of_eq (hidT_size s₁.heap H), trivial, (fun b z => by cases z), hok, PyProof.Rows.AllBare.of_eq hg⟩
    refine codeAny_mono ((F (hidT s₁.heap H) hKb (nsK hns)).run callerA [] s₁ H { pos := [.ref a] } [.ref a] [.ref a] _ E0 rfl hr e0 (hbind s₁ (.ref a)) (.cons rfl .nil) (hsp H hO hS)) fun r s' z => ?_
    cases r with
    | error e => exact absurd z fun z => by cases z
    | ok fl =>
      cases fl with
      | next => exact z.elim
      | brk => exact z.elim
      | cont => exact z.elim
      | ret u =>
        obtain ⟨v, H', os, bare, un, hok', rv, rfl⟩ := z
        obtain rfl : u = .bool true := rv
        refine ⟨rfl, OldK.of_keep fun b o e => ?_, os, bare⟩
        cases q : H b with
        | none => exact un.keep b o e q (fun z => by cases z) (fun z => by cases z)
        | some u =>
          rcases hO b with z | ⟨ob, xs, z⟩
          · rw [z] at q; cases q
          · have z2 := un.frzs b ob (.lst xs) z
            have e1 := (hok b _ z).1
            have e2 := (hok' b _ z2).1
            rw [e] at e1
            rw [e2, e1]
  cases hk : K.lookup a with
  | none =>
    refine core (fun b => if b = a then some (.frz { cls := .type "list", data := .seq vs.toArray } (.lst (ns.map V.int))) else none) (fun b => ?_) (.inl (.inr ⟨_, if_pos rfl⟩)) (fun b u z => ?_) (fun b z => ?_) fun _ => hk
    · by_cases e : b = a
      · exact .inr ⟨_, _, if_pos e⟩
      · exact .inl (if_neg e)
    · by_cases e : b = a
      · subst e
        have z' := (if_pos rfl).symm.trans z
        obtain rfl := Option.some.inj z'
        exact ⟨ha, by rw [List.length_map]; exact hl, vs, _, vals_ints hi, ha⟩
      · have z' := (if_neg e).symm.trans z
        cases z'
    · by_cases e : b = a
      · exact e
      · exact absurd (if_neg e) z
  | some o =>
    refine core (fun _ => none) (fun _ => .inl rfl) ?_ (fun b u z => by cases z) (fun b z => absurd rfl z) fun z => absurd rfl z
    have e := KX a o hk
    rw [ha] at e
    obtain rfl := Option.some.inj e
    refine .inr ⟨_, vs.toArray, _, hk, rfl, rfl, rfl, ?_, vals_ints hi⟩
    have := PyProof.Rows.IntsAre.length hi
    rw [List.size_toArray]
    omega
theorem walk_ofG {l : PySem.W.OpenLaw} {n k : Nat} {q : Program} {loose : List Str} {XP : (Str → Option Value) → Heap → Prop} {YP : World → Heap → Prop} {d : DefRec} {K : Params → PySem.W.Frag} {sp : PySem.W.Frag → Sp} {x : Str}
    (hn : l.most = some n) (hn2 : n ≤ sizeLine) (hdf : d.params.defaults = []) (hr : Room k callerA) (hY : ∀ (w : World) (h : Heap), YP w h → (K w.params).In h)
    (F : ∀ (w : World) (mg : Str → Option Value) (fa : Addr) (h : Heap), (K w.params).In h → h.Ns mainGlobals mg → mg d.name = some (.ref fa) → ∃ fd, (∀ (s : Shared) (u : Value), BindsTo s fd { pos := [u] } [(x, u)]) ∧ ∀ base : Heap, (K w.params).In base → base.Ns mainGlobals mg → FnG l.prog w (K w.params) mg base CX0 k fa fd [x] (sp (K w.params)))
    (hsp : ∀ (K : PySem.W.Frag) (H : Hp) (a : Addr) (ns : List Int), ns.length ≤ n → Only H → SqL K H a (ns.map V.int) → sp K [.ref a] H (fun v _ => v = .bl true) E0) : PySem.W.WalkO q loose XP YP l.row.toRowW d [] fun f vs => PySem.call f vs :=
  Att.attach_call hn hdf fun w s₀ s₁ mg mb fa o pm cd doc a vs ns G Y ho hd hcd hmg hobj hints hlen hg => by
    obtain ⟨fd, hb, hF⟩ := F w mg fa s₁.heap (hY w s₁.heap Y) G.T.g hmg
    exact law_callG (hY w s₁.heap Y) G.T.g G.T.b G.T.builtins G.T.nolimit hg hobj hints (Nat.le_trans hlen hn2) hr hF hb fun H hO hS => hsp _ H a ns hlen hO hS
/-- repr(v): v lists and tuples of plain values -/
def cReprD (K : PySem.W.Frag) : List V → Hp → VK → Prop := fun xs H Q => cRepr xs H Q ∨ ∃ (a : Addr) (d : PyData), xs = [.ref a] ∧ Dp K H (.ref a) d ∧ d.showable = true ∧ d.hasDict = false ∧ d.depth ≤ 60 ∧ d.shown.length ≤ sizeLine ∧ Q (.str d.shown) H
theorem call_reprD {X : Cx} (hg : X.A.guards = some []) (hu : X.A.units + 64 < cLine) : CallR X (.builtin "repr") (cReprD X.K) := by
  refine CallR.or call_reprP ?_
  intro P s σ H vs us Q I r h
  obtain ⟨a, d, rfl, hd, sh, nd, dl, sl, q⟩ := h
  obtain ⟨u, rfl, ru⟩ := vals1 r
  cases (show u = Value.ref a from ru)
  obtain ⟨as, rd⟩ := Dp.reads I d _ _ hd ru
  refine repr_of_reads' rd sh (fun z => by rw [nd] at z; cases z) hg (by omega) (fun b o e => e) (fun h' u tk hk => ?_) sl
  exact ⟨.str d.shown, H, I.kept hk, ⟨u, rfl⟩, q⟩
/-! ### how long what is shown may be -/
theorem join_len (sep : Str) (B : Nat) : ∀ ss : List Str, (∀ s ∈ ss, s.length ≤ B) → (Str.join sep ss).length ≤ ss.length * (B + sep.length)
  | [], _ => by unfold Str.join; exact Nat.zero_le _
  | [x], h => by
    unfold Str.join
    have := h x List.mem_cons_self
    simp
    omega
  | x :: y :: r, h => by
    have ih := join_len sep B (y :: r) fun s hs => h s (List.mem_cons_of_mem _ hs)
    have hx := h x List.mem_cons_self
    unfold Str.join
    rw [TL.len_tl, TL.tl_append, TL.tl_append, List.length_append, List.length_append, ← TL.len_tl, ← TL.len_tl, ← TL.len_tl]
    rw [List.length_cons, Nat.succ_mul]
    omega
theorem tuple_len {B : Nat} {ss : List Str} (h : ∀ s ∈ ss, s.length ≤ B) : (tupleText ss).length ≤ ss.length * (B + 2) + 3 := by
  have j := join_len (Str.ofString ", ") B ss h
  have e2 : (Str.ofString ", ").length = 2 := by decide +kernel
  rw [e2] at j
  unfold tupleText
  rw [TL.len_tl, TL.tl_append, TL.tl_append, List.length_append, List.length_append, ← TL.len_tl, ← TL.len_tl, ← TL.len_tl]
  have e1 : (Str.ofString "(").length = 1 := by decide +kernel
  have e3 : (Str.ofString (if (ss.length == 1) = true then ",)" else ")")).length ≤ 2 := by
    cases (ss.length == 1) <;> decide +kernel
  omega
theorem foldl_len {f : Nat → Array Nat} {B : Nat} : ∀ (l : List Nat) (a : Array Nat), (∀ c ∈ l, (f c).size ≤ B) → (l.foldl (fun out c => out ++ f c) a).size ≤ a.size + l.length * B
  | [], a, _ => by simp
  | c :: l, a, h => by
    have ih := foldl_len (f := f) (B := B) l (a ++ f c) fun d hd => h d (List.mem_cons_of_mem _ hd)
    have hc := h c List.mem_cons_self
    rw [List.foldl_cons, List.length_cons, Nat.succ_mul]
    rw [Array.size_append] at ih
    omega
theorem repr_len {z : Str} {B : Nat} (h : ∀ c ∈ z.cps.toList, (Builtin.Str.reprChar (reprQuote z) c).length ≤ B) : (reprText z).length ≤ 2 + z.length * B := by
  show ((Array.foldl (fun out c => out ++ (Builtin.Str.reprChar (reprQuote z) c).toArray) #[reprQuote z] z.cps).push (reprQuote z)).size ≤ _
  rw [Array.size_push, ← Array.foldl_toList]
  have := foldl_len (f := fun c => (Builtin.Str.reprChar (reprQuote z) c).toArray) (B := B) z.cps.toList #[reprQuote z] (fun c hc => by rw [List.size_toArray]; exact h c hc)
  have e : z.cps.toList.length = z.length := rfl
  rw [e] at this
  have e1 : (#[reprQuote z] : Array Nat).size = 1 := rfl
  omega
theorem quote_or (z : Str) : reprQuote z = 34 ∨ reprQuote z = 39 := by
  unfold reprQuote
  split
  · exact .inl rfl
  · exact .inr rfl
theorem repr_pl : ∀ c ∈ ("abcdefghijklmnopqrstuvwxyzABCDEFGHIJKLMNOPQRSTUVWXYZ0123456789<>=:_@#" : Str).cps.toList, (Builtin.Str.reprChar 34 c).length ≤ 10 ∧ (Builtin.Str.reprChar 39 c).length ≤ 10 := by decide +kernel
theorem small_text : ∀ n : Nat, n < 100 → (Str.ofString (toString (n : Int))).length ≤ 4 ∧ (n : Int).natAbs.log2 < 1920 := by decide +kernel
/-- data that may be shown: at most so long, so deep -/
structure Okd (d : PyData) (L D : Nat) : Prop where
  sh : d.showable = true
  nd : d.hasDict = false
  dp : d.depth ≤ D
  ln : d.shown.length ≤ L
theorem Okd.mono {d : PyData} {L D L' D' : Nat} (h : Okd d L D) (h1 : L ≤ L') (h2 : D ≤ D') : Okd d L' D' := ⟨h.sh, h.nd, Nat.le_trans h.dp h2, Nat.le_trans h.ln h1⟩
theorem Okd.bool (b : Bool) : Okd (.bool b) 5 0 := ⟨rfl, rfl, Nat.le_refl 0, by cases b <;> decide +kernel⟩
theorem Okd.int {n : Nat} (h : n < 100) : Okd (.int (n : Int)) 4 0 := ⟨decide_eq_true (small_text n h).2, rfl, Nat.le_refl 0, (small_text n h).1⟩
theorem Okd.str {z : Str} (h : ∀ c ∈ z.cps.toList, c ∈ ("abcdefghijklmnopqrstuvwxyzABCDEFGHIJKLMNOPQRSTUVWXYZ0123456789<>=:_@#" : Str).cps.toList) : Okd (.str z) (2 + z.length * 10) 0 := ⟨rfl, rfl, Nat.le_refl 0, repr_len fun c hc => by
  rcases quote_or z with e | e <;> rw [e]
  · exact (repr_pl c (h c hc)).1
  · exact (repr_pl c (h c hc)).2⟩
theorem all_okd {L D : Nat} : ∀ xs : List PyData, (∀ x ∈ xs, Okd x L D) → PyData.showableAll xs = true ∧ PyData.hasDictAll xs = false ∧ PyData.depthAll xs ≤ D ∧ (∀ s ∈ PyData.shownAll xs, s.length ≤ L) ∧ (PyData.shownAll xs).length = xs.length
  | [], _ => ⟨rfl, rfl, Nat.zero_le _, (fun s hs => by cases hs), rfl⟩
  | x :: xs, h => by
    obtain ⟨a, b, c, d, e⟩ := all_okd xs fun y hy => h y (List.mem_cons_of_mem _ hy)
    have hx := h x List.mem_cons_self
    refine ⟨?_, ?_, ?_, fun s hs => ?_, ?_⟩
    · show (x.showable && PyData.showableAll xs) = true
      rw [hx.sh, a]; rfl
    · show (x.hasDict || PyData.hasDictAll xs) = false
      rw [hx.nd, b]; rfl
    · show max x.depth (PyData.depthAll xs) ≤ D
      exact Nat.max_le.mpr ⟨hx.dp, c⟩
    · have hs' : s ∈ x.shown :: PyData.shownAll xs := hs
      rcases List.mem_cons.mp hs' with z | z
      · rw [z]; exact hx.ln
      · exact d s z
    · show (x.shown :: PyData.shownAll xs).length = _
      rw [List.length_cons, e]
      rfl
theorem Okd.tuple {L D : Nat} {xs : List PyData} (h : ∀ x ∈ xs, Okd x L D) : Okd (.tuple xs) (xs.length * (L + 2) + 3) (D + 1) := by
  obtain ⟨a, b, c, d, e⟩ := all_okd xs h
  refine ⟨a, b, Nat.succ_le_succ c, ?_⟩
  have := tuple_len d
  rw [e] at this
  exact this
section
variable {X : Cx} (K : PySem.W.Frag)
theorem kReprD (hg : X.A.guards = some []) (hu : X.A.units + 64 < cLine) (hK : X.K = K := by rfl) : CallR X (.builtin "repr") (cReprD K) := hK ▸ call_reprD hg hu
end
theorem rd_reprBD {K : PySem.W.Frag} {b : Bool} {H : Hp} {Q : VK} (h : Q (.str (if b then "True" else "False")) H) : cReprD K [.bl b] H Q := .inl (rd_reprB h)
theorem rd_reprD {K : PySem.W.Frag} {a : Addr} {d : PyData} {L D : Nat} {H : Hp} {Q : VK} (h1 : Dp K H (.ref a) d) (h2 : Okd d L D) (hL : L ≤ sizeLine) (hD : D ≤ 60) (h : Q (.str d.shown) H) : cReprD K [.ref a] H Q := .inr ⟨a, d, rfl, h1, h2.sh, h2.nd, Nat.le_trans h2.dp hD, Nat.le_trans h2.ln hL, h⟩
/-! ### signs, joined -/
theorem fold_signs : ∀ (cs : List Nat) (a : Array Nat), (List.foldl (fun acc (p : Str) => acc ++ (Str.ofString "").cps ++ p.cps) a (cs.map fun c => (⟨#[c]⟩ : Str))).toList = a.toList ++ cs
  | [], a => by simp
  | c :: cs, a => by
    rw [List.map_cons, List.foldl_cons, fold_signs cs]
    have e : (Str.ofString "").cps = #[] := by decide +kernel
    rw [e]
    simp
theorem join_signs (cs : List Nat) : (Txt.join "" (cs.map fun c => (⟨#[c]⟩ : Str))).cps.toList = cs := by
  cases cs with
  | nil => rfl
  | cons c cs =>
    show (List.foldl (fun acc (p : Str) => acc ++ (Str.ofString "").cps ++ p.cps) #[c] (cs.map fun c => (⟨#[c]⟩ : Str))).toList = _
    rw [fold_signs cs #[c]]
    rfl
theorem sum_signs : ∀ cs : List Nat, ((cs.map fun c => (⟨#[c]⟩ : Str)).map (·.length)).sum = cs.length
  | [] => rfl
  | c :: cs => by
    rw [List.map_cons, List.map_cons, List.sum_cons, sum_signs cs, List.length_cons]
    show 1 + cs.length = cs.length + 1
    omega
end AT

set_option Elab.async false
set_option linter.all false
set_option maxRecDepth 100000
set_option maxHeartbeats 4000000
/-! own words, fourth part: values as data, a heap with a hidden part that changes -/
namespace AT
open PySem PySem.Spec L2
section
variable {K : PySem.W.Frag}
mutual
theorem Dp.ex' {H H' : Hp} (e : Ex H H') : ∀ (d : PyData) {v : V}, Dp K H v d → Dp K H' v d
  | .none, _, h => by cases h; exact .non
  | .bool b, _, h => by cases h; exact .bl b
  | .int i, _, h => by cases h; exact .int i
  | .str x, _, h => by cases h; exact .str x
  | .list ds, _, h => by
    cases h with
    | lst hs ha => exact .lst (Evl.ex_l e hs) (DpAll.ex' e ds ha)
  | .tuple ds, _, h => by
    cases h with
    | tup hs ha => exact .tup (Evl.ex_t e hs) (DpAll.ex' e ds ha)
  | .dict _, _, h => by cases h
theorem DpAll.ex' {H H' : Hp} (e : Ex H H') : ∀ (ds : List PyData) {vs : List V}, DpAll K H vs ds → DpAll K H' vs ds
  | [], _, h => by cases h; exact .nil
  | d :: ds, _, h => by
    cases h with
    | cons h1 h2 => exact .cons (Dp.ex' e d h1) (DpAll.ex' e ds h2)
end
theorem _root_.L2.Dp.ex {H H' : Hp} {v : V} {d : PyData} (h : Dp K H v d) (e : Ex H H') : Dp K H' v d := Dp.ex' e d h
theorem _root_.L2.DpAll.ex {H H' : Hp} {vs : List V} {ds : List PyData} (h : DpAll K H vs ds) (e : Ex H H') : DpAll K H' vs ds := DpAll.ex' e ds h
theorem _root_.L2.DpAll.len {H : Hp} : ∀ {vs : List V} {ds : List PyData}, DpAll K H vs ds → vs.length = ds.length
  | _, _, .nil => rfl
  | _, _, .cons _ t => by rw [List.length_cons, List.length_cons, t.len]
theorem _root_.L2.DpAll.get {H : Hp} : ∀ {vs : List V} {ds : List PyData} {i : Nat} {d : PyData}, DpAll K H vs ds → ds[i]? = some d → ∃ v, vs[i]? = some v ∧ Dp K H v d
  | _, _, i, d, .nil, e => by simp at e
  | _, _, 0, d, .cons (v := v) h _, e => by
    simp at e
    subst e
    exact ⟨v, rfl, h⟩
  | _, _, i + 1, d, .cons _ t, e => by
    obtain ⟨v, h1, h2⟩ := t.get (i := i) (d := d) (by simpa using e)
    exact ⟨v, by simpa using h1, h2⟩
theorem _root_.L2.DpAll.got {H : Hp} {vs : List V} {ds : List PyData} {i : Nat} {v : V} (h : DpAll K H vs ds) (e : vs[i]? = some v) : ∃ d, ds[i]? = some d ∧ Dp K H v d := by
  have hl : i < vs.length := (List.getElem?_eq_some_iff.mp e).1
  have hd : i < ds.length := by rw [← h.len]; exact hl
  obtain ⟨v', h1, h2⟩ := h.get (List.getElem?_eq_getElem hd)
  rw [h1] at e
  obtain rfl := Option.some.inj e
  exact ⟨_, List.getElem?_eq_getElem hd, h2⟩
theorem _root_.L2.DpAll.app {H : Hp} : ∀ {vs : List V} {ds : List PyData} {us : List V} {es : List PyData}, DpAll K H vs ds → DpAll K H us es → DpAll K H (vs ++ us) (ds ++ es)
  | _, _, _, _, .nil, h => h
  | _, _, _, _, .cons h t, q => .cons h (t.app q)
theorem _root_.L2.DpAll.snoc {H : Hp} {vs : List V} {ds : List PyData} {v : V} {d : PyData} (h : DpAll K H vs ds) (q : Dp K H v d) : DpAll K H (vs ++ [v]) (ds ++ [d]) := h.app (.cons q .nil)
theorem DpAll.of {H : Hp} : ∀ {vs : List V} {ds : List PyData}, vs.length = ds.length → (∀ (i : Nat) v d, vs[i]? = some v → ds[i]? = some d → Dp K H v d) → DpAll K H vs ds
  | [], [], _, _ => .nil
  | [], _ :: _, h, _ => by cases h
  | _ :: _, [], h, _ => by cases h
  | v :: vs, d :: ds, h, g => .cons (g 0 v d rfl rfl) (DpAll.of (Nat.succ.inj h) fun i v d h1 h2 => g (i + 1) v d (by simpa using h1) (by simpa using h2))
theorem _root_.L2.DpAll.erase {H : Hp} : ∀ {vs : List V} {ds : List PyData} (i : Nat), DpAll K H vs ds → DpAll K H (vs.eraseIdx i) (ds.eraseIdx i)
  | _, _, _, .nil => .nil
  | _, _, 0, .cons _ t => t
  | _, _, i + 1, .cons h t => .cons h (t.erase i)
theorem _root_.L2.DpAll.set {H : Hp} {v : V} {d : PyData} (q : Dp K H v d) : ∀ {vs : List V} {ds : List PyData} (i : Nat), DpAll K H vs ds → DpAll K H (vs.set i v) (ds.set i d)
  | _, _, _, .nil => .nil
  | _, _, 0, .cons _ t => .cons q t
  | _, _, i + 1, .cons h t => .cons h (t.set q i)
theorem DpAll.mapV {α : Type} {H : Hp} (f : α → V) (g : α → PyData) (l : List α) (h : ∀ x ∈ l, Dp K H (f x) (g x)) : DpAll K H (l.map f) (l.map g) := by
  induction l with
  | nil => exact .nil
  | cons x l ih => exact .cons (h x List.mem_cons_self) (ih fun y hy => h y (List.mem_cons_of_mem _ hy))
/-! the shapes of values -/
theorem Dp.non_iff {H : Hp} {v : V} (h : Dp K H v .none) : v = .non := by cases h; rfl
theorem Dp.int_iff {H : Hp} {v : V} {i : Int} (h : Dp K H v (.int i)) : v = .int i := by cases h; rfl
theorem Dp.str_iff {H : Hp} {v : V} {i : Str} (h : Dp K H v (.str i)) : v = .str i := by cases h; rfl
theorem Dp.bl_iff {H : Hp} {v : V} {i : Bool} (h : Dp K H v (.bool i)) : v = .bl i := by cases h; rfl
theorem Dp.lstv {H : Hp} {v : V} {ds : List PyData} (h : Dp K H v (.list ds)) : ∃ a vs, v = .ref a ∧ SqL K H a vs ∧ DpAll K H vs ds := by
  cases h with
  | lst hs ha => exact ⟨_, _, rfl, hs, ha⟩
theorem Dp.tupv {H : Hp} {v : V} {ds : List PyData} (h : Dp K H v (.tuple ds)) : ∃ a vs, v = .ref a ∧ SqT K H a vs ∧ DpAll K H vs ds := by
  cases h with
  | tup hs ha => exact ⟨_, _, rfl, hs, ha⟩
/-! ### the hidden part -/
def hid (S : List Addr) (H : Hp) : Hp := fun b => if b ∈ S then none else H b
theorem hid_at {S : List Addr} {H : Hp} {b : Addr} (h : b ∉ S) : hid S H b = H b := if_neg h
theorem hid_in {S : List Addr} {H : Hp} {b : Addr} (h : b ∈ S) : hid S H b = none := if_pos h
theorem hid_nil {H : Hp} : hid [] H = H := by
  funext b
  exact if_neg List.not_mem_nil
theorem hid_some {S : List Addr} {H : Hp} {b : Addr} {o : HO} (h : hid S H b = some o) : b ∉ S ∧ H b = some o := by
  by_cases z : b ∈ S
  · rw [hid_in z] at h; cases h
  · exact ⟨z, by rw [hid_at z] at h; exact h⟩
theorem hid_ex {S : List Addr} {H : Hp} : Ex (hid S H) H := fun b o h => (hid_some h).2
theorem hid_sub {S S' : List Addr} {H : Hp} (h : ∀ b ∈ S', b ∈ S) : Ex (hid S H) (hid S' H) := fun b o q => by
  obtain ⟨h1, h2⟩ := hid_some q
  rw [hid_at fun z => h1 (h b z)]
  exact h2
theorem hid_tail {q : Addr} {S : List Addr} {H : Hp} : Ex (hid (q :: S) H) (hid S H) := hid_sub fun _ hb => List.mem_cons_of_mem _ hb
/-- all but S stands -/
def Kp (S : List Addr) (H H' : Hp) : Prop := ∀ b o, b ∉ S → H b = some o → H' b = some o
theorem Kp.refl {S : List Addr} {H : Hp} : Kp S H H := fun _ _ _ h => h
theorem Kp.trans {S : List Addr} {H H1 H2 : Hp} (a : Kp S H H1) (b : Kp S H1 H2) : Kp S H H2 := fun x o hx h => b x o hx (a x o hx h)
theorem Kp.of_ex {S : List Addr} {H H' : Hp} (e : Ex H H') : Kp S H H' := fun b o _ h => e b o h
theorem Kp.ex {S : List Addr} {H H' : Hp} (k : Kp S H H') : Ex (hid S H) (hid S H') := fun b o q => by
  obtain ⟨h1, h2⟩ := hid_some q
  rw [hid_at h1]
  exact k b o h1 h2
theorem Kp.sub {S S' : List Addr} {H H' : Hp} (k : Kp S H H') (h : ∀ b ∈ S, b ∈ S') : Kp S' H H' := fun b o hb q => k b o (fun z => hb (h b z)) q
theorem Kp.put {S : List Addr} {H : Hp} {q : Addr} {o : HO} (h : q ∈ S) : Kp S H (upd H q o) := fun b u hb z => by
  rw [upd_ne (show b ≠ q from fun e => hb (by rw [e]; exact h))]
  exact z
theorem Kp.new {S : List Addr} {H : Hp} {q : Addr} {o : HO} (h : H q = none) : Kp S H (upd H q o) := Kp.of_ex (Evl.Ex.new h)
/-- from what stands in the one hidden part to the other -/
theorem Kp.up {M S : List Addr} {H0 H : Hp} (k : Kp M H0 H) (fr : ∀ q ∈ S, q ∉ M → H0 q = none) : Ex (hid M H0) (hid S H) := fun b o z => by
  obtain ⟨h1, h2⟩ := hid_some z
  rw [hid_at fun hb => ?_]
  · exact k b o h1 h2
  · have := fr b hb h1
    rw [h2] at this
    cases this
theorem Ex.hid {S : List Addr} {H H' : Hp} (e : Ex H H') : Ex (AT.hid S H) (AT.hid S H') := (Kp.of_ex (S := S) e).ex
/-- a list that was changed is let be -/
theorem Dp.frz {S : List Addr} {H : Hp} {q : Addr} {vs : List V} {ds : List PyData} (hq : H q = some (.lst vs)) (hn : q ∉ S) (h : DpAll K (hid (q :: S) H) vs ds) : Dp K (hid S H) (.ref q) (.list ds) :=
  .lst (SqL.of (by rw [hid_at hn]; exact hq)) (h.ex hid_tail)
theorem Dp.frz' {S : List Addr} {H : Hp} {q : Addr} {vs : List V} {ds : List PyData} (hq : H q = some (.lst vs)) (hn : q ∉ S) (h : DpAll K (hid S H) vs ds) : Dp K (hid S H) (.ref q) (.list ds) :=
  .lst (SqL.of (by rw [hid_at hn]; exact hq)) h
/-- a new list, a new tuple -/
theorem notin_of {S : List Addr} {H : Hp} {q : Addr} (hs : ∀ b ∈ S, ∃ o, H b = some o) (hq : H q = none) : q ∉ S := fun z => by
  obtain ⟨o, ho⟩ := hs q z
  rw [hq] at ho
  cases ho
theorem Dp.newT {S : List Addr} {H : Hp} {q : Addr} {vs : List V} {ds : List PyData} (hq : H q = none) (hn : q ∉ S) (h : DpAll K (hid S H) vs ds) : Dp K (hid S (upd H q (.tup vs))) (.ref q) (.tuple ds) :=
  .tup (Evl.st_of (by rw [hid_at hn, upd_same])) (h.ex (Ex.hid (Evl.Ex.new hq)))
theorem Dp.newL {S : List Addr} {H : Hp} {q : Addr} {vs : List V} {ds : List PyData} (hq : H q = none) (hn : q ∉ S) (h : DpAll K (hid S H) vs ds) : Dp K (hid S (upd H q (.lst vs))) (.ref q) (.list ds) :=
  .lst (SqL.of (by rw [hid_at hn, upd_same])) (h.ex (Ex.hid (Evl.Ex.new hq)))
/-! ### reading -/
section
variable {σ : L2.St} {H H0 : Hp} {Q : VK} {x : V} {ds : List PyData} {d : PyData} {i : Nat}
theorem rd_ixDT (e : Ex H0 H) (h : Dp K H0 x (.tuple ds)) (hi : ds[i]? = some d) (q : ∀ v, Dp K H0 v d → Q v H) : rIx K x (.int (i : Int)) H Q := by
  obtain ⟨a, vs, rfl, h1, h2⟩ := Dp.tupv h
  obtain ⟨v, hv, hd⟩ := h2.get hi
  exact rd_ixT (Evl.ex_t e h1) (atI_nat hv) (q v hd)
theorem rd_ixDL (e : Ex H0 H) (h : Dp K H0 x (.list ds)) (hi : ds[i]? = some d) (q : ∀ v, Dp K H0 v d → Q v H) : rIx K x (.int (i : Int)) H Q := by
  obtain ⟨a, vs, rfl, h1, h2⟩ := Dp.lstv h
  obtain ⟨v, hv, hd⟩ := h2.get hi
  exact rd_ixL (Evl.ex_l e h1) (atI_nat hv) (q v hd)
theorem rd_lenDT (e : Ex H0 H) (h : Dp K H0 x (.tuple ds)) (q : Q (.int (ds.length : Int)) H) : cLen K [x] H Q := by
  obtain ⟨a, vs, rfl, h1, h2⟩ := Dp.tupv h
  exact rd_lenT (Evl.ex_t e h1) (by rw [h2.len]; exact q)
theorem rd_lenDL (e : Ex H0 H) (h : Dp K H0 x (.list ds)) (q : Q (.int (ds.length : Int)) H) : cLen K [x] H Q := by
  obtain ⟨a, vs, rfl, h1, h2⟩ := Dp.lstv h
  exact rd_lenL (Evl.ex_l e h1) (by rw [h2.len]; exact q)
def oIs : R2 := fun x y H Q => y = .non ∧ Q (.bl (decide (x = .non))) H
theorem rd_is {P : Prop} (h : P) : V.non = V.non ∧ P := ⟨rfl, h⟩
/-- == of the same data -/
def Lay (d : PyData) : Prop := d.canLay0 = true ∧ d.depth ≤ 64
theorem Lay.sh {d : PyData} (h : Lay d) : SeqAt.shaped d = true := Bool.and_eq_true_iff.mpr ⟨h.1, decide_eq_true h.2⟩
theorem rd_eqD {y : V} {H1 : Hp} (e0 : Ex H0 H) (e1 : Ex H1 H) (hx : Dp K H0 x d) (hy : Dp K H1 y d) (hl : Lay d) (q : Q (.bl true) H) : oEq K x y H Q :=
  .inr ⟨d, d, hx.ex e0, hy.ex e1, hl.sh, hl.sh, by rw [SeqAt.eqv_refl d hl.1]; exact q⟩
theorem rd_neD {y : V} {H1 : Hp} (e0 : Ex H0 H) (e1 : Ex H1 H) (hx : Dp K H0 x d) (hy : Dp K H1 y d) (hl : Lay d) (q : Q (.bl false) H) : oNe K x y H Q :=
  .inr ⟨d, d, hx.ex e0, hy.ex e1, hl.sh, hl.sh, by rw [SeqAt.eqv_refl d hl.1]; exact q⟩
end
/-- data that may be compared: at most so deep -/
structure Ly (d : PyData) (n : Nat) : Prop where
  c : d.canLay0 = true
  p : d.depth ≤ n
theorem Ly.lay {d : PyData} {n : Nat} (h : Ly d n) (hn : n ≤ 64) : Lay d := ⟨h.c, Nat.le_trans h.p hn⟩
theorem Ly.mono {d : PyData} {n m : Nat} (h : Ly d n) (hn : n ≤ m) : Ly d m := ⟨h.c, Nat.le_trans h.p hn⟩
theorem Ly.none : Ly .none 0 := ⟨rfl, Nat.le_refl 0⟩
theorem Ly.bool {b : Bool} : Ly (.bool b) 0 := ⟨rfl, Nat.le_refl 0⟩
theorem Ly.int {i : Int} : Ly (.int i) 0 := ⟨rfl, Nat.le_refl 0⟩
theorem Ly.str {x : Str} (h : okS x) : Ly (.str x) 0 := ⟨h, Nat.le_refl 0⟩
theorem ly_all {n : Nat} : ∀ {ds : List PyData}, (∀ d ∈ ds, Ly d n) → PyData.canLayAll0 ds = true ∧ PyData.depthAll ds ≤ n
  | [], _ => ⟨rfl, Nat.zero_le _⟩
  | d :: ds, h => by
    obtain ⟨a, b⟩ := ly_all (ds := ds) fun y hy => h y (List.mem_cons_of_mem _ hy)
    have hx := h d List.mem_cons_self
    refine ⟨?_, Nat.max_le.mpr ⟨hx.p, b⟩⟩
    show (d.canLay0 && PyData.canLayAll0 ds) = true
    rw [hx.c, a]; rfl
theorem Ly.tuple {n : Nat} {ds : List PyData} (h : ∀ d ∈ ds, Ly d n) : Ly (.tuple ds) (n + 1) := ⟨(ly_all h).1, Nat.succ_le_succ (ly_all h).2⟩
theorem Ly.list {n : Nat} {ds : List PyData} (h : ∀ d ∈ ds, Ly d n) : Ly (.list ds) (n + 1) := ⟨(ly_all h).1, Nat.succ_le_succ (ly_all h).2⟩
/-! ### walks over data -/
def YD (K : PySem.W.Frag) (ds : List PyData) (H0 : Hp) : Nat → Hp → V → Hp → Prop := fun i H v H' => H' = H ∧ ∃ d, ds[i]? = some d ∧ Dp K H0 v d
abbrev Wd (K : PySem.W.Frag) (J : It) (ds : List PyData) (H0 : Hp) : Prop := Walk J ds.length (fun H => Ex H0 H) (YD K ds H0)
theorem wd_list {H0 : Hp} {a : Addr} {vs : List V} {ds : List PyData} (h : SqL K H0 a vs) (hd : DpAll K H0 vs ds) : Wd K (Itl K a) ds H0 := by
  rw [Wd, ← hd.len]
  exact walk_list.mono (fun H e => Evl.ex_l e h) fun i H x H' _ _ y => ⟨y.1, hd.got y.2⟩
theorem wd_tup {H0 : Hp} {a : Addr} {vs : List V} {ds : List PyData} (h : SqT K H0 a vs) (hd : DpAll K H0 vs ds) : Wd K (Itt K a) ds H0 := by
  rw [Wd, ← hd.len]
  exact walk_tup.mono (fun H e => Evl.ex_t e h) fun i H x H' _ _ y => ⟨y.1, hd.got y.2⟩
section
variable {σ : L2.St} {H H0 : Hp} {Q : VK} {te : TE} {R : It → Hp → Prop} {D : Ends} {g : TG} {tb : TS} {tt : TT} {J : It} {ds : List PyData} {x : V} {vs : List Nat}
theorem rd_anyL' (h : te σ H fun x H1 => ∃ a, x = .ref a ∧ (∃ xs, SqL K H1 a xs) ∧ R (Itl K a) H1) : iAny K te σ H R := .inl h
theorem rd_anyT' (h : te σ H fun x H1 => ∃ a, x = .ref a ∧ (∃ xs, SqT K H1 a xs) ∧ R (Itt K a) H1) : iAny K te σ H R := .inr (.inl h)
theorem rd_anyS' (h : te σ H fun v H1 => ∃ x, v = .str x ∧ R (Its x) H1) : iAny K te σ H R := .inr (.inr h)
theorem rd_itDL (e : Ex H0 H) (h : Dp K H0 x (.list ds)) (q : ∀ J, Wd K J ds H0 → R J H) : ∃ a, x = .ref a ∧ (∃ xs, SqL K H a xs) ∧ R (Itl K a) H := by
  obtain ⟨a, vs, rfl, h1, h2⟩ := Dp.lstv h
  exact ⟨a, rfl, ⟨vs, Evl.ex_l e h1⟩, q _ (wd_list h1 h2)⟩
theorem rd_itDT (e : Ex H0 H) (h : Dp K H0 x (.tuple ds)) (q : ∀ J, Wd K J ds H0 → R J H) : ∃ a, x = .ref a ∧ (∃ xs, SqT K H a xs) ∧ R (Itt K a) H := by
  obtain ⟨a, vs, rfl, h1, h2⟩ := Dp.tupv h
  exact ⟨a, rfl, ⟨vs, Evl.ex_t e h1⟩, q _ (wd_tup h1 h2)⟩
theorem rd_itS {z : Str} (q : R (Its z) H) : ∃ x, V.str z = .str x ∧ R (Its x) H := ⟨z, rfl, q⟩
theorem fo_D (w : Wd K J ds H0) (Pv : Nat → L2.St → Hp → Prop) (h0 : Pv 0 σ H) (hG : ∀ i σ H, i ≤ ds.length → Pv i σ H → Ex H0 H)
    (hs : ∀ (i : Nat) d v σ H, ds[i]? = some d → Dp K H0 v d → Pv i σ H → g v σ H fun σ2 H2 => tb { D with nx := Pv (i + 1), ct := Pv (i + 1), bk := D.nx } σ2 H2) (hd : ∀ σ H, Pv ds.length σ H → D.nx σ H) : forB g tb D σ J H :=
  fo_it w Pv h0 hG (fun i v σ H H' hi p y => by
    obtain ⟨rfl, d, h1, h2⟩ := y
    exact hs i d v σ _ h1 h2 p) hd
/-- how the heap goes on from H: S may change, the rest stands -/
structure Tr (S : List Addr) (H : Hp) (T : Hp → Hp → Prop) : Prop where
  rfl' : T H H
  here : ∀ {a}, T H a → T a a
  st : ∀ {a b c}, T a b → (∃ o, a c = some o) → ∃ o : HO, b c = some o
  trans : ∀ {a b c}, T a b → T b c → T a c
  put : ∀ {L Hc o}, H L = none → T H Hc → T H (upd Hc L o)
  kp : ∀ {a b}, T a b → Kp S a b
theorem tr_ex {S : List Addr} {H : Hp} : Tr S H Ex := ⟨Evl.Ex.refl H, fun {a} _ => Evl.Ex.refl a, fun e h => h.elim fun o z => ⟨o, e _ _ z⟩, fun a b => a.trans b, fun h e => Evl.Ex.mut e h, fun e => Kp.of_ex e⟩
/-- a comprehension with a test, each value told by its turn -/
theorem lc_F {S : List Addr} {T : Hp → Hp → Prop} {n : Nat} {G : Hp → Prop} {Y : Nat → Hp → V → Hp → Prop} {P : Nat → V → Prop} {P2 : Nat → L2.St → Prop} (t : Tr S H T) (hS : ∀ b ∈ S, ∃ o, H b = some o) (w : Walk J n G Y) (hY : ∀ i H x H', i < n → Y i H x H' → H' = H ∧ P i x) (hn : n < 100000)
    (hG : ∀ Hc, T H Hc → G Hc) (p : Nat → Bool) (f : Nat → PyData)
    (hg : ∀ i x Hc (N : L2.St → Hp → Prop), i < n → P i x → T H Hc → (∀ σ2, wipe σ2 vs = wipe σ vs → P2 i σ2 → N σ2 Hc) → g x (wipe σ vs) Hc N)
    (ht : ∀ L i σ2 Hc, i < n → P2 i σ2 → H L = none → L ∉ S → T H Hc → (∀ b ∈ L :: S, ∃ o, Hc b = some o) → Ex (hid S H) (hid (L :: S) Hc) → ∀ N : Bool → Hp → Prop, (∀ H2, T Hc H2 → N (p i) H2) → tt σ2 Hc N)
    (he : ∀ L i σ2 Hc, i < n → P2 i σ2 → p i = true → H L = none → L ∉ S → T H Hc → (∀ b ∈ L :: S, ∃ o, Hc b = some o) → Ex (hid S H) (hid (L :: S) Hc) → ∀ N : VK, (∀ v H2, T Hc H2 → Dp K (hid (L :: S) H2) v (f i) → N v H2) → te σ2 Hc N)
    (h : ∀ L us Hc, T H Hc → H L = none → L ∉ S → Hc L = some (.lst us) → DpAll K (hid (L :: S) Hc) us (((List.range n).filter p).map f) → Q (.ref L) Hc) : lcB g tt te vs σ Q J H := by
  intro L hL
  have nL : L ∉ S := notin_of hS hL
  have up : ∀ {Hc}, T H Hc → Ex (hid S H) (hid (L :: S) Hc) := fun q => (t.kp q).up fun b hb hn => by
    rcases List.mem_cons.mp hb with z | z
    · rw [z]; exact hL
    · exact absurd z hn
  have kL : ∀ {a b : Hp} {o}, T a b → a L = some o → b L = some o := fun q z => t.kp q L _ nL z
  have hz : ∀ m, m ≤ n → (((List.range m).filter p).map f).length < sizeLine := fun m hm => by
    rw [List.length_map]
    have := List.length_filter_le p (List.range m)
    rw [List.length_range] at this
    exact Nat.lt_of_le_of_lt (Nat.le_trans this hm) (Nat.lt_trans hn (by decide))
  refine lc_it w (fun i Hc => i ≤ n ∧ T H Hc ∧ ∃ us, Hc L = some (.lst us) ∧ DpAll K (hid (L :: S) Hc) us (((List.range i).filter p).map f)) ⟨Nat.zero_le _, t.put hL t.rfl', [], upd_same, .nil⟩ (fun i Hc _ q => hG Hc q.2.1) (fun i x Hc H' hi q y => ?_) fun Hc q => ?_
  · obtain ⟨hi1, t1, us, h1, h2⟩ := q
    obtain ⟨rfl, px⟩ := hY _ _ _ _ hi y
    refine hg i x _ _ hi px t1 fun σ2 hw p2 => ⟨hw, ?_⟩
    have hs1 : ∀ b ∈ L :: S, ∃ o, H' b = some o := fun b hb => by
      rcases List.mem_cons.mp hb with z | z
      · rw [z]; exact ⟨_, h1⟩
      · exact t.st t1 (hS b z)
    refine ht L i σ2 _ hi p2 hL nL t1 hs1 (up t1) _ fun H2 t2 => ?_
    cases hp : p i with
    | true =>
      refine rd_iteT ?_
      refine he L i σ2 H2 hi p2 hp hL nL (t.trans t1 t2) (fun b hb => t.st t2 (hs1 b hb)) (up (t.trans t1 t2)) _ fun v H3 t3 dv => ?_
      have k23 := (t.kp (t.trans t2 t3)).sub (S' := L :: S) fun b hb => List.mem_cons_of_mem _ hb
      refine ⟨us, kL t3 (kL t2 h1), by rw [h2.len]; exact hz i hi1, hi, t.put hL (t.trans (t.trans t1 t2) t3), us ++ [v], upd_same, ?_⟩
      rw [List.range_succ, List.filter_append, List.map_append]
      have e : ((List.filter p [i]).map f) = [f i] := by
        rw [List.filter_cons, if_pos hp]
        rfl
      rw [e]
      exact ((h2.ex k23.ex).snoc dv).ex (Kp.put List.mem_cons_self).ex
    | false =>
      refine rd_iteF ?_
      have k12 := (t.kp t2).sub (S' := L :: S) fun b hb => List.mem_cons_of_mem _ hb
      refine ⟨hi, t.trans t1 t2, us, kL t2 h1, ?_⟩
      rw [List.range_succ, List.filter_append, List.map_append]
      have e : ((List.filter p [i]).map f) = [] := by
        rw [List.filter_cons, if_neg (by rw [hp]; exact Bool.false_ne_true)]
        rfl
      rw [e, List.append_nil]
      exact h2.ex k12.ex
  · obtain ⟨_, t1, us, h1, h2⟩ := q
    exact h L us Hc t1 hL nL h1 h2
/-- a comprehension without a test, each value told by a relation -/
theorem lc_R {S : List Addr} {T : Hp → Hp → Prop} {n : Nat} {G : Hp → Prop} {Y : Nat → Hp → V → Hp → Prop} {P : Nat → V → Prop} {P2 : Nat → L2.St → Prop} (t : Tr S H T) (hS : ∀ b ∈ S, ∃ o, H b = some o) (w : Walk J n G Y) (hY : ∀ i H x H', i < n → Y i H x H' → H' = H ∧ P i x) (hn : n < 100000)
    (hG : ∀ Hc, T H Hc → G Hc) (R : Nat → PyData → Prop)
    (hg : ∀ i x Hc (N : L2.St → Hp → Prop), i < n → P i x → T H Hc → (∀ σ2, wipe σ2 vs = wipe σ vs → P2 i σ2 → N σ2 Hc) → g x (wipe σ vs) Hc N)
    (he : ∀ L i σ2 Hc, i < n → P2 i σ2 → H L = none → L ∉ S → T H Hc → (∀ b ∈ L :: S, ∃ o, Hc b = some o) → Ex (hid S H) (hid (L :: S) Hc) → ∀ N : VK, (∀ v d H2, T Hc H2 → Dp K (hid (L :: S) H2) v d → R i d → N v H2) → te σ2 Hc N)
    (h : ∀ L us Hc ds, T H Hc → H L = none → L ∉ S → Hc L = some (.lst us) → DpAll K (hid (L :: S) Hc) us ds → ds.length = n → (∀ i d, ds[i]? = some d → R i d) → Q (.ref L) Hc) : lcB g tYes te vs σ Q J H := by
  intro L hL
  have nL : L ∉ S := notin_of hS hL
  have up : ∀ {Hc}, T H Hc → Ex (hid S H) (hid (L :: S) Hc) := fun q => (t.kp q).up fun b hb hn => by
    rcases List.mem_cons.mp hb with z | z
    · rw [z]; exact hL
    · exact absurd z hn
  have kL : ∀ {a b : Hp} {o}, T a b → a L = some o → b L = some o := fun q z => t.kp q L _ nL z
  refine lc_it w (fun i Hc => i ≤ n ∧ T H Hc ∧ ∃ us ds, Hc L = some (.lst us) ∧ DpAll K (hid (L :: S) Hc) us ds ∧ ds.length = i ∧ ∀ i d, ds[i]? = some d → R i d) ⟨Nat.zero_le _, t.put hL t.rfl', [], [], upd_same, .nil, rfl, fun i d z => by simp at z⟩ (fun i Hc _ q => hG Hc q.2.1) (fun i x Hc H' hi q y => ?_) fun Hc q => ?_
  · obtain ⟨hi1, t1, us, ds, h1, h2, h3, h4⟩ := q
    obtain ⟨rfl, px⟩ := hY _ _ _ _ hi y
    refine hg i x _ _ hi px t1 fun σ2 hw p2 => ⟨hw, rd_yes ?_⟩
    refine rd_iteT ?_
    have hs1 : ∀ b ∈ L :: S, ∃ o, H' b = some o := fun b hb => by
      rcases List.mem_cons.mp hb with z | z
      · rw [z]; exact ⟨_, h1⟩
      · exact t.st t1 (hS b z)
    refine he L i σ2 _ hi p2 hL nL t1 hs1 (up t1) _ fun v d H3 t3 dv rv => ?_
    have k23 := (t.kp t3).sub (S' := L :: S) fun b hb => List.mem_cons_of_mem _ hb
    refine ⟨us, kL t3 h1, by rw [h2.len, h3]; exact Nat.lt_of_lt_of_le (Nat.lt_trans hi hn) (by decide), hi, t.put hL (t.trans t1 t3), us ++ [v], ds ++ [d], upd_same, ((h2.ex k23.ex).snoc dv).ex (Kp.put List.mem_cons_self).ex, by rw [List.length_append, h3]; rfl, fun i' d' hd' => ?_⟩
    by_cases hlt : i' < ds.length
    · rw [List.getElem?_append_left hlt] at hd'
      exact h4 i' d' hd'
    · rw [List.getElem?_append_right (by omega)] at hd'
      have e0 : i' - ds.length = 0 := by
        rcases Nat.eq_zero_or_pos (i' - ds.length) with z | z
        · exact z
        · rw [List.getElem?_eq_none (by simp; omega)] at hd'
          cases hd'
      rw [e0] at hd'
      obtain rfl : d = d' := Option.some.inj hd'
      have e3 : i' = i := by omega
      rw [e3]
      exact rv
  · obtain ⟨_, t1, us, ds, h1, h2, h3, h4⟩ := q
    exact h L us Hc ds t1 hL nL h1 h2 h3 h4
/-- one name as the target -/
theorem hg_name {T : Hp → Hp → Prop} {n j : Nat} {P : Nat → V → Prop} {H : Hp} (hw : ∀ v : V, wipe ((wipe σ [j]).set j (some v)) [j] = wipe σ [j]) : ∀ i x Hc (N : L2.St → Hp → Prop), i < n → P i x → T H Hc → (∀ σ2, wipe σ2 [j] = wipe σ [j] → (∃ v, P i v ∧ σ2 = (wipe σ [j]).set j (some v)) → N σ2 Hc) → gName j x (wipe σ [j]) Hc N :=
  fun i x Hc N _ p _ h => h _ (hw x) ⟨x, p, rfl⟩
theorem wd_Y {n : Nat} : ∀ (i : Nat) (H : Hp) (x : V) (H' : Hp), i < n → YD K ds H0 i H x H' → H' = H ∧ ∃ d, ds[i]? = some d ∧ Dp K H0 x d := fun _ _ _ _ _ y => y
theorem str_Y {z : Str} : ∀ (i : Nat) (H : Hp) (x : V) (H' : Hp), i < z.cps.size → (H' = H ∧ ∃ c, z.cps[i]? = some c ∧ x = .str ⟨#[c]⟩) → H' = H ∧ ∃ c, z.cps.toList[i]? = some c ∧ x = V.str ⟨#[c]⟩ := fun i H x H' _ y => ⟨y.1, by
  obtain ⟨c, h1, h2⟩ := y.2
  exact ⟨c, by rw [Array.getElem?_toList]; exact h1, h2⟩⟩
/-! over data, one name as the target -/
theorem getD_range {α β : Type} (l : List α) (a : α) (q : α → Bool) (f : α → β) : ((List.range l.length).filter (fun i => q (l.getD i a))).map (fun i => f (l.getD i a)) = (l.filter q).map f := by
  have e : (List.range l.length).map (fun i => l.getD i a) = l := by
    refine List.ext_getElem (by simp) fun i h1 h2 => ?_
    rw [List.getElem_map, List.getElem_range, List.getD_eq_getElem?_getD, List.getElem?_eq_getElem h2]
    rfl
  have h : ((List.range l.length).map (fun i => l.getD i a)).filter q = ((List.range l.length).filter (fun i => q (l.getD i a))).map (fun i => l.getD i a) := List.filter_map ..
  rw [e] at h
  rw [h, List.map_map]
  rfl
theorem lc_FD {S : List Addr} {T : Hp → Hp → Prop} {j : Nat} (t : Tr S H T) (hS : ∀ b ∈ S, ∃ o, H b = some o) (w : Wd K J ds H0) (e0 : Ex H0 (hid S H)) (hn : ds.length < 100000) (hw : ∀ v : V, wipe ((wipe σ [j]).set j (some v)) [j] = wipe σ [j])
    (q : PyData → Bool) (F : PyData → PyData)
    (ht : ∀ L d v Hc, d ∈ ds → Dp K (hid (L :: S) Hc) v d → H L = none → L ∉ S → T H Hc → (∀ b ∈ L :: S, ∃ o, Hc b = some o) → Ex (hid S H) (hid (L :: S) Hc) → ∀ N : Bool → Hp → Prop, (∀ H2, T Hc H2 → N (q d) H2) → tt ((wipe σ [j]).set j (some v)) Hc N)
    (he : ∀ L d v Hc, d ∈ ds → Dp K (hid (L :: S) Hc) v d → q d = true → H L = none → L ∉ S → T H Hc → (∀ b ∈ L :: S, ∃ o, Hc b = some o) → Ex (hid S H) (hid (L :: S) Hc) → ∀ N : VK, (∀ v H2, T Hc H2 → Dp K (hid (L :: S) H2) v (F d) → N v H2) → te ((wipe σ [j]).set j (some v)) Hc N)
    (h : ∀ L us Hc, T H Hc → H L = none → L ∉ S → Hc L = some (.lst us) → DpAll K (hid (L :: S) Hc) us ((ds.filter q).map F) → Q (.ref L) Hc) : lcB (gName j) tt te [j] σ Q J H := by
  have hd : ∀ {i : Nat} {d : PyData}, ds[i]? = some d → ds.getD i .none = d := fun z => by rw [List.getD_eq_getElem?_getD, z]; rfl
  refine lc_F (K := K) (P := fun i x => ∃ d, ds[i]? = some d ∧ Dp K H0 x d) t hS w wd_Y hn (fun Hc z => (e0.trans (t.kp z).ex).trans hid_ex) (fun i => q (ds.getD i .none)) (fun i => F (ds.getD i .none)) (hg_name hw) (fun L i σ2 Hc hi p2 hL nL t1 hs up N hN => ?_) (fun L i σ2 Hc hi p2 hp hL nL t1 hs up N hN => ?_) fun L us Hc t1 hL nL h1 h2 => ?_
  · obtain ⟨v, ⟨d, h1, h2⟩, rfl⟩ := p2
    exact ht L d v Hc (List.mem_of_getElem? h1) (h2.ex (e0.trans up)) hL nL t1 hs up N fun H2 t2 => by have := hN H2 t2; rw [hd h1] at this; exact this
  · obtain ⟨v, ⟨d, h1, h2⟩, rfl⟩ := p2
    rw [hd h1] at hp
    exact he L d v Hc (List.mem_of_getElem? h1) (h2.ex (e0.trans up)) hp hL nL t1 hs up N fun v2 H2 t2 d2 => hN v2 H2 t2 (by rw [hd h1]; exact d2)
  · rw [getD_range] at h2
    exact h L us Hc t1 hL nL h1 h2
theorem lc_MD {S : List Addr} {T : Hp → Hp → Prop} {j : Nat} (t : Tr S H T) (hS : ∀ b ∈ S, ∃ o, H b = some o) (w : Wd K J ds H0) (e0 : Ex H0 (hid S H)) (hn : ds.length < 100000) (hw : ∀ v : V, wipe ((wipe σ [j]).set j (some v)) [j] = wipe σ [j])
    (F : PyData → PyData)
    (he : ∀ L d v Hc, d ∈ ds → Dp K (hid (L :: S) Hc) v d → H L = none → L ∉ S → T H Hc → (∀ b ∈ L :: S, ∃ o, Hc b = some o) → Ex (hid S H) (hid (L :: S) Hc) → ∀ N : VK, (∀ v H2, T Hc H2 → Dp K (hid (L :: S) H2) v (F d) → N v H2) → te ((wipe σ [j]).set j (some v)) Hc N)
    (h : ∀ L us Hc, T H Hc → H L = none → L ∉ S → Hc L = some (.lst us) → DpAll K (hid (L :: S) Hc) us (ds.map F) → Q (.ref L) Hc) : lcB (gName j) tYes te [j] σ Q J H := by
  refine lc_FD (K := K) t hS w e0 hn hw (fun _ => true) F (fun L d v Hc _ _ _ _ t1 _ _ N hN => rd_yes (hN Hc (t.here t1))) (fun L d v Hc hm hd _ hL nL t1 hs up N hN => he L d v Hc hm hd hL nL t1 hs up N hN) fun L us Hc t1 hL nL h1 h2 => ?_
  rw [List.filter_eq_self.mpr fun _ _ => rfl] at h2
  exact h L us Hc t1 hL nL h1 h2
theorem ex_up1 {H H' : Hp} {q : Addr} (e : Ex H H') (hq : H q = none) : Ex H (hid [q] H') := fun b o z => by
  rw [hid_at (fun m => by rw [List.mem_singleton.mp m, hq] at z; cases z)]
  exact e b o z
theorem st1 {H : Hp} {q : Addr} {o : HO} (h : H q = some o) : ∀ b ∈ [q], ∃ o, H b = some o := fun b hb => by
  cases List.mem_singleton.mp hb
  exact ⟨o, h⟩
theorem sts_ex {S : List Addr} {H H' : Hp} (h : ∀ b ∈ S, ∃ o, H b = some o) (e : Ex H H') : ∀ b ∈ S, ∃ o, H' b = some o := fun b hb => by
  obtain ⟨o, z⟩ := h b hb
  exact ⟨o, e b o z⟩
theorem ex_nil {H H' : Hp} (e : Ex H H') : Ex H (hid [] H') := by rw [hid_nil]; exact e
def isN : PyData → Bool
  | .none => true
  | _ => false
theorem isN_dp {H : Hp} {v : V} {d : PyData} (h : Dp K H v d) : decide (v = .non) = isN d := by
  cases h <;> rfl
/-- the values of plain data -/
theorem dp_strs {H : Hp} : ∀ {vs : List V} {ss : List Str}, DpAll K H vs (ss.map PyData.str) → vs = ss.map V.str
  | _, [], h => by cases h; rfl
  | _, s :: ss, h => by
    cases h with
    | cons h1 h2 => rw [Dp.str_iff h1, dp_strs h2]; rfl
theorem dp_ints' {H : Hp} : ∀ {vs : List V} {ss : List Int}, DpAll K H vs (ss.map PyData.int) → vs = ss.map V.int
  | _, [], h => by cases h; rfl
  | _, s :: ss, h => by
    cases h with
    | cons h1 h2 => rw [Dp.int_iff h1, dp_ints' h2]; rfl
theorem dp_bls {H : Hp} : ∀ {vs : List V} {ss : List Bool}, DpAll K H vs (ss.map PyData.bool) → vs = ss.map V.bl
  | _, [], h => by cases h; rfl
  | _, s :: ss, h => by
    cases h with
    | cons h1 h2 => rw [Dp.bl_iff h1, dp_bls h2]; rfl
theorem dps_str {H : Hp} (ss : List Str) : DpAll K H (ss.map V.str) (ss.map PyData.str) := DpAll.mapV _ _ _ fun x _ => .str x
theorem dps_int {H : Hp} (ss : List Int) : DpAll K H (ss.map V.int) (ss.map PyData.int) := DpAll.mapV _ _ _ fun x _ => .int x
theorem dps_bl {H : Hp} (ss : List Bool) : DpAll K H (ss.map V.bl) (ss.map PyData.bool) := DpAll.mapV _ _ _ fun x _ => .bl x
end
end
section
variable {X : Cx} (K : PySem.W.Frag) (hK : X.K = K := by rfl)
include hK
theorem kGt {e : Expr} {n : Nat} {t : TGs} (h : PG X e (gTup X.K n t)) : PG X e (gTup K n t) := hK ▸ h
end
section
variable {K : PySem.W.Frag} {σ : L2.St} {H H0 : Hp} {v : V} {Q : L2.St → Hp → Prop} {t : TGs} {ds : List PyData}
/-- a, b = a tuple of data -/
theorem rd_gtD {n : Nat} (e : Ex H0 H) (h : Dp K H0 v (.tuple ds)) (hn : ds.length = n) (q : ∀ xs, DpAll K H0 xs ds → t xs σ H Q) : gTup K n t v σ H Q := by
  obtain ⟨a, vs, rfl, h1, h2⟩ := Dp.tupv h
  exact ⟨a, vs, rfl, Evl.ex_t e h1, by rw [h2.len, hn], q vs h2⟩
theorem dp2 {a b : PyData} {xs : List V} (h : DpAll K H0 xs [a, b]) : ∃ x y, xs = [x, y] ∧ Dp K H0 x a ∧ Dp K H0 y b := by
  cases h with
  | cons h1 h =>
    cases h with
    | cons h2 h =>
      cases h
      exact ⟨_, _, rfl, h1, h2⟩
theorem rd_gN {i : Nat} {tg : TGs} {x : V} {xs : List V} (h : tg xs (σ.set i (some x)) H Q) : gCons (gName i) tg (x :: xs) σ H Q := ⟨_, _, rfl, h⟩
theorem rd_gE (h : Q σ H) : gNil [] σ H Q := ⟨rfl, h⟩
end
/-! ### hiding what data can't reach -/
mutual
def noList : PyData → Bool
  | .list _ => false
  | .tuple ds => noListAll ds
  | _ => true
def noListAll : List PyData → Bool
  | [] => true
  | d :: ds => noList d && noListAll ds
end
section
variable {K : PySem.W.Frag} {S : List Addr} {H : Hp}
theorem sqt_hid (h : ∀ b ∈ S, (∃ C dx fs, H b = some (.ins C dx fs)) ∨ ∃ xs, H b = some (.lst xs)) {a : Addr} {vs : List V} (q : SqT K H a vs) : SqT K (hid S H) a vs := by
  rcases q with (q | ⟨o, q⟩) | q
  · refine .inl (.inl ?_)
    rw [hid_at fun hb => ?_]
    · exact q
    · rcases h a hb with ⟨_, _, _, z⟩ | ⟨_, z⟩ <;> rw [z] at q <;> cases q
  · refine .inl (.inr ⟨o, ?_⟩)
    rw [hid_at fun hb => ?_]
    · exact q
    · rcases h a hb with ⟨_, _, _, z⟩ | ⟨_, z⟩ <;> rw [z] at q <;> cases q
  · exact .inr q
theorem sql_hid (h : ∀ b ∈ S, ∃ C dx fs, H b = some (.ins C dx fs)) {a : Addr} {vs : List V} (q : SqL K H a vs) : SqL K (hid S H) a vs := by
  rcases q with (q | ⟨o, q⟩) | q
  · refine .inl (.inl ?_)
    rw [hid_at fun hb => ?_]
    · exact q
    · obtain ⟨_, _, _, z⟩ := h a hb
      rw [z] at q; cases q
  · refine .inl (.inr ⟨o, ?_⟩)
    rw [hid_at fun hb => ?_]
    · exact q
    · obtain ⟨_, _, _, z⟩ := h a hb
      rw [z] at q; cases q
  · exact .inr q
mutual
theorem Dp.hidI (h : ∀ b ∈ S, ∃ C dx fs, H b = some (.ins C dx fs)) : ∀ (d : PyData) {v : V}, Dp K H v d → Dp K (hid S H) v d
  | .none, _, q => by cases q; exact .non
  | .bool b, _, q => by cases q; exact .bl b
  | .int i, _, q => by cases q; exact .int i
  | .str x, _, q => by cases q; exact .str x
  | .list ds, _, q => by
    cases q with
    | lst hs ha => exact .lst (sql_hid h hs) (DpAll.hidI h ds ha)
  | .tuple ds, _, q => by
    cases q with
    | tup hs ha => exact .tup (sqt_hid (fun b hb => .inl (h b hb)) hs) (DpAll.hidI h ds ha)
  | .dict _, _, q => by cases q
theorem DpAll.hidI (h : ∀ b ∈ S, ∃ C dx fs, H b = some (.ins C dx fs)) : ∀ (ds : List PyData) {vs : List V}, DpAll K H vs ds → DpAll K (hid S H) vs ds
  | [], _, q => by cases q; exact .nil
  | d :: ds, _, q => by
    cases q with
    | cons h1 h2 => exact .cons (Dp.hidI h d h1) (DpAll.hidI h ds h2)
end
mutual
theorem Dp.hidT (h : ∀ b ∈ S, (∃ C dx fs, H b = some (.ins C dx fs)) ∨ ∃ xs, H b = some (.lst xs)) : ∀ (d : PyData) {v : V}, noList d = true → Dp K H v d → Dp K (hid S H) v d
  | .none, _, _, q => by cases q; exact .non
  | .bool b, _, _, q => by cases q; exact .bl b
  | .int i, _, _, q => by cases q; exact .int i
  | .str x, _, _, q => by cases q; exact .str x
  | .list ds, _, n, q => by cases n
  | .tuple ds, _, n, q => by
    cases q with
    | tup hs ha => exact .tup (sqt_hid h hs) (DpAll.hidT h ds n ha)
  | .dict _, _, _, q => by cases q
theorem DpAll.hidT (h : ∀ b ∈ S, (∃ C dx fs, H b = some (.ins C dx fs)) ∨ ∃ xs, H b = some (.lst xs)) : ∀ (ds : List PyData) {vs : List V}, noListAll ds = true → DpAll K H vs ds → DpAll K (hid S H) vs ds
  | [], _, _, q => by cases q; exact .nil
  | d :: ds, _, n, q => by
    obtain ⟨n1, n2⟩ := Bool.and_eq_true_iff.mp n
    cases q with
    | cons h1 h2 => exact .cons (Dp.hidT h d n1 h1) (DpAll.hidT h ds n2 h2)
end
theorem noList_all {ds : List PyData} (h : ∀ d ∈ ds, noList d = true) : noListAll ds = true := by
  induction ds with
  | nil => rfl
  | cons d ds ih =>
    show (noList d && noListAll ds) = true
    rw [h d List.mem_cons_self, ih fun e he => h e (List.mem_cons_of_mem _ he)]
    rfl
/-- a list or a tuple of data -/
def SqD (K : PySem.W.Frag) (H : Hp) (x : V) (ds : List PyData) : Prop := Dp K H x (.list ds) ∨ Dp K H x (.tuple ds)
theorem SqD.ex {H' : Hp} {x : V} {ds : List PyData} (h : SqD K H x ds) (e : Ex H H') : SqD K H' x ds := h.elim (fun z => .inl (z.ex e)) fun z => .inr (z.ex e)
theorem rd_anySq {σ : L2.St} {H0 : Hp} {te : TE} {x : V} {ds : List PyData} {R : It → Hp → Prop} (he : ∀ Q : VK, Q x H → te σ H Q) (e : Ex H0 H) (h : SqD K H0 x ds) (q : ∀ J, Wd K J ds H0 → R J H) : iAny K te σ H R := by
  rcases h with h | h
  · exact rd_anyL' (he _ (rd_itDL e h q))
  · exact rd_anyT' (he _ (rd_itDT e h q))
/-- tuple(x) -/
theorem rd_tupSq {S : List Addr} {H0 : Hp} {x : V} {ds : List PyData} {Q : VK} (hs : ∀ b ∈ S, ∃ o, H b = some o) (e : Ex H0 (hid S H)) (h : SqD K H0 x ds) (q : ∀ a H', Ex H H' → Dp K (hid S H') (.ref a) (.tuple ds) → Q (.ref a) H') : cTupOf K [x] H Q := by
  rcases h with h | h
  · obtain ⟨a, vs, rfl, h1, h2⟩ := Dp.lstv h
    exact rd_tupL (Evl.ex_l (e.trans hid_ex) h1) fun l hl => q l _ (Evl.Ex.new hl) (Dp.newT hl (notin_of hs hl) (h2.ex e))
  · obtain ⟨a, vs, rfl, h1, h2⟩ := Dp.tupv h
    exact rd_tupT (Evl.ex_t (e.trans hid_ex) h1) (q a H (Evl.Ex.refl H) (h.ex e))
/-- list(x) -/
theorem rd_lstSq {S : List Addr} {H0 : Hp} {x : V} {ds : List PyData} {Q : VK} (e : Ex H0 (hid S H)) (h : SqD K H0 x ds) (q : ∀ l vs, H l = none → DpAll K (hid S H) vs ds → Q (.ref l) (upd H l (.lst vs))) : cLstOf K [x] H Q := by
  rcases h with h | h
  · obtain ⟨a, vs, rfl, h1, h2⟩ := Dp.lstv h
    exact rd_lstL (.inl (Evl.ex_l (e.trans hid_ex) h1)) fun l hl => q l vs hl (h2.ex e)
  · obtain ⟨a, vs, rfl, h1, h2⟩ := Dp.tupv h
    exact rd_lstL (.inr (Evl.ex_t (e.trans hid_ex) h1)) fun l hl => q l vs hl (h2.ex e)
end
section
variable {K : PySem.W.Frag} {H : Hp}
theorem rd_lstSq0 {H0 : Hp} {x : V} {ds : List PyData} {Q : VK} (e : Ex H0 H) (h : SqD K H0 x ds) (q : ∀ l vs, H l = none → DpAll K H0 vs ds → Q (.ref l) (upd H l (.lst vs))) : cLstOf K [x] H Q := by
  rcases h with h | h
  · obtain ⟨a, vs, rfl, h1, h2⟩ := Dp.lstv h
    exact rd_lstL (.inl (Evl.ex_l e h1)) fun l hl => q l vs hl h2
  · obtain ⟨a, vs, rfl, h1, h2⟩ := Dp.tupv h
    exact rd_lstL (.inr (Evl.ex_t e h1)) fun l hl => q l vs hl h2
end
theorem rd_par3 {i j l : Nat} {ta : TA} {D : Ends} {σ : L2.St} {H : Hp} (h : ta σ H fun vs H1 => ∃ u v w, vs = [u, v, w] ∧ D.nx (((σ.set i (some u)).set j (some v)).set l (some w)) H1) : tPar3 i j l ta D σ H := h
theorem rd_v3 {u v w : V} {P : V → V → V → Prop} (h : P u v w) : ∃ u' v' w', [u, v, w] = [u', v', w'] ∧ P u' v' w' := ⟨u, v, w, rfl, h⟩
end AT

set_option Elab.async false
set_option linter.all false
set_option maxRecDepth 100000
set_option maxHeartbeats 4000000
/-! own words, fifth part: dicts whose keys are tuples, lists unpacked, while -/
namespace AT
open PySem PySem.Spec PyProof.Rows L2
/-- {k: v}, the key a tuple -/
def tDisp1T (tk tv : TE) : TE := fun σ H Q => ∀ p, H p = none → tk σ (upd H p (.dT [])) fun x H1 => tv σ H1 fun y H2 => H2 p = some (.dT []) ∧ ∃ (b : Addr) (k : List Key), x = .ref b ∧ H2 b = some (.tup (k.map kV)) ∧ Q (.ref p) (upd H2 p (.dT [(k, y)]))
section
variable {X : Cx} {pos : Pos} {k v : Expr} {tk tv : TE}
theorem pe_disp1T (hu : X.A.units + 1 < cLine) (hk : PE X k tk) (hv : PE X v tv) : PE X (.Dict [some k] [v] pos) (tDisp1T tk tv) := by
  refine ⟨fun pins s σ H Q I q => ?_⟩
  have hn := I.hok.fresh (Nat.le_refl s.heap.objs.size)
  have I1 := I.laid (a := s.heap.objs.size) (o := .dT []) (t' := s.toks) (fun _ _ z => Heap.get?_push_of_some _ z) (Nat.le_refl _) (dt_empty s.heap I.big)
  have hz := zip_pairTrees [some k] [v] X.env pos rfl rfl
  have hl : (pairTrees [some k] [v] X.env pos).length = 1 := pairTrees_length [some k] [v] X.env pos rfl rfl
  have hne : pairTrees [some k] [v] X.env pos ≠ [] := fun z => by rw [z] at hl; cases hl
  have room : (tupleKind (mixKind X.prog X.w)).room X.A := Nat.lt_of_succ_lt hu
  rw [arm_eval_Dict, hz, dictDisplay_pairs _ hne (by rw [hl]; decide)]
  refine wpAny_bind (wpAny_standAt (wpAny_bind ?_))
  refine wpAny_subDictH (knd := tupleKind (mixKind X.prog X.w)) room (by rw [hl]; decide) ?_
  refine pairTrees_cons_walk (thn (hk.run pins _ σ _ _ I1 (q _ hn)) fun u s1 ⟨x, H1, I1', rx, q1⟩ => thn (hv.run pins s1 σ H1 _ I1' q1) fun w2 s2 ⟨y, H2, I2, ry, q2⟩ => pairTrees_nil_walk ?_)
  obtain ⟨e, b, ks, rfl, eb, q3⟩ := q2
  cases (show u = Value.ref b from rx)
  obtain ⟨z, hd, xs0, r0, dd⟩ := dt_of I2.hok e
  cases r0
  refine ⟨[(ks, b, w2)], ⟨rfl, rfl, key_of I2.hok eb, True.intro⟩, dd, fun h' tk dd' hs => wpAny_pure ⟨.ref s.heap.objs.size, _, ?_, rfl, q3⟩⟩
  have e1 : storedAllH [] [(ks, b, w2)] = [(ks, b, w2)] := rfl
  rw [e1] at dd'
  obtain ⟨o, es, ep, ho, h2, h3, h4, h5, h6⟩ := dd'
  refine d_write I2 (by rw [e]; exact True.intro) hs ⟨o, ho⟩ ⟨by show 1 ≤ sizeLine; decide, hd, [(ks, b, w2)], .cons ⟨rfl, ?_, ry⟩ .nil, o, es, ep, ho, h2, h3, h4, h6⟩
  show upd H2 s.heap.objs.size _ b = _
  rw [upd_ne (ne_of eb e (fun z => nomatch z))]
  exact eb
end
section
variable {X : Cx} (K : PySem.W.Frag) (hK : X.K = K := by rfl)
include hK
theorem kGl {e : Expr} {n : Nat} {t : TGs} (h : PG X e (gLst X.K n t)) : PG X e (gLst K n t) := hK ▸ h
end
section
variable {K : PySem.W.Frag} {σ : L2.St} {H : Hp} {Q : VK} {D : Ends} {td ty tv tk : TE} {tt : TT} {tb : TS}
theorem rd_dget (h : td σ H fun x H1 => ty σ H1 fun y H2 => ∃ a v, x = .ref a ∧ DGet H2 a y (some v) ∧ Q v H2) : tDGet td ty σ H Q := h
theorem rd_din (h : ty σ H fun y H1 => td σ H1 fun x H2 => ∃ a o, x = .ref a ∧ DGet H2 a y o ∧ Q (.bl o.isSome) H2) : tDIn ty td σ H Q := h
theorem rd_dnin (h : ty σ H fun y H1 => td σ H1 fun x H2 => ∃ a o, x = .ref a ∧ DGet H2 a y o ∧ Q (.bl (!o.isSome)) H2) : tDNotIn ty td σ H Q := h
theorem rd_dput (h : tv σ H fun v H1 => td σ H1 fun x H2 => ty σ H2 fun y H3 => ∃ a H4, x = .ref a ∧ DPut H3 a y v H4 ∧ D.nx σ H4) : sDPut td ty tv D σ H := h
theorem rd_disp1T (h : ∀ p, H p = none → tk σ (upd H p (.dT [])) fun x H1 => tv σ H1 fun y H2 => H2 p = some (.dT []) ∧ ∃ (b : Addr) (k : List Key), x = .ref b ∧ H2 b = some (.tup (k.map kV)) ∧ Q (.ref p) (upd H2 p (.dT [(k, y)]))) : tDisp1T tk tv σ H Q := h
theorem rd_dnK (h : ∀ p, H p = none → Q (.ref p) (upd H p (.dK []))) : tDNewK σ H Q := h
theorem rd_dnT (h : ∀ p, H p = none → Q (.ref p) (upd H p (.dT []))) : tDNewT σ H Q := h
theorem rd_wh (W : Nat → L2.St → Hp → Prop) (m0 : Nat) (h0 : W m0 σ H) (hs : ∀ m σ' H', W m σ' H' → tt σ' H' fun b H1 => if b = true then ∃ N : L2.St → Hp → Prop, (∀ σ2 H2, N σ2 H2 → ∃ m', m' < m ∧ W m' σ2 H2) ∧ tb { D with nx := N, ct := N, bk := D.nx } σ' H1 else D.nx σ' H1) : tWhile tt tb D σ H := ⟨W, ⟨m0, h0⟩, hs⟩
end
end AT

set_option Elab.async false
set_option linter.all false
set_option maxRecDepth 100000
set_option maxHeartbeats 4000000
/-! own words, sixth part: enumerate over tuples and texts -/
namespace AT
open PySem PySem.Spec PyProof.Rows L2
open AutoSeq1 (wpAny_loadPart')
section
theorem tupIn {h : Heap} {a : Addr} {its : Array Value} (p : IsTup h a its) : h.IsTuple a its := by
  obtain ⟨o, e1, e2, n, e3⟩ := p
  exact ⟨o, e1, e2, n, e3⟩
/-- a tuple, item by item -/
theorem draws_tup {P : Program} {w : World} {B : Around} (calm : B.handled = none) (z q : Addr) (hq : q ≠ z) (vs : Array Value) :
    Draws P w B z [z, q] vs.size (fun k v => vs[k]? = some v) (fun k g => g.IsTupleIter z q k ∧ g.IsTuple q vs) := by
  refine ⟨fun _ _ st => ?_, fun _ _ _ st hk => ?_, fun k s Q E hk st hQ => ?_, fun s Q E st hE => ?_⟩
  · obtain ⟨⟨o, e, _⟩, _⟩ := st
    exact ⟨o, e⟩
  · exact ⟨Heap.IsTupleIter.at st.1 fun o e => hk z List.mem_cons_self o e, Heap.IsTuple.at st.2 fun o e => hk q (List.mem_cons_of_mem _ List.mem_cons_self) o e⟩
  · have hx : vs[k]? = some vs[k] := by simp [hk]
    exact RZ.nextOf_tuple_item st.1 st.2 hx fun g g1 g2 => hQ _ g s.toks hx ⟨g1, Heap.IsTuple.extBut st.2 g2.extBut hq⟩ g2
  · exact RZ.nextOf_tuple_end calm st.1 st.2 (by simp) hE
theorem enumNewT (q : Addr) (vs : Array Value) (k : Nat) (od : Option Addr) (sl : Array (Option Value)) :
    Meets (Builtin.«enumerate.__new__» ⟨[.type "enumerate", .ref q], []⟩) (fun _ R s => s.heap.get? q = some ⟨.type "tuple", od, .seq vs k, sl⟩ ∧
      R (.ok (.ret (.ref (s.heap.push { cls := .type "tuple_iterator", data := .fields #[.ref q, .int 0 0] }).objs.size)))
        ⟨(s.heap.push { cls := .type "tuple_iterator", data := .fields #[.ref q, .int 0 0] }).push { cls := .type "enumerate", data := .fields #[.none, .bool false, .ref s.heap.objs.size, rawInt 0, .none, .none] }, s.gens, s.drawn, s.toks, s.os⟩) :=
  .of_wp fun prog w A R s h => by
    obtain ⟨hp, g, d, tk, os⟩ := s
    obtain ⟨hl, h⟩ := h
    have sub := sub_enumerate
    have tup : Heap.IsTuple (Shared.heap ⟨hp, g, d, tk, os⟩) q vs := ⟨_, hl, rfl, k, rfl⟩
    wp_walk using wpAny_loadPart' hl
    refine wpAny_stack_any fun _ => wpAny_pure ?_
    split
    · rename_i c _ _ _ _ _
      cases (c == Value.type "enumerate") <;>
        (wp_walk using wpAny_loadPart' hl, wpAny_pyIter_tuple tup
         exact ⟨_, rfl, h⟩)
    · wp_walk using wpAny_loadPart' hl, wpAny_pyIter_tuple tup
      exact ⟨_, rfl, h⟩
theorem callEnumT {P : Program} {w : World} {B : Around} {E : Value → Shared → Prop} {s : Shared} {q : Addr} {vs : Array Value} {Q : Value → Shared → Prop} (tup : s.heap.IsTuple q vs)
    (hQ : ∀ g, IsEnum g (s.heap.objs.size + 1) s.heap.objs.size 0 .none → g.IsTupleIter s.heap.objs.size q 0 → (∀ b o, s.heap.get? b = some o → g.get? b = some o) → Q (.ref (s.heap.objs.size + 1)) { s with heap := g }) :
    wpAny (model P w) B (call (.type "enumerate") [.ref q]) Q E s := by
  obtain ⟨⟨c, od, dt, sl⟩, hl, hc, k, hd⟩ := tup
  obtain rfl : c = .type "tuple" := hc
  obtain rfl : dt = .seq vs k := hd
  refine callType_new F.called_enumerate (by decide) (F.typeCall_enumerate_1 _) (F.newCall_enumerate_1 _) (fun x => F.args_object_init_2 x _) F.entry_enumerate_new (enumNewT q vs k od sl) ⟨hl, ?_⟩
  have size1 : (s.heap.push { cls := .type "tuple_iterator", data := .fields #[.ref q, .int 0 0] }).objs.size = s.heap.objs.size + 1 := Heap.size_push ..
  show _ ∧ _
  rw [size1]
  have made : IsEnum ((s.heap.push { cls := .type "tuple_iterator", data := .fields #[.ref q, .int 0 0] }).push { cls := .type "enumerate", data := .fields #[.none, .bool false, .ref s.heap.objs.size, rawInt 0, .none, .none] }) (s.heap.objs.size + 1) s.heap.objs.size 0 .none := by
    have e := Heap.get?_push_size (s.heap.push { cls := .type "tuple_iterator", data := .fields #[.ref q, .int 0 0] }) (o := { cls := .type "enumerate", data := .fields #[.none, .bool false, .ref s.heap.objs.size, rawInt 0, .none, .none] }) rfl
    rw [size1] at e
    exact e
  exact ⟨⟨_, made, rfl⟩, hQ _ made ⟨_, Heap.get?_push_of_some _ (Heap.get?_push_size _ rfl), rfl, rfl⟩ fun b o z => Heap.get?_push_of_some _ (Heap.get?_push_of_some _ z)⟩
/-- the tuple at q, each item in a new pair -/
def ItEt (K : PySem.W.Frag) (q : Addr) : It where
  go := fun i H => ∃ (xs : List V) (x : V), SqT K H q xs ∧ xs[i]? = some x
  yld := fun i H v H' => ∃ T x, v = .ref T ∧ H T = none ∧ H' = upd H T (.tup [.int (i : Nat), x]) ∧ ∀ xs, SqT K H q xs → xs[i]? = some x
  stop := fun i H => ∃ xs : List V, SqT K H q xs ∧ xs.length = i
theorem turn_enumT {P : Program} {w : World} {K : PySem.W.Frag} {tgs : List Expr} {kk : Nat} {tp : Pos} (q e z : Addr) :
    Turn P w K (.Tuple tgs kk tp) (ItEt K q) [e, z] e (fun i g => (∃ old, IsEnum g e z ((i : Nat) : Int) old) ∧ g.IsTupleIter z q i ∧ e ≠ z ∧ q ≠ z ∧ q ≠ e) := by
  refine ⟨List.mem_cons_self, fun i g st b hb => ?_, fun i g g' st k => ?_, ?_, ?_, fun B i s Q E st h => ?_⟩
  · obtain ⟨⟨old, he⟩, ⟨o, ho, hc, hd⟩, _⟩ := st
    rcases List.mem_cons.mp hb with y | y
    · rw [y]; exact ⟨_, he, fun v t => nomatch t⟩
    · rw [List.mem_singleton.mp y]; exact ⟨o, ho, fun v t => by rw [hd] at t; cases t⟩
  · obtain ⟨⟨old, he⟩, hz, ne⟩ := st
    exact ⟨⟨old, k e List.mem_cons_self _ he⟩, Heap.IsTupleIter.at hz fun o t => k z (List.mem_cons_of_mem _ List.mem_cons_self) o t, ne⟩
  · intro X hP hw hK hc i pins s σ H E I hf st hg
    subst hP hw hK
    obtain ⟨⟨old, he⟩, hz, ne, n1, n2⟩ := st
    obtain ⟨xs, x, hq, hx⟩ := hg
    obtain ⟨its, rv, p, len⟩ := I.tuple hq
    obtain ⟨u, hu, ru⟩ := rv.get hx
    have lt : i < its.toArray.size := by
      have := (List.getElem?_eq_some_iff.mp hu).1
      simpa using this
    have heL : e < s.heap.objs.size := Heap.lt_size he
    have hzL : z < s.heap.objs.size := by obtain ⟨_, t, _⟩ := hz; exact Heap.lt_size t
    refine wpAny_pyNext_enum_itemD (draws_tup (P := X.prog) (w := X.w) (B := X.A.in1) (show X.A.in1.handled = none from I.ok.hd hc) z q n1 its.toArray) he ⟨hz, tupIn p⟩ lt ne (by simp [ne, Ne.symm n2]) fun u' g tk hu' ho st' hT hsz hk => ?_
    have eu : u' = u := by
      have a : its.toArray[i]? = some u := by simpa using hu
      rw [a] at hu'
      exact (Option.some.inj hu').symm
    subst eu
    refine ⟨_, rfl, wpAny_letOwnedTupleGo_enum (s := { s with heap := g, toks := tk + 1 }) ho fun g2 he' sb => ?_⟩
    have hT2 : g2.get? s.heap.objs.size = some { cls := .type "tuple", data := .seq #[.int i tk, u'] } := (sb.2 _ (Nat.ne_of_gt heL)).trans hT
    have fresh : ObjOk X.prog X.w (upd H s.heap.objs.size (.tup [.int (i : Nat), x])) g2 s.heap.objs.size (.tup [.int (i : Nat), x]) := ⟨by show 2 ≤ sizeLine; decide, [.int i tk, u'], .cons ⟨_, rfl⟩ (.cons ru .nil), ⟨_, hT2, rfl, _, rfl⟩⟩
    have I1 : Inv X pins σ (upd H s.heap.objs.size (.tup [.int (i : Nat), x])) { s with heap := g2, toks := tk + 1 } :=
      I.turnedNew (ch := [e, z]) (fun b ob hb t => (sb.2 b (fun y => hb (by simp [y]))).trans (hk b ob (fun y => hb (by simp [y])) (fun y => hb (by simp [y])) t)) hf (Nat.le_refl _) fresh
    refine ⟨.ref s.heap.objs.size, _, I1, rfl, ⟨_, x, rfl, I.hok.fresh (Nat.le_refl _), rfl, fun ys hy => by rw [I.tuple_inj hy hq]; exact hx⟩, ⟨⟨u', ?_⟩, Heap.IsTupleIter.at st'.1 fun o t => (sb.2 z (Ne.symm ne)).trans t, ne, n1, n2⟩, fun b hb => ?_⟩
    · have e1 : ((i + 1 : Nat) : Int) = (i : Int) + 1 := by omega
      rw [e1]
      exact he'
    · have hb' : b < s.heap.objs.size := by
        rcases List.mem_cons.mp hb with y | y
        · rw [y]; exact heL
        · rw [List.mem_singleton.mp y]; exact hzL
      rw [upd_ne (Nat.ne_of_lt hb')]
      exact (hf b hb).1
  · intro X hP hw hK hc i pins s σ H E I hf st hg
    subst hP hw hK
    obtain ⟨⟨old, he⟩, hz, ne, n1, n2⟩ := st
    obtain ⟨xs, hq, hx⟩ := hg
    obtain ⟨its, rv, p, len⟩ := I.tuple hq
    obtain ⟨f0, f1, f2, f3, f4, f5⟩ := hf z (List.mem_cons_of_mem _ List.mem_cons_self)
    have hl : i = its.toArray.size := by
      have := rv.length
      simp
      omega
    have he0 : IsEnum s.heap e z ((its.toArray.size : Nat) : Int) old := hl ▸ he
    have hz0 : s.heap.IsTupleIter z q its.toArray.size := hl ▸ hz
    refine wpAny_pyNext_enum_endD (draws_tup (P := X.prog) (w := X.w) (B := X.A.in1) (show X.A.in1.handled = none from I.ok.hd hc) z q n1 its.toArray) he0 ⟨hz0, tupIn p⟩ fun g eb => ⟨rfl, I.turned (t' := s.toks) (fun b o hb t => eb b o hb t) f0 f1 f3 f4 f5⟩
  · obtain ⟨⟨_, he⟩, _⟩ := st
    exact wpAny_pyIter_enum he h
def iEnumT (K : PySem.W.Frag) (ta : TA) : TI := fun σ H R => ta σ H fun vs H1 => ∃ q xs, vs = [.ref q] ∧ SqT K H1 q xs ∧ R (ItEt K q) H1
theorem pi_enumT {X : Cx} {e : Expr} {ta : TA} {p pos tp : Pos} {tgs : List Expr} {kk : Nat} (hg : Gl X "enumerate") (hm : X.mg "enumerate" = none) (ha : PA X [e] ta) (hs : starEach [e] X.env = [(false, eval e X.env)] := by rfl) :
    PI X (.Tuple tgs kk tp) (.Call (.Name "enumerate" p) [e] [] pos) (iEnumT X.K ta) := by
  refine ⟨fun pins s σ H R I h => Call_ (ld_blt I hg hm boot_enumerate (PyProof.Rows.callWith_type1 (thn (ha.run pos pins s σ H _ I h) fun us s1 ⟨vs, H1, I1, r1, q1⟩ => ?_) hs rfl))⟩
  obtain ⟨a, xs, ex, hq, q⟩ := q1
  subst ex
  obtain ⟨u, rfl, ru⟩ := vals1 r1
  cases (show u = Value.ref a from ru)
  obtain ⟨its, rv, p', hz⟩ := I1.tuple hq
  have old : a < s1.heap.objs.size := by obtain ⟨o, e1, _⟩ := p'; exact Heap.lt_size e1
  refine callEnumT (tupIn p') fun g he hit hk => wpAny_pyIter_enum he ?_
  have I2 : Inv X pins σ H1 { s1 with heap := g } := I1.kept (t' := s1.toks) hk
  refine ⟨s1.heap.objs.size + 1, [s1.heap.objs.size + 1, s1.heap.objs.size], _, _, H1, rfl, I2, turn_enumT a (s1.heap.objs.size + 1) s1.heap.objs.size, ⟨⟨.none, he⟩, hit, Nat.succ_ne_self _, Nat.ne_of_lt old, Nat.ne_of_lt (Nat.lt_succ_of_lt old)⟩, fun b hb => ?_, q⟩
  have hle : s1.heap.objs.size ≤ b := by
    rcases List.mem_cons.mp hb with y | y
    · rw [y]; exact Nat.le_add_right _ _
    · rw [List.mem_singleton.mp y]; exact Nat.le_refl _
  exact I1.fpOk hle (I1.hok.fresh hle)
theorem walk_enumT {K : PySem.W.Frag} {q : Addr} {xs : List V} : Walk (ItEt K q) xs.length (fun H => SqT K H q xs) (YPair (fun i => some (.int (i : Nat))) (fun i => xs[i]?)) := by
  refine ⟨fun i _ hi h => ⟨xs, xs[i], h, by simp [hi]⟩, fun _ h => ⟨xs, h, rfl⟩, fun i H v H' _ h y => ?_⟩
  obtain ⟨T, x, h1, h2, h3, h4⟩ := y
  exact ⟨T, .int (i : Nat), x, h1, h2, h3, rfl, h4 xs h⟩
/-- enumerate of a list or a tuple -/
def iEnumA (K : PySem.W.Frag) (ta : TA) : TI := fun σ H R => iEnum K ta σ H R ∨ iEnumT K ta σ H R
theorem pi_enumA {X : Cx} {e : Expr} {ta : TA} {p pos tp : Pos} {tgs : List Expr} {kk : Nat} (hg : Gl X "enumerate") (hm : X.mg "enumerate" = none) (ha : PA X [e] ta) (hs : starEach [e] X.env = [(false, eval e X.env)] := by rfl) :
    PI X (.Tuple tgs kk tp) (.Call (.Name "enumerate" p) [e] [] pos) (iEnumA X.K ta) := PI.or (pi_enum hg hm ha hs) (pi_enumT hg hm ha hs)
end
section
variable {X : Cx} (K : PySem.W.Frag) (hK : X.K = K := by rfl)
include hK
theorem kEn {tg e : Expr} {ta : TA} (h : PI X tg e (iEnumA X.K ta)) : PI X tg e (iEnumA K ta) := hK ▸ h
end
end AT

set_option Elab.async false
set_option linter.all false
set_option maxRecDepth 100000
set_option maxHeartbeats 8000000
/-! own words, seventh part: a name that is set to a dict comprehension on its own line -/
namespace AT
open PySem L2 PySem.Spec PyProof.Rows
/-- whatever the block of the comprehension is -/
abbrev InBlk (X : Cx) (sc : Scope) (R : Cx → Prop) : Prop := ∀ s H C cl fp, R (X.blk s H sc (compEnvC sc cl C X.env) fp)
/-- the comprehension, with one for -/
abbrev DC1 (a b t e : Expr) (cs : List Expr) (sc : Scope) (o : Pos) : Expr := .DictComp a b [⟨t, e, cs, 0⟩] sc o
theorem ps_setDc {X : Cx} {i : Nat} {n : Str} {np o so : Pos} {a b t e : Expr} {cs : List Expr} {sc : Scope} {own : List (Str × Nat)} {wi : TI} {g : TG} {tt : TT} {ta tb : TE}
    (calm : X.calm = true) (nd : X.N.Nodup) (at' : X.N[i]? = some n) (loc : X.env.scope.names.lookup n = some .local) (sw : swapsWith (DC1 a b t e cs sc o) (some (.Name n np)) so.line X.env = pure true)
    (pi : PI X t e wi) (bk : BlkOk X.N X.env.scope sc own) (pg : InBlk X sc fun Y => PG Y t g) (pt : InBlk X sc fun Y => PTs Y cs tt) (pa : InBlk X sc fun Y => PE Y a ta) (pb : InBlk X sc fun Y => PE Y b tb)
    (fo : ∀ x, foldedSetIterable e X.env x = pure x := by intro _; rfl) : PS X (.Assign [.Name n np] (DC1 a b t e cs sc o) so) (tAsg (tDc wi g tt ta tb (own.map (·.2))) (gName i)) :=
  ⟨fun P s σ H D J w => by
    rw [exec_Assign_Name_used n np _ so sw]
    apply wpAny_bind; apply wpAny_standAt; apply wpAny_bind
    refine wpAny_bind (thn ?core fun _ s2 h2 => wpAny_pure (wpAny_pure h2))
    refine dc_core (Qf := fun _ s2 => SP X P D .next s2) (Q := fun x H1 => gName i x σ H1 D.nx) calm nd J pi bk pg pt pa pb fo w fun L C s2 m H2 J2 h2 ns fp => ?_
    refine wpAny_assign_Name (store_ok2 (v := V.ref L) J2 nd at' (.inl loc) rfl (fun s3 J3 ⟨z, but, or⟩ => ⟨m, ns.sameBut but (or.elim (fun y => y ▸ fp.2.1) fun y q => fp.2.2.2.2.1 n z y q.symm), fun h4 but4 => ?_⟩) (.inr loc))
    exact ⟨_, H2, J3.turned (t' := s3.toks) (fun c u hc y => (but4.2 c hc).trans y) fp.1 fp.2.1 fp.2.2.2.1 fp.2.2.2.2.1 fp.2.2.2.2.2, h2⟩⟩
theorem sw_trueD {a b : Expr} {gs : List Comprehension} {sc : Scope} {o np : Pos} {n : Str} {l : Nat} {env : Env} (fn : env.scope.kind = .function) (loc : env.scope.names.lookup n = some .local) (ln : (np.line == o.line) = true)
    (no : (sc.names.any fun (m, k) => m == n && (k == .local || k == .cell)) = false) : swapsWith (.DictComp a b gs sc o) (some (.Name n np)) l env = pure true := by
  have k1 : env.kindOf n = some .local := loc
  have k2 : env.blockKind = .function := by simp only [Env.blockKind, fn]; decide
  simp only [swapsWith, k1, k2, no, Expr.pos, ln]
  rfl
end AT

set_option Elab.async false
set_option linter.all false
set_option maxRecDepth 100000
set_option maxHeartbeats 4000000
/-! own words, eighth part: defs and lambdas with captured names as values, called by whoever holds them -/
namespace AT
open PySem PySem.Spec PyProof.Rows L2 LamX NdefX
/-! ### cells that stand still -/
def frC (c : Addr) (o : Obj) : HO := .frz o (.ext fun h => h.get? c = some o)
theorem frC_ok {P : Program} {w : World} {H : Hp} {h : Heap} {c : Addr} {o : Obj} (e : h.get? c = some o) : ObjOk P w H h c (frC c o) :=
  ⟨e, e, ⟨o, e⟩, fun _ _ q k => k o q⟩
def fz (as : List Addr) (O : Addr → Obj) (H : Hp) : Hp := fun b => if b ∈ as then some (frC b (O b)) else H b
def rz (as : List Addr) (H H' : Hp) : Hp := fun b => if b ∈ as then H b else H' b
section
variable {as : List Addr} {O : Addr → Obj} {H H' : Hp} {b : Addr} {P : Program} {w : World} {h h' : Heap} {fs : List Addr}
theorem fz_in (hb : b ∈ as) : fz as O H b = some (frC b (O b)) := if_pos hb
theorem fz_at (hb : b ∉ as) : fz as O H b = H b := if_neg hb
theorem rz_in (hb : b ∈ as) : rz as H H' b = H b := if_pos hb
theorem rz_at (hb : b ∉ as) : rz as H H' b = H' b := if_neg hb
theorem fz_ex (W : ∀ c ∈ as, H c = none) : Ex H (fz as O H) := fun b o e => by
  rw [fz_at fun z => by rw [W b z] at e; cases e]
  exact e
theorem fz_hid (W : ∀ c ∈ as, H c = none) : hid as (fz as O H) = H := by
  funext b
  by_cases hb : b ∈ as
  · rw [hid_in hb, W b hb]
  · rw [hid_at hb, fz_at hb]
theorem rz_ex (e : Ex (hid as H) H') : Ex H (rz as H H') := fun b o q => by
  by_cases hb : b ∈ as
  · rw [rz_in hb]; exact q
  · rw [rz_at hb]; exact e b o (by rw [hid_at hb]; exact q)
theorem hok_fz (ok : HOk P w H h) (W : ∀ c ∈ as, h.get? c = some (O c) ∧ H c = none) : HOk P w (fz as O H) h := fun a o e => by
  have nin : ∀ {b u}, H b = some u → b ∉ as := fun {b u} q z => by rw [(W b z).2] at q; cases q
  by_cases ha : a ∈ as
  · rw [fz_in ha] at e
    cases e
    exact frC_ok (W a ha).1
  · rw [fz_at ha] at e
    exact (ok a o e).stay (fun _ _ _ z => z) (fun b q => by rw [fz_at (nin q)]; exact q) fun b xs q => by rw [fz_at (nin q)]; exact q
theorem hok_hid (ok : HOk P w H h) (W : ∀ c ∈ as, ∃ o u, H c = some (.frz o u)) : HOk P w (hid as H) h := fun a o e => by
  have nin : ∀ {b u}, H b = some u → (∀ o v, u ≠ .frz o v) → b ∉ as := fun {b u} q n z => by
    obtain ⟨o, v, e⟩ := W b z
    rw [q] at e
    exact n o v (Option.some.inj e)
  refine (ok a o (hid_some e).2).stay (fun _ _ _ z => z) (fun b q => ?_) fun b xs q => ?_
  · rw [hid_at (nin q fun o v z => by cases z)]; exact q
  · rw [hid_at (nin q fun o v z => by cases z)]; exact q
/-- behind a call that was told of the frame's own cells -/
theorem un_hid (W : ∀ c ∈ as, h.get? c = some (O c) ∧ H c = none) (u : Un fs [] (fz as O H) H' h h') (ok : HOk P w H' h') : Un fs [] H (hid as H') h h' := by
  have same : ∀ c, c ∈ as → h'.get? c = some (O c) := fun c hc => (ok c _ (u.frzs c _ _ (fz_in hc))).1
  have nin : ∀ {b v}, H b = some v → b ∉ as := fun {b v} q z => by rw [(W b z).2] at q; cases q
  have here : ∀ {b o}, h.get? b = some o → b ∈ as → h'.get? b = some o := fun {b o} e hb => by
    have q := (W b hb).1
    rw [e] at q
    rw [same b hb, Option.some.inj q]
  refine ⟨fun b o e n nf nx => ?_, fun b o e n nf nx => ?_, fun b o e n nx => ?_, u.there, fun b xs q => ?_, fun b o v q => ?_, fun b ps q => ?_⟩
  · by_cases hb : b ∈ as
    · exact here e hb
    · exact u.keep b o e (by rw [fz_at hb]; exact n) nf nx
  · by_cases hb : b ∈ as
    · exact ⟨o.slots, here e hb⟩
    · exact u.slot b o e (by rw [fz_at hb]; exact n) nf nx
  · by_cases hb : b ∈ as
    · exact hid_in hb
    · rw [hid_at hb]; exact u.free b o e (by rw [fz_at hb]; exact n) nx
  · rw [hid_at (nin q)]; exact u.tups b xs (by rw [fz_at (nin q)]; exact q)
  · rw [hid_at (nin q)]; exact u.frzs b o v (by rw [fz_at (nin q)]; exact q)
  · obtain ⟨m, z⟩ := u.tbls b ps (by rw [fz_at (nin q)]; exact q)
    exact ⟨m, by rw [hid_at (nin q)]; exact z⟩
/-- behind the call of a function whose cells stood still -/
theorem un_rz (W : ∀ c ∈ as, ∃ o, H c = some (frC c o) ∧ h.get? c = some o ∧ c ∉ fs) (u : Un fs [] (hid as H) H' h h') : Un fs [] H (rz as H H') h h' := by
  have nin : ∀ {b : Addr}, H b = none → b ∉ as := fun {b} q z => by
    obtain ⟨o, e, _⟩ := W b z
    rw [q] at e; cases e
  refine ⟨fun b o e n nf nx => ?_, fun b o e n nf nx => ?_, fun b o e n nx => ?_, u.there, fun b xs q => ?_, fun b o v q => ?_, fun b ps q => ?_⟩
  · exact u.keep b o e (by rw [hid_at (nin n)]; exact n) nf nx
  · exact u.slot b o e (by rw [hid_at (nin n)]; exact n) nf nx
  · rw [rz_at (nin n)]; exact u.free b o e (by rw [hid_at (nin n)]; exact n) nx
  all_goals by_cases hb : b ∈ as
  · rw [rz_in hb]; exact q
  · rw [rz_at hb]; exact u.tups b xs (by rw [hid_at hb]; exact q)
  · rw [rz_in hb]; exact q
  · rw [rz_at hb]; exact u.frzs b o v (by rw [hid_at hb]; exact q)
  · rw [rz_in hb]; exact ⟨#[], by rw [q]; simp⟩
  · rw [rz_at hb]; exact u.tbls b ps (by rw [hid_at hb]; exact q)
theorem hok_rz (W : ∀ c ∈ as, ∃ o, H c = some (frC c o) ∧ h.get? c = some o ∧ c ∉ fs) (u : Un fs [] (hid as H) H' h h') (ok : HOk P w H' h') : HOk P w (rz as H H') h' := fun a o e => by
  have gone : ∀ c, c ∈ as → H' c = none := fun c hc => by
    obtain ⟨o, _, e2, _⟩ := W c hc
    exact u.free c o e2 (hid_in hc) (by simp)
  have nin : ∀ {b v}, H' b = some v → b ∉ as := fun {b v} q z => by rw [gone b z] at q; cases q
  by_cases ha : a ∈ as
  · obtain ⟨o', e1, e2, nf⟩ := W a ha
    rw [rz_in ha, e1] at e
    cases e
    exact frC_ok (u.keep a o' e2 (hid_in ha) nf (by simp))
  · rw [rz_at ha] at e
    exact (ok a o e).stay (fun _ _ _ z => z) (fun b q => by rw [rz_at (nin q)]; exact q) fun b xs q => by rw [rz_at (nin q)]; exact q
end
/-! ### what holds a function -/
/-- what never changes while it is tracked so -/
def isX : HO → Prop
  | .ext _ => True
  | .frz _ _ => True
  | _ => False
def StX (H H' : Hp) : Prop := ∀ b o, H b = some o → isX o → H' b = some o
theorem StX.of_ex {H H' : Hp} (e : Ex H H') : StX H H' := fun b o q _ => e b o q
theorem StX.of_kp {S : List Addr} {H H' : Hp} (k : Kp S H H') (n : ∀ b ∈ S, ∀ o, H b = some o → ¬ isX o) : StX H H' := fun b o q x => k b o (fun z => n b z o q x) q
/-- f is a function that keeps sp where G stands -/
structure FV (P : Program) (w : World) (K : PySem.W.Frag) (mg : Str → Option Value) (base : Heap) (k : Nat) (f : Addr) (G : Hp → Prop) (sp : List V → Hp → VK → Prop) : Prop where
  fn : ∀ (H : Hp) (h : Heap), HOk P w H h → G H → PySem.W.FnAt f h
  st : ∀ H H', StX H H' → G H → G H'
  run : ∀ (A : Around) (outer : List Env) (s : Shared) (H : Hp) (us : List Value) (vs : List V) (Q : VK), Room k A → Env0 P w K mg base A outer s H → G H → Vals vs us → sp vs H Q →
    codeAny (model P w) A (.call (.ref f) ⟨us, []⟩) (CR L2.CX0 outer P w H s Q L2.E0) s
theorem FV.mono {P : Program} {w : World} {K : PySem.W.Frag} {mg : Str → Option Value} {base : Heap} {j k : Nat} {f : Addr} {G : Hp → Prop} {sp : List V → Hp → VK → Prop} (F : FV P w K mg base j f G sp) (h : j ≤ k) : FV P w K mg base k f G sp :=
  ⟨F.fn, F.st, fun A outer s H us vs Q hr => F.run A outer s H us vs Q (hr.mono h)⟩
def tCallQ (P : Program) (w : World) (K : PySem.W.Frag) (mg : Str → Option Value) (base : Heap) (k i : Nat) (t : TA) : TE := fun σ H Q => ∃ (f : Addr) (G : Hp → Prop) (sp : List V → Hp → VK → Prop), σ[i]? = some (some (.ref f)) ∧ FV P w K mg base k f G sp ∧ G H ∧ t σ H fun vs H1 => G H1 ∧ sp vs H1 Q
section
variable {X : Cx} {k i : Nat} {x : Str} {p pos : Pos} {e : Expr} {es : List Expr} {t : TA}
theorem run_fv {pins : List (Addr × Obj)} {σ : L2.St} {H : Hp} {s : Shared} {Q : VK} {f : Addr} {G : Hp → Prop} {sp : List V → Hp → VK → Prop} {us : List Value} {vs : List V} (F : FV X.prog X.w X.K X.mg X.base k f G sp) (hr : Room k X.A) (I : Inv X pins σ H s) (g : G H) (r : Vals vs us) (q : sp vs H Q) :
    wpAny (model X.prog X.w) X.A (call (.ref f) us) (EP X pins σ Q) X.xe s := by
  refine wpAny_call (codeAny_mono (F.run X.A X.stack s H us vs Q hr I.env0 g r q) fun res s' z => ?_)
  match res, z with
  | .error e, z => exact z.elim
  | .ok (.ret u), z => exact I.after z
  | .ok .next, z => exact z.elim
  | .ok .brk, z => exact z.elim
  | .ok .cont, z => exact z.elim
/-- x(..), x a name that holds a function -/
theorem pe_callQ (hr : Room k X.A) (hN : X.N[i]? = some x) (hv : Vis X.env.scope x) (ha : PA X (e :: es) t) (hd : (x == ("__debug__" : Str)) = false := by decide) (hcd : (x == ("__classdict__" : Str)) = false := by decide)
    (he : starEach (e :: es) X.env = (false, eval e X.env) :: starEach es X.env := by rfl) (hpl : (backTo pos (starEach es X.env)).any (·.1) = false := by rfl) : PE X (.Call (.Name x p) (e :: es) [] pos) (tCallQ X.prog X.w X.K X.mg X.base k i t) := by
  constructor
  intro pins s σ H Q I q
  obtain ⟨f, G, sp, hs, F, g, ht⟩ := q
  have hx := (pe_var (pos := p) hN hv hd hcd).run pins s σ H (fun v H1 => v = .ref f ∧ H1 = H) I ⟨_, hs, rfl, rfl⟩
  refine wpAny_Call_Name_kw (thn hx fun u s1 z => ?_)
  obtain ⟨v, H1, I1, rv, ev, eH⟩ := z
  subst ev eH
  obtain rfl : u = .ref f := rv
  refine PySem.W.callWith_F (first := []) (F.fn _ _ I1.hok g) (thn (ha.run pos pins s1 σ _ _ I1 ht) fun us s2 z => ?_) he hpl
  obtain ⟨vs, H2, I2, r, g2, q⟩ := z
  exact ⟨F.fn _ _ I2.hok g2, run_fv F hr I2 g2 r q⟩
end
/-! ### a frame's own cells, told to a callee -/
def ca (X : Cx) : List Addr := X.env.cells.filterMap fun p => X.env.cells.lookup p.1
theorem mem_ca {X : Cx} {c : Addr} : c ∈ ca X ↔ ∃ y, X.env.cells.lookup y = some c := by
  unfold ca
  rw [List.mem_filterMap]
  constructor
  · rintro ⟨p, _, e⟩
    exact ⟨_, e⟩
  · rintro ⟨y, e⟩
    exact ⟨(y, c), PySem.mem_of_lookup e, e⟩
structure OwnC (X : Cx) (σ : L2.St) (O : Addr → Obj) (H : Hp) : Prop where
  inj : ∀ x y c, X.env.cells.lookup x = some c → X.env.cells.lookup y = some c → x = y
  has : ∀ x, (X.env.kindOf x = some .cell ∨ X.env.kindOf x = some .free) → ∃ c, X.env.cells.lookup x = some c
  non : ∀ c ∈ ca X, H c = none
  dat : ∀ c ∈ ca X, ∃ v, (O c).data = .cell v
  val : ∀ (i : Nat) y v c, X.N[i]? = some y → σ[i]? = some (some v) → (X.env.scope.names.lookup y = some .cell ∨ X.env.scope.names.lookup y = some .free) → X.env.cells.lookup y = some c → ∃ u, L2.RelV v u ∧ (O c).data = .cell (some u)
def tCallZ (X : Cx) (sp : Sp) (t : TA) : TE := fun σ H Q => t σ H fun vs H1 => ∀ O, OwnC X σ O H1 → sp vs (fz (ca X) O H1) (fun v H2 => Q v (hid (ca X) H2)) L2.E0
section
variable {X : Cx} {k : Nat} {f : Addr} {fd : FuncData} {ps : List Str} {sp : Sp} {x : Str} {p pos : Pos} {e : Expr} {es : List Expr} {t : TA}
theorem own_of {pins : List (Addr × Obj)} {σ : L2.St} {H : Hp} {s : Shared} (I : Inv X pins σ H s) (hfn : ∀ y, X.fn y = true) :
    ∃ O : Addr → Obj, OwnC X σ O H ∧ (∀ c ∈ ca X, s.heap.get? c = some (O c) ∧ H c = none) ∧ (∀ c ∈ ca X, X.base.get? c = none) ∧ ∀ c ∈ ca X, c ∉ frs X.stack := by
  have at_ : ∀ c ∈ ca X, ∃ o v, s.heap.get? c = some o ∧ o.data = .cell v := fun c hc => by
    obtain ⟨y, e⟩ := mem_ca.mp hc
    obtain ⟨v, o, ho, hd⟩ := I.cell y c e
    exact ⟨o, v, ho, hd⟩
  have up : ∀ c ∈ ca X, X.s_0.heap.objs.size ≤ c := fun c hc => by
    obtain ⟨y, e⟩ := mem_ca.mp hc
    exact I.ok.cab y c (hfn y) e
  have nn : ∀ c ∈ ca X, H c = none := fun c hc => by
    obtain ⟨y, e⟩ := mem_ca.mp hc
    exact I.freeC y c e
  let O : Addr → Obj := fun c => (s.heap.get? c).getD default
  have hO : ∀ {c o}, s.heap.get? c = some o → O c = o := fun {c o} e => by
    show (s.heap.get? c).getD default = o
    rw [e]; rfl
  refine ⟨O, ⟨I.ok.inj, I.ok.has, nn, fun c hc => ?_, fun i y v c e1 e2 hk e3 => ?_⟩, fun c hc => ?_, fun c hc => ?_, fun c hc z => ?_⟩
  · obtain ⟨o, v, ho, hd⟩ := at_ c hc
    exact ⟨v, by rw [hO ho]; exact hd⟩
  · obtain ⟨m, _, hl⟩ := I.loc
    obtain ⟨u, r, l⟩ := hl i y v e1 e2 (hk.elim (fun z => .inr (.inl z)) fun z => .inr (.inr z))
    rcases l with ⟨z, _⟩ | ⟨_, c', e', o, ho, hd⟩
    · have z' : X.env.scope.names.lookup y = some .local := z
      rcases hk with hk | hk <;> rw [hk] at z' <;> cases z'
    · rw [e3] at e'
      cases e'
      exact ⟨u, r, by rw [hO ho]; exact hd⟩
  · obtain ⟨o, v, ho, hd⟩ := at_ c hc
    exact ⟨by rw [hO ho]; exact ho, nn c hc⟩
  · exact Heap.get?_none_of_le (Nat.le_trans I.ok.bsz (up c hc))
  · rcases List.mem_cons.mp (I.stkSub _ z) with e | hb
    · obtain ⟨y, e2⟩ := mem_ca.mp hc
      exact I.cne y c e2 e
    · obtain ⟨_, o, ho, _⟩ := I.ok.funs.mem hb
      exact Nat.lt_irrefl _ (Nat.lt_of_lt_of_le (Heap.lt_size ho) (up c hc))
/-- a call that hands on functions which captured this frame's names -/
theorem pe_callZ (F : FnOk X.prog X.w X.K X.mg X.base L2.CX0 k f fd ps sp) (hr : Room k X.A) (B : Own X.K X.mg x f fd ps) (hfn : ∀ y, X.fn y = true) (ha : PA X (e :: es) t) (hg : Gl X x := by rfl)
    (hdb : (x == ("__debug__" : Str)) = false := by decide) (he : starEach (e :: es) X.env = (false, eval e X.env) :: starEach es X.env := by rfl) (hpl : (backTo pos (starEach es X.env)).any (·.1) = false := by rfl) :
    PE X (.Call (.Name x p) (e :: es) [] pos) (tCallZ X sp t) := by
  constructor
  intro pins s σ H Q I q
  refine wpAny_Call_Name_kw (ld_glob I hg B.g ?_ hdb)
  refine PySem.W.callWith_K (h₀ := X.base) I.ok.mod.kin B.k (thn (ha.run pos pins s σ H _ I q) fun us s2 z => ?_) he hpl
  obtain ⟨vs, H2, I2, r, q2⟩ := z
  refine ⟨I2.kIn, ?_⟩
  obtain ⟨O, ow, W, nb, nf⟩ := own_of I2 hfn
  have q3 := q2 O ow
  have hl : us.length = ps.length := by rw [← r.length]; exact F.len _ _ _ _ q3
  have e0 := I2.env0
  have e1 : Env0 X.prog X.w X.K X.mg X.base X.A X.stack s2 (fz (ca X) O H2) := by
    refine ⟨e0.frames, e0.mod, fun b o z => ⟨(e0.bs b o z).1, ?_⟩, e0.bsz, e0.funs, fun b hb => ?_, hok_fz e0.hok W, e0.bare⟩
    · rw [fz_at fun m => by rw [nb b m] at z; cases z]
      exact (e0.bs b o z).2
    · rw [fz_at fun m => nf b m hb]
      exact e0.frf b hb
  have hb0 := B.b s2 us I2.kIn (by rw [List.append_nil]; exact hl)
  rw [List.append_nil] at hb0
  refine wpAny_call (codeAny_mono (F.run X.A X.stack s2 _ ⟨us, []⟩ us vs _ L2.E0 hr e1 hb0 r q3) fun res s' z => ?_)
  match res, z with
  | .error e, z => exact z.elim
  | .ok (.ret u), z =>
    obtain ⟨v, H', os, bare, un, hok, rv, qv⟩ := z
    refine I2.after ⟨v, hid (ca X) H', os, bare, un_hid W un hok, hok_hid hok fun c hc => ⟨_, _, un.frzs c _ _ (fz_in hc)⟩, rv, qv⟩
  | .ok .next, z => exact z.elim
  | .ok .brk, z => exact z.elim
  | .ok .cont, z => exact z.elim
end
/-! ### what a made function leans on -/
structure Clo (H : Hp) (f : Addr) (o : HO) (c : Addr) (q : Str) (cl : List (Str × Addr)) (fr : List Str) (ws : List (Option V)) : Prop where
  fn : H f = some o
  code : H c = some (CodeO c q)
  cel : ∀ a ∈ cl.map (·.2), ∃ u, H a = some (frC a u) ∧ ∃ v, u.data = .cell v
  inj : ∀ x y a, cl.lookup x = some a → cl.lookup y = some a → x = y
  len : ws.length = fr.length
  has : ∀ (i : Nat) (y : Str), fr[i]? = some y → ∃ a, cl.lookup y = some a ∧ ∀ v, ws[i]? = some (some v) → ∃ u o, H a = some (frC a o) ∧ L2.RelV v u ∧ o.data = .cell (some u)
theorem Clo.st {H H' : Hp} {f c : Addr} {o : HO} {q : Str} {cl : List (Str × Addr)} {fr : List Str} {ws : List (Option V)} (h : Clo H f o c q cl fr ws) (ho : isX o) (s : StX H H') : Clo H' f o c q cl fr ws :=
  ⟨s _ _ h.fn ho, s _ _ h.code True.intro, fun a ha => let ⟨u, e, r⟩ := h.cel a ha; ⟨u, s _ _ e True.intro, r⟩, h.inj, h.len, fun i y e => let ⟨a, e1, r⟩ := h.has i y e; ⟨a, e1, fun v ev => let ⟨u, o, e2, r2⟩ := r v ev; ⟨u, o, s _ _ e2 True.intro, r2⟩⟩⟩
/-- of the frame that made it -/
theorem clo_made {X : Cx} {σ : L2.St} {O : Addr → Obj} {H : Hp} {scope : Scope} {f c : Addr} {o : HO} {q : Str} {fr : List Str} {js : List Nat} (ow : OwnC X σ O H) (hf : H f = some o) (hc : H c = some (CodeO c q)) (hb : ndefB X.env.scope scope fr = true) (hjs : js.map (fun j => X.N[j]?) = fr.map some) :
    Clo (fz (ca X) O H) f o c q (cloFrom X.env.cells scope.names []) fr (js.map (slotAt σ)) := by
  have hfree : ∀ y ∈ scope.names, y.2 = .free → ∃ a, X.env.cells.lookup y.1 = some a := fun y hy e => ow.has _ (ndef_free hb y hy e)
  have up : ∀ {a u}, H a = some u → fz (ca X) O H a = some u := fun {a u} e => fz_ex ow.non a u e
  refine ⟨up hf, up hc, fun a ha => ?_, fun x y a e1 e2 => ow.inj x y a (clo_cm hfree e1) (clo_cm hfree e2), ?_, fun i y e => ?_⟩
  · obtain ⟨⟨y, a'⟩, hm, rfl⟩ := List.mem_map.mp ha
    obtain ⟨h1, h2⟩ := (cloFrom_mem hm).resolve_left (by simp)
    obtain ⟨a1, ha1⟩ := hfree _ h1 rfl
    have ha1 : X.env.cells.lookup y = some a1 := ha1
    have e : a' = a1 := by rw [h2, ha1]; rfl
    subst e
    have hi : a' ∈ ca X := mem_ca.mpr ⟨y, ha1⟩
    exact ⟨O a', fz_in hi, ow.dat a' hi⟩
  · have q := congrArg List.length hjs
    rw [List.length_map, List.length_map] at q
    rw [List.length_map]; exact q
  · have e2 : (js.map fun j => X.N[j]?)[i]? = some (some y) := by rw [hjs, List.getElem?_map, e]; rfl
    rw [List.getElem?_map] at e2
    obtain ⟨j, ej, hj⟩ : ∃ j, js[i]? = some j ∧ X.N[j]? = some y := by
      cases ej : js[i]? with
      | none => rw [ej] at e2; cases e2
      | some j => rw [ej] at e2; exact ⟨j, rfl, Option.some.inj e2⟩
    have hy : (y, NameKind.free) ∈ scope.names := ndef_fr hb y (List.mem_of_getElem? e)
    have hk := ndef_free hb _ hy rfl
    obtain ⟨a, ha⟩ := ow.has y hk
    refine ⟨a, clo_has hfree hy ha, fun v ev => ?_⟩
    rw [List.getElem?_map, ej] at ev
    obtain ⟨u, r, d⟩ := ow.val j y v a hj (slotAt_some (Option.some.inj ev)) hk ha
    exact ⟨u, O a, fz_in (mem_ca.mpr ⟨y, ha⟩), r, d⟩
section
variable {P : Program} {w : World} {K : PySem.W.Frag} {mg : Str → Option Value} {base : Heap} {A : Around} {outer : List Env} {s : Shared} {H : Hp}
theorem env0_hid {as : List Addr} (e0 : Env0 P w K mg base A outer s H) (W : ∀ c ∈ as, ∃ o u, H c = some (.frz o u)) : Env0 P w K mg base A outer s (hid as H) := by
  refine ⟨e0.frames, e0.mod, fun b o z => ⟨(e0.bs b o z).1, ?_⟩, e0.bsz, e0.funs, fun b hb => ?_, hok_hid e0.hok W, e0.bare⟩
  · by_cases hb : b ∈ as
    · exact hid_in hb
    · rw [hid_at hb]; exact (e0.bs b o z).2
  · by_cases m : b ∈ as
    · exact hid_in m
    · rw [hid_at m]; exact e0.frf b hb
theorem Clo.cells {f c : Addr} {o : HO} {q : Str} {cl : List (Str × Addr)} {fr : List Str} {ws : List (Option V)} (h : Clo H f o c q cl fr ws) (hok : HOk P w H s.heap) : CellsAt cl fr ws s.heap (hid (cl.map (·.2)) H) := by
  refine ⟨h.len, fun y a e => ?_, h.inj, fun i y e => ?_⟩
  · have ha : a ∈ cl.map (·.2) := List.mem_map.mpr ⟨(y, a), PySem.mem_of_lookup e, rfl⟩
    obtain ⟨u, e1, v, hd⟩ := h.cel a ha
    exact ⟨hid_in ha, v, u, (hok a _ e1).1, hd⟩
  · obtain ⟨a, e1, r⟩ := h.has i y e
    refine ⟨a, e1, fun v ev => ?_⟩
    obtain ⟨u, o, e2, rv, hd⟩ := r v ev
    exact ⟨u, rv, o, (hok a _ e2).1, hd⟩
/-- back from the function's own heap -/
theorem cr_rz {as : List Addr} {Q : VK} {res : Result} {s' : Shared} (e0 : Env0 P w K mg base A outer s H) (W : ∀ c ∈ as, ∃ o, H c = some (frC c o)) (z : CR L2.CX0 outer P w (hid as H) s (fun v H' => (∀ b ∈ as, H' b = none) → Q v (rz as H H')) L2.E0 res s') : CR L2.CX0 outer P w H s Q L2.E0 res s' := by
  match res, z with
  | .error e, z => exact z
  | .ok .next, z => exact z
  | .ok .brk, z => exact z
  | .ok .cont, z => exact z
  | .ok (.ret u), z =>
    obtain ⟨v, H', os, bare, un, hok, rv, q⟩ := z
    have W' : ∀ c ∈ as, ∃ o, H c = some (frC c o) ∧ s.heap.get? c = some o ∧ c ∉ frs outer := fun c hc => by
      obtain ⟨o, e⟩ := W c hc
      exact ⟨o, e, (e0.hok c _ e).1, fun m => by rw [e0.frf c m] at e; cases e⟩
    exact ⟨v, rz as H H', os, bare, un_rz W' un, hok_rz W' un hok, rv, q fun c hc => let ⟨o, _, e2, _⟩ := W' c hc; un.free c o e2 (hid_in hc) (by simp)⟩
end
section
variable {P : Program} {w : World} {K : PySem.W.Frag} {mg : Str → Option Value} {base : Heap} {k : Nat} {f : Addr} {ps fr : List Str} {ws : List (Option V)}
/-- a nested def as a value -/
theorem FV.of_nok {F : NF} {sp : List (Option V) → Sp} (N : NOk P w K mg base L2.CX0 k f F ps fr sp) :
    FV P w K mg base k f (fun H => Clo H f (FnO f F) F.c F.qual F.cl fr ws) (fun vs H Q => sp ws vs (hid (F.cl.map (·.2)) H) (fun v H' => (∀ b ∈ F.cl.map (·.2), H' b = none) → Q v (rz (F.cl.map (·.2)) H H')) L2.E0) := by
  refine ⟨fun H h ok g => ?_, fun H H' st g => g.st True.intro st, fun A outer s H us vs Q hr e0 g r q => ?_⟩
  · obtain ⟨od, sl, doc, pm, ctv, ho⟩ := fnO_at ok g.fn
    exact ⟨_, od, _, sl, ho⟩
  · have W : ∀ c ∈ F.cl.map (·.2), ∃ o, H c = some (frC c o) := fun c hc => let ⟨u, e, _⟩ := g.cel c hc; ⟨u, e⟩
    have nin : ∀ {b φ}, H b = some (.ext φ) → b ∉ F.cl.map (·.2) := fun {b φ} e m => by
      obtain ⟨u, z⟩ := W b m
      rw [e] at z; cases z
    have e1 := env0_hid e0 fun c hc => let ⟨u, e⟩ := W c hc; ⟨_, _, e⟩
    refine codeAny_mono (N.run A outer s _ us vs ws _ L2.E0 hr e1 ?_ ?_ (g.cells e0.hok) r q) fun res s' z => cr_rz e0 W z
    · rw [hid_at (nin g.fn)]; exact g.fn
    · rw [hid_at (nin g.code)]; exact g.code
/-! ### lambdas -/
/-- the object at f is the lambda F, its body an expression -/
def FnE (f : Addr) (F : NF) (body : Expr) : HO := .ext fun h => ∃ pm ctv, h.get? f = some (PySem.W.kla_obj F.name F.qual F.params body F.scope F.cl pm F.c ctv)
theorem FV.of_lam {N : List Str} {F : NF} {body : Expr} {sp : List (Option V) → Sp} (S : NScope N ps fr F.scope) (hb : ∀ (pm ctv : Value) (us : List Value), us.length = ps.length → bindArgs (PySem.W.kla_fn F.name F.qual F.params body F.scope F.cl pm (.ref F.c) ctv) ⟨us, []⟩ = pure (ps.zip us))
    (len : ∀ ws vs H Q E, sp ws vs H Q E → vs.length = ps.length)
    (hbody : ∀ (A : Around) (outer : List Env) (s : Shared) (H : Hp) (vs : List V) (Q : VK), Room k (A.deeper (envF F f s.heap.objs.size)) → ws.length = fr.length → sp ws vs H Q L2.E0 → ∃ t, PE (ncx L2.CX0 P w K mg base N F f A outer s H L2.E0) body t ∧ t (startF N vs ws) H Q) :
    FV P w K mg base (k + 1) f (fun H => Clo H f (FnE f F body) F.c F.qual F.cl fr ws) (fun vs H Q => sp ws vs (hid (F.cl.map (·.2)) H) (fun v H' => (∀ b ∈ F.cl.map (·.2), H' b = none) → Q v (rz (F.cl.map (·.2)) H H')) L2.E0) := by
  refine ⟨fun H h ok g => ?_, fun H H' st g => g.st True.intro st, fun A outer s H us vs Q hr e0 g r q => ?_⟩
  · obtain ⟨⟨pm, ctv, ho⟩, _⟩ := ok f _ g.fn
    exact ⟨_, _, _, _, ho⟩
  · have W : ∀ c ∈ F.cl.map (·.2), ∃ o, H c = some (frC c o) := fun c hc => let ⟨u, e, _⟩ := g.cel c hc; ⟨u, e⟩
    have e1 := env0_hid e0 fun c hc => let ⟨u, e⟩ := W c hc; ⟨_, _, e⟩
    obtain ⟨⟨pm, ctv, ho⟩, _⟩ := e0.hok f _ g.fn
    have hco := codeO_at e0.hok g.code
    have hl := len _ _ _ _ _ q
    have lim : s.heap.NoLimit := e0.mod.nolimit.keeps fun b o e => (e0.bs b o e).1
    have C := g.cells e0.hok
    suffices h : codeAny (model P w) A (.call (.ref f) ⟨us, []⟩) (CR L2.CX0 outer P w (hid (F.cl.map (·.2)) H) s (fun v H' => (∀ b ∈ F.cl.map (·.2), H' b = none) → Q v (rz (F.cl.map (·.2)) H H')) L2.E0) s from codeAny_mono h fun res s' z => cr_rz e0 W z
    refine PySem.W.kla_callFunE hr.depth ho rfl S.co S.gen rfl hco ?_
    rw [hb pm ctv us (by rw [← r.length]; exact hl)]
    refine wpAny_pure (wpAny_newFunctionEnv S.nocell (fun y hy => S.par y.1 (List.of_mem_zip (show (y.1, y.2) ∈ ps.zip us from hy)).1) (fun h₁ hns hsb => ⟨lim.fresh _ hsb, ?_⟩) S.kind)
    have kp : ∀ b o, s.heap.get? b = some o → h₁.get? b = some o := fun b o e => hsb.extBut b o (Nat.ne_of_lt (Heap.lt_size e)) (Heap.get?_push_of_some _ e)
    obtain ⟨t, ht, hq⟩ := hbody A outer s _ vs _ (hr.deeper _) g.len q
    have I := inv_startN (N := N) (F := F) (f := f) (CX := L2.CX0) (E := L2.E0) (tk := s.toks + (ps.zip us).length) S hr.hd e1 hl r C hns kp
    refine PySem.W.kla_codeExpr (wpAny_mono (ht.run [] _ _ _ _ I hq) (fun v s' z => ?_) fun e s' z => z)
    obtain ⟨v', H', J, rv, qv⟩ := z
    exact ⟨v', H', J.os, J.bare, J.base, J.hok, rv, qv⟩
end
end AT

set_option Elab.async false
set_option linter.all false
set_option maxRecDepth 100000
set_option maxHeartbeats 4000000
/-! own words, ninth part: making defs and lambdas within a def -/
namespace AT
open PySem PySem.Spec PyProof.Rows L2 LamX NdefX
/-- the makers' tables: one table of names for the whole text -/
def Tbs (nm : Nat → Nat → Str) (Ps : List Addr) (H : Hp) : Prop := ∀ P ∈ Ps, TabN H P nm
theorem Tbs.ex {nm : Nat → Nat → Str} {Ps : List Addr} {H H' : Hp} (t : Tbs nm Ps H) (e : Ex H H') : Tbs nm Ps H' := fun P hP => (t P hP).ext e
theorem TabN.isT {nm : Nat → Nat → Str} {H : Hp} {P : Addr} (t : TabN H P nm) : ∃ ps, H P = some (.tbl ps) := let ⟨ps, e, _⟩ := t; ⟨ps, e⟩
/-- kept by what changes other things -/
theorem Tbs.kp {nm : Nat → Nat → Str} {Ps S : List Addr} {H H' : Hp} (t : Tbs nm Ps H) (k : Kp S H H') (n : ∀ b ∈ S, ∀ o, H b = some o → ¬ isX o ∧ ∀ ps, o ≠ .tbl ps) : Tbs nm Ps H' := fun P hP => by
  obtain ⟨ps, e, h1, h2⟩ := t P hP
  refine ⟨ps, k P _ (fun z => (n P z _ e).2 _ rfl) e, h1, fun pos cv hc => ?_⟩
  obtain ⟨c, e1, e2⟩ := h2 pos cv hc
  exact ⟨c, e1, k c _ (fun z => (n c z _ e2).1 True.intro) e2⟩
section
variable {X : Cx} {pins : List (Addr × Obj)} {σ : L2.St} {H : Hp} {s : Shared} {nm : Nat → Nat → Str} {Ps : List Addr} {c P c' : Addr} {ps : Array Value} {pos : Pos} {q : Str} {ho : HO} {o : Obj} {h' : Heap} {tk : Tok}
/-- the code object found: the function alone is new -/
theorem inv_hit (I : Inv X pins σ H s) (hx : ∀ b o, s.heap.get? b = some o → h'.get? b = some o) (hsz : s.heap.objs.size ≤ h'.objs.size) (new : ∀ H1, ObjOk X.prog X.w H1 (h'.push o) h'.objs.size ho) :
    Inv X pins σ (upd H h'.objs.size ho) { s with heap := h'.push o, toks := tk } ∧ H h'.objs.size = none :=
  ⟨I.laid (fun b u e => Heap.get?_push_of_some _ (hx b u e)) hsz (new _), I.hok.fresh hsz⟩
/-- the code object made: the table grows, the code object and the function are new -/
theorem inv_made (I : Inv X pins σ H s) (T : Tbs nm Ps H) (hm : P ∈ Ps) (hP : H P = some (.tbl ps)) (ht : TriplesOk ps.toList) (ha : ∀ (p : Pos) cv, codeAmong p ps.toList = some cv → ∃ c, cv = .ref c ∧ H c = some (CodeO c (nm p.line p.col))) (hn : nm pos.line pos.col = q)
    (hx : Heap.ExtBut P s.heap h') (hge : s.heap.objs.size ≤ c') (hlt : c' < h'.objs.size) (hrec : h'.CodeRec (.ref c') q) (htb : h'.get? P = some (PySem.W.tabObj (ps ++ #[rawInt pos.line, rawInt pos.col, .ref c'])))
    (new : ∀ H1, ObjOk X.prog X.w H1 (h'.push o) h'.objs.size ho) :
    ∃ H1, Inv X pins σ H1 { s with heap := h'.push o, toks := tk } ∧ Kp [P] H H1 ∧ Tbs nm Ps H1 ∧ H h'.objs.size = none ∧ H1 h'.objs.size = some ho ∧ H1 c' = some (CodeO c' q) := by
  obtain ⟨c2, oc, vs, t, e2, hoc, hd, hv⟩ := hrec
  cases e2
  have nC : H c' = none := I.hok.fresh hge
  have hsz : s.heap.objs.size ≤ h'.objs.size := Nat.le_trans hge (Nat.le_of_lt hlt)
  have nF : H h'.objs.size = none := I.hok.fresh hsz
  have I1 := inv_table (t' := tk) (more := #[rawInt pos.line, rawInt pos.col, .ref c']) (h' := h') I hP (fun b o hb e => hx b o hb e) htb hge ⟨oc, vs, t, hoc, hd, hv⟩
  have hF1 : ∀ b, b ≠ P → b ≠ c' → upd (upd H P (.tbl (ps ++ #[rawInt pos.line, rawInt pos.col, .ref c']))) c' (CodeO c' q) b = H b := fun b h1 h2 => by rw [upd_ne h2, upd_ne h1]
  have nPc : P ≠ c' := ne_of_none hP nC
  have nPf : P ≠ h'.objs.size := ne_of_none hP nF
  have ncf : c' ≠ h'.objs.size := Nat.ne_of_lt hlt
  have I2 := I1.laid (a := h'.objs.size) (o := ho) (h' := h'.push o) (t' := tk) (fun b u e => Heap.get?_push_of_some _ e) (Nat.le_refl _) (new _)
  generalize hH2 : upd (upd (upd H P (.tbl (ps ++ #[rawInt pos.line, rawInt pos.col, .ref c']))) c' (CodeO c' q)) h'.objs.size ho = H2 at I2
  have old : ∀ b u, b ≠ P → H b = some u → H2 b = some u := fun b u hb e => by
    rw [← hH2, upd_ne (ne_of_none e nF), hF1 b hb (ne_of_none e nC)]
    exact e
  have atP : H2 P = some (.tbl (ps ++ #[rawInt pos.line, rawInt pos.col, .ref c'])) := by rw [← hH2, upd_ne nPf, upd_ne nPc, upd_same]
  have atc : H2 c' = some (CodeO c' q) := by rw [← hH2, upd_ne ncf, upd_same]
  have code : ∀ {b r}, H b = some (CodeO b r) → H2 b = some (CodeO b r) := fun {b r} e => old b _ (fun z => by rw [z, hP] at e; exact codeO_ne _ (Option.some.inj e).symm) e
  refine ⟨H2, I2, fun b u hb e => old b u (fun z => hb (by rw [z]; exact List.mem_cons_self)) e, fun R hR => ?_, nF, by rw [← hH2, upd_same], atc⟩
  by_cases hb : R = P
  · subst hb
    refine ⟨_, atP, ?_, fun p' cv hcv => ?_⟩
    · rw [Array.toList_append]; exact PySem.TriplesOk_snoc _ _ _ _ ht
    · rw [Array.toList_append] at hcv
      rcases among_app2 _ ht hcv with z | ⟨z, z1, z2⟩
      · obtain ⟨c0, e1, e2⟩ := ha p' cv z
        exact ⟨c0, e1, code e2⟩
      · exact ⟨c', z, by rw [← z1, ← z2, hn]; exact atc⟩
  · obtain ⟨ps', a1, a2, a3⟩ := T R hR
    refine ⟨ps', old R _ hb a1, a2, fun p' cv hcv => ?_⟩
    obtain ⟨c0, e1, e2⟩ := a3 p' cv hcv
    exact ⟨c0, e1, code e2⟩
end
/-! ### the statement «def name(..): ..» in a def -/
def tNdf (nm : Nat → Nat → Str) (Ps : List Addr) (P : Addr) (i : Nat) (mk : Addr → NF) : TS := fun D σ H => Tbs nm Ps H ∧ ∀ (f c' : Addr) (H1 : Hp), Kp [P] H H1 → Tbs nm Ps H1 → H f = none → H1 f = some (FnO f (mk c')) → H1 c' = some (CodeO c' (mk c').qual) → D.nx (σ.set i (some (.ref f))) H1
section
variable {X : Cx} {nm : Nat → Nat → Str} {Ps : List Addr} {c P : Addr}
theorem fnO_new {P : Program} {w : World} {F : NF} {h : Heap} {doc pm ctv : Value} {f : Addr} (e : h.get? f = some ({ cls := .type "function", data := .func (F.fd doc pm ctv) } : Obj)) (H1 : Hp) : ObjOk P w H1 h f (FnO f F) :=
  ⟨⟨_, _, doc, pm, ctv, e⟩, ⟨_, e⟩, fun _ _ ⟨od, sl, d, p, t, z⟩ st => ⟨od, sl, d, p, t, st _ z⟩⟩
theorem fnE_new {P : Program} {w : World} {F : NF} {body : Expr} {h : Heap} {pm ctv : Value} {f : Addr} (e : h.get? f = some (PySem.W.kla_obj F.name F.qual F.params body F.scope F.cl pm F.c ctv)) (H1 : Hp) : ObjOk P w H1 h f (FnE f F body) :=
  ⟨⟨pm, ctv, e⟩, ⟨_, e⟩, fun _ _ ⟨p, t, z⟩ st => ⟨p, t, st _ z⟩⟩
theorem ps_ndf {st : Stmt} {name : Str} {pos : Pos} {i : Nat} (hst : st = .FunctionDef name (C8.fnArgs st) (C8.fnBody st) [] none [] (C8.fnScope st) none name pos) (TB : TabB X.base X.mg c P) (hcode : X.env.code = .ref c) (hm : P ∈ Ps) (hn : nm pos.line pos.col = X.env.qual ++ name) {fr : List Str} (hfr : ndefB X.env.scope (C8.fnScope st) fr = true)
    (hd0 : (C8.fnArgs st).defaults = []) (hk0 : (C8.fnArgs st).kw_defaults = []) (ha : annTrees (C8.fnArgs st) none X.env = []) (hN : X.N.Nodup) (hi : X.N[i]? = some name) (hx : Loc X.env.scope name) (hf : X.fn name = true ∨ X.env.scope.names.lookup name = some .local) :
    PS X st (tNdf nm Ps P i (NF.of st name (X.env.qual ++ name) (cloFrom X.env.cells (C8.fnScope st).names []))) := by
  rw [hst]
  constructor
  intro pins s σ H D I q
  obtain ⟨T, q⟩ := q
  have hq : qualnameIn X.env name name = X.env.qual ++ name := by
    have hk : X.env.kindOf name = some .local ∨ X.env.kindOf name = some .cell := hx
    unfold qualnameIn
    rcases hk with k | k
    · rw [k]; rfl
    · rw [k]; exact if_neg (by decide)
  refine PySem.W.nestDef_K hd0 hk0 ha ?_
  rw [hq]
  have hfree : ∀ y ∈ (C8.fnScope st).names, y.2 = .free → ∃ a, X.env.cells.lookup y.1 = some a := fun y hy e => I.ok.has _ (ndef_free hfr y hy e)
  obtain ⟨ps, hP, ht, hal⟩ := T P hm
  have bP : s.heap.BuiltinsAt X.mg P := TB.bm.keeps I.bk
  have hP' : s.heap.get? P = some { cls := .none, data := .fields ps } := I.hok P _ hP
  have gl := I.mod.glob.keeps I.bk
  have cd := TB.code.keeps I.bk
  have go : ∀ (f c' : Addr) (H1 : Hp) (s' : Shared), Inv X pins σ H1 s' → Kp [P] H H1 → Tbs nm Ps H1 → H f = none → H1 f = some (FnO f (NF.of st name (X.env.qual ++ name) (cloFrom X.env.cells (C8.fnScope st).names []) c')) → H1 c' = some (CodeO c' (X.env.qual ++ name)) →
      wpAny (model X.prog X.w) X.A (storeName X.env name (.ref f)) (fun _ s'' => SP X pins D .next s'') X.xe s' := fun f c' H1 s' I1 k t n h1 h2 =>
    store_ok I1 hN hi hx (v := .ref f) rfl (fun s'' J => ⟨_, H1, J, q f c' H1 k t n h1 h2⟩) hf
  cases hc : codeAmong pos ps.toList with
  | some cv =>
    obtain ⟨c', rfl, hco⟩ := hal pos cv hc
    rw [hn] at hco
    refine PySem.W.makeFunction_hit (mg := X.mg) (closure_ok hfree) I.ok.glob gl hcode cd hP' ht hc bP fun ctv doc h' tk hx2 hsz => ?_
    obtain ⟨J, nF⟩ := inv_hit (tk := tk) (ho := FnO h'.objs.size (NF.of st name (X.env.qual ++ name) (cloFrom X.env.cells (C8.fnScope st).names []) c')) I hx2 hsz fun H1 => fnO_new (doc := doc) (pm := (X.mg "__name__").getD .none) (ctv := ctv) (Heap.get?_push_size _ rfl) H1
    have e := Evl.Ex.new (o := FnO h'.objs.size (NF.of st name (X.env.qual ++ name) (cloFrom X.env.cells (C8.fnScope st).names []) c')) nF
    exact go _ c' _ _ J (Kp.of_ex e) (T.ex e) nF upd_same (e _ _ hco)
  | none =>
    refine PySem.W.makeFunction_K (mg := X.mg) (closure_ok hfree) I.ok.glob gl hcode cd hP' ht hc TB.gP bP fun c' ctv doc h' tk hx2 hge hlt hrec htb => ?_
    obtain ⟨H1, J, k, t, n, h1, h2⟩ := inv_made (tk := tk) (ho := FnO h'.objs.size (NF.of st name (X.env.qual ++ name) (cloFrom X.env.cells (C8.fnScope st).names []) c')) I T hm hP ht hal hn hx2 hge hlt hrec htb fun H1 => fnO_new (doc := doc) (pm := (X.mg "__name__").getD .none) (ctv := ctv) (Heap.get?_push_size _ rfl) H1
    exact go _ c' _ _ J k t n h1 h2
/-! ### a lambda -/
def tLmd (nm : Nat → Nat → Str) (Ps : List Addr) (P : Addr) (mk : Addr → NF) (body : Expr) : TE := fun σ H Q => Tbs nm Ps H ∧ ∀ (f c' : Addr) (H1 : Hp), Kp [P] H H1 → Tbs nm Ps H1 → H f = none → H1 f = some (FnE f (mk c') body) → H1 c' = some (CodeO c' (mk c').qual) → Q (.ref f) H1
theorem pe_lmd {params : Arguments} {body : Expr} {scope : Scope} {pos : Pos} (TB : TabB X.base X.mg c P) (hcode : X.env.code = .ref c) (hm : P ∈ Ps) (hn : nm pos.line pos.col = X.env.qual ++ "<lambda>") {fr : List Str} (hfr : ndefB X.env.scope scope fr = true) (hdef : defaultsOf params X.env = ([], [])) :
    PE X (.Lambda params body scope pos) (tLmd nm Ps P (fun c' => ⟨"<lambda>", X.env.qual ++ "<lambda>", params, [], scope, cloFrom X.env.cells scope.names [], c'⟩) body) := by
  constructor
  intro pins s σ H Q I q
  obtain ⟨T, q⟩ := q
  refine PySem.W.kla_eval hdef ?_
  have hfree : ∀ y ∈ scope.names, y.2 = .free → ∃ a, X.env.cells.lookup y.1 = some a := fun y hy e => I.ok.has _ (ndef_free hfr y hy e)
  obtain ⟨ps, hP, ht, hal⟩ := T P hm
  have bP : s.heap.BuiltinsAt X.mg P := TB.bm.keeps I.bk
  have hP' : s.heap.get? P = some { cls := .none, data := .fields ps } := I.hok P _ hP
  have gl := I.mod.glob.keeps I.bk
  have cd := TB.code.keeps I.bk
  cases hc : codeAmong pos ps.toList with
  | some cv =>
    obtain ⟨c', rfl, hco⟩ := hal pos cv hc
    rw [hn] at hco
    refine PySem.W.kla_makeFunctionHit (mg := X.mg) (closure_ok hfree) I.ok.glob gl hcode cd hP' ht hc bP fun ctv h' tk hx2 hsz => ?_
    obtain ⟨J, nF⟩ := inv_hit (tk := tk) (ho := FnE h'.objs.size ⟨"<lambda>", X.env.qual ++ "<lambda>", params, [], scope, cloFrom X.env.cells scope.names [], c'⟩ body) I hx2 hsz fun H1 => fnE_new (pm := (X.mg "__name__").getD .none) (ctv := ctv) (Heap.get?_push_size _ rfl) H1
    have e := Evl.Ex.new (o := FnE h'.objs.size ⟨"<lambda>", X.env.qual ++ "<lambda>", params, [], scope, cloFrom X.env.cells scope.names [], c'⟩ body) nF
    exact ⟨.ref _, _, J, rfl, q _ c' _ (Kp.of_ex e) (T.ex e) nF upd_same (e _ _ hco)⟩
  | none =>
    refine PySem.W.kla_makeFunction (mg := X.mg) (closure_ok hfree) I.ok.glob gl hcode cd hP' ht hc TB.gP bP fun c' ctv h' tk hx2 hge hlt hrec htb => ?_
    obtain ⟨H1, J, k, t, n, h1, h2⟩ := inv_made (tk := tk) (ho := FnE h'.objs.size ⟨"<lambda>", X.env.qual ++ "<lambda>", params, [], scope, cloFrom X.env.cells scope.names [], c'⟩ body) I T hm hP ht hal hn hx2 hge hlt hrec htb fun H1 => fnE_new (pm := (X.mg "__name__").getD .none) (ctv := ctv) (Heap.get?_push_size _ rfl) H1
    exact ⟨.ref _, H1, J, rfl, q _ c' H1 k t n h1 h2⟩
end
/-! ### a maker of the text -/
structure FunT (K : PySem.W.Frag) (x qual : Str) (st : Stmt) (f : Addr) (fd : FuncData) (c : Addr) : Prop where
  ex : ∃ (oc : Value) (od : Option Addr) (kV doc pm : Value) (an : Option Addr) (ct : Value) (osl : Array (Option Value)), fd = PySem.W.fnOf x qual (defArgs st) (defBody st) (defScope st) .none kV doc pm an (.ref c) ct ∧ K.lookup f = some ⟨oc, od, .func fd, osl⟩ ∧ PySem.W.codeIn K (.ref c) qual = true
theorem funT_mk {K : PySem.W.Frag} {x qual : Str} {st : Stmt} {f c : Addr} {oc : Value} {od an : Option Addr} {osl : Array (Option Value)} {kV doc pm cd ct : Value} (l : K.lookup f = some ⟨oc, od, .func (PySem.W.fnOf x qual (defArgs st) (defBody st) (defScope st) .none kV doc pm an cd ct), osl⟩) (ec : cd = .ref c)
    (h : PySem.W.codeIn K cd qual = true) : FunT K x qual st f (PySem.W.fnOf x qual (defArgs st) (defBody st) (defScope st) .none kV doc pm an cd ct) c := by
  subst ec
  exact ⟨oc, od, kV, doc, pm, an, ct, osl, rfl, l, h⟩
/-- a maker, by its body -/
theorem FunT.ok {P : Program} {w : World} {K : PySem.W.Frag} {mg : Str → Option Value} {base : Heap} {x qual : Str} {st : Stmt} {f c : Addr} {fd : FuncData} {N ps : List Str} {k : Nat} {sp : Sp} (F : FunT K x qual st f fd c) (S : FnScope N ps (defScope st)) (len : ∀ vs H Q E, sp vs H Q E → vs.length = ps.length)
    (hb : ∀ (A : Around) (outer : List Env) (s : Shared) (H : Hp) (vs : List V) (Q : VK) (E : XK), Room k (A.deeper (PyProof.Rows.envOfC qual (defScope st) s.heap.objs.size f (.ref c))) → sp vs H Q E →
      ∃ t, PSs (cxOf L2.CX0 P w K mg base N qual (defScope st) f (.ref c) A outer s H E).nox (defBody st) t ∧ t { nx := fun _ H' => Q .non H', rt := Q } (L2.start N vs) H) : FnOk P w K mg base L2.CX0 (k + 1) f fd ps sp := by
  obtain ⟨oc, od, kV, doc, pm, an, ct, osl, rfl, lk, hcd⟩ := F.ex
  refine fn_of lk hcd S len fun A outer s H vs Q E hr hsp => ?_
  obtain ⟨t, h, q⟩ := hb A outer s H vs Q E hr hsp
  exact ⟨t, PSs.nox h, q⟩
/-- a nested def, by its body -/
theorem nok_by {P : Program} {w : World} {K : PySem.W.Frag} {mg : Str → Option Value} {base : Heap} {N ps fr : List Str} {F : NF} {f : Addr} {k : Nat} {sp : List (Option V) → Sp} (S : NScope N ps fr F.scope)
    (hb : ∀ (doc pm ctv : Value) (us : List Value), us.length = ps.length → bindArgs (F.fd doc pm ctv) ⟨us, []⟩ = pure (ps.zip us)) (len : ∀ ws vs H Q E, sp ws vs H Q E → vs.length = ps.length)
    (hbody : ∀ (A : Around) (outer : List Env) (s : Shared) (H : Hp) (vs : List V) (ws : List (Option V)) (Q : VK) (E : XK), Room k (A.deeper (envF F f s.heap.objs.size)) → ws.length = fr.length → sp ws vs H Q E →
      ∃ t, PSs (ncx L2.CX0 P w K mg base N F f A outer s H E).nox F.body t ∧ t { nx := fun _ H' => Q .non H', rt := Q } (startF N vs ws) H) : NOk P w K mg base L2.CX0 (k + 1) f F ps fr sp := by
  refine nok_of S hb len fun A outer s H vs ws Q E hr _ _ hl hsp => ?_
  obtain ⟨t, h, q⟩ := hbody A outer s H vs ws Q E hr hl hsp
  exact ⟨t, PSs.nox h, q⟩
def inBody (st : Stmt) (i : Nat) : Stmt := (defBody st).getD i (.Pass ⟨0, 0, 0, 0⟩)
/-- which table the code object at c has -/
def tabOf (K : PySem.W.Frag) (c : Addr) : Addr := match K.lookup c with
  | some ⟨_, _, .fields vs, _⟩ => match (vs[11]? : Option PySem.Value) with
    | some (.ref p) => p
    | _ => 0
  | _ => 0
theorem tab_is {K : PySem.W.Frag} {c : Addr} (h : PySem.W.codeHdIn K c (tabOf K c) = true) : PySem.W.codeHdIn K c (tabOf K c) = true := h
theorem mem_dec {p : Addr} {l : List Addr} (h : decide (p ∈ l) = true) : p ∈ l := of_decide_eq_true h
end AT

set_option Elab.async false
set_option linter.all false
set_option maxRecDepth 100000
set_option maxHeartbeats 4000000
/-! own words, tenth part: enumerate over a text; sep.join(reversed(a list)) -/
namespace AT
open PySem PySem.Spec PyProof.Rows L2
section
abbrev SgnP (x : Str) : Nat → Value → Prop := fun i v => ∃ c u, x.cps[i]? = some c ∧ v = .str ⟨#[c]⟩ u
theorem draws_sgn {P : Program} {w : World} {B : Around} (calm : B.handled = none) (z : Addr) (x : Str) (t : Tok) : Draws P w B z [z] x.cps.size (SgnP x) (fun i g => g.IsStrIter z (strIterType x) x t i) := by
  unfold strIterType
  cases x.cps.all (· < 128) with
  | true => exact Draws.strAscii calm z x t
  | false => exact Draws.strWide calm z x t
/-- the text x, each sign in a new pair with its place -/
def ItEs (x : Str) : It where
  go := fun i _ => i < x.cps.size
  yld := fun i H v H' => ∃ T c, v = .ref T ∧ H T = none ∧ x.cps[i]? = some c ∧ H' = upd H T (.tup [.int (i : Nat), .str ⟨#[c]⟩])
  stop := fun i _ => x.cps.size ≤ i
theorem turn_enumS {P : Program} {w : World} {K : PySem.W.Frag} {tgs : List Expr} {kk : Nat} {tp : Pos} (x : Str) (t : Tok) (e z : Addr) :
    Turn P w K (.Tuple tgs kk tp) (ItEs x) [e, z] e (fun i g => (∃ old, IsEnum g e z ((i : Nat) : Int) old) ∧ g.IsStrIter z (strIterType x) x t i ∧ e ≠ z ∧ i ≤ x.cps.size) := by
  refine ⟨List.mem_cons_self, fun i g st b hb => ?_, fun i g g' st k => ?_, ?_, ?_, fun B i s Q E st h => ?_⟩
  · obtain ⟨⟨old, he⟩, ⟨o, ho, hc, hd⟩, _⟩ := st
    rcases List.mem_cons.mp hb with y | y
    · rw [y]; exact ⟨_, he, fun v t => nomatch t⟩
    · rw [List.mem_singleton.mp y]; exact ⟨o, ho, fun v t => by rw [hd] at t; cases t⟩
  · obtain ⟨⟨old, he⟩, ⟨o, ho, r⟩, ne, hi⟩ := st
    exact ⟨⟨old, k e List.mem_cons_self _ he⟩, ⟨o, k z (List.mem_cons_of_mem _ List.mem_cons_self) _ ho, r⟩, ne, hi⟩
  · intro X hP hw hK hc i pins s σ H E I hf st hg
    subst hP hw hK
    obtain ⟨⟨old, he⟩, hz, ne, hi⟩ := st
    have lt : i < x.cps.size := hg
    have heL : e < s.heap.objs.size := Heap.lt_size he
    have hzL : z < s.heap.objs.size := by obtain ⟨_, q, _⟩ := hz; exact Heap.lt_size q
    refine wpAny_pyNext_enum_itemD (draws_sgn (P := X.prog) (w := X.w) (B := X.A.in1) (show X.A.in1.handled = none from I.ok.hd hc) z x t) he hz lt ne (by simp [ne]) fun u' g tk hu' ho st' hT hsz hk => ?_
    obtain ⟨c, tu, hc1, rfl⟩ := hu'
    refine ⟨_, rfl, wpAny_letOwnedTupleGo_enum (s := { s with heap := g, toks := tk + 1 }) ho fun g2 he' sb => ?_⟩
    have hT2 : g2.get? s.heap.objs.size = some { cls := .type "tuple", data := .seq #[.int i tk, .str ⟨#[c]⟩ tu] } := (sb.2 _ (Nat.ne_of_gt heL)).trans hT
    have new : ObjOk X.prog X.w (upd H s.heap.objs.size (.tup [.int (i : Nat), .str ⟨#[c]⟩])) g2 s.heap.objs.size (.tup [.int (i : Nat), .str ⟨#[c]⟩]) :=
      ⟨by show 2 ≤ sizeLine; decide, [.int i tk, .str ⟨#[c]⟩ tu], .cons ⟨_, rfl⟩ (.cons ⟨_, rfl⟩ .nil), ⟨_, hT2, rfl, _, rfl⟩⟩
    have I1 : Inv X pins σ (upd H s.heap.objs.size (.tup [.int (i : Nat), .str ⟨#[c]⟩])) { s with heap := g2, toks := tk + 1 } :=
      I.turnedNew (ch := [e, z]) (fun b ob hb t => (sb.2 b (fun y => hb (by simp [y]))).trans (hk b ob (fun y => hb (by simp [y])) (fun y => hb (by simp [y])) t)) hf (Nat.le_refl _) new
    refine ⟨.ref s.heap.objs.size, _, I1, rfl, ⟨_, c, rfl, I.hok.fresh (Nat.le_refl _), hc1, rfl⟩, ⟨⟨.str ⟨#[c]⟩ tu, ?_⟩, ?_, ne, lt⟩, fun b hb => ?_⟩
    · have e1 : ((i + 1 : Nat) : Int) = (i : Int) + 1 := by omega
      rw [e1]
      exact he'
    · obtain ⟨o, q, r⟩ := st'
      exact ⟨o, (sb.2 z (Ne.symm ne)).trans q, r⟩
    · have hb' : b < s.heap.objs.size := by
        rcases List.mem_cons.mp hb with y | y
        · exact y ▸ heL
        · exact List.mem_singleton.mp y ▸ hzL
      rw [upd_ne (Nat.ne_of_lt hb')]
      exact (hf b hb).1
  · intro X hP hw hK hc i pins s σ H E I hf st hg
    subst hP hw hK
    obtain ⟨⟨old, he⟩, hz, ne, hi⟩ := st
    obtain ⟨f0, f1, f2, f3, f4, f5⟩ := hf z (List.mem_cons_of_mem _ List.mem_cons_self)
    have hl : i = x.cps.size := Nat.le_antisymm hi hg
    rw [hl] at he hz
    refine wpAny_pyNext_enum_endD (draws_sgn (P := X.prog) (w := X.w) (B := X.A.in1) (show X.A.in1.handled = none from I.ok.hd hc) z x t) he hz fun g eb => ⟨rfl, I.turned (t' := s.toks) (fun b o hb t => eb b o hb t) f0 f1 f3 f4 f5⟩
  · obtain ⟨⟨_, he⟩, _⟩ := st
    exact wpAny_pyIter_enum he h
def iEnumS (ta : TA) : TI := fun σ H R => ta σ H fun vs H1 => ∃ x, vs = [.str x] ∧ R (ItEs x) H1
theorem pi_enumS {X : Cx} {e : Expr} {ta : TA} {p pos tp : Pos} {tgs : List Expr} {kk : Nat} (hg : Gl X "enumerate") (hm : X.mg "enumerate" = none) (ha : PA X [e] ta) (hs : starEach [e] X.env = [(false, eval e X.env)] := by rfl) :
    PI X (.Tuple tgs kk tp) (.Call (.Name "enumerate" p) [e] [] pos) (iEnumS ta) := by
  constructor
  intro pins s σ H R I h
  refine Call_ (ld_blt I hg hm boot_enumerate (PyProof.Rows.callWith_type1 (thn (ha.run pos pins s σ H _ I h) fun us s1 z => ?_) hs rfl))
  obtain ⟨vs, H1, I1, r1, x, ex, q⟩ := z
  subst ex
  obtain ⟨u, rfl, ru⟩ := vals1 r1
  obtain ⟨t, rfl⟩ := ru
  refine call_enumerate_str fun g he hit hsz hk => wpAny_pyIter_enum he ?_
  have I2 : Inv X pins σ H1 { s1 with heap := g } := I1.kept (t' := s1.toks) hk
  refine ⟨s1.heap.objs.size + 1, [s1.heap.objs.size + 1, s1.heap.objs.size], _, _, H1, rfl, I2, turn_enumS x t (s1.heap.objs.size + 1) s1.heap.objs.size, ⟨⟨.none, he⟩, hit, Nat.succ_ne_self _, Nat.zero_le _⟩, fun b hb => ?_, q⟩
  have hle : s1.heap.objs.size ≤ b := by
    rcases List.mem_cons.mp hb with y | y
    · rw [y]; exact Nat.le_succ _
    · rw [List.mem_singleton.mp y]; exact Nat.le_refl _
  exact I1.fpOk hle (I1.hok.fresh hle)
theorem walk_enumS {x : Str} : Walk (ItEs x) x.cps.size (fun _ => True) (fun i H v H' => ∃ T c, v = .ref T ∧ H T = none ∧ x.cps[i]? = some c ∧ H' = upd H T (.tup [.int (i : Nat), .str ⟨#[c]⟩])) :=
  ⟨fun i _ hi _ => hi, fun _ _ => Nat.le_refl _, fun i H v H' _ _ y => y⟩
/-- enumerate of a list, a tuple or a text -/
def iEnumX (K : PySem.W.Frag) (ta : TA) : TI := fun σ H R => iEnumS ta σ H R ∨ iEnumA K ta σ H R
theorem pi_enumX {X : Cx} {e : Expr} {ta : TA} {p pos tp : Pos} {tgs : List Expr} {kk : Nat} (hg : Gl X "enumerate") (hm : X.mg "enumerate" = none) (ha : PA X [e] ta) (hs : starEach [e] X.env = [(false, eval e X.env)] := by rfl) :
    PI X (.Tuple tgs kk tp) (.Call (.Name "enumerate" p) [e] [] pos) (iEnumX X.K ta) := PI.or (pi_enumS hg hm ha hs) (pi_enumA hg hm ha hs)
end
/-! ### sep.join(reversed(a list)) -/
section
variable {P : Program} {w : World} {A : Around} {E : Value → Shared → Prop} {s : Shared}
theorem join_rev {x : Str} {t : Tok} {it l : Addr} {its : Array Value} {ys : List Str} {Q : Value → Shared → Prop} (calm : A.handled = none) (hit : s.heap.IsRevIter it l ((its.size : Int) - 1)) (hl : s.heap.IsList l its) (hne : l ≠ it) (hn : its.size ≤ sizeLine)
    (hP : ∀ acc : Array Value, ItemsOf (fun i v => its[its.size - 1 - i]? = some v) acc its.size → StrsAre acc.toList ys) (hok : (ys.map (·.length)).sum + ys.length * x.length ≤ 16777216)
    (hq : ∀ h' tk t', (∀ b o, b ≠ it → s.heap.get? b = some o → h'.get? b = some o) → Q (.str (Txt.join x ys) t') { s with heap := h', toks := tk }) : wpAny (model P w) A (call (.builtin "str.join") [.str x t, .ref it]) Q E s := by
  refine wpAny_call (codeAny_call_builtin F.slot_str_join.plain F.entry_str_join (F.slot_str_join.check _ _ _ _ _ _ _ _ (typeIs_str _ _ _) (F.args_str_join_2 _ _) ?_))
  rw [join_tree_other]
  have ty : s.TypeIs (.ref it) "list_reverseiterator" := hit.typeIs
  refine wpAny_bind (wpAny_typeOf ty ?_)
  rw [if_neg (by decide)]
  refine wpAny_bind (wpAny_tryCatch (wpAny_pyIter_revIter hit ?_))
  have calm1 : A.in1.in1.handled = none := calm
  refine wpAny_bind (RT.collect_rev (A := A.in1) calm hit hl hne hn fun h' tk acc kp items => ?_)
  obtain ⟨ps, hps, es⟩ := strsAre_values (hP acc items)
  subst es
  rw [hps]
  have fit := joinOk_of hok
  unfold JoinOk at fit
  rw [Bool.not_eq_true'] at fit
  have g : Gives (PySem.joinTail x (strValues ps)) (joinMade x ps) := by
    have made := PySem.gives_joinTail x ps fit
    rcases ps with _ | ⟨one, _ | ⟨two, rest⟩⟩
    · exact made
    · exact made
    · exact made
  exact g P w A (wants Q E) _ (PySem.post_join ps ⟨PySem.joinFit_length fit, fun t' k => hq h' k t' kp⟩)
end
theorem strs_rev {ys : List Str} {its : List Value} {acc : Array Value} (r : Vals (ys.map V.str) its) (h : ItemsOf (fun i v => its.toArray[its.toArray.size - 1 - i]? = some v) acc its.toArray.size) : StrsAre acc.toList ys.reverse := by
  have r2 := RT.vals_rev r h
  rw [← List.map_reverse] at r2
  generalize ys.reverse = zs at r2
  generalize acc.toList = us at r2
  clear h r
  induction zs generalizing us with
  | nil => cases r2; exact .nil
  | cons z zs ih =>
    cases r2 with
    | cons r1 r3 =>
      obtain ⟨t, rfl⟩ := r1
      exact .cons z t (ih _ r3)
def tJoinRev (K : PySem.W.Frag) (to : TE) (ta : TA) : TE := fun σ H Q => to σ H fun v H1 => (∃ a : Str, v = .str a) ∧ ta σ H1 fun vs H2 => ∃ (a : Str) (q : Addr) (ys : List Str), v = .str a ∧ vs = [.ref q] ∧ SqL K H2 q (ys.map V.str) ∧
  (ys.map (·.length)).sum + ys.length * a.length ≤ 16777216 ∧ Q (.str (Txt.join a ys.reverse)) H2
theorem pe_joinRev {X : Cx} {o e : Expr} {to : TE} {ta : TA} {apos pos p2 pos2 : Pos} (calm : X.calm = true) (ho : PE X o to) (hg : Gl X "reversed") (hm : X.mg "reversed" = none) (ha : PA X [e] ta) (hs : starEach [e] X.env = [(false, eval e X.env)] := by rfl)
    (hs1 : starEach [.Call (.Name "reversed" p2) [e] [] pos2] X.env = [(false, eval (.Call (.Name "reversed" p2) [e] [] pos2) X.env)] := by rfl) (hbase : attributeBase o "join" X.env (eval o X.env) = eval o X.env := by rfl) (hline : (apos.endLine == pos.line) = true := by rfl) :
    PE X (.Call (.Attribute o "join" apos) [.Call (.Name "reversed" p2) [e] [] pos2] [] pos) (tJoinRev X.K to ta) := by
  constructor
  intro pins s σ H Q I h
  refine PySem.Call_method1 hbase hs1 hline (thn (ho.run pins s σ H _ I h) fun v s1 z => ?_)
  obtain ⟨x, H1, I1, r1, ⟨a, rfl⟩, q1⟩ := z
  obtain ⟨t, rfl⟩ := _root_.id r1
  refine ⟨"str", _, F.plainAttrs_str, F.slot_str_join, F.type_str_join, typeIs_str _ _ _, (fun _ e => nomatch e), Calls.callWith_builtin rfl (Calls.evalArgs_plain (Calls.spliced_cons ?_))⟩
  refine Call_ (ld_blt I1 hg hm PyProof.Rows.boot_reversed (PyProof.Rows.callWith_type1 (thn (ha.run pos2 pins s1 σ H1 _ I1 q1) fun us s2 z => ?_) hs rfl))
  obtain ⟨vs, H2, I2, r2, a', q, ys, ea, ev, hq, hz, q2⟩ := z
  cases ea
  subst ev
  obtain ⟨u, rfl, ru⟩ := vals1 r2
  cases (show u = Value.ref q from ru)
  obtain ⟨its, rv, p', hl⟩ := I2.list hq
  refine call_reversed_list p'.isList (Calls.spliced_nil ?_)
  have hol : q < s2.heap.objs.size := by obtain ⟨o, z, _⟩ := p'.isList; exact Heap.lt_size z
  have k0 : ∀ b o, s2.heap.get? b = some o → (s2.heap.push (revObj q ((its.toArray.size : Int) - 1))).get? b = some o := fun b o z => Heap.get?_push_of_some _ z
  have J : Inv X pins σ H2 { s2 with heap := s2.heap.push (revObj q ((its.toArray.size : Int) - 1)) } := I2.kept (t' := s2.toks) k0
  obtain ⟨f0, f1, f2, f3, f4, f5⟩ := I2.fpOk (H' := H2) (b := s2.heap.objs.size) (Nat.le_refl _) (I2.hok.fresh (Nat.le_refl _))
  refine join_rev (s := { s2 with heap := s2.heap.push (revObj q ((its.toArray.size : Int) - 1)) }) (ys := ys.reverse) (I2.ok.hd calm) ⟨_, Heap.get?_push_size _ rfl, rfl, rfl⟩ (p'.isList.push _) (Nat.ne_of_lt hol) ?_ (fun acc hi => strs_rev rv hi) ?_ fun h' tk t' kp => ?_
  · rw [List.size_toArray, ← rv.length]; exact hl
  · rw [List.map_reverse, List.sum_reverse, List.length_reverse]; exact hz
  · exact ⟨.str _, H2, J.turned (t' := tk) (fun b o hb z => kp b o hb z) f0 f1 f3 f4 f5, ⟨t', rfl⟩, q2⟩
section
variable {X : Cx} (K : PySem.W.Frag) (hK : X.K = K := by rfl)
include hK
theorem kJr {e : Expr} {to : TE} {ta : TA} (h : PE X e (tJoinRev X.K to ta)) : PE X e (tJoinRev K to ta) := hK ▸ h
end
section
variable {σ : L2.St} {H : Hp} {Q : VK} {D : Ends} {t : TA} {to : TE} {ta : TA} {nm : Nat → Nat → Str} {Ps : List Addr} {P : Addr} {i : Nat} {mk : Addr → NdefX.NF} {X : Cx} {sp : Sp} {R : It → Hp → Prop}
theorem rd_ndf (T : Tbs nm Ps H) (h : ∀ (f c' : Addr) (H1 : Hp), Kp [P] H H1 → Tbs nm Ps H1 → H f = none → H1 f = some (NdefX.FnO f (mk c')) → H1 c' = some (LamX.CodeO c' (mk c').qual) → D.nx (σ.set i (some (.ref f))) H1) : tNdf nm Ps P i mk D σ H := ⟨T, h⟩
theorem rd_callZ (h : t σ H fun vs H1 => ∀ O, OwnC X σ O H1 → sp vs (fz (ca X) O H1) (fun v H2 => Q v (hid (ca X) H2)) L2.E0) : tCallZ X sp t σ H Q := h
theorem rd_enS (h : ta σ H fun vs H1 => ∃ x, vs = [.str x] ∧ R (ItEs x) H1) : iEnumS ta σ H R := h
end
section
variable {X : Cx}
/-- t.index(True), t a tuple of truth values -/
def rIdxB (K : PySem.W.Frag) : V → List V → Hp → VK → Prop := fun x xs H Q => ∃ (p : Addr) (bs : List Bool) (j : Nat), x = .ref p ∧ xs = [.bl true] ∧ SqT K H p (bs.map V.bl) ∧ bs[j]? = some true ∧ (∀ m, m < j → bs[m]? ≠ some true) ∧ Q (.int (j : Nat)) H
theorem flat_bls : ∀ bs : List Bool, (bs.map V.bl).all flatV = true
  | [] => rfl
  | _ :: bs => flat_bls bs
theorem mt_tupIdxB : MtR X "tuple.index" (rIdxB X.K) := by
  intro pins s σ H x xs v us Q I rx rs h
  obtain ⟨p, bs, j, rfl, rfl, hq, hj, no, q⟩ := h
  cases rx
  obtain ⟨u, rfl, ru⟩ := vals1 rs
  cases (show u = Value.bool true from ru)
  obtain ⟨its, r, ⟨⟨cls, dd, dt, sl⟩, ho, hc, n, hd⟩, hz⟩ := I.tuple hq
  simp only at hc hd
  subst hc hd
  have len : its.toArray.size = bs.length := by
    have := r.length
    rw [List.length_map] at this
    rw [List.size_toArray]; exact this.symm
  have jl : j < its.toArray.size := by rw [len]; exact (List.getElem?_eq_some_iff.mp hj).1
  have here : ∀ (m : Nat) (hm : m < its.toArray.size), ∃ b, bs[m]? = some b ∧ its.toArray[m] = Value.bool b := fun m hm => by
    have hm' : m < bs.length := len ▸ hm
    obtain ⟨z, hz1, hz2⟩ := r.get (i := m) (x := .bl bs[m]) (by simp [hm'])
    refine ⟨bs[m], List.getElem?_eq_getElem hm', ?_⟩
    cases (show z = Value.bool bs[m] from hz2)
    simpa using (List.getElem?_eq_some_iff.mp hz1).2
  refine call_meets PySem.F.slot_tuple_index ⟨_, ho, rfl⟩ PySem.F.entry_tuple_index (PySem.F.args_tuple_index_2 _ _) (TI.tuple_indexAt p its.toArray n dd sl (.bool true) (eqU (.bl true)) j jl ?_ ?_) ⟨ho, fun z hz => mem_eqAt (x := .bl true) rfl rfl r (flat_bls bs) z (by simpa using hz), ⟨.int (j : Nat), H, I.tok _, ⟨_, rfl⟩, q⟩⟩
  · obtain ⟨b, h1, h2⟩ := here j jl
    rw [hj] at h1
    cases h1
    rw [h2]
    rfl
  · intro m hm hmj
    obtain ⟨b, h1, h2⟩ := here m hm
    rw [h2]
    cases b with
    | true => exact absurd h1 (no m hmj)
    | false => rfl
end
section
variable {X : Cx} (K : PySem.W.Frag) (hK : X.K = K := by rfl)
include hK
theorem kIdxB : MtR X "tuple.index" (rIdxB K) := hK ▸ mt_tupIdxB
end
theorem PE.or {X : Cx} {e : Expr} {t t' : TE} (h : PE X e t) (h' : PE X e t') : PE X e (fun σ H Q => t σ H Q ∨ t' σ H Q) := by
  constructor
  intro pins s σ H Q I q
  exact q.elim (h.run pins s σ H Q I) (h'.run pins s σ H Q I)
/-! ### what stands still hides no data -/
section
variable {K : PySem.W.Frag} {S : List Addr} {H H' : Hp}
theorem rz_hid : rz S H (hid S H) = H := by
  funext b
  by_cases hb : b ∈ S
  · rw [rz_in hb]
  · rw [rz_at hb, hid_at hb]
/-- all of S are things that no data leans on -/
def NoD (S : List Addr) (H : Hp) : Prop := ∀ b ∈ S, ∀ o, H b = some o → (∀ xs, o ≠ .lst xs) ∧ (∀ xs, o ≠ .tup xs) ∧ (∀ u xs, o ≠ .frz u (.lst xs)) ∧ ∀ u xs, o ≠ .frz u (.tup xs)
theorem NoD.of_fr (W : ∀ b ∈ S, ∃ o, H b = some (frC b o)) : NoD S H := fun b hb o e => by
  obtain ⟨u, z⟩ := W b hb
  rw [z] at e
  cases e
  exact ⟨fun xs z => (nomatch z), fun xs z => (nomatch z), (fun u xs z => by cases z), (fun u xs z => by cases z)⟩
theorem sqt_noD (h : NoD S H) {a : Addr} {vs : List V} (q : SqT K H a vs) : SqT K (hid S H) a vs := by
  rcases q with (q | ⟨o, q⟩) | q
  · exact .inl (.inl (by rw [hid_at fun hb => (h a hb _ q).2.1 _ rfl]; exact q))
  · exact .inl (.inr ⟨o, by rw [hid_at fun hb => (h a hb _ q).2.2.2 _ _ rfl]; exact q⟩)
  · exact .inr q
theorem sql_noD (h : NoD S H) {a : Addr} {vs : List V} (q : SqL K H a vs) : SqL K (hid S H) a vs := by
  rcases q with (q | ⟨o, q⟩) | q
  · exact .inl (.inl (by rw [hid_at fun hb => (h a hb _ q).1 _ rfl]; exact q))
  · exact .inl (.inr ⟨o, by rw [hid_at fun hb => (h a hb _ q).2.2.1 _ _ rfl]; exact q⟩)
  · exact .inr q
mutual
theorem Dp.hidF (h : NoD S H) : ∀ (d : PyData) {v : V}, Dp K H v d → Dp K (hid S H) v d
  | .none, _, q => by cases q; exact .non
  | .bool b, _, q => by cases q; exact .bl b
  | .int i, _, q => by cases q; exact .int i
  | .str x, _, q => by cases q; exact .str x
  | .list ds, _, q => by
    cases q with
    | lst hs ha => exact .lst (sql_noD h hs) (DpAll.hidF h ds ha)
  | .tuple ds, _, q => by
    cases q with
    | tup hs ha => exact .tup (sqt_noD h hs) (DpAll.hidF h ds ha)
  | .dict _, _, q => by cases q
theorem DpAll.hidF (h : NoD S H) : ∀ (ds : List PyData) {vs : List V}, DpAll K H vs ds → DpAll K (hid S H) vs ds
  | [], _, q => by cases q; exact .nil
  | d :: ds, _, q => by
    cases q with
    | cons h1 h2 => exact .cons (Dp.hidF h d h1) (DpAll.hidF h ds h2)
end
end
section
variable {nm : Nat → Nat → Str} {Ps S : List Addr} {H H' : Hp}
/-- the tables are no data -/
theorem Tbs.noD (t : Tbs nm Ps H) : NoD Ps H := fun b hb o e => by
  obtain ⟨ps, z⟩ := TabN.isT (t b hb)
  rw [z] at e
  cases e
  exact ⟨fun xs z => (nomatch z), fun xs z => (nomatch z), fun u xs z => (nomatch z), fun u xs z => (nomatch z)⟩
theorem kp_one {P : Addr} (hP : P ∈ Ps) (k : Kp [P] H H') : Kp Ps H H' := k.sub fun b hb => by rw [List.mem_singleton.mp hb]; exact hP
end
/-! ### made functions, for those who get them -/
section
open LamX NdefX
/-- the promise, the function's cells out of sight -/
def spC (as : List Addr) (sp : Sp) : List V → Hp → VK → Prop := fun vs H Q => (∀ b ∈ as, ∃ o, H b = some (frC b o)) → sp vs (hid as H) (fun v H' => (∀ b ∈ as, H' b = none) → Q v (rz as H H')) L2.E0
theorem FV.weak {P : Program} {w : World} {K : PySem.W.Frag} {mg : Str → Option Value} {base : Heap} {k : Nat} {f : Addr} {G : Hp → Prop} {sp sp' : List V → Hp → VK → Prop} (F : FV P w K mg base k f G sp) (h : ∀ vs H Q, G H → sp' vs H Q → sp vs H Q) : FV P w K mg base k f G sp' :=
  ⟨F.fn, F.st, fun A outer s H us vs Q hr e0 g r q => F.run A outer s H us vs Q hr e0 g r (h vs H Q g q)⟩
variable {X : Cx} {σ : L2.St} {O : Addr → Obj} {H : Hp} {f c : Addr} {name q : Str} {params : Arguments} {scope : Scope} {N ps fr : List Str} {js : List Nat} {k : Nat} {sp : List (Option V) → Sp}
theorem lam_made {body : Expr} (ow : OwnC X σ O H) (hf : H f = some (FnE f ⟨name, q, params, [], scope, cloFrom X.env.cells scope.names [], c⟩ body)) (hc : H c = some (CodeO c q)) (js : List Nat) (hb : ndefB X.env.scope scope fr = true) (hjs : js.map (fun j => X.N[j]?) = fr.map some) (S : NScope N ps fr scope)
    (hbind : ∀ (cl : List (Str × Addr)) (pm ctv : Value) (us : List Value), us.length = ps.length → bindArgs (PySem.W.kla_fn name q params body scope cl pm (.ref c) ctv) ⟨us, []⟩ = pure (ps.zip us)) (len : ∀ ws vs H Q E, sp ws vs H Q E → vs.length = ps.length)
    (hbody : ∀ (cl : List (Str × Addr)) (A : Around) (outer : List Env) (s : Shared) (H : Hp) (vs : List V) (ws : List (Option V)) (Q : VK), Room k (A.deeper (envF ⟨name, q, params, [], scope, cl, c⟩ f s.heap.objs.size)) → ws.length = fr.length → sp ws vs H Q L2.E0 →
      ∃ t, PE (ncx L2.CX0 X.prog X.w X.K X.mg X.base N ⟨name, q, params, [], scope, cl, c⟩ f A outer s H L2.E0) body t ∧ t (startF N vs ws) H Q) :
    ∃ (G : Hp → Prop) (as : List Addr), FV X.prog X.w X.K X.mg X.base (k + 1) f G (spC as (sp (js.map (slotAt σ)))) ∧ G (fz (ca X) O H) := by
  have F := FV.of_lam (P := X.prog) (w := X.w) (K := X.K) (mg := X.mg) (base := X.base) (f := f) (F := ⟨name, q, params, [], scope, cloFrom X.env.cells scope.names [], c⟩) (body := body) (ws := js.map (slotAt σ)) (sp := sp) S (hbind _) len fun A outer s H vs Q hr hl h => hbody _ A outer s H vs _ Q hr hl h
  exact ⟨_, _, F.weak fun vs H' Q g h => h fun b hb => let ⟨u, e, _⟩ := g.cel b hb; ⟨u, e⟩, clo_made ow hf hc hb hjs⟩
theorem ndf_made {body : List Stmt} (ow : OwnC X σ O H) (hf : H f = some (FnO f ⟨name, q, params, body, scope, cloFrom X.env.cells scope.names [], c⟩)) (hc : H c = some (CodeO c q)) (js : List Nat) (hb : ndefB X.env.scope scope fr = true) (hjs : js.map (fun j => X.N[j]?) = fr.map some)
    (Nk : ∀ cl, NOk X.prog X.w X.K X.mg X.base L2.CX0 k f ⟨name, q, params, body, scope, cl, c⟩ ps fr sp) :
    ∃ (G : Hp → Prop) (as : List Addr), FV X.prog X.w X.K X.mg X.base k f G (spC as (sp (js.map (slotAt σ)))) ∧ G (fz (ca X) O H) := by
  have F := FV.of_nok (ws := js.map (slotAt σ)) (Nk (cloFrom X.env.cells scope.names []))
  exact ⟨_, _, F.weak fun vs H' Q g h => h fun b hb => let ⟨u, e, _⟩ := g.cel b hb; ⟨u, e⟩, clo_made ow hf hc hb hjs⟩
end
theorem Tbs.kpX {nm : Nat → Nat → Str} {Ps : List Addr} {P : Addr} {H H' : Hp} (t : Tbs nm Ps H) (hP : P ∈ Ps) (k : Kp [P] H H') {b : Addr} {o : HO} (e : H b = some o) (x : isX o) : H' b = some o := by
  obtain ⟨ps, z⟩ := TabN.isT (t P hP)
  refine k b o (fun m => ?_) e
  rw [List.mem_singleton.mp m, z] at e
  cases e
  exact x
/-- the data that stands while a table grows -/
theorem Tbs.kpD {nm : Nat → Nat → Str} {Ps : List Addr} {P : Addr} {H H' : Hp} (t : Tbs nm Ps H) (hP : P ∈ Ps) (k : Kp [P] H H') {b : Addr} {o : HO} (e : H b = some o) (x : ∀ ps, o ≠ .tbl ps) : H' b = some o := by
  obtain ⟨ps, z⟩ := TabN.isT (t P hP)
  refine k b o (fun m => ?_) e
  rw [List.mem_singleton.mp m, z] at e
  cases e
  exact absurd rfl (x ps)
/-- out of the callee's heap, the cells left behind -/
theorem fz_out {as : List Addr} {O : Addr → Obj} {H H' : Hp} (n : ∀ c ∈ as, H c = none) (e : Ex (fz as O H) H') : Ex H (hid as H') := fun b o z => by
  have nb : b ∉ as := fun m => by rw [n b m] at z; cases z
  rw [hid_at nb]
  exact e b o (by rw [fz_at nb]; exact z)
section
open LamX NdefX
/-- what stands but for the cells -/
def StE (H H' : Hp) : Prop := ∀ b φ, H b = some (.ext φ) → H' b = some (.ext φ)
theorem StE.hid {S : List Addr} {H : Hp} (W : ∀ b ∈ S, ∃ o, H b = some (frC b o)) : StE H (hid S H) := fun b φ e => by
  rw [hid_at fun m => by obtain ⟨o, z⟩ := W b m; rw [z] at e; cases e]
  exact e
theorem StE.of_ex {H H' : Hp} (e : Ex H H') : StE H H' := fun b φ z => e b _ z
theorem StE.trans {H H1 H2 : Hp} (a : StE H H1) (b : StE H1 H2) : StE H H2 := fun x φ z => b x φ (a x φ z)
/-- a lambda that captured nothing -/
theorem lam_free {P : Program} {w : World} {K : PySem.W.Frag} {mg : Str → Option Value} {base : Heap} {f c : Addr} {name q : Str} {params : Arguments} {scope : Scope} {N ps : List Str} {k : Nat} {sp : Sp} {body : Expr} {H : Hp} {cl : List (Str × Addr)} (hf : H f = some (FnE f ⟨name, q, params, [], scope, cl, c⟩ body)) (hc : H c = some (CodeO c q)) (hcl : cl = [])
    (S : NScope N ps [] scope) (hbind : ∀ (pm ctv : Value) (us : List Value), us.length = ps.length → bindArgs (PySem.W.kla_fn name q params body scope [] pm (.ref c) ctv) ⟨us, []⟩ = pure (ps.zip us)) (len : ∀ vs H Q E, sp vs H Q E → vs.length = ps.length)
    (hbody : ∀ (A : Around) (outer : List Env) (s : Shared) (H : Hp) (vs : List V) (Q : VK), Room k (A.deeper (envF ⟨name, q, params, [], scope, [], c⟩ f s.heap.objs.size)) → sp vs H Q L2.E0 →
      ∃ t, PE (ncx L2.CX0 P w K mg base N ⟨name, q, params, [], scope, [], c⟩ f A outer s H L2.E0) body t ∧ t (startF N vs []) H Q) :
    ∃ G : Hp → Prop, FV P w K mg base (k + 1) f G (fun vs H Q => sp vs H Q L2.E0) ∧ G H ∧ ∀ H H', StE H H' → G H → G H' := by
  subst hcl
  have F := FV.of_lam (P := P) (w := w) (K := K) (mg := mg) (base := base) (f := f) (F := ⟨name, q, params, [], scope, [], c⟩) (body := body) (fr := []) (ws := []) (sp := fun _ => sp) S hbind (fun _ => len) fun A outer s H vs Q hr _ h => hbody A outer s H vs Q hr h
  have all : ∀ H, H f = some (FnE f ⟨name, q, params, [], scope, [], c⟩ body) ∧ H c = some (CodeO c q) → Clo H f (FnE f ⟨name, q, params, [], scope, [], c⟩ body) c q [] [] [] := fun H h =>
    ⟨h.1, h.2, (fun a ha => nomatch ha), (fun x y a e => nomatch e), rfl, fun i y e => by rw [List.getElem?_nil] at e; cases e⟩
  refine ⟨fun H => H f = some (FnE f ⟨name, q, params, [], scope, [], c⟩ body) ∧ H c = some (CodeO c q), ⟨fun H h ok g => F.fn H h ok (all H g), fun H H' st g => ⟨st _ _ g.1 True.intro, st _ _ g.2 True.intro⟩, fun A outer s H us vs Q hr e0 g r q => F.run A outer s H us vs Q hr e0 (all H g) r ?_⟩, ⟨hf, hc⟩, fun H H' st g => ⟨st _ _ g.1, st _ _ g.2⟩⟩
  show sp vs (hid [] H) (fun v H' => (∀ b ∈ ([] : List Addr), H' b = none) → Q v (rz [] H H')) L2.E0
  have e1 : (fun (v : V) (H' : Hp) => (∀ b ∈ ([] : List Addr), H' b = none) → Q v (rz [] H H')) = Q := by
    funext v H'
    have e2 : rz [] H H' = H' := by
      funext b
      exact rz_at (by simp)
    rw [e2]
    exact propext ⟨fun h => h fun b hb => (nomatch hb), fun h _ => h⟩
  rw [hid_nil, e1]
  exact q
end
theorem Tbs.hidC {nm : Nat → Nat → Str} {Ps as : List Addr} {H : Hp} (t : Tbs nm Ps H) (W : ∀ b ∈ as, ∃ o, H b = some (frC b o)) : Tbs nm Ps (hid as H) := fun P hP => by
  obtain ⟨ps, e, h1, h2⟩ := t P hP
  refine ⟨ps, by rw [hid_at fun m => by obtain ⟨o, z⟩ := W P m; rw [e] at z; cases z]; exact e, h1, fun pos cv hc => ?_⟩
  obtain ⟨c, e1, e2⟩ := h2 pos cv hc
  exact ⟨c, e1, by rw [hid_at fun m => by obtain ⟨o, z⟩ := W c m; rw [e2] at z; cases z]; exact e2⟩
/-- back from a callee that may make functions -/
theorem out_T {nm : Nat → Nat → Str} {Ps as : List Addr} {O : Addr → Obj} {H H' : Hp} (n : ∀ c ∈ as, H c = none) (t : Tbs nm Ps H) (k : Kp Ps (fz as O H) H') (t' : Tbs nm Ps H') : Kp Ps H (hid as H') ∧ Tbs nm Ps (hid as H') := by
  have np : ∀ b ∈ as, b ∉ Ps := fun b hb hP => by
    obtain ⟨ps, z⟩ := TabN.isT (t b hP)
    rw [n b hb] at z; cases z
  refine ⟨fun b o hb e => ?_, t'.hidC fun b hb => ⟨O b, k b _ (np b hb) (fz_in hb)⟩⟩
  have nb : b ∉ as := fun m => by rw [n b m] at e; cases e
  rw [hid_at nb]
  exact k b o hb (by rw [fz_at nb]; exact e)
theorem rd_neB {K : PySem.W.Frag} {x y : Bool} {H : Hp} {Q : VK} (h : Q (.bl (x != y)) H) : oNe K (.bl x) (.bl y) H Q := .inl ⟨rfl, by
  have e : (!decide (V.bl x = V.bl y)) = (x != y) := by cases x <;> cases y <;> rfl
  rw [e]; exact h⟩
theorem rd_eqB {K : PySem.W.Frag} {x y : Bool} {H : Hp} {Q : VK} (h : Q (.bl (x == y)) H) : oEq K (.bl x) (.bl y) H Q := .inl ⟨rfl, by
  have e : decide (V.bl x = V.bl y) = (x == y) := by cases x <;> cases y <;> rfl
  rw [e]; exact h⟩
/-! ### tuples that are known to the object: their methods -/
/-- a tuple with no dict of its own -/
def TupF (H : Hp) (p : Addr) (xs : List V) : Prop := ∃ o : Obj, H p = some (.frz o (.tup xs)) ∧ o.cls = .type "tuple" ∧ o.dict = none
theorem TupF.sq {K : PySem.W.Frag} {H : Hp} {p : Addr} {xs : List V} (h : TupF H p xs) : SqT K H p xs := let ⟨o, e, _⟩ := h; .inl (.inr ⟨o, e⟩)
theorem TupF.ex {H H' : Hp} {p : Addr} {xs : List V} (h : TupF H p xs) (e : Ex H H') : TupF H' p xs := let ⟨o, z, r⟩ := h; ⟨o, e _ _ z, r⟩
/-- tuple(a list): the new tuple, known to the object -/
def cTupF (K : PySem.W.Frag) : List V → Hp → VK → Prop := fun xs H Q => ∃ p ys, xs = [.ref p] ∧ SqL K H p ys ∧ ∀ l o, H l = none → o.cls = .type "tuple" → o.dict = none → Q (.ref l) (upd H l (.frz o (.tup ys)))
theorem call_tupF {X : Cx} : CallR X (.type "tuple") (cTupF X.K) := by
  intro pins s σ H xs us Q I r h
  obtain ⟨p, ys, rfl, hq, q⟩ := h
  obtain ⟨u, rfl, ru⟩ := vals1 r
  cases (show u = Value.ref p from ru)
  obtain ⟨its, rv, pl, hz⟩ := I.list hq
  have len := rv.length
  refine call_tuple_list pl.isList (fun h' kp => ?_) (by rw [List.size_toArray]; omega)
  have J : Inv X pins σ H { s with heap := h' } := I.kept (t' := s.toks) kp
  have got : (h'.push { cls := .type "tuple", data := .seq its.toArray }).get? h'.objs.size = some { cls := .type "tuple", data := .seq its.toArray } := Heap.get?_push_size _ rfl
  refine ⟨.ref h'.objs.size, _, J.laid (t' := s.toks) (o := .frz { cls := .type "tuple", data := .seq its.toArray } (.tup ys)) (fun b o e => Heap.get?_push_of_some _ e) (Nat.le_refl _) ⟨got, hz, its, rv, IsTup.new _ _⟩, rfl, q _ _ (J.hok.fresh (Nat.le_refl _)) rfl rfl⟩
/-- o.m(..), o a tuple that is known to the object -/
def tBMF (r : V → List V → Hp → VK → Prop) (to : TE) (t : TA) : TE := fun σ H Q => to σ H fun x H1 => (∃ p xs, x = .ref p ∧ TupF H1 p xs) ∧ t σ H1 fun vs H2 => r x vs H2 Q
theorem pe_bmF {X : Cx} {o e : Expr} {es : List Expr} {name : Str} {id : String} {r : V → List V → Hp → VK → Prop} {to : TE} {t : TA} {apos cpos : Pos} (pa : PlainAttrs "tuple") (slot : Slot "tuple" name id) (hty : typeOf (.builtin id) = pure (.type "method_descriptor")) (hm : MtR X id r) (ho : PE X o to) (ha : PA X (e :: es) t)
    (hbase : attributeBase o name X.env (eval o X.env) = eval o X.env := by rfl)
    (hfew : ((backTo cpos (starEach (e :: es) X.env)).all (fun x => !x.1) && (backToKw cpos (keywordEach [] X.env)).all (fun x => x.1.isSome) && decide ((e :: es).length + ([] : List Keyword).length + (if ([] : List Keyword).isEmpty then 0 else 1) < 30)) = true := by rfl)
    (hline : (apos.endLine == cpos.line) = true := by rfl) (hs : starEach (e :: es) X.env = (false, eval e X.env) :: starEach es X.env := by rfl) (hpl : (backTo cpos (starEach es X.env)).any (·.1) = false := by rfl) :
    PE X (.Call (.Attribute o name apos) (e :: es) [] cpos) (tBMF r to t) := by
  constructor
  intro pins s σ H Q I h
  refine wpAny_Call_method_late hbase hfew hline rfl (thn (ho.run pins s σ H _ I h) fun v s1 z => ?_)
  obtain ⟨x, H1, I1, r1, ⟨p, xs, rfl, u, hp, hc, hd⟩, q1⟩ := z
  have hv : v = Value.ref p := r1
  obtain ⟨got, _⟩ := I1.hok p _ hp
  refine ⟨"tuple", id, pa, slot, hty, by rw [hv]; exact ⟨u, got, hc⟩, fun a e => ?_, ?_⟩
  · rw [hv] at e
    cases e
    exact ⟨u, got, hd⟩
  have hA := ha.run cpos pins s1 σ H1 _ I1 q1
  rw [hs] at hA ⊢
  refine Calls.callWith_builtin (by show (false || (backTo cpos (starEach es X.env)).any (·.1)) = false; rw [hpl]; rfl) (Calls.evalArgs_plain ?_)
  exact thn hA fun us s2 z => by
    obtain ⟨vs, H2, I2, r2, q2⟩ := z
    exact hm pins s2 σ H2 _ vs v us Q I2 r1 r2 q2
section
variable {X : Cx} (K : PySem.W.Frag) (hK : X.K = K := by rfl)
include hK
theorem kTupF : CallR X (.type "tuple") (cTupF K) := hK ▸ call_tupF
end
theorem rd_bmF {r : V → List V → Hp → VK → Prop} {to : TE} {t : TA} {σ : L2.St} {H : Hp} {Q : VK} (h : to σ H fun x H1 => (∃ p xs, x = .ref p ∧ TupF H1 p xs) ∧ t σ H1 fun vs H2 => r x vs H2 Q) : tBMF r to t σ H Q := h
end AT

set_option Elab.async false
set_option linter.all false
set_option maxRecDepth 100000
set_option maxHeartbeats 4000000
/-! own words: try, with several clauses that name the exception -/
namespace AT
open PySem PySem.Spec PyProof.Rows L2
abbrev Clz := List (Value × Nat × (Addr → Value → Option Addr → TS))
abbrev EndsN (D : Ends) (i : Nat) : Ends := { nx := fun t G => D.nx (t.set i none) G, rt := D.rt, bk := fun t G => D.bk (t.set i none) G, ct := fun t G => D.ct (t.set i none) G }
/-- what the clauses ask of what is raised, one behind another; each has the slot of its name -/
def wAll (F : PySem.W.Frag) (out : WX) (D : Ends) : Clz → WX
  | [] => out
  | (k, i, t) :: more => fun cl dd st G => ∃ yes, PySem.W.exmOne F cl k = some yes ∧ (yes = true → ∀ a, G a = none → t a cl dd (EndsN D i) (st.set i (some (.ref a))) G) ∧ (yes = false → wAll F out D more cl dd st G)
inductive ClsOk (X : Cx) : List ExceptHandler → Clz → Prop
  | nil : ClsOk X [] []
  | cons {y m : Str} {k : Value} {i : Nat} {t : Addr → Value → Option Addr → TS} {s₀ : Stmt} {ss : List Stmt} {p1 p2 : Pos} {hs : List ExceptHandler} {l : Clz} (hi : X.N[i]? = some m) (hm : X.env.kindOf m = some .local) (hk : Names X y k)
      (hS : ∀ (a : Addr) (ob : Obj) (cl : Value) (dd : Option Addr) (ps : List (Addr × Obj)), Zc cl dd ob → (∃ fs, ob.data = .fields fs) → PSs (X.suite a ((a, ob) :: ps)) (s₀ :: ss) (t a cl dd)) (rest : ClsOk X hs l) :
      ClsOk X (.ExceptHandler (some (.Name y p1)) (some m) (s₀ :: ss) p2 :: hs) ((k, i, t) :: l)
section
variable {X : Cx} {body : List Stmt} {h₀ : ExceptHandler} {hds : List ExceptHandler} {l : Clz} {pos : Pos} {tb : WX → TS} {out : WX}
theorem ps_try_names (hN : X.N.Nodup) (e1 : X.stack = X.env :: X.outer) (e2 : X.env.frame = some X.env.locals) (tk : Takes X out)
    (hB : ∀ (W : WX) (ps : List (Addr × Obj)) (xe : Value → Shared → Prop), Takes (X.tr ps xe) W → PassesOwn (model X.prog X.w) X.A X.env xe → PSs (X.tr ps xe) body (tb W))
    (hC : ClsOk X (h₀ :: hds) l) : PS X (.Try body (h₀ :: hds) [] [] pos) (fun D st G => tb (wAll X.K out D l) D st G) := by
  refine ⟨fun pz s₁ st G D J h => ?_⟩
  have jok := J.ok
  have fr : X.A.frames = some (X.env :: X.outer) := by rw [jok.frames, e1]
  let catch_ : Value → Shared → Prop := fun ev t₁ => wpAny (model X.prog X.w) X.A (noteFrame ev X.env) (fun _ t₂ => wpAny (model X.prog X.w) X.A (setFlight ev none) (fun _ t₃ =>
    wpAny (model X.prog X.w) X.A (handleBy ev X.env (h₀ :: hds)) (SP X pz D) X.xe t₃) X.xe t₂) X.xe t₁
  have body_ := (hB (wAll X.K out D l) (X.pn ++ pz) catch_ (fun ev t₁ z => ?tk) PassesOwn.looking).run [] s₁ st G D (J.toTry _) h
  case tk =>
    obtain ⟨a, B, sB, _, st1, G1, cl, dd, rfl, JB, nb, up, sky, na, os, ag, asked⟩ := z
    have J1 : Inv X pz st1 G1 sB := JB.ofTry jok
    rw [e1] at sky
    refine Sky.land Zc.steady fr e2 sky fun g3 f3 u3 => ?_
    have J3 : Inv X pz st1 G1 { t₁ with heap := g3 } := J1.landed nb f3.1 (up.trans u3) os ag
    obtain ⟨ob3, fs3, at3, zc3, da3⟩ := f3.there
    have out3 : a ∉ frs (X.env :: X.outer) := fun hm => by
      obtain ⟨_, o', eo, none'⟩ := f3.2.2.1.mem hm
      rw [at3] at eo
      cases eo
      exact none' _ da3
    have aL : a ≠ X.env.locals := fun z => out3 (List.mem_filterMap.mpr ⟨X.env, List.mem_cons_self, by rw [e2, z]⟩)
    have aF : a ∉ X.fs := fun hm => by
      obtain ⟨en, hen, q⟩ := List.mem_filterMap.mp hm
      exact out3 (List.mem_filterMap.mpr ⟨en, List.mem_cons_of_mem _ hen, q⟩)
    have S3 := J3.suite at3 da3 na aL aF
    have through : ∀ {hs : List ExceptHandler} {l' : Clz}, ClsOk X hs l' → wAll X.K out D l' cl dd st1 G1 → wpAny (model X.prog X.w) X.A (handleBy (.ref a) X.env hs) (SP X pz D) X.xe { t₁ with heap := g3 } := by
      intro hs l' hl
      induction hl with
      | nil =>
        intro asked
        refine wpAny_handleBy_nil ?_
        obtain ⟨_, _, _, ob, fs, T, oT, tt, eo, _, ed, hT, _⟩ := id f3
        unfold PySem.passOn
        refine wpAny_bind (wpAny_field eo ed hT ?_)
        have nT : ¬ ((Value.ref T == Value.none) = true) := by simp
        rw [if_neg nT]
        have go : wpAny (model X.prog X.w) X.A (setFlight (.ref a) X.env.frame) (fun _ t₄ => wpAny (model X.prog X.w) X.A (throw (.ref a) : Sem Flow) (SP X pz D) X.xe t₄) X.xe { t₁ with heap := g3 } := by
          rw [e2]
          refine HandSPX.setFlight_upZ f3 fun g4 sk4 u4 => wpAny_throw (tk _ _ ?_)
          refine ⟨a, B, sB, pz, st1, G1, cl, dd, rfl, J1, nb, (up.trans u3).trans u4, .inr (.inr ?_), na, os, ag, asked⟩
          rw [e1]
          exact sk4
        first | exact wpAny_bind (wpAny_pure (wpAny_bind go)) | exact wpAny_bind go
      | @cons y m k i t s₀ ss p1 p2 hs2 l2 hi hm hk hS rest ih =>
        intro asked
        obtain ⟨yes, hb, on, off⟩ := asked
        refine wpAny_handleBy_cons (codeAny_handlers_test ?_) (by intro z; cases z)
        have look : PySem.W.Looks (model X.prog X.w) g3 (typeOf (.ref a)) cl := fun A Q E t c q => wpAny_typeOf_ref (c _ _ at3) (by rw [zc3.1]; exact q)
        have one := PySem.W.exm_one (M := model X.prog X.w) (J3.kIn) look hb
        have named : ∀ {Q E : Value → Shared → Prop}, Q k { t₁ with heap := g3 } → wpAny (model X.prog X.w) (X.A.mark (some (.ref a))) (eval (.Name y p1) X.env) Q E { t₁ with heap := g3 } := fun {Q E} q => by
          obtain ⟨gl, dbg, own | ⟨no, blt, nn⟩⟩ := hk
          · exact ld_glob (X := X.suite a ((a, ob3) :: (X.pn ++ pz))) S3 gl own q dbg
          · exact ld_blt (X := X.suite a ((a, ob3) :: (X.pn ++ pz))) S3 gl no blt q nn dbg
        refine named (one.here ?_)
        cases yes with
        | true =>
          refine codeAny_handlers_suite_as ?_
          refine HandSPX.lands_againZ f3 fun g4 f4 u4 => ?_
          have J4 : Inv X pz st1 G1 { t₁ with heap := g4 } := J1.landed nb f4.1 ((up.trans u3).trans u4) os ag
          obtain ⟨ob4, fs4, at4, zc4, da4⟩ := f4.there
          have S4 := J4.suite at4 da4 na aL aF
          refine store_ok (X := X.suite a ((a, ob4) :: (X.pn ++ pz))) (v := .ref a) S4 hN hi (.inl hm) rfl (fun t₅ S5 => ?_) (.inr hm)
          have gone : ∀ {st6 : L2.St} {G6 : Hp} {t₆ : Shared} {Q : Shared → Prop}, Inv (X.suite a ((a, ob4) :: (X.pn ++ pz))) [] st6 G6 t₆ → (∀ t₇, Inv X pz (st6.set i none) G6 t₇ → Q t₇) → wpAny (model X.prog X.w) X.A (do bindName X.env m .none; unbindBehindTheSuite X.env m p2) (fun _ t₇ => Q t₇) X.xe t₆ :=
            fun S6 q => gone_ok (S6.unsuite jok) hN hi hm q
          refine wpAny_mono ((hS a ob4 cl dd (X.pn ++ pz) zc4 ⟨_, da4⟩).run [] t₅ _ G1 _ S5 (on rfl a na)) (fun flow t₆ fin => ?_) (fun _ _ z => z.elim)
          cases flow with
          | next => obtain ⟨_, _, S6, q6⟩ := fin; exact gone S6 fun t₇ J7 => ⟨_, _, J7, q6⟩
          | brk => obtain ⟨_, _, S6, q6⟩ := fin; exact gone S6 fun t₇ J7 => ⟨_, _, J7, q6⟩
          | cont => obtain ⟨_, _, S6, q6⟩ := fin; exact gone S6 fun t₇ J7 => ⟨_, _, J7, q6⟩
          | ret u => obtain ⟨_, _, _, S6, r6, q6⟩ := fin; exact gone S6 fun t₇ J7 => ⟨_, _, _, J7, r6, q6⟩
        | false =>
          show wpAny _ X.A (handleBy (.ref a) X.env hs2) _ _ _
          exact ih (off rfl)
    exact through hC asked
  refine wpAny_Try_except (wpAny_mono body_ (fun flow t₁ fin => ?_) fun ev t₁ q => q)
  cases flow with
  | next => obtain ⟨_, _, J1, q⟩ := fin; exact wpAny_execs_nil ⟨_, _, J1.ofTry jok, q⟩
  | brk => obtain ⟨_, _, J1, q⟩ := fin; exact ⟨_, _, J1.ofTry jok, q⟩
  | cont => obtain ⟨_, _, J1, q⟩ := fin; exact ⟨_, _, J1.ofTry jok, q⟩
  | ret u => obtain ⟨_, _, _, J1, r, q⟩ := fin; exact ⟨_, _, _, J1.ofTry jok, r, q⟩
end
end AT

set_option Elab.async false
set_option linter.all false
set_option maxRecDepth 100000
set_option maxHeartbeats 4000000
/-! own words: sorted(a list of texts); there is one way to sort -/
namespace AT
open PySem PySem.Spec PyProof.Rows L2
section
variable {X : Cx} (K : PySem.W.Frag) (hK : X.K = K := by rfl)
include hK
theorem kSortS : CallR X (.builtin "sorted") (rSortedS K) := hK ▸ cr_sortedS
end
theorem lt_irr : ∀ x : List Nat, ltCps x x = false := by
  intro x
  induction x with
  | nil => rfl
  | cons a x ih => simp [ltCps, ih]
theorem lt_tri : ∀ x y : List Nat, ltCps x y = false → ltCps y x = false → x = y := by
  intro x
  induction x with
  | nil => intro y; cases y with
    | nil => intros; rfl
    | cons b y => intro h; simp [ltCps] at h
  | cons a x ih =>
    intro y
    cases y with
    | nil => intro _ h; simp [ltCps] at h
    | cons b y =>
      intro h1 h2
      simp only [ltCps] at h1 h2
      by_cases e : a = b
      · subst e
        simp at h1 h2
        rw [ih y h1 h2]
      · exfalso
        have : a < b ∨ b < a := by omega
        rcases this with z | z <;> simp [z] at h1 h2
theorem le_tr : ∀ x y z : List Nat, ltCps y x = false → ltCps z y = false → ltCps z x = false := by
  intro x
  induction x with
  | nil => intro y z _ _; cases z <;> simp [ltCps]
  | cons a x ih =>
    intro y z h1 h2
    cases y with
    | nil => simp [ltCps] at h1
    | cons b y =>
      cases z with
      | nil => simp [ltCps] at h2
      | cons c z =>
        simp only [ltCps] at h1 h2 ⊢
        simp only [Bool.or_eq_false_iff, Bool.and_eq_false_iff, decide_eq_false_iff_not, beq_eq_false_iff_ne] at h1 h2 ⊢
        refine ⟨by omega, ?_⟩
        rcases h1.2 with u | u
        · exact .inl (by omega)
        · rcases h2.2 with v | v
          · exact .inl (by omega)
          · exact .inr (ih y z u v)
theorem rising_pw : ∀ (p : Str) (l : List Str), risingS p l = true → (p :: l).Pairwise fun x y => ltCps y.cps.toList x.cps.toList = false := by
  intro p l
  induction l generalizing p with
  | nil => intro _; exact List.pairwise_singleton _ _
  | cons x l ih =>
    intro h
    simp only [risingS, Bool.and_eq_true, Bool.not_eq_true'] at h
    have g := ih x h.2
    refine List.Pairwise.cons (fun y hy => ?_) g
    rcases List.mem_cons.mp hy with rfl | hy
    · exact h.1
    · exact le_tr _ _ _ h.1 ((List.pairwise_cons.mp g).1 y hy)
theorem sorted_pw {l : List Str} (h : sortedS l = true) : l.Pairwise fun x y => ltCps y.cps.toList x.cps.toList = false := by
  cases l with
  | nil => exact .nil
  | cons x l => exact rising_pw x l h
theorem sorted_uniq {l m : List Str} (h : l.Perm m) (a : sortedS l = true) (b : sortedS m = true) : l = m := by
  refine h.eq_of_pairwise (fun x y _ _ h1 h2 => ?_) (sorted_pw a) (sorted_pw b)
  have e := lt_tri _ _ h2 h1
  cases x; cases y
  rw [Str.mk.injEq]
  exact Array.toList_inj.mp e
end AT

set_option Elab.async false
set_option linter.all false
set_option maxRecDepth 100000
set_option maxHeartbeats 4000000
/-! own words: tuples put together and repeated, also empty ones -/
namespace AT
open PySem PySem.Spec PyProof.Rows L2
theorem tuple_mul0 (l : Addr) (items : Array Value) (k : Int) (n : Nat) (dd : Option Addr) (sl : Array (Option Value)) (u : Tok) (h1 : 0 ≤ k) (h2 : k ≤ 1000) (c1 : items.isEmpty = true) :
    Meets (Builtin.«tuple.__mul__» ⟨[.ref l, .int k u], []⟩) (fun _ R s => s.heap.get? l = some { cls := .type "tuple", dict := dd, data := .seq items n, slots := sl } ∧ R (.ok (.ret (Value.ref l))) s) :=
  .of_wp fun prog w A R s h => by
    obtain ⟨hp, g, d, tk, os⟩ := s
    obtain ⟨hl, h⟩ := h
    have f1 := AutoSeq1.idx_int
    have c0 : (decide (k < -(2 ^ 63)) || decide (k ≥ 2 ^ 63)) = false := by
      rw [decide_eq_false (by omega), decide_eq_false (by omega)]; rfl
    have c2 : (items.isEmpty || k == 1) = true := by rw [c1]; rfl
    wp_walk using wpAny_loadPart' hl
    repeat (first
      | (refine wpAny_ite_false (decide_eq_false (by rw [c0]; exact Bool.false_ne_true)) ?_; wp_walk using wpAny_loadPart' hl)
      | (refine wpAny_ite_true (decide_eq_true c2) ?_; wp_walk using wpAny_loadPart' hl))
    exact ⟨_, rfl, h⟩
/-- an empty tuple, several times -/
def rRepT0 (K : PySem.W.Frag) : R2 := fun x y H Q => ∃ l k, x = .ref l ∧ y = .int k ∧ 0 ≤ k ∧ k ≤ 1000 ∧ SqT K H l [] ∧ Q (.ref l) H
section
variable {X : Cx}
theorem op_repT0 : OpR X (binaryOp .Mult) (rRepT0 X.K) := by
  intro pins s σ H x y v u Q I rx ry h
  obtain ⟨l, k, rfl, rfl, h1, h2, hT, q⟩ := h
  cases rx
  obtain ⟨t, rfl⟩ := ry
  obtain ⟨its, r, ⟨⟨cls, dd, data, sl⟩, ho, hc, n, hd⟩, hs⟩ := I.tuple hT
  simp only at hc hd
  subst hc hd
  cases r
  have hi : ([] : List Value).toArray.isEmpty = true := rfl
  refine wpAny_binaryOp_repeat_ref (T := "tuple") (U := "int") (by decide) ⟨_, ho, rfl⟩ (fun s' => typeIs_int s' k t) noFill_tuple_mul F.fills_int_mul F.slot_int_rmul repeat_tuple F.slot_int_index.lookup
    (call_meets F.slot_int_rmul (typeIs_int s k t) F.entry_int_rmul (F.args_int_rmul_2 _ _) (int_rmul_tuple k t l ([] : List Value).toArray n dd sl)
      ⟨ho, rfl, ⟨_, ho, rfl⟩, call_meets F.slot_tuple_mul ⟨_, ho, rfl⟩ F.entry_tuple_mul (F.args_tuple_mul_2 _ _) (tuple_mul0 l ([] : List Value).toArray k n dd sl t h1 h2 hi) ⟨ho, ?_⟩⟩)
  exact ⟨.ref l, H, I, rfl, q⟩
end
/-- a tuple, several times, empty or not -/
def oMulA (K : PySem.W.Frag) : R2 := fun x y H Q => rRepT K x y H Q ∨ rRepT0 K x y H Q
section
variable {X : Cx} (K : PySem.W.Frag) (hK : X.K = K := by rfl)
include hK
theorem kMulA : OpR X (binaryOp .Mult) (oMulA K) := hK ▸ OpR.or op_repT op_repT0
theorem kCatA : OpR X (binaryOp .Add) (rCatA K) := hK ▸ op_catA
end
end AT

set_option Elab.async false
set_option linter.all false
set_option maxRecDepth 100000
set_option maxHeartbeats 4000000
local macro_rules | `(tactic| walk_at "rd1") => `(tactic| with_reducible first
  | refine AT.rd_seq ?_ | refine AT.rd_is ?_ | refine AT.rd_asg ?_ | refine AT.rd_name ?_ | refine AT.rd_var (by with_unfolding_all rfl) ?_ | refine AT.rd_c ?_ | refine AT.rd_op ?_ | refine AT.rd_ret ?_ | refine AT.rd_retN ?_ | refine AT.rd_if ?_ | refine AT.rd_ife ?_ | refine AT.rd_next ?_ | refine AT.rd_drop ?_
  | refine AT.rd_test ?_ | refine AT.rd_tB ?_ | refine AT.rd_bl ?_ | refine AT.rd_not ?_ | refine AT.rd_and ?_ | refine AT.rd_or ?_ | refine AT.rd_nil ?_ | refine AT.rd_cons ?_ | refine AT.rd_lst ?_ | refine AT.rd_tup ?_ | refine AT.rd_cb ?_ | refine AT.rd_chain ?_
  | refine AT.rd_called ?_ | refine AT.rd_calledR ?_ | refine AT.rd_raised ?_ | refine AT.rd_iteT ?_ | refine AT.rd_iteF ?_ | refine AT.rd_iteNF ?_ | refine AT.rd_iteNT ?_ | refine AT.rd_addI ?_ | refine AT.rd_subI ?_ | refine AT.rd_lt ?_ | refine AT.rd_le ?_ | refine AT.rd_gt ?_ | refine AT.rd_ge ?_ | refine AT.rd_eqI ?_ | refine AT.rd_neI ?_ | refine AT.rd_eqS ?_ | refine AT.rd_neS ?_
  | refine AT.rd_int ?_ | refine AT.rd_abs ?_ | refine AT.rd_inS ?_ | refine AT.rd_niS ?_ | refine AT.rd_rng1 ?_ | refine AT.rd_rng2 ?_ | refine AT.rd_bm ?_ | refine AT.rd_fld ?_ | refine AT.rd_sfld ?_ | refine AT.rd_makeR ?_ | refine AT.rd_methR ?_ | refine AT.rd_meth ?_ | refine AT.rd_notV ?_ | refine AT.rd_xf ?_ | refine AT.rd_andV ?_ | refine AT.rd_orV ?_ | refine AT.rd_sl ?_ | refine AT.rd_noPart ?_ | refine AT.rd_part ?_ | refine AT.rd_intv ?_ | refine AT.rd_raised1 ?_ | refine AT.rd_gsub ?_ | refine AT.rd_gN ?_ | refine AT.rd_par3 ?_ | refine AT.rd_dget ?_ | refine AT.rd_din ?_ | refine AT.rd_dnin ?_ | refine AT.rd_dput ?_ | refine AT.rd_disp1T ?_ | refine AT.rd_dnK ?_ | refine AT.rd_dnT ?_ | refine AT.rd_v3 ?_ | refine AT.rd_gE ?_ | refine AT.rd_for ?_ | refine AT.rd_lc ?_ | refine AT.rd_lenL (by assumption) ?_ | refine AT.rd_dsetd ?_ | refine AT.rd_dgetX ?_ | refine AT.rd_dninX ?_ | refine AT.rd_dputX ?_ | refine AT.rd_dsetdB ?_ | refine AT.rd_dgetB ?_ | refine AT.rd_dnB ?_ | refine AT.rd_lenT (by assumption) ?_)
local macro_rules | `(tactic| walk_at "rd") => `(tactic| (repeat walk_at "rd1"))
local macro_rules | `(tactic| walk_at "rc1") => `(tactic| with_reducible first
  | refine AT.rd_seqA ?_ | refine AT.rd_is ?_ | refine AT.rd_seqD ?_ | refine AT.rd_asg ?_ | refine AT.rd_name ?_ | refine AT.rd_var (by with_unfolding_all rfl) ?_ | refine AT.rd_c ?_ | refine AT.rd_op ?_ | refine AT.rd_ret ?_ | refine AT.rd_retN ?_ | refine AT.rd_if ?_ | refine AT.rd_next ?_ | refine AT.rd_drop ?_
  | refine AT.rd_test ?_ | refine AT.rd_tB ?_ | refine AT.rd_bl ?_ | refine AT.rd_not ?_ | refine AT.rd_and ?_ | refine AT.rd_or ?_ | refine AT.rd_nil ?_ | refine AT.rd_cons ?_ | refine AT.rd_lst ?_ | refine AT.rd_tup ?_ | refine AT.rd_cb ?_ | refine AT.rd_chain ?_
  | refine AT.rd_called ?_ | refine AT.rd_calledR ?_ | refine AT.rd_raised ?_ | refine AT.rd_iteT ?_ | refine AT.rd_iteF ?_ | refine AT.rd_iteNF ?_ | refine AT.rd_iteNT ?_ | refine AT.rd_addI ?_ | refine AT.rd_subI ?_ | refine AT.rd_lt ?_ | refine AT.rd_le ?_ | refine AT.rd_gt ?_ | refine AT.rd_ge ?_ | refine AT.rd_eqI ?_ | refine AT.rd_neI ?_ | refine AT.rd_eqS ?_ | refine AT.rd_neS ?_
  | refine AT.rd_int ?_ | refine AT.rd_abs ?_ | refine AT.rd_inS ?_ | refine AT.rd_niS ?_ | refine AT.rd_rng1 ?_ | refine AT.rd_rng2 ?_ | refine AT.rd_bm ?_ | refine AT.rd_fld ?_ | refine AT.rd_sfld ?_ | refine AT.rd_makeR ?_ | refine AT.rd_methR ?_ | refine AT.rd_meth ?_ | refine AT.rd_notV ?_ | refine AT.rd_xf ?_ | refine AT.rd_sl ?_ | refine AT.rd_noPart ?_ | refine AT.rd_part ?_ | refine AT.rd_intv ?_ | refine AT.rd_raised1 ?_ | refine AT.rd_gsub ?_ | refine AT.rd_gN ?_ | refine AT.rd_par3 ?_ | refine AT.rd_dget ?_ | refine AT.rd_din ?_ | refine AT.rd_dnin ?_ | refine AT.rd_dput ?_ | refine AT.rd_disp1T ?_ | refine AT.rd_dnK ?_ | refine AT.rd_dnT ?_ | refine AT.rd_v3 ?_ | refine AT.rd_gE ?_ | refine AT.rd_for ?_ | refine AT.rd_lc ?_ | refine AT.rd_lenL (by assumption) ?_ | refine AT.rd_dsetd ?_ | refine AT.rd_dgetX ?_ | refine AT.rd_dninX ?_ | refine AT.rd_dputX ?_ | refine AT.rd_dsetdB ?_ | refine AT.rd_dgetB ?_ | refine AT.rd_dnB ?_ | refine AT.rd_lenT (by assumption) ?_)
local macro_rules | `(tactic| walk_at "rc") => `(tactic| ((repeat walk_at "rc1"); (try with_reducible refine AT.rd_idS ?_)))
local macro_rules | `(tactic| walk_at "rs") => `(tactic| with_reducible refine AT.rd_seq ?_)

namespace AT
open PySem L2
def top (i : Nat) : Stmt := PySem.Challenge.pw_anytext_k34_programs_in_order.main.body.getD i (.Pass ⟨0, 0, 0, 0⟩)
abbrev s__wall : Stmt := top 0
theorem sc__wall : FnScope ["k"] ["k"] (defScope s__wall) := ⟨rfl, rfl, rfl, by decide +kernel, rfl, by decide +kernel, by decide +kernel⟩
abbrev s_check_alphabet : Stmt := top 17
theorem sc_check_alphabet : FnScope ["letters", "letter"] ["letters"] (defScope s_check_alphabet) := ⟨rfl, rfl, rfl, by decide +kernel, rfl, by decide +kernel, by decide +kernel⟩
abbrev s_is_text : Stmt := top 18
theorem sc_is_text : FnScope ["letters", "text", "letter"] ["letters", "text"] (defScope s_is_text) := ⟨rfl, rfl, rfl, by decide +kernel, rfl, by decide +kernel, by decide +kernel⟩
abbrev s_check_text : Stmt := top 19
theorem sc_check_text : FnScope ["letters", "text"] ["letters", "text"] (defScope s_check_text) := ⟨rfl, rfl, rfl, by decide +kernel, rfl, by decide +kernel, by decide +kernel⟩
abbrev s_block_numbers : Stmt := top 21
theorem sc_block_numbers : FnScope ["kinds", "sources", "blocks", "waiting", "goals", "sources_of", "goal", "source", "numbers", "block"] ["kinds", "sources"] (defScope s_block_numbers) := ⟨rfl, rfl, rfl, by decide +kernel, rfl, by decide +kernel, by decide +kernel⟩
abbrev s_first_states : Stmt := top 22
theorem sc_first_states : FnScope ["numbers", "found", "state", "number"] ["numbers"] (defScope s_first_states) := ⟨rfl, rfl, rfl, by decide +kernel, rfl, by decide +kernel, by decide +kernel⟩
abbrev s__blocks_of_kinds : Stmt := top 23
theorem sc__blocks_of_kinds : FnScope ["kinds", "lots", "state", "kind", "blocks"] ["kinds"] (defScope s__blocks_of_kinds) := ⟨rfl, rfl, rfl, by decide +kernel, rfl, by decide +kernel, by decide +kernel⟩
abbrev s_explored : Stmt := top 28
theorem sc_explored : FnScope ["letters", "start", "step", "accepts", "numbers", "keys", "table", "row", "index", "key"] ["letters", "start", "step", "accepts"] (defScope s_explored) := ⟨rfl, rfl, rfl, by decide +kernel, rfl, by decide +kernel, by decide +kernel⟩
abbrev s_ways_back : Stmt := top 30
theorem sc_ways_back : FnScope ["nexts", "found", "_", "state", "afters", "after"] ["nexts"] (defScope s_ways_back) := ⟨rfl, rfl, rfl, by decide +kernel, rfl, by decide +kernel, by decide +kernel⟩
abbrev s_least : Stmt := top 32
theorem sc_least : FnScope ["machine"] ["machine"] (defScope s_least) := ⟨rfl, rfl, rfl, by decide +kernel, rfl, by decide +kernel, by decide +kernel⟩
abbrev s_least_from : Stmt := top 33
theorem sc_least_from : FnScope ["machine", "start"] ["machine", "start"] (defScope s_least_from) := ⟨rfl, rfl, rfl, by decide +kernel, rfl, by decide +kernel, by decide +kernel⟩
abbrev s_least_explored : Stmt := top 34
theorem sc_least_explored : FnScope ["letters", "start", "step", "accepts"] ["letters", "start", "step", "accepts"] (defScope s_least_explored) := ⟨rfl, rfl, rfl, by decide +kernel, rfl, by decide +kernel, by decide +kernel⟩
abbrev s__merged : Stmt := top 35
theorem sc__merged : FnScope ["machine", "sources", "index", "numbers", "firsts", "state", "after"] ["machine"] (defScope s__merged) := ⟨rfl, rfl, rfl, by decide +kernel, rfl, by decide +kernel, by decide +kernel⟩
abbrev s_sources_by : Stmt := top 36
theorem sc_sources_by : FnScope ["machine", "index", "row"] ["machine", "index"] (defScope s_sources_by) := ⟨rfl, rfl, rfl, by decide +kernel, rfl, by decide +kernel, by decide +kernel⟩
abbrev s_both : Stmt := top 38
theorem sc_both : FnScope ["first", "second"] ["first", "second"] (defScope s_both) := ⟨rfl, rfl, rfl, by decide +kernel, rfl, by decide +kernel, by decide +kernel⟩
abbrev s_either : Stmt := top 39
theorem sc_either : FnScope ["first", "second"] ["first", "second"] (defScope s_either) := ⟨rfl, rfl, rfl, by decide +kernel, rfl, by decide +kernel, by decide +kernel⟩
abbrev s_opposite : Stmt := top 40
theorem sc_opposite : FnScope ["machine", "accepting"] ["machine"] (defScope s_opposite) := ⟨rfl, rfl, rfl, by decide +kernel, rfl, by decide +kernel, by decide +kernel⟩
abbrev s__paired : Stmt := top 41
theorem sc__paired : FnScope ["first", "second", "chosen", "step", "accepts"] ["first", "second", "chosen"] (defScope s__paired) := ⟨rfl, rfl, rfl, by decide +kernel, rfl, by decide +kernel, by decide +kernel⟩
abbrev s_chained_texts : Stmt := top 43
theorem sc_chained_texts : FnScope ["first", "second", "joined", "step", "accepts"] ["first", "second"] (defScope s_chained_texts) := ⟨rfl, rfl, rfl, by decide +kernel, rfl, by decide +kernel, by decide +kernel⟩
abbrev s_repetition : Stmt := top 44
theorem sc_repetition : FnScope ["machine", "step", "accepts"] ["machine"] (defScope s_repetition) := ⟨rfl, rfl, rfl, by decide +kernel, rfl, by decide +kernel, by decide +kernel⟩
abbrev s__lot : Stmt := top 45
theorem sc__lot : FnScope ["states"] ["states"] (defScope s__lot) := ⟨rfl, rfl, rfl, by decide +kernel, rfl, by decide +kernel, by decide +kernel⟩
abbrev s__after : Stmt := top 46
theorem sc__after : FnScope ["machine", "lot", "index", "state"] ["machine", "lot", "index"] (defScope s__after) := ⟨rfl, rfl, rfl, by decide +kernel, rfl, by decide +kernel, by decide +kernel⟩
abbrev s__accepts_one : Stmt := top 47
theorem sc__accepts_one : FnScope ["machine", "lot", "state"] ["machine", "lot"] (defScope s__accepts_one) := ⟨rfl, rfl, rfl, by decide +kernel, rfl, by decide +kernel, by decide +kernel⟩
abbrev s_parts_of : Stmt := top 50
theorem sc_parts_of : FnScope ["term"] ["term"] (defScope s_parts_of) := ⟨rfl, rfl, rfl, by decide +kernel, rfl, by decide +kernel, by decide +kernel⟩
abbrev s_flat_terms : Stmt := top 51
theorem sc_flat_terms : FnScope ["pattern", "numbers", "done", "waiting", "term", "has_parts", "parts", "part", "first", "flat"] ["pattern"] (defScope s_flat_terms) := ⟨rfl, rfl, rfl, by decide +kernel, rfl, by decide +kernel, by decide +kernel⟩
abbrev s_machine_of : Stmt := top 53
theorem sc_machine_of : FnScope ["letters", "pattern", "machines", "term"] ["letters", "pattern"] (defScope s_machine_of) := ⟨rfl, rfl, rfl, by decide +kernel, rfl, by decide +kernel, by decide +kernel⟩
abbrev s__machine_of_term : Stmt := top 54
theorem sc__machine_of_term : FnScope ["letters", "term", "machines", "kind", "first", "second"] ["letters", "term", "machines"] (defScope s__machine_of_term) := ⟨rfl, rfl, rfl, by decide +kernel, rfl, by decide +kernel, by decide +kernel⟩
abbrev s__machine_of_leaf : Stmt := top 55
theorem sc__machine_of_leaf : FnScope ["letters", "term", "single", "dead", "kept", "from_empty", "letter", "to_dead", "_", "accepting"] ["letters", "term"] (defScope s__machine_of_leaf) := ⟨rfl, rfl, rfl, by decide +kernel, rfl, by decide +kernel, by decide +kernel⟩
abbrev s_is_name : Stmt := top 60
theorem sc_is_name : FnScope ["name", "letter"] ["name"] (defScope s_is_name) := ⟨rfl, rfl, rfl, by decide +kernel, rfl, by decide +kernel, by decide +kernel⟩
abbrev s_check_program : Stmt := top 67
theorem sc_check_program : FnScope ["book", "program", "known", "name", "line"] ["book", "program"] (defScope s_check_program) := ⟨rfl, rfl, rfl, by decide +kernel, rfl, by decide +kernel, by decide +kernel⟩
abbrev s_names_read : Stmt := top 68
theorem sc_names_read : FnScope ["line", "kind", "part"] ["line"] (defScope s_names_read) := ⟨rfl, rfl, rfl, by decide +kernel, rfl, by decide +kernel, by decide +kernel⟩
abbrev s_names_given : Stmt := top 69
theorem sc_names_given : FnScope ["line"] ["line"] (defScope s_names_given) := ⟨rfl, rfl, rfl, by decide +kernel, rfl, by decide +kernel, by decide +kernel⟩
abbrev s__check_new_name : Stmt := top 70
theorem sc__check_new_name : FnScope ["name", "known"] ["name", "known"] (defScope s__check_new_name) := ⟨rfl, rfl, rfl, by decide +kernel, rfl, by decide +kernel, by decide +kernel⟩
abbrev s__check_known : Stmt := top 71
theorem sc__check_known : FnScope ["names", "known", "name"] ["names", "known"] (defScope s__check_known) := ⟨rfl, rfl, rfl, by decide +kernel, rfl, by decide +kernel, by decide +kernel⟩
abbrev s__check_book_has : Stmt := top 72
theorem sc__check_book_has : FnScope ["book", "line", "kind"] ["book", "line"] (defScope s__check_book_has) := ⟨rfl, rfl, rfl, by decide +kernel, rfl, by decide +kernel, by decide +kernel⟩
abbrev s__check_parts : Stmt := top 73
theorem sc__check_parts : FnScope ["letters", "parts", "kind", "text"] ["letters", "parts"] (defScope s__check_parts) := ⟨rfl, rfl, rfl, by decide +kernel, rfl, by decide +kernel, by decide +kernel⟩
abbrev s_cell : Stmt := top 77
theorem sc_cell : FnScope ["script", "k"] ["script", "k"] (defScope s_cell) := ⟨rfl, rfl, rfl, by decide +kernel, rfl, by decide +kernel, by decide +kernel⟩
abbrev s_numbers : Stmt := top 78
theorem sc_numbers : FnScope ["cell", "many", "rest", "whole", "numbers", "k", "mixed"] ["cell", "many"] (defScope s_numbers) := ⟨rfl, rfl, rfl, by decide +kernel, rfl, by decide +kernel, by decide +kernel⟩
abbrev s_state : Stmt := top 79
theorem sc_state : FnScope ["script", "start", "many", "numbers", "k", "cell"] ["script", "start", "many"] (defScope s_state) := ⟨rfl, rfl, rfl, by decide +kernel, rfl, by decide +kernel, by decide +kernel⟩
abbrev s_next : Stmt := top 80
theorem sc_next : FnScope ["state", "many", "numbers", "place"] ["state", "many"] (defScope s_next) := ⟨rfl, rfl, rfl, by decide +kernel, rfl, by decide +kernel, by decide +kernel⟩
abbrev s_letters : Stmt := top 81
theorem sc_letters : FnScope ["state", "most", "pool", "letters", "k", "letter"] ["state", "most"] (defScope s_letters) := ⟨rfl, rfl, rfl, by decide +kernel, rfl, by decide +kernel, by decide +kernel⟩
abbrev s_pattern : Stmt := top 82
theorem sc_pattern : FnScope ["letters", "state", "deep", "kind", "pick", "bits", "kept", "k", "first", "word"] ["letters", "state", "deep"] (defScope s_pattern) := ⟨rfl, rfl, rfl, by decide +kernel, rfl, by decide +kernel, by decide +kernel⟩
abbrev s_word : Stmt := top 83
theorem sc_word : FnScope ["letters", "state", "most", "k"] ["letters", "state", "most"] (defScope s_word) := ⟨rfl, rfl, rfl, by decide +kernel, rfl, by decide +kernel, by decide +kernel⟩
abbrev s_maker : Stmt := top 84
theorem sc_maker : FnScope ["letters", "state", "most", "many", "finals", "k", "table", "row", "letter", "way"] ["letters", "state", "most"] (defScope s_maker) := ⟨rfl, rfl, rfl, by decide +kernel, rfl, by decide +kernel, by decide +kernel⟩
abbrev s_rewrite : Stmt := top 85
theorem sc_rewrite : FnScope ["letters", "parts", "text", "at", "written", "letter", "way"] ["letters", "parts", "text"] (defScope s_rewrite) := ⟨rfl, rfl, rfl, by decide +kernel, rfl, by decide +kernel, by decide +kernel⟩
abbrev s_name : Stmt := top 86
theorem sc_name : FnScope ["state", "taken", "signs", "name", "k", "reserved", "sign", "found"] ["state", "taken"] (defScope s_name) := ⟨rfl, rfl, rfl, by decide +kernel, rfl, by decide +kernel, by decide +kernel⟩
abbrev s_named : Stmt := top 87
theorem sc_named : FnScope ["state", "many", "taken", "rows", "k"] ["state", "many", "taken"] (defScope s_named) := ⟨rfl, rfl, rfl, by decide +kernel, rfl, by decide +kernel, by decide +kernel⟩
abbrev s_book : Stmt := top 88
theorem sc_book : FnScope ["letters", "state", "deep", "states", "patterns", "name", "rewriters"] ["letters", "state", "deep", "states"] (defScope s_book) := ⟨rfl, rfl, rfl, by decide +kernel, rfl, by decide +kernel, by decide +kernel⟩
abbrev s_made_book : Stmt := top 89
theorem sc_made_book : FnScope ["letters", "book", "rewriters", "name"] ["letters", "book"] (defScope s_made_book) := ⟨rfl, rfl, rfl, by decide +kernel, rfl, by decide +kernel, by decide +kernel⟩
abbrev s_pick : Stmt := top 90
theorem sc_pick : FnScope ["state", "rows"] ["state", "rows"] (defScope s_pick) := ⟨rfl, rfl, rfl, by decide +kernel, rfl, by decide +kernel, by decide +kernel⟩
abbrev s_line : Stmt := top 91
theorem sc_line : FnScope ["letters", "state", "book", "known", "name", "kind", "parts", "k", "pattern"] ["letters", "state", "book", "known", "name"] (defScope s_line) := ⟨rfl, rfl, rfl, by decide +kernel, rfl, by decide +kernel, by decide +kernel⟩
abbrev s_program : Stmt := top 92
theorem sc_program : FnScope ["letters", "state", "book", "most", "inputs", "known", "lines", "k", "line", "result"] ["letters", "state", "book", "most"] (defScope s_program) := ⟨rfl, rfl, rfl, by decide +kernel, rfl, by decide +kernel, by decide +kernel⟩
abbrev s_told : Stmt := top 93
theorem sc_told : FnScope ["book", "program", "e", "word"] ["book", "program"] (defScope s_told) := ⟨rfl, rfl, rfl, by decide +kernel, rfl, by decide +kernel, by decide +kernel⟩
abbrev s_law_is_name : Stmt := top 94
theorem sc_law_is_name : FnScope ["name", "words", "sign"] ["name"] (defScope s_law_is_name) := ⟨rfl, rfl, rfl, by decide +kernel, rfl, by decide +kernel, by decide +kernel⟩
abbrev s_entered : Stmt := top 95
theorem sc_entered : FnScope ["known", "name"] ["known", "name"] (defScope s_entered) := ⟨rfl, rfl, rfl, by decide +kernel, rfl, by decide +kernel, by decide +kernel⟩
abbrev s_read_names : Stmt := top 96
theorem sc_read_names : FnScope ["line", "part"] ["line"] (defScope s_read_names) := ⟨rfl, rfl, rfl, by decide +kernel, rfl, by decide +kernel, by decide +kernel⟩
abbrev s_things : Stmt := top 97
theorem sc_things : FnScope ["letters", "book", "line", "part", "sign"] ["letters", "book", "line"] (defScope s_things) := ⟨rfl, rfl, rfl, by decide +kernel, rfl, by decide +kernel, by decide +kernel⟩
abbrev s_due : Stmt := top 98
theorem sc_due : FnScope ["letters", "book", "program", "known", "name", "fault", "line"] ["letters", "book", "program"] (defScope s_due) := ⟨rfl, rfl, rfl, by decide +kernel, rfl, by decide +kernel, by decide +kernel⟩
abbrev s_odd : Stmt := top 99
theorem sc_odd : FnScope ["state", "names"] ["state", "names"] (defScope s_odd) := ⟨rfl, rfl, rfl, by decide +kernel, rfl, by decide +kernel, by decide +kernel⟩
abbrev s_spoilt : Stmt := top 100
theorem sc_spoilt : FnScope ["letters", "state", "book", "program", "inputs", "lines", "result", "names", "line", "kind", "at", "k", "place", "strange", "letter", "more"] ["letters", "state", "book", "program"] (defScope s_spoilt) := ⟨rfl, rfl, rfl, by decide +kernel, rfl, by decide +kernel, by decide +kernel⟩
abbrev s_law : Stmt := top 101
theorem sc_law : FnScope ["script", "state", "letters", "book", "made", "k", "program", "turn", "told"] ["script"] (defScope s_law) := ⟨rfl, rfl, rfl, by decide +kernel, rfl, by decide +kernel, by decide +kernel⟩
abbrev s_init : Stmt := inClass (top 2) 0
theorem sc_init : FnScope ["self", "what"] ["self", "what"] (defScope s_init) := ⟨rfl, rfl, rfl, by decide +kernel, rfl, by decide +kernel, by decide +kernel⟩
abbrev s_Blocks_init : Stmt := inClass (top 24) 0
theorem sc_Blocks_init : FnScope ["self", "many"] ["self", "many"] (defScope s_Blocks_init) := ⟨rfl, rfl, rfl, by decide +kernel, rfl, by decide +kernel, by decide +kernel⟩
abbrev s_Blocks_states_in : Stmt := inClass (top 24) 1
theorem sc_Blocks_states_in : FnScope ["self", "block"] ["self", "block"] (defScope s_Blocks_states_in) := ⟨rfl, rfl, rfl, by decide +kernel, rfl, by decide +kernel, by decide +kernel⟩
abbrev s_Blocks_mark : Stmt := inClass (top 24) 2
theorem sc_Blocks_mark : FnScope ["self", "state", "block", "goal", "place", "other"] ["self", "state"] (defScope s_Blocks_mark) := ⟨rfl, rfl, rfl, by decide +kernel, rfl, by decide +kernel, by decide +kernel⟩
abbrev s_Blocks_cut : Stmt := inClass (top 24) 3
theorem sc_Blocks_cut : FnScope ["self", "made", "block", "start", "end", "middle"] ["self"] (defScope s_Blocks_cut) := ⟨rfl, rfl, rfl, by decide +kernel, rfl, by decide +kernel, by decide +kernel⟩
abbrev s_Blocks_take_out : Stmt := inClass (top 24) 4
theorem sc_Blocks_take_out : FnScope ["self", "start", "end", "state"] ["self", "start", "end"] (defScope s_Blocks_take_out) := ⟨rfl, rfl, rfl, by decide +kernel, rfl, by decide +kernel, by decide +kernel⟩
abbrev s_Machine_init : Stmt := inClass (top 26) 0
theorem sc_Machine_init : FnScope ["self", "letters", "accepting", "table", "row"] ["self", "letters", "accepting", "table"] (defScope s_Machine_init) := ⟨rfl, rfl, rfl, by decide +kernel, rfl, by decide +kernel, by decide +kernel⟩
abbrev s_Machine_check : Stmt := inClass (top 26) 1
theorem sc_Machine_check : FnScope ["self", "states", "row"] ["self"] (defScope s_Machine_check) := ⟨rfl, rfl, rfl, by decide +kernel, rfl, by decide +kernel, by decide +kernel⟩
abbrev s_Machine_run : Stmt := inClass (top 26) 2
theorem sc_Machine_run : FnScope ["self", "text"] ["self", "text"] (defScope s_Machine_run) := ⟨rfl, rfl, rfl, by decide +kernel, rfl, by decide +kernel, by decide +kernel⟩
abbrev s_Machine_run_from : Stmt := inClass (top 26) 3
theorem sc_Machine_run_from : FnScope ["self", "state", "text", "letter"] ["self", "state", "text"] (defScope s_Machine_run_from) := ⟨rfl, rfl, rfl, by decide +kernel, rfl, by decide +kernel, by decide +kernel⟩
abbrev s_Machine_accepts : Stmt := inClass (top 26) 4
theorem sc_Machine_accepts : FnScope ["self", "text"] ["self", "text"] (defScope s_Machine_accepts) := ⟨rfl, rfl, rfl, by decide +kernel, rfl, by decide +kernel, by decide +kernel⟩
abbrev s_Machine_picture : Stmt := inClass (top 26) 5
theorem sc_Machine_picture : FnScope ["self"] ["self"] (defScope s_Machine_picture) := ⟨rfl, rfl, rfl, by decide +kernel, rfl, by decide +kernel, by decide +kernel⟩
abbrev s_Book_init : Stmt := inClass (top 61) 0
theorem sc_Book_init : FnScope ["self", "letters", "patterns", "rewriters", "name"] ["self", "letters", "patterns", "rewriters"] (defScope s_Book_init) := ⟨rfl, rfl, rfl, by decide +kernel, rfl, by decide +kernel, by decide +kernel⟩
abbrev s_Book_has_pattern : Stmt := inClass (top 61) 1
theorem sc_Book_has_pattern : FnScope ["self", "name"] ["self", "name"] (defScope s_Book_has_pattern) := ⟨rfl, rfl, rfl, by decide +kernel, rfl, by decide +kernel, by decide +kernel⟩
abbrev s_Book_has_rewriter : Stmt := inClass (top 61) 2
theorem sc_Book_has_rewriter : FnScope ["self", "name"] ["self", "name"] (defScope s_Book_has_rewriter) := ⟨rfl, rfl, rfl, by decide +kernel, rfl, by decide +kernel, by decide +kernel⟩
abbrev s_Book_machine : Stmt := inClass (top 61) 3
theorem sc_Book_machine : FnScope ["self", "name"] ["self", "name"] (defScope s_Book_machine) := ⟨rfl, rfl, rfl, by decide +kernel, rfl, by decide +kernel, by decide +kernel⟩
abbrev s_Book_rewriter : Stmt := inClass (top 61) 4
theorem sc_Book_rewriter : FnScope ["self", "name"] ["self", "name"] (defScope s_Book_rewriter) := ⟨rfl, rfl, rfl, by decide +kernel, rfl, by decide +kernel, by decide +kernel⟩
abbrev s_Program_init : Stmt := inClass (top 66) 0
theorem sc_Program_init : FnScope ["self", "inputs", "lines", "result"] ["self", "inputs", "lines", "result"] (defScope s_Program_init) := ⟨rfl, rfl, rfl, by decide +kernel, rfl, by decide +kernel, by decide +kernel⟩
abbrev s_Program_picture : Stmt := inClass (top 66) 1
theorem sc_Program_picture : FnScope ["self"] ["self"] (defScope s_Program_picture) := ⟨rfl, rfl, rfl, by decide +kernel, rfl, by decide +kernel, by decide +kernel⟩
abbrev s_Rewriter_init : Stmt := inClass (top 75) 0
theorem sc_Rewriter_init : FnScope ["self", "letters", "lead", "finals", "table", "way", "row"] ["self", "letters", "lead", "finals", "table"] (defScope s_Rewriter_init) := ⟨rfl, rfl, rfl, by decide +kernel, rfl, by decide +kernel, by decide +kernel⟩
abbrev s_Rewriter_check : Stmt := inClass (top 75) 1
theorem sc_Rewriter_check : FnScope ["self", "states", "written", "final", "row", "after", "text", "way"] ["self"] (defScope s_Rewriter_check) := ⟨rfl, rfl, rfl, by decide +kernel, rfl, by decide +kernel, by decide +kernel⟩
abbrev s_Rewriter_rewrite : Stmt := inClass (top 75) 2
theorem sc_Rewriter_rewrite : FnScope ["self", "text", "behind"] ["self", "text"] (defScope s_Rewriter_rewrite) := ⟨rfl, rfl, rfl, by decide +kernel, rfl, by decide +kernel, by decide +kernel⟩
abbrev s_Rewriter_rewrite_from : Stmt := inClass (top 75) 3
theorem sc_Rewriter_rewrite_from : FnScope ["self", "state", "text", "written", "letter", "way"] ["self", "state", "text"] (defScope s_Rewriter_rewrite_from) := ⟨rfl, rfl, rfl, by decide +kernel, rfl, by decide +kernel, by decide +kernel⟩
abbrev s_Rewriter_picture : Stmt := inClass (top 75) 4
theorem sc_Rewriter_picture : FnScope ["self"] ["self"] (defScope s_Rewriter_picture) := ⟨rfl, rfl, rfl, by decide +kernel, rfl, by decide +kernel, by decide +kernel⟩
abbrev s__paired_step : Stmt := inBody s__paired 0
theorem sc__paired_step : NdefX.NScope ["pair", "index", "first", "second"] ["pair", "index"] ["first", "second"] (C8.fnScope s__paired_step) := NdefX.nscope_by (by decide +kernel)
abbrev s__paired_accepts : Stmt := inBody s__paired 1
theorem sc__paired_accepts : NdefX.NScope ["pair", "chosen", "first", "second"] ["pair"] ["chosen", "first", "second"] (C8.fnScope s__paired_accepts) := NdefX.nscope_by (by decide +kernel)
abbrev s_chained_texts_joined : Stmt := inBody s_chained_texts 0
theorem sc_chained_texts_joined : NdefX.NScope ["state", "lot", "first"] ["state", "lot"] ["first"] (C8.fnScope s_chained_texts_joined) := NdefX.nscope_by (by decide +kernel)
abbrev s_chained_texts_step : Stmt := inBody s_chained_texts 1
theorem sc_chained_texts_step : NdefX.NScope ["key", "index", "joined", "first", "second"] ["key", "index"] ["joined", "first", "second"] (C8.fnScope s_chained_texts_step) := NdefX.nscope_by (by decide +kernel)
abbrev s_chained_texts_accepts : Stmt := inBody s_chained_texts 2
theorem sc_chained_texts_accepts : NdefX.NScope ["key", "second"] ["key"] ["second"] (C8.fnScope s_chained_texts_accepts) := NdefX.nscope_by (by decide +kernel)
abbrev s_repetition_step : Stmt := inBody s_repetition 0
theorem sc_repetition_step : NdefX.NScope ["lot", "index", "machine", "after"] ["lot", "index"] ["machine"] (C8.fnScope s_repetition_step) := NdefX.nscope_by (by decide +kernel)
abbrev s_repetition_accepts : Stmt := inBody s_repetition 1
theorem sc_repetition_accepts : NdefX.NScope ["lot", "machine"] ["lot"] ["machine"] (C8.fnScope s_repetition_accepts) := NdefX.nscope_by (by decide +kernel)
/-- which name the code object made at a place has -/
def nmT (l c : Nat) : Str := if l = 182 ∧ c = 50 then "least_from.<locals>.<lambda>" else if l = 182 ∧ c = 100 then "least_from.<locals>.<lambda>" else if l = 194 ∧ c = 34 then "both.<locals>.<lambda>" else if l = 196 ∧ c = 34 then "either.<locals>.<lambda>" else if l = 201 ∧ c = 4 then "_paired.<locals>.step" else if l = 204 ∧ c = 4 then "_paired.<locals>.accepts" else if l = 210 ∧ c = 4 then "chained_texts.<locals>.joined" else if l = 213 ∧ c = 4 then "chained_texts.<locals>.step" else if l = 216 ∧ c = 4 then "chained_texts.<locals>.accepts" else if l = 221 ∧ c = 4 then "repetition.<locals>.step" else if l = 225 ∧ c = 4 then "repetition.<locals>.accepts" else ""
set_option genInjectivity false in
set_option genSizeOfSpec false in
structure Txt (K : PySem.W.Frag) (mg : Str → Option Value) where
  a__wall : Addr
  d__wall : FuncData
  f__wall : Fun K "_wall" "_wall" s__wall a__wall d__wall
  o__wall : Own K mg "_wall" a__wall d__wall ["k"]
  a_check_alphabet : Addr
  d_check_alphabet : FuncData
  f_check_alphabet : Fun K "check_alphabet" "check_alphabet" s_check_alphabet a_check_alphabet d_check_alphabet
  o_check_alphabet : Own K mg "check_alphabet" a_check_alphabet d_check_alphabet ["letters"]
  a_is_text : Addr
  d_is_text : FuncData
  f_is_text : Fun K "is_text" "is_text" s_is_text a_is_text d_is_text
  o_is_text : Own K mg "is_text" a_is_text d_is_text ["letters", "text"]
  a_check_text : Addr
  d_check_text : FuncData
  f_check_text : Fun K "check_text" "check_text" s_check_text a_check_text d_check_text
  o_check_text : Own K mg "check_text" a_check_text d_check_text ["letters", "text"]
  a_block_numbers : Addr
  d_block_numbers : FuncData
  f_block_numbers : Fun K "block_numbers" "block_numbers" s_block_numbers a_block_numbers d_block_numbers
  o_block_numbers : Own K mg "block_numbers" a_block_numbers d_block_numbers ["kinds", "sources"]
  a_first_states : Addr
  d_first_states : FuncData
  f_first_states : Fun K "first_states" "first_states" s_first_states a_first_states d_first_states
  o_first_states : Own K mg "first_states" a_first_states d_first_states ["numbers"]
  a__blocks_of_kinds : Addr
  d__blocks_of_kinds : FuncData
  f__blocks_of_kinds : Fun K "_blocks_of_kinds" "_blocks_of_kinds" s__blocks_of_kinds a__blocks_of_kinds d__blocks_of_kinds
  o__blocks_of_kinds : Own K mg "_blocks_of_kinds" a__blocks_of_kinds d__blocks_of_kinds ["kinds"]
  a_explored : Addr
  d_explored : FuncData
  f_explored : Fun K "explored" "explored" s_explored a_explored d_explored
  o_explored : Own K mg "explored" a_explored d_explored ["letters", "start", "step", "accepts"]
  a_ways_back : Addr
  d_ways_back : FuncData
  f_ways_back : Fun K "ways_back" "ways_back" s_ways_back a_ways_back d_ways_back
  o_ways_back : Own K mg "ways_back" a_ways_back d_ways_back ["nexts"]
  a_least : Addr
  d_least : FuncData
  f_least : Fun K "least" "least" s_least a_least d_least
  o_least : Own K mg "least" a_least d_least ["machine"]
  a_least_from : Addr
  d_least_from : FuncData
  f_least_from : Fun K "least_from" "least_from" s_least_from a_least_from d_least_from
  o_least_from : Own K mg "least_from" a_least_from d_least_from ["machine", "start"]
  a_least_explored : Addr
  d_least_explored : FuncData
  f_least_explored : Fun K "least_explored" "least_explored" s_least_explored a_least_explored d_least_explored
  o_least_explored : Own K mg "least_explored" a_least_explored d_least_explored ["letters", "start", "step", "accepts"]
  a__merged : Addr
  d__merged : FuncData
  f__merged : Fun K "_merged" "_merged" s__merged a__merged d__merged
  o__merged : Own K mg "_merged" a__merged d__merged ["machine"]
  a_sources_by : Addr
  d_sources_by : FuncData
  f_sources_by : Fun K "sources_by" "sources_by" s_sources_by a_sources_by d_sources_by
  o_sources_by : Own K mg "sources_by" a_sources_by d_sources_by ["machine", "index"]
  a_both : Addr
  d_both : FuncData
  f_both : Fun K "both" "both" s_both a_both d_both
  o_both : Own K mg "both" a_both d_both ["first", "second"]
  a_either : Addr
  d_either : FuncData
  f_either : Fun K "either" "either" s_either a_either d_either
  o_either : Own K mg "either" a_either d_either ["first", "second"]
  a_opposite : Addr
  d_opposite : FuncData
  f_opposite : Fun K "opposite" "opposite" s_opposite a_opposite d_opposite
  o_opposite : Own K mg "opposite" a_opposite d_opposite ["machine"]
  a__paired : Addr
  d__paired : FuncData
  f__paired : Fun K "_paired" "_paired" s__paired a__paired d__paired
  o__paired : Own K mg "_paired" a__paired d__paired ["first", "second", "chosen"]
  a_chained_texts : Addr
  d_chained_texts : FuncData
  f_chained_texts : Fun K "chained_texts" "chained_texts" s_chained_texts a_chained_texts d_chained_texts
  o_chained_texts : Own K mg "chained_texts" a_chained_texts d_chained_texts ["first", "second"]
  a_repetition : Addr
  d_repetition : FuncData
  f_repetition : Fun K "repetition" "repetition" s_repetition a_repetition d_repetition
  o_repetition : Own K mg "repetition" a_repetition d_repetition ["machine"]
  a__lot : Addr
  d__lot : FuncData
  f__lot : Fun K "_lot" "_lot" s__lot a__lot d__lot
  o__lot : Own K mg "_lot" a__lot d__lot ["states"]
  a__after : Addr
  d__after : FuncData
  f__after : Fun K "_after" "_after" s__after a__after d__after
  o__after : Own K mg "_after" a__after d__after ["machine", "lot", "index"]
  a__accepts_one : Addr
  d__accepts_one : FuncData
  f__accepts_one : Fun K "_accepts_one" "_accepts_one" s__accepts_one a__accepts_one d__accepts_one
  o__accepts_one : Own K mg "_accepts_one" a__accepts_one d__accepts_one ["machine", "lot"]
  a_parts_of : Addr
  d_parts_of : FuncData
  f_parts_of : Fun K "parts_of" "parts_of" s_parts_of a_parts_of d_parts_of
  o_parts_of : Own K mg "parts_of" a_parts_of d_parts_of ["term"]
  a_flat_terms : Addr
  d_flat_terms : FuncData
  f_flat_terms : Fun K "flat_terms" "flat_terms" s_flat_terms a_flat_terms d_flat_terms
  o_flat_terms : Own K mg "flat_terms" a_flat_terms d_flat_terms ["pattern"]
  a_machine_of : Addr
  d_machine_of : FuncData
  f_machine_of : Fun K "machine_of" "machine_of" s_machine_of a_machine_of d_machine_of
  o_machine_of : Own K mg "machine_of" a_machine_of d_machine_of ["letters", "pattern"]
  a__machine_of_term : Addr
  d__machine_of_term : FuncData
  f__machine_of_term : Fun K "_machine_of_term" "_machine_of_term" s__machine_of_term a__machine_of_term d__machine_of_term
  o__machine_of_term : Own K mg "_machine_of_term" a__machine_of_term d__machine_of_term ["letters", "term", "machines"]
  a__machine_of_leaf : Addr
  d__machine_of_leaf : FuncData
  f__machine_of_leaf : Fun K "_machine_of_leaf" "_machine_of_leaf" s__machine_of_leaf a__machine_of_leaf d__machine_of_leaf
  o__machine_of_leaf : Own K mg "_machine_of_leaf" a__machine_of_leaf d__machine_of_leaf ["letters", "term"]
  a_is_name : Addr
  d_is_name : FuncData
  f_is_name : Fun K "is_name" "is_name" s_is_name a_is_name d_is_name
  o_is_name : Own K mg "is_name" a_is_name d_is_name ["name"]
  a_check_program : Addr
  d_check_program : FuncData
  f_check_program : Fun K "check_program" "check_program" s_check_program a_check_program d_check_program
  o_check_program : Own K mg "check_program" a_check_program d_check_program ["book", "program"]
  a_names_read : Addr
  d_names_read : FuncData
  f_names_read : Fun K "names_read" "names_read" s_names_read a_names_read d_names_read
  o_names_read : Own K mg "names_read" a_names_read d_names_read ["line"]
  a_names_given : Addr
  d_names_given : FuncData
  f_names_given : Fun K "names_given" "names_given" s_names_given a_names_given d_names_given
  o_names_given : Own K mg "names_given" a_names_given d_names_given ["line"]
  a__check_new_name : Addr
  d__check_new_name : FuncData
  f__check_new_name : Fun K "_check_new_name" "_check_new_name" s__check_new_name a__check_new_name d__check_new_name
  o__check_new_name : Own K mg "_check_new_name" a__check_new_name d__check_new_name ["name", "known"]
  a__check_known : Addr
  d__check_known : FuncData
  f__check_known : Fun K "_check_known" "_check_known" s__check_known a__check_known d__check_known
  o__check_known : Own K mg "_check_known" a__check_known d__check_known ["names", "known"]
  a__check_book_has : Addr
  d__check_book_has : FuncData
  f__check_book_has : Fun K "_check_book_has" "_check_book_has" s__check_book_has a__check_book_has d__check_book_has
  o__check_book_has : Own K mg "_check_book_has" a__check_book_has d__check_book_has ["book", "line"]
  a__check_parts : Addr
  d__check_parts : FuncData
  f__check_parts : Fun K "_check_parts" "_check_parts" s__check_parts a__check_parts d__check_parts
  o__check_parts : Own K mg "_check_parts" a__check_parts d__check_parts ["letters", "parts"]
  a_cell : Addr
  d_cell : FuncData
  f_cell : Fun K "_law_cell" "_law_cell" s_cell a_cell d_cell
  o_cell : Own K mg "_law_cell" a_cell d_cell ["script", "k"]
  a_numbers : Addr
  d_numbers : FuncData
  f_numbers : Fun K "_law_numbers" "_law_numbers" s_numbers a_numbers d_numbers
  o_numbers : Own K mg "_law_numbers" a_numbers d_numbers ["cell", "many"]
  a_state : Addr
  d_state : FuncData
  f_state : Fun K "_law_state" "_law_state" s_state a_state d_state
  o_state : Own K mg "_law_state" a_state d_state ["script", "start", "many"]
  a_next : Addr
  d_next : FuncData
  f_next : Fun K "_law_next" "_law_next" s_next a_next d_next
  o_next : Own K mg "_law_next" a_next d_next ["state", "many"]
  a_letters : Addr
  d_letters : FuncData
  f_letters : Fun K "_law_letters" "_law_letters" s_letters a_letters d_letters
  o_letters : Own K mg "_law_letters" a_letters d_letters ["state", "most"]
  a_pattern : Addr
  d_pattern : FuncData
  f_pattern : Fun K "_law_pattern" "_law_pattern" s_pattern a_pattern d_pattern
  o_pattern : Own K mg "_law_pattern" a_pattern d_pattern ["letters", "state", "deep"]
  a_word : Addr
  d_word : FuncData
  f_word : Fun K "_law_word" "_law_word" s_word a_word d_word
  o_word : Own K mg "_law_word" a_word d_word ["letters", "state", "most"]
  a_maker : Addr
  d_maker : FuncData
  f_maker : Fun K "_law_maker" "_law_maker" s_maker a_maker d_maker
  o_maker : Own K mg "_law_maker" a_maker d_maker ["letters", "state", "most"]
  a_name : Addr
  d_name : FuncData
  f_name : Fun K "_law_name" "_law_name" s_name a_name d_name
  o_name : Own K mg "_law_name" a_name d_name ["state", "taken"]
  a_named : Addr
  d_named : FuncData
  f_named : Fun K "_law_named" "_law_named" s_named a_named d_named
  o_named : Own K mg "_law_named" a_named d_named ["state", "many", "taken"]
  a_book : Addr
  d_book : FuncData
  f_book : Fun K "_law_book" "_law_book" s_book a_book d_book
  o_book : Own K mg "_law_book" a_book d_book ["letters", "state", "deep", "states"]
  a_made_book : Addr
  d_made_book : FuncData
  f_made_book : Fun K "_law_made_book" "_law_made_book" s_made_book a_made_book d_made_book
  o_made_book : Own K mg "_law_made_book" a_made_book d_made_book ["letters", "book"]
  a_pick : Addr
  d_pick : FuncData
  f_pick : Fun K "_law_pick" "_law_pick" s_pick a_pick d_pick
  o_pick : Own K mg "_law_pick" a_pick d_pick ["state", "rows"]
  a_line : Addr
  d_line : FuncData
  f_line : Fun K "_law_line" "_law_line" s_line a_line d_line
  o_line : Own K mg "_law_line" a_line d_line ["letters", "state", "book", "known", "name"]
  a_program : Addr
  d_program : FuncData
  f_program : Fun K "_law_program" "_law_program" s_program a_program d_program
  o_program : Own K mg "_law_program" a_program d_program ["letters", "state", "book", "most"]
  a_told : Addr
  d_told : FuncData
  f_told : Fun K "_law_told" "_law_told" s_told a_told d_told
  o_told : Own K mg "_law_told" a_told d_told ["book", "program"]
  a_law_is_name : Addr
  d_law_is_name : FuncData
  f_law_is_name : Fun K "_law_is_name" "_law_is_name" s_law_is_name a_law_is_name d_law_is_name
  o_law_is_name : Own K mg "_law_is_name" a_law_is_name d_law_is_name ["name"]
  a_entered : Addr
  d_entered : FuncData
  f_entered : Fun K "_law_entered" "_law_entered" s_entered a_entered d_entered
  o_entered : Own K mg "_law_entered" a_entered d_entered ["known", "name"]
  a_read_names : Addr
  d_read_names : FuncData
  f_read_names : Fun K "_law_read_names" "_law_read_names" s_read_names a_read_names d_read_names
  o_read_names : Own K mg "_law_read_names" a_read_names d_read_names ["line"]
  a_things : Addr
  d_things : FuncData
  f_things : Fun K "_law_things" "_law_things" s_things a_things d_things
  o_things : Own K mg "_law_things" a_things d_things ["letters", "book", "line"]
  a_due : Addr
  d_due : FuncData
  f_due : Fun K "_law_due" "_law_due" s_due a_due d_due
  o_due : Own K mg "_law_due" a_due d_due ["letters", "book", "program"]
  a_odd : Addr
  d_odd : FuncData
  f_odd : Fun K "_law_odd" "_law_odd" s_odd a_odd d_odd
  o_odd : Own K mg "_law_odd" a_odd d_odd ["state", "names"]
  a_spoilt : Addr
  d_spoilt : FuncData
  f_spoilt : Fun K "_law_spoilt" "_law_spoilt" s_spoilt a_spoilt d_spoilt
  o_spoilt : Own K mg "_law_spoilt" a_spoilt d_spoilt ["letters", "state", "book", "program"]
  a_law : Addr
  d_law : FuncData
  f_law : Fun K "law" "law" s_law a_law d_law
  o_law : Own K mg "law" a_law d_law ["script"]
  a_init : Addr
  d_init : FuncData
  T_init : Addr
  f_init : FunD K "__init__" "AnytextError.__init__" (defArgs s_init) (defBody s_init) (defScope s_init) [.non] [] a_init d_init
  tI : PySem.W.typeIn K (.ref a_init) = some (.type "function")
  bI : Binds K d_init ["self", "what"] []
  C_AnytextError : Addr
  C_LetterError : Addr
  C_MachineError : Addr
  C_ProgramError : Addr
  C_BadAlphabet : Addr
  C_BadText : Addr
  C_BadMachine : Addr
  C_BadRewriter : Addr
  C_BadName : Addr
  C_NameTaken : Addr
  C_UnknownName : Addr
  C_TooMany : Addr
  g_AnytextError : mg "AnytextError" = some (.ref C_AnytextError)
  g_BadAlphabet : mg "BadAlphabet" = some (.ref C_BadAlphabet)
  g_BadMachine : mg "BadMachine" = some (.ref C_BadMachine)
  g_BadName : mg "BadName" = some (.ref C_BadName)
  g_BadRewriter : mg "BadRewriter" = some (.ref C_BadRewriter)
  g_BadText : mg "BadText" = some (.ref C_BadText)
  g_LetterError : mg "LetterError" = some (.ref C_LetterError)
  g_NameTaken : mg "NameTaken" = some (.ref C_NameTaken)
  g_ProgramError : mg "ProgramError" = some (.ref C_ProgramError)
  g_TooMany : mg "TooMany" = some (.ref C_TooMany)
  g_UnknownName : mg "UnknownName" = some (.ref C_UnknownName)
  i_AnytextError : PySem.W.isClsIn K C_AnytextError = true
  t_AnytextError : PySem.W.typeIn K (.ref C_AnytextError) = some (.type "type")
  e_AnytextError : PySem.W.subIn K (.ref C_AnytextError) (.type "BaseException") = some true
  h_AnytextError : PySem.W.hasDictIn K C_AnytextError = true
  i_BadName : PySem.W.isClsIn K C_BadName = true
  t_BadName : PySem.W.typeIn K (.ref C_BadName) = some (.type "type")
  e_BadName : PySem.W.subIn K (.ref C_BadName) (.type "BaseException") = some true
  h_BadName : PySem.W.hasDictIn K C_BadName = true
  i_BadText : PySem.W.isClsIn K C_BadText = true
  t_BadText : PySem.W.typeIn K (.ref C_BadText) = some (.type "type")
  e_BadText : PySem.W.subIn K (.ref C_BadText) (.type "BaseException") = some true
  h_BadText : PySem.W.hasDictIn K C_BadText = true
  i_LetterError : PySem.W.isClsIn K C_LetterError = true
  t_LetterError : PySem.W.typeIn K (.ref C_LetterError) = some (.type "type")
  e_LetterError : PySem.W.subIn K (.ref C_LetterError) (.type "BaseException") = some true
  h_LetterError : PySem.W.hasDictIn K C_LetterError = true
  i_NameTaken : PySem.W.isClsIn K C_NameTaken = true
  t_NameTaken : PySem.W.typeIn K (.ref C_NameTaken) = some (.type "type")
  e_NameTaken : PySem.W.subIn K (.ref C_NameTaken) (.type "BaseException") = some true
  h_NameTaken : PySem.W.hasDictIn K C_NameTaken = true
  i_ProgramError : PySem.W.isClsIn K C_ProgramError = true
  t_ProgramError : PySem.W.typeIn K (.ref C_ProgramError) = some (.type "type")
  e_ProgramError : PySem.W.subIn K (.ref C_ProgramError) (.type "BaseException") = some true
  h_ProgramError : PySem.W.hasDictIn K C_ProgramError = true
  i_TooMany : PySem.W.isClsIn K C_TooMany = true
  t_TooMany : PySem.W.typeIn K (.ref C_TooMany) = some (.type "type")
  e_TooMany : PySem.W.subIn K (.ref C_TooMany) (.type "BaseException") = some true
  h_TooMany : PySem.W.hasDictIn K C_TooMany = true
  i_UnknownName : PySem.W.isClsIn K C_UnknownName = true
  t_UnknownName : PySem.W.typeIn K (.ref C_UnknownName) = some (.type "type")
  e_UnknownName : PySem.W.subIn K (.ref C_UnknownName) (.type "BaseException") = some true
  h_UnknownName : PySem.W.hasDictIn K C_UnknownName = true
  x_BadAlphabet : ErrX K C_BadAlphabet a_init
  s_BadAlphabet_AnytextError : PySem.W.subIn K (.ref C_BadAlphabet) (.ref C_AnytextError) = some true
  s_BadAlphabet_BadName : PySem.W.subIn K (.ref C_BadAlphabet) (.ref C_BadName) = some false
  s_BadAlphabet_BadText : PySem.W.subIn K (.ref C_BadAlphabet) (.ref C_BadText) = some false
  s_BadAlphabet_LetterError : PySem.W.subIn K (.ref C_BadAlphabet) (.ref C_LetterError) = some true
  s_BadAlphabet_NameTaken : PySem.W.subIn K (.ref C_BadAlphabet) (.ref C_NameTaken) = some false
  s_BadAlphabet_ProgramError : PySem.W.subIn K (.ref C_BadAlphabet) (.ref C_ProgramError) = some false
  s_BadAlphabet_TooMany : PySem.W.subIn K (.ref C_BadAlphabet) (.ref C_TooMany) = some false
  s_BadAlphabet_UnknownName : PySem.W.subIn K (.ref C_BadAlphabet) (.ref C_UnknownName) = some false
  x_BadMachine : ErrX K C_BadMachine a_init
  s_BadMachine_AnytextError : PySem.W.subIn K (.ref C_BadMachine) (.ref C_AnytextError) = some true
  s_BadMachine_BadName : PySem.W.subIn K (.ref C_BadMachine) (.ref C_BadName) = some false
  s_BadMachine_BadText : PySem.W.subIn K (.ref C_BadMachine) (.ref C_BadText) = some false
  s_BadMachine_LetterError : PySem.W.subIn K (.ref C_BadMachine) (.ref C_LetterError) = some false
  s_BadMachine_NameTaken : PySem.W.subIn K (.ref C_BadMachine) (.ref C_NameTaken) = some false
  s_BadMachine_ProgramError : PySem.W.subIn K (.ref C_BadMachine) (.ref C_ProgramError) = some false
  s_BadMachine_TooMany : PySem.W.subIn K (.ref C_BadMachine) (.ref C_TooMany) = some false
  s_BadMachine_UnknownName : PySem.W.subIn K (.ref C_BadMachine) (.ref C_UnknownName) = some false
  x_BadName : ErrX K C_BadName a_init
  s_BadName_AnytextError : PySem.W.subIn K (.ref C_BadName) (.ref C_AnytextError) = some true
  s_BadName_BadName : PySem.W.subIn K (.ref C_BadName) (.ref C_BadName) = some true
  s_BadName_BadText : PySem.W.subIn K (.ref C_BadName) (.ref C_BadText) = some false
  s_BadName_LetterError : PySem.W.subIn K (.ref C_BadName) (.ref C_LetterError) = some false
  s_BadName_NameTaken : PySem.W.subIn K (.ref C_BadName) (.ref C_NameTaken) = some false
  s_BadName_ProgramError : PySem.W.subIn K (.ref C_BadName) (.ref C_ProgramError) = some true
  s_BadName_TooMany : PySem.W.subIn K (.ref C_BadName) (.ref C_TooMany) = some false
  s_BadName_UnknownName : PySem.W.subIn K (.ref C_BadName) (.ref C_UnknownName) = some false
  x_BadRewriter : ErrX K C_BadRewriter a_init
  s_BadRewriter_AnytextError : PySem.W.subIn K (.ref C_BadRewriter) (.ref C_AnytextError) = some true
  s_BadRewriter_BadName : PySem.W.subIn K (.ref C_BadRewriter) (.ref C_BadName) = some false
  s_BadRewriter_BadText : PySem.W.subIn K (.ref C_BadRewriter) (.ref C_BadText) = some false
  s_BadRewriter_LetterError : PySem.W.subIn K (.ref C_BadRewriter) (.ref C_LetterError) = some false
  s_BadRewriter_NameTaken : PySem.W.subIn K (.ref C_BadRewriter) (.ref C_NameTaken) = some false
  s_BadRewriter_ProgramError : PySem.W.subIn K (.ref C_BadRewriter) (.ref C_ProgramError) = some false
  s_BadRewriter_TooMany : PySem.W.subIn K (.ref C_BadRewriter) (.ref C_TooMany) = some false
  s_BadRewriter_UnknownName : PySem.W.subIn K (.ref C_BadRewriter) (.ref C_UnknownName) = some false
  x_BadText : ErrX K C_BadText a_init
  s_BadText_AnytextError : PySem.W.subIn K (.ref C_BadText) (.ref C_AnytextError) = some true
  s_BadText_BadName : PySem.W.subIn K (.ref C_BadText) (.ref C_BadName) = some false
  s_BadText_BadText : PySem.W.subIn K (.ref C_BadText) (.ref C_BadText) = some true
  s_BadText_LetterError : PySem.W.subIn K (.ref C_BadText) (.ref C_LetterError) = some true
  s_BadText_NameTaken : PySem.W.subIn K (.ref C_BadText) (.ref C_NameTaken) = some false
  s_BadText_ProgramError : PySem.W.subIn K (.ref C_BadText) (.ref C_ProgramError) = some false
  s_BadText_TooMany : PySem.W.subIn K (.ref C_BadText) (.ref C_TooMany) = some false
  s_BadText_UnknownName : PySem.W.subIn K (.ref C_BadText) (.ref C_UnknownName) = some false
  x_NameTaken : ErrX K C_NameTaken a_init
  s_NameTaken_AnytextError : PySem.W.subIn K (.ref C_NameTaken) (.ref C_AnytextError) = some true
  s_NameTaken_BadName : PySem.W.subIn K (.ref C_NameTaken) (.ref C_BadName) = some false
  s_NameTaken_BadText : PySem.W.subIn K (.ref C_NameTaken) (.ref C_BadText) = some false
  s_NameTaken_LetterError : PySem.W.subIn K (.ref C_NameTaken) (.ref C_LetterError) = some false
  s_NameTaken_NameTaken : PySem.W.subIn K (.ref C_NameTaken) (.ref C_NameTaken) = some true
  s_NameTaken_ProgramError : PySem.W.subIn K (.ref C_NameTaken) (.ref C_ProgramError) = some true
  s_NameTaken_TooMany : PySem.W.subIn K (.ref C_NameTaken) (.ref C_TooMany) = some false
  s_NameTaken_UnknownName : PySem.W.subIn K (.ref C_NameTaken) (.ref C_UnknownName) = some false
  x_TooMany : ErrX K C_TooMany a_init
  s_TooMany_AnytextError : PySem.W.subIn K (.ref C_TooMany) (.ref C_AnytextError) = some true
  s_TooMany_BadName : PySem.W.subIn K (.ref C_TooMany) (.ref C_BadName) = some false
  s_TooMany_BadText : PySem.W.subIn K (.ref C_TooMany) (.ref C_BadText) = some false
  s_TooMany_LetterError : PySem.W.subIn K (.ref C_TooMany) (.ref C_LetterError) = some false
  s_TooMany_NameTaken : PySem.W.subIn K (.ref C_TooMany) (.ref C_NameTaken) = some false
  s_TooMany_ProgramError : PySem.W.subIn K (.ref C_TooMany) (.ref C_ProgramError) = some true
  s_TooMany_TooMany : PySem.W.subIn K (.ref C_TooMany) (.ref C_TooMany) = some true
  s_TooMany_UnknownName : PySem.W.subIn K (.ref C_TooMany) (.ref C_UnknownName) = some false
  x_UnknownName : ErrX K C_UnknownName a_init
  s_UnknownName_AnytextError : PySem.W.subIn K (.ref C_UnknownName) (.ref C_AnytextError) = some true
  s_UnknownName_BadName : PySem.W.subIn K (.ref C_UnknownName) (.ref C_BadName) = some false
  s_UnknownName_BadText : PySem.W.subIn K (.ref C_UnknownName) (.ref C_BadText) = some false
  s_UnknownName_LetterError : PySem.W.subIn K (.ref C_UnknownName) (.ref C_LetterError) = some false
  s_UnknownName_NameTaken : PySem.W.subIn K (.ref C_UnknownName) (.ref C_NameTaken) = some false
  s_UnknownName_ProgramError : PySem.W.subIn K (.ref C_UnknownName) (.ref C_ProgramError) = some true
  s_UnknownName_TooMany : PySem.W.subIn K (.ref C_UnknownName) (.ref C_TooMany) = some false
  s_UnknownName_UnknownName : PySem.W.subIn K (.ref C_UnknownName) (.ref C_UnknownName) = some true
  clsB : ClsB K
  C_Blocks : Addr
  g_Blocks : mg "Blocks" = some (.ref C_Blocks)
  cl_Blocks : Cls K C_Blocks
  na_Blocks_members : NoAttr K C_Blocks "members"
  na_Blocks_places : NoAttr K C_Blocks "places"
  na_Blocks_block_of : NoAttr K C_Blocks "block_of"
  na_Blocks_starts : NoAttr K C_Blocks "starts"
  na_Blocks_ends : NoAttr K C_Blocks "ends"
  na_Blocks_marks : NoAttr K C_Blocks "marks"
  na_Blocks_touched : NoAttr K C_Blocks "touched"
  a_Blocks_init : Addr
  d_Blocks_init : FuncData
  f_Blocks_init : Fun K "__init__" "Blocks.__init__" s_Blocks_init a_Blocks_init d_Blocks_init
  b_Blocks_init : Binds K d_Blocks_init ["self", "many"] []
  mk_Blocks : Mk K C_Blocks a_Blocks_init
  a_Blocks_states_in : Addr
  d_Blocks_states_in : FuncData
  f_Blocks_states_in : Fun K "states_in" "Blocks.states_in" s_Blocks_states_in a_Blocks_states_in d_Blocks_states_in
  b_Blocks_states_in : Binds K d_Blocks_states_in ["self", "block"] []
  m_Blocks_states_in : Meth K C_Blocks "states_in" a_Blocks_states_in
  a_Blocks_mark : Addr
  d_Blocks_mark : FuncData
  f_Blocks_mark : Fun K "mark" "Blocks.mark" s_Blocks_mark a_Blocks_mark d_Blocks_mark
  b_Blocks_mark : Binds K d_Blocks_mark ["self", "state"] []
  m_Blocks_mark : Meth K C_Blocks "mark" a_Blocks_mark
  a_Blocks_cut : Addr
  d_Blocks_cut : FuncData
  f_Blocks_cut : Fun K "cut" "Blocks.cut" s_Blocks_cut a_Blocks_cut d_Blocks_cut
  b_Blocks_cut : Binds K d_Blocks_cut ["self"] []
  m_Blocks_cut : Meth K C_Blocks "cut" a_Blocks_cut
  a_Blocks_take_out : Addr
  d_Blocks_take_out : FuncData
  f_Blocks_take_out : Fun K "take_out" "Blocks.take_out" s_Blocks_take_out a_Blocks_take_out d_Blocks_take_out
  b_Blocks_take_out : Binds K d_Blocks_take_out ["self", "start", "end"] []
  m_Blocks_take_out : Meth K C_Blocks "take_out" a_Blocks_take_out
  C_Machine : Addr
  g_Machine : mg "Machine" = some (.ref C_Machine)
  cl_Machine : Cls K C_Machine
  na_Machine_letters : NoAttr K C_Machine "letters"
  na_Machine_accepting : NoAttr K C_Machine "accepting"
  na_Machine_table : NoAttr K C_Machine "table"
  a_Machine_init : Addr
  d_Machine_init : FuncData
  f_Machine_init : Fun K "__init__" "Machine.__init__" s_Machine_init a_Machine_init d_Machine_init
  b_Machine_init : Binds K d_Machine_init ["self", "letters", "accepting", "table"] []
  mk_Machine : Mk K C_Machine a_Machine_init
  a_Machine_check : Addr
  d_Machine_check : FuncData
  f_Machine_check : Fun K "check" "Machine.check" s_Machine_check a_Machine_check d_Machine_check
  b_Machine_check : Binds K d_Machine_check ["self"] []
  m_Machine_check : Meth K C_Machine "check" a_Machine_check
  a_Machine_run : Addr
  d_Machine_run : FuncData
  f_Machine_run : Fun K "run" "Machine.run" s_Machine_run a_Machine_run d_Machine_run
  b_Machine_run : Binds K d_Machine_run ["self", "text"] []
  m_Machine_run : Meth K C_Machine "run" a_Machine_run
  a_Machine_run_from : Addr
  d_Machine_run_from : FuncData
  f_Machine_run_from : Fun K "run_from" "Machine.run_from" s_Machine_run_from a_Machine_run_from d_Machine_run_from
  b_Machine_run_from : Binds K d_Machine_run_from ["self", "state", "text"] []
  m_Machine_run_from : Meth K C_Machine "run_from" a_Machine_run_from
  a_Machine_accepts : Addr
  d_Machine_accepts : FuncData
  f_Machine_accepts : Fun K "accepts" "Machine.accepts" s_Machine_accepts a_Machine_accepts d_Machine_accepts
  b_Machine_accepts : Binds K d_Machine_accepts ["self", "text"] []
  m_Machine_accepts : Meth K C_Machine "accepts" a_Machine_accepts
  a_Machine_picture : Addr
  d_Machine_picture : FuncData
  f_Machine_picture : Fun K "picture" "Machine.picture" s_Machine_picture a_Machine_picture d_Machine_picture
  b_Machine_picture : Binds K d_Machine_picture ["self"] []
  m_Machine_picture : Meth K C_Machine "picture" a_Machine_picture
  C_Book : Addr
  g_Book : mg "Book" = some (.ref C_Book)
  cl_Book : Cls K C_Book
  na_Book_letters : NoAttr K C_Book "letters"
  na_Book__patterns : NoAttr K C_Book "_patterns"
  na_Book__rewriters : NoAttr K C_Book "_rewriters"
  na_Book__machines : NoAttr K C_Book "_machines"
  a_Book_init : Addr
  d_Book_init : FuncData
  f_Book_init : Fun K "__init__" "Book.__init__" s_Book_init a_Book_init d_Book_init
  b_Book_init : Binds K d_Book_init ["self", "letters", "patterns", "rewriters"] []
  mk_Book : Mk K C_Book a_Book_init
  a_Book_has_pattern : Addr
  d_Book_has_pattern : FuncData
  f_Book_has_pattern : Fun K "has_pattern" "Book.has_pattern" s_Book_has_pattern a_Book_has_pattern d_Book_has_pattern
  b_Book_has_pattern : Binds K d_Book_has_pattern ["self", "name"] []
  m_Book_has_pattern : Meth K C_Book "has_pattern" a_Book_has_pattern
  a_Book_has_rewriter : Addr
  d_Book_has_rewriter : FuncData
  f_Book_has_rewriter : Fun K "has_rewriter" "Book.has_rewriter" s_Book_has_rewriter a_Book_has_rewriter d_Book_has_rewriter
  b_Book_has_rewriter : Binds K d_Book_has_rewriter ["self", "name"] []
  m_Book_has_rewriter : Meth K C_Book "has_rewriter" a_Book_has_rewriter
  a_Book_machine : Addr
  d_Book_machine : FuncData
  f_Book_machine : Fun K "machine" "Book.machine" s_Book_machine a_Book_machine d_Book_machine
  b_Book_machine : Binds K d_Book_machine ["self", "name"] []
  m_Book_machine : Meth K C_Book "machine" a_Book_machine
  a_Book_rewriter : Addr
  d_Book_rewriter : FuncData
  f_Book_rewriter : Fun K "rewriter" "Book.rewriter" s_Book_rewriter a_Book_rewriter d_Book_rewriter
  b_Book_rewriter : Binds K d_Book_rewriter ["self", "name"] []
  m_Book_rewriter : Meth K C_Book "rewriter" a_Book_rewriter
  C_Program : Addr
  g_Program : mg "Program" = some (.ref C_Program)
  cl_Program : Cls K C_Program
  na_Program_inputs : NoAttr K C_Program "inputs"
  na_Program_lines : NoAttr K C_Program "lines"
  na_Program_result : NoAttr K C_Program "result"
  a_Program_init : Addr
  d_Program_init : FuncData
  f_Program_init : Fun K "__init__" "Program.__init__" s_Program_init a_Program_init d_Program_init
  b_Program_init : Binds K d_Program_init ["self", "inputs", "lines", "result"] []
  mk_Program : Mk K C_Program a_Program_init
  a_Program_picture : Addr
  d_Program_picture : FuncData
  f_Program_picture : Fun K "picture" "Program.picture" s_Program_picture a_Program_picture d_Program_picture
  b_Program_picture : Binds K d_Program_picture ["self"] []
  m_Program_picture : Meth K C_Program "picture" a_Program_picture
  C_Rewriter : Addr
  g_Rewriter : mg "Rewriter" = some (.ref C_Rewriter)
  cl_Rewriter : Cls K C_Rewriter
  na_Rewriter_letters : NoAttr K C_Rewriter "letters"
  na_Rewriter_lead : NoAttr K C_Rewriter "lead"
  na_Rewriter_finals : NoAttr K C_Rewriter "finals"
  na_Rewriter_table : NoAttr K C_Rewriter "table"
  a_Rewriter_init : Addr
  d_Rewriter_init : FuncData
  f_Rewriter_init : Fun K "__init__" "Rewriter.__init__" s_Rewriter_init a_Rewriter_init d_Rewriter_init
  b_Rewriter_init : Binds K d_Rewriter_init ["self", "letters", "lead", "finals", "table"] []
  mk_Rewriter : Mk K C_Rewriter a_Rewriter_init
  a_Rewriter_check : Addr
  d_Rewriter_check : FuncData
  f_Rewriter_check : Fun K "check" "Rewriter.check" s_Rewriter_check a_Rewriter_check d_Rewriter_check
  b_Rewriter_check : Binds K d_Rewriter_check ["self"] []
  m_Rewriter_check : Meth K C_Rewriter "check" a_Rewriter_check
  a_Rewriter_rewrite : Addr
  d_Rewriter_rewrite : FuncData
  f_Rewriter_rewrite : Fun K "rewrite" "Rewriter.rewrite" s_Rewriter_rewrite a_Rewriter_rewrite d_Rewriter_rewrite
  b_Rewriter_rewrite : Binds K d_Rewriter_rewrite ["self", "text"] []
  m_Rewriter_rewrite : Meth K C_Rewriter "rewrite" a_Rewriter_rewrite
  a_Rewriter_rewrite_from : Addr
  d_Rewriter_rewrite_from : FuncData
  f_Rewriter_rewrite_from : Fun K "rewrite_from" "Rewriter.rewrite_from" s_Rewriter_rewrite_from a_Rewriter_rewrite_from d_Rewriter_rewrite_from
  b_Rewriter_rewrite_from : Binds K d_Rewriter_rewrite_from ["self", "state", "text"] []
  m_Rewriter_rewrite_from : Meth K C_Rewriter "rewrite_from" a_Rewriter_rewrite_from
  a_Rewriter_picture : Addr
  d_Rewriter_picture : FuncData
  f_Rewriter_picture : Fun K "picture" "Rewriter.picture" s_Rewriter_picture a_Rewriter_picture d_Rewriter_picture
  b_Rewriter_picture : Binds K d_Rewriter_picture ["self"] []
  m_Rewriter_picture : Meth K C_Rewriter "picture" a_Rewriter_picture
  c_least_from : Addr
  P_least_from : Addr
  t_least_from : FunT K "least_from" "least_from" s_least_from a_least_from d_least_from c_least_from
  c_both : Addr
  P_both : Addr
  t_both : FunT K "both" "both" s_both a_both d_both c_both
  c_either : Addr
  P_either : Addr
  t_either : FunT K "either" "either" s_either a_either d_either c_either
  c__paired : Addr
  P__paired : Addr
  t__paired : FunT K "_paired" "_paired" s__paired a__paired d__paired c__paired
  c_chained_texts : Addr
  P_chained_texts : Addr
  t_chained_texts : FunT K "chained_texts" "chained_texts" s_chained_texts a_chained_texts d_chained_texts c_chained_texts
  c_repetition : Addr
  P_repetition : Addr
  t_repetition : FunT K "repetition" "repetition" s_repetition a_repetition d_repetition c_repetition
  nb_abs : mg "abs" = none
  nb_all : mg "all" = none
  nb_any : mg "any" = none
  nb_dict : mg "dict" = none
  nb_enumerate : mg "enumerate" = none
  nb_int : mg "int" = none
  nb_isinstance : mg "isinstance" = none
  nb_len : mg "len" = none
  nb_list : mg "list" = none
  nb_max : mg "max" = none
  nb_min : mg "min" = none
  nb_range : mg "range" = none
  nb_reversed : mg "reversed" = none
  nb_set : mg "set" = none
  nb_sorted : mg "sorted" = none
  nb_tuple : mg "tuple" = none
  t_LETTERS : Tok
  c_LETTERS : mg "LETTERS" = some (.str "abcdefghijklmnopqrstuvwxyzABCDEFGHIJKLMNOPQRSTUVWXYZ0123456789<>=:_@#" t_LETTERS)
  t_MOST_LETTERS : Tok
  c_MOST_LETTERS : mg "MOST_LETTERS" = some (.int 8 t_MOST_LETTERS)
  a_LEAVES : Addr
  c_LEAVES : mg "LEAVES" = some (.ref a_LEAVES)
  v_LEAVES : ∀ H, Dp K H (.ref a_LEAVES) (.tuple [.str "none", .str "empty", .str "one"])
  a_WORDS : Addr
  c_WORDS : mg "WORDS" = some (.ref a_WORDS)
  v_WORDS : ∀ H, Dp K H (.ref a_WORDS) (.tuple [.str "turn", .str "rewrite", .str "if", .str "in", .str "then", .str "else", .str "need", .str "give"])
  t_NAME_LETTERS : Tok
  c_NAME_LETTERS : mg "NAME_LETTERS" = some (.str "abcdefghijklmnopqrstuvwxyz" t_NAME_LETTERS)
  t_LONGEST_NAME : Tok
  c_LONGEST_NAME : mg "LONGEST_NAME" = some (.int 8 t_LONGEST_NAME)
  t_MOST_INPUTS : Tok
  c_MOST_INPUTS : mg "MOST_INPUTS" = some (.int 3 t_MOST_INPUTS)
  t_MOST_LINES : Tok
  c_MOST_LINES : mg "MOST_LINES" = some (.int 12 t_MOST_LINES)
  t_MOST_PARTS : Tok
  c_MOST_PARTS : mg "MOST_PARTS" = some (.int 6 t_MOST_PARTS)
def Ps {K : PySem.W.Frag} {mg : Str → Option Value} (T : Txt K mg) : List Addr := [T.P_least_from, T.P_both, T.P_either, T.P__paired, T.P_chained_texts, T.P_repetition]
structure Bs {K : PySem.W.Frag} {mg : Str → Option Value} (T : Txt K mg) (base : Heap) : Prop where
  tb_least_from : LamX.TabB base mg T.c_least_from T.P_least_from
  in_least_from : T.P_least_from ∈ Ps T
  tb_both : LamX.TabB base mg T.c_both T.P_both
  in_both : T.P_both ∈ Ps T
  tb_either : LamX.TabB base mg T.c_either T.P_either
  in_either : T.P_either ∈ Ps T
  tb__paired : LamX.TabB base mg T.c__paired T.P__paired
  in__paired : T.P__paired ∈ Ps T
  tb_chained_texts : LamX.TabB base mg T.c_chained_texts T.P_chained_texts
  in_chained_texts : T.P_chained_texts ∈ Ps T
  tb_repetition : LamX.TabB base mg T.c_repetition T.P_repetition
  in_repetition : T.P_repetition ∈ Ps T
section
variable {P : Program} {w : World} {K : PySem.W.Frag} {mg : Str → Option Value} {base : Heap}
/-! ### the helpers that all laws have: cells of the script, numbers, a state, the next drawn number -/
def spCell (K : PySem.W.Frag) : Sp := fun vs H Q _ => ∃ (l : Addr) (ns : List Int) (k : Int), vs = [.ref l, .int k] ∧ SqL K H l (ns.map V.int) ∧ 0 ≤ k ∧ ∀ z, Q (.int z) H
theorem ok_cell (T : Txt K mg) : FnOk P w K mg base CX0 1 T.a_cell T.d_cell ["script", "k"] (spCell K) := by
  refine T.f_cell.ok sc_cell (fun vs H Q E h => ?_) (fun cdv A outer s H vs Q E hr h => ?_)
  · obtain ⟨_, _, _, rfl, _⟩ := h; rfl
  · obtain ⟨l, ns, k, rfl, hs, h0, q⟩ := h
    refine ⟨_, (pss_cons (ps_if (pt_cmpR op_ltP (pv 1) (pe_callB (kLen K) (by rfl) T.nb_len (by decide +kernel) (pa_cons (pv 0) pa_nil)) (by first | rfl | exact nomark _))
    (pss_one (ps_ret (pe_ix (kIx K) (pv 0) (pv 1) (fun _ _ => rfl))))
    pss_nil)
  (pss_one (ps_ret pe_int))), ?_⟩
    walk_at "rd"
    refine rd_iteD (fun h1 => ?_) (fun h1 => ?_)
    · walk_at "rd"
      rw [List.length_map] at h1
      refine rd_ixL (v := .int (ns.getD k.toNat 0)) hs ?_ (q _)
      have e : k = (k.toNat : Int) := (Int.toNat_of_nonneg h0).symm
      rw [e]
      refine atI_nat ?_
      rw [List.getElem?_map, Int.toNat_natCast, List.getD_eq_getElem?_getD, List.getElem?_eq_getElem (show k.toNat < ns.length by omega)]
      rfl
    · walk_at "rd"
      exact q 0
/-- numbers from 0 to 999 -/
def Small (ns : List Int) : Prop := ∀ x ∈ ns, 0 ≤ x ∧ x < 1000
theorem Small.more {ns : List Int} {x : Int} (h : Small ns) (h0 : 0 ≤ x) (h1 : x < 1000) : Small (ns ++ [x]) := fun y hy => by
  rcases List.mem_append.mp hy with hy | hy
  · exact h y hy
  · rw [List.mem_singleton.mp hy]; exact ⟨h0, h1⟩
theorem Small.app {ns ms : List Int} (h : Small ns) (k : Small ms) : Small (ns ++ ms) := fun y hy => (List.mem_append.mp hy).elim (h y) (k y)
theorem fmod_small {a m : Int} (h : 0 < m) : 0 ≤ a.fmod m ∧ a.fmod m < m := by
  rw [Int.fmod_eq_emod_of_nonneg _ (Int.le_of_lt h)]
  exact ⟨Int.emod_nonneg _ (by omega), Int.emod_lt_of_pos _ h⟩
/-- a new list of small numbers -/
def spNumbers : Sp := fun vs H Q _ => ∃ (c m : Int), vs = [.int c, .int m] ∧ 0 ≤ m ∧ m ≤ 1000 ∧ ∀ (p : Addr) (ns : List Int) (H' : Hp), H p = none → Ex H H' → H' p = some (.lst (ns.map V.int)) → (ns.length : Int) = m → Small ns → Q (.ref p) H'
theorem append_int {H' : Hp} {p : Addr} {ns : List Int} {D : VK} {K : PySem.W.Frag} {i : Nat} {x : Int} (hp : H' p = some (.lst (ns.map V.int))) (hi : ns.length = i) (hl : i < 100000) (q : D .non (upd H' p (.lst ((ns ++ [x]).map V.int)))) :
    rAppend (.ref p) [.int x] H' D := ⟨p, ns.map V.int, .int x, rfl, rfl, hp, Nat.lt_of_lt_of_le (by rw [List.length_map, hi]; exact hl) (by decide), by rw [List.map_append] at q; exact q⟩
theorem ok_numbers (T : Txt K mg) : FnOk P w K mg base CX0 1 T.a_numbers T.d_numbers ["cell", "many"] spNumbers := by
  refine T.f_numbers.ok sc_numbers (fun vs H Q E h => ?_) (fun cdv A outer s H vs Q E hr h => ?_)
  · obtain ⟨_, _, rfl, _⟩ := h; rfl
  · obtain ⟨c, m, rfl, h0, h1, q⟩ := h
    refine ⟨_, (pss_cons (ps_set (i := 2) sc_numbers.nd rfl (by first | exact Or.inl rfl | exact Or.inr rfl) (pe_callB call_absP (by rfl) T.nb_abs (by decide +kernel) (pa_cons (pv 0) pa_nil)))
  (pss_cons (ps_set (i := 3) sc_numbers.nd rfl (by first | exact Or.inl rfl | exact Or.inr rfl) (pv 2))
  (pss_cons (ps_set (i := 4) sc_numbers.nd rfl (by first | exact Or.inl rfl | exact Or.inr rfl) (pe_lst pa_nil))
  (pss_cons (ps_for PassesOwn.never rfl (pi_range1 (by rfl) T.nb_range (pa_cons (pv 1) pa_nil)) (pg_name (i := 5) sc_numbers.nd rfl (by first | exact Or.inl rfl | exact Or.inr rfl))
    (pss_one (ps_if (PW.pt (pw_and (pt_cmpR op_geP (pv 3) (pe_op op_powP pe_int pe_int) (by first | rfl | exact nomark _)) (pw_and1 (pt_cmpR op_gtP (pv 2) pe_int (by first | rfl | exact nomark _)))))
    (pss_cons (ps_expr (kBm K rfl (pe_bm PySem.F.plainAttrs_list PySem.F.slot_list_append PySem.F.type_list_append mt_append (pv 4) (pa_cons (pe_op op_modP (pe_callTy call_intP (by rfl) T.nb_int (by decide +kernel) (pa_cons (pv 2) pa_nil)) pe_int) pa_nil))))
  (pss_one (ps_set (i := 2) sc_numbers.nd rfl (by first | exact Or.inl rfl | exact Or.inr rfl) (pe_op op_divP (pv 2) pe_int))))
    (pss_cons (ps_set (i := 6) sc_numbers.nd rfl (by first | exact Or.inl rfl | exact Or.inr rfl) (pe_op op_modP (pe_callTy call_intP (by rfl) T.nb_int (by decide +kernel) (pa_cons (pe_op (kAdd K) (pe_op (kAdd K) (pe_op op_mulPP (pv 3) pe_int) (pe_op op_mulPP (pv 5) pe_int)) pe_int) pa_nil)) pe_int))
  (pss_cons (ps_set (i := 6) sc_numbers.nd rfl (by first | exact Or.inl rfl | exact Or.inr rfl) (pe_op op_modP (pe_callTy call_intP (by rfl) T.nb_int (by decide +kernel) (pa_cons (pe_op (kAdd K) (pe_op (kAdd K) (pe_op op_mulPP (pv 6) (pv 6)) (pe_op op_mulPP pe_int (pv 5))) pe_int) pa_nil)) pe_int))
  (pss_one (ps_expr (kBm K rfl (pe_bm PySem.F.plainAttrs_list PySem.F.slot_list_append PySem.F.type_list_append mt_append (pv 4) (pa_cons (pe_op op_modP (pe_callTy call_intP (by rfl) T.nb_int (by decide +kernel) (pa_cons (pe_op op_divP (pv 6) pe_int) pa_nil)) pe_int) pa_nil))))))))))
  (pss_one (ps_ret (pv 4))))))), ?_⟩
    walk_at "rd"
    refine ⟨by decide, fun p hp => ?_⟩
    walk_at "rd"
    refine ⟨_, rfl, by omega, by omega, fo_range (n := m.toNat) (fun i σ H' => ∃ (r : Int) (ns : List Int) (kk mm : Option V), σ = [some (.int c), some (.int m), some (.int r), some (.int (if c < 0 then -c else c)), some (.ref p), kk, mm] ∧ Ex H H' ∧ H' p = some (.lst (ns.map V.int)) ∧ ns.length = i ∧ Small ns)
      ⟨_, [], none, none, rfl, Evl.Ex.new hp, upd_same, rfl, fun x hx => by cases hx⟩ ?_ ?_⟩
    · rintro i σ H' hi ⟨r, ns, kk, mm, rfl, e, hl, hn, sm⟩
      have tl : tyV K "list" (.ref p) H' := .inl ⟨rfl, _, SqL.of hl⟩
      walk_at "rd"
      refine rd_powI ⟨by decide, by decide, by decide⟩ ?_
      walk_at "rd"
      refine rd_ite (fun h2 => ?_) (fun h2 => ?_)
      · walk_at "rd"
        refine rd_ite (fun h3 => ?_) (fun h3 => ?_)
        · walk_at "rd"
          refine ⟨tl, ?_⟩
          walk_at "rd"
          refine rd_modI (by decide) ?_
          walk_at "rd"
          refine append_int (K := K) hl hn (by omega) ?_
          walk_at "rd"
          refine rd_divI ⟨by decide, by decide⟩ ?_
          walk_at "rd"
          have fm := fmod_small (a := r) (m := 1000) (by decide)
          exact ⟨_, ns ++ [_], _, _, rfl, Evl.Ex.mut e hp, upd_same, by rw [List.length_append, hn]; rfl, sm.more fm.1 fm.2⟩
        · walk_at "rd"
          refine rd_mulN (.inr ⟨by decide, by decide⟩) ?_
          walk_at "rd"
          refine rd_mulN (.inr ⟨by decide, by decide⟩) ?_
          walk_at "rd"
          refine rd_modI (by decide) ?_
          walk_at "rd"
          have fa := fmod_small (a := (if c < 0 then -c else c) * 48271 + (i : Int) * 69621 + 11) (m := 2147483647) (by decide)
          refine rd_mulN (.inl ⟨by omega, by omega⟩) ?_
          walk_at "rd"
          refine rd_mulN (.inl ⟨by decide, by decide⟩) ?_
          walk_at "rd"
          refine rd_modI (by decide) ?_
          walk_at "rd"
          refine ⟨tl, ?_⟩
          walk_at "rd"
          refine rd_divI ⟨by decide, by decide⟩ ?_
          walk_at "rd"
          refine rd_modI (by decide) ?_
          walk_at "rd"
          refine append_int (K := K) hl hn (by omega) ?_
          have fm := fun a : Int => fmod_small (a := a) (m := 1000) (by decide)
          exact ⟨_, ns ++ [_], _, _, rfl, Evl.Ex.mut e hp, upd_same, by rw [List.length_append, hn]; rfl, sm.more (fm _).1 (fm _).2⟩
      · walk_at "rd"
        refine rd_mulN (.inr ⟨by decide, by decide⟩) ?_
        walk_at "rd"
        refine rd_mulN (.inr ⟨by decide, by decide⟩) ?_
        walk_at "rd"
        refine rd_modI (by decide) ?_
        walk_at "rd"
        have fa := fmod_small (a := (if c < 0 then -c else c) * 48271 + (i : Int) * 69621 + 11) (m := 2147483647) (by decide)
        refine rd_mulN (.inl ⟨by omega, by omega⟩) ?_
        walk_at "rd"
        refine rd_mulN (.inl ⟨by decide, by decide⟩) ?_
        walk_at "rd"
        refine rd_modI (by decide) ?_
        walk_at "rd"
        refine ⟨tl, ?_⟩
        walk_at "rd"
        refine rd_divI ⟨by decide, by decide⟩ ?_
        walk_at "rd"
        refine rd_modI (by decide) ?_
        walk_at "rd"
        refine append_int (K := K) hl hn (by omega) ?_
        have fm := fun a : Int => fmod_small (a := a) (m := 1000) (by decide)
        exact ⟨_, ns ++ [_], _, _, rfl, Evl.Ex.mut e hp, upd_same, by rw [List.length_append, hn]; rfl, sm.more (fm _).1 (fm _).2⟩
    · rintro σ H' ⟨r, ns, kk, mm, rfl, e, hl, hn, sm⟩
      walk_at "rd"
      exact q p ns H' hp e hl (by omega) sm
/-- a state: the numbers, the place -/
def StAt (H : Hp) (p : Addr) : Prop := ∃ (l : Addr) (ns : List Int) (place : Int), H p = some (.lst [.ref l, .int place]) ∧ H l = some (.lst (ns.map V.int)) ∧ Small ns ∧ 0 < ns.length ∧ ns.length ≤ 100000 ∧ 0 ≤ place
theorem StAt.ex {H H' : Hp} {p : Addr} (h : StAt H p) (e : Ex H H') : StAt H' p := by
  obtain ⟨l, ns, pl, h1, h2, h3⟩ := h
  exact ⟨l, ns, pl, e _ _ h1, e _ _ h2, h3⟩
def spState (K : PySem.W.Frag) : Sp := fun vs H Q _ => ∃ (l : Addr) (ns : List Int) (st many : Int), vs = [.ref l, .int st, .int many] ∧ SqL K H l (ns.map V.int) ∧ 0 ≤ st ∧ st ≤ 1000 ∧ 0 < many ∧ many ≤ 1000 ∧
  ∀ (p : Addr) (H' : Hp), H p = none → Ex H H' → StAt H' p → Q (.ref p) H'
theorem ok_state (T : Txt K mg) : FnOk P w K mg base CX0 2 T.a_state T.d_state ["script", "start", "many"] (spState K) := by
  refine T.f_state.ok sc_state (fun vs H Q E h => ?_) (fun cdv A outer s H vs Q E hr h => ?_)
  · obtain ⟨_, _, _, _, rfl, _⟩ := h; rfl
  · obtain ⟨l, ns, st, many, rfl, hs, h0, h1, h2, h3, q⟩ := h
    refine ⟨_, (pss_cons (ps_set (i := 3) sc_state.nd rfl (by first | exact Or.inl rfl | exact Or.inr rfl) (pe_lst pa_nil))
  (pss_cons (ps_for PassesOwn.never rfl (pi_range2 (by rfl) T.nb_range (pa_cons (pv 1) (pa_cons (pe_op (kAdd K) (pv 1) (pv 2)) pa_nil))) (pg_name (i := 4) sc_state.nd rfl (by first | exact Or.inl rfl | exact Or.inr rfl))
    (pss_cons (ps_set (i := 5) sc_state.nd rfl (by first | exact Or.inl rfl | exact Or.inr rfl) (pe_callE (ok_cell T) (hr.mono (by decide)) T.o_cell (pa_cons (pv 0) (pa_cons (pv 4) pa_nil))))
  (pss_cons (ps_if (pt_cmpR op_ltP (pe_callB call_absP (by rfl) T.nb_abs (by decide +kernel) (pa_cons (pv 5) pa_nil)) (pe_op op_powP pe_int pe_int) (by first | rfl | exact nomark _))
    (pss_one (ps_set (i := 5) sc_state.nd rfl (by first | exact Or.inl rfl | exact Or.inr rfl) (pe_op (kAdd K) (pe_op op_mulPP (pv 5) pe_int) (pv 4))))
    pss_nil)
  (pss_one (ps_set (i := 3) sc_state.nd rfl (by first | exact Or.inl rfl | exact Or.inr rfl) (pe_op (kAdd K) (pv 3) (pe_callE (ok_numbers T) (hr.mono (by decide)) T.o_numbers (pa_cons (pv 5) (pa_cons pe_int pa_nil)))))))))
  (pss_one (ps_ret (pe_lst (pa_cons (pv 3) (pa_cons pe_int pa_nil))))))), ?_⟩
    walk_at "rd"
    refine ⟨by decide, fun p hp => ?_⟩
    walk_at "rd"
    refine ⟨_, _, rfl, ⟨by omega, by omega, by omega, by omega⟩, fo_range2 (lo := st) (n := (st + many - st).toNat) (fun i σ H' => ∃ (p2 : Addr) (ms : List Int) (kk cc : Option V), σ = [some (.ref l), some (.int st), some (.int many), some (.ref p2), kk, cc] ∧ Ex H H' ∧ H p2 = none ∧ H' p2 = some (.lst (ms.map V.int)) ∧ ms.length = i * 20 ∧ Small ms)
      ⟨p, [], none, none, rfl, Evl.Ex.new hp, hp, upd_same, rfl, fun x hx => by cases hx⟩ ?_ ?_⟩
    · rintro i σ H' hi ⟨p2, ms, kk, cc, rfl, e, hp2, hl, hn, sm⟩
      walk_at "rd"
      refine ⟨l, ns, _, rfl, Evl.ex_l e hs, by omega, fun z => ?_⟩
      walk_at "rd"
      refine rd_powI ⟨by decide, by decide, by decide⟩ ?_
      walk_at "rd"
      have hi2 : i < 1000 := by omega
      have fin : ∀ (z2 : Int) (cc : Option V), cc = some (.int z2) → tAsg (tOp (oAdd K) (tVar 3) (tCalled spNumbers (tCons (tVar 5) (tCons (tC (.int 20)) tNil)))) (gName 3)
          { nx := fun σ H' => ∃ (p2 : Addr) (ms : List Int) (kk cc : Option V), σ = [some (.ref l), some (.int st), some (.int many), some (.ref p2), kk, cc] ∧ Ex H H' ∧ H p2 = none ∧ H' p2 = some (.lst (ms.map V.int)) ∧ ms.length = (i + 1) * 20 ∧ Small ms, rt := Q } [some (.ref l), some (.int st), some (.int many), some (.ref p2), some (.int (st + (i : Int))), cc] H' := by
        rintro z2 cc rfl
        walk_at "rd"
        refine ⟨z2, 20, rfl, by decide, by decide, fun p3 ns3 H3 hp3 e3 hl3 hn3 sm3 => ?_⟩
        refine rd_cat (e3 _ _ hl) hl3 ?_ fun p4 hp4 => ?_
        · rw [List.length_map, List.length_map, hn]
          refine Nat.le_trans (show i * 20 + ns3.length ≤ 100000 by omega) (by decide)
        · walk_at "rd"
          refine ⟨p4, ms ++ ns3, _, _, rfl, ex_upd (e.trans e3) hp4, Evl.fresh_back (e.trans e3) hp4, ?_, ?_, sm.app sm3⟩
          · rw [upd_same, List.map_append]
          · rw [List.length_append, hn]; omega
      refine rd_ite (fun h4 => ?_) (fun h4 => ?_)
      · walk_at "rd"
        refine rd_mulN (.inr ⟨by decide, by decide⟩) ?_
        walk_at "rd1"
        walk_at "rd1"
        walk_at "rd1"
        walk_at "rd1"
        exact fin _ _ rfl
      · exact fin _ _ rfl
    · rintro σ H' ⟨p2, ms, kk, cc, rfl, e, hp2, hl, hn, sm⟩
      walk_at "rd"
      refine ⟨by show 2 ≤ sizeLine; decide, fun p3 hp3 => ?_⟩
      refine q p3 _ (Evl.fresh_back e hp3) (ex_upd e hp3) ⟨p2, ms, 0, upd_same, ?_, sm, by omega, by omega, by decide⟩
      rw [upd_ne (ne_of_none hl hp3)]
      exact hl
/-- the same list within -/
def SameIn (p : Addr) (H H' : Hp) : Prop := ∀ (l : Addr) (n : V), H p = some (.lst [.ref l, n]) → ∃ n', H' p = some (.lst [.ref l, n'])
theorem SameIn.trans {p : Addr} {H H1 H2 : Hp} (a : SameIn p H H1) (b : SameIn p H1 H2) : SameIn p H H2 := fun l n e => by
  obtain ⟨n1, e1⟩ := a l n e
  exact b l n1 e1
theorem SameIn.ex {p : Addr} {H H1 H2 : Hp} (a : SameIn p H H1) (b : Ex H1 H2) : SameIn p H H2 := fun l n e => by
  obtain ⟨n1, e1⟩ := a l n e
  exact ⟨n1, b _ _ e1⟩
/-- the next number below many: any -/
def spNext : Sp := fun vs H Q _ => ∃ (p : Addr) (many : Int), vs = [.ref p, .int many] ∧ 0 < many ∧ StAt H p ∧ ∀ (r : Int) (H' : Hp), 0 ≤ r → r < many → StAt H' p → (∀ b o, b ≠ p → H b = some o → H' b = some o) → ((∀ b, H b = none → H' b = none) ∧ SameIn p H H') → Q (.int r) H'
theorem ok_next (T : Txt K mg) : FnOk P w K mg base CX0 1 T.a_next T.d_next ["state", "many"] spNext := by
  refine T.f_next.ok sc_next (fun vs H Q E h => ?_) (fun cdv A outer s H vs Q E hr h => ?_)
  · obtain ⟨_, _, rfl, _⟩ := h; rfl
  · obtain ⟨p, many, rfl, hm, ⟨l, ns, place, h1, h2, sm, l0, l1, p0⟩, q⟩ := h
    have lp : l ≠ p := fun z => by
      rw [z, h1] at h2
      have y := HO.lst.inj (Option.some.inj h2)
      cases ns with
      | nil => cases l0
      | cons a r => cases y
    refine ⟨_, (pss_cons (ps_set (i := 2) sc_next.nd rfl (by first | exact Or.inl rfl | exact Or.inr rfl) (pe_ix (kIx K) (pv 0) pe_int (fun _ _ => rfl)))
  (pss_cons (ps_set (i := 3) sc_next.nd rfl (by first | exact Or.inl rfl | exact Or.inr rfl) (pe_ix (kIx K) (pv 0) pe_int (fun _ _ => rfl)))
  (pss_cons (ps_asg (pe_op (kAdd K) (pv 3) pe_int) (pg_sub (pv 0) pe_int set_list))
  (pss_one (ps_ret (pe_op op_modP (pe_callTy call_intP (by rfl) T.nb_int (by decide +kernel) (pa_cons (pe_op (kAdd K) (pe_ix (kIx K) (pv 2) (pe_op op_modP (pv 3) (pe_callB (kLen K) (by rfl) T.nb_len (by decide +kernel) (pa_cons (pv 2) pa_nil))) (fun _ _ => rfl)) (pe_op op_mulPP (pe_op op_divP (pv 3) (pe_callB (kLen K) (by rfl) T.nb_len (by decide +kernel) (pa_cons (pv 2) pa_nil))) pe_int)) pa_nil)) (pv 1))))))), ?_⟩
    walk_at "rd"
    refine rd_ixL (v := .ref l) (SqL.of h1) (atI_nat (j := 0) rfl) ?_
    walk_at "rd"
    refine rd_ixL (v := .int place) (SqL.of h1) (atI_nat (j := 1) rfl) ?_
    walk_at "rd"
    refine ⟨p, _, 1, 1, rfl, rfl, h1, rfl, ?_⟩
    have h2' : upd H p (.lst (([.ref l, .int place] : List V).set 1 (.int (place + 1)))) l = some (.lst (ns.map V.int)) := by rw [upd_ne lp]; exact h2
    have hq : SqL K (upd H p (.lst (([.ref l, .int place] : List V).set 1 (.int (place + 1))))) l (ns.map V.int) := SqL.of h2'
    walk_at "rd"
    have lz : ((ns.map V.int).length : Int) = ns.length := by rw [List.length_map]
    refine rd_modI (by rw [lz]; omega) ?_
    rw [lz]
    have fm := fmod_small (a := place) (m := (ns.length : Int)) (by omega)
    have e : place.fmod (ns.length : Int) = ((place.fmod (ns.length : Int)).toNat : Int) := (Int.toNat_of_nonneg fm.1).symm
    refine rd_ixL (v := .int (ns.getD (place.fmod (ns.length : Int)).toNat 0)) hq ?_ ?_
    · rw [e]
      refine atI_nat ?_
      rw [List.getElem?_map, Int.toNat_natCast, List.getD_eq_getElem?_getD, List.getElem?_eq_getElem (show (place.fmod (ns.length : Int)).toNat < ns.length by omega)]
      rfl
    · walk_at "rd"
      refine rd_divI ⟨by rw [lz]; omega, by rw [lz]; omega⟩ ?_
      walk_at "rd"
      refine rd_mulN (.inr ⟨by decide, by decide⟩) ?_
      walk_at "rd"
      refine rd_modI (by omega) ?_
      have fr := fun a : Int => fmod_small (a := a) (m := many) hm
      refine q _ _ (fr _).1 (fr _).2 ⟨l, ns, place + 1, upd_same, h2', sm, l0, l1, by omega⟩ (fun b o hb ho => ?_) ⟨fun b hb => ?_, fun l' n' e => ⟨.int (place + 1), ?_⟩⟩
      · rw [upd_ne hb]; exact ho
      · rw [upd_ne (fun z => by rw [z, h1] at hb; cases hb)]; exact hb
      · rw [h1] at e
        have e2 := HO.lst.inj (Option.some.inj e)
        rw [upd_same, ← (List.cons.inj e2).1]
        rfl
/-! ### letters and texts -/
theorem ok_init (T : Txt K mg) : FnOk P w K mg base CX0 1 T.a_init T.d_init ["self", "what"] (spInit K) := by
  refine T.f_init.ok sc_init (fun vs H Q E h => ?_) (fun cdv A outer s H vs Q E hr h => ?_)
  · obtain ⟨_, _, _, rfl, _⟩ := h; rfl
  · obtain ⟨a, C, v, rfl, T1, nw, ha, q⟩ := h
    refine ⟨_, pss_one (ps_ost (pv 0) (pv 1)), ?_⟩
    exact ⟨_, rfl, _, rfl, a, C, rfl, T1, nw, .inl ⟨ha, q⟩⟩
/-! ### drawn letters -/
/-- the state at p goes on; what stood stands -/
structure Dr (p : Addr) (H H' : Hp) : Prop where
  st : StAt H' p
  old : ∀ b o, b ≠ p → H b = some o → H' b = some o
  inn : SameIn p H H'
theorem Dr.trans {p : Addr} {H H1 H2 : Hp} (a : Dr p H H1) (b : Dr p H1 H2) : Dr p H H2 := ⟨b.st, fun c o hc q => b.old c o hc (a.old c o hc q), a.inn.trans b.inn⟩
theorem Dr.ex {p : Addr} {H H1 H2 : Hp} (a : Dr p H H1) (e : Ex H1 H2) : Dr p H H2 := ⟨a.st.ex e, fun c o hc q => e c o (a.old c o hc q), a.inn.ex e⟩
theorem Dr.refl {p : Addr} {H : Hp} (h : StAt H p) : Dr p H H := ⟨h, fun _ _ _ q => q, fun _ n e => ⟨n, e⟩⟩
theorem StAt.some {H : Hp} {p : Addr} (h : StAt H p) : ∃ o, H p = some o := by
  obtain ⟨l, ns, pl, h1, _⟩ := h
  exact ⟨_, h1⟩
/-- new since H0: all of H0 stands -/
theorem Dr.from {p : Addr} {H0 H H' : Hp} (e : Ex H0 H) (hp : H0 p = none) (d : Dr p H H') : Ex H0 H' := fun b o q => d.old b o (ne_of_none q hp) (e b o q)
abbrev PL : Str := "abcdefghijklmnopqrstuvwxyzABCDEFGHIJKLMNOPQRSTUVWXYZ0123456789<>=:_@#"
theorem okS_PL : okS PL := by unfold okS; decide +kernel
theorem pl_len : PL.length = 69 := by decide +kernel
theorem okS_nil : okS "" := by unfold okS; decide +kernel
theorem str_len (x y : Str) : (x ++ y).length = x.length + y.length := by
  rw [TL.len_tl, TL.len_tl, TL.len_tl, TL.tl_append, List.length_append]
theorem at_str {z : Str} {r : Int} (h0 : 0 ≤ r) (h : r < z.length) : ∃ c, atI z.cps.toList r = some c ∧ c ∈ z.cps.toList := by
  obtain ⟨n, rfl⟩ := Int.eq_ofNat_of_zero_le h0
  have hl : n < z.cps.toList.length := by
    have : z.cps.toList.length = z.length := rfl
    omega
  exact ⟨z.cps.toList[n], atI_nat (List.getElem?_eq_getElem hl), List.getElem_mem hl⟩
/-- an alphabet of at most so many letters -/
structure Alpha (z : Str) (most : Nat) : Prop where
  l0 : 0 < z.length
  l1 : z.length ≤ most
  ok : okS z
  nd : z.cps.toList.Nodup
  pl : ∀ c ∈ z.cps.toList, c ∈ PL.cps.toList
def spLetters : Sp := fun vs H Q _ => ∃ (p : Addr) (most : Nat), vs = [.ref p, .int (most : Int)] ∧ 0 < most ∧ most ≤ 100 ∧ StAt H p ∧ ∀ (z : Str) (H' : Hp), Alpha z most → Dr p H H' → Q (.str z) H'
theorem ok_letters (T : Txt K mg) : FnOk P w K mg base CX0 2 T.a_letters T.d_letters ["state", "most"] spLetters := by
  refine T.f_letters.ok sc_letters (fun vs H Q E h => ?_) (fun cdv A outer s H vs Q E hr h => ?_)
  · obtain ⟨_, _, rfl, _⟩ := h; rfl
  · obtain ⟨p, most, rfl, h0, h1, hS, q⟩ := h
    refine ⟨_, (pss_cons (ps_set (i := 2) sc_letters.nd rfl (by first | exact Or.inl rfl | exact Or.inr rfl) pe_str)
  (pss_cons (ps_set (i := 3) sc_letters.nd rfl (by first | exact Or.inl rfl | exact Or.inr rfl) pe_str)
  (pss_cons (ps_for PassesOwn.never rfl (pi_range1 (by rfl) T.nb_range (pa_cons (pe_op (kAdd K) pe_int (pe_callE (ok_next T) (hr.mono (by decide)) T.o_next (pa_cons (pv 0) (pa_cons (pv 1) pa_nil)))) pa_nil)) (pg_name (i := 4) sc_letters.nd rfl (by first | exact Or.inl rfl | exact Or.inr rfl))
    (pss_cons (ps_set (i := 5) sc_letters.nd rfl (by first | exact Or.inl rfl | exact Or.inr rfl) (pe_ix (kIx K) (pv 2) (pe_callE (ok_next T) (hr.mono (by decide)) T.o_next (pa_cons (pv 0) (pa_cons pe_int pa_nil))) (fun _ _ => rfl)))
  (pss_one (ps_if (pt_cmpR (kNotIn K) (pv 5) (pv 3) (by first | rfl | exact nomark _))
    (pss_one (ps_set (i := 3) sc_letters.nd rfl (by first | exact Or.inl rfl | exact Or.inr rfl) (pe_op (kAdd K) (pv 3) (pv 5))))
    pss_nil))))
  (pss_one (ps_ret (pv 3)))))), ?_⟩
    walk_at "rc"
    walk_at "rs"
    walk_at "rc"
    refine ⟨p, most, rfl, by omega, hS, fun r H1 r0 r1 S1 k1 i1 => ?_⟩
    walk_at "rc"
    refine ⟨1 + r, rfl, by omega, by omega, fo_range (n := (1 + r).toNat) (fun i σ H' => ∃ (z : Str) (kk ll : Option V), σ = [some (.ref p), some (.int (most : Int)), some (.str PL), some (.str z), kk, ll] ∧ (0 < i → 0 < z.length) ∧ z.length ≤ i ∧ okS z ∧ z.cps.toList.Nodup ∧ (∀ c ∈ z.cps.toList, c ∈ PL.cps.toList) ∧ Dr p H H')
      ⟨"", none, none, rfl, fun z => absurd z (Nat.lt_irrefl 0), Nat.le_refl 0, okS_nil, List.nodup_nil, (fun c hc => nomatch hc), ⟨S1, k1, i1.2⟩⟩ ?_ ?_⟩
    · rintro i σ H' hi ⟨z, kk, ll, rfl, g0, g1, g2, g3, g4, g5⟩
      walk_at "rc"
      refine ⟨p, 69, rfl, by decide, g5.st, fun r2 H2 r20 r21 S2 k2 i2 => ?_⟩
      obtain ⟨c, hc, cm⟩ := at_str (z := PL) r20 (by rw [pl_len]; exact r21)
      refine rd_ixS (by rw [pl_len]; decide) hc ?_
      walk_at "rc"
      have d2 : Dr p H H2 := g5.trans ⟨S2, k2, i2.2⟩
      refine rd_iteN (fun h3 => ?_) (fun h3 => ?_)
      · walk_at "rc"
        refine rd_addS (Nat.le_trans (show z.length + 1 ≤ 1000 by omega) (by decide)) ?_
        walk_at "rc"
        have e : (z ++ (⟨#[c]⟩ : Str)).cps.toList = z.cps.toList ++ [c] := TL.tl_append z ⟨#[c]⟩
        refine ⟨_, _, _, rfl, fun _ => by rw [str_len]; exact Nat.succ_pos _, by rw [str_len]; exact Nat.succ_le_succ g1, okS_app g2 (okS_one okS_PL cm), ?_, fun d hd => ?_, d2⟩
        · rw [e]
          exact List.nodup_append.mpr ⟨g3, List.nodup_cons.mpr ⟨List.not_mem_nil, List.nodup_nil⟩, fun a ha b hb q => by
            rw [List.mem_singleton.mp hb] at q
            rw [q] at ha
            exact h3 ha⟩
        · rw [e] at hd
          rcases List.mem_append.mp hd with y | y
          · exact g4 d y
          · rw [List.mem_singleton.mp y]; exact cm
      · walk_at "rc"
        refine ⟨_, _, _, rfl, fun _ => ?_, Nat.le_succ_of_le g1, g2, g3, g4, d2⟩
        cases e : z.cps.toList with
        | nil => rw [e] at h3; cases h3
        | cons a l =>
          have e2 : z.length = z.cps.toList.length := rfl
          rw [e2, e]
          exact Nat.succ_pos _
    · rintro σ H' ⟨z, kk, ll, rfl, g0, g1, g2, g3, g4, g5⟩
      walk_at "rc"
      exact q z H' ⟨g0 (by omega), by omega, g2, g3, g4⟩ g5
/-! ### drawing, with data -/
/-- a list that was not there may change -/
theorem Dr.put {p r : Addr} {H H' : Hp} {o : HO} (hS : StAt H p) (d : Dr p H H') (hr : H r = none) : Dr p H (upd H' r o) := by
  obtain ⟨l, ns, pl, h1, h2, _⟩ := hS
  have nS : ∀ b u, b ≠ r → H' b = some u → upd H' r o b = some u := fun b u hb z => by rw [upd_ne hb]; exact z
  have rp : p ≠ r := ne_of_none h1 hr
  obtain ⟨n1, e1⟩ := d.inn l _ h1
  refine ⟨?_, fun b u hb z => nS _ _ (ne_of_none z hr) (d.old b u hb z), fun l2 n2 e2 => ?_⟩
  · obtain ⟨l3, ns3, pl3, g1, g2, g3⟩ := d.st
    rw [e1] at g1
    have e4 := (List.cons.inj (HO.lst.inj (Option.some.inj g1))).1
    have e5 : l = l3 := by cases e4; rfl
    subst e5
    refine ⟨l, ns3, pl3, nS _ _ rp ?_, nS _ _ (ne_of_none h2 hr) g2, g3⟩
    rw [e1, g1]
  · obtain ⟨n3, e3⟩ := d.inn l2 n2 e2
    exact ⟨n3, nS _ _ rp e3⟩
theorem Dr.back {p r : Addr} {H H' : Hp} (hS : StAt H p) (d : Dr p H H') (h : H' r = none) : H r = none := by
  cases q : H r with
  | none => rfl
  | some o =>
    by_cases e : r = p
    · subst e
      obtain ⟨o2, h2⟩ := d.st.some
      rw [h] at h2; cases h2
    · rw [d.old r o e q] at h; cases h
theorem Dr.kp {p : Addr} {S : List Addr} {H H' : Hp} (d : Dr p H H') (hp : p ∈ S) : Kp S H H' := fun b o hb q => d.old b o (fun z => hb (z ▸ hp)) q
theorem Dr.st' {p c : Addr} {H H' : Hp} (d : Dr p H H') (h : ∃ o, H c = some o) : ∃ o, H' c = some o := by
  obtain ⟨o, h⟩ := h
  by_cases e : c = p
  · rw [e]; exact d.st.some
  · exact ⟨o, d.old c o e h⟩
theorem tr_dr {p : Addr} {S : List Addr} {H : Hp} (hS : StAt H p) (hp : p ∈ S) : Tr S H (Dr p) :=
  ⟨Dr.refl hS, fun d => Dr.refl d.st, fun d h => d.st' h, fun a b => a.trans b, fun h d => d.put hS h, fun d => d.kp hp⟩
theorem map_ofD {α : Type} {f : α → PyData} {S : α → Prop} : ∀ (vs : List PyData), (∀ (i : Nat) v, vs[i]? = some v → ∃ a, v = f a ∧ S a) → ∃ as : List α, vs = as.map f ∧ ∀ a ∈ as, S a
  | [], _ => ⟨[], rfl, fun a h => by cases h⟩
  | v :: vs, h => by
    obtain ⟨a, e, s⟩ := h 0 v rfl
    obtain ⟨as, e2, s2⟩ := map_ofD vs fun i v hv => h (i + 1) v (by simpa using hv)
    exact ⟨a :: as, by rw [e, e2]; rfl, fun b hb => by
      rcases List.mem_cons.mp hb with z | z
      · rw [z]; exact s
      · exact s2 b z⟩
theorem rng_Y {n : Nat} : ∀ (i : Nat) (H : Hp) (x : V) (H' : Hp), i < n → (H' = H ∧ x = V.int (i : Nat)) → H' = H ∧ (x = V.int (i : Nat)) := fun _ _ _ _ _ y => y
/-! ### texts over letters -/
def isT (ls z : Str) : Prop := ∀ c ∈ z.cps.toList, c ∈ ls.cps.toList
instance (ls z : Str) : Decidable (isT ls z) := by unfold isT; infer_instance
def spIsText : Sp := fun vs H Q _ => ∃ ls z : Str, vs = [.str ls, .str z] ∧ z.length < 100000 ∧ ∀ H', Ex H H' → Q (.bl (decide (isT ls z))) H'
theorem all_of {l m : List Nat} : ((l.map fun c => decide (c ∈ m)).all id) = decide (∀ c ∈ l, c ∈ m) := by
  rw [Bool.eq_iff_iff, List.all_eq_true, decide_eq_true_iff]
  exact ⟨fun h c hc => of_decide_eq_true (h _ (List.mem_map.mpr ⟨c, hc, rfl⟩)), fun h b hb => by
    obtain ⟨c, hc, rfl⟩ := List.mem_map.mp hb
    exact decide_eq_true (h c hc)⟩
theorem ok_is_text (T : Txt K mg) : FnOk P w K mg base CX0 1 T.a_is_text T.d_is_text ["letters", "text"] spIsText := by
  refine T.f_is_text.ok sc_is_text (fun vs H Q E h => ?_) (fun cdv A outer s H vs Q E hr h => ?_)
  · obtain ⟨_, _, rfl, _⟩ := h; rfl
  · obtain ⟨ls, z, rfl, hz, q⟩ := h
    refine ⟨_, (pss_one (ps_ret (pe_callB (kAll K) (by rfl) T.nb_all (by decide +kernel) (pa_cons (pe_lc (own := [("letter", 2)]) (g := gName 2) (tt := tYes) (by rfl) sc_is_text.nd (kAny K rfl (pv 1)) (blkOk_by (own := [("letter", 2)]) (N := ["letters", "text", "letter"]) (sc := defScope s_is_text) (by decide +kernel)) (fun _ _ _ _ _ => (pg_name (i := 2) sc_is_text.nd rfl (by first | exact Or.inl rfl | exact Or.inr rfl))) (fun _ _ _ _ _ => pts_nil) (fun _ _ _ _ _ => (pe_cmpR (kIn K) (pv 2) (pv 0) (by first | rfl | exact nomark _)))) pa_nil)))), ?_⟩
    walk_at "rd"
    refine rd_anyS (fun Q q => ⟨_, rfl, q⟩) ?_
    refine lc_pure (n := z.cps.size) (xs := fun i => .str ⟨#[z.cps.toList.getD i 0]⟩) (f := fun _ => true) (v := fun i => .bl (decide (z.cps.toList.getD i 0 ∈ ls.cps.toList))) walk_str (fun i H x H' hi y => ?_) (fun _ _ => True.intro) hz (fun _ _ _ _ => ans_yes) (fun i Hc hi e _ => ?_) fun L hL => ?_
    · obtain ⟨rfl, c, e, rfl⟩ := y
      rw [← Array.getElem?_toList] at e
      exact ⟨rfl, by rw [List.getD_eq_getElem?_getD, e]; rfl⟩
    · intro Q q
      walk_at "rd"
      exact q
    · have e : Evl.given z.cps.size (fun _ => true) (fun i => V.bl (decide (z.cps.toList.getD i 0 ∈ ls.cps.toList))) = (z.cps.toList.map fun c => decide (c ∈ ls.cps.toList)).map V.bl := by
        rw [given_eq z.cps.toList (fun _ => true) (fun c => V.bl (decide (c ∈ ls.cps.toList))) _ _ (fun _ _ _ => rfl) (fun i x hx => by rw [List.getD_eq_getElem?_getD, hx]; rfl) z.cps.size (by simp)]
        rw [show z.cps.size = z.cps.toList.length from rfl, List.take_length, List.filter_eq_self.mpr (fun _ _ => rfl), List.map_map]
        rfl
      rw [e]
      walk_at "rd"
      refine ⟨L, _, rfl, SqL.of upd_same, ?_⟩
      rw [all_of]
      exact q _ (Evl.Ex.new hL)
/-- a drawn word -/
def spWord : Sp := fun vs H Q _ => ∃ (p : Addr) (ls : Str) (most : Nat), vs = [.str ls, .ref p, .int (most : Int)] ∧ 0 < ls.length ∧ ls.length ≤ 1000 ∧ most ≤ 1000 ∧ StAt H p ∧ ∀ (t : Str) (H' : Hp), isT ls t → t.length ≤ most → Dr p H H' → Q (.str t) H'
theorem ok_word (T : Txt K mg) : FnOk P w K mg base CX0 2 T.a_word T.d_word ["letters", "state", "most"] spWord := by
  refine T.f_word.ok sc_word (fun vs H Q E h => ?_) (fun cdv A outer s H vs Q E hr h => ?_)
  · obtain ⟨_, _, _, rfl, _⟩ := h; rfl
  · obtain ⟨p, ls, most, rfl, l0, l1, hm, hS, q⟩ := h
    have lz : ls.length ≤ sizeLine := Nat.le_trans l1 (by decide)
    refine ⟨_, (pss_one (ps_ret (kBm K rfl (pe_bm PySem.F.plainAttrs_str PySem.F.slot_str_join PySem.F.type_str_join (kJoin K) pe_str (pa_cons (pe_lc (own := [("k", 3)]) (g := gName 3) (tt := tYes) (by rfl) sc_word.nd (pi_range1 (by rfl) T.nb_range (pa_cons (pe_callE (ok_next T) (hr.mono (by decide)) T.o_next (pa_cons (pv 1) (pa_cons (pe_op (kAdd K) (pv 2) pe_int) pa_nil))) pa_nil)) (blkOk_by (own := [("k", 3)]) (N := ["letters", "state", "most", "k"]) (sc := defScope s_word) (by decide +kernel)) (fun _ _ _ _ _ => (pg_name (i := 3) sc_word.nd rfl (by first | exact Or.inl rfl | exact Or.inr rfl))) (fun _ _ _ _ _ => pts_nil) (fun _ _ _ _ _ => (pe_ix (kIx K) (pv 0) (pe_callE (ok_next T) (hr.mono (by decide)) T.o_next (pa_cons (pv 1) (pa_cons (pe_callB (kLen K) (by rfl) T.nb_len (by decide +kernel) (pa_cons (pv 0) pa_nil)) pa_nil))) (fun _ _ => rfl)))) pa_nil))))), ?_⟩
    walk_at "rc"
    refine ⟨rfl, ?_⟩
    walk_at "rc"
    refine ⟨p, _, rfl, by omega, hS, fun nn H1 r0 r1 S1 o1 i1 => ?_⟩
    have d1 : Dr p H H1 := ⟨S1, o1, i1.2⟩
    walk_at "rc"
    refine ⟨nn, rfl, by omega, by omega, ?_⟩
    refine lc_R (K := K) (S := [p]) (P := fun i x => x = V.int (i : Nat)) (tr_dr S1 List.mem_cons_self) (st1 S1.some.choose_spec) walk_range0 rng_Y (by omega) (fun _ _ => True.intro) (fun i d => ∃ c : Nat, d = .str ⟨#[c]⟩ ∧ c ∈ ls.cps.toList) (hg_name fun v => rfl) (fun L i σ2 Hc hi p2 hL nL dc hs up N hN => ?_) fun L us Hc ds dc hL nL hus hds hlen hR => ?_
    · obtain ⟨v, rfl, rfl⟩ := p2
      walk_at "rc"
      refine rd_lenS lz ?_
      refine ⟨p, _, rfl, by omega, dc.st, fun r H3 q0 q1 S3' o3' i3' => ?_⟩
      obtain ⟨c, hc, cm⟩ := at_str (z := ls) q0 q1
      refine rd_ixS lz hc ?_
      exact hN _ _ _ ⟨S3', o3', i3'.2⟩ (.str _) ⟨c, rfl, cm⟩
    · obtain ⟨cs, rfl, hcs⟩ := map_ofD (f := fun c : Nat => PyData.str ⟨#[c]⟩) ds hR
      have es : cs.map (fun c : Nat => PyData.str ⟨#[c]⟩) = (cs.map fun c => (⟨#[c]⟩ : Str)).map PyData.str := by rw [List.map_map]; rfl
      rw [List.length_map] at hlen
      rw [es] at hds
      have eu := dp_strs hds
      subst eu
      walk_at "rc"
      refine ⟨"", L, _, rfl, rfl, .inl (SqL.of hus), ?_, ?_⟩
      · rw [sum_signs, List.length_map]
        have e0 : (Str.ofString "").length = 0 := by decide +kernel
        rw [e0]
        omega
      have et := join_signs cs
      have el : (Txt.join "" (cs.map fun c => (⟨#[c]⟩ : Str))).length = cs.length := by
        show (Txt.join "" (cs.map fun c => (⟨#[c]⟩ : Str))).cps.toList.length = cs.length
        rw [et]
      exact q _ Hc (fun c hc => hcs c (by rw [← et]; exact hc)) (by rw [el]; omega) (d1.trans dc)
section
def keptS (L : Str) (named : List Nat) (o : Bool) : Str := ⟨(L.cps.toList.filter fun c => decide (c ∈ named) != o).toArray⟩
theorem toL_ext {a b : Str} (h : a.cps.toList = b.cps.toList) : a = b := by
  obtain ⟨x⟩ := a
  obtain ⟨y⟩ := b
  exact congrArg Str.mk (Array.toList_inj.mp h)
end
section
/-- a pattern, as terms of terms -/
inductive Pt
  | nul (k : Str)
  | one (s : Str)
  | un (k : Str) (a : Pt)
  | bi (k : Str) (a b : Pt)
def Pt.kind : Pt → Str
  | .nul k => k
  | .one _ => "one"
  | .un k _ => k
  | .bi k _ _ => k
def Pt.parts : Pt → List Pt
  | .nul _ => []
  | .one _ => []
  | .un _ a => [a]
  | .bi _ a b => [a, b]
def Pt.ok : Pt → Prop
  | .nul k => k = "none" ∨ k = "empty"
  | .one s => s.length ≤ 100
  | .un k a => (k = "not" ∨ k = "star") ∧ a.ok
  | .bi k a b => (k = "join" ∨ k = "either" ∨ k = "both") ∧ a.ok ∧ b.ok
def Pt.size : Pt → Nat
  | .nul _ => 1
  | .one _ => 1
  | .un _ a => a.size + 1
  | .bi _ a b => a.size + b.size + 1
def Pt.D : Pt → PyData
  | .nul k => .tuple [.str k]
  | .one s => .tuple [.str "one", .str s]
  | .un k a => .tuple [.str k, a.D]
  | .bi k a b => .tuple [.str k, a.D, b.D]
def PtV (H : Hp) : Pt → V → Prop
  | .nul k, v => ∃ a, v = .ref a ∧ H a = some (.tup [.str k])
  | .one s, v => ∃ a, v = .ref a ∧ H a = some (.tup [.str "one", .str s])
  | .un k t, v => ∃ a u, v = .ref a ∧ H a = some (.tup [.str k, u]) ∧ PtV H t u
  | .bi k t r, v => ∃ a u x, v = .ref a ∧ H a = some (.tup [.str k, u, x]) ∧ PtV H t u ∧ PtV H r x
def PtL (H : Hp) : List Pt → List V → Prop
  | [], [] => True
  | t :: ts, v :: vs => PtV H t v ∧ PtL H ts vs
  | _, _ => False
/-- the tuples stay -/
def KT (H H' : Hp) : Prop := ∀ b xs, H b = some (.tup xs) → H' b = some (.tup xs)
theorem KT.refl (H : Hp) : KT H H := fun _ _ h => h
theorem KT.trans {H H1 H2 : Hp} (a : KT H H1) (b : KT H1 H2) : KT H H2 := fun x o h => b x o (a x o h)
theorem KT.ex {H H' : Hp} (e : Ex H H') : KT H H' := fun b xs h => e b _ h
theorem KT.put {H : Hp} {p : Addr} {o : HO} (h : ∀ xs, H p ≠ some (.tup xs)) : KT H (upd H p o) := fun b xs e => by
  by_cases z : b = p
  · subst z
    exact absurd e (h xs)
  · rw [upd_ne z]
    exact e
theorem KT.putL {H : Hp} {p : Addr} {o : HO} {ys : List V} (h : H p = some (.lst ys)) : KT H (upd H p o) := .put fun xs e => by rw [h] at e; cases e
theorem KT.new {H : Hp} {p : Addr} {o : HO} (h : H p = none) : KT H (upd H p o) := .put fun xs e => by rw [h] at e; cases e
theorem PtV.kt {H H' : Hp} (e : KT H H') : ∀ (t : Pt) {v : V}, PtV H t v → PtV H' t v
  | .nul _, _, ⟨a, h1, h2⟩ => ⟨a, h1, e _ _ h2⟩
  | .one _, _, ⟨a, h1, h2⟩ => ⟨a, h1, e _ _ h2⟩
  | .un _ t, _, ⟨a, u, h1, h2, h3⟩ => ⟨a, u, h1, e _ _ h2, PtV.kt e t h3⟩
  | .bi _ t r, _, ⟨a, u, x, h1, h2, h3, h4⟩ => ⟨a, u, x, h1, e _ _ h2, PtV.kt e t h3, PtV.kt e r h4⟩
theorem PtL.kt {H H' : Hp} (e : KT H H') : ∀ {ts : List Pt} {vs : List V}, PtL H ts vs → PtL H' ts vs
  | [], [], _ => True.intro
  | _ :: _, _ :: _, ⟨h1, h2⟩ => ⟨PtV.kt e _ h1, PtL.kt e h2⟩
  | [], _ :: _, h => h
  | _ :: _, [], h => h
theorem PtV.dp {K : PySem.W.Frag} {H : Hp} : ∀ (t : Pt) {v : V}, PtV H t v → Dp K H v t.D
  | .nul _, _, ⟨a, h1, h2⟩ => h1 ▸ .tup (Evl.st_of h2) (.cons (.str _) .nil)
  | .one _, _, ⟨a, h1, h2⟩ => h1 ▸ .tup (Evl.st_of h2) (.cons (.str _) (.cons (.str _) .nil))
  | .un _ t, _, ⟨a, u, h1, h2, h3⟩ => h1 ▸ .tup (Evl.st_of h2) (.cons (.str _) (.cons (PtV.dp t h3) .nil))
  | .bi _ t r, _, ⟨a, u, x, h1, h2, h3, h4⟩ => h1 ▸ .tup (Evl.st_of h2) (.cons (.str _) (.cons (PtV.dp t h3) (.cons (PtV.dp r h4) .nil)))
theorem PtL.length {H : Hp} : ∀ {ts : List Pt} {vs : List V}, PtL H ts vs → ts.length = vs.length
  | [], [], _ => rfl
  | _ :: _, _ :: _, ⟨_, h⟩ => congrArg (· + 1) h.length
  | [], _ :: _, h => h.elim
  | _ :: _, [], h => h.elim
theorem PtL.app {H : Hp} : ∀ {ts us : List Pt} {vs ws : List V}, PtL H ts vs → PtL H us ws → PtL H (ts ++ us) (vs ++ ws)
  | [], _, [], _, _, g => g
  | _ :: _, _, _ :: _, _, ⟨h1, h2⟩, g => ⟨h1, PtL.app h2 g⟩
  | [], _, _ :: _, _, h, _ => h.elim
  | _ :: _, _, [], _, h, _ => h.elim
theorem PtL.snoc {H : Hp} {ts : List Pt} {t : Pt} : ∀ {vs : List V}, PtL H (ts ++ [t]) vs → ∃ ws v, vs = ws ++ [v] ∧ PtL H ts ws ∧ PtV H t v := by
  induction ts with
  | nil =>
    intro vs h
    match vs, h with
    | [v], h => exact ⟨[], v, rfl, True.intro, h.1⟩
    | [], h => exact h.elim
    | _ :: _ :: _, h => exact h.2.elim
  | cons t' ts ih =>
    intro vs h
    match vs, h with
    | [], h => exact h.elim
    | v' :: vs, h =>
      obtain ⟨ws, v, rfl, h1, h2⟩ := ih h.2
      exact ⟨v' :: ws, v, rfl, ⟨h.1, h1⟩, h2⟩
def sizes (ts : List Pt) : Nat := (ts.map Pt.size).sum
theorem sizes_app {ts us : List Pt} : sizes (ts ++ us) = sizes ts + sizes us := by unfold sizes; rw [List.map_append, List.sum_append]
theorem Pt.size_pos : ∀ t : Pt, 0 < t.size
  | .nul _ => Nat.one_pos
  | .one _ => Nat.one_pos
  | .un _ _ => Nat.succ_pos _
  | .bi _ _ _ => Nat.succ_pos _
theorem Pt.size_parts : ∀ t : Pt, t.size = sizes t.parts + 1
  | .nul _ => rfl
  | .one _ => rfl
  | .un _ _ => rfl
  | .bi _ _ _ => by show _ = _ + (_ + 0) + 1; rfl
theorem Pt.ok_parts : ∀ {t : Pt}, t.ok → ∀ p ∈ t.parts, p.ok
  | .nul _, _, p, hp => by cases hp
  | .one _, _, p, hp => by cases hp
  | .un _ a, h, p, hp => by rw [List.mem_singleton.mp hp]; exact h.2
  | .bi _ a b, h, p, hp => by
    rcases List.mem_cons.mp hp with e | hp
    · rw [e]; exact h.2.1
    · rw [List.mem_singleton.mp hp]; exact h.2.2
theorem sizes_len : ∀ ts : List Pt, ts.length ≤ sizes ts
  | [] => Nat.le_refl _
  | t :: ts => by
    have h := sizes_len ts
    have h2 := t.size_pos
    show ts.length + 1 ≤ t.size + sizes ts
    omega
/-- a term begins with its kind, its parts come next -/
theorem PtV.at {H : Hp} : ∀ {t : Pt} {v : V}, PtV H t v → ∃ a us, v = .ref a ∧ H a = some (.tup (.str t.kind :: us)) ∧ (t.parts ≠ [] → PtL H t.parts us)
  | .nul _, _, ⟨a, h1, h2⟩ => ⟨a, _, h1, h2, fun h => absurd rfl h⟩
  | .one _, _, ⟨a, h1, h2⟩ => ⟨a, _, h1, h2, fun h => absurd rfl h⟩
  | .un _ t, _, ⟨a, u, h1, h2, h3⟩ => ⟨a, _, h1, h2, fun _ => ⟨h3, True.intro⟩⟩
  | .bi _ t r, _, ⟨a, u, x, h1, h2, h3, h4⟩ => ⟨a, _, h1, h2, fun _ => ⟨h3, h4, True.intro⟩⟩
def Pt.leaf (t : Pt) : Bool := t.parts.isEmpty
theorem Pt.leaf_in : ∀ {t : Pt}, t.ok → inV (.str t.kind) (["none", "empty", "one"].map fun s : String => V.str s) = t.leaf
  | .nul k, h => by rcases h with h | h <;> (show inV (.str k) _ = true; rw [h]; decide +kernel)
  | .one _, _ => by show inV (.str "one") _ = true; decide +kernel
  | .un k _, h => by rcases h.1 with h | h <;> (show inV (.str k) _ = false; rw [h]; decide +kernel)
  | .bi k _ _, h => by rcases h.1 with h | h | h <;> (show inV (.str k) _ = false; rw [h]; decide +kernel)
end
section
def Pt.dep : Pt → Nat
  | .nul _ => 0
  | .one _ => 0
  | .un _ a => a.dep + 1
  | .bi _ a b => max a.dep b.dep + 1
end
section
theorem kept_sel {xs : List Nat} (nd : xs.Nodup) (p : Nat → Bool) : xs.filter (fun c => decide (c ∈ ((List.range xs.length).filter p).map fun j => xs.getD j 0)) = ((List.range xs.length).filter p).map fun j => xs.getD j 0 := by
  have h := getD_range xs 0 (fun c => decide (c ∈ ((List.range xs.length).filter p).map fun j => xs.getD j 0)) (fun c => c)
  rw [List.map_id'] at h
  rw [← h]
  congr 1
  refine List.filter_congr fun j hj => ?_
  have hj := List.mem_range.mp hj
  cases hp : p j with
  | false =>
    refine decide_eq_false fun hm => ?_
    obtain ⟨j', h1, h2⟩ := List.mem_map.mp hm
    obtain ⟨h3, h4⟩ := List.mem_filter.mp h1
    have h5 := List.mem_range.mp h3
    rw [List.getD_eq_getElem?_getD, List.getD_eq_getElem?_getD, List.getElem?_eq_getElem h5, List.getElem?_eq_getElem hj, Option.getD_some, Option.getD_some] at h2
    have e := (List.getElem_inj nd).mp h2
    subst e
    rw [hp] at h4
    cases h4
  | true => exact decide_eq_true (List.mem_map.mpr ⟨j, List.mem_filter.mpr ⟨List.mem_range.mpr hj, hp⟩, rfl⟩)
/-- letters kept, in their order -/
def KpS (L s : Str) : Prop := 0 < s.length ∧ keptS L s.cps.toList false = s
theorem kps_sel {L s : Str} {p : Nat → Bool} (nd : L.cps.toList.Nodup) (hs : s.cps.toList = ((List.range L.cps.toList.length).filter p).map fun j => L.cps.toList.getD j 0) (h0 : 0 < s.length) : KpS L s := by
  refine ⟨h0, toL_ext ?_⟩
  show (L.cps.toList.filter fun c => decide (c ∈ s.cps.toList) != false) = s.cps.toList
  rw [hs]
  rw [← kept_sel nd p]
  refine List.filter_congr fun c _ => ?_
  rw [kept_sel nd p]
  exact Bool.xor_false _
theorem range_first : ∀ n : Nat, 0 < n → (List.range n).filter (fun j => decide (j = 0)) = [0]
  | n + 1, _ => by
    rw [List.range_succ_eq_map, List.filter_cons_of_pos (by decide), List.filter_map]
    have e : (List.range n).filter ((fun j => decide (j = 0)) ∘ Nat.succ) = [] := List.filter_eq_nil_iff.mpr fun j _ => by simp
    rw [e]
    rfl
theorem kps_first {L : Str} {c : Nat} (nd : L.cps.toList.Nodup) (hc : L.cps.toList[0]? = some c) : KpS L ⟨#[c]⟩ := by
  have hl := (List.getElem?_eq_some_iff.mp hc).1
  refine kps_sel (p := fun j => decide (j = 0)) nd ?_ Nat.one_pos
  rw [range_first _ hl]
  show [c] = [L.cps.toList.getD 0 0]
  rw [List.getD_eq_getElem?_getD, hc]
  rfl
def LP (L : Str) : Pt → Prop
  | .nul k => k = "none" ∨ k = "empty"
  | .one s => KpS L s
  | .un k a => (k = "not" ∨ k = "star") ∧ LP L a
  | .bi k a b => (k = "join" ∨ k = "either" ∨ k = "both") ∧ LP L a ∧ LP L b
theorem KpS.len {L s : Str} (h : KpS L s) : s.length ≤ L.length := by
  rw [← h.2]
  show (keptS L s.cps.toList false).cps.toList.length ≤ L.cps.toList.length
  exact List.length_filter_le _ _
theorem LP.ok {L : Str} (hL : L.length ≤ 100) : ∀ {t : Pt}, LP L t → t.ok
  | .nul _, h => h
  | .one s, h => Nat.le_trans (KpS.len h) hL
  | .un _ a, h => ⟨h.1, LP.ok hL h.2⟩
  | .bi _ a b, h => ⟨h.1, LP.ok hL h.2.1, LP.ok hL h.2.2⟩
theorem Dr.kt {p : Addr} {H H' : Hp} (d : Dr p H H') (hS : StAt H p) : KT H H' := fun b xs e => by
  obtain ⟨l, ns, pl, h1, _⟩ := hS
  refine d.old b _ (fun z => ?_) e
  rw [z, h1] at e
  cases e
end
section
variable (T : Txt K mg)
theorem FnOk.exd {CX : CXT} {k : Nat} {f : Addr} {fd : FuncData} {ps : List Str} {sp : Nat → Sp} {n : Nat} (F : ∀ d, d ≤ n → FnOk P w K mg base CX k f fd ps (sp d)) : FnOk P w K mg base CX k f fd ps (fun vs H Q E => ∃ d, d ≤ n ∧ sp d vs H Q E) :=
  ⟨fun vs H Q E ⟨d, h, q⟩ => (F d h).len vs H Q E q, fun A outer s H args us vs Q E hr he hb hv ⟨d, h, q⟩ => (F d h).run A outer s H args us vs Q E hr he hb hv q⟩
end
/-! ### rewriters: their parts -/
theorem str_extR {x y : Str} (h : x.cps.toList = y.cps.toList) : x = y := by
  cases x with | mk a => cases y with | mk b =>
    have e : a = b := Array.toList_inj.mp h
    rw [e]
theorem len_str {x : Str} : x.length = x.cps.toList.length := rfl
theorem tl_app (x y : Str) : (x ++ y).cps.toList = x.cps.toList ++ y.cps.toList := TL.tl_append x y
theorem str_assoc (x y z : Str) : x ++ y ++ z = x ++ (y ++ z) := str_extR (by simp only [tl_app, List.append_assoc])
theorem str_nil (x : Str) : x ++ ("" : Str) = x := str_extR (by rw [tl_app]; exact List.append_nil _)
theorem nil_str (x : Str) : ("" : Str) ++ x = x := str_extR (by rw [tl_app]; rfl)
/-- texts one behind another -/
def catS (ws : List Str) : Str := ws.foldl (fun x y => x ++ y) ""
theorem cat_from (ws : List Str) : ∀ a : Str, (ws.foldl (fun x y => x ++ y) a) = a ++ catS ws := by
  induction ws with
  | nil => intro a; exact (str_nil a).symm
  | cons w ws ih =>
    intro a
    show ws.foldl _ (a ++ w) = a ++ ws.foldl _ ("" ++ w)
    rw [ih, ih ("" ++ w), nil_str, str_assoc]
theorem cat_snoc (ws : List Str) (w : Str) : catS (ws ++ [w]) = catS ws ++ w := by
  unfold catS
  rw [List.foldl_append]
  rfl
theorem join_cat (ws : List Str) : Txt.join "" ws = catS ws := by
  cases ws with
  | nil => rfl
  | cons w ws =>
    have key : ∀ (ws : List Str) (a : Array Nat), (⟨List.foldl (fun acc (p : Str) => acc ++ (Str.ofString "").cps ++ p.cps) a ws⟩ : Str) = ws.foldl (fun x y => x ++ y) ⟨a⟩ := by
      intro ws
      induction ws with
      | nil => intro a; rfl
      | cons v ws ih =>
        intro a
        rw [List.foldl_cons, ih, List.foldl_cons]
        congr 1
    have h := key ws w.cps
    show (⟨List.foldl (fun acc (p : Str) => acc ++ (Str.ofString "").cps ++ p.cps) w.cps ws⟩ : Str) = catS (w :: ws)
    rw [h]
    show _ = ws.foldl _ ("" ++ w)
    rw [nil_str]
theorem cat_len {B : Nat} : ∀ (ws : List Str), (∀ w ∈ ws, w.length ≤ B) → (catS ws).length ≤ ws.length * B := by
  have key : ∀ (ws : List Str) (a : Str), (∀ w ∈ ws, w.length ≤ B) → (ws.foldl (fun x y => x ++ y) a).length ≤ a.length + ws.length * B := by
    intro ws
    induction ws with
    | nil => intro a _; simp
    | cons w ws ih =>
      intro a h
      have h1 := ih (a ++ w) fun v hv => h v (List.mem_cons_of_mem _ hv)
      have h2 := h w List.mem_cons_self
      rw [List.foldl_cons, List.length_cons, Nat.succ_mul]
      rw [str_len] at h1
      omega
  intro ws h
  have := key ws "" h
  have e : ("" : Str).length = 0 := by decide +kernel
  rw [e] at this
  unfold catS
  omega
theorem sum_len {B : Nat} : ∀ (ws : List Str), (∀ w ∈ ws, w.length ≤ B) → (ws.map (·.length)).sum ≤ ws.length * B
  | [], _ => by simp
  | w :: ws, h => by
    have h1 := sum_len ws fun v hv => h v (List.mem_cons_of_mem _ hv)
    have h2 := h w List.mem_cons_self
    rw [List.map_cons, List.sum_cons, List.length_cons, Nat.succ_mul]
    omega
theorem mem_cat {c : Nat} : ∀ (ws : List Str), c ∈ (catS ws).cps.toList → ∃ w ∈ ws, c ∈ w.cps.toList := by
  have key : ∀ (ws : List Str) (a : Str), c ∈ (ws.foldl (fun x y => x ++ y) a).cps.toList → c ∈ a.cps.toList ∨ ∃ w ∈ ws, c ∈ w.cps.toList := by
    intro ws
    induction ws with
    | nil => intro a h; exact .inl h
    | cons w ws ih =>
      intro a h
      rcases ih (a ++ w) h with z | ⟨v, hv, z⟩
      · rw [tl_app] at z
        rcases List.mem_append.mp z with z | z
        · exact .inl z
        · exact .inr ⟨w, List.mem_cons_self, z⟩
      · exact .inr ⟨v, List.mem_cons_of_mem _ hv, z⟩
  intro ws h
  rcases key ws "" h with z | z
  · exact (nomatch z)
  · exact z
abbrev Way := Option (Int × Str)
def encO : Option Str → PyData
  | none => .none
  | some s => .str s
def encW : Way → PyData
  | none => .none
  | some w => .tuple [.int w.1, .str w.2]
def encRow (row : List Way) : PyData := .tuple (row.map encW)
structure Parts where
  lead : Str
  fin : List (Option Str)
  tab : List (List Way)
def waysOf (row : List Way) : List (Int × Str) := row.filterMap id
def textsOf (row : List Way) : List Str := (waysOf row).map (·.2)
def allTexts (r : Parts) : List Str := r.lead :: r.fin.filterMap id ++ r.tab.flatMap textsOf
def goodR (ls : Str) (r : Parts) : Prop := 0 < r.fin.length ∧ r.tab.length = r.fin.length ∧ (∀ row ∈ r.tab, row.length = ls.length ∧ ∀ w ∈ waysOf row, 0 ≤ w.1 ∧ w.1 < r.fin.length) ∧ ∀ t ∈ allTexts r, isT ls t
structure Bnd (r : Parts) : Prop where
  t : ∀ t ∈ allTexts r, t.length ≤ 1000
  n : (allTexts r).length < 100000
  f : r.fin.length < 100000
  b : r.tab.length < 100000
  w : ∀ row ∈ r.tab, row.length < 100000
theorem mem_ways {row : List Way} {w : Int × Str} : w ∈ waysOf row ↔ some w ∈ row := by
  unfold waysOf
  rw [List.mem_filterMap]
  exact ⟨fun ⟨a, h, e⟩ => by
    have e' : a = some w := e
    rw [← e']; exact h, fun h => ⟨some w, h, rfl⟩⟩
theorem mem_fin {r : Parts} {s : Str} (h : some s ∈ r.fin) : s ∈ allTexts r := List.mem_append.mpr (.inl (List.mem_cons_of_mem _ (List.mem_filterMap.mpr ⟨some s, h, rfl⟩)))
theorem mem_lead {r : Parts} : r.lead ∈ allTexts r := List.mem_append.mpr (.inl List.mem_cons_self)
theorem mem_way {r : Parts} {row : List Way} {w : Int × Str} (hr : row ∈ r.tab) (h : some w ∈ row) : w.2 ∈ allTexts r :=
  List.mem_append.mpr (.inr (List.mem_flatMap.mpr ⟨row, hr, List.mem_map.mpr ⟨w, mem_ways.mpr h, rfl⟩⟩))
/-! what a rewriter writes -/
def cellR (ls : Str) (tab : List (List Way)) (s : Int) (c : Nat) : Way := (tab.getD s.toNat []).getD (ls.cps.toList.idxOf c) none
def rwStep (ls : Str) (tab : List (List Way)) (o : Option (Int × List Str)) (c : Nat) : Option (Int × List Str) := o.bind fun z => (cellR ls tab z.1 c).map fun w => (w.1, z.2 ++ [w.2])
def rwL (ls : Str) (tab : List (List Way)) (s : Int) (t : List Nat) : Option (Int × List Str) := t.foldl (rwStep ls tab) (some (s, []))
def rwF (ls : Str) (tab : List (List Way)) (s : Int) (t : List Nat) : Option (Int × Str) := (rwL ls tab s t).map fun z => (z.1, catS z.2)
def rwM (ls : Str) (r : Parts) (t : List Nat) : Option Str := (rwF ls r.tab 0 t).bind fun z => (r.fin.getD z.1.toNat none).map fun u => r.lead ++ z.2 ++ u
theorem rwL_take {ls : Str} {tab : List (List Way)} {s : Int} {t : List Nat} {i c : Nat} (h : t[i]? = some c) : rwL ls tab s (t.take (i + 1)) = rwStep ls tab (rwL ls tab s (t.take i)) c := by
  unfold rwL
  rw [List.take_succ, h, List.foldl_append]
  rfl
theorem rw_none {ls : Str} {tab : List (List Way)} : ∀ t : List Nat, t.foldl (rwStep ls tab) none = none
  | [] => rfl
  | c :: t => by
    rw [List.foldl_cons]
    exact rw_none t
theorem rwL_none {ls : Str} {tab : List (List Way)} {s : Int} {t : List Nat} {i : Nat} (h : rwL ls tab s (t.take i) = none) : rwL ls tab s t = none := by
  have e : rwL ls tab s t = (t.drop i).foldl (rwStep ls tab) (rwL ls tab s (t.take i)) := by
    unfold rwL
    rw [← List.foldl_append, List.take_append_drop]
  rw [e, h]
  exact rw_none _
theorem cell_in {ls : Str} {r : Parts} (g : goodR ls r) {s : Int} {c : Nat} (h0 : 0 ≤ s) (h1 : s < r.fin.length) (hc : c ∈ ls.cps.toList) :
    ∃ row, r.tab[s.toNat]? = some row ∧ row[ls.cps.toList.idxOf c]? = some (cellR ls r.tab s c) ∧ ∀ w, cellR ls r.tab s c = some w → (0 ≤ w.1 ∧ w.1 < r.fin.length) ∧ w.2 ∈ allTexts r := by
  obtain ⟨g0, g1, g2, g3⟩ := g
  have hs : s.toNat < r.tab.length := by omega
  have hr : r.tab[s.toNat]? = some r.tab[s.toNat] := List.getElem?_eq_getElem hs
  have hm : r.tab[s.toNat] ∈ r.tab := List.getElem_mem hs
  obtain ⟨l1, l2⟩ := g2 _ hm
  have hi : ls.cps.toList.idxOf c < (r.tab[s.toNat]).length := by
    have := List.idxOf_lt_length_iff.mpr hc
    have e : ls.cps.toList.length = ls.length := rfl
    omega
  have e : cellR ls r.tab s c = (r.tab[s.toNat])[ls.cps.toList.idxOf c] := by
    have e0 : r.tab.getD s.toNat [] = r.tab[s.toNat] := by
      rw [List.getD_eq_getElem?_getD, hr]
      rfl
    unfold cellR
    rw [e0, List.getD_eq_getElem?_getD, List.getElem?_eq_getElem hi]
    rfl
  refine ⟨_, hr, by rw [List.getElem?_eq_getElem hi, e], fun w hw => ?_⟩
  have hmw : some w ∈ r.tab[s.toNat] := by
    rw [← hw, e]
    exact List.getElem_mem hi
  exact ⟨l2 w (mem_ways.mpr hmw), mem_way hm hmw⟩
theorem rwL_in {ls : Str} {r : Parts} (g : goodR ls r) {s : Int} (h0 : 0 ≤ s) (h1 : s < r.fin.length) (t : List Nat) (ht : ∀ c ∈ t, c ∈ ls.cps.toList) : ∀ i ≤ t.length, ∀ z, rwL ls r.tab s (t.take i) = some z → (0 ≤ z.1 ∧ z.1 < r.fin.length) ∧ z.2.length = i ∧ ∀ w ∈ z.2, w ∈ allTexts r := by
  intro i
  induction i with
  | zero =>
    intro _ z hz
    obtain rfl := Option.some.inj hz
    exact ⟨⟨h0, h1⟩, rfl, fun w hw => nomatch hw⟩
  | succ i ih =>
    intro hi z hz
    have hx : t[i]? = some t[i] := List.getElem?_eq_getElem hi
    rw [rwL_take hx] at hz
    cases hy : rwL ls r.tab s (t.take i) with
    | none => rw [hy] at hz; cases hz
    | some y =>
      rw [hy] at hz
      obtain ⟨a, b, c⟩ := ih (Nat.le_of_lt hi) y hy
      obtain ⟨_, _, _, hw⟩ := cell_in g a.1 a.2 (ht _ (List.getElem_mem hi))
      unfold rwStep at hz
      simp only [Option.bind_some, Option.map_eq_some_iff] at hz
      obtain ⟨w, hw1, rfl⟩ := hz
      obtain ⟨p, q⟩ := hw w hw1
      refine ⟨p, by rw [List.length_append, b]; rfl, fun v hv => ?_⟩
      rcases List.mem_append.mp hv with hv | hv
      · exact c v hv
      · rw [List.mem_singleton.mp hv]; exact q
/-! ### the class -/
def rFields (ls lead : Str) (tf tt : Addr) : List (Str × V) := [("letters", .str ls), ("lead", .str lead), ("finals", .ref tf), ("table", .ref tt)]
def RwAt (K : PySem.W.Frag) (C : Addr) (H : Hp) (m : Addr) (ls : Str) (r : Parts) : Prop := ∃ dx tf tt, H m = some (.ins C dx (rFields ls r.lead tf tt)) ∧ Dp K H (.ref tf) (.tuple (r.fin.map encO)) ∧ Dp K H (.ref tt) (.tuple (r.tab.map encRow))
theorem RwAt.ex {C : Addr} {H H' : Hp} {m : Addr} {ls : Str} {r : Parts} (h : RwAt K C H m ls r) (e : Ex H H') : RwAt K C H' m ls r := by
  obtain ⟨dx, tf, tt, h1, h2, h3⟩ := h
  exact ⟨dx, tf, tt, e _ _ h1, h2.ex e, h3.ex e⟩
theorem fin_get {r : Parts} {i : Nat} {o : Option Str} (h : r.fin[i]? = some o) : (r.fin.map encO)[i]? = some (encO o) := by rw [List.getElem?_map, h]; rfl
theorem encO_none {H : Hp} {v : V} {o : Option Str} (h : Dp K H v (encO o)) : (v = .non ↔ o = none) ∧ ∀ s, o = some s → v = .str s := by
  cases o with
  | none =>
    have := Dp.non_iff h
    exact ⟨⟨fun _ => rfl, fun _ => this⟩, fun s z => by cases z⟩
  | some s =>
    have := Dp.str_iff h
    subst this
    exact ⟨⟨fun z => (by cases z), fun z => by cases z⟩, fun t z => by rw [Option.some.inj z]⟩
theorem fin_filter : ∀ fin : List (Option Str), ((fin.map encO).filter fun d => !isN d).map id = (fin.filterMap id).map PyData.str
  | [] => rfl
  | none :: fin => fin_filter fin
  | some s :: fin => by
    show PyData.str s :: ((fin.map encO).filter fun d => !isN d).map id = PyData.str s :: (fin.filterMap id).map PyData.str
    rw [fin_filter fin]
theorem row_filter : ∀ row : List Way, ((row.map encW).filter fun d => !isN d).map id = (waysOf row).map fun w => PyData.tuple [.int w.1, .str w.2]
  | [] => rfl
  | none :: row => row_filter row
  | some w :: row => by
    show PyData.tuple [.int w.1, .str w.2] :: ((row.map encW).filter fun d => !isN d).map id = PyData.tuple [.int w.1, .str w.2] :: (waysOf row).map fun w => PyData.tuple [.int w.1, .str w.2]
    rw [row_filter row]
section
variable (T : Txt K mg)
/-- a field of it -/
theorem rd_fR {C m dx : Addr} {fs : List (Str × V)} {f : Str} {v : V} {te : TE} {σ : L2.St} {H : Hp} {Q : VK} (he : ∀ N : VK, N (.ref m) H → te σ H N) (hm : H m = some (.ins C dx fs)) (cl : Cls K C) (na : NoAttr K C f) (hl : fs.lookup f = some v) (q : Q v H) : tFld K te f σ H Q :=
  he _ ⟨m, C, dx, fs, v, rfl, hm, cl, na, hl, q⟩
def spRCheck : Sp := fun vs H Q E => ∃ (m : Addr) (ls : Str) (r : Parts), vs = [.ref m] ∧ ls.length ≤ 1000 ∧ Bnd r ∧ RwAt K T.C_Rewriter H m ls r ∧ (goodR ls r → ∀ H', Ex H H' → Q .non H') ∧
  (¬ goodR ls r → ∀ d H', H d = none → Ex H H' → H' d = some (.xd [("what", .non)]) → E (.ref T.C_BadRewriter) (some d) H')
theorem ok_Rewriter_check : FnOk P w K mg base (L2.CX P w) 4 T.a_Rewriter_check T.d_Rewriter_check ["self"] (spRCheck T) := by
  refine T.f_Rewriter_check.okX sc_Rewriter_check (fun vs H Q E h => ?_) (fun cdv A outer s H vs Q E hr h => ?_)
  · obtain ⟨_, _, _, rfl, _⟩ := h; rfl
  · obtain ⟨m, ls, r, rfl, l1, bd, ⟨dx, tf, tt, hm, hF, hT⟩, qy, qn⟩ := h
    have lz : ls.length ≤ sizeLine := Nat.le_trans l1 (by decide)
    have no : ∀ Hc, Ex H Hc → ¬ goodR ls r → ∀ d, Hc d = none → E (.ref T.C_BadRewriter) (some d) (upd Hc d (.xd [("what", .non)])) := fun Hc e g d hd => qn g d _ (Evl.fresh_back e hd) (ex_upd e hd) upd_same
    refine ⟨_, (pss_cons (ps_set (i := 1) sc_Rewriter_check.nd rfl (by first | exact Or.inl rfl | exact Or.inr rfl) (pe_callB (kLen K) (by rfl) T.nb_len (by decide +kernel) (pa_cons (kFld K rfl (pe_fld (pv 0) rfl)) pa_nil)))
  (pss_cons (ps_if (PW.pt (pw_or (pt_cmpR (kEq K rfl hr.units) (pv 1) pe_int (by first | rfl | exact nomark _)) (pw_or1 (pt_cmpR (kNe K rfl hr.units) (pe_callB (kLen K) (by rfl) T.nb_len (by decide +kernel) (pa_cons (kFld K rfl (pe_fld (pv 0) rfl)) pa_nil)) (pv 1) (by first | rfl | exact nomark _)))))
    (pss_one (ps_raiseW rfl T.x_BadRewriter (ok_init T) T.tI T.bI (hr.mono (by decide)) T.g_BadRewriter (takes_of rfl rfl rfl rfl) (pa_cons pe_non pa_nil) (MonoA.one mono_c)))
    pss_nil)
  (pss_cons (ps_set (i := 2) sc_Rewriter_check.nd rfl (by first | exact Or.inl rfl | exact Or.inr rfl) (pe_op (kAdd K) (pe_lst (pa_cons (kFld K rfl (pe_fld (pv 0) rfl)) pa_nil)) (pe_lc (own := [("final", 3)]) (g := gName 3)  (by rfl) sc_Rewriter_check.nd (kAny K rfl (kFld K rfl (pe_fld (pv 0) rfl))) (blkOk_by (own := [("final", 3)]) (N := ["self", "states", "written", "final", "row", "after", "text", "way"]) (sc := defScope s_Rewriter_check) (by decide +kernel)) (fun _ _ _ _ _ => (pg_name (i := 3) sc_Rewriter_check.nd rfl (by first | exact Or.inl rfl | exact Or.inr rfl))) (fun _ _ _ _ _ => (pts_one (pt_cmpR op_notN (pv 3) pe_non (by first | rfl | exact nomark _)))) (fun _ _ _ _ _ => (pv 3)))))
  (pss_cons (ps_for (passes_of rfl) rfl (kAny K rfl (kFld K rfl (pe_fld (pv 0) rfl))) (pg_name (i := 4) sc_Rewriter_check.nd rfl (by first | exact Or.inl rfl | exact Or.inr rfl))
    (pss_cons (ps_if (pt_cmpR (kNe K rfl hr.units) (pe_callB (kLen K) (by rfl) T.nb_len (by decide +kernel) (pa_cons (pv 4) pa_nil)) (pe_callB (kLen K) (by rfl) T.nb_len (by decide +kernel) (pa_cons (kFld K rfl (pe_fld (pv 0) rfl)) pa_nil)) (by first | rfl | exact nomark _))
    (pss_one (ps_raiseW rfl T.x_BadRewriter (ok_init T) T.tI T.bI (hr.mono (by decide)) T.g_BadRewriter (takes_of rfl rfl rfl rfl) (pa_cons pe_non pa_nil) (MonoA.one mono_c)))
    pss_nil)
  (pss_one (ps_for (passes_of rfl) rfl (kAny K rfl (pe_lc (own := [("way", 7)]) (g := gName 7)  (by rfl) sc_Rewriter_check.nd (kAny K rfl (pv 4)) (blkOk_by (own := [("way", 7)]) (N := ["self", "states", "written", "final", "row", "after", "text", "way"]) (sc := defScope s_Rewriter_check) (by decide +kernel)) (fun _ _ _ _ _ => (pg_name (i := 7) sc_Rewriter_check.nd rfl (by first | exact Or.inl rfl | exact Or.inr rfl))) (fun _ _ _ _ _ => (pts_one (pt_cmpR op_notN (pv 7) pe_non (by first | rfl | exact nomark _)))) (fun _ _ _ _ _ => (pv 7)))) (kGt K rfl (pg_tup (n := 2) (by rfl) (pgs_cons (pg_name (i := 5) sc_Rewriter_check.nd rfl (by first | exact Or.inl rfl | exact Or.inr rfl)) (pgs_cons (pg_name (i := 6) sc_Rewriter_check.nd rfl (by first | exact Or.inl rfl | exact Or.inr rfl)) pgs_nil))))
    (pss_cons (ps_if (pt_not (pt_chain op_leP op_ltP pe_int (pv 5) (pv 1)))
    (pss_one (ps_raiseW rfl T.x_BadRewriter (ok_init T) T.tI T.bI (hr.mono (by decide)) T.g_BadRewriter (takes_of rfl rfl rfl rfl) (pa_cons pe_non pa_nil) (MonoA.one mono_c)))
    pss_nil)
  (pss_one (ps_expr (kBm K rfl (pe_bm PySem.F.plainAttrs_list PySem.F.slot_list_append PySem.F.type_list_append mt_append (pv 2) (pa_cons (pv 6) pa_nil))))))))))
  (pss_one (ps_if (pt_not (pt_val (pe_callB (kAll K) (by rfl) T.nb_all (by decide +kernel) (pa_cons (pe_lc (own := [("text", 6)]) (g := gName 6) (tt := tYes) (by rfl) sc_Rewriter_check.nd (kAny K rfl (pv 2)) (blkOk_by (own := [("text", 6)]) (N := ["self", "states", "written", "final", "row", "after", "text", "way"]) (sc := defScope s_Rewriter_check) (by decide +kernel)) (fun _ _ _ _ _ => (pg_name (i := 6) sc_Rewriter_check.nd rfl (by first | exact Or.inl rfl | exact Or.inr rfl))) (fun _ _ _ _ _ => pts_nil) (fun _ _ _ _ _ => (pe_callE (ok_is_text T) (hr.mono (by decide)) T.o_is_text (pa_cons (kFld K rfl (pe_fld (pv 0) rfl)) (pa_cons (pv 6) pa_nil))))) pa_nil))))
    (pss_one (ps_raiseW rfl T.x_BadRewriter (ok_init T) T.tI T.bI (hr.mono (by decide)) T.g_BadRewriter (takes_of rfl rfl rfl rfl) (pa_cons pe_non pa_nil) (MonoA.one mono_c)))
    pss_nil)))))), ?_⟩
    walk_at "rc"
    refine ⟨m, _, dx, _, _, rfl, hm, T.cl_Rewriter, T.na_Rewriter_finals, rfl, ?_⟩
    walk_at "rc"
    refine rd_lenDT (Evl.Ex.refl H) hF ?_
    walk_at "rc"
    walk_at "rs"
    walk_at "rc"
    refine rd_iteD (fun h1 => ?_) (fun h1 => ?_)
    · walk_at "rc"
      exact no H (Evl.Ex.refl H) fun g => by have := g.1; rw [List.length_map] at h1; omega
    walk_at "rc"
    refine ⟨m, _, dx, _, _, rfl, hm, T.cl_Rewriter, T.na_Rewriter_table, rfl, ?_⟩
    walk_at "rc"
    refine rd_lenDT (Evl.Ex.refl H) hT ?_
    walk_at "rc"
    refine rd_iteN (fun h2 => ?_) (fun h2 => ?_)
    · walk_at "rc"
      exact no H (Evl.Ex.refl H) fun g => h2 (by have := g.2.1; rw [List.length_map, List.length_map, this])
    rw [List.length_map, List.length_map] at h2
    rw [List.length_map] at h1
    walk_at "rc"
    refine ⟨m, _, dx, _, _, rfl, hm, T.cl_Rewriter, T.na_Rewriter_lead, rfl, ?_⟩
    walk_at "rc"
    refine ⟨by show 1 ≤ sizeLine; decide, fun p0 hp0 => ?_⟩
    have e0 : Ex H (upd H p0 (.lst [.str r.lead])) := Evl.Ex.new hp0
    have hp1 : upd H p0 (.lst [.str r.lead]) p0 = some (.lst [.str r.lead]) := upd_same
    generalize upd H p0 (.lst [.str r.lead]) = H1 at e0 hp1
    walk_at "rc"
    refine rd_anyT' ?_
    walk_at "rc"
    refine ⟨m, _, dx, _, _, rfl, e0 _ _ hm, T.cl_Rewriter, T.na_Rewriter_finals, rfl, ?_⟩
    refine rd_itDT e0 hF fun J wJ => ?_
    refine lc_FD (K := K) (S := []) tr_ex (fun b hb => nomatch hb) wJ (ex_nil e0) (by rw [List.length_map]; exact bd.f) (fun v => rfl) (fun d => !isN d) id (fun L d v Hc hm' hd _ _ t1 _ _ N hN => ?_) (fun L d v Hc hm' hd _ hL _ t1 _ up N hN => ?_) fun L us H2 e1 hL _ hus hds => ?_
    · walk_at "rc"
      rw [isN_dp hd]
      exact hN Hc (Evl.Ex.refl Hc)
    · walk_at "rc"
      exact hN v Hc (Evl.Ex.refl Hc) hd
    rw [fin_filter] at hds
    have eus := dp_strs hds
    subst eus
    have ln := bd.n
    have lall : (allTexts r).length = 1 + (r.fin.filterMap id).length + (r.tab.flatMap textsOf).length := by
      unfold allTexts
      rw [List.length_append, List.length_cons]
      omega
    refine rd_cat (e1 _ _ hp1) hus (by rw [List.length_map, List.length_singleton]; exact Nat.le_trans (show 1 + (r.fin.filterMap id).length ≤ 100000 by omega) (by decide)) fun Lw hLw => ?_
    have e2 := ex_upd (o := .lst ([.str r.lead] ++ (r.fin.filterMap id).map V.str)) (e0.trans e1) hLw
    have nLw : H Lw = none := Evl.fresh_back (e0.trans e1) hLw
    have hLw2 : upd H2 Lw (.lst ([.str r.lead] ++ (r.fin.filterMap id).map V.str)) Lw = some (.lst ((r.lead :: r.fin.filterMap id).map V.str)) := upd_same
    generalize upd H2 Lw (.lst ([.str r.lead] ++ (r.fin.filterMap id).map V.str)) = H3 at e2 hLw2
    walk_at "rc"
    walk_at "rs"
    walk_at "rc"
    refine rd_anyT' ?_
    walk_at "rc"
    refine ⟨m, _, dx, _, _, rfl, e2 _ _ hm, T.cl_Rewriter, T.na_Rewriter_table, rfl, ?_⟩
    refine rd_itDT e2 hT fun J2 wJ2 => ?_
    refine fo_D wJ2 (fun i σ H' => (∃ k3 k4 k5 k6 k7 : Option V, σ = [some (.ref m), some (.int (r.fin.length : Nat)), some (.ref Lw), k3, k4, k5, k6, k7]) ∧ Ex H H' ∧ H' Lw = some (.lst ((r.lead :: r.fin.filterMap id ++ (r.tab.take i).flatMap textsOf).map V.str)) ∧ ∀ row ∈ r.tab.take i, row.length = ls.length ∧ ∀ w ∈ waysOf row, 0 ≤ w.1 ∧ w.1 < r.fin.length)
      ⟨⟨_, _, _, _, _, by rw [List.length_map]; rfl⟩, e2, by rw [List.take_zero]; simpa using hLw2, fun row hrow => by rw [List.take_zero] at hrow; cases hrow⟩ (fun i σ H' _ p => p.2.1) ?_ ?_
    · rintro i d v σ H4 hi hd ⟨⟨k3, k4, k5, k6, k7, rfl⟩, e4, hw4, hrows⟩
      rw [List.getElem?_map] at hi
      cases hri : r.tab[i]? with
      | none => rw [hri] at hi; cases hi
      | some row =>
        rw [hri] at hi
        obtain rfl : encRow row = d := Option.some.inj hi
        have hrm : row ∈ r.tab := List.mem_of_getElem? hri
        have rowl : ∀ (g : goodR ls r), row.length = ls.length := fun g => (g.2.2.1 row hrm).1
        walk_at "rc"
        walk_at "rs"
        walk_at "rc"
        refine rd_lenDT e4 hd ?_
        walk_at "rc"
        refine ⟨m, _, dx, _, _, rfl, e4 _ _ hm, T.cl_Rewriter, T.na_Rewriter_letters, rfl, ?_⟩
        walk_at "rc"
        refine rd_lenS lz ?_
        walk_at "rc"
        refine rd_iteN (fun h3 => ?_) (fun h3 => ?_)
        · walk_at "rc"
          exact no _ e4 fun g => h3 (by rw [List.length_map, rowl g])
        rw [List.length_map] at h3
        walk_at "rc"
        refine rd_anyL' ?_
        walk_at "rc"
        refine rd_anyT' ?_
        walk_at "rc"
        refine rd_itDT e4 hd fun J3 wJ3 => ?_
        have u4 := ex_up1 e4 nLw
        refine lc_FD (K := K) (S := [Lw]) tr_ex (st1 hw4) wJ3 u4 (by rw [List.length_map]; exact bd.w row hrm) (fun v => rfl) (fun d => !isN d) id (fun L d v Hc hm' hd _ _ t1 _ _ N hN => ?_) (fun L d v Hc hm' hd _ hL _ t1 _ up N hN => ?_) fun L2 us H5 e5 hL2 nL2 hus2 hds2 => ?_
        · walk_at "rc"
          rw [isN_dp hd]
          exact hN Hc (Evl.Ex.refl Hc)
        · walk_at "rc"
          exact hN v Hc (Evl.Ex.refl Hc) hd
        rw [row_filter] at hds2
        have dL2 : Dp K (hid [Lw] H5) (.ref L2) (.list ((waysOf row).map fun w => PyData.tuple [.int w.1, .str w.2])) := Dp.frz hus2 nL2 hds2
        refine rd_itDL hid_ex dL2 fun J4 wJ4 => ?_
        have lrow : ∀ k, ((r.lead :: r.fin.filterMap id ++ ((r.tab.take i).flatMap textsOf ++ ((waysOf row).take k).map (·.2)))).length ≤ (allTexts r).length := fun k => by
          have e : (r.tab.flatMap textsOf) = (r.tab.take i).flatMap textsOf ++ (textsOf row ++ (r.tab.drop (i + 1)).flatMap textsOf) := by
            rw [← List.flatMap_cons, ← List.flatMap_append]
            congr 1
            obtain ⟨hlt, hget⟩ := List.getElem?_eq_some_iff.mp hri
            rw [← hget, List.getElem_cons_drop, List.take_append_drop]
          unfold allTexts
          rw [e]
          simp only [List.length_append, List.length_cons, textsOf, List.length_map, List.length_take]
          omega
        have u5 := u4.trans (Ex.hid e5)
        refine fo_D wJ4 (fun k σ H' => (∃ k4 k5 k6 k7 : Option V, σ = [some (.ref m), some (.int (r.fin.length : Nat)), some (.ref Lw), k3, k4, k5, k6, k7]) ∧ Ex (hid [Lw] H5) (hid [Lw] H') ∧ H' Lw = some (.lst ((r.lead :: r.fin.filterMap id ++ ((r.tab.take i).flatMap textsOf ++ ((waysOf row).take k).map (·.2))).map V.str)) ∧ ∀ w ∈ (waysOf row).take k, 0 ≤ w.1 ∧ w.1 < r.fin.length)
          ⟨⟨_, _, _, _, rfl⟩, Evl.Ex.refl _, by rw [List.take_zero, List.map_nil, List.append_nil]; exact e5 _ _ hw4, fun w hw => by rw [List.take_zero] at hw; cases hw⟩ (fun k σ H' _ p => p.2.1.trans hid_ex) ?_ ?_
        · rintro k d v σ H6 hk hd6 ⟨⟨k4, k5, k6, k7, rfl⟩, e6, hw6, hws⟩
          rw [List.getElem?_map] at hk
          cases hwk : (waysOf row)[k]? with
          | none => rw [hwk] at hk; cases hk
          | some w =>
            rw [hwk] at hk
            obtain rfl := Option.some.inj hk
            have hwm : w ∈ waysOf row := List.mem_of_getElem? hwk
            refine rd_gtD (e6.trans hid_ex) hd6 rfl fun xs hxs => ?_
            obtain ⟨x, y, rfl, hx, hy⟩ := dp2 hxs
            rw [Dp.int_iff hx, Dp.str_iff hy]
            have u6 := (u5.trans e6).trans hid_ex
            walk_at "rc"
            walk_at "rs"
            walk_at "rc"
            have bad : ¬ (0 ≤ w.1 ∧ w.1 < (r.fin.length : Int)) → tRaised T.C_BadRewriter (fun cls d x H => E cls d H) (tCons (tC V.non) tNil) = tRaised T.C_BadRewriter (fun cls d x H => E cls d H) (tCons (tC V.non) tNil) := fun _ => rfl
            refine rd_iteD (fun h4 => ?_) (fun h4 => ?_)
            · walk_at "rc"
              refine rd_iteN (fun h5 => ?_) (fun h5 => ?_)
              · walk_at "rc"
                exact no _ u6 fun g => h5 (((g.2.2.1 row hrm).2 w hwm).2)
              walk_at "rc"
              refine ⟨.inl ⟨rfl, _, SqL.of hw6⟩, ?_⟩
              walk_at "rc"
              have ll := lrow k
              refine ⟨Lw, _, _, rfl, rfl, hw6, by rw [List.length_map]; exact Nat.lt_of_le_of_lt ll (Nat.lt_trans ln (by decide)), ⟨_, _, _, _, rfl⟩, e6.trans (Kp.put List.mem_cons_self).ex, ?_, fun w' hw' => ?_⟩
              · rw [upd_same, List.take_succ, hwk]
                simp only [List.map_append, List.append_assoc, Option.toList, List.map_cons, List.map_nil, List.cons_append]
              · rw [List.take_succ, hwk] at hw'
                rcases List.mem_append.mp hw' with z | z
                · exact hws w' z
                · have e : w' = w := by simpa using z
                  rw [e]
                  exact ⟨h4, h5⟩
            · walk_at "rc"
              exact no _ u6 fun g => h4 (((g.2.2.1 row hrm).2 w hwm).1)
        · rintro σ H6 ⟨⟨k4, k5, k6, k7, rfl⟩, e6, hw6, hws⟩
          rw [List.length_map, List.take_length] at hw6 hws
          have u6 := (u5.trans e6).trans hid_ex
          refine ⟨⟨_, _, _, _, _, rfl⟩, u6, ?_, fun row' hrow' => ?_⟩
          · rw [hw6, List.take_succ, hri]
            simp [textsOf]
          · rw [List.take_succ, hri] at hrow'
            rcases List.mem_append.mp hrow' with z | z
            · exact hrows row' z
            · have e : row' = row := by simpa using z
              rw [e]
              exact ⟨by omega, hws⟩
    · rintro σ H4 ⟨⟨k3, k4, k5, k6, k7, rfl⟩, e4, hw4, hrows⟩
      rw [List.length_map, List.take_length] at hw4 hrows
      have dLw : Dp K H4 (.ref Lw) (.list ((allTexts r).map PyData.str)) := .lst (SqL.of hw4) (dps_str _)
      walk_at "rc"
      refine rd_anyL' ?_
      walk_at "rc"
      refine rd_itDL (Evl.Ex.refl H4) dLw fun J5 wJ5 => ?_
      refine lc_MD (K := K) (S := []) tr_ex (fun b hb => nomatch hb) wJ5 (ex_nil (Evl.Ex.refl H4)) (by rw [List.length_map]; exact ln) (fun v => rfl) (fun d => match d with | .str t => .bool (decide (isT ls t)) | _ => .none) (fun L d v Hc hm' hd hL _ t1 _ up N hN => ?_) fun L us H5 e5 hL _ hus hds => ?_
      · obtain ⟨t, htm, rfl⟩ := List.mem_map.mp hm'
        rw [Dp.str_iff hd]
        walk_at "rc"
        refine ⟨m, _, dx, _, _, rfl, (e4.trans t1) _ _ hm, T.cl_Rewriter, T.na_Rewriter_letters, rfl, ?_⟩
        walk_at "rc"
        refine ⟨ls, t, rfl, Nat.lt_of_le_of_lt (bd.t t htm) (by decide), fun H' e => hN _ H' e (.bl _)⟩
      · have e8 : ((allTexts r).map PyData.str).map (fun d => match d with | .str t => PyData.bool (decide (isT ls t)) | _ => .none) = ((allTexts r).map fun t => decide (isT ls t)).map PyData.bool := by
          rw [List.map_map, List.map_map]
          rfl
        rw [e8] at hds
        obtain rfl := dp_bls hds
        walk_at "rc"
        refine ⟨L, _, rfl, SqL.of hus, ?_⟩
        have e9 : (((allTexts r).map fun t => decide (isT ls t)).all id) = decide (∀ t ∈ allTexts r, isT ls t) := by
          rw [Bool.eq_iff_iff, List.all_eq_true, decide_eq_true_iff]
          exact ⟨fun h t ht => of_decide_eq_true (h _ (List.mem_map.mpr ⟨t, ht, rfl⟩)), fun h b hb => by
            obtain ⟨t, ht, rfl⟩ := List.mem_map.mp hb
            exact decide_eq_true (h t ht)⟩
        rw [e9]
        walk_at "rc"
        refine rd_iteN (fun h6 => ?_) (fun h6 => ?_)
        · walk_at "rc"
          exact no _ (e4.trans e5) fun g => h6 g.2.2.2
        · walk_at "rc"
          exact qy ⟨by omega, by omega, hrows, h6⟩ _ (e4.trans e5)
end
section
variable (T : Txt K mg)
def RowsD (ds : List PyData) (tab : List (List Way)) : Prop := ds.length = tab.length ∧ ∀ (i : Nat) (d : PyData) (row : List Way), ds[i]? = some d → tab[i]? = some row → d = .list (row.map encW) ∨ d = .tuple (row.map encW)
def asTup : PyData → PyData
  | .list ws => .tuple ws
  | d => d
theorem RowsD.tup {ds : List PyData} {tab : List (List Way)} (h : RowsD ds tab) : ds.map asTup = tab.map encRow := by
  refine List.ext_getElem? fun i => ?_
  rw [List.getElem?_map, List.getElem?_map]
  by_cases hi : i < ds.length
  · have ht : i < tab.length := by rw [← h.1]; exact hi
    rw [List.getElem?_eq_getElem hi, List.getElem?_eq_getElem ht]
    rcases h.2 i _ _ (List.getElem?_eq_getElem hi) (List.getElem?_eq_getElem ht) with z | z <;> rw [z] <;> rfl
  · have ht : ¬ i < tab.length := by rw [← h.1]; exact hi
    rw [List.getElem?_eq_none (by omega), List.getElem?_eq_none (by omega)]
    rfl
theorem RowsD.mem {ds : List PyData} {tab : List (List Way)} (h : RowsD ds tab) {d : PyData} (hd : d ∈ ds) : ∃ row ∈ tab, d = .list (row.map encW) ∨ d = .tuple (row.map encW) := by
  obtain ⟨i, hi⟩ := List.getElem?_of_mem hd
  have hl := (List.getElem?_eq_some_iff.mp hi).1
  have ht : i < tab.length := by rw [← h.1]; exact hl
  exact ⟨_, List.getElem_mem ht, h.2 i d _ hi (List.getElem?_eq_getElem ht)⟩
def spRInit : Sp := fun vs H Q E => ∃ (m dx : Addr) (xf xt : V) (ls : Str) (r : Parts) (ds : List PyData), vs = [.ref m, .str ls, .str r.lead, xf, xt] ∧ ls.length ≤ 1000 ∧ Bnd r ∧ H m = some (.ins T.C_Rewriter dx []) ∧
  SqD K H xf (r.fin.map encO) ∧ SqD K H xt ds ∧ RowsD ds r.tab ∧
  (goodR ls r → ∀ H', Kp [m] H H' → RwAt K T.C_Rewriter H' m ls r → Q .non H') ∧ (¬ goodR ls r → ∀ d H', Kp [m] H H' → H d = none → H' d = some (.xd [("what", .non)]) → E (.ref T.C_BadRewriter) (some d) H')
theorem ok_Rewriter_init : FnOk P w K mg base (L2.CX P w) 5 T.a_Rewriter_init T.d_Rewriter_init ["self", "letters", "lead", "finals", "table"] (spRInit T) := by
  refine T.f_Rewriter_init.okX sc_Rewriter_init (fun vs H Q E h => ?_) (fun cdv A outer s H vs Q E hr h => ?_)
  · obtain ⟨_, _, _, _, _, _, _, rfl, _⟩ := h; rfl
  · obtain ⟨m, dx, xf, xt, ls, r, ds, rfl, l1, bd, hm, hF, hT, hR, qy, qn⟩ := h
    have hI : ∀ b ∈ [m], ∃ C dx fs, H b = some (.ins C dx fs) := fun b hb => by
      cases List.mem_singleton.mp hb
      exact ⟨_, _, _, hm⟩
    have hF0 : SqD K (hid [m] H) xf (r.fin.map encO) := hF.elim (fun z => .inl (Dp.hidI hI _ z)) fun z => .inr (Dp.hidI hI _ z)
    have hT0 : SqD K (hid [m] H) xt ds := hT.elim (fun z => .inl (Dp.hidI hI _ z)) fun z => .inr (Dp.hidI hI _ z)
    have pm : ∀ {H' : Hp} {o : HO}, Kp [m] H H' → Kp [m] H (upd H' m o) := fun k => k.trans (Kp.put List.mem_cons_self)
    refine ⟨_, (pss_cons (kSf K rfl (ps_fld (pv 0) (pv 1) rfl))
  (pss_cons (kSf K rfl (ps_fld (pv 0) (pv 2) rfl))
  (pss_cons (kSf K rfl (ps_fld (pv 0) (pe_callTy (kTupOf K) (by rfl) T.nb_tuple (by decide +kernel) (pa_cons (pv 3) pa_nil)) rfl))
  (pss_cons (kSf K rfl (ps_fld (pv 0) (pe_callTy (kTupOf K) (by rfl) T.nb_tuple (by decide +kernel) (pa_cons (pe_lc (own := [("row", 6)]) (g := gName 6) (tt := tYes) (by rfl) sc_Rewriter_init.nd (kAny K rfl (pv 4)) (blkOk_by (own := [("row", 6)]) (N := ["self", "letters", "lead", "finals", "table", "way", "row"]) (sc := defScope s_Rewriter_init) (by decide +kernel)) (fun _ _ _ _ _ => (pg_name (i := 6) sc_Rewriter_init.nd rfl (by first | exact Or.inl rfl | exact Or.inr rfl))) (fun _ _ _ _ _ => pts_nil) (fun _ _ _ _ _ => (pe_callTy (kTupOf K) (by rfl) T.nb_tuple (by decide +kernel) (pa_cons (pe_lc (own := [("way", 5)]) (g := gName 5) (tt := tYes) (by rfl) sc_Rewriter_init.nd (kAny K rfl (pv 6)) (by exact blkOk_in (N := ["self", "letters", "lead", "finals", "table", "way", "row"]) rfl (by decide +kernel)) (fun _ _ _ _ _ => (pg_name (i := 5) sc_Rewriter_init.nd rfl (by first | exact Or.inl rfl | exact Or.inr rfl))) (fun _ _ _ _ _ => pts_nil) (fun _ _ _ _ _ => (pe_ifExp (pt_cmpR op_isN (pv 5) pe_non (by first | rfl | exact nomark _)) pe_non (pe_callTy (kTupOf K) (by rfl) T.nb_tuple (by decide +kernel) (pa_cons (pv 5) pa_nil))))) pa_nil)))) pa_nil)) rfl))
  (pss_one (ps_expr (pe_methR0 T.m_Rewriter_check T.cl_Rewriter (pv 0) (ok_Rewriter_check T) (hr.mono (by decide)) T.b_Rewriter_check (takes_of rfl rfl rfl rfl)))))))), ?_⟩
    walk_at "rs"
    walk_at "rc"
    refine ⟨m, T.C_Rewriter, dx, [], rfl, hm, T.cl_Rewriter, T.na_Rewriter_letters, by show 0 < 1000; decide, ?_⟩
    have k1 := pm (o := .ins T.C_Rewriter dx (putF "letters" (.str ls) [])) (Kp.refl (S := [m]) (H := H))
    generalize hH1 : upd H m (.ins T.C_Rewriter dx (putF "letters" (.str ls) [])) = H1 at k1
    have m1 : H1 m = some (.ins T.C_Rewriter dx [("letters", .str ls)]) := by rw [← hH1]; exact upd_same
    walk_at "rs"
    walk_at "rc"
    refine ⟨m, T.C_Rewriter, dx, _, rfl, m1, T.cl_Rewriter, T.na_Rewriter_lead, by show 1 < 1000; decide, ?_⟩
    have k2 := pm (o := .ins T.C_Rewriter dx (putF "lead" (.str r.lead) [("letters", .str ls)])) k1
    generalize hH2 : upd H1 m (.ins T.C_Rewriter dx (putF "lead" (.str r.lead) [("letters", .str ls)])) = H2 at k2
    have m2 : H2 m = some (.ins T.C_Rewriter dx [("letters", .str ls), ("lead", .str r.lead)]) := by rw [← hH2]; exact upd_same
    walk_at "rs"
    walk_at "rc"
    refine rd_tupSq (S := [m]) (st1 m2) k2.ex hF0 fun tf H3 e3 htf => ?_
    have k3 := k2.trans (Kp.of_ex (S := [m]) e3)
    have m3 := e3 _ _ m2
    walk_at "rc"
    refine ⟨m, T.C_Rewriter, dx, _, rfl, m3, T.cl_Rewriter, T.na_Rewriter_finals, by show 2 < 1000; decide, ?_⟩
    have k4 := pm (o := .ins T.C_Rewriter dx (putF "finals" (.ref tf) [("letters", .str ls), ("lead", .str r.lead)])) k3
    have htf4 := htf.ex (Kp.put (S := [m]) (H := H3) (o := .ins T.C_Rewriter dx (putF "finals" (.ref tf) [("letters", .str ls), ("lead", .str r.lead)])) List.mem_cons_self).ex
    generalize hH4 : upd H3 m (.ins T.C_Rewriter dx (putF "finals" (.ref tf) [("letters", .str ls), ("lead", .str r.lead)])) = H4 at k4 htf4
    have m4 : H4 m = some (.ins T.C_Rewriter dx [("letters", .str ls), ("lead", .str r.lead), ("finals", .ref tf)]) := by rw [← hH4]; exact upd_same
    walk_at "rs"
    walk_at "rc"
    refine rd_anySq (fun Q q => ⟨_, rfl, q⟩) (k4.ex.trans hid_ex) hT0 fun J wJ => ?_
    refine lc_MD (K := K) (S := [m]) tr_ex (st1 m4) wJ k4.ex (by rw [hR.1]; exact bd.b) (fun v => rfl) asTup (fun L d v Hc hmd hd hL nL t1 hs2 up N hN => ?_) fun L us H5 e5 hL nL hus hds => ?_
    · obtain ⟨row, hrow, hrd⟩ := hR.mem hmd
      have hsq : SqD K (hid (L :: [m]) Hc) v (row.map encW) := by
        rcases hrd with z | z <;> rw [z] at hd
        · exact .inl hd
        · exact .inr hd
      have hat : asTup d = .tuple (row.map encW) := by rcases hrd with z | z <;> rw [z] <;> rfl
      rw [hat] at hN
      walk_at "rc"
      refine rd_anySq (fun Q q => ⟨_, rfl, q⟩) hid_ex hsq fun J2 wJ2 => ?_
      refine lc_MD (K := K) (S := L :: [m]) tr_ex hs2 wJ2 (Evl.Ex.refl _) (by rw [List.length_map]; exact bd.w row hrow) (fun v => rfl) id (fun L2 d2 v2 Hc2 hmd2 hd2 hL2 nL2 t2 hs3 up2 N2 hN2 => ?_) fun L2 us2 H6 e6 hL2 nL2 hus2 hds2 => ?_
      · refine rd_ife ?_
        walk_at "rc"
        obtain ⟨wy, _, rfl⟩ := List.mem_map.mp hmd2
        cases wy with
        | none =>
          have e := Dp.non_iff hd2
          subst e
          refine rd_itet (by decide) ?_
          exact hN2 _ Hc2 (Evl.Ex.refl Hc2) hd2
        | some wy =>
          obtain ⟨a2, vs2, rfl, g1, g2⟩ := Dp.tupv hd2
          refine rd_itef (decide_eq_false fun z => nomatch z) ?_
          walk_at "rc"
          exact rd_tupT (Evl.ex_t hid_ex g1) (hN2 _ Hc2 (Evl.Ex.refl Hc2) hd2)
      · rw [List.map_id] at hds2
        walk_at "rc"
        refine rd_tupL (SqL.of hus2) fun l hl => ?_
        refine hN _ _ (ex_upd e6 hl) ?_
        exact Dp.newT hl (notin_of (sts_ex hs2 e6) hl) (hds2.ex hid_tail)
    rw [hR.tup] at hds
    have dL := Dp.frz hus nL hds
    have k5 := k4.trans (Kp.of_ex (S := [m]) e5)
    have m5 := e5 _ _ m4
    walk_at "rc"
    refine rd_tupSq (S := [m]) (st1 m5) (Evl.Ex.refl _) (.inl dL) fun tt H6 e6 htt => ?_
    have k6 := k5.trans (Kp.of_ex (S := [m]) e6)
    have m6 := e6 _ _ m5
    have htf6 := htf4.ex (Ex.hid (S := [m]) (e5.trans e6))
    walk_at "rc"
    refine ⟨m, T.C_Rewriter, dx, _, rfl, m6, T.cl_Rewriter, T.na_Rewriter_table, by show 3 < 1000; decide, ?_⟩
    have k7 := pm (o := .ins T.C_Rewriter dx (putF "table" (.ref tt) [("letters", .str ls), ("lead", .str r.lead), ("finals", .ref tf)])) k6
    have u7 := (Kp.put (S := [m]) (H := H6) (o := .ins T.C_Rewriter dx (putF "table" (.ref tt) [("letters", .str ls), ("lead", .str r.lead), ("finals", .ref tf)])) List.mem_cons_self).ex
    generalize hH7 : upd H6 m (.ins T.C_Rewriter dx (putF "table" (.ref tt) [("letters", .str ls), ("lead", .str r.lead), ("finals", .ref tf)])) = H7 at k7 u7
    have m7 : H7 m = some (.ins T.C_Rewriter dx (rFields ls r.lead tf tt)) := by rw [← hH7]; exact upd_same
    have ra : RwAt K T.C_Rewriter H7 m ls r := ⟨dx, tf, tt, m7, (htf6.ex u7).ex hid_ex, (htt.ex u7).ex hid_ex⟩
    walk_at "rc"
    refine ⟨m, dx, _, rfl, m7, rfl, ?_⟩
    walk_at "rc"
    refine ⟨m, ls, r, rfl, l1, bd, ra, fun g H8 e8 => ?_, fun g d H8 hd e8 h8 => ?_⟩
    · exact qy g H8 (k7.trans (Kp.of_ex e8)) (ra.ex e8)
    · refine qn g d H8 (k7.trans (Kp.of_ex e8)) ?_ h8
      cases q0 : H d with
      | none => rfl
      | some o =>
        by_cases hdm : d = m
        · rw [hdm, m7] at hd; cases hd
        · rw [k7 d o (fun z => hdm (List.mem_singleton.mp z)) q0] at hd; cases hd
end
/-! ### the law's own helpers -/
def rowL (row : List Way) : PyData := .list (row.map encW)
/-- parts as the law holds them -/
def partsL (r : Parts) : PyData := .tuple [.str r.lead, .list (r.fin.map encO), .list (r.tab.map rowL)]
structure Sm (r : Parts) : Prop where
  t : ∀ t ∈ allTexts r, t.length ≤ 10
  f : r.fin.length ≤ 20
  b : r.tab.length ≤ 20
  w : ∀ row ∈ r.tab, row.length ≤ 20
theorem flat_len {α β : Type} {f : α → List β} {B : Nat} : ∀ l : List α, (∀ x ∈ l, (f x).length ≤ B) → (l.flatMap f).length ≤ l.length * B
  | [], _ => Nat.zero_le _
  | x :: l, h => by
    have a := h x List.mem_cons_self
    have b := flat_len l fun y hy => h y (List.mem_cons_of_mem _ hy)
    rw [List.flatMap_cons, List.length_append, List.length_cons, Nat.succ_mul]
    omega
theorem Sm.bnd {r : Parts} (h : Sm r) : Bnd r := by
  refine ⟨fun t ht => Nat.le_trans (h.t t ht) (by decide), ?_, Nat.lt_of_le_of_lt h.f (by decide), Nat.lt_of_le_of_lt h.b (by decide), fun row hr => Nat.lt_of_le_of_lt (h.w row hr) (by decide)⟩
  have a := List.length_filterMap_le id r.fin
  have b := flat_len (f := textsOf) (B := 20) r.tab fun row hr => by
    unfold textsOf waysOf
    rw [List.length_map]
    exact Nat.le_trans (List.length_filterMap_le id row) (h.w row hr)
  have c := h.f
  have d := h.b
  unfold allTexts
  rw [List.length_append, List.length_cons]
  have e : r.tab.length * 20 ≤ 20 * 20 := Nat.mul_le_mul_right 20 d
  omega
def spMaker : Sp := fun vs H Q _ => ∃ (p : Addr) (ls : Str) (most : Nat) (S : List Addr), vs = [.str ls, .ref p, .int (most : Int)] ∧ 0 < ls.length ∧ ls.length ≤ 10 ∧ 0 < most ∧ most ≤ 10 ∧ StAt H p ∧ p ∈ S ∧ (∀ b ∈ S, ∃ o, H b = some o) ∧
  ∀ (v : V) (r : Parts) (H' : Hp), Dp K (hid S H') v (partsL r) → goodR ls r → Sm r → r.fin.length ≤ most → Dr p H H' → Q v H'
theorem ok_maker (T : Txt K mg) : FnOk P w K mg base CX0 3 T.a_maker T.d_maker ["letters", "state", "most"] (spMaker (K := K)) := by
  refine T.f_maker.ok sc_maker (fun vs H Q E h => ?_) (fun cdv A outer s H vs Q E hr h => ?_)
  · obtain ⟨_, _, _, _, rfl, _⟩ := h; rfl
  · obtain ⟨p, ls, most, S, rfl, l0, l1, m0, m1, hS, hp, hs, q⟩ := h
    refine ⟨_, (pss_cons (ps_set (i := 3) sc_maker.nd rfl (by first | exact Or.inl rfl | exact Or.inr rfl) (pe_op (kAdd K) pe_int (pe_callE (ok_next T) (hr.mono (by decide)) T.o_next (pa_cons (pv 1) (pa_cons (pv 2) pa_nil)))))
  (pss_cons (ps_setLc (i := 4) (own := [("k", 5)]) (g := gName 5) (tt := tYes) (by rfl) sc_maker.nd rfl rfl (sw_true rfl rfl rfl (by decide +kernel)) (pi_range1 (by rfl) T.nb_range (pa_cons (pv 3) pa_nil)) (blkOk_by (own := [("k", 5)]) (N := ["letters", "state", "most", "many", "finals", "k", "table", "row", "letter", "way"]) (sc := defScope s_maker) (by decide +kernel)) (fun _ _ _ _ _ => (pg_name (i := 5) sc_maker.nd rfl (by first | exact Or.inl rfl | exact Or.inr rfl))) (fun _ _ _ _ _ => pts_nil) (fun _ _ _ _ _ => (pe_ifExp (pt_cmpR (kEq K rfl hr.units) (pe_callE (ok_next T) (hr.mono (by decide)) T.o_next (pa_cons (pv 1) (pa_cons pe_int pa_nil))) pe_int (by first | rfl | exact nomark _)) pe_non (pe_callE (ok_word T) (hr.mono (by decide)) T.o_word (pa_cons (pv 0) (pa_cons (pv 1) (pa_cons pe_int pa_nil)))))))
  (pss_cons (ps_set (i := 6) sc_maker.nd rfl (by first | exact Or.inl rfl | exact Or.inr rfl) (pe_lst pa_nil))
  (pss_cons (ps_for PassesOwn.never rfl (pi_range1 (by rfl) T.nb_range (pa_cons (pv 3) pa_nil)) (pg_name (i := 5) sc_maker.nd rfl (by first | exact Or.inl rfl | exact Or.inr rfl))
    (pss_cons (ps_set (i := 7) sc_maker.nd rfl (by first | exact Or.inl rfl | exact Or.inr rfl) (pe_lst pa_nil))
  (pss_cons (ps_for PassesOwn.never rfl (kAny K rfl (pv 0)) (pg_name (i := 8) sc_maker.nd rfl (by first | exact Or.inl rfl | exact Or.inr rfl))
    (pss_cons (ps_set (i := 9) sc_maker.nd rfl (by first | exact Or.inl rfl | exact Or.inr rfl) (pe_tup (pa_cons (pe_callE (ok_next T) (hr.mono (by decide)) T.o_next (pa_cons (pv 1) (pa_cons (pv 3) pa_nil))) (pa_cons (pe_callE (ok_word T) (hr.mono (by decide)) T.o_word (pa_cons (pv 0) (pa_cons (pv 1) (pa_cons pe_int pa_nil)))) pa_nil))))
  (pss_one (ps_expr (kBm K rfl (pe_bm PySem.F.plainAttrs_list PySem.F.slot_list_append PySem.F.type_list_append mt_append (pv 7) (pa_cons (pe_ifExp (pt_cmpR (kEq K rfl hr.units) (pe_callE (ok_next T) (hr.mono (by decide)) T.o_next (pa_cons (pv 1) (pa_cons pe_int pa_nil))) pe_int (by first | rfl | exact nomark _)) pe_non (pv 9)) pa_nil)))))))
  (pss_one (ps_expr (kBm K rfl (pe_bm PySem.F.plainAttrs_list PySem.F.slot_list_append PySem.F.type_list_append mt_append (pv 6) (pa_cons (pv 7) pa_nil))))))))
  (pss_one (ps_ret (pe_tup (pa_cons (pe_callE (ok_word T) (hr.mono (by decide)) T.o_word (pa_cons (pv 0) (pa_cons (pv 1) (pa_cons pe_int pa_nil)))) (pa_cons (pv 4) (pa_cons (pv 6) pa_nil)))))))))), ?_⟩
    walk_at "rc"
    refine ⟨p, most, rfl, by omega, hS, fun n0 H1 r0 r1 S1 o1 i1 => ?_⟩
    have d1 : Dr p H H1 := ⟨S1, o1, i1.2⟩
    obtain ⟨n1, rfl⟩ := Int.eq_ofNat_of_zero_le r0
    have en : (1 : Int) + (n1 : Int) = ((1 + n1 : Nat) : Int) := by omega
    refine rd_addI ?_
    rw [en]
    have hn : 1 + n1 ≤ 10 := by omega
    have hn0 : 1 + n1 ≤ most := by omega
    generalize hnn : 1 + n1 = n at hn hn0
    have n0 : 0 < n := by omega
    have hs1 : ∀ b ∈ S, ∃ o, H1 b = some o := fun b hb => d1.st' (hs b hb)
    walk_at "rc"
    refine ⟨(n : Int), rfl, by omega, by omega, ?_⟩
    rw [Int.toNat_natCast]
    refine lc_R (K := K) (S := S) (P := fun i x => x = V.int (i : Nat)) (tr_dr S1 hp) hs1 walk_range0 rng_Y (by omega) (fun _ _ => True.intro) (fun i d => ∃ o : Option Str, d = encO o ∧ ∀ s, o = some s → isT ls s ∧ s.length ≤ 2) (hg_name fun v => rfl) (fun L i σ2 Hc hi p2 hL nL dc hs up N hN => ?_) fun Lf uf H2 ds d2 hLf nLf huf hdf hlf hRf => ?_
    · obtain ⟨v, rfl, rfl⟩ := p2
      refine rd_ife ?_
      walk_at "rc"
      refine ⟨p, 4, rfl, by decide, dc.st, fun r H3 q0 q1 S3 o3 i3 => ?_⟩
      have d3 : Dr p Hc H3 := ⟨S3, o3, i3.2⟩
      walk_at "rc"
      refine rd_iteD (fun _ => ?_) (fun _ => ?_)
      · exact hN _ _ _ d3 .non ⟨none, rfl, fun s z => by cases z⟩
      · walk_at "rc"
        refine ⟨p, ls, 2, rfl, l0, by omega, by decide, S3, fun t H4 ht tl d4 => ?_⟩
        exact hN _ _ _ (d3.trans d4) (.str t) ⟨some t, rfl, fun s z => by cases z; exact ⟨ht, tl⟩⟩
    obtain ⟨fin, rfl, hfin⟩ := map_ofD (f := encO) ds hRf
    rw [List.length_map] at hlf
    have dH2 := d1.trans d2
    have S2 := d2.st
    have hs2 : ∀ b ∈ S, ∃ o, H2 b = some o := fun b hb => d2.st' (hs1 b hb)
    have fF : Dp K (hid S H2) (.ref Lf) (.list (fin.map encO)) := Dp.frz huf nLf hdf
    walk_at "rc"
    refine ⟨by decide, fun Lt hLt => ?_⟩
    have nLt : Lt ∉ S := notin_of hs2 hLt
    have d3 : Dr p H2 (upd H2 Lt (.lst [])) := (Dr.refl S2).put S2 hLt
    have hLt3 : upd H2 Lt (.lst []) Lt = some (.lst []) := upd_same
    have fF3 := fF.ex (Kp.up (M := S) (S := Lt :: S) (d3.kp hp) fun b hb hn => by
      rcases List.mem_cons.mp hb with z | z
      · rw [z]; exact hLt
      · exact absurd z hn)
    generalize upd H2 Lt (.lst []) = H3 at d3 hLt3 fF3
    walk_at "rc"
    walk_at "rs"
    walk_at "rc"
    have pl : Lt ≠ p := fun z => nLt (z ▸ hp)
    refine ⟨(n : Int), rfl, by omega, by omega, fo_range (n := (n : Int).toNat) (fun i σ H' => (∃ k5 k7 k8 k9 : Option V, σ = [some (.str ls), some (.ref p), some (.int (most : Int)), some (.int (n : Nat)), some (.ref Lf), k5, some (.ref Lt), k7, k8, k9]) ∧ Dr p H2 H' ∧ Dp K (hid (Lt :: S) H') (.ref Lf) (.list (fin.map encO)) ∧
      ∃ us tab, H' Lt = some (.lst us) ∧ DpAll K (hid (Lt :: S) H') us (tab.map rowL) ∧ tab.length = i ∧ ∀ row ∈ tab, row.length = ls.length ∧ ∀ w, some w ∈ row → (0 ≤ w.1 ∧ w.1 < (n : Int)) ∧ isT ls w.2 ∧ w.2.length ≤ 2)
      ⟨⟨none, none, none, none, rfl⟩, d3, fF3, [], [], hLt3, .nil, rfl, fun row hr => nomatch hr⟩ ?_ ?_⟩
    · rintro i σ H4 hi ⟨⟨k5, k7, k8, k9, rfl⟩, d4, fF4, us, tab, hu4, ht4, tl4, tg4⟩
      have S4 := d4.st
      have hs4 : ∀ b ∈ Lt :: S, ∃ o, H4 b = some o := fun b hb => by
        rcases List.mem_cons.mp hb with z | z
        · rw [z]; exact ⟨_, hu4⟩
        · exact d4.st' (hs2 b z)
      have hp1 : p ∈ Lt :: S := List.mem_cons_of_mem _ hp
      walk_at "rc"
      refine ⟨by decide, fun Lr hLr => ?_⟩
      have nLr : Lr ∉ Lt :: S := notin_of hs4 hLr
      have d5 : Dr p H4 (upd H4 Lr (.lst [])) := (Dr.refl S4).put S4 hLr
      have hLr5 : upd H4 Lr (.lst []) Lr = some (.lst []) := upd_same
      have d45 : Dr p H2 (upd H4 Lr (.lst [])) := d4.put S2 (d4.back S2 hLr)
      generalize upd H4 Lr (.lst []) = H5 at d5 hLr5 d45
      walk_at "rc"
      walk_at "rs"
      walk_at "rc"
      refine rd_anyS (fun Q q => ⟨_, rfl, q⟩) (fo_str (fun j σ H' => (∃ k8 k9 : Option V, σ = [some (.str ls), some (.ref p), some (.int (most : Int)), some (.int (n : Nat)), some (.ref Lf), some (.int (i : Nat)), some (.ref Lt), some (.ref Lr), k8, k9]) ∧ Dr p H4 H' ∧
        ∃ vs row, H' Lr = some (.lst vs) ∧ DpAll K (hid (Lr :: Lt :: S) H') vs (row.map encW) ∧ row.length = j ∧ ∀ w, some w ∈ row → (0 ≤ w.1 ∧ w.1 < (n : Int)) ∧ isT ls w.2 ∧ w.2.length ≤ 2)
        ⟨⟨_, _, rfl⟩, d5, [], [], hLr5, .nil, rfl, fun w hw => nomatch hw⟩ ?_ ?_)
      · rintro j c σ H6 hj ⟨⟨k8, k9, rfl⟩, d6, vs, row, hv6, hr6, rl6, rg6⟩
        have S6 := d6.st
        have hp2 : p ∈ Lr :: Lt :: S := List.mem_cons_of_mem _ hp1
        have hs6 : ∀ b ∈ Lr :: Lt :: S, ∃ o, H6 b = some o := fun b hb => by
          rcases List.mem_cons.mp hb with z | z
          · rw [z]; exact ⟨_, hv6⟩
          · exact d6.st' (hs4 b z)
        have nrp : Lr ≠ p := fun z => nLr (z ▸ hp1)
        walk_at "rc"
        refine ⟨p, (n : Int), rfl, by omega, S6, fun a H7 a0 a1 S7 o7 i7 => ?_⟩
        have d7 : Dr p H6 H7 := ⟨S7, o7, i7.2⟩
        walk_at "rc"
        refine ⟨p, ls, 2, rfl, l0, by omega, by decide, S7, fun t H8 ht tl d8 => ?_⟩
        walk_at "rc"
        refine ⟨by show 2 ≤ sizeLine; decide, fun qa hqa => ?_⟩
        have d68 := d7.trans d8
        have nq : qa ∉ Lr :: Lt :: S := notin_of (fun b hb => d68.st' (hs6 b hb)) hqa
        have fq : Dp K (hid (Lr :: Lt :: S) (upd H8 qa (.tup [.int a, .str t]))) (.ref qa) (encW (some (a, t))) := Dp.newT hqa nq (.cons (.int a) (.cons (.str t) .nil))
        have d9 : Dr p H6 (upd H8 qa (.tup [.int a, .str t])) := d68.put S6 (d68.back S6 hqa)
        generalize upd H8 qa (.tup [.int a, .str t]) = H9 at fq d9
        walk_at "rc"
        have hv9 := d9.old _ _ nrp hv6
        refine ⟨.inl ⟨rfl, _, SqL.of hv9⟩, ?_⟩
        walk_at "rc"
        have fin' : ∀ (wy : Way) (v : V) (H10 : Hp), Dr p H6 H10 → Dp K (hid (Lr :: Lt :: S) H10) v (encW wy) → (∀ w, wy = some w → (0 ≤ w.1 ∧ w.1 < (n : Int)) ∧ isT ls w.2 ∧ w.2.length ≤ 2) → ∀ N : L2.St → Hp → Prop, ∀ σ', (∀ (vs' : List V) (row' : List Way), (upd H10 Lr (.lst vs')) Lr = some (.lst vs') → DpAll K (hid (Lr :: Lt :: S) (upd H10 Lr (.lst vs'))) vs' (row'.map encW) → row'.length = j + 1 → (∀ w, some w ∈ row' → (0 ≤ w.1 ∧ w.1 < (n : Int)) ∧ isT ls w.2 ∧ w.2.length ≤ 2) → Dr p H4 (upd H10 Lr (.lst vs')) → N σ' (upd H10 Lr (.lst vs'))) → rAppend (.ref Lr) [v] H10 fun _ H' => N σ' H' := by
          intro wy v H10 d10 fv hw N σ' hN
          refine ⟨Lr, vs, v, rfl, rfl, d10.old _ _ nrp hv6, ?_, hN _ (row ++ [wy]) upd_same ?_ (by rw [List.length_append, rl6]; rfl) (fun w hw' => ?_) ((d6.trans d10).put S4 hLr)⟩
          · have e1 := hr6.len
            have e2 := (List.getElem?_eq_some_iff.mp hj).1
            have e3 : ls.cps.toList.length = ls.length := rfl
            rw [List.length_map, rl6] at e1
            rw [e1]
            exact Nat.lt_of_lt_of_le (show j < 100 by omega) (by decide)
          · rw [List.map_append]
            exact ((hr6.ex (d10.kp hp2).ex).snoc fv).ex (Kp.put List.mem_cons_self).ex
          · rcases List.mem_append.mp hw' with z | z
            · exact rg6 w z
            · exact hw w (List.mem_singleton.mp z).symm
        refine rd_ife ?_
        walk_at "rc"
        refine ⟨p, 6, rfl, by decide, d9.st, fun b H10 b0 b1 S10 o10 i10 => ?_⟩
        have d10 : Dr p H9 H10 := ⟨S10, o10, i10.2⟩
        walk_at "rc"
        refine rd_iteD (fun _ => ?_) (fun _ => ?_)
        · walk_at "rc"
          exact fin' none .non H10 (d9.trans d10) .non (fun w z => by cases z) _ _ fun vs' row' z1 z2 z3 z4 z5 => ⟨⟨_, _, rfl⟩, z5, vs', row', z1, z2, z3, z4⟩
        · walk_at "rc"
          exact fin' (some (a, t)) _ H10 (d9.trans d10) (fq.ex (d10.kp hp2).ex) (fun w z => by cases z; exact ⟨⟨a0, a1⟩, ht, tl⟩) _ _ fun vs' row' z1 z2 z3 z4 z5 => ⟨⟨_, _, rfl⟩, z5, vs', row', z1, z2, z3, z4⟩
      · rintro σ H6 ⟨⟨k8, k9, rfl⟩, d6, vs, row, hv6, hr6, rl6, rg6⟩
        have hu6 := d6.old _ _ pl hu4
        have k6 := d6.kp hp1
        walk_at "rc"
        refine ⟨.inl ⟨rfl, _, SqL.of hu6⟩, ?_⟩
        walk_at "rc"
        have fr : Dp K (hid (Lt :: S) H6) (.ref Lr) (rowL row) := Dp.frz hv6 nLr hr6
        refine ⟨Lt, us, _, rfl, rfl, hu6, ?_, ⟨_, _, _, _, rfl⟩, (d4.trans d6).put S2 hLt, (fF4.ex k6.ex).ex (Kp.put List.mem_cons_self).ex, _, tab ++ [row], upd_same, ?_, by rw [List.length_append, tl4]; rfl, fun row' hr' => ?_⟩
        · have e1 := ht4.len
          rw [List.length_map, tl4] at e1
          rw [e1]
          exact Nat.lt_of_lt_of_le (show i < 100 by omega) (by decide)
        · rw [List.map_append]
          exact ((ht4.ex k6.ex).snoc fr).ex (Kp.put List.mem_cons_self).ex
        · rcases List.mem_append.mp hr' with z | z
          · exact tg4 row' z
          · rw [List.mem_singleton.mp z]
            exact ⟨rl6, rg6⟩
    · rintro σ H4 ⟨⟨k5, k7, k8, k9, rfl⟩, d4, fF4, us, tab, hu4, ht4, tl4, tg4⟩
      rw [Int.toNat_natCast] at tl4
      have fT : Dp K (hid S H4) (.ref Lt) (.list (tab.map rowL)) := Dp.frz hu4 nLt ht4
      have fF5 := fF4.ex hid_tail
      walk_at "rc"
      refine ⟨p, ls, 2, rfl, l0, by omega, by decide, d4.st, fun t H5 ht tl d5 => ?_⟩
      walk_at "rc"
      refine ⟨by show 3 ≤ sizeLine; decide, fun qa hqa => ?_⟩
      have d45 := d4.trans d5
      have nq : qa ∉ S := notin_of (fun b hb => d45.st' (hs2 b hb)) hqa
      have hD : Dp K (hid S (upd H5 qa (.tup [.str t, .ref Lf, .ref Lt]))) (.ref qa) (partsL ⟨t, fin, tab⟩) := Dp.newT hqa nq (.cons (.str t) (.cons (fF5.ex (d5.kp hp).ex) (.cons (fT.ex (d5.kp hp).ex) .nil)))
      have tx : ∀ x ∈ allTexts ⟨t, fin, tab⟩, isT ls x ∧ x.length ≤ 2 := fun x hx => by
        rcases List.mem_append.mp hx with z | z
        · rcases List.mem_cons.mp z with z | z
          · rw [z]; exact ⟨ht, tl⟩
          · obtain ⟨o, ho, e⟩ := List.mem_filterMap.mp z
            exact hfin o ho x e
        · obtain ⟨row, hr, hx⟩ := List.mem_flatMap.mp z
          obtain ⟨w, hw, rfl⟩ := List.mem_map.mp hx
          exact ((tg4 row hr).2 w (mem_ways.mp hw)).2
      refine q _ ⟨t, fin, tab⟩ _ hD ⟨?_, ?_, fun row hr => ?_, fun x hx => (tx x hx).1⟩ ⟨fun x hx => Nat.le_trans (tx x hx).2 (by decide), ?_, ?_, fun row hr => ?_⟩ ?_ ((dH2.trans d45).put hS ((dH2.trans d45).back hS hqa))
      · show 0 < fin.length
        omega
      · show tab.length = fin.length
        omega
      · obtain ⟨a, b⟩ := tg4 row hr
        exact ⟨a, fun w hw => by
          have := (b w (mem_ways.mp hw)).1
          refine ⟨this.1, ?_⟩
          show w.1 < (fin.length : Int)
          omega⟩
      · show fin.length ≤ 20
        omega
      · show tab.length ≤ 20
        omega
      · have := (tg4 row hr).1
        omega
      · show fin.length ≤ most
        omega
/-! ### texts: counting one sign -/
section
open PySem.Builtin.Str PySem.StrLaws
theorem chain_count (x : Str) (c : Nat) : ∀ (l : List Nat) (a f : Nat), ChainG x ⟨#[c]⟩ x.length a l f → (∀ k, f ≤ k → ¬ At x ⟨#[c]⟩ x.length k) → l.length = (x.cps.toList.drop a).count c
  | [], a, f, h, hn => by
    have e : f = a := h
    subst e
    refine (List.count_eq_zero.mpr fun hm => ?_).symm
    obtain ⟨j, hj⟩ := List.getElem?_of_mem hm
    rw [List.getElem?_drop] at hj
    exact hn (f + j) (by omega) ((subAt_one x c (f + j)).mpr hj)
  | i :: r, a, f, h, hn => by
    obtain ⟨h1, h2, h3, h4⟩ := h
    have ih := chain_count x c r (i + 1) f h4 hn
    have e := (subAt_one x c i).mp h2
    have e1 : x.cps.toList.drop a = (x.cps.toList.drop a).take (i - a) ++ x.cps.toList.drop i := by
      have q := (List.take_append_drop (i - a) (x.cps.toList.drop a)).symm
      rw [List.drop_drop, show a + (i - a) = i by omega] at q
      exact q
    have e2 : x.cps.toList.drop i = c :: x.cps.toList.drop (i + 1) := by
      obtain ⟨hi, e⟩ := List.getElem?_eq_some_iff.mp e
      rw [List.drop_eq_getElem_cons hi, e]
    have e3 : ((x.cps.toList.drop a).take (i - a)).count c = 0 := List.count_eq_zero.mpr fun hm => by
      obtain ⟨j, hj⟩ := List.getElem?_of_mem hm
      have hlt : j < i - a := by
        have q := (List.getElem?_eq_some_iff.mp hj).1
        rw [List.length_take] at q
        omega
      rw [List.getElem?_take_of_lt hlt, List.getElem?_drop] at hj
      exact h3 (a + j) (by omega) (by omega) ((subAt_one x c (a + j)).mpr hj)
    rw [e1, e2, List.count_append, e3, List.count_cons_self, List.length_cons, ih]
    omega
theorem count_sign (x : Str) (c : Nat) : Txt.count x ⟨#[c]⟩ = (x.cps.toList.count c : Int) := by
  obtain ⟨f, h1, h2⟩ := occ_tight x ⟨#[c]⟩ (Nat.le_refl 1)
  have e := chain_count x c _ 0 f h1 h2
  rw [List.drop_zero] at e
  show ((occurrences x ⟨#[c]⟩ 0 x.length (x.length + 1)).length : Int) = _
  rw [e]
end
theorem nodup_count {l : List Nat} : (∀ c ∈ l, l.count c ≤ 1) ↔ l.Nodup := by
  induction l with
  | nil => exact ⟨fun _ => List.nodup_nil, fun _ c hc => by cases hc⟩
  | cons a r ih =>
    rw [List.nodup_cons]
    constructor
    · intro h
      have ha := h a List.mem_cons_self
      rw [List.count_cons_self] at ha
      refine ⟨fun hm => ?_, ih.mp fun c hc => ?_⟩
      · have := List.count_pos_iff.mpr hm
        omega
      · have q := h c (List.mem_cons_of_mem _ hc)
        rw [List.count_cons] at q
        omega
    · rintro ⟨h1, h2⟩ c hc
      rw [List.count_cons]
      by_cases e : a = c
      · subst e
        rw [List.count_eq_zero.mpr h1]
        simp
      · have e' : (a == c) = false := by simpa using e
        rw [e']
        rcases List.mem_cons.mp hc with z | z
        · exact absurd z.symm e
        · have := ih.mpr h2 c z
          simpa using this
theorem nodup_pre {l : List Nat} : (∀ (j : Nat) c, l[j]? = some c → c ∉ l.take j) ↔ l.Nodup := by
  constructor
  · intro h
    refine List.pairwise_iff_getElem.mpr fun i j hi hj hij e => ?_
    refine h j l[j] (List.getElem?_eq_getElem hj) ?_
    rw [← e]
    refine List.mem_iff_getElem?.mpr ⟨i, ?_⟩
    rw [List.getElem?_take_of_lt hij, List.getElem?_eq_getElem hi]
  · intro h j c hj hm
    obtain ⟨hlt, e⟩ := List.getElem?_eq_some_iff.mp hj
    obtain ⟨i, hi⟩ := List.getElem?_of_mem hm
    have hij : i < j := by
      have q := (List.getElem?_eq_some_iff.mp hi).1
      rw [List.length_take] at q
      omega
    rw [List.getElem?_take_of_lt hij] at hi
    obtain ⟨hl, e2⟩ := List.getElem?_eq_some_iff.mp hi
    exact List.pairwise_iff_getElem.mp h i j hl hlt hij (e2.trans e.symm)
theorem cut_to (z : Str) (i : Nat) (h : i ≤ z.length) : (cutS z none (some (i : Int))).cps.toList = z.cps.toList.take i := by
  show (z.cps.toList.drop _).take _ = _
  have e : HT.sIx z.length z.length (some (i : Int)) = i := by
    rw [HT.sIx_nat]
    exact Nat.min_eq_left h
  rw [e, HT.sIx_none]
  rfl
section
theorem map_getE {α β : Type} (l : List α) (d : α) (f : α → β) : (List.range l.length).map (fun j => f (l.getD j d)) = l.map f := by
  refine List.ext_getElem (by simp) fun i h1 h2 => ?_
  rw [List.getElem_map, List.getElem_range, List.getElem_map, List.getD_eq_getElem?_getD, List.getElem?_eq_getElem (by simpa using h2)]
  rfl
theorem rd_inDt {a : Addr} {x : Str} {ys : List Str} {b : Bool} {H : Hp} {Q : VK} (h : Dp K H (.ref a) (.tuple (ys.map PyData.str))) (hb : inV (.str x) (ys.map V.str) = b) (q : Q (.bl b) H) : oIn K (.str x) (.ref a) H Q := by
  obtain ⟨a', vs, e, hs, hd⟩ := Dp.tupv h
  cases e
  have hv : vs = ys.map V.str := by
    clear h hb q hs
    induction ys generalizing vs with
    | nil => cases hd; rfl
    | cons y ys ih =>
      cases hd with
      | cons h1 h2 => rw [Dp.str_iff h1, ih _ h2]; rfl
  subst hv
  refine .inr ⟨a, ys.map V.str, rfl, .inr hs, rfl, ?_, ?_⟩
  · rw [List.all_eq_true]
    intro v hv
    obtain ⟨x, _, rfl⟩ := List.mem_map.mp hv
    rfl
  · rw [if_neg (by decide), hb]
    exact q
end
section
variable (T : Txt K mg)
abbrev WD : List Str := ["turn", "rewrite", "if", "in", "then", "else", "need", "give"]
abbrev AZ : Str := "abcdefghijklmnopqrstuvwxyz"
def nameB (z : Str) : Bool := decide (1 ≤ z.length) && decide (z.length ≤ 8) && !inV (.str z) (WD.map V.str) && z.cps.toList.all fun c => decide (c ∈ AZ.cps.toList)
def spIsName : Sp := fun vs H Q _ => ∃ z : Str, vs = [.str z] ∧ z.length ≤ 10000 ∧ ∀ H', Ex H H' → Q (.bl (nameB z)) H'
theorem ok_is_name : FnOk P w K mg base CX0 1 T.a_is_name T.d_is_name ["name"] spIsName := by
  refine T.f_is_name.ok sc_is_name (fun vs H Q E h => ?_) (fun cdv A outer s H vs Q E hr h => ?_)
  · obtain ⟨_, rfl, _⟩ := h; rfl
  · obtain ⟨z, rfl, hz, q⟩ := h
    have sz : 100000 ≤ sizeLine := by decide
    refine ⟨_, (pss_cons (ps_if (PW.pt (pw_or (pt_not (pt_chain op_leP op_leP pe_int (pe_callB (kLen K) (by rfl) T.nb_len (by decide +kernel) (pa_cons (pv 0) pa_nil)) (pe_globI (by rfl) T.c_LONGEST_NAME))) (pw_or1 (pt_cmpR (kIn K) (pv 0) (pe_globR (by rfl) T.c_WORDS) (by first | rfl | exact nomark _)))))
    (pss_one (ps_ret pe_bl))
    pss_nil)
  (pss_one (ps_ret (pe_callB (kAll K) (by rfl) T.nb_all (by decide +kernel) (pa_cons (pe_lc (own := [("letter", 1)]) (g := gName 1) (tt := tYes) (by rfl) sc_is_name.nd (kAny K rfl (pv 0)) (blkOk_by (own := [("letter", 1)]) (N := ["name", "letter"]) (sc := defScope s_is_name) (by decide +kernel)) (fun _ _ _ _ _ => (pg_name (i := 1) sc_is_name.nd rfl (by first | exact Or.inl rfl | exact Or.inr rfl))) (fun _ _ _ _ _ => pts_nil) (fun _ _ _ _ _ => (pe_cmpR (kIn K) (pv 1) (pe_globS (by rfl) T.c_NAME_LETTERS) (by first | rfl | exact nomark _)))) pa_nil))))), ?_⟩
    walk_at "rc"
    walk_at "rs"
    walk_at "rc"
    refine rd_lenS (by omega) ?_
    walk_at "rc"
    have fin : nameB z = false → Q (.bl false) H := fun e => e ▸ q H (Evl.Ex.refl H)
    refine rd_iteD (fun h1 => ?_) fun h1 => ?_
    · walk_at "rc"
      refine rd_iteN (fun h2 => ?_) fun h2 => ?_
      · walk_at "rc"
        refine fin ?_
        unfold nameB
        rw [decide_eq_false (show ¬ z.length ≤ 8 by omega), Bool.and_false]
        rfl
      · walk_at "rc"
        refine rd_inDt (T.v_WORDS H) (ys := WD) (b := inV (.str z) (WD.map V.str)) rfl ?_
        walk_at "rc"
        refine rd_ite (fun h3 => ?_) fun h3 => ?_
        · walk_at "rc"
          refine fin ?_
          unfold nameB
          rw [h3, Bool.not_true, Bool.and_false]
          rfl
        · walk_at "rc"
          refine rd_anyS (fun Q q => ⟨_, rfl, q⟩) ?_
          refine lc_map (xs := fun i => .str ⟨#[z.cps.toList.getD i 0]⟩) (v := fun i => .bl (decide (z.cps.toList.getD i 0 ∈ AZ.cps.toList))) walk_str (fun i H x H' hi y => ⟨y.1, ?_⟩) (fun _ _ => True.intro) (show z.length < 100000 by omega) (fun i Hc hi ec N hN => ?_) fun L hL => ?_
          · obtain ⟨_, c, hc, rfl⟩ := y
            have : z.cps.toList[i]? = some c := by rw [Array.getElem?_toList]; exact hc
            rw [List.getD_eq_getElem?_getD, this]
            rfl
          · walk_at "rc"
            exact hN
          · walk_at "rc"
            have e : (List.range z.cps.size).map (fun i => V.bl (decide (z.cps.toList.getD i 0 ∈ AZ.cps.toList))) = (z.cps.toList.map fun c => decide (c ∈ AZ.cps.toList)).map V.bl := by
              rw [List.map_map]
              exact map_getE z.cps.toList 0 fun c => V.bl (decide (c ∈ AZ.cps.toList))
            rw [e]
            refine ⟨L, _, rfl, SqL.of upd_same, ?_⟩
            have en : ((z.cps.toList.map fun c => decide (c ∈ AZ.cps.toList)).all id) = nameB z := by
              unfold nameB
              rw [decide_eq_true (show 1 ≤ z.length by omega), decide_eq_true (show z.length ≤ 8 by omega), h3, List.all_map]
              rfl
            rw [en]
            exact q _ (Evl.Ex.new hL)
    · refine ⟨_, rfl, ?_⟩
      refine rd_itet rfl ?_
      walk_at "rc"
      refine fin ?_
      unfold nameB
      rw [decide_eq_false (show ¬ 1 ≤ z.length by omega)]
      rfl
end
section
def dcB (g : TG) (tt : TT) (tk tv : TE) (vs : List Nat) (σ : L2.St) (Q : VK) (J : It) (H : Hp) : Prop := tDc (fun _ H R => R J H) g tt tk tv vs σ H Q
theorem rd_dc {wi : TI} {g : TG} {tt : TT} {tk tv : TE} {vs : List Nat} {σ : L2.St} {H : Hp} {Q : VK} (h : wi σ H (dcB g tt tk tv vs σ Q)) : tDc wi g tt tk tv vs σ H Q := h
theorem valV_take {kvs : List (L2.Key × V)} {k : L2.Key} : ∀ {i : Nat} {p : L2.Key × V}, kvs[i]? = some p → (valV (kvs.take i) k).isSome = true → valV (kvs.take i) k = valV kvs k := by
  induction kvs with
  | nil => intro i p h; cases h
  | cons q kvs ih =>
    intro i p h hs
    cases i with
    | zero => cases hs
    | succ i =>
      by_cases e : q.1 = k
      · rw [List.take_succ_cons, valV_pos e, valV_pos e]
      · rw [List.take_succ_cons, valV_neg e, valV_neg e]
        rw [List.take_succ_cons, valV_neg e] at hs
        exact ih (i := i) h hs
theorem valV_some {kvs : List (L2.Key × V)} {p : L2.Key × V} (h : p ∈ kvs) : ∃ v, valV kvs p.1 = some v := by
  induction kvs with
  | nil => cases h
  | cons q kvs ih =>
    by_cases e : q.1 = p.1
    · exact ⟨_, valV_pos e⟩
    · rw [valV_neg e]
      exact ih ((List.mem_cons.mp h).resolve_left fun z => e (by rw [z]))
theorem valV_none {kvs : List (L2.Key × V)} {k : L2.Key} (h : ∀ p ∈ kvs, p.1 ≠ k) : valV kvs k = none := by
  induction kvs with
  | nil => rfl
  | cons q kvs ih => rw [valV_neg (h q List.mem_cons_self)]; exact ih fun p hp => h p (List.mem_cons_of_mem _ hp)
/-- {k: d[k] for k in d} -/
theorem dc_copy {j : Nat} {σ : L2.St} {H : Hp} {Q : VK} {tv : TE} {d : Addr} {od : Obj} {kvs : List (L2.Key × V)} (hn : kvs.length ≤ 1000) (f0 : H d = some (.frz od (.dK kvs))) (hw : ∀ v : V, wipe ((wipe σ [j]).set j (some v)) [j] = wipe σ [j]) (hj : ∀ v : V, ((wipe σ [j]).set j (some v))[j]? = some (some v))
    (hs : ∀ p ∈ kvs, ∃ z : Str, p.1 = .inr z)
    (hv : ∀ z v, valV kvs (.inr z) = some v → ∀ Hc, Ex H Hc → ∀ N : VK, N v Hc → tv ((wipe σ [j]).set j (some (.str z))) Hc N)
    (h : ∀ D Hc kvs', Ex H Hc → H D = none → Hc D = some (.dK kvs') → kvs'.length ≤ kvs.length → (∀ p ∈ kvs', ∃ z : Str, p.1 = .inr z) → (∀ k, valV kvs' k = valV kvs k) → Q (.ref D) Hc) : dcB (gName j) tYes (tVar j) tv [j] σ Q (Itk d od kvs) H := by
  intro D hD
  have hz : 100000 ≤ sizeLine := by decide
  refine ⟨fun i m Hc => m = kvs.length - i ∧ i ≤ kvs.length ∧ Ex H Hc ∧ ∃ kvs', Hc D = some (.dK kvs') ∧ kvs'.length ≤ i ∧ (∀ p ∈ kvs', ∃ z : Str, p.1 = .inr z) ∧ ∀ k, valV kvs' k = if (valV (kvs.take i) k).isSome = true then valV kvs k else none, ⟨kvs.length, by simp, Nat.zero_le _, Evl.Ex.new hD, [], upd_same, Nat.le_refl _, (fun p hp => nomatch hp), fun k => rfl⟩, ?_⟩
  rintro i m Hc ⟨rfl, hi, e, kvs', hk, hkl, hks, hkv⟩
  by_cases hlt : i < kvs.length
  · refine .inr ⟨walk_keys.goes i Hc hlt (e _ _ f0), fun H' => i + 1 ≤ kvs.length ∧ Ex H H' ∧ ∃ kvs', H' D = some (.dK kvs') ∧ kvs'.length ≤ i + 1 ∧ (∀ p ∈ kvs', ∃ z : Str, p.1 = .inr z) ∧ ∀ k, valV kvs' k = if (valV (kvs.take (i + 1)) k).isSome = true then valV kvs k else none, fun H' p => ⟨kvs.length - (i + 1), by omega, rfl, p⟩, fun x H' y => ?_⟩
    obtain ⟨rfl, k, v, hkv', rfl⟩ := walk_keys.yields i Hc x H' hlt (e _ _ f0) y
    have hpm := List.mem_of_getElem? hkv'
    obtain ⟨z, hz'⟩ := hs _ hpm
    have hz' : k = .inr z := hz'
    subst hz'
    obtain ⟨v1, hv1⟩ := valV_some hpm
    refine ⟨hw _, rd_yes (rd_iteT ?_)⟩
    refine rd_var (hj _) ?_
    refine hv z v1 hv1 _ e _ ?_
    refine ⟨_, .inr z, rfl, hk, by omega, hlt, Evl.Ex.mut e hD, _, upd_same, Nat.le_trans (length_putK _ _ _) (Nat.succ_le_succ hkl), fun p hp => ?_, fun k2 => ?_⟩
    · unfold putK at hp
      split at hp
      · obtain ⟨q, hq, rfl⟩ := List.mem_map.mp hp
        obtain ⟨z2, h2⟩ := hks q hq
        by_cases e2 : q.1 = .inr z
        · rw [if_pos e2]; exact ⟨z2, h2⟩
        · rw [if_neg e2]; exact ⟨z2, h2⟩
      · rcases List.mem_append.mp hp with hp | hp
        · exact hks p hp
        · rw [List.mem_singleton.mp hp]; exact ⟨z, rfl⟩
    · rw [valV_put]
      have et : kvs.take (i + 1) = kvs.take i ++ [(.inr z, v)] := by rw [List.take_succ, hkv']; rfl
      by_cases e2 : k2 = .inr z
      · rw [if_pos e2, e2]
        have : (valV (kvs.take (i + 1)) (.inr z)).isSome = true := by
          obtain ⟨v2, hv2⟩ := valV_some (kvs := kvs.take (i + 1)) (p := (.inr z, v)) (by rw [et]; exact List.mem_append.mpr (.inr List.mem_cons_self))
          rw [hv2]; rfl
        rw [if_pos this]
        exact hv1.symm
      · rw [if_neg e2, hkv k2]
        have : valV (kvs.take (i + 1)) k2 = valV (kvs.take i) k2 := by
          rw [et]
          generalize kvs.take i = l
          induction l with
          | nil => exact valV_neg fun y => e2 y.symm
          | cons q l ih =>
            by_cases e3 : q.1 = k2
            · rw [List.cons_append, valV_pos e3, valV_pos e3]
            · rw [List.cons_append, valV_neg e3, valV_neg e3, ih]
        rw [this]
  · have ei : i = kvs.length := by omega
    subst ei
    have st := walk_keys.stops Hc (e _ _ f0)
    refine .inl ⟨st, h D Hc kvs' e hD hk hkl hks fun k => ?_⟩
    rw [hkv k, List.take_length]
    cases valV kvs k <;> rfl
end
section
def goodA (z : Str) : Prop := 1 ≤ z.length ∧ z.length ≤ 8 ∧ ∀ c ∈ z.cps.toList, c ∈ PL.cps.toList ∧ z.cps.toList.count c ≤ 1
instance (z : Str) : Decidable (goodA z) := by unfold goodA; infer_instance
def spAlpha (C : Addr) : Sp := fun vs H Q E => ∃ z : Str, vs = [.str z] ∧ z.length ≤ 1000000 ∧ (goodA z → Q .non H) ∧ (¬ goodA z → ∀ d, H d = none → E (.ref C) (some d) (upd H d (.xd [("what", .str z)])))
theorem ok_check_alphabet (T : Txt K mg) : FnOk P w K mg base (L2.CX P w) 4 T.a_check_alphabet T.d_check_alphabet ["letters"] (spAlpha T.C_BadAlphabet) := by
  refine T.f_check_alphabet.okX sc_check_alphabet (fun vs H Q E h => ?_) (fun cdv A outer s H vs Q E hr h => ?_)
  · obtain ⟨_, rfl, _⟩ := h; rfl
  · obtain ⟨z, rfl, hz, qy, qn⟩ := h
    have hz2 : z.length ≤ sizeLine := Nat.le_trans hz (by decide)
    have zl : z.cps.toList.length = z.length := rfl
    refine ⟨_, (pss_cons (ps_if (pt_not (pt_chain op_leP op_leP pe_int (pe_callB (kLen K) (by rfl) T.nb_len (by decide +kernel) (pa_cons (pv 0) pa_nil)) (pe_globI (by rfl) T.c_MOST_LETTERS)))
    (pss_one (ps_raiseW rfl T.x_BadAlphabet (ok_init T) T.tI T.bI (hr.mono (by decide)) T.g_BadAlphabet (takes_of rfl rfl rfl rfl) (pa_cons (pv 0) pa_nil) (MonoA.one mono_var)))
    pss_nil)
  (pss_one (ps_for (passes_of rfl) rfl (kAny K rfl (pv 0)) (pg_name (i := 1) sc_check_alphabet.nd rfl (by first | exact Or.inl rfl | exact Or.inr rfl))
    (pss_one (ps_if (PW.pt (pw_or (pt_cmpR (kNotIn K) (pv 1) (pe_globS (by rfl) T.c_LETTERS) (by first | rfl | exact nomark _)) (pw_or1 (pt_cmpR op_gtP (kBm K rfl (pe_bm PySem.F.plainAttrs_str PySem.F.slot_str_count PySem.F.type_str_count mt_count (pv 0) (pa_cons (pv 1) pa_nil))) pe_int (by first | rfl | exact nomark _)))))
    (pss_one (ps_raiseW rfl T.x_BadAlphabet (ok_init T) T.tI T.bI (hr.mono (by decide)) T.g_BadAlphabet (takes_of rfl rfl rfl rfl) (pa_cons (pv 0) pa_nil) (MonoA.one mono_var)))
    pss_nil))))), ?_⟩
    walk_at "rd"
    refine rd_lenS hz2 ?_
    walk_at "rd"
    refine rd_iteD (fun h1 => ?_) (fun h1 => ?_)
    · walk_at "rd"
      refine rd_iteN (fun h2 => ?_) (fun h2 => ?_)
      · walk_at "rd"
        exact qn fun g => h2 (by have := g.2.1; omega)
      · walk_at "rd"
        refine rd_anyS (fun Q q => ⟨_, rfl, q⟩) (fo_str (fun i σ H' => (∃ v, σ = [some (.str z), v]) ∧ H' = H ∧ ∀ c ∈ z.cps.toList.take i, c ∈ PL.cps.toList ∧ z.cps.toList.count c ≤ 1)
          ⟨⟨none, rfl⟩, rfl, fun c hc => by rw [List.take_zero] at hc; cases hc⟩ ?_ ?_)
        · rintro i c σ H' hi ⟨⟨v, rfl⟩, rfl, hp⟩
          have hm : c ∈ z.cps.toList := List.mem_of_getElem? hi
          walk_at "rd"
          refine rd_iteN (fun h3 => ?_) (fun h3 => ?_)
          · walk_at "rd"
            exact qn fun g => h3 (g.2.2 c hm).1
          · walk_at "rd"
            refine ⟨rfl, ?_⟩
            walk_at "rd"
            refine ⟨z, ⟨#[c]⟩, rfl, rfl, ?_⟩
            walk_at "rd"
            rw [count_sign]
            refine rd_iteD (fun h4 => ?_) (fun h4 => ?_)
            · walk_at "rd"
              exact qn fun g => by have := (g.2.2 c hm).2; omega
            · walk_at "rd"
              refine ⟨⟨_, rfl⟩, rfl, fun c' hc' => ?_⟩
              rw [List.take_succ, hi] at hc'
              rcases List.mem_append.mp hc' with z1 | z1
              · exact hp c' z1
              · have e : c' = c := by simpa using z1
                rw [e]
                exact ⟨h3, by omega⟩
        · rintro σ H' ⟨⟨v, rfl⟩, rfl, hp⟩
          rw [← zl, List.take_length] at hp
          exact qy ⟨by omega, by omega, hp⟩
    · walk_at "rd"
      exact qn fun g => h1 (by have := g.1; omega)
end
section
variable (T : Txt K mg)
structure BkF (C : Addr) (H : Hp) (b : Addr) (ls : Str) (dp dr dm : Addr) (kp kr : List (L2.Key × V)) : Prop where
  ob : ∃ dx, H b = some (.ins C dx [("letters", .str ls), ("_patterns", .ref dp), ("_rewriters", .ref dr), ("_machines", .ref dm)])
  p : H dp = some (.dK kp)
  r : H dr = some (.dK kr)
  np : dm ≠ dp
  nr : dm ≠ dr
  lp : kp.length ≤ 100
  lr : kr.length ≤ 100
theorem BkF.ex {C : Addr} {H H' : Hp} {b : Addr} {ls : Str} {dp dr dm : Addr} {kp kr : List (L2.Key × V)} (h : BkF C H b ls dp dr dm kp kr) (e : Ex H H') : BkF C H' b ls dp dr dm kp kr :=
  ⟨h.ob.imp fun dx z => e _ _ z, e _ _ h.p, e _ _ h.r, h.np, h.nr, h.lp, h.lr⟩
def spHasP : Sp := fun vs H Q _ => ∃ (b : Addr) (z ls : Str) (dp dr dm : Addr) (kp kr : List (L2.Key × V)), vs = [.ref b, .str z] ∧ BkF T.C_Book H b ls dp dr dm kp kr ∧ Q (.bl (valV kp (.inr z)).isSome) H
theorem ok_Book_has_pattern : FnOk P w K mg base CX0 1 T.a_Book_has_pattern T.d_Book_has_pattern ["self", "name"] (spHasP T) := by
  refine T.f_Book_has_pattern.ok sc_Book_has_pattern (fun vs H Q E h => ?_) (fun cdv A outer s H vs Q E hr h => ?_)
  · obtain ⟨_, _, _, _, _, _, _, _, rfl, _⟩ := h; rfl
  · obtain ⟨b, z, ls, dp, dr, dm, kp, kr, rfl, B, q⟩ := h
    obtain ⟨dx, hb⟩ := B.ob
    refine ⟨_, (pss_one (ps_ret (pe_cmp (pc_din (hu_of hr) (pv 1) (kFld K rfl (pe_fld (pv 0) rfl))) rfl))), ?_⟩
    walk_at "rc"
    refine ⟨b, _, dx, _, _, rfl, hb, T.cl_Book, T.na_Book__patterns, rfl, ?_⟩
    walk_at "rc"
    exact ⟨dp, _, rfl, DGet.k (k := .inr z) B.p, q⟩
def spHasR : Sp := fun vs H Q _ => ∃ (b : Addr) (z ls : Str) (dp dr dm : Addr) (kp kr : List (L2.Key × V)), vs = [.ref b, .str z] ∧ BkF T.C_Book H b ls dp dr dm kp kr ∧ Q (.bl (valV kr (.inr z)).isSome) H
theorem ok_Book_has_rewriter : FnOk P w K mg base CX0 1 T.a_Book_has_rewriter T.d_Book_has_rewriter ["self", "name"] (spHasR T) := by
  refine T.f_Book_has_rewriter.ok sc_Book_has_rewriter (fun vs H Q E h => ?_) (fun cdv A outer s H vs Q E hr h => ?_)
  · obtain ⟨_, _, _, _, _, _, _, _, rfl, _⟩ := h; rfl
  · obtain ⟨b, z, ls, dp, dr, dm, kp, kr, rfl, B, q⟩ := h
    obtain ⟨dx, hb⟩ := B.ob
    refine ⟨_, (pss_one (ps_ret (pe_cmp (pc_din (hu_of hr) (pv 1) (kFld K rfl (pe_fld (pv 0) rfl))) rfl))), ?_⟩
    walk_at "rc"
    refine ⟨b, _, dx, _, _, rfl, hb, T.cl_Book, T.na_Book__rewriters, rfl, ?_⟩
    walk_at "rc"
    exact ⟨dr, _, rfl, DGet.k (k := .inr z) B.r, q⟩
end
section
/-- {k: d[k] for k in d}, d locked and unlocked -/
theorem rd_copyE {j : Nat} {σ : L2.St} {H : Hp} {Q : VK} {td tv : TE} {d : Addr} {kvs : List (L2.Key × V)} (hn : kvs.length ≤ 1000) (hd : H d = some (.dK kvs)) (hw : ∀ v : V, wipe ((wipe σ [j]).set j (some v)) [j] = wipe σ [j]) (hj : ∀ v : V, ((wipe σ [j]).set j (some v))[j]? = some (some v))
    (hs : ∀ p ∈ kvs, ∃ z : Str, p.1 = .inr z) (htd : ∀ Hc (N : VK), N (.ref d) Hc → td σ Hc N)
    (hv : ∀ z v Hc (N : VK), valV kvs (.inr z) = some v → Rd Hc d (.dK kvs) → N v Hc → tv ((wipe σ [j]).set j (some (.str z))) Hc N)
    (h : ∀ D Hx kvs', Ex H Hx → H D = none → Hx D = some (.dK kvs') → kvs'.length ≤ kvs.length → (∀ p ∈ kvs', ∃ z : Str, p.1 = .inr z) → (∀ k, valV kvs' k = valV kvs k) → Q (.ref D) Hx) : tLockE (tDc (iKeys td) (gName j) tYes (tVar j) tv [j]) σ H Q := by
  refine ⟨d, .dK kvs, hd, by trivial, fun od => ?_⟩
  have f0 : upd H d (.frz od (.dK kvs)) d = some (.frz od (.dK kvs)) := upd_same
  refine rd_dc (htd _ _ ⟨d, od, rfl, .inl ⟨kvs, f0, ?_⟩⟩)
  refine dc_copy hn f0 hw hj hs (fun z v hz Hc e N hN => hv z v Hc N hz (.inr ⟨od, e _ _ f0⟩) hN) fun D Hc kvs' e hD hk hl hks hvv => ?_
  have fc := e _ _ f0
  refine ⟨fc, ?_⟩
  have hD0 : H D = none := by
    by_cases z : D = d
    · rw [z, f0] at hD; cases hD
    · rw [upd_ne z] at hD; exact hD
  have ne : D ≠ d := fun z => by rw [z, hd] at hD0; cases hD0
  refine h D _ kvs' (fun b o hb => ?_) hD0 (by rw [upd_ne ne]; exact hk) hl hks hvv
  by_cases z : b = d
  · rw [z, hd] at hb
    rw [z, ← hb, upd_same]
  · rw [upd_ne z]
    exact e b o (by rw [upd_ne z]; exact hb)
end
section
variable (T : Txt K mg)
theorem find_at {z : Str} : ∀ {ws : List Str} {i : Nat}, (∀ y ∈ ws.take i, nameB y = true) → ws[i]? = some z → nameB z = false → ws.find? (fun z => !nameB z) = some z
  | [], _, _, h, _ => by cases h
  | w :: ws, 0, _, h, hb => by
    cases h
    rw [List.find?_cons, hb]; rfl
  | w :: ws, i + 1, hn, h, hb => by
    rw [List.find?_cons, hn w (by rw [List.take_succ_cons]; exact List.mem_cons_self)]
    exact find_at (ws := ws) (i := i) (fun y hy => hn y (by rw [List.take_succ_cons]; exact List.mem_cons_of_mem _ hy)) h hb
/-- the first key that is no name -/
def badOf (ys zs : List Str) : Option Str := (ys ++ zs).find? fun z => !nameB z
def Keys (kvs : List (L2.Key × V)) (ks : List Str) : Prop := kvs.map (·.1) = ks.map Sum.inr
def spBookI : Sp := fun vs H Q E => ∃ (m dx p r : Addr) (ls : Str) (kp kr : List (L2.Key × V)) (ksp ksr ys zs : List Str), vs = [.ref m, .str ls, .ref p, .ref r] ∧ ls.length ≤ 1000 ∧ H m = some (.ins T.C_Book dx []) ∧
  H p = some (.dK kp) ∧ H r = some (.dK kr) ∧ Keys kp ksp ∧ Keys kr ksr ∧ ksp.length < 60 ∧ ksr.length < 60 ∧ (∀ z ∈ ksp, z.length ≤ 10000) ∧ (∀ z ∈ ksr, z.length ≤ 10000) ∧ ys.Perm ksp ∧ PyProof.Rows.sortedS ys = true ∧ zs.Perm ksr ∧ PyProof.Rows.sortedS zs = true ∧
  (goodA ls → badOf ys zs = none → ∀ dp dr dm kp' kr' H', Kp [m] H H' → H dp = none → H dr = none → H dm = none → BkF T.C_Book H' m ls dp dr dm kp' kr' → (∀ k, valV kp' k = valV kp k) → (∀ k, valV kr' k = valV kr k) → H' dm = some (.dK []) → Q .non H') ∧
  (goodA ls → ∀ z, badOf ys zs = some z → ∀ d H', Kp [m] H H' → H d = none → H' d = some (.xd [("what", .str z)]) → E (.ref T.C_BadName) (some d) H') ∧
  (¬ goodA ls → ∀ d H', Kp [m] H H' → H d = none → H' d = some (.xd [("what", .str ls)]) → E (.ref T.C_BadAlphabet) (some d) H')
theorem ok_Book_init : FnOk P w K mg base (L2.CX P w) 5 T.a_Book_init T.d_Book_init ["self", "letters", "patterns", "rewriters"] (spBookI T) := by
  refine T.f_Book_init.okX sc_Book_init (fun vs H Q E h => ?_) (fun cdv A outer s H vs Q E hr h => ?_)
  · obtain ⟨_, _, _, _, _, _, _, _, _, _, _, rfl, _⟩ := h; rfl
  · obtain ⟨m, dx, p, r, ls, kp, kr, ksp, ksr, ys, zs, rfl, l1, hm, hp, hr0, hkp, hkr, lp, lr, lkp, lkr, py, sy, pz, sz', qy, qb, qa⟩ := h
    have sz : 100000 ≤ sizeLine := by decide
    refine ⟨_, (pss_cons (ps_expr (pe_callR (ok_check_alphabet T) (hr.mono (by decide)) T.o_check_alphabet (takes_of rfl rfl rfl rfl) (pa_cons (pv 1) pa_nil)))
  (pss_cons (ps_for (passes_of rfl) rfl (kAny K rfl (pe_op (kAdd K) (pe_callB (call_sortedD (by rfl)) (by rfl) T.nb_sorted (by decide +kernel) (pa_cons (pv 2) pa_nil)) (pe_callB (call_sortedD (by rfl)) (by rfl) T.nb_sorted (by decide +kernel) (pa_cons (pv 3) pa_nil)))) (pg_name (i := 4) sc_Book_init.nd rfl (by first | exact Or.inl rfl | exact Or.inr rfl))
    (pss_one (ps_if (pt_not (pt_val (pe_callE (ok_is_name T) (hr.mono (by decide)) T.o_is_name (pa_cons (pv 4) pa_nil))))
    (pss_one (ps_raiseW rfl T.x_BadName (ok_init T) T.tI T.bI (hr.mono (by decide)) T.g_BadName (takes_of rfl rfl rfl rfl) (pa_cons (pv 4) pa_nil) (MonoA.one mono_var)))
    pss_nil)))
  (pss_cons (kSf K rfl (ps_fld (pv 0) (pv 1) rfl))
  (pss_cons (kSf K rfl (ps_fld (pv 0) (pe_lock (pe_dc (own := [("name", 4)]) (g := gName 4) (tt := tYes) (by rfl) sc_Book_init.nd (pi_keys (pv 2)) (blkOk_by (own := [("name", 4)]) (N := ["self", "letters", "patterns", "rewriters", "name"]) (sc := defScope s_Book_init) (by decide +kernel)) (fun _ _ _ _ _ => (pg_name (i := 4) sc_Book_init.nd rfl (by first | exact Or.inl rfl | exact Or.inr rfl))) (fun _ _ _ _ _ => pts_nil) (fun _ _ _ _ _ => (pv 4)) (fun _ _ _ _ _ => (pe_dget (hu_of hr) (pv 2) (pv 4) (fun _ _ => rfl))))) rfl))
  (pss_cons (kSf K rfl (ps_fld (pv 0) (pe_lock (pe_dc (own := [("name", 4)]) (g := gName 4) (tt := tYes) (by rfl) sc_Book_init.nd (pi_keys (pv 3)) (blkOk_by (own := [("name", 4)]) (N := ["self", "letters", "patterns", "rewriters", "name"]) (sc := defScope s_Book_init) (by decide +kernel)) (fun _ _ _ _ _ => (pg_name (i := 4) sc_Book_init.nd rfl (by first | exact Or.inl rfl | exact Or.inr rfl))) (fun _ _ _ _ _ => pts_nil) (fun _ _ _ _ _ => (pv 4)) (fun _ _ _ _ _ => (pe_dget (hu_of hr) (pv 3) (pv 4) (fun _ _ => rfl))))) rfl))
  (pss_one (kSf K rfl (ps_fld (pv 0) pe_dnewK rfl)))))))), ?_⟩
    walk_at "rc"
    refine ⟨ls, rfl, by omega, fun ga => ?_, fun ga d hd => qa ga d _ (Kp.new hd) hd upd_same⟩
    walk_at "rc"
    refine rd_anyL' ?_
    walk_at "rc"
    refine ⟨p, kp, ksp, rfl, .inl hp, hkp, by omega, fun ys' p1 py' sy' hp1 => ?_⟩
    have ey : ys' = ys := sorted_uniq (py'.trans py.symm) sy' sy
    subst ey
    have e1 := Evl.Ex.new (o := .lst (ys'.map V.str)) hp1
    have g1 : upd H p1 (.lst (ys'.map V.str)) p1 = some (.lst (ys'.map V.str)) := upd_same
    generalize upd H p1 (.lst (ys'.map V.str)) = H1 at e1 g1
    walk_at "rc"
    refine ⟨r, kr, ksr, rfl, .inl (e1 _ _ hr0), hkr, by omega, fun zs' p2 pz' sz2 hp2 => ?_⟩
    have ez : zs' = zs := sorted_uniq (pz'.trans pz.symm) sz2 sz'
    subst ez
    have e2 := Evl.Ex.new (o := .lst (zs'.map V.str)) hp2
    have g2 : upd H1 p2 (.lst (zs'.map V.str)) p2 = some (.lst (zs'.map V.str)) := upd_same
    have ly := py.length_eq
    have lz := pz.length_eq
    refine rd_cat (e2 _ _ g1) g2 (by rw [List.length_map, List.length_map]; omega) fun p3 hp3 => ?_
    have e3 := (e1.trans e2).trans (Evl.Ex.new (o := .lst (ys'.map V.str ++ zs'.map V.str)) hp3)
    have g3 : upd (upd H1 p2 (.lst (zs'.map V.str))) p3 (.lst (ys'.map V.str ++ zs'.map V.str)) p3 = some (.lst ((ys' ++ zs').map V.str)) := by rw [upd_same, List.map_append]
    generalize upd (upd H1 p2 (.lst (zs'.map V.str))) p3 (.lst (ys'.map V.str ++ zs'.map V.str)) = H3 at e3 g3
    refine ⟨p3, rfl, ⟨_, SqL.of g3⟩, ?_⟩
    have lw : ∀ z ∈ ys' ++ zs', z.length ≤ 10000 := fun z hz => (List.mem_append.mp hz).elim (fun h => lkp z (py.mem_iff.mp h)) fun h => lkr z (pz.mem_iff.mp h)
    unfold badOf at qy qb
    generalize ys' ++ zs' = ws at g3 lw qy qb
    refine fo_list (xs := ws.map V.str) (fun i σ H' => ∃ k4 : Option V, σ = [some (.ref m), some (.str ls), some (.ref p), some (.ref r), k4] ∧ Ex H H' ∧ H' p3 = some (.lst (ws.map V.str)) ∧ ∀ z ∈ ws.take i, nameB z = true) ⟨_, rfl, e3, g3, fun z hz => by rw [List.take_zero] at hz; cases hz⟩ (fun i σ H' _ hh => SqL.of hh.choose_spec.2.2.1) ?_ ?_
    · rintro i x σ H' hx ⟨k4, rfl, e, g, hn⟩
      rw [List.getElem?_map] at hx
      obtain ⟨z, hz, rfl⟩ := Option.map_eq_some_iff.mp hx
      walk_at "rc"
      refine ⟨z, rfl, lw z (List.mem_of_getElem? hz), fun H2 e2' => ?_⟩
      refine ⟨_, rfl, rd_ite (fun hb => ?_) fun hb => ?_⟩
      · walk_at "rc"
        have hb' : nameB z = false := by simpa using hb
        have fz : ws.find? (fun z => !nameB z) = some z := find_at hn hz hb'
        exact fun d hd => qb ga z fz d _ ((Kp.of_ex (e.trans e2')).trans (Kp.new hd)) (Evl.fresh_back (e.trans e2') hd) upd_same
      · walk_at "rc"
        have hb' : nameB z = true := by simpa using hb
        refine ⟨_, rfl, e.trans e2', e2' _ _ g, fun y hy => ?_⟩
        rw [List.take_succ, hz] at hy
        rcases List.mem_append.mp hy with hy | hy
        · exact hn y hy
        · rw [List.mem_singleton.mp hy]; exact hb'
    · rintro σ H' ⟨k4, rfl, e, g, hn⟩
      rw [List.length_map, List.take_length] at hn
      have nb : ws.find? (fun z => !nameB z) = none := List.find?_eq_none.mpr fun z hz => by rw [hn z hz]; decide
      have hm1 := e _ _ hm
      walk_at "rs"
      walk_at "rc"
      refine ⟨m, T.C_Book, dx, [], rfl, hm1, T.cl_Book, T.na_Book_letters, by show 0 < 1000; decide, ?_⟩
      have k1 : Kp [m] H (upd H' m (.ins T.C_Book dx (putF "letters" (.str ls) []))) := (Kp.of_ex e).trans (Kp.put List.mem_cons_self)
      generalize hH1 : upd H' m (.ins T.C_Book dx (putF "letters" (.str ls) [])) = H1 at k1
      have m1 : H1 m = some (.ins T.C_Book dx [("letters", .str ls)]) := by rw [← hH1]; exact upd_same
      have pm : p ≠ m := fun z => by rw [z, hm] at hp; cases hp
      have rm : r ≠ m := fun z => by rw [z, hm] at hr0; cases hr0
      have hp1 := k1 p _ (fun z => pm (List.mem_singleton.mp z)) hp
      have hr1 := k1 r _ (fun z => rm (List.mem_singleton.mp z)) hr0
      have kt : ∀ {kvs : List (L2.Key × V)} {ks : List Str}, Keys kvs ks → ∀ q ∈ kvs, ∃ z : Str, q.1 = .inr z := fun {kvs ks} hk q hq => by
        have : q.1 ∈ ks.map Sum.inr := by rw [← hk]; exact List.mem_map_of_mem hq
        obtain ⟨z, _, e⟩ := List.mem_map.mp this
        exact ⟨z, e.symm⟩
      have kl : ∀ {kvs : List (L2.Key × V)} {ks : List Str}, Keys kvs ks → kvs.length = ks.length := fun {kvs ks} hk => by
        have := congrArg List.length hk
        rwa [List.length_map, List.length_map] at this
      have lkp1 := kl hkp
      have lkr1 := kl hkr
      walk_at "rs"
      walk_at "rc"
      refine rd_copyE (d := p) (kvs := kp) (by omega) hp1 (fun v => rfl) (fun v => rfl) (kt hkp) (fun Hc N h => ⟨_, rfl, h⟩) (fun z v Hc N hz hrd hN => ?_) fun D1 H2 kp' e2 hD1 hk1 hl1 hs1 hv1 => ?_
      · walk_at "rc"
        exact ⟨p, v, rfl, hz ▸ (.inl ⟨_, .inr z, hrd, rfl, rfl⟩ : DGet Hc _ (.str z) _), hN⟩
      have m2 := e2 _ _ m1
      walk_at "rc"
      refine ⟨m, T.C_Book, dx, _, rfl, m2, T.cl_Book, T.na_Book__patterns, by show 1 < 1000; decide, ?_⟩
      have k2 : Kp [m] H (upd H2 m (.ins T.C_Book dx (putF "_patterns" (.ref D1) [("letters", .str ls)]))) := (k1.trans (Kp.of_ex e2)).trans (Kp.put List.mem_cons_self)
      have nD1 : D1 ≠ m := fun z => by rw [z, m1] at hD1; cases hD1
      have k12 : Kp [m] H2 (upd H2 m (.ins T.C_Book dx (putF "_patterns" (.ref D1) [("letters", .str ls)]))) := Kp.put List.mem_cons_self
      have hk2 := k12 D1 _ (fun z => nD1 (List.mem_singleton.mp z)) hk1
      have hr2 := k12 r _ (fun z => rm (List.mem_singleton.mp z)) (e2 _ _ hr1)
      generalize hH3 : upd H2 m (.ins T.C_Book dx (putF "_patterns" (.ref D1) [("letters", .str ls)])) = H3 at k2 hk2 hr2
      have m3 : H3 m = some (.ins T.C_Book dx [("letters", .str ls), ("_patterns", .ref D1)]) := by rw [← hH3]; exact upd_same
      walk_at "rs"
      walk_at "rc"
      refine rd_copyE (d := r) (kvs := kr) (by omega) hr2 (fun v => rfl) (fun v => rfl) (kt hkr) (fun Hc N h => ⟨_, rfl, h⟩) (fun z v Hc N hz hrd hN => ?_) fun D2 H4 kr' e4 hD2 hk4 hl4 hs4 hv4 => ?_
      · walk_at "rc"
        exact ⟨r, v, rfl, hz ▸ (.inl ⟨_, .inr z, hrd, rfl, rfl⟩ : DGet Hc _ (.str z) _), hN⟩
      have m4 := e4 _ _ m3
      walk_at "rc"
      refine ⟨m, T.C_Book, dx, _, rfl, m4, T.cl_Book, T.na_Book__rewriters, by show 2 < 1000; decide, ?_⟩
      have k4 : Kp [m] H (upd H4 m (.ins T.C_Book dx (putF "_rewriters" (.ref D2) [("letters", .str ls), ("_patterns", .ref D1)]))) := (k2.trans (Kp.of_ex e4)).trans (Kp.put List.mem_cons_self)
      have nD2 : D2 ≠ m := fun z => by rw [z, m3] at hD2; cases hD2
      have k34 : Kp [m] H4 (upd H4 m (.ins T.C_Book dx (putF "_rewriters" (.ref D2) [("letters", .str ls), ("_patterns", .ref D1)]))) := Kp.put List.mem_cons_self
      have hp5 := k34 D1 _ (fun z => nD1 (List.mem_singleton.mp z)) (e4 _ _ hk2)
      have hr5 := k34 D2 _ (fun z => nD2 (List.mem_singleton.mp z)) hk4
      generalize hH5 : upd H4 m (.ins T.C_Book dx (putF "_rewriters" (.ref D2) [("letters", .str ls), ("_patterns", .ref D1)])) = H5 at k4 hp5 hr5
      have m5 : H5 m = some (.ins T.C_Book dx [("letters", .str ls), ("_patterns", .ref D1), ("_rewriters", .ref D2)]) := by rw [← hH5]; exact upd_same
      walk_at "rc"
      intro D3 hD3
      walk_at "rc"
      have e6 := Evl.Ex.new (o := .dK []) hD3
      refine ⟨m, T.C_Book, dx, _, rfl, e6 _ _ m5, T.cl_Book, T.na_Book__machines, by show 3 < 1000; decide, ?_⟩
      have back : ∀ {Hc : Hp} {D : Addr}, Kp [m] H Hc → Hc D = none → D ≠ m → H D = none := fun {Hc D} k hn hne => by
        cases h : H D with
        | none => rfl
        | some o => rw [k D o (fun z => hne (List.mem_singleton.mp z)) h] at hn; cases hn
      have nD3 : D3 ≠ m := fun z => by rw [z, m5] at hD3; cases hD3
      have n31 : D3 ≠ D1 := fun z => by rw [z, hp5] at hD3; cases hD3
      have n32 : D3 ≠ D2 := fun z => by rw [z, hr5] at hD3; cases hD3
      refine qy ga nb D1 D2 D3 kp' kr' _ ((k4.trans (Kp.of_ex e6)).trans (Kp.put List.mem_cons_self)) (back k1 hD1 nD1) (back k2 hD2 nD2) (back k4 hD3 nD3) ⟨⟨dx, upd_same⟩, ?_, ?_, n31, n32, by omega, by omega⟩ hv1 hv4 ?_
      · rw [upd_ne nD1]; exact e6 _ _ hp5
      · rw [upd_ne nD2]; exact e6 _ _ hr5
      · rw [upd_ne nD3]; exact upd_same
end
section
theorem mono_ix {i : Nat} {v : V} : ∀ σ H (Q Q' : VK), (∀ v H1, Q v H1 → Q' v H1) → tOp (rIx K) (tVar i) (tC v) σ H Q → tOp (rIx K) (tVar i) (tC v) σ H Q' := fun σ H Q Q' h ⟨x, e, q⟩ => ⟨x, e, q.elim (fun ⟨p, xs, j, u, a, b, c, d, z⟩ => .inl ⟨p, xs, j, u, a, b, c, d, h _ _ z⟩) fun q => .inr (q.elim (fun ⟨p, xs, j, u, a, b, c, d, z⟩ => .inl ⟨p, xs, j, u, a, b, c, d, h _ _ z⟩) fun ⟨y, j, u, a, b, c, d, z⟩ => .inr ⟨y, j, u, a, b, c, d, h _ _ z⟩)⟩
theorem rd_inLs {a : Addr} {x : Str} {ys : List Str} {H : Hp} {Q : VK} (h : SqL K H a (ys.map V.str)) (q : Q (.bl (inV (.str x) (ys.map V.str))) H) : oIn K (.str x) (.ref a) H Q := by
  refine .inr ⟨a, ys.map V.str, rfl, .inl h, rfl, ?_, ?_⟩
  · rw [List.all_eq_true]
    intro v hv
    obtain ⟨x, _, rfl⟩ := List.mem_map.mp hv
    rfl
  · rw [if_neg (by decide)]
    exact q
theorem inV_str (x : Str) (l : List Str) : inV (.str x) (l.map V.str) = decide (x ∈ l) := by
  unfold inV
  rw [List.any_map, Bool.eq_iff_iff, List.any_eq_true, decide_eq_true_iff]
  constructor
  · rintro ⟨y, hy, e⟩
    have e : (y == x) = true := e
    rw [beq_iff_eq] at e
    exact e ▸ hy
  · intro h
    exact ⟨x, h, by show (x == x) = true; exact beq_self_eq_true x⟩
theorem rd_niLs {a : Addr} {x : Str} {ys : List Str} {H : Hp} {Q : VK} (h : SqL K H a (ys.map V.str)) (q : Q (.bl (!decide (x ∈ ys))) H) : oNotIn K (.str x) (.ref a) H Q := by
  refine .inr ⟨a, ys.map V.str, rfl, .inl h, rfl, ?_, ?_⟩
  · rw [List.all_eq_true]
    intro v hv
    obtain ⟨x, _, rfl⟩ := List.mem_map.mp hv
    rfl
  · rw [if_pos rfl, inV_str]
    exact q
end
section
/-- parts of a join, lines, programs -/
inductive Pa
  | txt (z : Str)
  | nam (z : Str)
inductive Ln
  | jo (n : Str) (ps : List Pa)
  | tu (n s : Str)
  | rw (n r s : Str)
  | ch (n s p y d : Str)
  | ne (s p : Str)
def Pa.kind : Pa → Str | .txt _ => "text" | .nam _ => "name"
def Pa.str : Pa → Str | .txt z => z | .nam z => z
def encPa (p : Pa) : PyData := .tuple [.str p.kind, .str p.str]
def Ln.kind : Ln → Str
  | .jo .. => "join" | .tu .. => "turn" | .rw .. => "rewrite" | .ch .. => "choose" | .ne .. => "need"
def Ln.rest : Ln → List PyData
  | .jo n ps => [.str n, .tuple (ps.map encPa)]
  | .tu n s => [.str n, .str s]
  | .rw n r s => [.str n, .str r, .str s]
  | .ch n s p y d => [.str n, .str s, .str p, .str y, .str d]
  | .ne s p => [.str s, .str p]
def encLn (l : Ln) : PyData := .tuple (.str l.kind :: l.rest)
def namsOf (ps : List Pa) : List Str := ps.filterMap fun | .nam z => some z | .txt _ => none
def Ln.reads : Ln → List Str
  | .jo _ ps => namsOf ps
  | .tu _ s => [s]
  | .rw _ _ s => [s]
  | .ch _ s _ y d => [s, y, d]
  | .ne s _ => [s]
def Ln.gives : Ln → List Str
  | .jo n _ => [n] | .tu n _ => [n] | .rw n _ _ => [n] | .ch n _ _ _ _ => [n] | .ne _ _ => []
structure Prg where
  inp : List Str
  lin : List Ln
  res : Str
inductive Fk
  | bad | taken | unknown | many | text
abbrev Flt := Option (Fk × Str)
def newName (known : List Str) (n : Str) : Flt := if nameB n = true then (if n ∈ known then some (.taken, n) else none) else some (.bad, n)
def unkF (known : List Str) : List Str → Flt
  | [] => none
  | n :: ns => if n ∈ known then unkF known ns else some (.unknown, n)
def textF (ls : Str) : List Pa → Flt
  | [] => none
  | .txt z :: ps => if isT ls z then textF ls ps else some (.text, z)
  | .nam _ :: ps => textF ls ps
def partsF (ls : Str) (ps : List Pa) : Flt := if 1 ≤ ps.length ∧ ps.length ≤ 6 then textF ls ps else some (.many, "parts")
def thingF (ls : Str) (hp hr : Str → Bool) : Ln → Flt
  | .jo _ ps => partsF ls ps
  | .tu _ _ => none
  | .rw _ r _ => if hr r = true then none else some (.unknown, r)
  | .ch _ _ p _ _ => if hp p = true then none else some (.unknown, p)
  | .ne _ p => if hp p = true then none else some (.unknown, p)
def entF (known : List Str) : List Str → Flt
  | [] => none
  | n :: ns => (newName known n).or (entF (known ++ [n]) ns)
def lineF (ls : Str) (hp hr : Str → Bool) (known : List Str) (l : Ln) : Flt := (unkF known l.reads).or ((thingF ls hp hr l).or (entF known l.gives))
def linesF (ls : Str) (hp hr : Str → Bool) (known : List Str) : List Ln → Flt
  | [] => none
  | l :: r => (lineF ls hp hr known l).or (linesF ls hp hr (known ++ l.gives) r)
def chk (ls : Str) (hp hr : Str → Bool) (g : Prg) : Flt :=
  if 1 ≤ g.inp.length ∧ g.inp.length ≤ 3 then
    if 12 < g.lin.length then some (.many, "lines")
    else (entF [] g.inp).or ((linesF ls hp hr g.inp g.lin).or (unkF (g.inp ++ g.lin.flatMap Ln.gives) [g.res]))
  else some (.many, "inputs")
/-! bounds -/
def Ln.strs : Ln → List Str
  | .jo n ps => n :: ps.map Pa.str
  | .tu n s => [n, s]
  | .rw n r s => [n, r, s]
  | .ch n s p y d => [n, s, p, y, d]
  | .ne s p => [s, p]
def GoodS (z : Str) : Prop := z.length ≤ 100 ∧ okS z
def Ln.many : Ln → Nat | .jo _ ps => ps.length | _ => 0
structure Ln.Ok (l : Ln) : Prop where
  s : ∀ z ∈ l.strs, GoodS z
  m : l.many ≤ 100
structure Prg.Ok (g : Prg) : Prop where
  i : ∀ z ∈ g.inp, GoodS z
  il : g.inp.length ≤ 100
  l : ∀ l ∈ g.lin, l.Ok
  ll : g.lin.length ≤ 100
  r : GoodS g.res
theorem reads_strs {l : Ln} {z : Str} (h : z ∈ l.reads) : z ∈ l.strs := by
  cases l with
  | jo n ps =>
    have h : z ∈ namsOf ps := h
    obtain ⟨p, hp, e⟩ := List.mem_filterMap.mp h
    refine List.mem_cons_of_mem _ (List.mem_map.mpr ⟨p, hp, ?_⟩)
    cases p with
    | txt y => cases e
    | nam y => cases e; rfl
  | tu n s => exact List.mem_cons_of_mem _ h
  | rw n r s => exact List.mem_cons_of_mem _ (List.mem_cons_of_mem _ h)
  | ch n s p y d => simp only [Ln.reads, Ln.strs, List.mem_cons, List.not_mem_nil, or_false] at h ⊢; rcases h with h | h | h <;> simp [h]
  | ne s p => simp only [Ln.reads, Ln.strs, List.mem_cons, List.not_mem_nil, or_false] at h ⊢; simp [h]
theorem gives_strs {l : Ln} {z : Str} (h : z ∈ l.gives) : z ∈ l.strs := by
  cases l with
  | ne s p => cases h
  | jo n ps => rw [List.mem_singleton.mp h]; exact List.mem_cons_self
  | tu n s => rw [List.mem_singleton.mp h]; exact List.mem_cons_self
  | rw n r s => rw [List.mem_singleton.mp h]; exact List.mem_cons_self
  | ch n s p y d => rw [List.mem_singleton.mp h]; exact List.mem_cons_self
def isNam : PyData → Bool
  | .tuple (.str k :: _) => decide (k = Str.ofString "name")
  | _ => false
def sndD : PyData → PyData
  | .tuple [_, x] => x
  | _ => .none
theorem nam_sel (ps : List Pa) : ((ps.map encPa).filter isNam).map sndD = (namsOf ps).map PyData.str := by
  induction ps with
  | nil => rfl
  | cons p ps ih =>
    unfold namsOf at ih ⊢
    cases p with
    | txt z => rw [List.map_cons, List.filter_cons_of_neg (by show ¬ decide (Str.ofString "text" = Str.ofString "name") = true; decide +kernel)]; exact ih
    | nam z => rw [List.map_cons, List.filter_cons_of_pos (by rfl)]; exact congrArg (PyData.str z :: ·) ih
theorem sne {P : Prop} (a b : String) (h : Str.ofString a = Str.ofString b) (ne : ¬ Str.ofString a = Str.ofString b := by decide +kernel) : P := absurd h ne
theorem map_strs (ss : List Str) : ∀ {K : PySem.W.Frag} {H : Hp}, DpAll K H (ss.map V.str) (ss.map PyData.str) := fun {K H} => dps_str ss
theorem dp_strs' {K : PySem.W.Frag} {H : Hp} : ∀ {vs : List V} {ss : List Str}, DpAll K H vs (ss.map PyData.str) → vs = ss.map V.str
  | [], [], _ => rfl
  | _ :: _, [], h => nomatch h
  | [], _ :: _, h => nomatch h
  | v :: vs, s :: ss, .cons h t => by rw [Dp.str_iff h, dp_strs' t]; rfl
end
section
variable (T : Txt K mg)
def fkC : Fk → Addr | .bad => T.C_BadName | .taken => T.C_NameTaken | .unknown => T.C_UnknownName | .many => T.C_TooMany | .text => T.C_BadText
/-- goes on where there is no fault, raises it where there is one -/
def Rz (F : Flt) (H : Hp) (Q : VK) (E : XK) : Prop := (F = none → ∀ H', Ex H H' → Q .non H') ∧
  ∀ f z, F = some (f, z) → ∀ d H', Ex H H' → H d = none → H' d = some (.xd [("what", .str z)]) → E (.ref (fkC T f)) (some d) H'
variable {T} in
theorem Rz.sub {F F1 : Flt} {H H1 : Hp} {Q Q1 : VK} {E : XK} (R : Rz T F H Q E) (e : Ex H H1) (h : ∀ x, F1 = some x → F = some x) (q : F1 = none → ∀ H', Ex H1 H' → Q1 .non H') : Rz T F1 H1 Q1 E :=
  ⟨q, fun f z hf d H' e2 hd hw => R.2 f z (h _ hf) d H' (e.trans e2) (Evl.fresh_back e hd) hw⟩
def spText (C : Addr) : Sp := fun vs H Q E => ∃ ls z : Str, vs = [.str ls, .str z] ∧ z.length < 100000 ∧ (isT ls z → ∀ H', Ex H H' → Q .non H') ∧ (¬ isT ls z → ∀ d H', H d = none → Ex (upd H d (.xd [("what", .str z)])) H' → E (.ref C) (some d) H')
theorem ok_check_text : FnOk P w K mg base (L2.CX P w) 4 T.a_check_text T.d_check_text ["letters", "text"] (spText T.C_BadText) := by
  refine T.f_check_text.okX sc_check_text (fun vs H Q E h => ?_) (fun cdv A outer s H vs Q E hr h => ?_)
  · obtain ⟨_, _, rfl, _⟩ := h; rfl
  · obtain ⟨ls, z, rfl, hz, qy, qn⟩ := h
    refine ⟨_, (pss_one (ps_if (pt_not (pt_val (pe_callE (ok_is_text T) (hr.mono (by decide)) T.o_is_text (pa_cons (pv 0) (pa_cons (pv 1) pa_nil)))))
    (pss_one (ps_raiseW rfl T.x_BadText (ok_init T) T.tI T.bI (hr.mono (by decide)) T.g_BadText (takes_of rfl rfl rfl rfl) (pa_cons (pv 1) pa_nil) (MonoA.one mono_var)))
    pss_nil)), ?_⟩
    walk_at "rd"
    refine ⟨ls, z, rfl, hz, fun H' e => ?_⟩
    walk_at "rd"
    refine rd_iteN (fun h1 => ?_) (fun h1 => ?_)
    · walk_at "rd"
      intro d hd
      refine qn h1 d _ (Evl.fresh_back e hd) fun a o ha => ?_
      by_cases hb : a = d
      · rw [hb, upd_same] at ha ⊢
        exact ha
      · rw [upd_ne hb] at ha ⊢
        exact e a o ha
    · walk_at "rd"
      exact qy h1 _ e
/-! ### names -/
def spReads : Sp := fun vs H Q _ => ∃ (v : V) (l : Ln), vs = [v] ∧ Dp K H v (encLn l) ∧ l.many ≤ 1000 ∧ ∀ L H', Ex H H' → H L = none → H' L = some (.lst (l.reads.map V.str)) → Q (.ref L) H'
theorem ok_names_read : FnOk P w K mg base CX0 1 T.a_names_read T.d_names_read ["line"] (spReads (K := K)) := by
  refine T.f_names_read.ok sc_names_read (fun vs H Q E h => ?_) (fun cdv A outer s H vs Q E hr h => ?_)
  · obtain ⟨_, _, rfl, _⟩ := h; rfl
  · obtain ⟨v, l, rfl, hv, hm, q⟩ := h
    have sz : 100000 ≤ sizeLine := by decide
    refine ⟨_, (pss_cons (ps_set (i := 1) sc_names_read.nd rfl (by first | exact Or.inl rfl | exact Or.inr rfl) (pe_ix (kIx K) (pv 0) pe_int (fun _ _ => rfl)))
  (pss_cons (ps_if (pt_cmpR (kEq K rfl hr.units) (pv 1) pe_str (by first | rfl | exact nomark _))
    (pss_one (ps_ret (pe_lc (own := [("part", 2)]) (g := gName 2)  (by rfl) sc_names_read.nd (kAny K rfl (pe_ix (kIx K) (pv 0) pe_int (fun _ _ => rfl))) (blkOk_by (own := [("part", 2)]) (N := ["line", "kind", "part"]) (sc := defScope s_names_read) (by decide +kernel)) (fun _ _ _ _ _ => (pg_name (i := 2) sc_names_read.nd rfl (by first | exact Or.inl rfl | exact Or.inr rfl))) (fun _ _ _ _ _ => (pts_one (pt_cmpR (kEq K rfl hr.units) (pe_ix (kIx K) (pv 2) pe_int (fun _ _ => rfl)) pe_str (by first | rfl | exact nomark _)))) (fun _ _ _ _ _ => (pe_ix (kIx K) (pv 2) pe_int (fun _ _ => rfl))))))
    pss_nil)
  (pss_cons (ps_if (pt_cmpR (kEq K rfl hr.units) (pv 1) pe_str (by first | rfl | exact nomark _))
    (pss_one (ps_ret (pe_lst (pa_cons (pe_ix (kIx K) (pv 0) pe_int (fun _ _ => rfl)) pa_nil))))
    pss_nil)
  (pss_cons (ps_if (pt_cmpR (kEq K rfl hr.units) (pv 1) pe_str (by first | rfl | exact nomark _))
    (pss_one (ps_ret (pe_lst (pa_cons (pe_ix (kIx K) (pv 0) pe_int (fun _ _ => rfl)) pa_nil))))
    pss_nil)
  (pss_cons (ps_if (pt_cmpR (kEq K rfl hr.units) (pv 1) pe_str (by first | rfl | exact nomark _))
    (pss_one (ps_ret (pe_lst (pa_cons (pe_ix (kIx K) (pv 0) pe_int (fun _ _ => rfl)) (pa_cons (pe_ix (kIx K) (pv 0) pe_int (fun _ _ => rfl)) (pa_cons (pe_ix (kIx K) (pv 0) pe_int (fun _ _ => rfl)) pa_nil))))))
    pss_nil)
  (pss_one (ps_ret (pe_lst (pa_cons (pe_ix (kIx K) (pv 0) pe_int (fun _ _ => rfl)) pa_nil))))))))), ?_⟩
    have fin1 : ∀ (d : List Str), l.reads = d → ∀ L, H L = none → Q (.ref L) (upd H L (.lst (d.map V.str))) := fun d e L hL => q L _ (Evl.Ex.new hL) hL (by rw [upd_same, e])
    walk_at "rc"
    refine rd_ixDT (Evl.Ex.refl H) hv (i := 0) rfl fun v0 h0 => ?_
    cases Dp.str_iff h0
    cases l with
    | jo n ps =>
      walk_at "rc"
      walk_at "rs"
      walk_at "rc"
      refine rd_iteD (fun _ => ?_) fun h => absurd rfl h
      walk_at "rc"
      refine rd_anyT' ?_
      walk_at "rc"
      refine rd_ixDT (Evl.Ex.refl H) hv (i := 2) rfl fun v2 h2 => ?_
      refine rd_itDT (Evl.Ex.refl H) h2 fun J w => ?_
      refine lc_FD (K := K) (S := []) tr_ex (fun b hb => nomatch hb) w (by rw [hid_nil]; exact Evl.Ex.refl H) (by rw [List.length_map]; have : ps.length ≤ 1000 := hm; omega) (fun v => rfl) isNam sndD (fun L d v Hc hd hv hL nL t1 hs up N hN => ?_) (fun L d v Hc hd hv hq hL nL t1 hs up N hN => ?_) fun L us H1 e1 hL nL hL1 hds => ?_
      · obtain ⟨p, hp, rfl⟩ := List.mem_map.mp hd
        walk_at "rc"
        refine rd_ixDT hid_ex (ds := [.str p.kind, .str p.str]) hv (i := 0) rfl fun v3 h3 => ?_
        cases Dp.str_iff h3
        walk_at "rc"
        exact hN _ (Evl.Ex.refl Hc)
      · obtain ⟨p, hp, rfl⟩ := List.mem_map.mp hd
        walk_at "rc"
        refine rd_ixDT hid_ex (ds := [.str p.kind, .str p.str]) hv (i := 1) rfl fun v3 h3 => ?_
        exact hN _ _ (Evl.Ex.refl Hc) h3
      · rw [nam_sel] at hds
        have eu := dp_strs' hds
        subst eu
        walk_at "rc"
        exact q L H1 e1 hL hL1
    | tu n s =>
      walk_at "rc"
      walk_at "rs"
      walk_at "rc"
      refine rd_iteD (fun h => sne "turn" "join" h) fun _ => ?_
      walk_at "rc"
      walk_at "rs"
      walk_at "rc"
      refine rd_iteD (fun _ => ?_) fun h => absurd rfl h
      walk_at "rc"
      refine rd_ixDT (Evl.Ex.refl H) hv (i := 2) rfl fun v2 h2 => ?_
      cases Dp.str_iff h2
      walk_at "rc"
      exact ⟨by show 1 ≤ sizeLine; omega, fin1 [s] rfl⟩
    | rw n r s =>
      walk_at "rc"
      walk_at "rs"
      walk_at "rc"
      refine rd_iteD (fun h => sne "rewrite" "join" h) fun _ => ?_
      walk_at "rc"
      walk_at "rs"
      walk_at "rc"
      refine rd_iteD (fun h => sne "rewrite" "turn" h) fun _ => ?_
      walk_at "rc"
      walk_at "rs"
      walk_at "rc"
      refine rd_iteD (fun _ => ?_) fun h => absurd rfl h
      walk_at "rc"
      refine rd_ixDT (Evl.Ex.refl H) hv (i := 3) rfl fun v2 h2 => ?_
      cases Dp.str_iff h2
      walk_at "rc"
      exact ⟨by show 1 ≤ sizeLine; omega, fin1 [s] rfl⟩
    | ch n s p y d =>
      walk_at "rc"
      walk_at "rs"
      walk_at "rc"
      refine rd_iteD (fun h => sne "choose" "join" h) fun _ => ?_
      walk_at "rc"
      walk_at "rs"
      walk_at "rc"
      refine rd_iteD (fun h => sne "choose" "turn" h) fun _ => ?_
      walk_at "rc"
      walk_at "rs"
      walk_at "rc"
      refine rd_iteD (fun h => sne "choose" "rewrite" h) fun _ => ?_
      walk_at "rc"
      walk_at "rs"
      walk_at "rc"
      refine rd_iteD (fun _ => ?_) fun h => absurd rfl h
      walk_at "rc"
      refine rd_ixDT (Evl.Ex.refl H) hv (i := 2) rfl fun v2 h2 => ?_
      cases Dp.str_iff h2
      walk_at "rc"
      refine rd_ixDT (Evl.Ex.refl H) hv (i := 4) rfl fun v2 h2 => ?_
      cases Dp.str_iff h2
      walk_at "rc"
      refine rd_ixDT (Evl.Ex.refl H) hv (i := 5) rfl fun v2 h2 => ?_
      cases Dp.str_iff h2
      walk_at "rc"
      exact ⟨by show 3 ≤ sizeLine; omega, fin1 [s, y, d] rfl⟩
    | ne s p =>
      walk_at "rc"
      walk_at "rs"
      walk_at "rc"
      refine rd_iteD (fun h => sne "need" "join" h) fun _ => ?_
      walk_at "rc"
      walk_at "rs"
      walk_at "rc"
      refine rd_iteD (fun h => sne "need" "turn" h) fun _ => ?_
      walk_at "rc"
      walk_at "rs"
      walk_at "rc"
      refine rd_iteD (fun h => sne "need" "rewrite" h) fun _ => ?_
      walk_at "rc"
      walk_at "rs"
      walk_at "rc"
      refine rd_iteD (fun h => sne "need" "choose" h) fun _ => ?_
      walk_at "rc"
      refine rd_ixDT (Evl.Ex.refl H) hv (i := 1) rfl fun v2 h2 => ?_
      cases Dp.str_iff h2
      walk_at "rc"
      exact ⟨by show 1 ≤ sizeLine; omega, fin1 [s] rfl⟩
def spGives : Sp := fun vs H Q _ => ∃ (v : V) (l : Ln), vs = [v] ∧ Dp K H v (encLn l) ∧ ∀ L H', Ex H H' → H L = none → H' L = some (.lst (l.gives.map V.str)) → Q (.ref L) H'
theorem ok_names_given : FnOk P w K mg base CX0 1 T.a_names_given T.d_names_given ["line"] (spGives (K := K)) := by
  refine T.f_names_given.ok sc_names_given (fun vs H Q E h => ?_) (fun cdv A outer s H vs Q E hr h => ?_)
  · obtain ⟨_, _, rfl, _⟩ := h; rfl
  · obtain ⟨v, l, rfl, hv, q⟩ := h
    have sz : 100000 ≤ sizeLine := by decide
    refine ⟨_, (pss_cons (ps_if (pt_cmpR (kEq K rfl hr.units) (pe_ix (kIx K) (pv 0) pe_int (fun _ _ => rfl)) pe_str (by first | rfl | exact nomark _))
    (pss_one (ps_ret (pe_lst pa_nil)))
    pss_nil)
  (pss_one (ps_ret (pe_lst (pa_cons (pe_ix (kIx K) (pv 0) pe_int (fun _ _ => rfl)) pa_nil))))), ?_⟩
    have fin1 : ∀ (d : List Str), l.gives = d → ∀ L, H L = none → Q (.ref L) (upd H L (.lst (d.map V.str))) := fun d e L hL => q L _ (Evl.Ex.new hL) hL (by rw [upd_same, e])
    walk_at "rc"
    walk_at "rs"
    walk_at "rc"
    refine rd_ixDT (Evl.Ex.refl H) hv (i := 0) rfl fun v0 h0 => ?_
    cases Dp.str_iff h0
    walk_at "rc"
    cases l with
    | ne s p =>
      refine rd_iteD (fun _ => ?_) fun h => absurd rfl h
      walk_at "rc"
      exact ⟨Nat.zero_le _, fin1 [] rfl⟩
    | jo n ps =>
      refine rd_iteD (fun h => sne "join" "need" h) fun _ => ?_
      walk_at "rc"
      refine rd_ixDT (Evl.Ex.refl H) hv (i := 1) rfl fun v2 h2 => ?_
      cases Dp.str_iff h2
      walk_at "rc"
      exact ⟨by show 1 ≤ sizeLine; omega, fin1 [n] rfl⟩
    | tu n s =>
      refine rd_iteD (fun h => sne "turn" "need" h) fun _ => ?_
      walk_at "rc"
      refine rd_ixDT (Evl.Ex.refl H) hv (i := 1) rfl fun v2 h2 => ?_
      cases Dp.str_iff h2
      walk_at "rc"
      exact ⟨by show 1 ≤ sizeLine; omega, fin1 [n] rfl⟩
    | rw n r s =>
      refine rd_iteD (fun h => sne "rewrite" "need" h) fun _ => ?_
      walk_at "rc"
      refine rd_ixDT (Evl.Ex.refl H) hv (i := 1) rfl fun v2 h2 => ?_
      cases Dp.str_iff h2
      walk_at "rc"
      exact ⟨by show 1 ≤ sizeLine; omega, fin1 [n] rfl⟩
    | ch n s p y d =>
      refine rd_iteD (fun h => sne "choose" "need" h) fun _ => ?_
      walk_at "rc"
      refine rd_ixDT (Evl.Ex.refl H) hv (i := 1) rfl fun v2 h2 => ?_
      cases Dp.str_iff h2
      walk_at "rc"
      exact ⟨by show 1 ≤ sizeLine; omega, fin1 [n] rfl⟩
def spNewN : Sp := fun vs H Q E => ∃ (z : Str) (k : Addr) (known : List Str), vs = [.str z, .ref k] ∧ SqL K H k (known.map V.str) ∧ z.length ≤ 10000 ∧ Rz T (newName known z) H Q E
theorem ok__check_new_name : FnOk P w K mg base (L2.CX P w) 4 T.a__check_new_name T.d__check_new_name ["name", "known"] (spNewN T) := by
  refine T.f__check_new_name.okX sc__check_new_name (fun vs H Q E h => ?_) (fun cdv A outer s H vs Q E hr h => ?_)
  · obtain ⟨_, _, _, rfl, _⟩ := h; rfl
  · obtain ⟨z, k, known, rfl, hk, hz, qy, qn⟩ := h
    refine ⟨_, (pss_cons (ps_if (pt_not (pt_val (pe_callE (ok_is_name T) (hr.mono (by decide)) T.o_is_name (pa_cons (pv 0) pa_nil))))
    (pss_one (ps_raiseW rfl T.x_BadName (ok_init T) T.tI T.bI (hr.mono (by decide)) T.g_BadName (takes_of rfl rfl rfl rfl) (pa_cons (pv 0) pa_nil) (MonoA.one mono_var)))
    pss_nil)
  (pss_one (ps_if (pt_cmpR (kIn K) (pv 0) (pv 1) (by first | rfl | exact nomark _))
    (pss_one (ps_raiseW rfl T.x_NameTaken (ok_init T) T.tI T.bI (hr.mono (by decide)) T.g_NameTaken (takes_of rfl rfl rfl rfl) (pa_cons (pv 0) pa_nil) (MonoA.one mono_var)))
    pss_nil))), ?_⟩
    walk_at "rc"
    walk_at "rs"
    walk_at "rc"
    refine ⟨z, rfl, hz, fun H1 e1 => ?_⟩
    walk_at "rc"
    refine rd_ite (fun h1 => ?_) fun h1 => ?_
    · walk_at "rc"
      intro d hd
      refine qn .bad z (by unfold newName; rw [if_neg (by simpa using h1)]) d _ (e1.trans (Evl.Ex.new hd)) (Evl.fresh_back e1 hd) upd_same
    · have h1 : nameB z = true := by simpa using h1
      walk_at "rc"
      refine rd_inLs (Evl.ex_l e1 hk) ?_
      rw [inV_str]
      walk_at "rc"
      refine rd_iteD (fun h2 => ?_) fun h2 => ?_
      · walk_at "rc"
        intro d hd
        refine qn .taken z (by unfold newName; rw [if_pos h1, if_pos h2]) d _ (e1.trans (Evl.Ex.new hd)) (Evl.fresh_back e1 hd) upd_same
      · walk_at "rc"
        exact qy (by unfold newName; rw [if_pos h1, if_neg h2]) _ e1
def spKnown : Sp := fun vs H Q E => ∃ (l k : Addr) (ns known : List Str), vs = [.ref l, .ref k] ∧ SqL K H l (ns.map V.str) ∧ SqL K H k (known.map V.str) ∧ Rz T (unkF known ns) H Q E
theorem unkF_drop {known ns : List Str} {i : Nat} {z : Str} (h : ns[i]? = some z) (hd : unkF known ns = unkF known (ns.drop i)) : (z ∈ known → unkF known ns = unkF known (ns.drop (i + 1))) ∧ (z ∉ known → unkF known ns = some (.unknown, z)) := by
  obtain ⟨hi, rfl⟩ := List.getElem?_eq_some_iff.mp h
  rw [List.drop_eq_getElem_cons hi] at hd
  exact ⟨fun hz => by rw [hd]; exact if_pos hz, fun hz => by rw [hd]; exact if_neg hz⟩
theorem ok__check_known : FnOk P w K mg base (L2.CX P w) 4 T.a__check_known T.d__check_known ["names", "known"] (spKnown T) := by
  refine T.f__check_known.okX sc__check_known (fun vs H Q E h => ?_) (fun cdv A outer s H vs Q E hr h => ?_)
  · obtain ⟨_, _, _, _, rfl, _⟩ := h; rfl
  · obtain ⟨l, k, ns, known, rfl, hl, hk, qy, qn⟩ := h
    refine ⟨_, (pss_one (ps_for (passes_of rfl) rfl (kAny K rfl (pv 0)) (pg_name (i := 2) sc__check_known.nd rfl (by first | exact Or.inl rfl | exact Or.inr rfl))
    (pss_one (ps_if (pt_cmpR (kNotIn K) (pv 2) (pv 1) (by first | rfl | exact nomark _))
    (pss_one (ps_raiseW rfl T.x_UnknownName (ok_init T) T.tI T.bI (hr.mono (by decide)) T.g_UnknownName (takes_of rfl rfl rfl rfl) (pa_cons (pv 2) pa_nil) (MonoA.one mono_var)))
    pss_nil)))), ?_⟩
    walk_at "rc"
    refine rd_anyL' ?_
    walk_at "rc"
    refine ⟨l, rfl, ⟨_, hl⟩, ?_⟩
    refine fo_list (a := l) (xs := ns.map V.str) (fun i σ H' => (∃ v, σ = [some (.ref l), some (.ref k), v]) ∧ H' = H ∧ unkF known ns = unkF known (ns.drop i)) ⟨⟨_, rfl⟩, rfl, rfl⟩ (fun i σ H' _ h => by rw [h.2.1]; exact hl) ?_ ?_
    · rintro i x σ H' hx ⟨⟨v, rfl⟩, rfl, hd⟩
      rw [List.getElem?_map] at hx
      obtain ⟨z, hz, rfl⟩ := Option.map_eq_some_iff.mp hx
      have hu := unkF_drop hz hd
      walk_at "rc"
      refine rd_niLs hk ?_
      walk_at "rc"
      refine rd_iteN (fun h2 => ?_) fun h2 => ?_
      · walk_at "rc"
        intro d hd
        exact qn .unknown z (hu.2 h2) d _ (Evl.Ex.new hd) hd upd_same
      · walk_at "rc"
        exact ⟨⟨_, rfl⟩, rfl, hu.1 h2⟩
    · rintro σ H' ⟨⟨v, rfl⟩, rfl, hd⟩
      rw [List.length_map, List.drop_length] at hd
      walk_at "rc"
      exact qy hd _ (Evl.Ex.refl _)
end
section
variable (T : Txt K mg)
theorem textF_drop {ls : Str} {ps : List Pa} {i : Nat} {p : Pa} (h : ps[i]? = some p) (hd : textF ls ps = textF ls (ps.drop i)) :
    (∀ z, p = .txt z → isT ls z → textF ls ps = textF ls (ps.drop (i + 1))) ∧ (∀ z, p = .txt z → ¬ isT ls z → textF ls ps = some (.text, z)) ∧ (∀ z, p = .nam z → textF ls ps = textF ls (ps.drop (i + 1))) := by
  obtain ⟨hi, rfl⟩ := List.getElem?_eq_some_iff.mp h
  rw [List.drop_eq_getElem_cons hi] at hd
  refine ⟨fun z e hz => ?_, fun z e hz => ?_, fun z e => ?_⟩
  · rw [e] at hd; rw [hd]; exact if_pos hz
  · rw [e] at hd; rw [hd]; exact if_neg hz
  · rw [e] at hd; rw [hd]; rfl
def spParts : Sp := fun vs H Q E => ∃ (ls : Str) (v : V) (ps : List Pa), vs = [.str ls, v] ∧ Dp K H v (.tuple (ps.map encPa)) ∧ ps.length ≤ 1000 ∧ (∀ p ∈ ps, p.str.length ≤ 1000) ∧ Rz T (partsF ls ps) H Q E
theorem ok__check_parts : FnOk P w K mg base (L2.CX P w) 5 T.a__check_parts T.d__check_parts ["letters", "parts"] (spParts T) := by
  refine T.f__check_parts.okX sc__check_parts (fun vs H Q E h => ?_) (fun cdv A outer s H vs Q E hr h => ?_)
  · obtain ⟨_, _, _, rfl, _⟩ := h; rfl
  · obtain ⟨ls, v, ps, rfl, hv, lps, lst, qy, qn⟩ := h
    have sz : 100000 ≤ sizeLine := by decide
    refine ⟨_, (pss_cons (ps_if (pt_not (pt_chain op_leP op_leP pe_int (pe_callB (kLen K) (by rfl) T.nb_len (by decide +kernel) (pa_cons (pv 1) pa_nil)) (pe_globI (by rfl) T.c_MOST_PARTS)))
    (pss_one (ps_raiseW rfl T.x_TooMany (ok_init T) T.tI T.bI (hr.mono (by decide)) T.g_TooMany (takes_of rfl rfl rfl rfl) (pa_cons pe_str pa_nil) (MonoA.one mono_c)))
    pss_nil)
  (pss_one (ps_for (passes_of rfl) rfl (kAny K rfl (pv 1)) (kGt K rfl (pg_tup (n := 2) (by rfl) (pgs_cons (pg_name (i := 2) sc__check_parts.nd rfl (by first | exact Or.inl rfl | exact Or.inr rfl)) (pgs_cons (pg_name (i := 3) sc__check_parts.nd rfl (by first | exact Or.inl rfl | exact Or.inr rfl)) pgs_nil))))
    (pss_one (ps_if (pt_cmpR (kEq K rfl hr.units) (pv 2) pe_str (by first | rfl | exact nomark _))
    (pss_one (ps_expr (pe_callR (ok_check_text T) (hr.mono (by decide)) T.o_check_text (takes_of rfl rfl rfl rfl) (pa_cons (pv 0) (pa_cons (pv 3) pa_nil)))))
    pss_nil))))), ?_⟩
    walk_at "rc"
    walk_at "rs"
    walk_at "rc"
    refine rd_lenDT (Evl.Ex.refl H) hv ?_
    rw [List.length_map]
    walk_at "rc"
    have mk : ¬ (1 ≤ ps.length ∧ ps.length ≤ 6) → partsF ls ps = some (Fk.many, Str.ofString "parts") := fun h => if_neg h
    refine rd_iteD (fun h1 => ?_) fun h1 => ?_
    rotate_left
    · walk_at "rc"
      intro d hd
      exact qn .many "parts" (mk (by omega)) d _ (Evl.Ex.new hd) hd upd_same
    walk_at "rc"
    refine rd_iteN (fun h2 => ?_) fun h2 => ?_
    · walk_at "rc"
      intro d hd
      exact qn .many "parts" (mk (by omega)) d _ (Evl.Ex.new hd) hd upd_same
    have ek : partsF ls ps = textF ls ps := if_pos (⟨by omega, by omega⟩ : 1 ≤ ps.length ∧ ps.length ≤ 6)
    walk_at "rc"
    refine rd_anyT' ?_
    walk_at "rc"
    refine rd_itDT (Evl.Ex.refl H) hv fun J w => ?_
    refine fo_D w (fun i σ H' => (∃ a b, σ = [some (.str ls), some v, a, b]) ∧ Ex H H' ∧ textF ls ps = textF ls (ps.drop i)) ⟨⟨_, _, rfl⟩, Evl.Ex.refl H, rfl⟩ (fun i σ H' _ h => h.2.1) ?_ ?_
    · rintro i d x σ H' hd hx ⟨⟨a, b, rfl⟩, e, ht⟩
      rw [List.getElem?_map] at hd
      obtain ⟨p, hp, rfl⟩ := Option.map_eq_some_iff.mp hd
      have hu := textF_drop hp ht
      have lp := lst p (List.mem_of_getElem? hp)
      walk_at "rc"
      refine rd_gtD (ds := [.str p.kind, .str p.str]) e hx rfl fun xs hxs => ?_
      cases hxs with
      | cons h1 t1 =>
      cases t1 with
      | cons h2 t2 =>
      cases t2
      cases Dp.str_iff h1
      cases Dp.str_iff h2
      walk_at "rc"
      cases p with
      | nam z =>
        refine rd_iteD (fun h => sne "name" "text" h) fun _ => ?_
        walk_at "rc"
        exact ⟨⟨_, _, rfl⟩, e, hu.2.2 z rfl⟩
      | txt z =>
        refine rd_iteD (fun _ => ?_) fun h => absurd rfl h
        walk_at "rc"
        refine ⟨ls, z, rfl, Nat.lt_of_le_of_lt lp (by decide), fun hz H2 e2 => ?_, fun hz d H2 hd hw => ?_⟩
        · exact ⟨⟨_, _, rfl⟩, e.trans e2, hu.1 z rfl hz⟩
        · exact qn .text z (ek.trans (hu.2.1 z rfl hz)) d H2 ((e.trans (Evl.Ex.new hd)).trans hw) (Evl.fresh_back e hd) (hw _ _ upd_same)
    · rintro σ H' ⟨⟨a, b, rfl⟩, e, ht⟩
      rw [List.length_map, List.drop_length] at ht
      walk_at "rc"
      exact qy (ek.trans ht) _ e
def spBkHas : Sp := fun vs H Q E => ∃ (b : Addr) (v : V) (l : Ln) (ls : Str) (dp dr dm : Addr) (kp kr : List (L2.Key × V)), vs = [.ref b, v] ∧ BkF T.C_Book H b ls dp dr dm kp kr ∧ Dp K H v (encLn l) ∧ l.Ok ∧
  Rz T (thingF ls (fun z => (valV kp (.inr z)).isSome) (fun z => (valV kr (.inr z)).isSome) l) H Q E
theorem ok__check_book_has : FnOk P w K mg base (L2.CX P w) 6 T.a__check_book_has T.d__check_book_has ["book", "line"] (spBkHas T) := by
  refine T.f__check_book_has.okX sc__check_book_has (fun vs H Q E h => ?_) (fun cdv A outer s H vs Q E hr h => ?_)
  · obtain ⟨_, _, _, _, _, _, _, _, _, rfl, _⟩ := h; rfl
  · obtain ⟨b, v, l, ls, dp, dr, dm, kp, kr, rfl, B, hv, ok, qy, qn⟩ := h
    have sz : 100000 ≤ sizeLine := by decide
    obtain ⟨dx, hb⟩ := B.ob
    refine ⟨_, (pss_cons (ps_set (i := 2) sc__check_book_has.nd rfl (by first | exact Or.inl rfl | exact Or.inr rfl) (pe_ix (kIx K) (pv 1) pe_int (fun _ _ => rfl)))
  (pss_one (ps_if (pt_cmpR (kEq K rfl hr.units) (pv 2) pe_str (by first | rfl | exact nomark _))
    (pss_one (ps_expr (pe_callR (ok__check_parts T) (hr.mono (by decide)) T.o__check_parts (takes_of rfl rfl rfl rfl) (pa_cons (kFld K rfl (pe_fld (pv 0) rfl)) (pa_cons (pe_ix (kIx K) (pv 1) pe_int (fun _ _ => rfl)) pa_nil)))))
    (pss_one (ps_if (PW.pt (pw_and (pt_cmpR (kEq K rfl hr.units) (pv 2) pe_str (by first | rfl | exact nomark _)) (pw_and1 (pt_not (pt_val (pe_meth (pv 0) T.cl_Book T.m_Book_has_rewriter (ok_Book_has_rewriter T) (hr.mono (by decide)) T.b_Book_has_rewriter .nil pass0 (pa_cons (pe_ix (kIx K) (pv 1) pe_int (fun _ _ => rfl)) pa_nil)))))))
    (pss_one (ps_raiseW rfl T.x_UnknownName (ok_init T) T.tI T.bI (hr.mono (by decide)) T.g_UnknownName (takes_of rfl rfl rfl rfl) (pa_cons (pe_ix (kIx K) (pv 1) pe_int (fun _ _ => rfl)) pa_nil) (MonoA.one mono_ix)))
    (pss_one (ps_if (PW.pt (pw_and (pt_cmpR (kEq K rfl hr.units) (pv 2) pe_str (by first | rfl | exact nomark _)) (pw_and1 (pt_not (pt_val (pe_meth (pv 0) T.cl_Book T.m_Book_has_pattern (ok_Book_has_pattern T) (hr.mono (by decide)) T.b_Book_has_pattern .nil pass0 (pa_cons (pe_ix (kIx K) (pv 1) pe_int (fun _ _ => rfl)) pa_nil)))))))
    (pss_one (ps_raiseW rfl T.x_UnknownName (ok_init T) T.tI T.bI (hr.mono (by decide)) T.g_UnknownName (takes_of rfl rfl rfl rfl) (pa_cons (pe_ix (kIx K) (pv 1) pe_int (fun _ _ => rfl)) pa_nil) (MonoA.one mono_ix)))
    (pss_one (ps_if (PW.pt (pw_and (pt_cmpR (kEq K rfl hr.units) (pv 2) pe_str (by first | rfl | exact nomark _)) (pw_and1 (pt_not (pt_val (pe_meth (pv 0) T.cl_Book T.m_Book_has_pattern (ok_Book_has_pattern T) (hr.mono (by decide)) T.b_Book_has_pattern .nil pass0 (pa_cons (pe_ix (kIx K) (pv 1) pe_int (fun _ _ => rfl)) pa_nil)))))))
    (pss_one (ps_raiseW rfl T.x_UnknownName (ok_init T) T.tI T.bI (hr.mono (by decide)) T.g_UnknownName (takes_of rfl rfl rfl rfl) (pa_cons (pe_ix (kIx K) (pv 1) pe_int (fun _ _ => rfl)) pa_nil) (MonoA.one mono_ix)))
    pss_nil))))))))), ?_⟩
    walk_at "rc"
    refine rd_ixDT (Evl.Ex.refl H) hv (i := 0) rfl fun v0 h0 => ?_
    cases Dp.str_iff h0
    cases l with
    | jo n ps =>
      walk_at "rc"
      refine rd_iteD (fun _ => ?_) fun h => absurd rfl h
      walk_at "rc"
      refine ⟨b, _, dx, _, _, rfl, hb, T.cl_Book, T.na_Book_letters, rfl, ?_⟩
      walk_at "rc"
      refine rd_ixDT (Evl.Ex.refl H) hv (i := 2) rfl fun v2 h2 => ?_
      walk_at "rc"
      have hm : ps.length ≤ 100 := ok.m
      refine ⟨ls, v2, ps, rfl, h2, by omega, fun p hp => Nat.le_trans (ok.s p.str (List.mem_cons_of_mem _ (List.mem_map_of_mem hp))).1 (by decide), qy, qn⟩
    | tu n s =>
      walk_at "rc"
      refine rd_iteD (fun h => sne "turn" "join" h) fun _ => ?_
      walk_at "rc"
      refine rd_iteD (fun h => sne "turn" "rewrite" h) fun _ => ?_
      walk_at "rc"
      refine rd_iteD (fun h => sne "turn" "choose" h) fun _ => ?_
      walk_at "rc"
      refine rd_iteD (fun h => sne "turn" "need" h) fun _ => ?_
      walk_at "rc"
      exact qy rfl _ (Evl.Ex.refl H)
    | rw n r s =>
      walk_at "rc"
      refine rd_iteD (fun h => sne "rewrite" "join" h) fun _ => ?_
      walk_at "rc"
      refine rd_iteD (fun _ => ?_) fun h => absurd rfl h
      walk_at "rc"
      refine ⟨b, dx, _, rfl, hb, rfl, ?_⟩
      walk_at "rc"
      refine rd_ixDT (Evl.Ex.refl H) hv (i := 2) rfl fun v2 h2 => ?_
      cases Dp.str_iff h2
      walk_at "rc"
      refine ⟨b, r, ls, dp, dr, dm, kp, kr, rfl, B, ?_⟩
      walk_at "rc"
      refine rd_ite (fun hh => ?_) fun hh => ?_
      · have hh : (valV kr (.inr r)).isSome = false := by simpa using hh
        walk_at "rc"
        refine rd_ixDT (Evl.Ex.refl H) hv (i := 2) rfl fun v3 h3 => ?_
        cases Dp.str_iff h3
        walk_at "rc"
        intro d hd
        exact qn .unknown r (if_neg (fun e => by have e : (valV kr (.inr r)).isSome = true := e; rw [hh] at e; cases e)) d _ (Evl.Ex.new hd) hd upd_same
      · have hh : (valV kr (.inr r)).isSome = true := by simpa using hh
        walk_at "rc"
        refine rd_iteD (fun h => sne "rewrite" "choose" h) fun _ => ?_
        walk_at "rc"
        refine rd_iteD (fun h => sne "rewrite" "need" h) fun _ => ?_
        walk_at "rc"
        exact qy (if_pos hh) _ (Evl.Ex.refl H)
    | ch n s p y c =>
      walk_at "rc"
      refine rd_iteD (fun h => sne "choose" "join" h) fun _ => ?_
      walk_at "rc"
      refine rd_iteD (fun h => sne "choose" "rewrite" h) fun _ => ?_
      walk_at "rc"
      refine rd_iteD (fun _ => ?_) fun h => absurd rfl h
      walk_at "rc"
      refine ⟨b, dx, _, rfl, hb, rfl, ?_⟩
      walk_at "rc"
      refine rd_ixDT (Evl.Ex.refl H) hv (i := 3) rfl fun v2 h2 => ?_
      cases Dp.str_iff h2
      walk_at "rc"
      refine ⟨b, p, ls, dp, dr, dm, kp, kr, rfl, B, ?_⟩
      walk_at "rc"
      refine rd_ite (fun hh => ?_) fun hh => ?_
      · have hh : (valV kp (.inr p)).isSome = false := by simpa using hh
        walk_at "rc"
        refine rd_ixDT (Evl.Ex.refl H) hv (i := 3) rfl fun v3 h3 => ?_
        cases Dp.str_iff h3
        walk_at "rc"
        intro d hd
        exact qn .unknown p (if_neg (fun e => by have e : (valV kp (.inr p)).isSome = true := e; rw [hh] at e; cases e)) d _ (Evl.Ex.new hd) hd upd_same
      · have hh : (valV kp (.inr p)).isSome = true := by simpa using hh
        walk_at "rc"
        refine rd_iteD (fun h => sne "choose" "need" h) fun _ => ?_
        walk_at "rc"
        exact qy (if_pos hh) _ (Evl.Ex.refl H)
    | ne s p =>
      walk_at "rc"
      refine rd_iteD (fun h => sne "need" "join" h) fun _ => ?_
      walk_at "rc"
      refine rd_iteD (fun h => sne "need" "rewrite" h) fun _ => ?_
      walk_at "rc"
      refine rd_iteD (fun h => sne "need" "choose" h) fun _ => ?_
      walk_at "rc"
      refine rd_iteD (fun _ => ?_) fun h => absurd rfl h
      walk_at "rc"
      refine ⟨b, dx, _, rfl, hb, rfl, ?_⟩
      walk_at "rc"
      refine rd_ixDT (Evl.Ex.refl H) hv (i := 2) rfl fun v2 h2 => ?_
      cases Dp.str_iff h2
      walk_at "rc"
      refine ⟨b, p, ls, dp, dr, dm, kp, kr, rfl, B, ?_⟩
      walk_at "rc"
      refine rd_ite (fun hh => ?_) fun hh => ?_
      · have hh : (valV kp (.inr p)).isSome = false := by simpa using hh
        walk_at "rc"
        refine rd_ixDT (Evl.Ex.refl H) hv (i := 2) rfl fun v3 h3 => ?_
        cases Dp.str_iff h3
        walk_at "rc"
        intro d hd
        exact qn .unknown p (if_neg (fun e => by have e : (valV kp (.inr p)).isSome = true := e; rw [hh] at e; cases e)) d _ (Evl.Ex.new hd) hd upd_same
      · have hh : (valV kp (.inr p)).isSome = true := by simpa using hh
        walk_at "rc"
        exact qy (if_pos hh) _ (Evl.Ex.refl H)
end
section
variable (T : Txt K mg)
def pFields (ti tl : Addr) (res : Str) : List (Str × V) := [("inputs", .ref ti), ("lines", .ref tl), ("result", .str res)]
def PrgAt (K : PySem.W.Frag) (C : Addr) (H : Hp) (m : Addr) (g : Prg) : Prop := ∃ dx ti tl, H m = some (.ins C dx (pFields ti tl g.res)) ∧ Dp K H (.ref ti) (.tuple (g.inp.map PyData.str)) ∧ Dp K H (.ref tl) (.tuple (g.lin.map encLn))
theorem PrgAt.ex {C : Addr} {H H' : Hp} {m : Addr} {g : Prg} (h : PrgAt K C H m g) (e : Ex H H') : PrgAt K C H' m g := by
  obtain ⟨dx, ti, tl, h1, h2, h3⟩ := h
  exact ⟨dx, ti, tl, e _ _ h1, h2.ex e, h3.ex e⟩
def spPInit : Sp := fun vs H Q _ => ∃ (m dx : Addr) (xi xl : V) (g : Prg), vs = [.ref m, xi, xl, .str g.res] ∧ H m = some (.ins T.C_Program dx []) ∧ SqD K H xi (g.inp.map PyData.str) ∧ SqD K H xl (g.lin.map encLn) ∧
  ∀ H', Kp [m] H H' → PrgAt K T.C_Program H' m g → Q .non H'
theorem ok_Program_init : FnOk P w K mg base CX0 1 T.a_Program_init T.d_Program_init ["self", "inputs", "lines", "result"] (spPInit T) := by
  refine T.f_Program_init.ok sc_Program_init (fun vs H Q E h => ?_) (fun cdv A outer s H vs Q E hr h => ?_)
  · obtain ⟨_, _, _, _, _, rfl, _⟩ := h; rfl
  · obtain ⟨m, dx, xi, xl, g, rfl, hm, hI0, hL0, q⟩ := h
    have hI : ∀ b ∈ [m], ∃ C dx fs, H b = some (.ins C dx fs) := fun b hb => by
      cases List.mem_singleton.mp hb
      exact ⟨_, _, _, hm⟩
    have hI1 : SqD K (hid [m] H) xi (g.inp.map PyData.str) := hI0.elim (fun z => .inl (Dp.hidI hI _ z)) fun z => .inr (Dp.hidI hI _ z)
    have hL1 : SqD K (hid [m] H) xl (g.lin.map encLn) := hL0.elim (fun z => .inl (Dp.hidI hI _ z)) fun z => .inr (Dp.hidI hI _ z)
    have pm : ∀ {H' : Hp} {o : HO}, Kp [m] H H' → Kp [m] H (upd H' m o) := fun k => k.trans (Kp.put List.mem_cons_self)
    refine ⟨_, (pss_cons (kSf K rfl (ps_fld (pv 0) (pe_callTy (kTupOf K) (by rfl) T.nb_tuple (by decide +kernel) (pa_cons (pv 1) pa_nil)) rfl))
  (pss_cons (kSf K rfl (ps_fld (pv 0) (pe_callTy (kTupOf K) (by rfl) T.nb_tuple (by decide +kernel) (pa_cons (pv 2) pa_nil)) rfl))
  (pss_one (kSf K rfl (ps_fld (pv 0) (pv 3) rfl))))), ?_⟩
    walk_at "rs"
    walk_at "rc"
    refine rd_tupSq (S := [m]) (st1 hm) (Kp.refl (S := [m]) (H := H)).ex hI1 fun ti H1 e1 hti => ?_
    have m1 := e1 _ _ hm
    walk_at "rc"
    refine ⟨m, T.C_Program, dx, [], rfl, m1, T.cl_Program, T.na_Program_inputs, by show 0 < 1000; decide, ?_⟩
    have k2 := pm (o := .ins T.C_Program dx (putF "inputs" (.ref ti) [])) (Kp.of_ex (S := [m]) e1)
    have hti2 := hti.ex (Kp.put (S := [m]) (H := H1) (o := .ins T.C_Program dx (putF "inputs" (.ref ti) [])) List.mem_cons_self).ex
    generalize hH2 : upd H1 m (.ins T.C_Program dx (putF "inputs" (.ref ti) [])) = H2 at k2 hti2
    have m2 : H2 m = some (.ins T.C_Program dx [("inputs", .ref ti)]) := by rw [← hH2]; exact upd_same
    walk_at "rs"
    walk_at "rc"
    refine rd_tupSq (S := [m]) (st1 m2) k2.ex hL1 fun tl H3 e3 htl => ?_
    have m3 := e3 _ _ m2
    have hti3 := hti2.ex (Ex.hid (S := [m]) e3)
    walk_at "rc"
    refine ⟨m, T.C_Program, dx, _, rfl, m3, T.cl_Program, T.na_Program_lines, by show 1 < 1000; decide, ?_⟩
    have k4 := pm (o := .ins T.C_Program dx (putF "lines" (.ref tl) [("inputs", .ref ti)])) (k2.trans (Kp.of_ex (S := [m]) e3))
    have u4 := (Kp.put (S := [m]) (H := H3) (o := .ins T.C_Program dx (putF "lines" (.ref tl) [("inputs", .ref ti)])) List.mem_cons_self).ex
    generalize hH4 : upd H3 m (.ins T.C_Program dx (putF "lines" (.ref tl) [("inputs", .ref ti)])) = H4 at k4 u4
    have m4 : H4 m = some (.ins T.C_Program dx [("inputs", .ref ti), ("lines", .ref tl)]) := by rw [← hH4]; exact upd_same
    walk_at "rc"
    refine ⟨m, T.C_Program, dx, _, rfl, m4, T.cl_Program, T.na_Program_result, by show 2 < 1000; decide, ?_⟩
    have u5 := (Kp.put (S := [m]) (H := H4) (o := .ins T.C_Program dx (putF "result" (.str g.res) [("inputs", .ref ti), ("lines", .ref tl)])) List.mem_cons_self).ex
    exact q _ (pm k4) ⟨dx, ti, tl, upd_same, ((hti3.ex u4).ex u5).ex hid_ex, ((htl.ex u4).ex u5).ex hid_ex⟩
/-! ### the program is gone through -/
theorem entF_app {known ns : List Str} {i : Nat} {z : Str} (h : ns[i]? = some z) (hd : entF known ns = entF (known ++ ns.take i) (ns.drop i)) :
    (newName (known ++ ns.take i) z = none → entF known ns = entF (known ++ ns.take (i + 1)) (ns.drop (i + 1))) ∧ (∀ x, newName (known ++ ns.take i) z = some x → entF known ns = some x) := by
  obtain ⟨hi, rfl⟩ := List.getElem?_eq_some_iff.mp h
  rw [List.drop_eq_getElem_cons hi] at hd
  have e : known ++ ns.take (i + 1) = known ++ ns.take i ++ [ns[i]] := by rw [List.take_succ_eq_append_getElem hi, List.append_assoc]
  refine ⟨fun hz => ?_, fun x hz => ?_⟩
  · rw [hd, e]
    show (newName _ _).or _ = _
    rw [hz]; rfl
  · rw [hd]
    show (newName _ _).or _ = _
    rw [hz]; rfl
theorem linesF_app {ls : Str} {hp hr : Str → Bool} {known : List Str} {ln : List Ln} {i : Nat} {l : Ln} (h : ln[i]? = some l) (hd : linesF ls hp hr known ln = linesF ls hp hr (known ++ (ln.take i).flatMap Ln.gives) (ln.drop i)) :
    (lineF ls hp hr (known ++ (ln.take i).flatMap Ln.gives) l = none → linesF ls hp hr known ln = linesF ls hp hr (known ++ (ln.take (i + 1)).flatMap Ln.gives) (ln.drop (i + 1))) ∧
    ∀ x, lineF ls hp hr (known ++ (ln.take i).flatMap Ln.gives) l = some x → linesF ls hp hr known ln = some x := by
  obtain ⟨hi, rfl⟩ := List.getElem?_eq_some_iff.mp h
  rw [List.drop_eq_getElem_cons hi] at hd
  have e : known ++ (ln.take (i + 1)).flatMap Ln.gives = known ++ (ln.take i).flatMap Ln.gives ++ ln[i].gives := by
    rw [List.take_succ_eq_append_getElem hi, List.flatMap_append, List.append_assoc, List.flatMap_cons, List.flatMap_nil, List.append_nil]
  refine ⟨fun hz => ?_, fun x hz => ?_⟩
  · rw [hd, e]
    show (lineF _ _ _ _ _).or _ = _
    rw [hz]; rfl
  · rw [hd]
    show (lineF _ _ _ _ _).or _ = _
    rw [hz]; rfl
theorem gives_len (l : Ln) : l.gives.length ≤ 1 := by cases l <;> simp [Ln.gives]
theorem gives_lens : ∀ ln : List Ln, (ln.flatMap Ln.gives).length ≤ ln.length
  | [] => Nat.le_refl _
  | l :: r => by
    rw [List.flatMap_cons, List.length_append, List.length_cons]
    have := gives_len l
    have := gives_lens r
    omega
def spCheck : Sp := fun vs H Q E => ∃ (b m : Addr) (g : Prg) (ls : Str) (dp dr dm : Addr) (kp kr : List (L2.Key × V)), vs = [.ref b, .ref m] ∧ BkF T.C_Book H b ls dp dr dm kp kr ∧ PrgAt K T.C_Program H m g ∧ g.Ok ∧
  Rz T (chk ls (fun z => (valV kp (.inr z)).isSome) (fun z => (valV kr (.inr z)).isSome) g) H Q E
theorem ok_check_program : FnOk P w K mg base (L2.CX P w) 8 T.a_check_program T.d_check_program ["book", "program"] (spCheck T) := by
  refine T.f_check_program.okX sc_check_program (fun vs H Q E h => ?_) (fun cdv A outer s H vs Q E hr h => ?_)
  · obtain ⟨_, _, _, _, _, _, _, _, _, rfl, _⟩ := h; rfl
  · obtain ⟨b, m, g, ls, dp, dr, dm, kp, kr, rfl, B, PG, ok, R⟩ := h
    have sz : 100000 ≤ sizeLine := by decide
    obtain ⟨dx, ti, tl, hm, hti, htl⟩ := id PG
    have gil := ok.il
    have gll := ok.ll
    refine ⟨_, (pss_cons (ps_if (pt_not (pt_chain op_leP op_leP pe_int (pe_callB (kLen K) (by rfl) T.nb_len (by decide +kernel) (pa_cons (kFld K rfl (pe_fld (pv 1) rfl)) pa_nil)) (pe_globI (by rfl) T.c_MOST_INPUTS)))
    (pss_one (ps_raiseW rfl T.x_TooMany (ok_init T) T.tI T.bI (hr.mono (by decide)) T.g_TooMany (takes_of rfl rfl rfl rfl) (pa_cons pe_str pa_nil) (MonoA.one mono_c)))
    pss_nil)
  (pss_cons (ps_if (pt_cmpR op_gtP (pe_callB (kLen K) (by rfl) T.nb_len (by decide +kernel) (pa_cons (kFld K rfl (pe_fld (pv 1) rfl)) pa_nil)) (pe_globI (by rfl) T.c_MOST_LINES) (by first | rfl | exact nomark _))
    (pss_one (ps_raiseW rfl T.x_TooMany (ok_init T) T.tI T.bI (hr.mono (by decide)) T.g_TooMany (takes_of rfl rfl rfl rfl) (pa_cons pe_str pa_nil) (MonoA.one mono_c)))
    pss_nil)
  (pss_cons (ps_set (i := 2) sc_check_program.nd rfl (by first | exact Or.inl rfl | exact Or.inr rfl) (pe_lst pa_nil))
  (pss_cons (ps_for (passes_of rfl) rfl (kAny K rfl (kFld K rfl (pe_fld (pv 1) rfl))) (pg_name (i := 3) sc_check_program.nd rfl (by first | exact Or.inl rfl | exact Or.inr rfl))
    (pss_cons (ps_expr (pe_callR (ok__check_new_name T) (hr.mono (by decide)) T.o__check_new_name (takes_of rfl rfl rfl rfl) (pa_cons (pv 3) (pa_cons (pv 2) pa_nil))))
  (pss_one (ps_expr (kBm K rfl (pe_bm PySem.F.plainAttrs_list PySem.F.slot_list_append PySem.F.type_list_append mt_append (pv 2) (pa_cons (pv 3) pa_nil)))))))
  (pss_cons (ps_for (passes_of rfl) rfl (kAny K rfl (kFld K rfl (pe_fld (pv 1) rfl))) (pg_name (i := 4) sc_check_program.nd rfl (by first | exact Or.inl rfl | exact Or.inr rfl))
    (pss_cons (ps_expr (pe_callR (ok__check_known T) (hr.mono (by decide)) T.o__check_known (takes_of rfl rfl rfl rfl) (pa_cons (pe_callE (ok_names_read T) (hr.mono (by decide)) T.o_names_read (pa_cons (pv 4) pa_nil)) (pa_cons (pv 2) pa_nil))))
  (pss_cons (ps_expr (pe_callR (ok__check_book_has T) (hr.mono (by decide)) T.o__check_book_has (takes_of rfl rfl rfl rfl) (pa_cons (pv 0) (pa_cons (pv 4) pa_nil))))
  (pss_one (ps_for (passes_of rfl) rfl (kAny K rfl (pe_callE (ok_names_given T) (hr.mono (by decide)) T.o_names_given (pa_cons (pv 4) pa_nil))) (pg_name (i := 3) sc_check_program.nd rfl (by first | exact Or.inl rfl | exact Or.inr rfl))
    (pss_cons (ps_expr (pe_callR (ok__check_new_name T) (hr.mono (by decide)) T.o__check_new_name (takes_of rfl rfl rfl rfl) (pa_cons (pv 3) (pa_cons (pv 2) pa_nil))))
  (pss_one (ps_expr (kBm K rfl (pe_bm PySem.F.plainAttrs_list PySem.F.slot_list_append PySem.F.type_list_append mt_append (pv 2) (pa_cons (pv 3) pa_nil)))))))))))
  (pss_one (ps_expr (pe_callR (ok__check_known T) (hr.mono (by decide)) T.o__check_known (takes_of rfl rfl rfl rfl) (pa_cons (pe_lst (pa_cons (kFld K rfl (pe_fld (pv 1) rfl)) pa_nil)) (pa_cons (pv 2) pa_nil)))))))))), ?_⟩
    walk_at "rc"
    walk_at "rs"
    walk_at "rc"
    refine ⟨m, _, dx, _, _, rfl, hm, T.cl_Program, T.na_Program_inputs, rfl, ?_⟩
    walk_at "rc"
    refine rd_lenDT (Evl.Ex.refl H) hti ?_
    rw [List.length_map]
    walk_at "rc"
    have mk : ¬ (1 ≤ g.inp.length ∧ g.inp.length ≤ 3) → chk ls (fun z => (valV kp (.inr z)).isSome) (fun z => (valV kr (.inr z)).isSome) g = some (Fk.many, Str.ofString "inputs") := fun h => if_neg h
    refine rd_iteD (fun h1 => ?_) fun h1 => ?_
    rotate_left
    · walk_at "rc"
      intro d hd
      exact R.2 .many "inputs" (mk (by omega)) d _ (Evl.Ex.new hd) hd upd_same
    walk_at "rc"
    refine rd_iteN (fun h2 => ?_) fun h2 => ?_
    · walk_at "rc"
      intro d hd
      exact R.2 .many "inputs" (mk (by omega)) d _ (Evl.Ex.new hd) hd upd_same
    have hin : 1 ≤ g.inp.length ∧ g.inp.length ≤ 3 := ⟨by omega, by omega⟩
    walk_at "rc"
    walk_at "rs"
    walk_at "rc"
    refine ⟨m, _, dx, _, _, rfl, hm, T.cl_Program, T.na_Program_lines, rfl, ?_⟩
    walk_at "rc"
    refine rd_lenDT (Evl.Ex.refl H) htl ?_
    rw [List.length_map]
    walk_at "rc"
    refine rd_iteD (fun h3 => ?_) fun h3 => ?_
    · walk_at "rc"
      intro d hd
      exact R.2 .many "lines" ((if_pos hin).trans (if_pos (by omega))) d _ (Evl.Ex.new hd) hd upd_same
    have ech : chk ls (fun z => (valV kp (.inr z)).isSome) (fun z => (valV kr (.inr z)).isSome) g = (entF [] g.inp).or ((linesF ls (fun z => (valV kp (.inr z)).isSome) (fun z => (valV kr (.inr z)).isSome) g.inp g.lin).or (unkF (g.inp ++ g.lin.flatMap Ln.gives) [g.res])) := (if_pos hin).trans (if_neg (by omega))
    have hpe : ∃ hp : Str → Bool, hp = fun z => (valV kp (.inr z)).isSome := ⟨_, rfl⟩
    obtain ⟨hp, ehp⟩ := hpe
    have hre : ∃ hr : Str → Bool, hr = fun z => (valV kr (.inr z)).isSome := ⟨_, rfl⟩
    obtain ⟨hrr, ehr⟩ := hre
    rw [← ehp, ← ehr] at ech R
    walk_at "rc"
    refine ⟨Nat.zero_le _, fun kn hkn => ?_⟩
    have e1 := Evl.Ex.new (o := .lst []) hkn
    have g1 : upd H kn (.lst []) kn = some (.lst []) := upd_same
    generalize upd H kn (.lst []) = H1 at e1 g1
    have mt1 : ∀ {Hc : Hp} {xs ys : List V}, Ex H Hc → Ex H (upd Hc kn (.lst ys)) := fun e => Evl.Ex.mut e hkn
    walk_at "rc"
    walk_at "rs"
    walk_at "rc"
    refine rd_anyT' ?_
    walk_at "rc"
    refine ⟨m, _, dx, _, _, rfl, e1 _ _ hm, T.cl_Program, T.na_Program_inputs, rfl, ?_⟩
    refine rd_itDT e1 hti fun J w => ?_
    refine fo_D w (fun i σ H' => (∃ n l, σ = [some (.ref b), some (.ref m), some (.ref kn), n, l]) ∧ Ex H H' ∧ H' kn = some (.lst ((g.inp.take i).map V.str)) ∧ entF [] g.inp = entF ([] ++ g.inp.take i) (g.inp.drop i)) ⟨⟨_, _, rfl⟩, e1, g1, rfl⟩ (fun i σ H' _ h => h.2.1) ?_ ?_
    · rintro i d x σ H' hd hx ⟨⟨n, l, rfl⟩, e, hk, ht⟩
      rw [List.getElem?_map] at hd
      obtain ⟨z, hz, rfl⟩ := Option.map_eq_some_iff.mp hd
      cases Dp.str_iff hx
      have hu := entF_app hz ht
      have hi : i < g.inp.length := (List.getElem?_eq_some_iff.mp hz).1
      walk_at "rc"
      refine ⟨z, kn, g.inp.take i, rfl, SqL.of hk, Nat.le_trans (ok.i z (List.mem_of_getElem? hz)).1 (by decide), R.sub e (fun x hx => ?_) fun hno H2 e2 => ?_⟩
      · rw [ech, hu.2 x hx]; rfl
      · have hk2 := e2 _ _ hk
        walk_at "rc"
        refine ⟨.inl ⟨rfl, _, SqL.of hk2⟩, ?_⟩
        walk_at "rc"
        refine ⟨kn, _, _, rfl, rfl, hk2, by rw [List.length_map, List.length_take]; omega, ?_⟩
        refine ⟨⟨_, _, rfl⟩, mt1 (xs := []) (e.trans e2), ?_, hu.1 hno⟩
        rw [upd_same, List.take_succ_eq_append_getElem hi, List.map_append, (List.getElem?_eq_some_iff.mp hz).2]
        rfl
    rintro σ H2 ⟨⟨n, l, rfl⟩, e2, hk2, ht⟩
    rw [List.length_map, List.take_length, List.drop_length] at ht
    rw [List.length_map, List.take_length] at hk2
    have ht : entF [] g.inp = none := ht
    rw [ht, Option.none_or] at ech
    walk_at "rc"
    walk_at "rs"
    walk_at "rc"
    refine rd_anyT' ?_
    walk_at "rc"
    refine ⟨m, _, dx, _, _, rfl, e2 _ _ hm, T.cl_Program, T.na_Program_lines, rfl, ?_⟩
    refine rd_itDT e2 htl fun J w => ?_
    refine fo_D w (fun i σ H' => (∃ n l, σ = [some (.ref b), some (.ref m), some (.ref kn), n, l]) ∧ Ex H H' ∧ H' kn = some (.lst ((g.inp ++ (g.lin.take i).flatMap Ln.gives).map V.str)) ∧ linesF ls hp hrr g.inp g.lin = linesF ls hp hrr (g.inp ++ (g.lin.take i).flatMap Ln.gives) (g.lin.drop i)) ⟨⟨_, _, rfl⟩, e2, by rw [List.take_zero, List.flatMap_nil, List.append_nil]; exact hk2, by rw [List.take_zero, List.flatMap_nil, List.append_nil]; rfl⟩ (fun i σ H' _ h => h.2.1) ?_ ?_
    · rintro i d x σ H3 hd hx ⟨⟨n, l0, rfl⟩, e3, hk3, ht3⟩
      rw [List.getElem?_map] at hd
      obtain ⟨l, hl, rfl⟩ := Option.map_eq_some_iff.mp hd
      have hu := linesF_app hl ht3
      have hi : i < g.lin.length := (List.getElem?_eq_some_iff.mp hl).1
      have okl := ok.l l (List.mem_of_getElem? hl)
      have hx3 := hx.ex e3
      have glen := gives_lens (g.lin.take i)
      rw [List.length_take] at glen
      generalize hkk : g.inp ++ (g.lin.take i).flatMap Ln.gives = known at hu hk3
      have klen : known.length ≤ 200 := by rw [← hkk, List.length_append]; omega
      have fin : ∀ x, lineF ls hp hrr known l = some x → chk ls hp hrr g = some x := fun x hx => by rw [ech, hu.2 x hx]; rfl
      walk_at "rc"
      refine ⟨x, l, rfl, hx3, Nat.le_trans okl.m (by decide), fun L H4 e4 hL0 hL => ?_⟩
      have hk4 := e4 _ _ hk3
      walk_at "rc"
      refine ⟨L, kn, l.reads, known, rfl, SqL.of hL, SqL.of hk4, R.sub (e3.trans e4) (fun x hx => fin x ?_) fun hno1 H5 e5 => ?_⟩
      · unfold lineF; rw [hx]; rfl
      have e35 := e3.trans (e4.trans e5)
      have hk5 := e5 _ _ hk4
      walk_at "rc"
      refine ⟨b, x, l, ls, dp, dr, dm, kp, kr, rfl, B.ex e35, hx.ex e35, okl, ?_⟩
      rw [← ehp, ← ehr]
      refine R.sub e35 (fun x hx => fin x ?_) fun hno2 H6 e6 => ?_
      · unfold lineF; rw [hno1, hx]; rfl
      have e36 := e35.trans e6
      have hk6 := e6 _ _ hk5
      walk_at "rc"
      refine rd_anyL' ?_
      walk_at "rc"
      refine ⟨x, l, rfl, hx.ex e36, fun L2 H7 e7 hL20 hL2 => ?_⟩
      have e37 := e36.trans e7
      have hk7 := e7 _ _ hk6
      refine ⟨L2, rfl, ⟨_, SqL.of hL2⟩, ?_⟩
      have n72 : L2 ≠ kn := fun z => by rw [z, hk6] at hL20; cases hL20
      refine fo_list (a := L2) (xs := l.gives.map V.str) (fun i σ H' => (∃ n, σ = [some (.ref b), some (.ref m), some (.ref kn), n, some x]) ∧ Ex H H' ∧ H' L2 = some (.lst (l.gives.map V.str)) ∧ H' kn = some (.lst ((known ++ l.gives.take i).map V.str)) ∧ entF known l.gives = entF (known ++ l.gives.take i) (l.gives.drop i)) ⟨⟨_, rfl⟩, e37, hL2, by rw [List.take_zero, List.append_nil]; exact hk7, by rw [List.take_zero, List.append_nil]; rfl⟩ (fun i σ H' _ h => SqL.of h.2.2.1) ?_ ?_
      · rintro j y σ H8 hy ⟨⟨n, rfl⟩, e8, hL8, hk8, ht8⟩
        rw [List.getElem?_map] at hy
        obtain ⟨z, hz, rfl⟩ := Option.map_eq_some_iff.mp hy
        have hu8 := entF_app hz ht8
        have hj : j < l.gives.length := (List.getElem?_eq_some_iff.mp hz).1
        have hzs := okl.s z (gives_strs (List.mem_of_getElem? hz))
        walk_at "rc"
        refine ⟨z, kn, _, rfl, SqL.of hk8, Nat.le_trans hzs.1 (by decide), R.sub e8 (fun x hx => fin x ?_) fun hno H9 e9 => ?_⟩
        · unfold lineF; rw [hno1, hno2, hu8.2 x hx]; rfl
        · have hk9 := e9 _ _ hk8
          walk_at "rc"
          refine ⟨.inl ⟨rfl, _, SqL.of hk9⟩, ?_⟩
          walk_at "rc"
          have := gives_len l
          refine ⟨kn, _, _, rfl, rfl, hk9, by rw [List.length_map, List.length_append, List.length_take]; omega, ?_⟩
          refine ⟨⟨_, rfl⟩, mt1 (xs := []) (e8.trans e9), by rw [upd_ne n72]; exact e9 _ _ hL8, ?_, hu8.1 hno⟩
          rw [upd_same, List.take_succ_eq_append_getElem hj, ← List.append_assoc, List.map_append (l₂ := [_]), (List.getElem?_eq_some_iff.mp hz).2]
          rfl
      · rintro σ H8 ⟨⟨n, rfl⟩, e8, hL8, hk8, ht8⟩
        rw [List.length_map, List.take_length] at hk8
        rw [List.length_map, List.drop_length] at ht8
        have ht8 : entF known l.gives = none := ht8
        have hno : lineF ls hp hrr known l = none := by unfold lineF; rw [hno1, hno2, ht8]; rfl
        have ek : g.inp ++ (g.lin.take (i + 1)).flatMap Ln.gives = known ++ l.gives := by
          rw [List.take_succ_eq_append_getElem hi, List.flatMap_append, ← List.append_assoc, hkk, List.flatMap_cons, List.flatMap_nil, List.append_nil, (List.getElem?_eq_some_iff.mp hl).2]
        exact ⟨⟨_, _, rfl⟩, e8, by rw [ek]; exact hk8, hu.1 hno⟩
    rintro σ H3 ⟨⟨n, l, rfl⟩, e3, hk3, ht3⟩
    rw [List.length_map, List.take_length, List.drop_length] at ht3
    rw [List.length_map, List.take_length] at hk3
    have ht3 : linesF ls hp hrr g.inp g.lin = none := ht3
    rw [ht3, Option.none_or] at ech
    walk_at "rc"
    refine ⟨m, _, dx, _, _, rfl, e3 _ _ hm, T.cl_Program, T.na_Program_result, rfl, ?_⟩
    walk_at "rc"
    refine ⟨by show 1 ≤ sizeLine; omega, fun p hp => ?_⟩
    have e4 := Evl.Ex.new (o := .lst [V.str g.res]) hp
    walk_at "rc"
    refine ⟨p, kn, [g.res], _, rfl, SqL.of upd_same, SqL.of (e4 _ _ hk3), R.sub (e3.trans e4) (fun x hx => by rw [ech, hx]) fun hno H4 e5 => ?_⟩
    exact R.1 (by rw [ech, hno]) _ ((e3.trans e4).trans e5)
end
section
theorem nodup_leG {α : Type} [BEq α] [LawfulBEq α] : ∀ (l m : List α), l.Nodup → (∀ c ∈ l, c ∈ m) → l.length ≤ m.length
  | [], _, _, _ => Nat.zero_le _
  | x :: l, m, nd, h => by
    have hx := h x List.mem_cons_self
    have nd' := List.nodup_cons.mp nd
    have := nodup_leG l (m.erase x) nd'.2 fun c hc => (List.mem_erase_of_ne fun (e : c = x) => nd'.1 (by rw [← e]; exact hc)).mpr (h c (List.mem_cons_of_mem _ hc))
    rw [List.length_erase_of_mem hx] at this
    have := List.length_pos_of_mem hx
    rw [List.length_cons]; omega
theorem az_nodup : AZ.cps.toList.Nodup := by decide +kernel
/-- of the 26 beginnings one is neither taken nor reserved -/
theorem name_free {t : Str} {bad : List Str} (h : ∀ c ∈ AZ.cps.toList, (⟨#[c]⟩ : Str) ++ t ∈ bad) : 26 ≤ bad.length := by
  have nd : (AZ.cps.toList.map fun c => (⟨#[c]⟩ : Str) ++ t).Nodup := by
    refine List.Pairwise.map _ (fun a b hab e => hab ?_) az_nodup
    have e1 : ((⟨#[a]⟩ : Str) ++ t).cps.toList = a :: t.cps.toList := TL.tl_append ⟨#[a]⟩ t
    have e2 : ((⟨#[b]⟩ : Str) ++ t).cps.toList = b :: t.cps.toList := TL.tl_append ⟨#[b]⟩ t
    rw [e, e2] at e1
    injection e1 with e3 _
    exact e3.symm
  have := nodup_leG _ bad nd fun x hx => by
    obtain ⟨c, hc, rfl⟩ := List.mem_map.mp hx
    exact h c hc
  rw [List.length_map] at this
  exact this
/-- a list of texts is not the state -/
theorem st_neL {H : Hp} {p a : Addr} {ss : List Str} (h : StAt H p) (e : H a = some (.lst (ss.map V.str))) : a ≠ p := fun z => by
  obtain ⟨l, ns, pl, h1, _⟩ := h
  rw [z, h1] at e
  cases ss with
  | nil => cases e
  | cons s ss => cases e
def spName : Sp := fun vs H Q _ => ∃ (p a : Addr) (taken : List Str), vs = [.ref p, .ref a] ∧ StAt H p ∧ H a = some (.lst (taken.map V.str)) ∧ taken.length ≤ 17 ∧ ∀ (z : Str) (H' : Hp), nameB z = true → z ∉ taken → Dr p H H' → Q (.str z) H'
theorem ok_name (T : Txt K mg) : FnOk P w K mg base CX0 2 T.a_name T.d_name ["state", "taken"] spName := by
  refine T.f_name.ok sc_name (fun vs H Q E h => ?_) (fun cdv A outer s H vs Q E hr h => ?_)
  · obtain ⟨_, _, _, rfl, _⟩ := h; rfl
  · obtain ⟨p, a, taken, rfl, hS, ha, hlt, q⟩ := h
    have sz : 100000 ≤ sizeLine := by decide
    have nap := st_neL hS ha
    refine ⟨_, (pss_cons (ps_set (i := 2) sc_name.nd rfl (by first | exact Or.inl rfl | exact Or.inr rfl) pe_str)
  (pss_cons (ps_set (i := 3) sc_name.nd rfl (by first | exact Or.inl rfl | exact Or.inr rfl) (kBm K rfl (pe_bm PySem.F.plainAttrs_str PySem.F.slot_str_join PySem.F.type_str_join (kJoin K) pe_str (pa_cons (pe_lc (own := [("k", 4)]) (g := gName 4) (tt := tYes) (by rfl) sc_name.nd (pi_range1 (by rfl) T.nb_range (pa_cons (pe_op (kAdd K) pe_int (pe_callE (ok_next T) (hr.mono (by decide)) T.o_next (pa_cons (pv 0) (pa_cons pe_int pa_nil)))) pa_nil)) (blkOk_by (own := [("k", 4)]) (N := ["state", "taken", "signs", "name", "k", "reserved", "sign", "found"]) (sc := defScope s_name) (by decide +kernel)) (fun _ _ _ _ _ => (pg_name (i := 4) sc_name.nd rfl (by first | exact Or.inl rfl | exact Or.inr rfl))) (fun _ _ _ _ _ => pts_nil) (fun _ _ _ _ _ => (pe_ix (kIx K) (pv 2) (pe_callE (ok_next T) (hr.mono (by decide)) T.o_next (pa_cons (pv 0) (pa_cons pe_int pa_nil))) (fun _ _ => rfl)))) pa_nil))))
  (pss_cons (ps_set (i := 5) sc_name.nd rfl (by first | exact Or.inl rfl | exact Or.inr rfl) (pe_lst (pa_cons pe_str (pa_cons pe_str (pa_cons pe_str (pa_cons pe_str (pa_cons pe_str (pa_cons pe_str (pa_cons pe_str (pa_cons pe_str pa_nil))))))))))
  (pss_cons (ps_for PassesOwn.never rfl (kAny K rfl (pe_op (kAdd K) (pe_ix (kIx K) (pv 3) pe_int (fun _ _ => rfl)) (pv 2))) (pg_name (i := 6) sc_name.nd rfl (by first | exact Or.inl rfl | exact Or.inr rfl))
    (pss_cons (ps_set (i := 7) sc_name.nd rfl (by first | exact Or.inl rfl | exact Or.inr rfl) (pe_op (kAdd K) (pv 6) (pe_slice (kSl K) (pv 3) (po_some pe_int) po_none)))
  (pss_one (ps_if (PW.pt (pw_and (pt_cmpR (kNotIn K) (pv 7) (pv 1) (by first | rfl | exact nomark _)) (pw_and1 (pt_cmpR (kNotIn K) (pv 7) (pv 5) (by first | rfl | exact nomark _)))))
    (pss_one (ps_ret (pv 7)))
    pss_nil))))
  (pss_one (ps_ret (pv 3))))))), ?_⟩
    walk_at "rc"
    refine ⟨rfl, ?_⟩
    walk_at "rc"
    refine ⟨p, 8, rfl, by decide, hS, fun nn H3 r30 r31 S3 o3 i3 => ?_⟩
    have d3 : Dr p H H3 := ⟨S3, o3, i3.2⟩
    obtain ⟨nn, rfl⟩ := Int.eq_ofNat_of_zero_le r30
    walk_at "rc"
    have en : (1 : Int) + (nn : Int) = ((nn + 1 : Nat) : Int) := by omega
    rw [en]
    refine ⟨_, rfl, by omega, by omega, ?_⟩
    rw [Int.toNat_natCast]
    refine lc_R (K := K) (S := [p]) (P := fun i x => x = V.int (i : Nat)) (tr_dr S3 List.mem_cons_self) (st1 S3.some.choose_spec) walk_range0 rng_Y (by omega) (fun _ _ => True.intro) (fun i d => ∃ c : Nat, d = .str ⟨#[c]⟩ ∧ c ∈ AZ.cps.toList) (hg_name fun v => rfl) (fun L i σ2 Hc hi p2 hL nL dc hs up N hN => ?_) fun L us Hc ds dc hL nL hus hds hlen hR => ?_
    · obtain ⟨v, rfl, rfl⟩ := p2
      walk_at "rc"
      refine ⟨p, 26, rfl, by decide, dc.st, fun r H3 q0 q1 S3' o3' i3' => ?_⟩
      obtain ⟨c, hc, cm⟩ := at_str (z := AZ) q0 (by rw [show AZ.length = 26 by decide +kernel]; exact q1)
      refine rd_ixS (by decide +kernel) hc ?_
      exact hN _ _ _ ⟨S3', o3', i3'.2⟩ (.str _) ⟨c, rfl, cm⟩
    obtain ⟨cs, rfl, hcs⟩ := map_ofD (f := fun c : Nat => PyData.str ⟨#[c]⟩) ds hR
    have es : cs.map (fun c : Nat => PyData.str ⟨#[c]⟩) = (cs.map fun c => (⟨#[c]⟩ : Str)).map PyData.str := by rw [List.map_map]; rfl
    rw [List.length_map] at hlen
    rw [es] at hds
    have eu := dp_strs hds
    subst eu
    walk_at "rc"
    refine ⟨"", L, _, rfl, rfl, .inl (SqL.of hus), ?_, ?_⟩
    · rw [sum_signs, List.length_map]
      have e0 : (Str.ofString "").length = 0 := by decide +kernel
      rw [e0]
      omega
    have et := join_signs cs
    generalize Txt.join "" (cs.map fun c => (⟨#[c]⟩ : Str)) = z at et
    have zl : z.length = nn + 1 := by
      show z.cps.toList.length = nn + 1
      rw [et]; exact hlen
    have dd := d3.trans dc
    walk_at "rc"
    refine ⟨by show 8 ≤ sizeLine; decide, fun l hl => ?_⟩
    have e1 := Evl.Ex.new (o := .lst [.str (Str.ofString "turn"), .str (Str.ofString "rewrite"), .str (Str.ofString "if"), .str (Str.ofString "in"), .str (Str.ofString "then"), .str (Str.ofString "else"), .str (Str.ofString "need"), .str (Str.ofString "give")]) hl
    have g1 : upd Hc l (.lst [.str (Str.ofString "turn"), .str (Str.ofString "rewrite"), .str (Str.ofString "if"), .str (Str.ofString "in"), .str (Str.ofString "then"), .str (Str.ofString "else"), .str (Str.ofString "need"), .str (Str.ofString "give")]) l = some (.lst (WD.map V.str)) := upd_same
    generalize upd Hc l (.lst [.str (Str.ofString "turn"), .str (Str.ofString "rewrite"), .str (Str.ofString "if"), .str (Str.ofString "in"), .str (Str.ofString "then"), .str (Str.ofString "else"), .str (Str.ofString "need"), .str (Str.ofString "give")]) = H4 at e1 g1
    have d4 := dd.ex e1
    have a4 := d4.old _ _ nap ha
    have c0 : ∃ c, z.cps.toList[0]? = some c := ⟨_, List.getElem?_eq_getElem (by show 0 < z.length; omega)⟩
    obtain ⟨c0, hc0⟩ := c0
    walk_at "rc"
    walk_at "rs"
    walk_at "rc"
    refine rd_anyS' ?_
    walk_at "rc"
    refine rd_ixS (by omega) (atI_nat (j := 0) hc0) ?_
    walk_at "rc"
    refine rd_addS (x := ⟨#[c0]⟩) (y := AZ) (by have h26 : AZ.length = 26 := by decide +kernel
                                                rw [h26]; show 1 + 26 ≤ sizeLine; omega) ?_
    refine rd_itS ?_
    have el : ((⟨#[c0]⟩ : Str) ++ AZ).cps.toList = c0 :: AZ.cps.toList := TL.tl_append ⟨#[c0]⟩ AZ
    have tl1 : (cutS z (some 1) none).cps.toList = z.cps.toList.tail := by
      show (z.cps.toList.drop _).take _ = _
      have h1 : HT.sIx z.length 0 (some 1) = 1 := by
        show (if (1 : Int) < 0 then ((1 : Int) + (z.length : Int)).toNat else min (1 : Int).toNat z.length) = 1
        rw [if_neg (by decide), show (1 : Int).toNat = 1 from rfl]
        omega
      rw [h1, HT.sIx_none, List.drop_one]
      refine List.take_of_length_le ?_
      rw [List.length_tail]
      exact Nat.le_refl _
    have hz : ∀ c ∈ z.cps.toList, c ∈ AZ.cps.toList := fun c hc => by rw [et] at hc; exact hcs c hc
    generalize ht : cutS z (some 1) none = t at tl1
    have tl : t.length = nn := by
      show t.cps.toList.length = nn
      rw [tl1, List.length_tail]
      show z.length - 1 = nn
      omega
    refine fo_str (fun i σ H' => (∃ k6 k7 : Option V, σ = [some (.ref p), some (.ref a), some (.str AZ), some (.str z), none, some (.ref l), k6, k7]) ∧ H' = H4 ∧ ∀ c ∈ (c0 :: AZ.cps.toList).take i, (⟨#[c]⟩ : Str) ++ t ∈ taken ++ WD) ⟨⟨_, _, rfl⟩, rfl, fun c hc => by rw [List.take_zero] at hc; cases hc⟩ ?_ ?_
    · rintro i c σ H' hc ⟨⟨k6, k7, rfl⟩, rfl, hp⟩
      rw [el] at hc
      have hcm : c ∈ AZ.cps.toList := by
        rcases List.mem_cons.mp (List.mem_of_getElem? hc) with e | h
        · rw [e]; exact hz c0 (List.mem_of_getElem? hc0)
        · exact h
      walk_at "rc"
      refine rd_slS (by omega) ?_
      rw [ht]
      refine rd_addS (x := ⟨#[c]⟩) (y := t) (by show 1 + t.length ≤ sizeLine; omega) ?_
      walk_at "rc"
      refine rd_niLs (SqL.of a4) ?_
      walk_at "rc"
      have nxt : (⟨#[c]⟩ : Str) ++ t ∈ taken ++ WD → ∀ d ∈ (c0 :: AZ.cps.toList).take (i + 1), (⟨#[d]⟩ : Str) ++ t ∈ taken ++ WD := fun h d hd => by
        rw [List.take_succ, hc] at hd
        rcases List.mem_append.mp hd with hd | hd
        · exact hp d hd
        · rw [List.mem_singleton.mp hd]; exact h
      refine rd_iteN (fun h1 => ?_) fun h1 => ?_
      · walk_at "rc"
        refine rd_niLs (ys := WD) (SqL.of g1) ?_
        walk_at "rc"
        refine rd_iteN (fun h2 => ?_) fun h2 => ?_
        · walk_at "rc"
          refine q _ _ ?_ h1 d4
          have lc : ((⟨#[c]⟩ : Str) ++ t).length = 1 + t.length := str_len _ _
          have lcl : ((⟨#[c]⟩ : Str) ++ t).cps.toList = c :: t.cps.toList := TL.tl_append ⟨#[c]⟩ t
          unfold nameB
          rw [decide_eq_true (show 1 ≤ ((⟨#[c]⟩ : Str) ++ t).length by omega), decide_eq_true (show ((⟨#[c]⟩ : Str) ++ t).length ≤ 8 by omega), inV_str, decide_eq_false h2, lcl]
          show ((c :: t.cps.toList).all fun c => decide (c ∈ AZ.cps.toList)) = true
          rw [List.all_eq_true]
          intro d hd
          refine decide_eq_true ?_
          rcases List.mem_cons.mp hd with e | hd
          · rw [e]; exact hcm
          · rw [tl1] at hd
            exact hz d (List.mem_of_mem_tail hd)
        · walk_at "rc"
          exact ⟨⟨_, _, rfl⟩, rfl, nxt (List.mem_append.mpr (.inr h2))⟩
      · walk_at "rc"
        exact ⟨⟨_, _, rfl⟩, rfl, nxt (List.mem_append.mpr (.inl h1))⟩
    · rintro σ H' ⟨_, rfl, hp⟩
      exfalso
      have lz : ((⟨#[c0]⟩ : Str) ++ AZ).length = (c0 :: AZ.cps.toList).length := congrArg List.length el
      rw [lz, List.take_length] at hp
      have := name_free (t := t) (bad := taken ++ WD) fun c hc => hp c (List.mem_cons_of_mem _ hc)
      rw [List.length_append, show WD.length = 8 from rfl] at this
      omega
end
section
/-- names that are good and different -/
structure Nms (ns taken : List Str) : Prop where
  g : ∀ z ∈ ns, nameB z = true
  d : ns.Nodup
  t : ∀ z ∈ ns, z ∉ taken
def spNamed : Sp := fun vs H Q _ => ∃ (p a : Addr) (many : Nat) (taken : List Str), vs = [.ref p, .int (many : Int), .ref a] ∧ StAt H p ∧ H a = some (.lst (taken.map V.str)) ∧ taken.length + many ≤ 17 ∧
  ∀ (L : Addr) (ns : List Str) (H' : Hp), Nms ns taken → ns.length = many → Dr p H H' → H L = none → H' L = some (.lst (ns.map V.str)) → Q (.ref L) H'
theorem ok_named (T : Txt K mg) : FnOk P w K mg base CX0 3 T.a_named T.d_named ["state", "many", "taken"] spNamed := by
  refine T.f_named.ok sc_named (fun vs H Q E h => ?_) (fun cdv A outer s H vs Q E hr h => ?_)
  · obtain ⟨_, _, _, _, rfl, _⟩ := h; rfl
  · obtain ⟨p, a, many, taken, rfl, hS, ha, hlt, q⟩ := h
    have sz : 100000 ≤ sizeLine := by decide
    have nap := st_neL hS ha
    refine ⟨_, (pss_cons (ps_set (i := 3) sc_named.nd rfl (by first | exact Or.inl rfl | exact Or.inr rfl) (pe_lst pa_nil))
  (pss_cons (ps_for PassesOwn.never rfl (pi_range1 (by rfl) T.nb_range (pa_cons (pv 1) pa_nil)) (pg_name (i := 4) sc_named.nd rfl (by first | exact Or.inl rfl | exact Or.inr rfl))
    (pss_one (ps_expr (kBm K rfl (pe_bm PySem.F.plainAttrs_list PySem.F.slot_list_append PySem.F.type_list_append mt_append (pv 3) (pa_cons (pe_callE (ok_name T) (hr.mono (by decide)) T.o_name (pa_cons (pv 0) (pa_cons (pe_op (kAdd K) (pv 2) (pv 3)) pa_nil))) pa_nil))))))
  (pss_one (ps_ret (pv 3))))), ?_⟩
    walk_at "rc"
    refine ⟨Nat.zero_le _, fun Lr hLr => ?_⟩
    have e1 := Evl.Ex.new (o := .lst []) hLr
    have g1 : upd H Lr (.lst []) Lr = some (.lst []) := upd_same
    have d1 : Dr p H (upd H Lr (.lst [])) := (Dr.refl hS).ex e1
    generalize upd H Lr (.lst []) = H1 at e1 g1 d1
    have nrp : Lr ≠ p := fun z => by
      obtain ⟨o, ho⟩ := hS.some
      rw [z, ho] at hLr; cases hLr
    walk_at "rc"
    walk_at "rs"
    walk_at "rc"
    refine ⟨(many : Int), rfl, by omega, by omega, ?_⟩
    rw [Int.toNat_natCast]
    refine fo_range (n := many) (fun i σ H' => ∃ (k4 : Option V) (ns : List Str), σ = [some (.ref p), some (.int (many : Int)), some (.ref a), some (.ref Lr), k4] ∧ Dr p H H' ∧ H' Lr = some (.lst (ns.map V.str)) ∧ ns.length = i ∧ Nms ns taken)
      ⟨_, [], rfl, d1, g1, rfl, (fun z h => nomatch h), List.nodup_nil, (fun z h => nomatch h)⟩ ?_ ?_
    · rintro i σ H2 hi ⟨k4, ns, rfl, d2, g2, ln, N⟩
      walk_at "rc"
      refine ⟨.inl ⟨rfl, _, SqL.of g2⟩, ?_⟩
      walk_at "rc"
      refine rd_cat (d2.old _ _ nap ha) g2 (by rw [List.length_map, List.length_map]; omega) fun l3 hl3 => ?_
      have e3 := Evl.Ex.new (o := .lst (taken.map V.str ++ ns.map V.str)) hl3
      have g3 : upd H2 l3 (.lst (taken.map V.str ++ ns.map V.str)) l3 = some (.lst ((taken ++ ns).map V.str)) := by rw [upd_same, List.map_append]
      have g23 := e3 _ _ g2
      have d3 := d2.ex e3
      generalize upd H2 l3 (.lst (taken.map V.str ++ ns.map V.str)) = H3 at e3 g3 g23 d3
      walk_at "rc"
      refine ⟨p, l3, taken ++ ns, rfl, d3.st, g3, by rw [List.length_append]; omega, fun z H4 hz hnt d4 => ?_⟩
      have g4 := d4.old _ _ nrp g23
      walk_at "rc"
      refine ⟨Lr, _, _, rfl, rfl, g4, by rw [List.length_map]; omega, ?_⟩
      have nz : z ∉ taken ∧ z ∉ ns := ⟨fun h => hnt (List.mem_append.mpr (.inl h)), fun h => hnt (List.mem_append.mpr (.inr h))⟩
      refine ⟨_, ns ++ [z], rfl, (d3.trans d4).put hS hLr, by rw [upd_same, List.map_append]; rfl, by rw [List.length_append, ln]; rfl, fun y hy => ?_, ?_, fun y hy => ?_⟩
      · rcases List.mem_append.mp hy with hy | hy
        · exact N.g y hy
        · rw [List.mem_singleton.mp hy]; exact hz
      · refine List.nodup_append.mpr ⟨N.d, List.nodup_cons.mpr ⟨List.not_mem_nil, List.nodup_nil⟩, fun a ha b hb e => ?_⟩
        rw [List.mem_singleton.mp hb] at e
        exact nz.2 (e ▸ ha)
      · rcases List.mem_append.mp hy with hy | hy
        · exact N.t y hy
        · rw [List.mem_singleton.mp hy]; exact nz.1
    · rintro σ H2 ⟨k4, ns, rfl, d2, g2, ln, N⟩
      walk_at "rc"
      exact q Lr ns H2 N ln d2 hLr g2
def spPick : Sp := fun vs H Q _ => ∃ (p a : Addr) (xs : List V), vs = [.ref p, .ref a] ∧ StAt H p ∧ H a = some (.lst xs) ∧ a ≠ p ∧ 0 < xs.length ∧ xs.length ≤ 1000 ∧ ∀ v H', v ∈ xs → Dr p H H' → Q v H'
theorem ok_pick (T : Txt K mg) : FnOk P w K mg base CX0 2 T.a_pick T.d_pick ["state", "rows"] spPick := by
  refine T.f_pick.ok sc_pick (fun vs H Q E h => ?_) (fun cdv A outer s H vs Q E hr h => ?_)
  · obtain ⟨_, _, _, rfl, _⟩ := h; rfl
  · obtain ⟨p, a, xs, rfl, hS, ha, nap, l0, l1, q⟩ := h
    have sz : 100000 ≤ sizeLine := by decide
    refine ⟨_, (pss_one (ps_ret (pe_ix (kIx K) (pv 1) (pe_callE (ok_next T) (hr.mono (by decide)) T.o_next (pa_cons (pv 0) (pa_cons (pe_callB (kLen K) (by rfl) T.nb_len (by decide +kernel) (pa_cons (pv 1) pa_nil)) pa_nil))) (fun _ _ => rfl)))), ?_⟩
    walk_at "rc"
    refine rd_lenL (SqL.of ha) ?_
    walk_at "rc"
    refine ⟨p, (xs.length : Int), rfl, by omega, hS, fun r H1 r0 r1 S1 o1 i1 => ?_⟩
    have d1 : Dr p H H1 := ⟨S1, o1, i1.2⟩
    obtain ⟨r, rfl⟩ := Int.eq_ofNat_of_zero_le r0
    have hr1 : r < xs.length := by omega
    exact rd_ixL (SqL.of (d1.old _ _ nap ha)) (atI_nat (List.getElem?_eq_getElem hr1)) (q _ _ (List.getElem_mem hr1) d1)
end
section
theorem rd_gn {i : Nat} {x : V} {σ : L2.St} {H : Hp} {Q : L2.St → Hp → Prop} (h : Q (σ.set i (some x)) H) : gName i x σ H Q := h
theorem rd_itecut {te1 te2 : TE} {c : Bool} {σ : L2.St} {H : Hp} {Q : VK} (Pv : V → Hp → Prop) (h1 : ∀ Q' : VK, (∀ y H', Pv y H' → Q' y H') → if c = true then te1 σ H Q' else te2 σ H Q') (h2 : ∀ y H', Pv y H' → Q y H') : if c = true then te1 σ H Q else te2 σ H Q := h1 Q h2
theorem rd_vcut {te : TE} {σ : L2.St} {H : Hp} {Q : VK} (Pv : V → Hp → Prop) (h1 : ∀ Q' : VK, (∀ y H', Pv y H' → Q' y H') → te σ H Q') (h2 : ∀ y H', Pv y H' → Q y H') : te σ H Q := h1 Q h2
theorem rd_tcut {tt : TT} {σ : L2.St} {H : Hp} {Q : Bool → Hp → Prop} (b : Bool) (h1 : ∀ Q' : Bool → Hp → Prop, Q' b H → tt σ H Q') (h2 : Q b H) : tt σ H Q := h1 Q h2
theorem rd_tcutE {tt : TT} {σ : L2.St} {H : Hp} {Q : Bool → Hp → Prop} (Pv : Bool → Hp → Prop) (h1 : ∀ Q' : Bool → Hp → Prop, (∀ b H', Pv b H' → Q' b H') → tt σ H Q') (h2 : ∀ b H', Pv b H' → Q b H') : tt σ H Q := h1 Q h2
theorem rd_ng1 {σ : L2.St} {H : Hp} {Q : VK} (h : Q (.int (-1)) H) : tUn (rU fun i => V.int (-i)) (tC (V.int 1)) σ H Q := ⟨1, rfl, h⟩
end
section
variable (T : Txt K mg)
def spLpt (d : Nat) : Sp := fun vs H Q _ => ∃ (p : Addr) (L : Str), vs = [.str L, .ref p, .int (d : Int)] ∧ Alpha L 3 ∧ StAt H p ∧ ∀ v t H', PtV H' t v → LP L t → t.dep ≤ d → t.size + 1 ≤ 2 ^ (d + 1) → Dr p H H' → Q v H'
def PXp : Nat → Sp
  | 0 => fun vs H Q _ => vs.length = 3 ∧ False
  | d + 1 => spLpt d
theorem ok_pt (d : Nat) (d6 : d ≤ 6) (hP : FnOk P w K mg base CX0 (d + 1) T.a_pattern T.d_pattern ["letters", "state", "deep"] (PXp d)) : FnOk P w K mg base CX0 (d + 2) T.a_pattern T.d_pattern ["letters", "state", "deep"] (spLpt d) := by
  refine T.f_pattern.ok sc_pattern (fun vs H Q E h => ?_) (fun cdv A outer s H vs Q E hr h => ?_)
  · obtain ⟨_, _, rfl, _⟩ := h; rfl
  · obtain ⟨p, L, rfl, al, hS, q⟩ := h
    have ok_pattern : ∀ _ : Txt K mg, FnOk P w K mg base CX0 (d + 1) T.a_pattern T.d_pattern ["letters", "state", "deep"] (PXp d) := fun _ => hP
    have sz : 100000 ≤ sizeLine := by decide
    have ll := al.l1
    have l0 := al.l0
    have lz : L.length ≤ sizeLine := by omega
    have d2 : 2 ≤ 2 ^ (d + 1) := by
      have := Nat.one_le_two_pow (n := d)
      rw [Nat.pow_succ]; omega
    refine ⟨_, (pss_cons (ps_set (i := 3) sc_pattern.nd rfl (by first | exact Or.inl rfl | exact Or.inr rfl) (pe_callE (ok_next T) (hr.mono (by omega)) T.o_next (pa_cons (pv 1) (pa_cons pe_int pa_nil))))
  (pss_cons (ps_if (PW.pt (pw_or (pt_cmpR (kEq K rfl hr.units) (pv 2) pe_int (by first | rfl | exact nomark _)) (pw_or1 (pt_cmpR op_ltP (pv 3) pe_int (by first | rfl | exact nomark _)))))
    (pss_cons (ps_set (i := 4) sc_pattern.nd rfl (by first | exact Or.inl rfl | exact Or.inr rfl) (pe_callE (ok_next T) (hr.mono (by omega)) T.o_next (pa_cons (pv 1) (pa_cons pe_int pa_nil))))
  (pss_cons (ps_if (pt_cmpR op_ltP (pv 4) pe_int (by first | rfl | exact nomark _))
    (pss_one (ps_ret (pe_ix (kIx K) (pe_lst (pa_cons (pe_tup (pa_cons pe_str pa_nil)) (pa_cons (pe_tup (pa_cons pe_str pa_nil)) pa_nil))) (pv 4) (fun _ _ => rfl))))
    pss_nil)
  (pss_cons (ps_set (i := 5) sc_pattern.nd rfl (by first | exact Or.inl rfl | exact Or.inr rfl) (pe_op (kAdd K) pe_int (pe_callE (ok_next T) (hr.mono (by omega)) T.o_next (pa_cons (pv 1) (pa_cons pe_int pa_nil)))))
  (pss_cons (ps_set (i := 6) sc_pattern.nd rfl (by first | exact Or.inl rfl | exact Or.inr rfl) (kBm K rfl (pe_bm PySem.F.plainAttrs_str PySem.F.slot_str_join PySem.F.type_str_join (kJoin K) pe_str (pa_cons (pe_lc (own := [("k", 7)]) (g := gName 7)  (by rfl) sc_pattern.nd (pi_range1 (by rfl) T.nb_range (pa_cons (pe_callB (kLen K) (by rfl) T.nb_len (by decide +kernel) (pa_cons (pv 0) pa_nil)) pa_nil)) (blkOk_by (own := [("k", 7)]) (N := ["letters", "state", "deep", "kind", "pick", "bits", "kept", "k", "first", "word"]) (sc := defScope s_pattern) (by decide +kernel)) (fun _ _ _ _ _ => (pg_name (i := 7) sc_pattern.nd rfl (by first | exact Or.inl rfl | exact Or.inr rfl))) (fun _ _ _ _ _ => (pts_one (pt_cmpR (kEq K rfl hr.units) (pe_op op_modP (pe_op op_divP (pv 5) (pe_ix (kIx K) (pe_lst (pa_cons pe_int (pa_cons pe_int (pa_cons pe_int pa_nil)))) (pe_op op_modP (pv 7) pe_int) (fun _ _ => rfl))) pe_int) pe_int (by first | rfl | exact nomark _)))) (fun _ _ _ _ _ => (pe_ix (kIx K) (pv 0) (pv 7) (fun _ _ => rfl)))) pa_nil))))
  (pss_cons (ps_if (pt_cmpR (kEq K rfl hr.units) (pv 6) pe_str (by first | rfl | exact nomark _))
    (pss_one (ps_set (i := 6) sc_pattern.nd rfl (by first | exact Or.inl rfl | exact Or.inr rfl) (pe_ix (kIx K) (pv 0) pe_int (fun _ _ => rfl))))
    pss_nil)
  (pss_one (ps_ret (pe_tup (pa_cons pe_str (pa_cons (pv 6) pa_nil))))))))))
    pss_nil)
  (pss_cons (ps_set (i := 8) sc_pattern.nd rfl (by first | exact Or.inl rfl | exact Or.inr rfl) (pe_callE (ok_pattern T) (hr.mono (by omega)) T.o_pattern (pa_cons (pv 0) (pa_cons (pv 1) (pa_cons (pe_op op_subP (pv 2) pe_int) pa_nil)))))
  (pss_cons (ps_if (pt_cmpR (kEq K rfl hr.units) (pv 3) pe_int (by first | rfl | exact nomark _))
    (pss_one (ps_ret (pe_tup (pa_cons pe_str (pa_cons (pv 8) pa_nil)))))
    pss_nil)
  (pss_cons (ps_if (pt_cmpR (kEq K rfl hr.units) (pv 3) pe_int (by first | rfl | exact nomark _))
    (pss_one (ps_ret (pe_tup (pa_cons pe_str (pa_cons (pv 8) pa_nil)))))
    pss_nil)
  (pss_cons (ps_set (i := 9) sc_pattern.nd rfl (by first | exact Or.inl rfl | exact Or.inr rfl) (pe_ix (kIx K) (pe_lst (pa_cons pe_str (pa_cons pe_str (pa_cons pe_str (pa_cons pe_str pa_nil))))) (pe_op op_subP (pv 3) pe_int) (fun _ _ => rfl)))
  (pss_one (ps_ret (pe_tup (pa_cons (pv 9) (pa_cons (pv 8) (pa_cons (pe_callE (ok_pattern T) (hr.mono (by omega)) T.o_pattern (pa_cons (pv 0) (pa_cons (pv 1) (pa_cons (pe_op op_subP (pv 2) pe_int) pa_nil)))) pa_nil)))))))))))), ?_⟩
    walk_at "rc"
    refine ⟨p, 9, rfl, by decide, hS, fun r H1 r0 r1 S1 o1 i1 => ?_⟩
    have d1 : Dr p H H1 := ⟨S1, o1, i1.2⟩
    refine rd_gn ?_
    dsimp only
    walk_at "rs"
    refine rd_tcut (decide ((d : Int) = 0) || decide (r < 3)) (fun Q' hQ => ?_) ?_
    · walk_at "rc"
      refine rd_ite (fun h => ?_) fun h => ?_
      · rw [h] at hQ
        exact hQ
      · rw [h, Bool.false_or] at hQ
        walk_at "rc"
        exact hQ
    refine rd_ite (fun hc => ?_) fun hc => ?_
    · walk_at "rc"
      refine ⟨p, 8, rfl, by decide, d1.st, fun r2 H2 r20 r21 S2 o2 i2 => ?_⟩
      have d2' := d1.trans ⟨S2, o2, i2.2⟩
      walk_at "rc"
      walk_at "rs"
      walk_at "rc"
      refine rd_iteD (fun h => ?_) fun h => ?_
      · walk_at "rc"
        refine ⟨by show 1 ≤ sizeLine; decide, fun t1 ht1 => ?_⟩
        walk_at "rc"
        refine ⟨by show 1 ≤ sizeLine; decide, fun t2 ht2 => ?_⟩
        walk_at "rc"
        refine ⟨by show 2 ≤ sizeLine; decide, fun l3 hl3 => ?_⟩
        walk_at "rc"
        have e1 := Evl.Ex.new (o := .tup [.str (Str.ofString "none")]) ht1
        have e2 := Evl.Ex.new (o := .tup [.str (Str.ofString "empty")]) ht2
        have e3 := Evl.Ex.new (o := .lst [V.ref t1, V.ref t2]) hl3
        have dd := ((d2'.ex e1).ex e2).ex e3
        have g1 := e3 _ _ (e2 _ _ upd_same)
        have g2 := e3 _ _ upd_same
        have hr2 : r2 = 0 ∨ r2 = 1 := by omega
        rcases hr2 with rfl | rfl
        · refine rd_ixL (SqL.of upd_same) (atI_nat (j := 0) rfl) ?_
          exact q _ (.nul "none") _ ⟨t1, rfl, g1⟩ (.inl rfl) (Nat.zero_le _) d2 dd
        · refine rd_ixL (SqL.of upd_same) (atI_nat (j := 1) rfl) ?_
          exact q _ (.nul "empty") _ ⟨t2, rfl, g2⟩ (.inr rfl) (Nat.zero_le _) d2 dd
      walk_at "rc"
      refine ⟨p, 7, rfl, by decide, d2'.st, fun r3 H3 r30 r31 S3 o3 i3 => ?_⟩
      have d3 := d2'.trans ⟨S3, o3, i3.2⟩
      walk_at "rc"
      refine ⟨rfl, ?_⟩
      walk_at "rc"
      refine rd_lenS lz ?_
      walk_at "rc"
      refine ⟨_, rfl, by omega, by omega, ?_⟩
      refine lc_F (K := K) (S := []) (P := fun i x => x = V.int (i : Nat)) tr_ex (fun b hb => nomatch hb) walk_range0 rng_Y (by omega) (fun _ _ => True.intro) (fun j => decide (((1 + r3).fdiv ([1, 2, 4].getD j 1)).fmod 2 = 1)) (fun j => .str ⟨#[L.cps.toList.getD j 0]⟩) (hg_name fun v => rfl) (fun l j σ2 Hc hj p2 hl nl ec _ _ N hN => ?_) (fun l j σ2 Hc hj p2 hp hl nl ec _ _ N hN => ?_) fun l us Hc ec hl nl hus hds => ?_
      · obtain ⟨x, rfl, rfl⟩ := p2
        have hj3 : j = 0 ∨ j = 1 ∨ j = 2 := by omega
        walk_at "rc"
        refine ⟨by show 3 ≤ sizeLine; decide, fun l2 hl2 => ?_⟩
        walk_at "rc"
        refine rd_modI (by decide) ?_
        rcases hj3 with rfl | rfl | rfl
        · refine rd_ixL (SqL.of upd_same) (atI_nat (j := 0) rfl) ?_
          refine rd_divI ⟨by decide, by decide⟩ ?_
          walk_at "rc"
          refine rd_modI (by decide) ?_
          walk_at "rc"
          exact hN _ (Evl.Ex.new hl2)
        · refine rd_ixL (SqL.of upd_same) (atI_nat (j := 1) rfl) ?_
          refine rd_divI ⟨by decide, by decide⟩ ?_
          walk_at "rc"
          refine rd_modI (by decide) ?_
          walk_at "rc"
          exact hN _ (Evl.Ex.new hl2)
        · refine rd_ixL (SqL.of upd_same) (atI_nat (j := 2) rfl) ?_
          refine rd_divI ⟨by decide, by decide⟩ ?_
          walk_at "rc"
          refine rd_modI (by decide) ?_
          walk_at "rc"
          exact hN _ (Evl.Ex.new hl2)
      · obtain ⟨x, rfl, rfl⟩ := p2
        have hj3 : j < L.cps.toList.length := by show j < L.length; omega
        walk_at "rc"
        refine rd_ixS lz (atI_nat (List.getElem?_eq_getElem hj3)) ?_
        refine hN _ Hc (Evl.Ex.refl _) ?_
        rw [List.getD_eq_getElem?_getD, List.getElem?_eq_getElem hj3]
        exact .str _
      · have hnn : ((L.length : Nat) : Int).toNat = L.cps.toList.length := Int.toNat_natCast _
        rw [hnn] at hds
        generalize hp : (fun j => decide (((1 + r3).fdiv ([1, 2, 4].getD j 1)).fmod 2 = 1)) = pb at hds
        have eds : ((List.range L.cps.toList.length).filter pb).map (fun j => PyData.str ⟨#[L.cps.toList.getD j 0]⟩) = (((((List.range L.cps.toList.length).filter pb).map fun j => L.cps.toList.getD j 0).map fun c => (⟨#[c]⟩ : Str)).map PyData.str) := by
          rw [List.map_map, List.map_map]; rfl
        have hds := eds ▸ hds
        have eu := dp_strs hds
        subst eu
        have lf : (((List.range L.cps.toList.length).filter pb).map fun j => L.cps.toList.getD j 0).length ≤ 100 := by
          rw [List.length_map]
          refine Nat.le_trans (List.length_filter_le _ _) ?_
          rw [List.length_range]
          show L.length ≤ 100
          omega
        have e0 : (Str.ofString "").length = 0 := by decide +kernel
        walk_at "rc"
        refine ⟨"", l, _, rfl, rfl, .inl (SqL.of hus), ?_, ?_⟩
        · have lf2 := lf
          simp only [List.length_map] at lf2
          rw [sum_signs, e0, Nat.mul_zero]
          simp only [List.length_map]
          omega
        have et := join_signs (((List.range L.cps.toList.length).filter pb).map fun j => L.cps.toList.getD j 0)
        generalize Txt.join "" ((((List.range L.cps.toList.length).filter pb).map fun j => L.cps.toList.getD j 0).map fun c => (⟨#[c]⟩ : Str)) = sk at et
        have d4 := d3.ex ec
        obtain ⟨c0, hc0⟩ : ∃ c, L.cps.toList[0]? = some c := ⟨_, List.getElem?_eq_getElem (by show 0 < L.length; omega)⟩
        have fin : ∀ (s' : Str), KpS L s' → ∀ a, Hc a = none → Q (.ref a) (upd Hc a (.tup [.str (Str.ofString "one"), .str s'])) := fun s' hk a ha => by
          have ea := Evl.Ex.new (o := .tup [.str (Str.ofString "one"), .str s']) ha
          exact q _ (.one s') _ ⟨a, rfl, upd_same⟩ hk (Nat.zero_le _) d2 (d4.ex ea)
        refine rd_gn ?_
        dsimp only
        walk_at "rs"
        walk_at "rc"
        refine rd_iteD (fun h => ?_) fun h => ?_
        · walk_at "rc"
          refine rd_ixS lz (atI_nat (j := 0) hc0) ?_
          walk_at "rc"
          exact ⟨by show 2 ≤ sizeLine; decide, fun a ha => fin _ (kps_first al.nd hc0) a ha⟩
        · have h0 : 0 < sk.length := by
            refine Nat.pos_of_ne_zero fun z => h (toL_ext ?_)
            have e1 : sk.cps.toList = [] := List.length_eq_zero_iff.mp z
            rw [e1]
            decide +kernel
          walk_at "rc"
          exact ⟨by show 2 ≤ sizeLine; decide, fun a ha => fin _ (kps_sel al.nd et h0) a ha⟩
    · have hd0 : d ≠ 0 := fun z => by subst z; cases hc
      obtain ⟨d, rfl⟩ : ∃ d', d = d' + 1 := ⟨d - 1, by omega⟩
      have hr3 : ¬ r < 3 := fun z => by rw [decide_eq_true z, Bool.or_true] at hc; cases hc
      have e1 : ((d + 1 : Nat) : Int) - 1 = (d : Int) := by omega
      have hpow : 2 ^ (d + 1 + 1) = 2 ^ (d + 1) * 2 := Nat.pow_succ ..
      walk_at "rc"
      rw [e1]
      refine ⟨p, L, rfl, al, d1.st, fun v1 t1 H2 hv1 lp1 dp1 sz1 dr1 => ?_⟩
      have dd2 := d1.trans dr1
      walk_at "rc"
      walk_at "rs"
      walk_at "rc"
      refine rd_iteD (fun h => ?_) fun h => ?_
      · walk_at "rc"
        refine ⟨by show 2 ≤ sizeLine; decide, fun a ha => ?_⟩
        have ea := Evl.Ex.new (o := .tup [.str (Str.ofString "not"), v1]) ha
        exact q _ (.un "not" t1) _ ⟨a, v1, rfl, upd_same, PtV.kt (.ex ea) t1 hv1⟩ ⟨.inl rfl, lp1⟩ (Nat.succ_le_succ dp1) (by show t1.size + 1 + 1 ≤ _; omega) (dd2.ex ea)
      walk_at "rc"
      walk_at "rs"
      walk_at "rc"
      refine rd_iteD (fun h2 => ?_) fun h2 => ?_
      · walk_at "rc"
        refine ⟨by show 2 ≤ sizeLine; decide, fun a ha => ?_⟩
        have ea := Evl.Ex.new (o := .tup [.str (Str.ofString "star"), v1]) ha
        exact q _ (.un "star" t1) _ ⟨a, v1, rfl, upd_same, PtV.kt (.ex ea) t1 hv1⟩ ⟨.inr rfl, lp1⟩ (Nat.succ_le_succ dp1) (by show t1.size + 1 + 1 ≤ _; omega) (dd2.ex ea)
      walk_at "rc"
      refine ⟨by show 4 ≤ sizeLine; decide, fun wl hwl => ?_⟩
      have ew := Evl.Ex.new (o := .lst [V.str (Str.ofString "join"), V.str (Str.ofString "join"), V.str (Str.ofString "either"), V.str (Str.ofString "both")]) hwl
      walk_at "rc"
      have hw : ∃ k : Str, (k = "join" ∨ k = "either" ∨ k = "both") ∧ atI [V.str (Str.ofString "join"), V.str (Str.ofString "join"), V.str (Str.ofString "either"), V.str (Str.ofString "both")] (r - 3) = some (.str k) := by
        have hr4 : r = 3 ∨ r = 4 ∨ r = 5 ∨ r = 6 := by omega
        rcases hr4 with rfl | rfl | rfl | rfl
        · exact ⟨_, .inl rfl, atI_nat (j := 0) rfl⟩
        · exact ⟨_, .inl rfl, atI_nat (j := 1) rfl⟩
        · exact ⟨_, .inr (.inl rfl), atI_nat (j := 2) rfl⟩
        · exact ⟨_, .inr (.inr rfl), atI_nat (j := 3) rfl⟩
      obtain ⟨k, hk, hat⟩ := hw
      refine rd_ixL (SqL.of upd_same) hat ?_
      walk_at "rc"
      rw [e1]
      refine ⟨p, L, rfl, al, (dd2.ex ew).st, fun v2 t2 H4 hv2 lp2 dp2 sz2 dr2 => ?_⟩
      have dd4 := (dd2.ex ew).trans dr2
      walk_at "rc"
      refine ⟨by show 3 ≤ sizeLine; decide, fun a ha => ?_⟩
      have ea := Evl.Ex.new (o := .tup [.str k, v1, v2]) ha
      exact q _ (.bi k t1 t2) _ ⟨a, v1, v2, rfl, upd_same, PtV.kt (((KT.ex ew).trans (dr2.kt (dd2.ex ew).st)).trans (.ex ea)) t1 hv1, PtV.kt (.ex ea) t2 hv2⟩ ⟨hk, lp1, lp2⟩ (by show max t1.dep t2.dep + 1 ≤ _; omega) (by show t1.size + t2.size + 1 + 1 ≤ _; omega) (dd4.ex ea)
theorem ok_pts : ∀ d, d ≤ 6 → FnOk P w K mg base CX0 (d + 2) T.a_pattern T.d_pattern ["letters", "state", "deep"] (spLpt d)
  | 0, h => ok_pt T 0 h (T.f_pattern.ok sc_pattern (fun vs H Q E h => h.1) (fun cdv A outer s H vs Q E hr h => h.2.elim))
  | d + 1, h => ok_pt T (d + 1) h (ok_pts d (by omega))
theorem ok_pattern : FnOk P w K mg base CX0 8 T.a_pattern T.d_pattern ["letters", "state", "deep"] (fun vs H Q E => ∃ d, d ≤ 6 ∧ spLpt d vs H Q E) := FnOk.exd fun d hd => (ok_pts T d hd).mono (by omega)
end
section
theorem keys_some {kvs : List (L2.Key × V)} {ks : List Str} (hk : Keys kvs ks) (z : Str) : (valV kvs (.inr z)).isSome = decide (z ∈ ks) := by
  rw [← valV_any, Bool.eq_iff_iff, List.any_eq_true, decide_eq_true_iff]
  have hk : kvs.map (·.1) = ks.map Sum.inr := hk
  constructor
  · rintro ⟨q, hq, e⟩
    have e := of_decide_eq_true e
    have h : (.inr z : L2.Key) ∈ kvs.map (·.1) := e ▸ List.mem_map.mpr ⟨q, hq, rfl⟩
    rw [hk] at h
    obtain ⟨y, hy, e2⟩ := List.mem_map.mp h
    cases e2
    exact hy
  · intro h
    have h : (.inr z : L2.Key) ∈ kvs.map (·.1) := by rw [hk]; exact List.mem_map.mpr ⟨z, h, rfl⟩
    obtain ⟨q, hq, e⟩ := List.mem_map.mp h
    exact ⟨q, hq, decide_eq_true e⟩
theorem keys_len {kvs : List (L2.Key × V)} {ks : List Str} (hk : Keys kvs ks) : ks.length = kvs.length := by
  have := congrArg List.length hk
  rw [List.length_map, List.length_map] at this
  exact this.symm
theorem keys_V : ∀ {kvs : List (L2.Key × V)} {ks : List Str}, Keys kvs ks → (kvs.map fun kv => kV kv.1) = ks.map V.str
  | [], [], _ => rfl
  | [], _ :: _, h => nomatch h
  | _ :: _, [], h => nomatch h
  | q :: kvs, z :: ks, h => by
    have h : q.1 :: kvs.map (·.1) = .inr z :: ks.map Sum.inr := h
    injection h with h1 h2
    show kV q.1 :: (kvs.map fun kv => kV kv.1) = .str z :: ks.map V.str
    rw [h1, keys_V (kvs := kvs) (ks := ks) h2]
    rfl
/-- sorted(list(d)), where the sorted keys are known -/
theorem rd_sortK {σ : L2.St} {H : Hp} {Q : VK} {D : Addr} {kvs : List (L2.Key × V)} {ks ys : List Str} (hD : H D = some (.dK kvs)) (hk : Keys kvs ks) (hl : ks.length < 64) (py : ys.Perm ks) (sy : PyProof.Rows.sortedS ys = true)
    (q : ∀ l H', Ex H H' → H l = none → H' l = some (.lst (ys.map V.str)) → Q (.ref l) H') : rListD [.ref D] H fun x H1 => tNil σ H1 fun xs H2 => rSortedS K (x :: xs) H2 Q := by
  refine ⟨D, kvs, rfl, hD, fun l hl' => ?_⟩
  rw [keys_V hk]
  have e1 := Evl.Ex.new (o := .lst (ks.map V.str)) hl'
  refine ⟨l, ks, rfl, SqL.of upd_same, hl, fun zs p pz sz hp => ?_⟩
  have e : zs = ys := sorted_uniq (pz.trans py.symm) sz sy
  subst e
  refine q p _ (e1.trans (Evl.Ex.new hp)) ?_ upd_same
  cases h : H p with
  | none => rfl
  | some o => rw [e1 _ _ h] at hp; cases hp
theorem keys_put {kvs : List (L2.Key × V)} {ks : List Str} {z : Str} {v : V} (hk : Keys kvs ks) (hz : z ∉ ks) : Keys (putK kvs (.inr z) v) (ks ++ [z]) := by
  have h : valV kvs (.inr z) = none := by
    have e := keys_some hk z
    rw [decide_eq_false hz] at e
    cases hv : valV kvs (.inr z) with
    | none => rfl
    | some v => rw [hv] at e; cases e
  rw [putK_new v h]
  show (kvs ++ [((.inr z : L2.Key), v)]).map (fun q => q.1) = (ks ++ [z]).map Sum.inr
  rw [List.map_append, List.map_append, show kvs.map (·.1) = ks.map Sum.inr from hk]
  rfl
end
section
/-- the law's book: a tuple of its two dicts -/
structure LBk (K : PySem.W.Frag) (H : Hp) (p : Addr) (L : Str) (deep states : Nat) (v : V) (D1 D2 : Addr) (kp kr : List (L2.Key × V)) (ksp ksr : List Str) : Prop where
  b : ∃ bt, v = .ref bt ∧ H bt = some (.tup [.ref D1, .ref D2])
  hp : H D1 = some (.dK kp)
  hr : H D2 = some (.dK kr)
  np : D1 ≠ p
  nr : D2 ≠ p
  yp : Keys kp ksp
  yr : Keys kr ksr
  gp : Nms ksp []
  gr : Nms ksr []
  lp : 2 ≤ ksp.length ∧ ksp.length ≤ 4
  lr : 1 ≤ ksr.length ∧ ksr.length ≤ 3
  vp : ∀ k v, valV kp k = some v → ∃ t, PtV H t v ∧ LP L t ∧ t.dep ≤ deep ∧ t.size + 1 ≤ 2 ^ (deep + 1)
  vr : ∀ k v, valV kr k = some v → ∃ r, Dp K (hid [p] H) v (partsL r) ∧ goodR L r ∧ Sm r ∧ r.fin.length ≤ states
theorem LBk.ex {H H' : Hp} {p : Addr} {L : Str} {deep states : Nat} {v : V} {D1 D2 : Addr} {kp kr : List (L2.Key × V)} {ksp ksr : List Str} (h : LBk K H p L deep states v D1 D2 kp kr ksp ksr) (e : Ex H H') : LBk K H' p L deep states v D1 D2 kp kr ksp ksr :=
  ⟨h.b.imp fun bt q => ⟨q.1, e _ _ q.2⟩, e _ _ h.hp, e _ _ h.hr, h.np, h.nr, h.yp, h.yr, h.gp, h.gr, h.lp, h.lr, fun k v hv => let ⟨t, a, b⟩ := h.vp k v hv; ⟨t, a.kt (.ex e), b⟩, fun k v hv => let ⟨r, a, b⟩ := h.vr k v hv; ⟨r, a.ex (Ex.hid e), b⟩⟩
theorem LBk.dr {H H' : Hp} {p : Addr} {L : Str} {deep states : Nat} {v : V} {D1 D2 : Addr} {kp kr : List (L2.Key × V)} {ksp ksr : List Str} (h : LBk K H p L deep states v D1 D2 kp kr ksp ksr) (hS : StAt H p) (d : Dr p H H') : LBk K H' p L deep states v D1 D2 kp kr ksp ksr := by
  refine ⟨h.b.imp fun bt q => ⟨q.1, d.old _ _ (fun z => ?_) q.2⟩, d.old _ _ h.np h.hp, d.old _ _ h.nr h.hr, h.np, h.nr, h.yp, h.yr, h.gp, h.gr, h.lp, h.lr, fun k v hv => let ⟨t, a, b⟩ := h.vp k v hv; ⟨t, a.kt (d.kt hS), b⟩, fun k v hv => let ⟨r, a, b⟩ := h.vr k v hv; ⟨r, a.ex (d.kp (S := [p]) List.mem_cons_self).ex, b⟩⟩
  obtain ⟨l, ns, pl, h1, _⟩ := hS
  rw [z, h1] at q
  cases q.2
variable (T : Txt K mg)
def spLBook : Sp := fun vs H Q _ => ∃ (p : Addr) (L : Str) (deep states : Nat), vs = [.str L, .ref p, .int (deep : Int), .int (states : Int)] ∧ Alpha L 3 ∧ StAt H p ∧ deep ≤ 6 ∧ 0 < states ∧ states ≤ 10 ∧
  ∀ v D1 D2 kp kr ksp ksr H', LBk K H' p L deep states v D1 D2 kp kr ksp ksr → Dr p H H' → Q v H'
theorem ok_book : FnOk P w K mg base CX0 9 T.a_book T.d_book ["letters", "state", "deep", "states"] (spLBook (K := K)) := by
  refine T.f_book.ok sc_book (fun vs H Q E h => ?_) (fun cdv A outer s H vs Q E hr h => ?_)
  · obtain ⟨_, _, _, _, rfl, _⟩ := h; rfl
  · obtain ⟨p, L, deep, states, rfl, al, hS, d6, s0, s1, q⟩ := h
    have sz : 100000 ≤ sizeLine := by decide
    have l0 := al.l0
    have l1 := al.l1
    refine ⟨_, (pss_cons (ps_set (i := 4) sc_book.nd rfl (by first | exact Or.inl rfl | exact Or.inr rfl) pe_dnewK)
  (pss_cons (ps_for PassesOwn.never rfl (kAny K rfl (pe_callE (ok_named T) (hr.mono (by decide)) T.o_named (pa_cons (pv 1) (pa_cons (pe_op (kAdd K) pe_int (pe_callE (ok_next T) (hr.mono (by decide)) T.o_next (pa_cons (pv 1) (pa_cons pe_int pa_nil)))) (pa_cons (pe_lst pa_nil) pa_nil))))) (pg_name (i := 5) sc_book.nd rfl (by first | exact Or.inl rfl | exact Or.inr rfl))
    (pss_one (ps_dput (hu_of hr) (pv 4) (pv 5) (pe_callE (ok_pattern T) (hr.mono (by decide)) T.o_pattern (pa_cons (pv 0) (pa_cons (pv 1) (pa_cons (pe_callE (ok_next T) (hr.mono (by decide)) T.o_next (pa_cons (pv 1) (pa_cons (pe_op (kAdd K) (pv 2) pe_int) pa_nil))) pa_nil)))) rfl)))
  (pss_cons (ps_set (i := 6) sc_book.nd rfl (by first | exact Or.inl rfl | exact Or.inr rfl) pe_dnewK)
  (pss_cons (ps_for PassesOwn.never rfl (kAny K rfl (pe_callE (ok_named T) (hr.mono (by decide)) T.o_named (pa_cons (pv 1) (pa_cons (pe_op (kAdd K) pe_int (pe_callE (ok_next T) (hr.mono (by decide)) T.o_next (pa_cons (pv 1) (pa_cons pe_int pa_nil)))) (pa_cons (pe_lst pa_nil) pa_nil))))) (pg_name (i := 5) sc_book.nd rfl (by first | exact Or.inl rfl | exact Or.inr rfl))
    (pss_one (ps_dput (hu_of hr) (pv 6) (pv 5) (pe_callE (ok_maker T) (hr.mono (by decide)) T.o_maker (pa_cons (pv 0) (pa_cons (pv 1) (pa_cons (pv 3) pa_nil)))) rfl)))
  (pss_one (ps_ret (pe_tup (pa_cons (pv 4) (pa_cons (pv 6) pa_nil))))))))), ?_⟩
    walk_at "rc"
    intro D1 hD1
    have e1 := Evl.Ex.new (o := .dK []) hD1
    have g1 : upd H D1 (.dK []) D1 = some (.dK []) := upd_same
    have d1 : Dr p H (upd H D1 (.dK [])) := (Dr.refl hS).ex e1
    have n1 : D1 ≠ p := fun z => by
      obtain ⟨o, ho⟩ := hS.some
      rw [z, ho] at hD1; cases hD1
    generalize upd H D1 (.dK []) = H1 at e1 g1 d1
    walk_at "rc"
    walk_at "rs"
    walk_at "rc"
    refine rd_anyL' ?_
    walk_at "rc"
    refine ⟨p, 3, rfl, by decide, d1.st, fun r H2 r0 r1 S2 o2 i2 => ?_⟩
    have d2 : Dr p H1 H2 := ⟨S2, o2, i2.2⟩
    obtain ⟨r, rfl⟩ := Int.eq_ofNat_of_zero_le r0
    have er : (2 : Int) + (r : Int) = ((r + 2 : Nat) : Int) := by omega
    walk_at "rc"
    rw [er]
    refine ⟨Nat.zero_le _, fun el hel => ?_⟩
    have e3 := Evl.Ex.new (o := .lst []) hel
    have g3 : upd H2 el (.lst []) el = some (.lst (([] : List Str).map V.str)) := upd_same
    have d3 := (d1.trans d2).ex e3
    generalize upd H2 el (.lst []) = H3 at e3 g3 d3
    walk_at "rc"
    refine ⟨p, el, r + 2, [], rfl, d3.st, g3, by show 0 + _ ≤ 17; omega, fun nl ns H4 N ln d4 hnl gnl => ?_⟩
    refine ⟨nl, rfl, ⟨_, SqL.of gnl⟩, ?_⟩
    have dH4 := d3.trans d4
    have g14 : H4 D1 = some (.dK []) := d4.old _ _ n1 (e3 _ _ (d2.old _ _ n1 g1))
    have nlp : nl ≠ p := st_neL d4.st gnl
    have nl1 : nl ≠ D1 := fun z => by rw [z, g14] at gnl; cases gnl
    refine fo_list (a := nl) (xs := ns.map V.str) (fun i σ H' => ∃ (k5 : Option V) (kp : List (L2.Key × V)), σ = [some (.str L), some (.ref p), some (.int (deep : Int)), some (.int (states : Int)), some (.ref D1), k5, none] ∧ Dr p H H' ∧ H' nl = some (.lst (ns.map V.str)) ∧ H' D1 = some (.dK kp) ∧ Keys kp (ns.take i) ∧
        ∀ k v, valV kp k = some v → ∃ t, PtV H' t v ∧ LP L t ∧ t.dep ≤ deep ∧ t.size + 1 ≤ 2 ^ (deep + 1))
      ⟨_, [], rfl, dH4, gnl, g14, rfl, (fun k v h => nomatch h)⟩ (fun i σ H' _ h => let ⟨_, _, _, _, h, _⟩ := h; SqL.of h) ?_ ?_
    · rintro i x σ H5 hx ⟨k5, kp, rfl, d5, gn5, g15, hk5, hv5⟩
      rw [List.getElem?_map] at hx
      obtain ⟨z, hz, rfl⟩ := Option.map_eq_some_iff.mp hx
      have hi : i < ns.length := (List.getElem?_eq_some_iff.mp hz).1
      have S5 := d5.st
      walk_at "rc"
      refine ⟨p, (deep : Int) + 1, rfl, by omega, S5, fun r5 H6 r50 r51 S6 o6 i6 => ?_⟩
      have d6 : Dr p H5 H6 := ⟨S6, o6, i6.2⟩
      obtain ⟨r5, rfl⟩ := Int.eq_ofNat_of_zero_le r50
      have r5d : r5 ≤ deep := by omega
      walk_at "rc"
      refine ⟨r5, by omega, p, L, rfl, al, S6, fun v t H7 pv lp dp sp d7 => ?_⟩
      have d57 := d6.trans d7
      have g17 := d57.old _ _ n1 g15
      have kt := d57.kt S5
      walk_at "rc"
      have hnot : z ∉ ns.take i := fun hm => by
        obtain ⟨j, hj, e⟩ := List.getElem_of_mem hm
        rw [List.length_take] at hj
        rw [List.getElem_take] at e
        have e2 := (List.getElem?_eq_some_iff.mp hz).2
        have := (List.getElem_inj N.d).mp (e.trans e2.symm)
        omega
      have kl := keys_len hk5
      rw [List.length_take] at kl
      refine ⟨D1, _, rfl, DPut.k (k := .inr z) g17 (by rw [← kl]; omega), ?_⟩
      have kput : KT H7 (upd H7 D1 (.dK (putK kp (.inr z) v))) := .put fun xs h => by rw [g17] at h; cases h
      refine ⟨_, putK kp (.inr z) v, rfl, (d5.trans d57).put hS hD1, by rw [upd_ne nl1]; exact d57.old _ _ nlp gn5, upd_same, ?_, fun k v' h' => ?_⟩
      · rw [List.take_succ_eq_append_getElem hi, (List.getElem?_eq_some_iff.mp hz).2]
        exact keys_put hk5 hnot
      · rw [valV_put] at h'
        split at h'
        · cases h'
          exact ⟨t, pv.kt kput, lp, by omega, Nat.le_trans sp (Nat.pow_le_pow_right (by decide) (by omega))⟩
        · obtain ⟨t', a, b⟩ := hv5 k v' h'
          exact ⟨t', (a.kt kt).kt kput, b⟩
    rintro σ H5 ⟨k5, kp, rfl, d5, gn5, g15, hk5, hv5⟩
    rw [List.length_map, List.take_length] at hk5
    walk_at "rc"
    intro D2 hD2
    have e6 := Evl.Ex.new (o := .dK []) hD2
    have g26 : upd H5 D2 (.dK []) D2 = some (.dK []) := upd_same
    have d6 : Dr p H (upd H5 D2 (.dK [])) := d5.ex e6
    have n2 : D2 ≠ p := fun z => by
      obtain ⟨o, ho⟩ := d5.st.some
      rw [z, ho] at hD2; cases hD2
    have g16 := e6 _ _ g15
    have n12 : D1 ≠ D2 := fun z => by rw [z, hD2] at g15; cases g15
    have hv6 : ∀ k v, valV kp k = some v → ∃ t, PtV (upd H5 D2 (.dK [])) t v ∧ LP L t ∧ t.dep ≤ deep ∧ t.size + 1 ≤ 2 ^ (deep + 1) := fun k v h => let ⟨t, a, b⟩ := hv5 k v h; ⟨t, a.kt (.ex e6), b⟩
    generalize upd H5 D2 (.dK []) = H6 at e6 g26 d6 g16 hv6
    walk_at "rc"
    walk_at "rs"
    walk_at "rc"
    refine rd_anyL' ?_
    walk_at "rc"
    refine ⟨p, 3, rfl, by decide, d6.st, fun r' H7 r0' r1' S7 o7 i7 => ?_⟩
    have d7 : Dr p H6 H7 := ⟨S7, o7, i7.2⟩
    obtain ⟨r', rfl⟩ := Int.eq_ofNat_of_zero_le r0'
    have er' : (1 : Int) + (r' : Int) = ((r' + 1 : Nat) : Int) := by omega
    walk_at "rc"
    rw [er']
    refine ⟨Nat.zero_le _, fun el hel => ?_⟩
    have e8 := Evl.Ex.new (o := .lst []) hel
    have g8 : upd H7 el (.lst []) el = some (.lst (([] : List Str).map V.str)) := upd_same
    have d68 := d7.ex e8
    generalize upd H7 el (.lst []) = H8 at e8 g8 d68
    walk_at "rc"
    refine ⟨p, el, r' + 1, [], rfl, d68.st, g8, by show 0 + _ ≤ 17; omega, fun ml ms H9 M lm d9 hml gml => ?_⟩
    refine ⟨ml, rfl, ⟨_, SqL.of gml⟩, ?_⟩
    have d69 := d68.trans d9
    have g29 := d69.old _ _ n2 g26
    have mlp : ml ≠ p := st_neL d9.st gml
    have ml2 : ml ≠ D2 := fun z => by rw [z, g29] at gml; cases gml
    have hv9 : ∀ k v, valV kp k = some v → ∃ t, PtV H9 t v ∧ LP L t ∧ t.dep ≤ deep ∧ t.size + 1 ≤ 2 ^ (deep + 1) := fun k v h => let ⟨t, a, b⟩ := hv6 k v h; ⟨t, a.kt (d69.kt d6.st), b⟩
    refine fo_list (a := ml) (xs := ms.map V.str) (fun i σ H' => ∃ (k5 : Option V) (kr : List (L2.Key × V)), σ = [some (.str L), some (.ref p), some (.int (deep : Int)), some (.int (states : Int)), some (.ref D1), k5, some (.ref D2)] ∧ Dr p H H' ∧ H' ml = some (.lst (ms.map V.str)) ∧ H' D1 = some (.dK kp) ∧ H' D2 = some (.dK kr) ∧ Keys kr (ms.take i) ∧
        (∀ k v, valV kp k = some v → ∃ t, PtV H' t v ∧ LP L t ∧ t.dep ≤ deep ∧ t.size + 1 ≤ 2 ^ (deep + 1)) ∧ ∀ k v, valV kr k = some v → ∃ r, Dp K (hid [p, D2] H') v (partsL r) ∧ goodR L r ∧ Sm r ∧ r.fin.length ≤ states)
      ⟨_, [], rfl, d6.trans d69, gml, d69.old _ _ n1 g16, g29, rfl, hv9, (fun k v h => nomatch h)⟩ (fun i σ H' _ h => let ⟨_, _, _, _, h, _⟩ := h; SqL.of h) ?_ ?_
    · rintro i x σ H10 hx ⟨k5', kr, rfl, d10, gm10, g110, g210, hk10, hp10, hv10⟩
      rw [List.getElem?_map] at hx
      obtain ⟨z, hz, rfl⟩ := Option.map_eq_some_iff.mp hx
      have hi : i < ms.length := (List.getElem?_eq_some_iff.mp hz).1
      have S10 := d10.st
      walk_at "rc"
      refine ⟨p, L, states, [p, D2], rfl, l0, by omega, s0, s1, S10, List.mem_cons_self, (fun b hb => by
        rcases List.mem_cons.mp hb with e | hb
        · rw [e]; exact S10.some
        · rw [List.mem_singleton.mp hb]; exact ⟨_, g210⟩), fun v r H11 fv gr sm lf d11 => ?_⟩
      have g211 := d11.old _ _ n2 g210
      have k11 : Kp [p, D2] H10 H11 := d11.kp List.mem_cons_self
      walk_at "rc"
      have hnot : z ∉ ms.take i := fun hm => by
        obtain ⟨j, hj, e⟩ := List.getElem_of_mem hm
        rw [List.length_take] at hj
        rw [List.getElem_take] at e
        have e2 := (List.getElem?_eq_some_iff.mp hz).2
        have := (List.getElem_inj M.d).mp (e.trans e2.symm)
        omega
      have kl := keys_len hk10
      rw [List.length_take] at kl
      refine ⟨D2, _, rfl, DPut.k (k := .inr z) g211 (by rw [← kl]; omega), ?_⟩
      have kput : KT H11 (upd H11 D2 (.dK (putK kr (.inr z) v))) := .put fun xs h => by rw [g211] at h; cases h
      have kpp : Kp [p, D2] H11 (upd H11 D2 (.dK (putK kr (.inr z) v))) := Kp.put (List.mem_cons_of_mem _ List.mem_cons_self)
      refine ⟨_, putK kr (.inr z) v, rfl, ?_, by rw [upd_ne ml2]; exact d11.old _ _ mlp gm10, by rw [upd_ne n12]; exact d11.old _ _ n1 g110, upd_same, ?_, fun k v h => let ⟨t, a, b⟩ := hp10 k v h; ⟨t, (a.kt (d11.kt S10)).kt kput, b⟩, fun k v' h' => ?_⟩
      · exact (d10.trans d11).put hS (d5.back hS hD2)
      · rw [List.take_succ_eq_append_getElem hi, (List.getElem?_eq_some_iff.mp hz).2]
        exact keys_put hk10 hnot
      · rw [valV_put] at h'
        split at h'
        · cases h'
          exact ⟨r, fv.ex kpp.ex, gr, sm, lf⟩
        · obtain ⟨r', a, b⟩ := hv10 k v' h'
          exact ⟨r', (a.ex k11.ex).ex kpp.ex, b⟩
    rintro σ H10 ⟨k5', kr, rfl, d10, gm10, g110, g210, hk10, hp10, hv10⟩
    rw [List.length_map, List.take_length] at hk10
    walk_at "rc"
    refine ⟨by show 2 ≤ sizeLine; omega, fun bt hbt => ?_⟩
    have e11 := Evl.Ex.new (o := .tup [.ref D1, .ref D2]) hbt
    refine q (.ref bt) D1 D2 kp kr ns ms _ ⟨⟨bt, rfl, upd_same⟩, e11 _ _ g110, e11 _ _ g210, n1, n2, hk5, hk10, N, M, by omega, by omega, fun k v h => let ⟨t, a, b⟩ := hp10 k v h; ⟨t, a.kt (.ex e11), b⟩, fun k v h => let ⟨r, a, b⟩ := hv10 k v h; ⟨r, (a.ex (Ex.hid e11)).ex (hid_sub fun b hb => by rw [List.mem_singleton.mp hb]; exact List.mem_cons_self), b⟩⟩ (d10.ex e11)
end
section
/-- addresses that hold nothing but dicts and tables -/
def Off (S : List Addr) (H : Hp) : Prop := ∀ b ∈ S, ∀ o, H b = some o → (∃ kvs, o = .dK kvs) ∨ ∃ ps, o = .tbl ps
theorem Off.noD {S : List Addr} {H : Hp} (h : Off S H) : NoD S H := fun b hb o e => by
  rcases h b hb o e with ⟨kvs, rfl⟩ | ⟨kvs, rfl⟩ <;> exact ⟨(fun _ z => nomatch z), (fun _ z => nomatch z), (fun _ _ z => nomatch z), (fun _ _ z => nomatch z)⟩
theorem Off.kp {S : List Addr} {H H' : Hp} (h : Off S H) (k : Kp S H H') {b : Addr} {o : HO} (e : H b = some o) (n1 : ∀ kvs, o ≠ .dK kvs) (n2 : ∀ ps, o ≠ .tbl ps) : H' b = some o :=
  k b o (fun hb => (h b hb o e).elim (fun ⟨_, z⟩ => n1 _ z) fun ⟨_, z⟩ => n2 _ z) e
theorem Off.dp {S : List Addr} {H H' : Hp} (h : Off S H) (k : Kp S H H') {v : V} {d : PyData} (e : Dp K H v d) : Dp K H' v d := ((Dp.hidF h.noD _ e).ex k.ex).ex hid_ex
theorem Off.kt {S : List Addr} {H H' : Hp} (h : Off S H) (k : Kp S H H') : KT H H' := fun b xs e => h.kp k e (fun _ z => nomatch z) (fun _ z => nomatch z)
theorem Off.one {H : Hp} {dm : Addr} {kvs : List (L2.Key × V)} (h : H dm = some (.dK kvs)) : Off [dm] H := fun b hb o e => by
  rw [List.mem_singleton.mp hb, h] at e
  exact .inl ⟨kvs, (Option.some.inj e).symm⟩
theorem made_ex {C x dx : Addr} {H H' : Hp} (hx : H x = none) (hd : H dx = none) (ne : dx ≠ x) (k : Kp [x] (upd (upd H dx (.own x)) x (.ins C dx [])) H') : Ex H H' := fun b o q =>
  k b o (fun z => ne_of_none q hx (List.mem_singleton.mp z)) (by rw [upd_ne (ne_of_none q hx), upd_ne (ne_of_none q hd)]; exact q)
theorem upd2_ex {C x dx : Addr} {H : Hp} (hx : H x = none) (hd : H dx = none) : Ex H (upd (upd H dx (.own x)) x (.ins C dx [])) := fun b o q => by
  rw [upd_ne (ne_of_none q hx), upd_ne (ne_of_none q hd)]; exact q
theorem rowsD_P (tab : List (List Way)) : RowsD (tab.map rowL) tab := ⟨List.length_map .., fun i d row h1 h2 => by
  rw [List.getElem?_map, h2] at h1
  exact .inl (Option.some.inj h1).symm⟩
theorem noL_fin (fin : List (Option Str)) : noList (.tuple (fin.map encO)) = true := noList_all fun d hd => by
  obtain ⟨o, _, rfl⟩ := List.mem_map.mp hd
  cases o <;> rfl
theorem noL_tab (tab : List (List Way)) : noList (.tuple (tab.map encRow)) = true := noList_all fun d hd => by
  obtain ⟨row, _, rfl⟩ := List.mem_map.mp hd
  refine noList_all fun d hd => ?_
  obtain ⟨o, _, rfl⟩ := List.mem_map.mp hd
  cases o <;> rfl
theorem RwAt.hid' {C : Addr} {H : Hp} {m : Addr} {ls : Str} {r : Parts} {S : List Addr} (h : RwAt K C H m ls r) (hS : ∀ b ∈ S, ∃ xs, H b = some (.lst xs)) : RwAt K C (hid S H) m ls r := by
  obtain ⟨dx, tf, tt, h1, h2, h3⟩ := h
  refine ⟨dx, tf, tt, ?_, Dp.hidT (fun b hb => .inr (hS b hb)) _ (noL_fin _) h2, Dp.hidT (fun b hb => .inr (hS b hb)) _ (noL_tab _) h3⟩
  rw [hid_at fun hb => ?_]
  · exact h1
  · obtain ⟨xs, z⟩ := hS m hb
    rw [z] at h1; cases h1
theorem rw_putD {C : Addr} {H : Hp} {D m : Addr} {kvs : List (L2.Key × V)} {o : HO} {ls : Str} {r : Parts} (h : RwAt K C H m ls r) (e : H D = some (.dK kvs)) : RwAt K C (upd H D o) m ls r := by
  obtain ⟨dx, tf, tt, h1, h2, h3⟩ := h
  have k : Kp [D] H (upd H D o) := Kp.put List.mem_cons_self
  have off := Off.one e
  exact ⟨dx, tf, tt, off.kp k h1 (fun _ z => nomatch z) (fun _ z => nomatch z), off.dp k h2, off.dp k h3⟩
open PyProof.Rows PySem.Spec in
theorem sort_ex (l : List Str) : ∃ ys : List Str, ys.Perm l ∧ PyProof.Rows.sortedS ys = true := by
  refine ⟨l.mergeSort fun a b => !ltCps b.cps.toList a.cps.toList, List.mergeSort_perm _ _, PyProof.Rows.sortedS_of_pairwise _ ?_⟩
  have h := List.pairwise_mergeSort (le := fun a b : Str => !ltCps b.cps.toList a.cps.toList) (fun a b c h1 h2 => ?_) (fun a b => ?_) l
  · exact h.imp fun h => by simpa using h
  · have h1 : ltCps b.cps.toList a.cps.toList = false := by simpa using h1
    have h2 : ltCps c.cps.toList b.cps.toList = false := by simpa using h2
    have := le_tr _ _ _ h1 h2
    simp [this]
  · cases h : ltCps b.cps.toList a.cps.toList with
    | false => simp
    | true =>
      cases h2 : ltCps a.cps.toList b.cps.toList with
      | false => simp
      | true =>
        rw [ltCps_eq] at h h2
        exact absurd (of_decide_eq_true h2) (List.lt_asymm (of_decide_eq_true h))
theorem bad_none {ys zs : List Str} (hy : ∀ z ∈ ys, nameB z = true) (hz : ∀ z ∈ zs, nameB z = true) : badOf ys zs = none := by
  unfold badOf
  rw [List.find?_eq_none]
  intro z h
  rcases List.mem_append.mp h with h | h
  · rw [hy z h]; decide
  · rw [hz z h]; decide
theorem rwAt_frz {C D : Addr} {H : Hp} {m : Addr} {od : Obj} {kvs : List (L2.Key × V)} {o : HO} {ls : Str} {r : Parts} (h : RwAt K C H m ls r) (e : H D = some (.frz od (.dK kvs))) : RwAt K C (upd H D o) m ls r := by
  obtain ⟨dx, tf, tt, h1, h2, h3⟩ := h
  have n : NoD [D] H := fun b hb o' e' => by
    rw [List.mem_singleton.mp hb, e] at e'
    cases e'
    exact ⟨(fun _ z => nomatch z), (fun _ z => nomatch z), (fun _ _ z => nomatch z), (fun _ _ z => nomatch z)⟩
  have k : Kp [D] H (upd H D o) := Kp.put List.mem_cons_self
  refine ⟨dx, tf, tt, ?_, ((Dp.hidF n _ h2).ex k.ex).ex hid_ex, ((Dp.hidF n _ h3).ex k.ex).ex hid_ex⟩
  rw [upd_ne fun z => ?_]
  · exact h1
  · rw [z, e] at h1; cases h1
end
section
theorem rd_keysI {td : TE} {σ : L2.St} {H : Hp} {R : It → Hp → Prop} (h : td σ H fun x H1 => ∃ d o, x = V.ref d ∧ ((∃ kvs, H1 d = some (.frz o (.dK kvs)) ∧ R (Itk d o kvs) H1) ∨ ∃ kvs, H1 d = some (.frz o (.dT kvs)) ∧ R (Itkt d o kvs) H1)) : iKeys td σ H R := h
variable (T : Txt K mg)
/-- the book made of the law's: machines and rewriters under their names -/
def spMadeB : Sp := fun vs H Q _ => ∃ (p : Addr) (L : Str) (deep states : Nat) (v : V) (D1 D2 : Addr) (kp kr : List (L2.Key × V)) (ksp ksr : List Str) (rf : Str → Parts), vs = [.str L, v] ∧ LBk K H p L deep states v D1 D2 kp kr ksp ksr ∧ goodA L ∧
  (∀ z v, valV kr (.inr z) = some v → Dp K (hid [p] H) v (partsL (rf z)) ∧ goodR L (rf z) ∧ Sm (rf z)) ∧
  ∀ m dp dr dm kp' kr' H', Ex H H' → H m = none → H dp = none → H dr = none → H dm = none → BkF T.C_Book H' m L dp dr dm kp' kr' → (∀ k, valV kp' k = valV kp k) →
    (∀ z, valV kr' (.inr z) = none ↔ valV kr (.inr z) = none) → (∀ z v, valV kr' (.inr z) = some v → ∃ x, v = .ref x ∧ RwAt K T.C_Rewriter H' x L (rf z)) → H' dm = some (.dK []) → Q (.ref m) H'
theorem ok_made_book : FnOk P w K mg base CX0 8 T.a_made_book T.d_made_book ["letters", "book"] (spMadeB T) := by
  refine T.f_made_book.ok sc_made_book (fun vs H Q E h => ?_) (fun cdv A outer s H vs Q E hr h => ?_)
  · obtain ⟨_, _, _, _, _, _, _, _, _, _, _, _, rfl, _⟩ := h; rfl
  · obtain ⟨p, L, deep, states, v, D1, D2, kp, kr, ksp, ksr, rf, rfl, B, ga, hrf, q⟩ := h
    have sz : 100000 ≤ sizeLine := by decide
    obtain ⟨bt, rfl, hbt⟩ := B.b
    refine ⟨_, (pss_cons (ps_set (i := 2) sc_made_book.nd rfl (by first | exact Or.inl rfl | exact Or.inr rfl) pe_dnewK)
  (pss_cons (ps_lock (ps_for PassesOwn.never rfl (pi_keys (pe_ix (kIx K) (pv 1) pe_int (fun _ _ => rfl))) (pg_name (i := 3) sc_made_book.nd rfl (by first | exact Or.inl rfl | exact Or.inr rfl))
    (pss_one (ps_dput (hu_of hr) (pv 2) (pv 3) (pe_makeR T.mk_Rewriter (ok_Rewriter_init T) (hr.mono (by decide)) T.g_Rewriter T.b_Rewriter_init takes0 (pa_cons (pv 0) (pa_cons (pe_ix (kIx K) (pe_dget (hu_of hr) (pe_ix (kIx K) (pv 1) pe_int (fun _ _ => rfl)) (pv 3) (fun _ _ => rfl)) pe_int (fun _ _ => rfl)) (pa_cons (pe_ix (kIx K) (pe_dget (hu_of hr) (pe_ix (kIx K) (pv 1) pe_int (fun _ _ => rfl)) (pv 3) (fun _ _ => rfl)) pe_int (fun _ _ => rfl)) (pa_cons (pe_ix (kIx K) (pe_dget (hu_of hr) (pe_ix (kIx K) (pv 1) pe_int (fun _ _ => rfl)) (pv 3) (fun _ _ => rfl)) pe_int (fun _ _ => rfl)) pa_nil))))) rfl))))
  (pss_one (ps_ret (pe_makeR T.mk_Book (ok_Book_init T) (hr.mono (by decide)) T.g_Book T.b_Book_init takes0 (pa_cons (pv 0) (pa_cons (pe_callTy call_dictD (by rfl) T.nb_dict (by decide +kernel) (pa_cons (pe_ix (kIx K) (pv 1) pe_int (fun _ _ => rfl)) pa_nil)) (pa_cons (pv 2) pa_nil)))))))), ?_⟩
    walk_at "rc"
    intro D hD
    have e1 := Evl.Ex.new (o := .dK []) hD
    have g1 : upd H D (.dK []) D = some (.dK []) := upd_same
    generalize upd H D (.dK []) = H1 at e1 g1
    have hb1 := e1 _ _ hbt
    have hr1 := e1 _ _ B.hr
    walk_at "rc"
    walk_at "rs"
    refine ⟨D2, .dK kr, hr1, trivial, fun od => ?_⟩
    have n12 : D ≠ D2 := fun z => by rw [z, B.hr] at hD; cases hD
    have k0 : Kp [D2] H1 (upd H1 D2 (.frz od (.dK kr))) := Kp.put List.mem_cons_self
    have f0 : upd H1 D2 (.frz od (.dK kr)) D2 = some (.frz od (.dK kr)) := upd_same
    have gD0 : upd H1 D2 (.frz od (.dK kr)) D = some (.dK []) := by rw [upd_ne n12]; exact g1
    have hb0 : upd H1 D2 (.frz od (.dK kr)) bt = some (.tup [.ref D1, .ref D2]) := by
      rw [upd_ne fun z => ?_]; exact hb1
      rw [z, hr1] at hb1; cases hb1
    have hv0 : ∀ z v, valV kr (.inr z) = some v → Dp K (upd H1 D2 (.frz od (.dK kr))) v (partsL (rf z)) ∧ goodR L (rf z) ∧ Sm (rf z) := fun z v hz => by
      obtain ⟨a, b⟩ := hrf z v hz
      exact ⟨(Off.one hr1).dp k0 ((a.ex hid_ex).ex e1), b⟩
    generalize hH0 : upd H1 D2 (.frz od (.dK kr)) = H0 at k0 f0 gD0 hb0 hv0
    walk_at "rc"
    refine rd_keysI ?_
    walk_at "rc"
    refine rd_ixT (Evl.st_of hb0) (atI_nat (j := 1) rfl) ⟨D2, od, rfl, .inl ⟨kr, f0, ?_⟩⟩
    have kl := keys_len B.yr
    have lr := B.lr
    have ykr : kr.map (·.1) = ksr.map Sum.inr := B.yr
    refine fo_it walk_keys (fun i σ H' => ∃ (kr' : List (L2.Key × V)) (k3 : Option V), σ = [some (.str L), some (.ref bt), some (.ref D), k3] ∧ Kp [D] H0 H' ∧ H' D2 = some (.frz od (.dK kr)) ∧ H' D = some (.dK kr') ∧ Keys kr' (ksr.take i) ∧
        ∀ z v, valV kr' (.inr z) = some v → ∃ x, v = .ref x ∧ RwAt K T.C_Rewriter H' x L (rf z))
      ⟨[], _, rfl, Kp.refl, f0, gD0, rfl, fun z v h => nomatch h⟩ (fun i σ H' _ ⟨_, _, _, p⟩ => p.2.1) ?_ ?_
    · rintro i x σ H2x H2 hi ⟨kr', k3, rfl, k2, f2, gD2, hk2, hv2⟩ ⟨rfl, k, v, hkv, rfl⟩
      have hz : ∃ z, ksr[i]? = some z ∧ k = .inr z := by
        have e : (kr.map (·.1))[i]? = some k := by rw [List.getElem?_map, hkv]; rfl
        rw [ykr, List.getElem?_map] at e
        obtain ⟨z, hz, e⟩ := Option.map_eq_some_iff.mp e
        exact ⟨z, hz, e.symm⟩
      obtain ⟨z, hz, rfl⟩ := hz
      have hi' : i < ksr.length := (List.getElem?_eq_some_iff.mp hz).1
      obtain ⟨v1, hv1⟩ : ∃ v, valV kr (.inr z) = some v := Option.isSome_iff_exists.mp (by rw [keys_some B.yr, decide_eq_true (List.mem_of_getElem? hz)])
      obtain ⟨dv, gr, sm⟩ := hv0 z v1 hv1
      have hb2 := k2 bt _ (fun hb => by rw [List.mem_singleton.mp hb, gD0] at hb0; cases hb0) hb0
      have dv2 : Dp K H2 v1 (partsL (rf z)) := (Off.one gD0).dp k2 dv
      have dg : DGet H2 D2 (.str z) (some v1) := hv1 ▸ (.inl ⟨kr, .inr z, .inr ⟨od, f2⟩, rfl, rfl⟩ : DGet H2 D2 (.str z) (valV kr (.inr z)))
      have vlk : (if (.inr z : L2.Key) = .inr z then 0 else 1) = 0 := if_pos rfl
      walk_at "rc"
      refine rd_ixT (Evl.st_of hb2) (atI_nat (j := 1) rfl) ?_
      walk_at "rc"
      refine ⟨D2, v1, rfl, dg, ?_⟩
      walk_at "rc"
      refine rd_ixDT (Evl.Ex.refl H2) dv2 (i := 0) rfl fun w0 h0 => ?_
      cases Dp.str_iff h0
      walk_at "rc"
      refine rd_ixT (Evl.st_of hb2) (atI_nat (j := 1) rfl) ?_
      walk_at "rc"
      refine ⟨D2, v1, rfl, dg, ?_⟩
      walk_at "rc"
      refine rd_ixDT (Evl.Ex.refl H2) dv2 (i := 1) rfl fun w1 h1 => ?_
      walk_at "rc"
      refine rd_ixT (Evl.st_of hb2) (atI_nat (j := 1) rfl) ?_
      walk_at "rc"
      refine ⟨D2, v1, rfl, dg, ?_⟩
      walk_at "rc"
      refine rd_ixDT (Evl.Ex.refl H2) dv2 (i := 2) rfl fun w2 h2 => ?_
      walk_at "rc"
      intro x dx hx hdx ne
      have ex2 := upd2_ex (C := T.C_Rewriter) hx hdx
      refine ⟨x, dx, w1, w2, L, rf z, (rf z).tab.map rowL, rfl, by have := ga.2.1; omega, sm.bnd, upd_same, .inl (h1.ex ex2), .inl (h2.ex ex2), rowsD_P _, fun _ H4 kx hrw => ⟨rfl, ?_⟩, fun ng => absurd gr ng⟩
      have e4 := made_ex hx hdx ne kx
      have gD4 := e4 _ _ gD2
      walk_at "rc"
      have hnot : z ∉ ksr.take i := fun hm => by
        obtain ⟨j, hj, e⟩ := List.getElem_of_mem hm
        rw [List.length_take] at hj
        rw [List.getElem_take] at e
        have e2 := (List.getElem?_eq_some_iff.mp hz).2
        have := (List.getElem_inj B.gr.d).mp (e.trans e2.symm)
        omega
      have kl2 := keys_len hk2
      rw [List.length_take] at kl2
      refine ⟨D, _, rfl, DPut.k (k := .inr z) gD4 (by rw [← kl2]; omega), ?_⟩
      have kpD : Kp [D] H4 (upd H4 D (.dK (putK kr' (.inr z) (.ref x)))) := Kp.put List.mem_cons_self
      have rwk : ∀ {y : Addr}, RwAt K T.C_Rewriter H4 y L (rf z) → True := fun _ => trivial
      refine ⟨putK kr' (.inr z) (.ref x), _, rfl, (k2.trans (Kp.of_ex e4)).trans kpD, ?_, upd_same, ?_, fun z' v' h' => ?_⟩
      · rw [upd_ne (Ne.symm n12)]; exact e4 _ _ f2
      · rw [List.take_succ_eq_append_getElem hi', (List.getElem?_eq_some_iff.mp hz).2]
        exact keys_put hk2 hnot
      · rw [valV_put] at h'
        split at h'
        · rename_i e
          cases e
          cases h'
          exact ⟨x, rfl, rw_putD hrw gD4⟩
        · obtain ⟨y, rfl, hy⟩ := hv2 z' v' h'
          exact ⟨y, rfl, rw_putD (hy.ex e4) gD4⟩
    · rintro σ H2 ⟨kr', k3, rfl, k2, f2, gD2, hk2, hv2⟩
      rw [← kl, List.take_length] at hk2
      refine ⟨f2, ?_⟩
      have eu : Ex H (upd H2 D2 (.dK kr)) := fun b o hb => by
        by_cases z : b = D2
        · rw [z, B.hr] at hb
          rw [z, ← hb, upd_same]
        · rw [upd_ne z]
          refine k2 b o (fun hm => ?_) (k0 b o (fun hm => z (List.mem_singleton.mp hm)) (e1 b o hb))
          rw [List.mem_singleton.mp hm, hD] at hb; cases hb
      have hDu : upd H2 D2 (.dK kr) D = some (.dK kr') := by rw [upd_ne n12]; exact gD2
      have hvu : ∀ z v, valV kr' (.inr z) = some v → ∃ x, v = .ref x ∧ RwAt K T.C_Rewriter (upd H2 D2 (.dK kr)) x L (rf z) := fun z v h => by
        obtain ⟨x, e, hx⟩ := hv2 z v h
        exact ⟨x, e, rwAt_frz hx f2⟩
      generalize upd H2 D2 (.dK kr) = H3 at eu hDu hvu
      have hDn : H3 D1 = some (.dK kp) := eu _ _ B.hp
      walk_at "rc"
      refine rd_ixT (Evl.st_of (eu _ _ hbt)) (atI_nat (j := 0) rfl) ?_
      walk_at "rc"
      refine ⟨D1, kp, rfl, .inl hDn, fun pc hpc => ?_⟩
      have e4 := Evl.Ex.new (o := .dK kp) hpc
      have g4 : upd H3 pc (.dK kp) pc = some (.dK kp) := upd_same
      have hvu4 : ∀ z v, valV kr' (.inr z) = some v → ∃ x, v = .ref x ∧ RwAt K T.C_Rewriter (upd H3 pc (.dK kp)) x L (rf z) := fun z v h => let ⟨x, e, hx⟩ := hvu z v h; ⟨x, e, hx.ex e4⟩
      have hDu4 := e4 _ _ hDu
      have eu4 := eu.trans e4
      generalize upd H3 pc (.dK kp) = H4 at e4 g4 hvu4 hDu4 eu4
      walk_at "rc"
      intro x dx hx hdx ne
      have ex5 := upd2_ex (C := T.C_Book) hx hdx
      have back : ∀ {b : Addr}, upd (upd H4 dx (.own x)) x (.ins T.C_Book dx []) b = none → H b = none := fun {b} h => by
        cases z : H b with
        | none => rfl
        | some o => rw [(eu4.trans ex5) _ _ z] at h; cases h
      obtain ⟨ys, py, sy⟩ := sort_ex ksp
      obtain ⟨zs, pz, sz'⟩ := sort_ex ksr
      have l8 : ∀ {z : Str}, nameB z = true → z.length ≤ 10000 := fun {z} h => by
        unfold nameB at h
        simp only [Bool.and_eq_true, decide_eq_true_eq] at h
        have := h.1.1.2
        omega
      refine ⟨x, dx, pc, D, L, kp, kr', ksp, ksr, ys, zs, rfl, by have := ga.2.1; omega, upd_same, ex5 _ _ g4, ex5 _ _ hDu4, B.yp, hk2, by have := B.lp.2; omega, by have := B.lr.2; omega, (fun z hz => l8 (B.gp.g z hz)), (fun z hz => l8 (B.gr.g z hz)), py, sy, pz, sz', fun _ _ dp dr dm kp' kr'' H5 k5 n1 n2 n3 BF v1 v2 hdm => ⟨rfl, ?_⟩, fun _ z hz => ?_, fun ng => absurd ga ng⟩
      · have e5 := made_ex hx hdx ne k5
        have hx0 : H x = none := by
          cases z : H x with
          | none => rfl
          | some o => rw [eu4 _ _ z] at hx; cases hx
        refine q x dp dr dm kp' kr'' H5 (eu4.trans e5) hx0 (back n1) (back n2) (back n3) BF v1 (fun z => ?_) (fun z v hv => ?_) hdm
        · rw [v2]
          have a1 := keys_some hk2 z
          have a2 := keys_some B.yr z
          rw [← Option.isNone_iff_eq_none, ← Option.isNone_iff_eq_none]
          cases h1 : valV kr' (.inr z) <;> cases h2 : valV kr (.inr z) <;> rw [h1] at a1 <;> rw [h2] at a2 <;> rw [← a2] at a1 <;> simp_all
        · rw [v2] at hv
          obtain ⟨y, e, hy⟩ := hvu4 z v hv
          exact ⟨y, e, hy.ex e5⟩
      · rw [bad_none (fun z h => B.gp.g z (py.mem_iff.mp h)) (fun z h => B.gr.g z (pz.mem_iff.mp h))] at hz
        cases hz
end
section
/-- what a drawn line may read and name -/
def LnIn (L : Str) (ksp ksr known : List Str) (name : Str) : Ln → Prop
  | .jo n ps => n = name ∧ 1 ≤ ps.length ∧ ps.length ≤ 3 ∧ ∀ q ∈ ps, match q with | .txt z => isT L z ∧ z.length ≤ 2 | .nam z => z ∈ known
  | .tu n s => n = name ∧ s ∈ known
  | .rw n r s => n = name ∧ r ∈ ksr ∧ s ∈ known
  | .ch n s q y d => n = name ∧ s ∈ known ∧ q ∈ ksp ∧ y ∈ known ∧ d ∈ known
  | .ne s q => s ∈ known ∧ q ∈ ksp
theorem mem_strV {v : V} {ss : List Str} (h : v ∈ ss.map V.str) : ∃ s ∈ ss, v = .str s := by
  obtain ⟨s, hs, rfl⟩ := List.mem_map.mp h
  exact ⟨s, hs, rfl⟩
theorem dr_hid {p a : Addr} {H H' : Hp} (d : Dr p H H') : Ex (hid [a, p] H) (hid [a, p] H') := (d.kp (S := [a, p]) (List.mem_cons_of_mem _ List.mem_cons_self)).ex
variable (T : Txt K mg)
def spLine : Sp := fun vs H Q _ => ∃ (p kn : Addr) (L name : Str) (deep states : Nat) (v : V) (D1 D2 : Addr) (kp kr : List (L2.Key × V)) (ksp ksr known : List Str), vs = [.str L, .ref p, v, .ref kn, .str name] ∧ LBk K H p L deep states v D1 D2 kp kr ksp ksr ∧ Alpha L 3 ∧ StAt H p ∧
  H kn = some (.lst (known.map V.str)) ∧ 0 < known.length ∧ known.length ≤ 1000 ∧ ∀ v l H', Dp K (hid [p] H') v (encLn l) → LnIn L ksp ksr known name l → Dr p H H' → Q v H'
theorem ok_line : FnOk P w K mg base CX0 3 T.a_line T.d_line ["letters", "state", "book", "known", "name"] (spLine (K := K)) := by
  refine T.f_line.ok sc_line (fun vs H Q E h => ?_) (fun cdv A outer s H vs Q E hr h => ?_)
  · obtain ⟨_, _, _, _, _, _, _, _, _, _, _, _, _, _, rfl, _⟩ := h; rfl
  · obtain ⟨p, kn, L, name, deep, states, bv, D1, D2, kp, kr, ksp, ksr, known, rfl, B, al, hS, hk, k0, k1, q⟩ := h
    have sz : 100000 ≤ sizeLine := by decide
    have nkp := st_neL hS hk
    have l0 := al.l0
    have l1 := al.l1
    obtain ⟨bt, rfl, hbt⟩ := B.b
    have nbt : bt ≠ p := fun z => by
      obtain ⟨l, ns, pl, h1, _⟩ := hS
      rw [z, h1] at hbt; cases hbt
    have km : (known.map V.str).length = known.length := List.length_map ..
    refine ⟨_, (pss_cons (ps_set (i := 5) sc_line.nd rfl (by first | exact Or.inl rfl | exact Or.inr rfl) (pe_callE (ok_next T) (hr.mono (by decide)) T.o_next (pa_cons (pv 1) (pa_cons pe_int pa_nil))))
  (pss_cons (ps_if (pt_cmpR op_ltP (pv 5) pe_int (by first | rfl | exact nomark _))
    (pss_cons (ps_set (i := 6) sc_line.nd rfl (by first | exact Or.inl rfl | exact Or.inr rfl) (pe_lst pa_nil))
  (pss_cons (ps_for PassesOwn.never rfl (pi_range1 (by rfl) T.nb_range (pa_cons (pe_op (kAdd K) pe_int (pe_callE (ok_next T) (hr.mono (by decide)) T.o_next (pa_cons (pv 1) (pa_cons pe_int pa_nil)))) pa_nil)) (pg_name (i := 7) sc_line.nd rfl (by first | exact Or.inl rfl | exact Or.inr rfl))
    (pss_one (ps_if (pt_cmpR (kEq K rfl hr.units) (pe_callE (ok_next T) (hr.mono (by decide)) T.o_next (pa_cons (pv 1) (pa_cons pe_int pa_nil))) pe_int (by first | rfl | exact nomark _))
    (pss_one (ps_expr (kBm K rfl (pe_bm PySem.F.plainAttrs_list PySem.F.slot_list_append PySem.F.type_list_append mt_append (pv 6) (pa_cons (pe_tup (pa_cons pe_str (pa_cons (pe_callE (ok_word T) (hr.mono (by decide)) T.o_word (pa_cons (pv 0) (pa_cons (pv 1) (pa_cons pe_int pa_nil)))) pa_nil))) pa_nil)))))
    (pss_one (ps_expr (kBm K rfl (pe_bm PySem.F.plainAttrs_list PySem.F.slot_list_append PySem.F.type_list_append mt_append (pv 6) (pa_cons (pe_tup (pa_cons pe_str (pa_cons (pe_callE (ok_pick T) (hr.mono (by decide)) T.o_pick (pa_cons (pv 1) (pa_cons (pv 3) pa_nil))) pa_nil))) pa_nil))))))))
  (pss_one (ps_ret (pe_tup (pa_cons pe_str (pa_cons (pv 4) (pa_cons (pe_callTy (kTupOf K) (by rfl) T.nb_tuple (by decide +kernel) (pa_cons (pv 6) pa_nil)) pa_nil))))))))
    pss_nil)
  (pss_cons (ps_if (pt_cmpR (kEq K rfl hr.units) (pv 5) pe_int (by first | rfl | exact nomark _))
    (pss_one (ps_ret (pe_tup (pa_cons pe_str (pa_cons (pv 4) (pa_cons (pe_callE (ok_pick T) (hr.mono (by decide)) T.o_pick (pa_cons (pv 1) (pa_cons (pv 3) pa_nil))) pa_nil))))))
    pss_nil)
  (pss_cons (ps_if (pt_cmpR op_ltP (pv 5) pe_int (by first | rfl | exact nomark _))
    (pss_one (ps_ret (pe_tup (pa_cons pe_str (pa_cons (pv 4) (pa_cons (pe_callE (ok_pick T) (hr.mono (by decide)) T.o_pick (pa_cons (pv 1) (pa_cons (pe_callB (kSortS K) (by rfl) T.nb_sorted (by decide +kernel) (pa_cons (pe_callTy (call_list_dK (by rfl)) (by rfl) T.nb_list (by decide +kernel) (pa_cons (pe_ix (kIx K) (pv 2) pe_int (fun _ _ => rfl)) pa_nil)) pa_nil)) pa_nil))) (pa_cons (pe_callE (ok_pick T) (hr.mono (by decide)) T.o_pick (pa_cons (pv 1) (pa_cons (pv 3) pa_nil))) pa_nil)))))))
    pss_nil)
  (pss_cons (ps_set (i := 8) sc_line.nd rfl (by first | exact Or.inl rfl | exact Or.inr rfl) (pe_callE (ok_pick T) (hr.mono (by decide)) T.o_pick (pa_cons (pv 1) (pa_cons (pe_callB (kSortS K) (by rfl) T.nb_sorted (by decide +kernel) (pa_cons (pe_callTy (call_list_dK (by rfl)) (by rfl) T.nb_list (by decide +kernel) (pa_cons (pe_ix (kIx K) (pv 2) pe_int (fun _ _ => rfl)) pa_nil)) pa_nil)) pa_nil))))
  (pss_cons (ps_if (pt_cmpR (kEq K rfl hr.units) (pv 5) pe_int (by first | rfl | exact nomark _))
    (pss_one (ps_ret (pe_tup (pa_cons pe_str (pa_cons (pv 4) (pa_cons (pe_callE (ok_pick T) (hr.mono (by decide)) T.o_pick (pa_cons (pv 1) (pa_cons (pv 3) pa_nil))) (pa_cons (pv 8) (pa_cons (pe_callE (ok_pick T) (hr.mono (by decide)) T.o_pick (pa_cons (pv 1) (pa_cons (pv 3) pa_nil))) (pa_cons (pe_callE (ok_pick T) (hr.mono (by decide)) T.o_pick (pa_cons (pv 1) (pa_cons (pv 3) pa_nil))) pa_nil)))))))))
    pss_nil)
  (pss_one (ps_ret (pe_tup (pa_cons pe_str (pa_cons (pe_callE (ok_pick T) (hr.mono (by decide)) T.o_pick (pa_cons (pv 1) (pa_cons (pv 3) pa_nil))) (pa_cons (pv 8) pa_nil)))))))))))), ?_⟩
    walk_at "rc"
    refine ⟨p, 8, rfl, by decide, hS, fun r H1 r0 r1 S1 o1 i1 => ?_⟩
    have d1 : Dr p H H1 := ⟨S1, o1, i1.2⟩
    have kn1 := d1.old _ _ nkp hk
    walk_at "rc"
    walk_at "rs"
    walk_at "rc"
    refine rd_iteD (fun h3 => ?_) fun h3 => ?_
    · walk_at "rc"
      refine ⟨Nat.zero_le _, fun Lp hLp => ?_⟩
      have e2 := Evl.Ex.new (o := .lst []) hLp
      have g2 : upd H1 Lp (.lst []) Lp = some (.lst []) := upd_same
      have d2 := d1.ex e2
      have kn2 := e2 _ _ kn1
      have hLp0 : H Lp = none := d1.back hS hLp
      have nLp : Lp ≠ p := fun z => by
        obtain ⟨o, ho⟩ := S1.some
        rw [z, ho] at hLp; cases hLp
      have nLk : Lp ≠ kn := fun z => by rw [z, kn1] at hLp; cases hLp
      generalize upd H1 Lp (.lst []) = H2 at e2 g2 d2 kn2
      walk_at "rc"
      walk_at "rs"
      walk_at "rc"
      refine ⟨p, 3, rfl, by decide, d2.st, fun n0 H3 n00 n01 S3 o3 i3 => ?_⟩
      have d3 : Dr p H2 H3 := ⟨S3, o3, i3.2⟩
      obtain ⟨n0, rfl⟩ := Int.eq_ofNat_of_zero_le n00
      have en : (1 : Int) + (n0 : Int) = ((n0 + 1 : Nat) : Int) := by omega
      walk_at "rc"
      rw [en]
      refine ⟨_, rfl, by omega, by omega, ?_⟩
      rw [Int.toNat_natCast]
      refine fo_range (n := n0 + 1) (fun i σ H' => ∃ (k7 : Option V) (us : List V) (ps : List Pa), σ = [some (.str L), some (.ref p), some (.ref bt), some (.ref kn), some (.str name), some (.int r), some (.ref Lp), k7, none] ∧ Dr p H H' ∧ H' kn = some (.lst (known.map V.str)) ∧ H' Lp = some (.lst us) ∧ DpAll K (hid [Lp, p] H') us (ps.map encPa) ∧ ps.length = i ∧
          ∀ q ∈ ps, match q with | .txt z => isT L z ∧ z.length ≤ 2 | .nam z => z ∈ known)
        ⟨_, [], [], rfl, d2.trans d3, d3.old _ _ nkp kn2, d3.old _ _ nLp g2, .nil, rfl, (fun q hq => nomatch hq)⟩ ?_ ?_
      · rintro i σ H4 hi ⟨k7, us, ps, rfl, d4, kn4, g4, ds4, lp4, hp4⟩
        have S4 := d4.st
        walk_at "rc"
        refine ⟨p, 3, rfl, by decide, S4, fun c H5 c0 c1 S5 o5 i5 => ?_⟩
        have d5 : Dr p H4 H5 := ⟨S5, o5, i5.2⟩
        walk_at "rc"
        have fin : ∀ (pa : Pa) (H6 : Hp), Dr p H4 H6 → (match pa with | .txt z => isT L z ∧ z.length ≤ 2 | .nam z => z ∈ known) → ∀ tp, H6 tp = none → ∀ N : L2.St → Hp → Prop, ∀ σ', (∀ (us' : List V) (ps' : List Pa), Dr p H (upd (upd H6 tp (.tup [.str pa.kind, .str pa.str])) Lp (.lst us')) → (upd (upd H6 tp (.tup [.str pa.kind, .str pa.str])) Lp (.lst us')) kn = some (.lst (known.map V.str)) → DpAll K (hid [Lp, p] (upd (upd H6 tp (.tup [.str pa.kind, .str pa.str])) Lp (.lst us'))) us' (ps'.map encPa) → ps'.length = i + 1 → (∀ q ∈ ps', match q with | .txt z => isT L z ∧ z.length ≤ 2 | .nam z => z ∈ known) → (upd (upd H6 tp (.tup [.str pa.kind, .str pa.str])) Lp (.lst us')) Lp = some (.lst us') → N σ' (upd (upd H6 tp (.tup [.str pa.kind, .str pa.str])) Lp (.lst us'))) → rAppend (.ref Lp) [.ref tp] (upd H6 tp (.tup [.str pa.kind, .str pa.str])) fun _ H' => N σ' H' := by
          intro pa H6 d6 hpa tp htp N σ' hN
          have e7 := Evl.Ex.new (o := .tup [.str pa.kind, .str pa.str]) htp
          have g7 := e7 _ _ (d6.old _ _ nLp g4)
          have kn7 := e7 _ _ (d6.old _ _ nkp kn4)
          have hs6 : ∀ b ∈ [Lp, p], ∃ o, H6 b = some o := fun b hb => by
            rcases List.mem_cons.mp hb with z | hb
            · rw [z]; exact ⟨_, d6.old _ _ nLp g4⟩
            · rw [List.mem_singleton.mp hb]; exact d6.st.some
          have dt : Dp K (hid [Lp, p] (upd H6 tp (.tup [.str pa.kind, .str pa.str]))) (.ref tp) (encPa pa) := Dp.newT htp (notin_of hs6 htp) (.cons (.str _) (.cons (.str _) .nil))
          have ds7 := (ds4.ex (dr_hid d6)).ex (Ex.hid (S := [Lp, p]) e7)
          have kp8 : Ex (hid [Lp, p] (upd H6 tp (.tup [.str pa.kind, .str pa.str]))) (hid [Lp, p] (upd (upd H6 tp (.tup [.str pa.kind, .str pa.str])) Lp (.lst (us ++ [.ref tp])))) := (Kp.put List.mem_cons_self).ex
          refine ⟨Lp, us, .ref tp, rfl, rfl, g7, ?_, hN _ (ps ++ [pa]) ?_ ?_ ?_ (by rw [List.length_append, lp4]; rfl) (fun q hq => ?_) upd_same⟩
          · have := ds4.len
            rw [List.length_map, lp4] at this
            omega
          · exact ((d4.trans d6).ex e7).put hS hLp0
          · rw [upd_ne (Ne.symm nLk)]; exact kn7
          · rw [List.map_append]
            exact (ds7.snoc dt).ex kp8
          · rcases List.mem_append.mp hq with hq | hq
            · exact hp4 q hq
            · rw [List.mem_singleton.mp hq]; exact hpa
        refine rd_iteD (fun hc => ?_) fun hc => ?_
        · walk_at "rc"
          refine ⟨.inl ⟨rfl, _, SqL.of (d5.old _ _ nLp g4)⟩, ?_⟩
          walk_at "rc"
          refine ⟨p, L, 2, rfl, l0, by omega, by decide, S5, fun z H6 hz zl d6 => ?_⟩
          walk_at "rc"
          refine ⟨by show 2 ≤ sizeLine; omega, fun tp htp => ?_⟩
          walk_at "rc"
          refine fin (.txt z) H6 (d5.trans d6) ⟨hz, zl⟩ tp htp _ _ fun us' ps' a1 a2 a3 a4 a5 a6 => ?_
          exact ⟨_, us', ps', rfl, a1, a2, a6, a3, a4, a5⟩
        · walk_at "rc"
          refine ⟨.inl ⟨rfl, _, SqL.of (d5.old _ _ nLp g4)⟩, ?_⟩
          walk_at "rc"
          refine ⟨p, kn, _, rfl, S5, d5.old _ _ nkp kn4, nkp, by omega, by omega, fun v H6 hv d6 => ?_⟩
          obtain ⟨z, hz, rfl⟩ := mem_strV hv
          walk_at "rc"
          refine ⟨by show 2 ≤ sizeLine; omega, fun tp htp => ?_⟩
          walk_at "rc"
          refine fin (.nam z) H6 (d5.trans d6) hz tp htp _ _ fun us' ps' a1 a2 a3 a4 a5 a6 => ?_
          exact ⟨_, us', ps', rfl, a1, a2, a6, a3, a4, a5⟩
      · rintro σ H4 ⟨k7, us, ps, rfl, d4, kn4, g4, ds4, lp4, hp4⟩
        walk_at "rc"
        refine rd_tupL (SqL.of g4) fun tp htp => ?_
        walk_at "rc"
        refine ⟨by show 3 ≤ sizeLine; omega, fun tq htq => ?_⟩
        walk_at "rc"
        have n1 : tp ∉ [p] := notin_of (st1 d4.st.some.choose_spec) htp
        have d5 := d4.ex (Evl.Ex.new (o := .tup us) htp)
        have f1 : Dp K (hid [p] (upd H4 tp (.tup us))) (.ref tp) (.tuple (ps.map encPa)) := Dp.newT htp n1 (ds4.ex hid_tail)
        generalize upd H4 tp (.tup us) = H5 at htq d5 f1
        have n2 : tq ∉ [p] := notin_of (st1 d5.st.some.choose_spec) htq
        refine q (.ref tq) (.jo name ps) _ (Dp.newT htq n2 (.cons (.str _) (.cons (.str _) (.cons f1 .nil)))) ⟨rfl, by omega, by omega, hp4⟩ (d5.ex (Evl.Ex.new htq))
    have pk : ∀ {Hc : Hp} {Qc : VK} {Ec : XK}, Dr p H Hc → (∀ s H', s ∈ known → Dr p Hc H' → Qc (.str s) H') → spPick [.ref p, .ref kn] Hc Qc Ec := fun {Hc Qc Ec} d h =>
      ⟨p, kn, known.map V.str, rfl, d.st, d.old _ _ nkp hk, nkp, by omega, by omega, fun v H' hv d' => by
        obtain ⟨s, hs, rfl⟩ := mem_strV hv
        exact h s H' hs d'⟩
    have pk2 : ∀ {Hc : Hp} {Qc : VK} {Ec : XK} {a : Addr} {ss : List Str}, Dr p H Hc → Hc a = some (.lst (ss.map V.str)) → 0 < ss.length → ss.length ≤ 100 → (∀ s H', s ∈ ss → Dr p Hc H' → Qc (.str s) H') → spPick [.ref p, .ref a] Hc Qc Ec := fun {Hc Qc Ec a ss} d ha h0 h1 h =>
      ⟨p, a, ss.map V.str, rfl, d.st, ha, st_neL d.st ha, by rw [List.length_map]; exact h0, by rw [List.length_map]; omega, fun v H' hv d' => by
        obtain ⟨s, hs, rfl⟩ := mem_strV hv
        exact h s H' hs d'⟩
    have tupS : ∀ {Hc : Hp} {tq : Addr} {vs : List V} {ds : List PyData}, Dr p H Hc → Hc tq = none → DpAll K (hid [p] Hc) vs ds → Dp K (hid [p] (upd Hc tq (.tup vs))) (.ref tq) (.tuple ds) := fun {Hc tq vs ds} d h ha => Dp.newT h (notin_of (st1 d.st.some.choose_spec) h) ha
    obtain ⟨ys, py, sy⟩ := sort_ex ksp
    obtain ⟨zs, pz, sz'⟩ := sort_ex ksr
    have lys := py.length_eq
    have lzs := pz.length_eq
    have lp := B.lp
    have lr := B.lr
    walk_at "rc"
    walk_at "rs"
    walk_at "rc"
    refine rd_iteD (fun h4 => ?_) fun h4 => ?_
    · walk_at "rc"
      refine pk d1 fun s H2 hs d2 => ?_
      walk_at "rc"
      refine ⟨by show 3 ≤ sizeLine; omega, fun tq htq => ?_⟩
      exact q (.ref tq) (.tu name s) _ (tupS (d1.trans d2) htq (.cons (.str _) (.cons (.str _) (.cons (.str _) .nil)))) ⟨rfl, hs⟩ ((d1.trans d2).ex (Evl.Ex.new htq))
    walk_at "rc"
    walk_at "rs"
    walk_at "rc"
    refine rd_iteD (fun h5 => ?_) fun h5 => ?_
    · walk_at "rc"
      refine rd_ixT (Evl.st_of (d1.old _ _ nbt hbt)) (atI_nat (j := 1) rfl) ?_
      walk_at "rc"
      refine rd_sortK (d1.old _ _ B.nr B.hr) B.yr (by omega) pz sz' fun l2 H2 e2 _ hl2 => ?_
      have d2 := d1.ex e2
      walk_at "rc"
      refine pk2 d2 hl2 (by omega) (by omega) fun r H3 hr3 d3 => ?_
      have d23 := d2.trans d3
      walk_at "rc"
      refine pk d23 fun s H4 hs d4 => ?_
      walk_at "rc"
      refine ⟨by show 4 ≤ sizeLine; omega, fun tq htq => ?_⟩
      exact q (.ref tq) (.rw name r s) _ (tupS (d23.trans d4) htq (.cons (.str _) (.cons (.str _) (.cons (.str _) (.cons (.str _) .nil))))) ⟨rfl, pz.mem_iff.mp hr3, hs⟩ ((d23.trans d4).ex (Evl.Ex.new htq))
    walk_at "rc"
    refine rd_ixT (Evl.st_of (d1.old _ _ nbt hbt)) (atI_nat (j := 0) rfl) ?_
    walk_at "rc"
    refine rd_sortK (d1.old _ _ B.np B.hp) B.yp (by omega) py sy fun l2 H2 e2 _ hl2 => ?_
    have d2 := d1.ex e2
    walk_at "rc"
    refine pk2 d2 hl2 (by omega) (by omega) fun pt H3 hp3 d3 => ?_
    have hpt := py.mem_iff.mp hp3
    have d23 := d2.trans d3
    walk_at "rc"
    walk_at "rs"
    walk_at "rc"
    refine rd_iteD (fun h6 => ?_) fun h6 => ?_
    · walk_at "rc"
      refine pk d23 fun s H4 hs d4 => ?_
      walk_at "rc"
      refine pk (d23.trans d4) fun y H5 hy d5 => ?_
      walk_at "rc"
      refine pk ((d23.trans d4).trans d5) fun z H6 hz d6 => ?_
      walk_at "rc"
      refine ⟨by show 6 ≤ sizeLine; omega, fun tq htq => ?_⟩
      exact q (.ref tq) (.ch name s pt y z) _ (tupS (((d23.trans d4).trans d5).trans d6) htq (.cons (.str _) (.cons (.str _) (.cons (.str _) (.cons (.str _) (.cons (.str _) (.cons (.str _) .nil))))))) ⟨rfl, hs, hpt, hy, hz⟩ ((((d23.trans d4).trans d5).trans d6).ex (Evl.Ex.new htq))
    · walk_at "rc"
      refine pk d23 fun s H4 hs d4 => ?_
      walk_at "rc"
      refine ⟨by show 3 ≤ sizeLine; omega, fun tq htq => ?_⟩
      exact q (.ref tq) (.ne s pt) _ (tupS (d23.trans d4) htq (.cons (.str _) (.cons (.str _) (.cons (.str _) .nil)))) ⟨hs, hpt⟩ ((d23.trans d4).ex (Evl.Ex.new htq))
end
section
def encG (g : Prg) : PyData := .tuple [.tuple (g.inp.map PyData.str), .tuple (g.lin.map encLn), .str g.res]
theorem noList_strs (ss : List Str) : noListAll (ss.map PyData.str) = true := noList_all fun d hd => by
  obtain ⟨_, _, rfl⟩ := List.mem_map.mp hd
  rfl
theorem noList_ln (l : Ln) : noList (encLn l) = true := by
  cases l with
  | jo n ps =>
    have h : noListAll (ps.map encPa) = true := noList_all fun d hd => by
      obtain ⟨_, _, rfl⟩ := List.mem_map.mp hd
      rfl
    show (true && (true && (noListAll (ps.map encPa) && true))) = true
    rw [h]; rfl
  | tu n s => rfl
  | rw n r s => rfl
  | ch n s p y d => rfl
  | ne s p => rfl
theorem noList_G (g : Prg) : noList (encG g) = true := by
  have h : noListAll (g.lin.map encLn) = true := noList_all fun d hd => by
    obtain ⟨l, _, rfl⟩ := List.mem_map.mp hd
    exact noList_ln l
  show (noListAll (g.inp.map PyData.str) && (noListAll (g.lin.map encLn) && (true && true))) = true
  rw [h, noList_strs]; rfl
/-- a drawn program -/
structure PrgIn (L : Str) (ksp ksr : List Str) (most : Nat) (g : Prg) : Prop where
  i0 : 1 ≤ g.inp.length
  i1 : g.inp.length ≤ 3
  nm : Nms (g.inp ++ g.lin.flatMap Ln.gives) []
  ll : g.lin.length ≤ most
  ln : ∀ i l, g.lin[i]? = some l → ∃ name, LnIn L ksp ksr (g.inp ++ (g.lin.take i).flatMap Ln.gives) name l ∧ nameB name = true
  rs : g.res ∈ g.inp ++ g.lin.flatMap Ln.gives
theorem ln_kind {L : Str} {ksp ksr known : List Str} {name : Str} {l : Ln} (h : LnIn L ksp ksr known name l) : (l.kind = Str.ofString "need" ∧ l.gives = []) ∨ (l.kind ≠ Str.ofString "need" ∧ l.gives = [name] ∧ l.rest[0]? = some (.str name)) := by
  cases l with
  | ne s q => exact .inl ⟨rfl, rfl⟩
  | jo n ps => obtain ⟨rfl, _⟩ := h; exact .inr ⟨fun h => sne "join" "need" h, rfl, rfl⟩
  | tu n s => obtain ⟨rfl, _⟩ := h; exact .inr ⟨fun h => sne "turn" "need" h, rfl, rfl⟩
  | rw n r s => obtain ⟨rfl, _⟩ := h; exact .inr ⟨fun h => sne "rewrite" "need" h, rfl, rfl⟩
  | ch n s q y d => obtain ⟨rfl, _⟩ := h; exact .inr ⟨fun h => sne "choose" "need" h, rfl, rfl⟩
theorem Nms.snoc {ns : List Str} {z : Str} (N : Nms ns []) (h : nameB z = true) (hn : z ∉ ns) : Nms (ns ++ [z]) [] := by
  refine ⟨fun y hy => ?_, List.nodup_append.mpr ⟨N.d, List.nodup_cons.mpr ⟨List.not_mem_nil, List.nodup_nil⟩, fun a ha b hb e => ?_⟩, fun y _ h => nomatch h⟩
  · rcases List.mem_append.mp hy with hy | hy
    · exact N.g y hy
    · rw [List.mem_singleton.mp hy]; exact h
  · rw [List.mem_singleton.mp hb] at e
    exact hn (e ▸ ha)
variable (T : Txt K mg)
def spProg : Sp := fun vs H Q _ => ∃ (p : Addr) (L : Str) (deep states most : Nat) (v : V) (D1 D2 : Addr) (kp kr : List (L2.Key × V)) (ksp ksr : List Str), vs = [.str L, .ref p, v, .int (most : Int)] ∧ LBk K H p L deep states v D1 D2 kp kr ksp ksr ∧ Alpha L 3 ∧ StAt H p ∧ most ≤ 12 ∧
  ∀ v g H', Dp K (hid [p] H') v (encG g) → PrgIn L ksp ksr most g → Dr p H H' → Q v H'
theorem ok_program : FnOk P w K mg base CX0 4 T.a_program T.d_program ["letters", "state", "book", "most"] (spProg (K := K)) := by
  refine T.f_program.ok sc_program (fun vs H Q E h => ?_) (fun cdv A outer s H vs Q E hr h => ?_)
  · obtain ⟨_, _, _, _, _, _, _, _, _, _, _, _, rfl, _⟩ := h; rfl
  · obtain ⟨p, L, deep, states, most, bv, D1, D2, kp, kr, ksp, ksr, rfl, B, al, hS, m12, q⟩ := h
    have sz : 100000 ≤ sizeLine := by decide
    obtain ⟨bt, rfl, hbt⟩ := B.b
    refine ⟨_, (pss_cons (ps_set (i := 4) sc_program.nd rfl (by first | exact Or.inl rfl | exact Or.inr rfl) (pe_callE (ok_named T) (hr.mono (by decide)) T.o_named (pa_cons (pv 1) (pa_cons (pe_ix (kIx K) (pe_lst (pa_cons pe_int (pa_cons pe_int (pa_cons pe_int (pa_cons pe_int pa_nil))))) (pe_callE (ok_next T) (hr.mono (by decide)) T.o_next (pa_cons (pv 1) (pa_cons pe_int pa_nil))) (fun _ _ => rfl)) (pa_cons (pe_lst pa_nil) pa_nil)))))
  (pss_cons (ps_set (i := 5) sc_program.nd rfl (by first | exact Or.inl rfl | exact Or.inr rfl) (pe_callTy (kLstOf K) (by rfl) T.nb_list (by decide +kernel) (pa_cons (pv 4) pa_nil)))
  (pss_cons (ps_set (i := 6) sc_program.nd rfl (by first | exact Or.inl rfl | exact Or.inr rfl) (pe_lst pa_nil))
  (pss_cons (ps_for PassesOwn.never rfl (pi_range1 (by rfl) T.nb_range (pa_cons (pe_callE (ok_next T) (hr.mono (by decide)) T.o_next (pa_cons (pv 1) (pa_cons (pe_op (kAdd K) (pv 3) pe_int) pa_nil))) pa_nil)) (pg_name (i := 7) sc_program.nd rfl (by first | exact Or.inl rfl | exact Or.inr rfl))
    (pss_cons (ps_set (i := 8) sc_program.nd rfl (by first | exact Or.inl rfl | exact Or.inr rfl) (pe_callE (ok_line T) (hr.mono (by decide)) T.o_line (pa_cons (pv 0) (pa_cons (pv 1) (pa_cons (pv 2) (pa_cons (pv 5) (pa_cons (pe_callE (ok_name T) (hr.mono (by decide)) T.o_name (pa_cons (pv 1) (pa_cons (pv 5) pa_nil))) pa_nil)))))))
  (pss_cons (ps_expr (kBm K rfl (pe_bm PySem.F.plainAttrs_list PySem.F.slot_list_append PySem.F.type_list_append mt_append (pv 6) (pa_cons (pv 8) pa_nil))))
  (pss_one (ps_if (pt_cmpR (kNe K rfl hr.units) (pe_ix (kIx K) (pv 8) pe_int (fun _ _ => rfl)) pe_str (by first | rfl | exact nomark _))
    (pss_one (ps_expr (kBm K rfl (pe_bm PySem.F.plainAttrs_list PySem.F.slot_list_append PySem.F.type_list_append mt_append (pv 5) (pa_cons (pe_ix (kIx K) (pv 8) pe_int (fun _ _ => rfl)) pa_nil)))))
    pss_nil)))))
  (pss_cons (ps_set (i := 9) sc_program.nd rfl (by first | exact Or.inl rfl | exact Or.inr rfl) (pe_ifExp (pt_cmpR op_gtP (pe_callE (ok_next T) (hr.mono (by decide)) T.o_next (pa_cons (pv 1) (pa_cons pe_int pa_nil))) pe_int (by first | rfl | exact nomark _)) (pe_ix (kIx K) (pv 5) (pe_un un_neg pe_int) (fun _ _ => rfl)) (pe_callE (ok_pick T) (hr.mono (by decide)) T.o_pick (pa_cons (pv 1) (pa_cons (pv 5) pa_nil)))))
  (pss_one (ps_ret (pe_tup (pa_cons (pe_callTy (kTupOf K) (by rfl) T.nb_tuple (by decide +kernel) (pa_cons (pv 4) pa_nil)) (pa_cons (pe_callTy (kTupOf K) (by rfl) T.nb_tuple (by decide +kernel) (pa_cons (pv 6) pa_nil)) (pa_cons (pv 9) pa_nil))))))))))), ?_⟩
    walk_at "rc"
    refine ⟨by show 4 ≤ sizeLine; omega, fun l4 hl4 => ?_⟩
    have e1 := Evl.Ex.new (o := .lst [.int 1, .int 1, .int 2, .int 3]) hl4
    have g1 : upd H l4 (.lst [.int 1, .int 1, .int 2, .int 3]) l4 = some (.lst [.int 1, .int 1, .int 2, .int 3]) := upd_same
    have d1 : Dr p H (upd H l4 (.lst [.int 1, .int 1, .int 2, .int 3])) := (Dr.refl hS).ex e1
    have n4 : l4 ≠ p := fun z => by
      obtain ⟨o, ho⟩ := hS.some
      rw [z, ho] at hl4; cases hl4
    generalize upd H l4 (.lst [.int 1, .int 1, .int 2, .int 3]) = H1 at e1 g1 d1
    walk_at "rc"
    refine ⟨p, 4, rfl, by decide, d1.st, fun r H2 r0 r1 S2 o2 i2 => ?_⟩
    have d2 : Dr p H1 H2 := ⟨S2, o2, i2.2⟩
    have g2 := d2.old _ _ n4 g1
    obtain ⟨r, rfl⟩ := Int.eq_ofNat_of_zero_le r0
    obtain ⟨n, hn, nb⟩ : ∃ n : Nat, [V.int 1, .int 1, .int 2, .int 3][r]? = some (.int (n : Int)) ∧ 1 ≤ n ∧ n ≤ 3 := by
      have h : r = 0 ∨ r = 1 ∨ r = 2 ∨ r = 3 := by omega
      rcases h with rfl | rfl | rfl | rfl
      · exact ⟨1, rfl, by decide, by decide⟩
      · exact ⟨1, rfl, by decide, by decide⟩
      · exact ⟨2, rfl, by decide, by decide⟩
      · exact ⟨3, rfl, by decide, by decide⟩
    refine rd_ixL (SqL.of g2) (atI_nat hn) ?_
    walk_at "rc"
    refine ⟨Nat.zero_le _, fun el hel => ?_⟩
    have e3 := Evl.Ex.new (o := .lst []) hel
    have g3 : upd H2 el (.lst []) el = some (.lst (([] : List Str).map V.str)) := upd_same
    have d3 := (d1.trans d2).ex e3
    generalize upd H2 el (.lst []) = H3 at e3 g3 d3
    walk_at "rc"
    refine ⟨p, el, n, [], rfl, d3.st, g3, by show 0 + n ≤ 17; omega, fun Li ns H4 N ln d4 hLi gLi => ?_⟩
    have d14 := d3.trans d4
    have nLi := st_neL d4.st gLi
    walk_at "rc"
    refine rd_lstL (.inl (SqL.of gLi)) fun Lk hLk => ?_
    have e5 := Evl.Ex.new (o := .lst (ns.map V.str)) hLk
    have gk5 : upd H4 Lk (.lst (ns.map V.str)) Lk = some (.lst (ns.map V.str)) := upd_same
    have gi5 := e5 _ _ gLi
    have d5 := d14.ex e5
    have hLk0 : H Lk = none := d14.back hS hLk
    generalize upd H4 Lk (.lst (ns.map V.str)) = H5 at e5 gk5 gi5 d5
    walk_at "rc"
    refine ⟨Nat.zero_le _, fun Ll hLl => ?_⟩
    have e6 := Evl.Ex.new (o := .lst []) hLl
    have gl6 : upd H5 Ll (.lst []) Ll = some (.lst []) := upd_same
    have gk6 := e6 _ _ gk5
    have gi6 := e6 _ _ gi5
    have d6 := d5.ex e6
    have hLl0 : H Ll = none := d5.back hS hLl
    have nlk : Ll ≠ Lk := fun z => by rw [z, gk5] at hLl; cases hLl
    have nli : Ll ≠ Li := fun z => by rw [z, gi5] at hLl; cases hLl
    have nki : Lk ≠ Li := fun z => by rw [z, gLi] at hLk; cases hLk
    generalize upd H5 Ll (.lst []) = H6 at e6 gl6 gk6 gi6 d6
    have nkp := st_neL d6.st gk6
    have nlp : Ll ≠ p := fun z => by
      obtain ⟨o, ho⟩ := hS.some
      rw [z, ho] at hLl0; cases hLl0
    walk_at "rc"
    walk_at "rs"
    walk_at "rc"
    refine ⟨p, (most : Int) + 1, rfl, by omega, d6.st, fun nn H7 nn0 nn1 S7 o7 i7 => ?_⟩
    have d7 : Dr p H6 H7 := ⟨S7, o7, i7.2⟩
    obtain ⟨nn, rfl⟩ := Int.eq_ofNat_of_zero_le nn0
    have nnm : nn ≤ most := by omega
    walk_at "rc"
    refine ⟨_, rfl, by omega, by omega, ?_⟩
    rw [Int.toNat_natCast]
    refine fo_range (n := nn) (fun i σ H' => ∃ (k7 k8 : Option V) (us : List V) (lns : List Ln), σ = [some (.str L), some (.ref p), some (.ref bt), some (.int (most : Int)), some (.ref Li), some (.ref Lk), some (.ref Ll), k7, k8, none] ∧ Dr p H H' ∧ H' Li = some (.lst (ns.map V.str)) ∧ H' Lk = some (.lst ((ns ++ lns.flatMap Ln.gives).map V.str)) ∧ H' Ll = some (.lst us) ∧ DpAll K (hid [Ll, Lk, p] H') us (lns.map encLn) ∧ lns.length = i ∧ Nms (ns ++ lns.flatMap Ln.gives) [] ∧
        ∀ j l, lns[j]? = some l → ∃ name, LnIn L ksp ksr (ns ++ (lns.take j).flatMap Ln.gives) name l ∧ nameB name = true)
      ⟨_, _, [], [], rfl, d6.trans d7, d7.old _ _ nLi gi6, by rw [List.flatMap_nil, List.append_nil]; exact d7.old _ _ nkp gk6, d7.old _ _ nlp gl6, .nil, rfl, by rw [List.flatMap_nil, List.append_nil]; exact ⟨N.g, N.d, fun z _ h => nomatch h⟩, fun j l h => by rw [List.getElem?_nil] at h; cases h⟩ ?_ ?_
    · rintro i σ H8 hi ⟨k7, k8, us, lns, rfl, d8, gi8, gk8, gl8, ds8, ll8, N8, hl8⟩
      have glen := gives_lens lns
      have klen : (ns ++ lns.flatMap Ln.gives).length ≤ 17 := by rw [List.length_append]; omega
      have kpos : 0 < (ns ++ lns.flatMap Ln.gives).length := by rw [List.length_append]; omega
      generalize hkk : ns ++ lns.flatMap Ln.gives = known at gk8 N8 klen kpos
      have S8 := d8.st
      walk_at "rc"
      refine ⟨p, Lk, known, rfl, S8, gk8, klen, fun z H9 hz hnt d9 => ?_⟩
      have d89 := d8.trans d9
      walk_at "rc"
      refine ⟨p, Lk, L, z, deep, states, .ref bt, D1, D2, kp, kr, ksp, ksr, known, rfl, B.dr hS d89, al, d9.st, d9.old _ _ nkp gk8, kpos, by omega, fun v l H10 dv hl d10 => ?_⟩
      have d80 := d9.trans d10
      have dd := d8.trans d80
      have gl10 := d80.old _ _ nlp gl8
      have gk10 := d80.old _ _ nkp gk8
      have gi10 := d80.old _ _ nLi gi8
      have lists : ∀ b ∈ [Ll, Lk, p], (∃ C dx fs, H10 b = some (.ins C dx fs)) ∨ ∃ xs, H10 b = some (.lst xs) := fun b hb => by
        rcases List.mem_cons.mp hb with e | hb
        · rw [e]; exact .inr ⟨_, gl10⟩
        rcases List.mem_cons.mp hb with e | hb
        · rw [e]; exact .inr ⟨_, gk10⟩
        · rw [List.mem_singleton.mp hb]
          obtain ⟨l, ns, pl, h1, _⟩ := d10.st
          exact .inr ⟨_, h1⟩
      have dvS : Dp K (hid [Ll, Lk, p] H10) v (encLn l) := Dp.hidT lists _ (noList_ln l) (dv.ex hid_ex)
      have ds10 := ds8.ex (d80.kp (S := [Ll, Lk, p]) (by simp)).ex
      have pl : Ex (hid [Ll, Lk, p] H10) (hid [Ll, Lk, p] (upd H10 Ll (.lst (us ++ [v])))) := (Kp.put List.mem_cons_self).ex
      walk_at "rc"
      refine ⟨.inl ⟨rfl, _, SqL.of gl10⟩, ?_⟩
      walk_at "rc"
      refine ⟨Ll, us, v, rfl, rfl, gl10, by have := ds8.len; rw [List.length_map, ll8] at this; omega, ?_⟩
      have gl11 : upd H10 Ll (.lst (us ++ [v])) Ll = some (.lst (us ++ [v])) := upd_same
      have gk11 : upd H10 Ll (.lst (us ++ [v])) Lk = some (.lst (known.map V.str)) := by rw [upd_ne (Ne.symm nlk)]; exact gk10
      have gi11 : upd H10 Ll (.lst (us ++ [v])) Li = some (.lst (ns.map V.str)) := by rw [upd_ne (Ne.symm nli)]; exact gi10
      have dv11 := dvS.ex pl
      have ds11 := (ds10.snoc dvS).ex pl
      have d11 := dd.put (o := .lst (us ++ [v])) hS hLl0
      generalize upd H10 Ll (.lst (us ++ [v])) = H11 at gl11 gk11 gi11 dv11 ds11 d11
      have mapS : (lns ++ [l]).map encLn = lns.map encLn ++ [encLn l] := by rw [List.map_append]; rfl
      have hnew : ∀ j l', (lns ++ [l])[j]? = some l' → ∃ name, LnIn L ksp ksr (ns ++ ((lns ++ [l]).take j).flatMap Ln.gives) name l' ∧ nameB name = true := fun j l' h => by
        rcases Nat.lt_or_ge j lns.length with hj | hj
        · rw [List.getElem?_append_left hj] at h
          rw [List.take_append_of_le_length (by omega)]
          exact hl8 j l' h
        · rw [List.getElem?_append_right hj] at h
          have hj0 : j = lns.length := by
            have := (List.getElem?_eq_some_iff.mp h).1
            simp only [List.length_cons, List.length_nil] at this
            omega
          subst hj0
          rw [Nat.sub_self] at h
          cases h
          rw [List.take_left' rfl, hkk]
          exact ⟨z, hl, hz⟩
      have fl : (lns ++ [l]).flatMap Ln.gives = lns.flatMap Ln.gives ++ l.gives := by rw [List.flatMap_append, List.flatMap_cons, List.flatMap_nil, List.append_nil]
      have kk2 : ns ++ (lns ++ [l]).flatMap Ln.gives = known ++ l.gives := by rw [fl, ← List.append_assoc, hkk]
      walk_at "rc"
      refine rd_ixDT hid_ex dv11 (i := 0) rfl fun v0 h0 => ?_
      cases Dp.str_iff h0
      walk_at "rc"
      rcases ln_kind hl with ⟨hk, hg⟩ | ⟨hk, hg, hr0⟩
      · refine rd_iteN (fun h => absurd hk h) fun _ => ?_
        walk_at "rc"
        exact ⟨_, _, us ++ [v], lns ++ [l], rfl, d11, gi11, by rw [kk2, hg, List.append_nil]; exact gk11, gl11, by rw [mapS]; exact ds11, by rw [List.length_append, ll8]; rfl, by rw [kk2, hg, List.append_nil]; exact N8, hnew⟩
      · refine rd_iteN (fun _ => ?_) fun h => absurd h hk
        walk_at "rc"
        refine ⟨.inl ⟨rfl, _, SqL.of gk11⟩, ?_⟩
        walk_at "rc"
        refine rd_ixDT hid_ex dv11 (i := 1) (d := .str z) (by show l.rest[0]? = _; exact hr0) fun v1 h1 => ?_
        cases Dp.str_iff h1
        walk_at "rc"
        refine ⟨Lk, _, _, rfl, rfl, gk11, by rw [List.length_map]; omega, ?_⟩
        have pk : Ex (hid [Ll, Lk, p] H11) (hid [Ll, Lk, p] (upd H11 Lk (.lst (known.map V.str ++ [.str z])))) := (Kp.put (List.mem_cons_of_mem _ List.mem_cons_self)).ex
        refine ⟨_, _, us ++ [v], lns ++ [l], rfl, d11.put hS hLk0, by rw [upd_ne (Ne.symm nki)]; exact gi11, by rw [kk2, hg, upd_same, List.map_append]; rfl, by rw [upd_ne nlk]; exact gl11, by rw [mapS]; exact ds11.ex pk, by rw [List.length_append, ll8]; rfl, by rw [kk2, hg]; exact N8.snoc hz hnt, hnew⟩
    · rintro σ H8 ⟨k7, k8, us, lns, rfl, d8, gi8, gk8, gl8, ds8, ll8, N8, hl8⟩
      have glen := gives_lens lns
      have klen : (ns ++ lns.flatMap Ln.gives).length ≤ 17 := by rw [List.length_append]; omega
      have kpos : 0 < (ns ++ lns.flatMap Ln.gives).length := by rw [List.length_append]; omega
      have S8 := d8.st
      dsimp only
      walk_at "rs"
      refine rd_asg ?_
      refine rd_vcut (fun y H' => ∃ s, s ∈ ns ++ lns.flatMap Ln.gives ∧ y = .str s ∧ Dr p H8 H') (fun Q' hQ => ?_) ?_
      · refine rd_ife ?_
        walk_at "rc"
        refine ⟨p, 4, rfl, by decide, S8, fun c H9 c0 c1 S9 o9 i9 => ?_⟩
        have d9 : Dr p H8 H9 := ⟨S9, o9, i9.2⟩
        have gk9 := d9.old _ _ nkp gk8
        walk_at "rc"
        refine rd_iteD (fun hc => ?_) fun hc => ?_
        · walk_at "rc"
          refine rd_ng1 ?_
          have kp2 : 0 < ((ns ++ lns.flatMap Ln.gives).map V.str).length := by rw [List.length_map]; exact kpos
          refine rd_ixL (SqL.of gk9) (atI_last kp2) ?_
          rw [List.getElem_map]
          exact hQ _ _ ⟨_, List.getElem_mem _, rfl, d9⟩
        · walk_at "rc"
          refine ⟨p, Lk, _, rfl, S9, gk9, nkp, by rw [List.length_map]; exact kpos, by rw [List.length_map]; omega, fun v H10 hv d10 => ?_⟩
          obtain ⟨s, hs, rfl⟩ := mem_strV hv
          exact hQ _ _ ⟨s, hs, rfl, d9.trans d10⟩
      rintro y H9 ⟨s, hs, rfl, d9⟩
      have d89 := d8.trans d9
      have gi9 := d9.old _ _ nLi gi8
      have gl9 := d9.old _ _ nlp gl8
      have ds9 := (ds8.ex (d9.kp (S := [Ll, Lk, p]) (by simp)).ex).ex (hid_sub (S' := [p]) fun b hb => by rw [List.mem_singleton.mp hb]; simp)
      walk_at "rc"
      refine rd_tupL (SqL.of gi9) fun ti hti => ?_
      have e10 := Evl.Ex.new (o := .tup (ns.map V.str)) hti
      have d10 := d89.ex e10
      have f10 : Dp K (hid [p] (upd H9 ti (.tup (ns.map V.str)))) (.ref ti) (.tuple (ns.map PyData.str)) := Dp.newT hti (notin_of (st1 d89.st.some.choose_spec) hti) (dps_str ns)
      have gl10 := e10 _ _ gl9
      have ds10 := ds9.ex (Ex.hid (S := [p]) e10)
      generalize upd H9 ti (.tup (ns.map V.str)) = H10 at d10 f10 gl10 ds10
      walk_at "rc"
      refine rd_tupL (SqL.of gl10) fun tl htl => ?_
      have e11 := Evl.Ex.new (o := .tup us) htl
      have d11 := d10.ex e11
      have f11 : Dp K (hid [p] (upd H10 tl (.tup us))) (.ref tl) (.tuple (lns.map encLn)) := Dp.newT htl (notin_of (st1 d10.st.some.choose_spec) htl) ds10
      have f10' := f10.ex (Ex.hid (S := [p]) e11)
      generalize upd H10 tl (.tup us) = H11 at d11 f11 f10'
      walk_at "rc"
      refine ⟨by show 3 ≤ sizeLine; omega, fun tq htq => ?_⟩
      refine q (.ref tq) ⟨ns, lns, s⟩ _ (Dp.newT htq (notin_of (st1 d11.st.some.choose_spec) htq) (.cons f10' (.cons f11 (.cons (.str _) .nil)))) ⟨by show 1 ≤ ns.length; omega, by show ns.length ≤ 3; omega, N8, by show lns.length ≤ most; omega, hl8, hs⟩ (d11.ex (Evl.Ex.new htq))
end
section
variable (T : Txt K mg)
def Fk.word : Fk → Str | .bad => "bad" | .taken => "taken" | .unknown => "unknown" | .many => "many" | .text => "text"
def encF : Flt → PyData
  | none => .tuple [.str "good", .none]
  | some (f, z) => .tuple [.str f.word, .str z]
def spTold : Sp := fun vs H Q _ => ∃ (b m : Addr) (g : Prg) (ls : Str) (dp dr dm : Addr) (kp kr : List (L2.Key × V)), vs = [.ref b, .ref m] ∧ BkF T.C_Book H b ls dp dr dm kp kr ∧ PrgAt K T.C_Program H m g ∧ g.Ok ∧
  ∀ v H', Ex H H' → Dp K H' v (encF (chk ls (fun z => (valV kp (.inr z)).isSome) (fun z => (valV kr (.inr z)).isSome) g)) → Q v H'
theorem ok_told : FnOk P w K mg base CX0 9 T.a_told T.d_told ["book", "program"] (spTold T) := by
  refine T.f_told.ok sc_told (fun vs H Q E h => ?_) (fun cdv A outer s H vs Q E hr h => ?_)
  · obtain ⟨_, _, _, _, _, _, _, _, _, rfl, _⟩ := h; rfl
  · obtain ⟨b, m, g, ls, dp, dr, dm, kp, kr, rfl, B, PG, ok, q⟩ := h
    have sz : 100000 ≤ sizeLine := by decide
    refine ⟨_, (pss_one (ps_try_names sc_told.nd rfl rfl takes0
   (fun W pn xe tk hp => (pss_one (ps_ret (pe_tup (pa_cons pe_str (pa_cons (pe_callR (ok_check_program T) (hr.mono (by decide)) T.o_check_program tk (pa_cons (pv 0) (pa_cons (pv 1) pa_nil))) pa_nil))))))
   (.cons (i := 2) rfl rfl ⟨rfl, by decide, Or.inl T.g_ProgramError⟩ (fun a oe cls d pn hz hf => PSs.exi (P := Caught K cls d) fun i hi => (pss_cons (ps_set (i := 3) sc_told.nd rfl (by first | exact Or.inl rfl | exact Or.inr rfl) pe_str)
  (pss_cons (ps_if (pt_val (pe_callB (call_isX hi.x T.clsB (hi.z hz) hf) (by rfl) T.nb_isinstance (by decide +kernel) (pa_cons (pv 2) (pa_cons (pe_globR (by rfl) T.g_BadName) pa_nil))))
    (pss_one (ps_set (i := 3) sc_told.nd rfl (by first | exact Or.inl rfl | exact Or.inr rfl) (pe_op (kAdd K) (pv 3) pe_str)))
    pss_nil)
  (pss_cons (ps_if (pt_val (pe_callB (call_isX hi.x T.clsB (hi.z hz) hf) (by rfl) T.nb_isinstance (by decide +kernel) (pa_cons (pv 2) (pa_cons (pe_globR (by rfl) T.g_NameTaken) pa_nil))))
    (pss_one (ps_set (i := 3) sc_told.nd rfl (by first | exact Or.inl rfl | exact Or.inr rfl) (pe_op (kAdd K) (pv 3) pe_str)))
    pss_nil)
  (pss_cons (ps_if (pt_val (pe_callB (call_isX hi.x T.clsB (hi.z hz) hf) (by rfl) T.nb_isinstance (by decide +kernel) (pa_cons (pv 2) (pa_cons (pe_globR (by rfl) T.g_UnknownName) pa_nil))))
    (pss_one (ps_set (i := 3) sc_told.nd rfl (by first | exact Or.inl rfl | exact Or.inr rfl) (pe_op (kAdd K) (pv 3) pe_str)))
    pss_nil)
  (pss_cons (ps_if (pt_val (pe_callB (call_isX hi.x T.clsB (hi.z hz) hf) (by rfl) T.nb_isinstance (by decide +kernel) (pa_cons (pv 2) (pa_cons (pe_globR (by rfl) T.g_TooMany) pa_nil))))
    (pss_one (ps_set (i := 3) sc_told.nd rfl (by first | exact Or.inl rfl | exact Or.inr rfl) (pe_op (kAdd K) (pv 3) pe_str)))
    pss_nil)
  (pss_one (ps_ret (pe_tup (pa_cons (pv 3) (pa_cons (pe_xf hi.x.xf hi.x.nw (hi.z hz) hf (pv 2)) pa_nil)))))))))))
   (.cons (i := 2) rfl rfl ⟨rfl, by decide, Or.inl T.g_LetterError⟩ (fun a oe cls d pn hz hf => PSs.exi (P := Caught K cls d) fun i hi => (pss_one (ps_ret (pe_tup (pa_cons (pe_ifExp (PW.pt (pw_and (pt_val (pe_callB (call_isX hi.x T.clsB (hi.z hz) hf) (by rfl) T.nb_isinstance (by decide +kernel) (pa_cons (pv 2) (pa_cons (pe_globR (by rfl) T.g_BadText) pa_nil)))) (pw_and1 (pt_val (pe_callB (call_isX hi.x T.clsB (hi.z hz) hf) (by rfl) T.nb_isinstance (by decide +kernel) (pa_cons (pv 2) (pa_cons (pe_globR (by rfl) T.g_AnytextError) pa_nil))))))) pe_str pe_str) (pa_cons (pe_xf hi.x.xf hi.x.nw (hi.z hz) hf (pv 2)) pa_nil))))))
   .nil)))), ?_⟩
    generalize hF : chk ls (fun z => (valV kp (.inr z)).isSome) (fun z => (valV kr (.inr z)).isSome) g = F at q
    have fin : ∀ {H1 : Hp} {tp : Addr} {a c : V} {da dc : PyData}, Ex H H1 → H1 tp = none → Dp K H1 a da → Dp K H1 c dc → encF F = .tuple [da, dc] → Q (.ref tp) (upd H1 tp (.tup [a, c])) := fun {H1 tp a c da dc} e h ha hc hd => by
      have e2 := Evl.Ex.new (o := .tup [a, c]) h
      refine q _ _ (e.trans e2) ?_
      rw [hd]
      exact .tup (Evl.st_of upd_same) (.cons (ha.ex e2) (.cons (hc.ex e2) .nil))
    walk_at "rc"
    refine ⟨b, m, g, ls, dp, dr, dm, kp, kr, rfl, B, PG, ok, ?_⟩
    rw [hF]
    refine ⟨fun hn H1 e1 => ?_, fun f z hf d H1 e1 hd hw => ?_⟩
    · walk_at "rc"
      refine ⟨by show 2 ≤ sizeLine; omega, fun tp htp => ?_⟩
      exact fin e1 htp (.str _) .non (by rw [hn]; rfl)
    · subst hf
      cases f with
      | bad =>
        have X := T.x_BadName
        refine ⟨true, PySem.W.exm_ref T.e_ProgramError T.h_ProgramError T.t_ProgramError T.s_BadName_ProgramError, fun _ a0 _ => ?_, fun h => nomatch h⟩
        refine ⟨(T.C_BadName, d, T.a_init), ⟨rfl, rfl, X⟩, ?_⟩
        walk_at "rc"
        walk_at "rs"
        walk_at "rc"
        refine ⟨_, true, hw, .inl ⟨_, _, rfl, .own _, kit_ref X T.i_BadName T.t_BadName T.s_BadName_BadName⟩, ?_⟩
        walk_at "rc"
        refine rd_addS (by decide +kernel) ?_
        walk_at "rc"
        walk_at "rs"
        walk_at "rc"
        refine ⟨_, false, hw, .inl ⟨_, _, rfl, .own _, kit_ref X T.i_NameTaken T.t_NameTaken T.s_BadName_NameTaken⟩, ?_⟩
        walk_at "rc"
        walk_at "rs"
        walk_at "rc"
        refine ⟨_, false, hw, .inl ⟨_, _, rfl, .own _, kit_ref X T.i_UnknownName T.t_UnknownName T.s_BadName_UnknownName⟩, ?_⟩
        walk_at "rc"
        walk_at "rs"
        walk_at "rc"
        refine ⟨_, false, hw, .inl ⟨_, _, rfl, .own _, kit_ref X T.i_TooMany T.t_TooMany T.s_BadName_TooMany⟩, ?_⟩
        walk_at "rc"
        refine ⟨rfl, rfl, d, _, _, rfl, hw, rfl, ?_⟩
        walk_at "rc"
        refine ⟨by show 2 ≤ sizeLine; omega, fun tp htp => ?_⟩
        exact fin e1 htp (.str _) (.str _) rfl
      | taken =>
        have X := T.x_NameTaken
        refine ⟨true, PySem.W.exm_ref T.e_ProgramError T.h_ProgramError T.t_ProgramError T.s_NameTaken_ProgramError, fun _ a0 _ => ?_, fun h => nomatch h⟩
        refine ⟨(T.C_NameTaken, d, T.a_init), ⟨rfl, rfl, X⟩, ?_⟩
        walk_at "rc"
        walk_at "rs"
        walk_at "rc"
        refine ⟨_, false, hw, .inl ⟨_, _, rfl, .own _, kit_ref X T.i_BadName T.t_BadName T.s_NameTaken_BadName⟩, ?_⟩
        walk_at "rc"
        walk_at "rs"
        walk_at "rc"
        refine ⟨_, true, hw, .inl ⟨_, _, rfl, .own _, kit_ref X T.i_NameTaken T.t_NameTaken T.s_NameTaken_NameTaken⟩, ?_⟩
        walk_at "rc"
        refine rd_addS (by decide +kernel) ?_
        walk_at "rc"
        walk_at "rs"
        walk_at "rc"
        refine ⟨_, false, hw, .inl ⟨_, _, rfl, .own _, kit_ref X T.i_UnknownName T.t_UnknownName T.s_NameTaken_UnknownName⟩, ?_⟩
        walk_at "rc"
        walk_at "rs"
        walk_at "rc"
        refine ⟨_, false, hw, .inl ⟨_, _, rfl, .own _, kit_ref X T.i_TooMany T.t_TooMany T.s_NameTaken_TooMany⟩, ?_⟩
        walk_at "rc"
        refine ⟨rfl, rfl, d, _, _, rfl, hw, rfl, ?_⟩
        walk_at "rc"
        refine ⟨by show 2 ≤ sizeLine; omega, fun tp htp => ?_⟩
        exact fin e1 htp (.str _) (.str _) rfl
      | unknown =>
        have X := T.x_UnknownName
        refine ⟨true, PySem.W.exm_ref T.e_ProgramError T.h_ProgramError T.t_ProgramError T.s_UnknownName_ProgramError, fun _ a0 _ => ?_, fun h => nomatch h⟩
        refine ⟨(T.C_UnknownName, d, T.a_init), ⟨rfl, rfl, X⟩, ?_⟩
        walk_at "rc"
        walk_at "rs"
        walk_at "rc"
        refine ⟨_, false, hw, .inl ⟨_, _, rfl, .own _, kit_ref X T.i_BadName T.t_BadName T.s_UnknownName_BadName⟩, ?_⟩
        walk_at "rc"
        walk_at "rs"
        walk_at "rc"
        refine ⟨_, false, hw, .inl ⟨_, _, rfl, .own _, kit_ref X T.i_NameTaken T.t_NameTaken T.s_UnknownName_NameTaken⟩, ?_⟩
        walk_at "rc"
        walk_at "rs"
        walk_at "rc"
        refine ⟨_, true, hw, .inl ⟨_, _, rfl, .own _, kit_ref X T.i_UnknownName T.t_UnknownName T.s_UnknownName_UnknownName⟩, ?_⟩
        walk_at "rc"
        refine rd_addS (by decide +kernel) ?_
        walk_at "rc"
        walk_at "rs"
        walk_at "rc"
        refine ⟨_, false, hw, .inl ⟨_, _, rfl, .own _, kit_ref X T.i_TooMany T.t_TooMany T.s_UnknownName_TooMany⟩, ?_⟩
        walk_at "rc"
        refine ⟨rfl, rfl, d, _, _, rfl, hw, rfl, ?_⟩
        walk_at "rc"
        refine ⟨by show 2 ≤ sizeLine; omega, fun tp htp => ?_⟩
        exact fin e1 htp (.str _) (.str _) rfl
      | many =>
        have X := T.x_TooMany
        refine ⟨true, PySem.W.exm_ref T.e_ProgramError T.h_ProgramError T.t_ProgramError T.s_TooMany_ProgramError, fun _ a0 _ => ?_, fun h => nomatch h⟩
        refine ⟨(T.C_TooMany, d, T.a_init), ⟨rfl, rfl, X⟩, ?_⟩
        walk_at "rc"
        walk_at "rs"
        walk_at "rc"
        refine ⟨_, false, hw, .inl ⟨_, _, rfl, .own _, kit_ref X T.i_BadName T.t_BadName T.s_TooMany_BadName⟩, ?_⟩
        walk_at "rc"
        walk_at "rs"
        walk_at "rc"
        refine ⟨_, false, hw, .inl ⟨_, _, rfl, .own _, kit_ref X T.i_NameTaken T.t_NameTaken T.s_TooMany_NameTaken⟩, ?_⟩
        walk_at "rc"
        walk_at "rs"
        walk_at "rc"
        refine ⟨_, false, hw, .inl ⟨_, _, rfl, .own _, kit_ref X T.i_UnknownName T.t_UnknownName T.s_TooMany_UnknownName⟩, ?_⟩
        walk_at "rc"
        walk_at "rs"
        walk_at "rc"
        refine ⟨_, true, hw, .inl ⟨_, _, rfl, .own _, kit_ref X T.i_TooMany T.t_TooMany T.s_TooMany_TooMany⟩, ?_⟩
        walk_at "rc"
        refine rd_addS (by decide +kernel) ?_
        walk_at "rc"
        refine ⟨rfl, rfl, d, _, _, rfl, hw, rfl, ?_⟩
        walk_at "rc"
        refine ⟨by show 2 ≤ sizeLine; omega, fun tp htp => ?_⟩
        exact fin e1 htp (.str _) (.str _) rfl
      | text =>
        have X := T.x_BadText
        refine ⟨false, PySem.W.exm_ref T.e_ProgramError T.h_ProgramError T.t_ProgramError T.s_BadText_ProgramError, (fun h => nomatch h), fun _ => ?_⟩
        refine ⟨true, PySem.W.exm_ref T.e_LetterError T.h_LetterError T.t_LetterError T.s_BadText_LetterError, fun _ a0 _ => ?_, fun h => by cases h⟩
        refine ⟨(T.C_BadText, d, T.a_init), ⟨rfl, rfl, X⟩, ?_⟩
        walk_at "rc"
        refine rd_ife ?_
        walk_at "rc"
        refine ⟨_, true, hw, .inl ⟨_, _, rfl, .own _, kit_ref X T.i_BadText T.t_BadText T.s_BadText_BadText⟩, ?_⟩
        walk_at "rc"
        refine ⟨_, true, hw, .inl ⟨_, _, rfl, .own _, kit_ref X T.i_AnytextError T.t_AnytextError T.s_BadText_AnytextError⟩, ?_⟩
        walk_at "rc"
        refine ⟨rfl, rfl, d, _, _, rfl, hw, rfl, ?_⟩
        walk_at "rc"
        refine ⟨by show 2 ≤ sizeLine; omega, fun tp htp => ?_⟩
        exact fin e1 htp (.str _) (.str _) rfl
end
section
variable (T : Txt K mg)
def encN : Flt → PyData
  | none => .none
  | some (f, z) => .tuple [.str f.word, .str z]
theorem rd_eqNilS {L L2 : Addr} {ss : List Str} {H : Hp} {Q : VK} (h1 : H L = some (.lst (ss.map V.str))) (h2 : H L2 = some (.lst [])) (ok : ∀ x ∈ ss, okS x) (q : Q (.bl ss.isEmpty) H) : oEq K (.ref L) (.ref L2) H Q := by
  have l1 : Lay (.list (ss.map PyData.str)) := Ly.lay (Ly.list (n := 0) fun d hd => by
    obtain ⟨i, hi, rfl⟩ := List.mem_map.mp hd
    exact Ly.str (ok i hi)) (by decide)
  have l2 : Lay (.list []) := Ly.lay (Ly.list (n := 0) fun d hd => nomatch hd) (by decide)
  refine .inr ⟨.list (ss.map PyData.str), .list [], .lst (SqL.of h1) (dps_str ss), .lst (SqL.of h2) .nil, l1.sh, l2.sh, ?_⟩
  have e : PyData.eqv (.list (ss.map PyData.str)) (.list []) = ss.isEmpty := by
    cases ss with
    | nil => simp only [List.map_nil, PyData.eqv, PyData.eqvAll, List.isEmpty_nil]
    | cons a l => simp only [List.map_cons, PyData.eqv, PyData.eqvAll, List.isEmpty_cons]
  rw [e]
  exact q
theorem rd_neNilS {L L2 : Addr} {ss : List Str} {H : Hp} {Q : VK} (h1 : H L = some (.lst (ss.map V.str))) (h2 : H L2 = some (.lst [])) (ok : ∀ x ∈ ss, okS x) (q : Q (.bl (!ss.isEmpty)) H) : oNe K (.ref L) (.ref L2) H Q := by
  have l1 : Lay (.list (ss.map PyData.str)) := Ly.lay (Ly.list (n := 0) fun d hd => by
    obtain ⟨i, hi, rfl⟩ := List.mem_map.mp hd
    exact Ly.str (ok i hi)) (by decide)
  have l2 : Lay (.list []) := Ly.lay (Ly.list (n := 0) fun d hd => nomatch hd) (by decide)
  refine .inr ⟨.list (ss.map PyData.str), .list [], .lst (SqL.of h1) (dps_str ss), .lst (SqL.of h2) .nil, l1.sh, l2.sh, ?_⟩
  have e : PyData.eqv (.list (ss.map PyData.str)) (.list []) = ss.isEmpty := by
    cases ss with
    | nil => simp only [List.map_nil, PyData.eqv, PyData.eqvAll, List.isEmpty_nil]
    | cons a l => simp only [List.map_cons, PyData.eqv, PyData.eqvAll, List.isEmpty_cons]
  rw [e]
  exact q
/-- [c for c in z if c not in y], each a text of one sign -/
theorem lc_signs {z y : Str} {j : Nat} {σ : L2.St} {H : Hp} {Q : VK} {tt : TT} {te : TE} (hz : z.length < 100000)
    (ht : ∀ c Hc, c ∈ z.cps.toList → Ex H Hc → ∀ N : Bool → Hp → Prop, N (!decide (c ∈ y.cps.toList)) Hc → tt ((wipe σ [j]).set j (some (.str ⟨#[c]⟩))) Hc N)
    (he : ∀ c Hc, c ∈ z.cps.toList → Ex H Hc → ∀ N : VK, N (.str ⟨#[c]⟩) Hc → te ((wipe σ [j]).set j (some (.str ⟨#[c]⟩))) Hc N)
    (h : ∀ L, H L = none → Q (.ref L) (upd H L (.lst (((z.cps.toList.filter fun c => !decide (c ∈ y.cps.toList)).map fun c => (⟨#[c]⟩ : Str)).map V.str)))) : lcB (gName j) tt te [j] σ Q (Its z) H := by
  refine lc_pure (n := z.cps.size) (xs := fun i => .str ⟨#[z.cps.toList.getD i 0]⟩) (f := fun i => !decide (z.cps.toList.getD i 0 ∈ y.cps.toList)) (v := fun i => .str ⟨#[z.cps.toList.getD i 0]⟩) walk_str (fun i H x H' hi y => ⟨y.1, ?_⟩) (fun _ _ => True.intro) hz (fun i Hc hi ec N hN => ?_) (fun i Hc hi ec _ N hN => ?_) fun L hL => ?_
  · obtain ⟨_, c, hc, rfl⟩ := y
    have : z.cps.toList[i]? = some c := by rw [Array.getElem?_toList]; exact hc
    rw [List.getD_eq_getElem?_getD, this]
    rfl
  · refine ht _ Hc ?_ ec N hN
    have hi : i < z.cps.toList.length := by simpa using hi
    rw [List.getD_eq_getElem?_getD, List.getElem?_eq_getElem hi]
    exact List.getElem_mem hi
  · refine he _ Hc ?_ ec N hN
    have hi : i < z.cps.toList.length := by simpa using hi
    rw [List.getD_eq_getElem?_getD, List.getElem?_eq_getElem hi]
    exact List.getElem_mem hi
  have eg : Evl.given z.cps.size (fun i => !decide (z.cps.toList.getD i 0 ∈ y.cps.toList)) (fun i => V.str ⟨#[z.cps.toList.getD i 0]⟩) = ((z.cps.toList.filter fun c => !decide (c ∈ y.cps.toList)).map fun c => (⟨#[c]⟩ : Str)).map V.str := by
    unfold Evl.given
    have := getD_range z.cps.toList 0 (fun c => !decide (c ∈ y.cps.toList)) (fun c => V.str ⟨#[c]⟩)
    rw [List.map_map]
    exact this
  rw [eg]
  exact h L hL
def spLIsN : Sp := fun vs H Q _ => ∃ z : Str, vs = [.str z] ∧ z.length ≤ 10000 ∧ okS z ∧ ∀ H', Ex H H' → Q (.bl (nameB z)) H'
theorem ok_law_is_name : FnOk P w K mg base CX0 1 T.a_law_is_name T.d_law_is_name ["name"] spLIsN := by
  refine T.f_law_is_name.ok sc_law_is_name (fun vs H Q E h => ?_) (fun cdv A outer s H vs Q E hr h => ?_)
  · obtain ⟨_, rfl, _⟩ := h; rfl
  · obtain ⟨z, rfl, hz, okz, q⟩ := h
    have sz : 100000 ≤ sizeLine := by decide
    refine ⟨_, (pss_cons (ps_set (i := 1) sc_law_is_name.nd rfl (by first | exact Or.inl rfl | exact Or.inr rfl) (pe_lst (pa_cons pe_str (pa_cons pe_str (pa_cons pe_str (pa_cons pe_str (pa_cons pe_str (pa_cons pe_str (pa_cons pe_str (pa_cons pe_str pa_nil))))))))))
  (pss_cons (ps_if (PW.pt (pw_or (pt_cmpR (kEq K rfl hr.units) (pv 0) pe_str (by first | rfl | exact nomark _)) (pw_or (pt_cmpR op_gtP (pe_callB (kLen K) (by rfl) T.nb_len (by decide +kernel) (pa_cons (pv 0) pa_nil)) pe_int (by first | rfl | exact nomark _)) (pw_or1 (pt_cmpR (kIn K) (pv 0) (pv 1) (by first | rfl | exact nomark _))))))
    (pss_one (ps_ret pe_bl))
    pss_nil)
  (pss_one (ps_ret (pe_cmpR (kEq K rfl hr.units) (pe_lc (own := [("sign", 2)]) (g := gName 2)  (by rfl) sc_law_is_name.nd (kAny K rfl (pv 0)) (blkOk_by (own := [("sign", 2)]) (N := ["name", "words", "sign"]) (sc := defScope s_law_is_name) (by decide +kernel)) (fun _ _ _ _ _ => (pg_name (i := 2) sc_law_is_name.nd rfl (by first | exact Or.inl rfl | exact Or.inr rfl))) (fun _ _ _ _ _ => (pts_one (pt_cmpR (kNotIn K) (pv 2) pe_str (by first | rfl | exact nomark _)))) (fun _ _ _ _ _ => (pv 2))) (pe_lst pa_nil) (by first | rfl | exact nomark _)))))), ?_⟩
    walk_at "rc"
    refine ⟨by show 8 ≤ sizeLine; decide, fun l hl => ?_⟩
    have e1 := Evl.Ex.new (o := .lst [.str (Str.ofString "turn"), .str (Str.ofString "rewrite"), .str (Str.ofString "if"), .str (Str.ofString "in"), .str (Str.ofString "then"), .str (Str.ofString "else"), .str (Str.ofString "need"), .str (Str.ofString "give")]) hl
    have g1 : upd H l (.lst [.str (Str.ofString "turn"), .str (Str.ofString "rewrite"), .str (Str.ofString "if"), .str (Str.ofString "in"), .str (Str.ofString "then"), .str (Str.ofString "else"), .str (Str.ofString "need"), .str (Str.ofString "give")]) l = some (.lst (WD.map V.str)) := upd_same
    generalize upd H l (.lst [.str (Str.ofString "turn"), .str (Str.ofString "rewrite"), .str (Str.ofString "if"), .str (Str.ofString "in"), .str (Str.ofString "then"), .str (Str.ofString "else"), .str (Str.ofString "need"), .str (Str.ofString "give")]) = H1 at e1 g1
    walk_at "rc"
    walk_at "rs"
    walk_at "rc"
    have fin : nameB z = false → Q (.bl false) H1 := fun e => e ▸ q H1 e1
    refine rd_iteD (fun h1 => ?_) fun h1 => ?_
    · walk_at "rc"
      refine fin ?_
      rw [h1]
      decide +kernel
    walk_at "rc"
    refine rd_lenS (by omega) ?_
    walk_at "rc"
    have zpos : 1 ≤ z.length := by
      rcases Nat.eq_zero_or_pos z.length with h | h
      · exfalso
        refine h1 ?_
        obtain ⟨a⟩ := z
        have : a = #[] := Array.size_eq_zero_iff.mp h
        subst this
        rfl
      · exact h
    refine rd_iteD (fun h2 => ?_) fun h2 => ?_
    · walk_at "rc"
      refine fin ?_
      unfold nameB
      rw [decide_eq_false (show ¬ z.length ≤ 8 by omega), Bool.and_false]
      rfl
    walk_at "rc"
    refine rd_inLs (ys := WD) (SqL.of g1) ?_
    walk_at "rc"
    refine rd_ite (fun h3 => ?_) fun h3 => ?_
    · walk_at "rc"
      refine fin ?_
      unfold nameB
      rw [h3, Bool.not_true, Bool.and_false]
      rfl
    walk_at "rc"
    refine rd_anyS (fun Q q => ⟨_, rfl, q⟩) ?_
    refine lc_signs (y := AZ) (by omega) (fun c Hc hc e N hN => ?_) (fun c Hc hc e N hN => rd_var rfl hN) fun L hL => ?_
    · walk_at "rc"
      exact hN
    have e2 := Evl.Ex.new (o := .lst (((z.cps.toList.filter fun c => !decide (c ∈ AZ.cps.toList)).map fun c => (⟨#[c]⟩ : Str)).map V.str)) hL
    have g2 : upd H1 L (.lst (((z.cps.toList.filter fun c => !decide (c ∈ AZ.cps.toList)).map fun c => (⟨#[c]⟩ : Str)).map V.str)) L = some (.lst (((z.cps.toList.filter fun c => !decide (c ∈ AZ.cps.toList)).map fun c => (⟨#[c]⟩ : Str)).map V.str)) := upd_same
    generalize upd H1 L (.lst (((z.cps.toList.filter fun c => !decide (c ∈ AZ.cps.toList)).map fun c => (⟨#[c]⟩ : Str)).map V.str)) = H2 at e2 g2
    walk_at "rc"
    refine ⟨Nat.zero_le _, fun L2 hL2 => ?_⟩
    have e3 := Evl.Ex.new (o := .lst []) hL2
    refine rd_eqNilS (e3 _ _ g2) upd_same (fun x hx => ?_) ?_
    · obtain ⟨c, hc, rfl⟩ := List.mem_map.mp hx
      exact okS_one okz (List.mem_filter.mp hc).1
    · have en : ((z.cps.toList.filter fun c => !decide (c ∈ AZ.cps.toList)).map fun c => (⟨#[c]⟩ : Str)).isEmpty = nameB z := by
        unfold nameB
        rw [decide_eq_true (show 1 ≤ z.length by omega), decide_eq_true (show z.length ≤ 8 by omega), h3, List.isEmpty_map]
        rw [Bool.eq_iff_iff, List.isEmpty_iff, List.filter_eq_nil_iff]
        show _ ↔ (true && true && !false && z.cps.toList.all fun c => decide (c ∈ AZ.cps.toList)) = true
        rw [Bool.true_and, Bool.not_false, Bool.true_and, Bool.true_and, List.all_eq_true]
        exact ⟨fun h c hc => by have := h c hc; simpa using this, fun h c hc => by have := h c hc; simpa using this⟩
      rw [en]
      exact q _ ((e1.trans e2).trans e3)
def spEnt : Sp := fun vs H Q _ => ∃ (z : Str) (k : Addr) (known : List Str), vs = [.ref k, .str z] ∧ H k = some (.lst (known.map V.str)) ∧ GoodS z ∧ ∀ v H', Ex H H' → Dp K H' v (encN (newName known z)) → Q v H'
theorem ok_entered : FnOk P w K mg base CX0 2 T.a_entered T.d_entered ["known", "name"] (spEnt (K := K)) := by
  refine T.f_entered.ok sc_entered (fun vs H Q E h => ?_) (fun cdv A outer s H vs Q E hr h => ?_)
  · obtain ⟨_, _, _, rfl, _⟩ := h; rfl
  · obtain ⟨z, k, known, rfl, hk, ⟨lz, oz⟩, q⟩ := h
    have sz : 100000 ≤ sizeLine := by decide
    refine ⟨_, (pss_cons (ps_if (pt_not (pt_val (pe_callE (ok_law_is_name T) (hr.mono (by decide)) T.o_law_is_name (pa_cons (pv 1) pa_nil))))
    (pss_one (ps_ret (pe_tup (pa_cons pe_str (pa_cons (pv 1) pa_nil)))))
    pss_nil)
  (pss_one (ps_ret (pe_ifExp (pt_cmpR (kIn K) (pv 1) (pv 0) (by first | rfl | exact nomark _)) (pe_tup (pa_cons pe_str (pa_cons (pv 1) pa_nil))) pe_non)))), ?_⟩
    walk_at "rc"
    walk_at "rs"
    walk_at "rc"
    refine ⟨z, rfl, by omega, oz, fun H1 e1 => ?_⟩
    walk_at "rc"
    refine rd_ite (fun h1 => ?_) fun h1 => ?_
    · walk_at "rc"
      refine ⟨by show 2 ≤ sizeLine; omega, fun tp htp => ?_⟩
      refine q _ _ (e1.trans (Evl.Ex.new htp)) ?_
      rw [show newName known z = some (.bad, z) from if_neg (by simpa using h1)]
      exact .tup (Evl.st_of upd_same) (.cons (.str _) (.cons (.str _) .nil))
    · have h1 : nameB z = true := by simpa using h1
      walk_at "rc"
      refine rd_ife ?_
      walk_at "rc"
      refine rd_inLs (SqL.of (e1 _ _ hk)) ?_
      rw [inV_str]
      walk_at "rc"
      refine rd_iteD (fun h2 => ?_) fun h2 => ?_
      · walk_at "rc"
        refine ⟨by show 2 ≤ sizeLine; omega, fun tp htp => ?_⟩
        refine q _ _ (e1.trans (Evl.Ex.new htp)) ?_
        rw [show newName known z = some (.taken, z) from (if_pos h1).trans (if_pos h2)]
        exact .tup (Evl.st_of upd_same) (.cons (.str _) (.cons (.str _) .nil))
      · walk_at "rc"
        refine q _ _ e1 ?_
        rw [show newName known z = none from (if_pos h1).trans (if_neg h2)]
        exact .non
end
section
theorem _root_.L2.DpAll.drop {H : Hp} : ∀ {vs : List V} {ds : List PyData}, DpAll K H vs ds → ∀ n, DpAll K H (vs.drop n) (ds.drop n)
  | _, _, .nil, n => by rw [List.drop_nil, List.drop_nil]; exact .nil
  | _, _, .cons h t, 0 => .cons h t
  | _, _, .cons h t, n + 1 => t.drop n
theorem _root_.L2.DpAll.take {H : Hp} : ∀ {vs : List V} {ds : List PyData}, DpAll K H vs ds → ∀ n, DpAll K H (vs.take n) (ds.take n)
  | _, _, .nil, n => by rw [List.take_nil, List.take_nil]; exact .nil
  | _, _, .cons h t, 0 => .nil
  | _, _, .cons h t, n + 1 => .cons h (t.take n)
def cutD (ds : List PyData) (lo hi : Option Int) : List PyData := (ds.drop (HT.sIx ds.length 0 lo)).take (HT.sIx ds.length ds.length hi - HT.sIx ds.length 0 lo)
theorem rd_slDT {H0 H : Hp} {x : V} {ds : List PyData} {lo hi : Option Int} {Q : VK} (e : Ex H0 H) (h : Dp K H0 x (.tuple ds)) (q : ∀ v H', Ex H H' → Dp K H' v (.tuple (cutD ds lo hi)) → Q v H') : oSl K x lo hi H Q := by
  obtain ⟨a, vs, rfl, hs, hd⟩ := Dp.tupv h
  have hl := hd.len
  refine .inr (.inr ⟨a, _, rfl, Evl.ex_t e hs, fun full => ?_, fun _ p hp => ?_⟩)
  · refine q _ _ (Evl.Ex.refl H) ?_
    have : cutD ds lo hi = ds := by
      unfold cutD
      rw [← hl, full.1, full.2, List.drop_zero, Nat.sub_zero, hl, List.take_length]
    rw [this]
    exact h.ex e
  · have e2 := Evl.Ex.new (o := .tup (cutV vs lo hi)) hp
    refine q _ _ e2 (.tup (Evl.st_of upd_same) (((?_ : DpAll K H0 _ _).ex e).ex e2))
    unfold cutV cutD
    rw [hl]
    exact (hd.drop _).take _
theorem cut34 {a b c : PyData} {t : List PyData} : cutD (a :: b :: c :: t) (some 3) (some 4) = t.take 1 := by
  unfold cutD
  have h1 : HT.sIx (a :: b :: c :: t).length 0 (some 3) = 3 := by
    show HT.sIx (a :: b :: c :: t).length 0 (some ((3 : Nat) : Int)) = 3
    rw [HT.sIx_nat, List.length_cons, List.length_cons, List.length_cons]; omega
  have h2 : HT.sIx (a :: b :: c :: t).length (a :: b :: c :: t).length (some 4) = min 4 (t.length + 3) := by
    show HT.sIx (a :: b :: c :: t).length (a :: b :: c :: t).length (some ((4 : Nat) : Int)) = _
    rw [HT.sIx_nat]; rfl
  rw [h1, h2]
  show t.take _ = t.take 1
  cases t with
  | nil => rw [List.take_nil, List.take_nil]
  | cons d t => rw [show min 4 ((d :: t).length + 3) - 3 = 1 by rw [List.length_cons]; omega]
theorem cut4 {a b c : PyData} {t : List PyData} : cutD (a :: b :: c :: t) (some 4) none = t.drop 1 := by
  unfold cutD
  have h1 : HT.sIx (a :: b :: c :: t).length 0 (some 4) = min 4 (t.length + 3) := by
    show HT.sIx (a :: b :: c :: t).length 0 (some ((4 : Nat) : Int)) = _
    rw [HT.sIx_nat]; rfl
  rw [h1, HT.sIx_none]
  cases t with
  | nil => rfl
  | cons d t =>
    rw [show min 4 ((d :: t).length + 3) = 4 by rw [List.length_cons]; omega]
    show (t.take _) = t
    refine List.take_of_length_le ?_
    show t.length ≤ t.length + 1 + 1 + 1 + 1 - 4
    omega
theorem ln_strs {l : Ln} (h : l.kind ≠ Str.ofString "join") : ∃ (y1 y2 : Str) (t : List Str), l.rest = .str y1 :: .str y2 :: t.map PyData.str ∧
    (l.reads = if l.kind = Str.ofString "turn" then [y2] else if l.kind = Str.ofString "rewrite" then t.take 1 else if l.kind = Str.ofString "need" then [y1] else y2 :: t.drop 1) ∧ t.length ≤ 3 := by
  cases l with
  | jo n ps => exact absurd rfl h
  | tu n s => exact ⟨n, s, [], rfl, (if_pos rfl).symm, Nat.le_of_ble_eq_true rfl⟩
  | rw n r s => exact ⟨n, r, [s], rfl, ((if_neg (fun h => sne "rewrite" "turn" h)).trans (if_pos rfl)).symm, Nat.le_of_ble_eq_true rfl⟩
  | ch n s p y d => exact ⟨n, s, [p, y, d], rfl, ((if_neg (fun h => sne "choose" "turn" h)).trans ((if_neg (fun h => sne "choose" "rewrite" h)).trans (if_neg (fun h => sne "choose" "need" h)))).symm, Nat.le_of_ble_eq_true rfl⟩
  | ne s p => exact ⟨s, p, [], rfl, ((if_neg (fun h => sne "need" "turn" h)).trans ((if_neg (fun h => sne "need" "rewrite" h)).trans (if_pos rfl))).symm, Nat.le_of_ble_eq_true rfl⟩
variable (T : Txt K mg)
theorem rd_pairs {tk tv : TE} {r : List (TE × TE)} {σ : L2.St} {H : Hp} {Q : List (V × V) → Hp → Prop} (h : tk σ H fun x H1 => tv σ H1 fun y H2 => tPairs r σ H2 fun ps H3 => Q ((x, y) :: ps) H3) : tPairs ((tk, tv) :: r) σ H Q := h
theorem rd_pairs0 {σ : L2.St} {H : Hp} {Q : List (V × V) → Hp → Prop} (h : Q [] H) : tPairs [] σ H Q := h
theorem rd_dget2 {td ty tx : TE} {σ : L2.St} {H : Hp} {Q : VK} (h : td σ H fun x H1 => ∃ a, x = .ref a ∧ IsD H1 a ∧ ty σ H1 fun y H2 => tx σ H2 fun z H3 => ∃ o, DGet H3 a y o ∧ Q (o.getD z) H3) : tDGet2 td ty tx σ H Q := h
theorem ok_read_names : FnOk P w K mg base CX0 1 T.a_read_names T.d_read_names ["line"] (spReads (K := K)) := by
  refine T.f_read_names.ok sc_read_names (fun vs H Q E h => ?_) (fun cdv A outer s H vs Q E hr h => ?_)
  · obtain ⟨_, _, rfl, _⟩ := h; rfl
  · obtain ⟨v, l, rfl, hv, hm, q⟩ := h
    have sz : 100000 ≤ sizeLine := by decide
    refine ⟨_, (pss_cons (ps_if (pt_cmpR (kEq K rfl hr.units) (pe_ix (kIx K) (pv 0) pe_int (fun _ _ => rfl)) pe_str (by first | rfl | exact nomark _))
    (pss_one (ps_ret (pe_lc (own := [("part", 1)]) (g := gName 1)  (by rfl) sc_read_names.nd (kAny K rfl (pe_ix (kIx K) (pv 0) pe_int (fun _ _ => rfl))) (blkOk_by (own := [("part", 1)]) (N := ["line", "part"]) (sc := defScope s_read_names) (by decide +kernel)) (fun _ _ _ _ _ => (pg_name (i := 1) sc_read_names.nd rfl (by first | exact Or.inl rfl | exact Or.inr rfl))) (fun _ _ _ _ _ => (pts_one (pt_cmpR (kEq K rfl hr.units) (pe_ix (kIx K) (pv 1) pe_int (fun _ _ => rfl)) pe_str (by first | rfl | exact nomark _)))) (fun _ _ _ _ _ => (pe_ix (kIx K) (pv 1) pe_int (fun _ _ => rfl))))))
    pss_nil)
  (pss_one (ps_ret (pe_dget2 (hu_of hr) (pe_disp (pps_cons pe_str (pe_lst (pa_cons (pe_ix (kIx K) (pv 0) pe_int (fun _ _ => rfl)) pa_nil)) (pps_cons pe_str (pe_callTy (kLstOf K) (by rfl) T.nb_list (by decide +kernel) (pa_cons (pe_slice (kSl K) (pv 0) (po_some pe_int) (po_some pe_int)) pa_nil)) (pps_cons pe_str (pe_lst (pa_cons (pe_ix (kIx K) (pv 0) pe_int (fun _ _ => rfl)) pa_nil)) pps_nil))) (by rfl) (by rfl) (fun z => by cases z) (by decide)) (pe_ix (kIx K) (pv 0) pe_int (fun _ _ => rfl)) (pe_op (kAdd K) (pe_lst (pa_cons (pe_ix (kIx K) (pv 0) pe_int (fun _ _ => rfl)) pa_nil)) (pe_callTy (kLstOf K) (by rfl) T.nb_list (by decide +kernel) (pa_cons (pe_slice (kSl K) (pv 0) (po_some pe_int) po_none) pa_nil))) ⟨by rfl, by rfl, by rfl, by rfl⟩)))), ?_⟩
    walk_at "rc"
    walk_at "rs"
    walk_at "rc"
    refine rd_ixDT (Evl.Ex.refl H) hv (i := 0) rfl fun v0 h0 => ?_
    cases Dp.str_iff h0
    walk_at "rc"
    refine rd_iteD (fun hj => ?_) fun hj => ?_
    · cases l with
      | tu n s => exact sne "turn" "join" hj
      | rw n r s => exact sne "rewrite" "join" hj
      | ch n s p y d => exact sne "choose" "join" hj
      | ne s p => exact sne "need" "join" hj
      | jo n ps =>
        walk_at "rc"
        refine rd_anyT' ?_
        walk_at "rc"
        refine rd_ixDT (Evl.Ex.refl H) hv (i := 2) rfl fun v2 h2 => ?_
        refine rd_itDT (Evl.Ex.refl H) h2 fun J w => ?_
        refine lc_FD (K := K) (S := []) tr_ex (fun b hb => nomatch hb) w (by rw [hid_nil]; exact Evl.Ex.refl H) (by rw [List.length_map]; have : ps.length ≤ 1000 := hm; omega) (fun v => rfl) isNam sndD (fun L d v Hc hd hv hL nL t1 hs up N hN => ?_) (fun L d v Hc hd hv hq hL nL t1 hs up N hN => ?_) fun L us H1 e1 hL nL hL1 hds => ?_
        · obtain ⟨p, hp, rfl⟩ := List.mem_map.mp hd
          walk_at "rc"
          refine rd_ixDT hid_ex (ds := [.str p.kind, .str p.str]) hv (i := 0) rfl fun v3 h3 => ?_
          cases Dp.str_iff h3
          walk_at "rc"
          exact hN _ (Evl.Ex.refl Hc)
        · obtain ⟨p, hp, rfl⟩ := List.mem_map.mp hd
          walk_at "rc"
          refine rd_ixDT hid_ex (ds := [.str p.kind, .str p.str]) hv (i := 1) rfl fun v3 h3 => ?_
          exact hN _ _ (Evl.Ex.refl Hc) h3
        · rw [nam_sel] at hds
          have eu := dp_strs' hds
          subst eu
          walk_at "rc"
          exact q L H1 e1 hL hL1
    obtain ⟨y1, y2, t, er, ed, tl⟩ := ln_strs hj
    have hv' : Dp K H v (.tuple (.str l.kind :: .str y1 :: .str y2 :: t.map PyData.str)) := er ▸ hv
    walk_at "rc"
    refine rd_dget2 ?_
    walk_at "rc"
    intro D hD
    have e0 := Evl.Ex.new (o := .dK []) hD
    have g0 : upd H D (.dK []) D = some (.dK []) := upd_same
    generalize upd H D (.dK []) = H0 at e0 g0
    refine rd_pairs ?_
    walk_at "rc"
    refine rd_ixDT e0 hv' (i := 2) rfl fun w2 h2 => ?_
    cases Dp.str_iff h2
    walk_at "rc"
    refine ⟨by show 1 ≤ sizeLine; omega, fun qa hqa => ?_⟩
    have e1 := e0.trans (Evl.Ex.new (o := .lst [.str y2]) hqa)
    have g1 : upd H0 qa (.lst [.str y2]) D = some (.dK []) := (Evl.Ex.new hqa) _ _ g0
    have l1 : upd H0 qa (.lst [.str y2]) qa = some (.lst ([y2].map V.str)) := upd_same
    have b1 : H qa = none := by
      cases z : H qa with
      | none => rfl
      | some o => rw [e0 _ _ z] at hqa; cases hqa
    generalize upd H0 qa (.lst [.str y2]) = H1 at e1 g1 l1
    refine rd_pairs ?_
    walk_at "rc"
    refine rd_slDT e1 hv' fun v3 H2 e2 hv3 => ?_
    rw [cut34, ← List.map_take] at hv3
    walk_at "rc"
    refine rd_lstSq0 (Evl.Ex.refl H2) (.inr hv3) fun qb us hqb hus => ?_
    have eu := dp_strs' hus
    subst eu
    have e3 := Evl.Ex.new (o := .lst ((t.take 1).map V.str)) hqb
    have e23 := e2.trans e3
    have e13 := e1.trans e23
    have g3 := e23 _ _ g1
    have l13 := e23 _ _ l1
    have l23 : upd H2 qb (.lst ((t.take 1).map V.str)) qb = some (.lst ((t.take 1).map V.str)) := upd_same
    have b2 : H qb = none := by
      cases z : H qb with
      | none => rfl
      | some o => rw [(e1.trans e2) _ _ z] at hqb; cases hqb
    generalize upd H2 qb (.lst ((t.take 1).map V.str)) = H3 at e13 g3 l13 l23
    refine rd_pairs ?_
    walk_at "rc"
    refine rd_ixDT e13 hv' (i := 1) rfl fun w1 h1 => ?_
    cases Dp.str_iff h1
    walk_at "rc"
    refine ⟨by show 1 ≤ sizeLine; omega, fun qc hqc => ?_⟩
    have e4 := Evl.Ex.new (o := .lst [.str y1]) hqc
    have e14 := e13.trans e4
    have g4 := e4 _ _ g3
    have l14 := e4 _ _ l13
    have l24 := e4 _ _ l23
    have l34 : upd H3 qc (.lst [.str y1]) qc = some (.lst ([y1].map V.str)) := upd_same
    have b3 : H qc = none := by
      cases z : H qc with
      | none => rfl
      | some o => rw [e13 _ _ z] at hqc; cases hqc
    have n1 : qa ≠ D := fun z => by rw [z, g4] at l14; cases l14
    have n2 : qb ≠ D := fun z => by rw [z, g4] at l24; cases l24
    have n3 : qc ≠ D := fun z => by rw [z, g3] at hqc; cases hqc
    generalize upd H3 qc (.lst [.str y1]) = H4 at e14 g4 l14 l24 l34
    refine rd_pairs0 ?_
    refine ⟨g4, [(.inr (Str.ofString "turn"), .ref qa), (.inr (Str.ofString "rewrite"), .ref qb), (.inr (Str.ofString "need"), .ref qc)], rfl, by show 3 ≤ 15; decide, ?_⟩
    have mk : mergeK [] [((.inr (Str.ofString "turn") : L2.Key), V.ref qa), (.inr (Str.ofString "rewrite"), .ref qb), (.inr (Str.ofString "need"), .ref qc)] = [(.inr (Str.ofString "turn"), .ref qa), (.inr (Str.ofString "rewrite"), .ref qb), (.inr (Str.ofString "need"), .ref qc)] := by rfl
    rw [mk]
    have e5 : Ex H (upd H4 D (.dK [(.inr (Str.ofString "turn"), .ref qa), (.inr (Str.ofString "rewrite"), .ref qb), (.inr (Str.ofString "need"), .ref qc)])) := Evl.Ex.mut e14 hD
    have g5 : upd H4 D (.dK [(.inr (Str.ofString "turn"), .ref qa), (.inr (Str.ofString "rewrite"), .ref qb), (.inr (Str.ofString "need"), .ref qc)]) D = some (.dK [(.inr (Str.ofString "turn"), .ref qa), (.inr (Str.ofString "rewrite"), .ref qb), (.inr (Str.ofString "need"), .ref qc)]) := upd_same
    have l15 : upd H4 D (.dK [(.inr (Str.ofString "turn"), .ref qa), (.inr (Str.ofString "rewrite"), .ref qb), (.inr (Str.ofString "need"), .ref qc)]) qa = _ := (upd_ne n1).trans l14
    have l25 : upd H4 D (.dK [(.inr (Str.ofString "turn"), .ref qa), (.inr (Str.ofString "rewrite"), .ref qb), (.inr (Str.ofString "need"), .ref qc)]) qb = _ := (upd_ne n2).trans l24
    have l35 : upd H4 D (.dK [(.inr (Str.ofString "turn"), .ref qa), (.inr (Str.ofString "rewrite"), .ref qb), (.inr (Str.ofString "need"), .ref qc)]) qc = _ := (upd_ne n3).trans l34
    generalize upd H4 D (.dK [(.inr (Str.ofString "turn"), .ref qa), (.inr (Str.ofString "rewrite"), .ref qb), (.inr (Str.ofString "need"), .ref qc)]) = H5 at e5 g5 l15 l25 l35
    refine ⟨D, rfl, .inl ⟨_, .inl g5⟩, ?_⟩
    walk_at "rc"
    refine rd_ixDT e5 hv' (i := 0) rfl fun w0 h0' => ?_
    cases Dp.str_iff h0'
    walk_at "rc"
    refine rd_ixDT e5 hv' (i := 2) rfl fun w2' h2' => ?_
    cases Dp.str_iff h2'
    walk_at "rc"
    refine ⟨by show 1 ≤ sizeLine; omega, fun qe hqe => ?_⟩
    have e6 := Evl.Ex.new (o := .lst [.str y2]) hqe
    have l56 : upd H5 qe (.lst [.str y2]) qe = some (.lst [.str y2]) := upd_same
    have e56 := e5.trans e6
    generalize upd H5 qe (.lst [.str y2]) = H6 at e6 l56 e56
    walk_at "rc"
    refine rd_slDT e56 hv' fun v4 H7 e7 hv4 => ?_
    rw [cut4, ← List.map_drop] at hv4
    walk_at "rc"
    refine rd_lstSq0 (Evl.Ex.refl H7) (.inr hv4) fun qf us6 hqf hus6 => ?_
    have eu := dp_strs' hus6
    subst eu
    have e8 := Evl.Ex.new (o := .lst ((t.drop 1).map V.str)) hqf
    refine rd_cat ((e7.trans e8) _ _ l56) upd_same (by rw [List.length_map, List.length_drop]; have := tl; show 1 + (t.length - 1) ≤ sizeLine; omega) fun qg hqg => ?_
    have e9 := Evl.Ex.new (o := .lst ([V.str y2] ++ (t.drop 1).map V.str)) hqg
    have e10 := (e6.trans (e7.trans e8)).trans e9
    have e11 := e5.trans e10
    have bg : H qg = none := by
      cases z : H qg with
      | none => rfl
      | some o => rw [(e56.trans (e7.trans e8)) _ _ z] at hqg; cases hqg
    have lg : upd (upd H7 qf (.lst ((t.drop 1).map V.str))) qg (.lst ([V.str y2] ++ (t.drop 1).map V.str)) qg = some (.lst ((y2 :: t.drop 1).map V.str)) := upd_same
    generalize upd (upd H7 qf (.lst ((t.drop 1).map V.str))) qg (.lst ([V.str y2] ++ (t.drop 1).map V.str)) = H9 at e9 e10 e11 lg
    refine ⟨_, DGet.k (k := .inr l.kind) (e10 _ _ g5), ?_⟩
    by_cases k1 : l.kind = Str.ofString "turn"
    · rw [if_pos k1] at ed
      rw [k1, valV_pos rfl]
      exact q qa H9 e11 b1 (by rw [ed]; exact e10 _ _ l15)
    rw [if_neg k1] at ed
    rw [valV_neg (fun e : (Sum.inr (Str.ofString "turn") : L2.Key) = .inr l.kind => k1 (Sum.inr.inj e).symm)]
    by_cases k2 : l.kind = Str.ofString "rewrite"
    · rw [if_pos k2] at ed
      rw [k2, valV_pos rfl]
      exact q qb H9 e11 b2 (by rw [ed]; exact e10 _ _ l25)
    rw [if_neg k2] at ed
    rw [valV_neg (fun e : (Sum.inr (Str.ofString "rewrite") : L2.Key) = .inr l.kind => k2 (Sum.inr.inj e).symm)]
    by_cases k3 : l.kind = Str.ofString "need"
    · rw [if_pos k3] at ed
      rw [k3, valV_pos rfl]
      exact q qc H9 e11 b3 (by rw [ed]; exact e10 _ _ l35)
    rw [if_neg k3] at ed
    rw [valV_neg (fun e : (Sum.inr (Str.ofString "need") : L2.Key) = .inr l.kind => k3 (Sum.inr.inj e).symm), valV_nil]
    exact q qg H9 e11 bg (by rw [ed]; exact lg)
end
section
variable (T : Txt K mg)
def spThings : Sp := fun vs H Q _ => ∃ (p : Addr) (L : Str) (deep states : Nat) (bv v : V) (D1 D2 : Addr) (kp kr : List (L2.Key × V)) (ksp ksr : List Str) (l : Ln), vs = [.str L, bv, v] ∧ LBk K H p L deep states bv D1 D2 kp kr ksp ksr ∧ Dp K H v (encLn l) ∧ l.Ok ∧
  ∀ v H', Ex H H' → Dp K H' v (encN (thingF L (fun z => decide (z ∈ ksp)) (fun z => decide (z ∈ ksr)) l)) → Q v H'
theorem ok_things : FnOk P w K mg base CX0 1 T.a_things T.d_things ["letters", "book", "line"] (spThings (K := K)) := by
  refine T.f_things.ok sc_things (fun vs H Q E h => ?_) (fun cdv A outer s H vs Q E hr h => ?_)
  · obtain ⟨_, _, _, _, _, _, _, _, _, _, _, _, _, rfl, _⟩ := h; rfl
  · obtain ⟨p, L, deep, states, bv, v, D1, D2, kp, kr, ksp, ksr, l, rfl, B, hv, ok, q⟩ := h
    have sz : 100000 ≤ sizeLine := by decide
    obtain ⟨bt, rfl, hbt⟩ := B.b
    refine ⟨_, (pss_cons (ps_if (pt_cmpR (kEq K rfl hr.units) (pe_ix (kIx K) (pv 2) pe_int (fun _ _ => rfl)) pe_str (by first | rfl | exact nomark _))
    (pss_cons (ps_if (PW.pt (pw_or (pt_not (pt_cmpR op_leP pe_int (pe_callB (kLen K) (by rfl) T.nb_len (by decide +kernel) (pa_cons (pe_ix (kIx K) (pv 2) pe_int (fun _ _ => rfl)) pa_nil)) (by first | rfl | exact nomark _))) (pw_or1 (pt_not (pt_cmpR op_leP (pe_callB (kLen K) (by rfl) T.nb_len (by decide +kernel) (pa_cons (pe_ix (kIx K) (pv 2) pe_int (fun _ _ => rfl)) pa_nil)) pe_int (by first | rfl | exact nomark _))))))
    (pss_one (ps_ret (pe_tup (pa_cons pe_str (pa_cons pe_str pa_nil)))))
    pss_nil)
  (pss_one (ps_for PassesOwn.never rfl (kAny K rfl (pe_ix (kIx K) (pv 2) pe_int (fun _ _ => rfl))) (pg_name (i := 3) sc_things.nd rfl (by first | exact Or.inl rfl | exact Or.inr rfl))
    (pss_one (ps_if (PW.pt (pw_and (pt_cmpR (kEq K rfl hr.units) (pe_ix (kIx K) (pv 3) pe_int (fun _ _ => rfl)) pe_str (by first | rfl | exact nomark _)) (pw_and1 (pt_cmpR (kNe K rfl hr.units) (pe_lc (own := [("sign", 4)]) (g := gName 4)  (by rfl) sc_things.nd (kAny K rfl (pe_ix (kIx K) (pv 3) pe_int (fun _ _ => rfl))) (blkOk_by (own := [("sign", 4)]) (N := ["letters", "book", "line", "part", "sign"]) (sc := defScope s_things) (by decide +kernel)) (fun _ _ _ _ _ => (pg_name (i := 4) sc_things.nd rfl (by first | exact Or.inl rfl | exact Or.inr rfl))) (fun _ _ _ _ _ => (pts_one (pt_cmpR (kNotIn K) (pv 4) (pv 0) (by first | rfl | exact nomark _)))) (fun _ _ _ _ _ => (pv 4))) (pe_lst pa_nil) (by first | rfl | exact nomark _)))))
    (pss_one (ps_ret (pe_tup (pa_cons pe_str (pa_cons (pe_ix (kIx K) (pv 3) pe_int (fun _ _ => rfl)) pa_nil)))))
    pss_nil)))))
    pss_nil)
  (pss_cons (ps_if (PW.pt (pw_and (pt_cmpR (kEq K rfl hr.units) (pe_ix (kIx K) (pv 2) pe_int (fun _ _ => rfl)) pe_str (by first | rfl | exact nomark _)) (pw_and1 (pt_cmp (pc_dnotin (hu_of hr) (pe_ix (kIx K) (pv 2) pe_int (fun _ _ => rfl)) (pe_ix (kIx K) (pv 1) pe_int (fun _ _ => rfl)))))))
    (pss_one (ps_ret (pe_tup (pa_cons pe_str (pa_cons (pe_ix (kIx K) (pv 2) pe_int (fun _ _ => rfl)) pa_nil)))))
    pss_nil)
  (pss_cons (ps_if (PW.pt (pw_and (pt_cmpR (kEq K rfl hr.units) (pe_ix (kIx K) (pv 2) pe_int (fun _ _ => rfl)) pe_str (by first | rfl | exact nomark _)) (pw_and1 (pt_cmp (pc_dnotin (hu_of hr) (pe_ix (kIx K) (pv 2) pe_int (fun _ _ => rfl)) (pe_ix (kIx K) (pv 1) pe_int (fun _ _ => rfl)))))))
    (pss_one (ps_ret (pe_tup (pa_cons pe_str (pa_cons (pe_ix (kIx K) (pv 2) pe_int (fun _ _ => rfl)) pa_nil)))))
    pss_nil)
  (pss_cons (ps_if (PW.pt (pw_and (pt_cmpR (kEq K rfl hr.units) (pe_ix (kIx K) (pv 2) pe_int (fun _ _ => rfl)) pe_str (by first | rfl | exact nomark _)) (pw_and1 (pt_cmp (pc_dnotin (hu_of hr) (pe_ix (kIx K) (pv 2) pe_int (fun _ _ => rfl)) (pe_ix (kIx K) (pv 1) pe_int (fun _ _ => rfl)))))))
    (pss_one (ps_ret (pe_tup (pa_cons pe_str (pa_cons (pe_ix (kIx K) (pv 2) pe_int (fun _ _ => rfl)) pa_nil)))))
    pss_nil)
  (pss_one (ps_ret pe_non)))))), ?_⟩
    have two : ∀ {H1 : Hp} {tp : Addr} {f : Fk} {z : Str}, Ex H H1 → H1 tp = none → thingF L (fun z => decide (z ∈ ksp)) (fun z => decide (z ∈ ksr)) l = some (f, z) → Q (.ref tp) (upd H1 tp (.tup [.str f.word, .str z])) := fun {H1 tp f z} e h hf => by
      refine q _ _ (e.trans (Evl.Ex.new h)) ?_
      rw [hf]
      exact .tup (Evl.st_of upd_same) (.cons (.str _) (.cons (.str _) .nil))
    walk_at "rc"
    walk_at "rs"
    walk_at "rc"
    refine rd_ixDT (Evl.Ex.refl H) hv (i := 0) rfl fun v0 h0 => ?_
    cases Dp.str_iff h0
    walk_at "rc"
    cases l with
    | jo n ps =>
      refine rd_iteD (fun _ => ?_) fun h => absurd rfl h
      have hm : ps.length ≤ 100 := ok.m
      walk_at "rc"
      walk_at "rs"
      walk_at "rc"
      refine rd_ixDT (Evl.Ex.refl H) hv (i := 2) rfl fun v2 h2 => ?_
      walk_at "rc"
      refine rd_lenDT (Evl.Ex.refl H) h2 ?_
      rw [List.length_map]
      walk_at "rc"
      have mk : ¬ (1 ≤ ps.length ∧ ps.length ≤ 6) → thingF L (fun z => decide (z ∈ ksp)) (fun z => decide (z ∈ ksr)) (.jo n ps) = some (Fk.many, Str.ofString "parts") := fun h => if_neg h
      refine rd_iteN (fun a1 => ?_) fun a1 => ?_
      · walk_at "rc"
        refine ⟨by show 2 ≤ sizeLine; omega, fun tp htp => ?_⟩
        exact two (f := .many) (Evl.Ex.refl H) htp (mk (by omega))
      walk_at "rc"
      refine rd_ixDT (Evl.Ex.refl H) hv (i := 2) rfl fun v3 h3 => ?_
      walk_at "rc"
      refine rd_lenDT (Evl.Ex.refl H) h3 ?_
      rw [List.length_map]
      walk_at "rc"
      refine rd_iteN (fun a2 => ?_) fun a2 => ?_
      · walk_at "rc"
        refine ⟨by show 2 ≤ sizeLine; omega, fun tp htp => ?_⟩
        exact two (f := .many) (Evl.Ex.refl H) htp (mk (by omega))
      have ek : thingF L (fun z => decide (z ∈ ksp)) (fun z => decide (z ∈ ksr)) (.jo n ps) = textF L ps := if_pos (⟨by omega, by omega⟩ : 1 ≤ ps.length ∧ ps.length ≤ 6)
      walk_at "rc"
      refine rd_anyT' ?_
      walk_at "rc"
      refine rd_ixDT (Evl.Ex.refl H) hv (i := 2) rfl fun v4 h4 => ?_
      refine rd_itDT (Evl.Ex.refl H) h4 fun J w => ?_
      refine fo_D w (fun i σ H' => (∃ a b, σ = [some (.str L), some (.ref bt), some v, a, b]) ∧ Ex H H' ∧ textF L ps = textF L (ps.drop i)) ⟨⟨_, _, rfl⟩, Evl.Ex.refl H, rfl⟩ (fun i σ H' _ h => h.2.1) ?_ ?_
      · rintro i d x σ H' hd hx ⟨⟨a, b, rfl⟩, e, ht⟩
        rw [List.getElem?_map] at hd
        obtain ⟨pp, hp, rfl⟩ := Option.map_eq_some_iff.mp hd
        have hu := textF_drop hp ht
        have lpg := ok.s pp.str (List.mem_cons_of_mem _ (List.mem_map_of_mem (List.mem_of_getElem? hp)))
        have hx' : Dp K H x (.tuple [.str pp.kind, .str pp.str]) := hx
        walk_at "rc"
        refine rd_ixDT e hx' (i := 0) rfl fun x0 hx0 => ?_
        cases Dp.str_iff hx0
        walk_at "rc"
        cases pp with
        | nam z =>
          refine rd_iteD (fun h => sne "name" "text" h) fun _ => ?_
          walk_at "rc"
          exact ⟨⟨_, _, rfl⟩, e, hu.2.2 z rfl⟩
        | txt z =>
          have lz : z.length ≤ 100 := lpg.1
          have oz : okS z := lpg.2
          refine rd_iteD (fun _ => ?_) fun h => absurd rfl h
          walk_at "rc"
          refine rd_anyS' ?_
          walk_at "rc"
          refine rd_ixDT e hx' (i := 1) rfl fun x1 hx1 => ?_
          cases Dp.str_iff hx1
          refine rd_itS ?_
          refine lc_signs (z := z) (y := L) (by omega) (fun c Hc hc e N hN => ?_) (fun c Hc hc e N hN => rd_var rfl hN) fun q1 hq1 => ?_
          · walk_at "rc"
            exact hN
          have e2 := Evl.Ex.new (o := .lst (((z.cps.toList.filter fun c => !decide (c ∈ L.cps.toList)).map fun c => (⟨#[c]⟩ : Str)).map V.str)) hq1
          have g2 : upd H' q1 (.lst (((z.cps.toList.filter fun c => !decide (c ∈ L.cps.toList)).map fun c => (⟨#[c]⟩ : Str)).map V.str)) q1 = some (.lst (((z.cps.toList.filter fun c => !decide (c ∈ L.cps.toList)).map fun c => (⟨#[c]⟩ : Str)).map V.str)) := upd_same
          generalize upd H' q1 (.lst (((z.cps.toList.filter fun c => !decide (c ∈ L.cps.toList)).map fun c => (⟨#[c]⟩ : Str)).map V.str)) = H2 at e2 g2
          walk_at "rc"
          refine ⟨Nat.zero_le _, fun q2 hq2 => ?_⟩
          have e3 := Evl.Ex.new (o := .lst []) hq2
          refine rd_neNilS (e3 _ _ g2) upd_same (fun x hx => ?_) ?_
          · obtain ⟨c, hc, rfl⟩ := List.mem_map.mp hx
            exact okS_one oz (List.mem_filter.mp hc).1
          have e4 := e.trans (e2.trans e3)
          have en : (!((z.cps.toList.filter fun c => !decide (c ∈ L.cps.toList)).map fun c => (⟨#[c]⟩ : Str)).isEmpty) = !decide (isT L z) := by
            rw [List.isEmpty_map]
            congr 1
            rw [Bool.eq_iff_iff, List.isEmpty_iff, List.filter_eq_nil_iff, decide_eq_true_iff]
            exact ⟨fun h c hc => by have := h c hc; simpa using this, fun h c hc => by have := h c hc; simpa using this⟩
          rw [en]
          refine ⟨_, rfl, rd_iteN (fun hz => ?_) fun hz => ?_⟩
          · walk_at "rc"
            refine rd_ixDT e4 hx' (i := 1) rfl fun x2 hx2 => ?_
            cases Dp.str_iff hx2
            walk_at "rc"
            refine ⟨by show 2 ≤ sizeLine; omega, fun tp htp => ?_⟩
            exact two (f := .text) e4 htp (ek.trans (hu.2.1 z rfl hz))
          · walk_at "rc"
            exact ⟨⟨_, _, rfl⟩, e4, hu.1 z rfl hz⟩
      · rintro σ H' ⟨⟨a, b, rfl⟩, e, ht⟩
        rw [List.length_map, List.drop_length] at ht
        have end0 : ∀ H', Ex H H' → Q .non H' := fun H' e => q .non H' e (by rw [ek, ht]; exact .non)
        walk_at "rc"
        walk_at "rs"
        walk_at "rc"
        refine rd_ixDT e hv (i := 0) rfl fun v0 h0 => ?_
        cases Dp.str_iff h0
        walk_at "rc"
        refine rd_iteD (fun h => sne "join" "rewrite" h) fun _ => ?_
        walk_at "rc"
        walk_at "rs"
        walk_at "rc"
        refine rd_ixDT e hv (i := 0) rfl fun v0 h0 => ?_
        cases Dp.str_iff h0
        walk_at "rc"
        refine rd_iteD (fun h => sne "join" "choose" h) fun _ => ?_
        walk_at "rc"
        walk_at "rs"
        walk_at "rc"
        refine rd_ixDT e hv (i := 0) rfl fun v0 h0 => ?_
        cases Dp.str_iff h0
        walk_at "rc"
        refine rd_iteD (fun h => sne "join" "need" h) fun _ => ?_
        walk_at "rc"
        exact end0 _ e
    | tu n s =>
      have end0 : ∀ H', Ex H H' → Q .non H' := fun H' e => q .non H' e .non
      refine rd_iteD (fun h => sne "turn" "join" h) fun _ => ?_
      walk_at "rc"
      walk_at "rs"
      walk_at "rc"
      refine rd_ixDT (Evl.Ex.refl H) hv (i := 0) rfl fun v0 h0 => ?_
      cases Dp.str_iff h0
      walk_at "rc"
      refine rd_iteD (fun h => sne "turn" "rewrite" h) fun _ => ?_
      walk_at "rc"
      walk_at "rs"
      walk_at "rc"
      refine rd_ixDT (Evl.Ex.refl H) hv (i := 0) rfl fun v0 h0 => ?_
      cases Dp.str_iff h0
      walk_at "rc"
      refine rd_iteD (fun h => sne "turn" "choose" h) fun _ => ?_
      walk_at "rc"
      walk_at "rs"
      walk_at "rc"
      refine rd_ixDT (Evl.Ex.refl H) hv (i := 0) rfl fun v0 h0 => ?_
      cases Dp.str_iff h0
      walk_at "rc"
      refine rd_iteD (fun h => sne "turn" "need" h) fun _ => ?_
      walk_at "rc"
      exact end0 H (Evl.Ex.refl H)
    | rw n r s =>
      refine rd_iteD (fun h => sne "rewrite" "join" h) fun _ => ?_
      walk_at "rc"
      walk_at "rs"
      walk_at "rc"
      refine rd_ixDT (Evl.Ex.refl H) hv (i := 0) rfl fun v0 h0 => ?_
      cases Dp.str_iff h0
      walk_at "rc"
      refine rd_iteD (fun _ => ?_) fun h => absurd rfl h
      walk_at "rc"
      refine rd_ixDT (Evl.Ex.refl H) hv (i := 2) rfl fun v2 h2 => ?_
      cases Dp.str_iff h2
      walk_at "rc"
      refine rd_ixT (Evl.st_of hbt) (atI_nat (j := 1) rfl) ?_
      refine ⟨_, _, rfl, DGet.k (k := .inr r) B.hr, ?_⟩
      rw [keys_some B.yr]
      refine ⟨_, rfl, rd_iteN (fun hz => ?_) fun hz => ?_⟩
      · walk_at "rc"
        refine rd_ixDT (Evl.Ex.refl H) hv (i := 2) rfl fun v3 h3 => ?_
        cases Dp.str_iff h3
        walk_at "rc"
        refine ⟨by show 2 ≤ sizeLine; omega, fun tp htp => ?_⟩
        exact two (f := .unknown) (Evl.Ex.refl H) htp (if_neg fun h => hz (of_decide_eq_true h))
      have end0 : ∀ H', Ex H H' → Q .non H' := fun H' e => q .non H' e (by rw [show thingF L (fun z => decide (z ∈ ksp)) (fun z => decide (z ∈ ksr)) (.rw n r s) = none from if_pos (decide_eq_true hz)]; exact .non)
      walk_at "rc"
      walk_at "rs"
      walk_at "rc"
      refine rd_ixDT (Evl.Ex.refl H) hv (i := 0) rfl fun v0 h0 => ?_
      cases Dp.str_iff h0
      walk_at "rc"
      refine rd_iteD (fun h => sne "rewrite" "choose" h) fun _ => ?_
      walk_at "rc"
      walk_at "rs"
      walk_at "rc"
      refine rd_ixDT (Evl.Ex.refl H) hv (i := 0) rfl fun v0 h0 => ?_
      cases Dp.str_iff h0
      walk_at "rc"
      refine rd_iteD (fun h => sne "rewrite" "need" h) fun _ => ?_
      walk_at "rc"
      exact end0 H (Evl.Ex.refl H)
    | ch n s c y d =>
      refine rd_iteD (fun h => sne "choose" "join" h) fun _ => ?_
      walk_at "rc"
      walk_at "rs"
      walk_at "rc"
      refine rd_ixDT (Evl.Ex.refl H) hv (i := 0) rfl fun v0 h0 => ?_
      cases Dp.str_iff h0
      walk_at "rc"
      refine rd_iteD (fun h => sne "choose" "rewrite" h) fun _ => ?_
      walk_at "rc"
      walk_at "rs"
      walk_at "rc"
      refine rd_ixDT (Evl.Ex.refl H) hv (i := 0) rfl fun v0 h0 => ?_
      cases Dp.str_iff h0
      walk_at "rc"
      refine rd_iteD (fun _ => ?_) fun h => absurd rfl h
      walk_at "rc"
      refine rd_ixDT (Evl.Ex.refl H) hv (i := 3) rfl fun v2 h2 => ?_
      cases Dp.str_iff h2
      walk_at "rc"
      refine rd_ixT (Evl.st_of hbt) (atI_nat (j := 0) rfl) ?_
      refine ⟨_, _, rfl, DGet.k (k := .inr c) B.hp, ?_⟩
      rw [keys_some B.yp]
      refine ⟨_, rfl, rd_iteN (fun hz => ?_) fun hz => ?_⟩
      · walk_at "rc"
        refine rd_ixDT (Evl.Ex.refl H) hv (i := 3) rfl fun v3 h3 => ?_
        cases Dp.str_iff h3
        walk_at "rc"
        refine ⟨by show 2 ≤ sizeLine; omega, fun tp htp => ?_⟩
        exact two (f := .unknown) (Evl.Ex.refl H) htp (if_neg fun h => hz (of_decide_eq_true h))
      have end0 : ∀ H', Ex H H' → Q .non H' := fun H' e => q .non H' e (by rw [show thingF L (fun z => decide (z ∈ ksp)) (fun z => decide (z ∈ ksr)) (.ch n s c y d) = none from if_pos (decide_eq_true hz)]; exact .non)
      walk_at "rc"
      walk_at "rs"
      walk_at "rc"
      refine rd_ixDT (Evl.Ex.refl H) hv (i := 0) rfl fun v0 h0 => ?_
      cases Dp.str_iff h0
      walk_at "rc"
      refine rd_iteD (fun h => sne "choose" "need" h) fun _ => ?_
      walk_at "rc"
      exact end0 H (Evl.Ex.refl H)
    | ne s c =>
      refine rd_iteD (fun h => sne "need" "join" h) fun _ => ?_
      walk_at "rc"
      walk_at "rs"
      walk_at "rc"
      refine rd_ixDT (Evl.Ex.refl H) hv (i := 0) rfl fun v0 h0 => ?_
      cases Dp.str_iff h0
      walk_at "rc"
      refine rd_iteD (fun h => sne "need" "rewrite" h) fun _ => ?_
      walk_at "rc"
      walk_at "rs"
      walk_at "rc"
      refine rd_ixDT (Evl.Ex.refl H) hv (i := 0) rfl fun v0 h0 => ?_
      cases Dp.str_iff h0
      walk_at "rc"
      refine rd_iteD (fun h => sne "need" "choose" h) fun _ => ?_
      walk_at "rc"
      walk_at "rs"
      walk_at "rc"
      refine rd_ixDT (Evl.Ex.refl H) hv (i := 0) rfl fun v0 h0 => ?_
      cases Dp.str_iff h0
      walk_at "rc"
      refine rd_iteD (fun _ => ?_) fun h => absurd rfl h
      walk_at "rc"
      refine rd_ixDT (Evl.Ex.refl H) hv (i := 2) rfl fun v2 h2 => ?_
      cases Dp.str_iff h2
      walk_at "rc"
      refine rd_ixT (Evl.st_of hbt) (atI_nat (j := 0) rfl) ?_
      refine ⟨_, _, rfl, DGet.k (k := .inr c) B.hp, ?_⟩
      rw [keys_some B.yp]
      refine ⟨_, rfl, rd_iteN (fun hz => ?_) fun hz => ?_⟩
      · walk_at "rc"
        refine rd_ixDT (Evl.Ex.refl H) hv (i := 2) rfl fun v3 h3 => ?_
        cases Dp.str_iff h3
        walk_at "rc"
        refine ⟨by show 2 ≤ sizeLine; omega, fun tp htp => ?_⟩
        exact two (f := .unknown) (Evl.Ex.refl H) htp (if_neg fun h => hz (of_decide_eq_true h))
      have end0 : ∀ H', Ex H H' → Q .non H' := fun H' e => q .non H' e (by rw [show thingF L (fun z => decide (z ∈ ksp)) (fun z => decide (z ∈ ksr)) (.ne s c) = none from if_pos (decide_eq_true hz)]; exact .non)
      walk_at "rc"
      exact end0 H (Evl.Ex.refl H)
end
section
theorem ln_gives (l : Ln) : (l.kind = Str.ofString "need" ∧ l.gives = []) ∨ (l.kind ≠ Str.ofString "need" ∧ ∃ n, l.gives = [n] ∧ l.rest[0]? = some (.str n)) := by
  cases l with
  | ne s q => exact .inl ⟨rfl, rfl⟩
  | jo n ps => exact .inr ⟨fun h => sne "join" "need" h, n, rfl, rfl⟩
  | tu n s => exact .inr ⟨fun h => sne "turn" "need" h, n, rfl, rfl⟩
  | rw n r s => exact .inr ⟨fun h => sne "rewrite" "need" h, n, rfl, rfl⟩
  | ch n s q y d => exact .inr ⟨fun h => sne "choose" "need" h, n, rfl, rfl⟩
theorem encN_non {H : Hp} {v : V} {F : Flt} (h : Dp K H v (encN F)) : (F = none ∧ v = .non) ∨ (∃ x, F = some x) ∧ ∃ a, v = .ref a := by
  cases F with
  | none => exact .inl ⟨rfl, Dp.non_iff h⟩
  | some x =>
    obtain ⟨f, z⟩ := x
    obtain ⟨a, vs, rfl, _, _⟩ := Dp.tupv (ds := [.str f.word, .str z]) h
    exact .inr ⟨⟨_, rfl⟩, a, rfl⟩
theorem encN_F {x : Fk × Str} : encN (some x) = encF (some x) := by obtain ⟨f, z⟩ := x; rfl
variable (T : Txt K mg)
def spDue : Sp := fun vs H Q _ => ∃ (p : Addr) (L : Str) (deep states : Nat) (bv v : V) (D1 D2 : Addr) (kp kr : List (L2.Key × V)) (ksp ksr : List Str) (g : Prg), vs = [.str L, bv, v] ∧ LBk K H p L deep states bv D1 D2 kp kr ksp ksr ∧ Dp K H v (encG g) ∧ g.Ok ∧
  ∀ v H', Ex H H' → Dp K H' v (encF (chk L (fun z => decide (z ∈ ksp)) (fun z => decide (z ∈ ksr)) g)) → Q v H'
theorem ok_due : FnOk P w K mg base CX0 3 T.a_due T.d_due ["letters", "book", "program"] (spDue (K := K)) := by
  refine T.f_due.ok sc_due (fun vs H Q E h => ?_) (fun cdv A outer s H vs Q E hr h => ?_)
  · obtain ⟨_, _, _, _, _, _, _, _, _, _, _, _, _, rfl, _⟩ := h; rfl
  · obtain ⟨p, L, deep, states, bv, v, D1, D2, kp, kr, ksp, ksr, g, rfl, B, hv, ok, q⟩ := h
    have sz : 100000 ≤ sizeLine := by decide
    have gil := ok.il
    have gll := ok.ll
    have hpe : ∃ hp : Str → Bool, hp = fun z => decide (z ∈ ksp) := ⟨_, rfl⟩
    obtain ⟨hp, ehp⟩ := hpe
    have hre : ∃ hr : Str → Bool, hr = fun z => decide (z ∈ ksr) := ⟨_, rfl⟩
    obtain ⟨hrr, ehr⟩ := hre
    rw [← ehp, ← ehr] at q
    have hv : Dp K H v (.tuple [.tuple (g.inp.map PyData.str), .tuple (g.lin.map encLn), .str g.res]) := hv
    have two : ∀ {H1 : Hp} {tp : Addr} {f : Fk} {z : Str}, Ex H H1 → H1 tp = none → chk L hp hrr g = some (f, z) → Q (.ref tp) (upd H1 tp (.tup [.str f.word, .str z])) := fun {H1 tp f z} e h hf => by
      refine q _ _ (e.trans (Evl.Ex.new h)) ?_
      rw [hf]
      exact .tup (Evl.st_of upd_same) (.cons (.str _) (.cons (.str _) .nil))
    refine ⟨_, (pss_cons (ps_if (PW.pt (pw_or (pt_not (pt_cmpR op_leP pe_int (pe_callB (kLen K) (by rfl) T.nb_len (by decide +kernel) (pa_cons (pe_ix (kIx K) (pv 2) pe_int (fun _ _ => rfl)) pa_nil)) (by first | rfl | exact nomark _))) (pw_or1 (pt_not (pt_cmpR op_leP (pe_callB (kLen K) (by rfl) T.nb_len (by decide +kernel) (pa_cons (pe_ix (kIx K) (pv 2) pe_int (fun _ _ => rfl)) pa_nil)) pe_int (by first | rfl | exact nomark _))))))
    (pss_one (ps_ret (pe_tup (pa_cons pe_str (pa_cons pe_str pa_nil)))))
    pss_nil)
  (pss_cons (ps_if (pt_cmpR op_gtP (pe_callB (kLen K) (by rfl) T.nb_len (by decide +kernel) (pa_cons (pe_ix (kIx K) (pv 2) pe_int (fun _ _ => rfl)) pa_nil)) pe_int (by first | rfl | exact nomark _))
    (pss_one (ps_ret (pe_tup (pa_cons pe_str (pa_cons pe_str pa_nil)))))
    pss_nil)
  (pss_cons (ps_set (i := 3) sc_due.nd rfl (by first | exact Or.inl rfl | exact Or.inr rfl) (pe_lst pa_nil))
  (pss_cons (ps_for PassesOwn.never rfl (kAny K rfl (pe_ix (kIx K) (pv 2) pe_int (fun _ _ => rfl))) (pg_name (i := 4) sc_due.nd rfl (by first | exact Or.inl rfl | exact Or.inr rfl))
    (pss_cons (ps_set (i := 5) sc_due.nd rfl (by first | exact Or.inl rfl | exact Or.inr rfl) (pe_callE (ok_entered T) (hr.mono (by decide)) T.o_entered (pa_cons (pv 3) (pa_cons (pv 4) pa_nil))))
  (pss_cons (ps_if (pt_cmpR op_notN (pv 5) pe_non (by first | rfl | exact nomark _))
    (pss_one (ps_ret (pv 5)))
    pss_nil)
  (pss_one (ps_expr (kBm K rfl (pe_bm PySem.F.plainAttrs_list PySem.F.slot_list_append PySem.F.type_list_append mt_append (pv 3) (pa_cons (pv 4) pa_nil))))))))
  (pss_cons (ps_for PassesOwn.never rfl (kAny K rfl (pe_ix (kIx K) (pv 2) pe_int (fun _ _ => rfl))) (pg_name (i := 6) sc_due.nd rfl (by first | exact Or.inl rfl | exact Or.inr rfl))
    (pss_cons (ps_for PassesOwn.never rfl (kAny K rfl (pe_callE (ok_read_names T) (hr.mono (by decide)) T.o_read_names (pa_cons (pv 6) pa_nil))) (pg_name (i := 4) sc_due.nd rfl (by first | exact Or.inl rfl | exact Or.inr rfl))
    (pss_one (ps_if (pt_cmpR (kNotIn K) (pv 4) (pv 3) (by first | rfl | exact nomark _))
    (pss_one (ps_ret (pe_tup (pa_cons pe_str (pa_cons (pv 4) pa_nil)))))
    pss_nil)))
  (pss_cons (ps_set (i := 5) sc_due.nd rfl (by first | exact Or.inl rfl | exact Or.inr rfl) (pe_callE (ok_things T) (hr.mono (by decide)) T.o_things (pa_cons (pv 0) (pa_cons (pv 1) (pa_cons (pv 6) pa_nil)))))
  (pss_cons (ps_if (PW.pt (pw_and (pt_cmpR op_isN (pv 5) pe_non (by first | rfl | exact nomark _)) (pw_and1 (pt_cmpR (kNe K rfl hr.units) (pe_ix (kIx K) (pv 6) pe_int (fun _ _ => rfl)) pe_str (by first | rfl | exact nomark _)))))
    (pss_cons (ps_set (i := 5) sc_due.nd rfl (by first | exact Or.inl rfl | exact Or.inr rfl) (pe_callE (ok_entered T) (hr.mono (by decide)) T.o_entered (pa_cons (pv 3) (pa_cons (pe_ix (kIx K) (pv 6) pe_int (fun _ _ => rfl)) pa_nil))))
  (pss_one (ps_expr (kBm K rfl (pe_bm PySem.F.plainAttrs_list PySem.F.slot_list_append PySem.F.type_list_append mt_append (pv 3) (pa_cons (pe_ix (kIx K) (pv 6) pe_int (fun _ _ => rfl)) pa_nil))))))
    pss_nil)
  (pss_one (ps_if (pt_cmpR op_notN (pv 5) pe_non (by first | rfl | exact nomark _))
    (pss_one (ps_ret (pv 5)))
    pss_nil))))))
  (pss_one (ps_ret (pe_ifExp (pt_cmpR (kIn K) (pe_ix (kIx K) (pv 2) pe_int (fun _ _ => rfl)) (pv 3) (by first | rfl | exact nomark _)) (pe_tup (pa_cons pe_str (pa_cons pe_non pa_nil))) (pe_tup (pa_cons pe_str (pa_cons (pe_ix (kIx K) (pv 2) pe_int (fun _ _ => rfl)) pa_nil))))))))))), ?_⟩
    walk_at "rc"
    walk_at "rs"
    walk_at "rc"
    refine rd_ixDT (Evl.Ex.refl H) hv (i := 0) rfl fun v0 h0 => ?_
    walk_at "rc"
    refine rd_lenDT (Evl.Ex.refl H) h0 ?_
    rw [List.length_map]
    walk_at "rc"
    have mk : ¬ (1 ≤ g.inp.length ∧ g.inp.length ≤ 3) → chk L hp hrr g = some (Fk.many, Str.ofString "inputs") := fun h => if_neg h
    refine rd_iteN (fun a1 => ?_) fun a1 => ?_
    · walk_at "rc"
      refine ⟨by show 2 ≤ sizeLine; omega, fun tp htp => ?_⟩
      exact two (f := .many) (Evl.Ex.refl H) htp (mk (by omega))
    walk_at "rc"
    refine rd_ixDT (Evl.Ex.refl H) hv (i := 0) rfl fun v0' h0' => ?_
    walk_at "rc"
    refine rd_lenDT (Evl.Ex.refl H) h0' ?_
    rw [List.length_map]
    walk_at "rc"
    refine rd_iteN (fun a2 => ?_) fun a2 => ?_
    · walk_at "rc"
      refine ⟨by show 2 ≤ sizeLine; omega, fun tp htp => ?_⟩
      exact two (f := .many) (Evl.Ex.refl H) htp (mk (by omega))
    have hin : 1 ≤ g.inp.length ∧ g.inp.length ≤ 3 := ⟨by omega, by omega⟩
    walk_at "rc"
    walk_at "rs"
    walk_at "rc"
    refine rd_ixDT (Evl.Ex.refl H) hv (i := 1) rfl fun v1 h1 => ?_
    walk_at "rc"
    refine rd_lenDT (Evl.Ex.refl H) h1 ?_
    rw [List.length_map]
    walk_at "rc"
    refine rd_iteD (fun a3 => ?_) fun a3 => ?_
    · walk_at "rc"
      refine ⟨by show 2 ≤ sizeLine; omega, fun tp htp => ?_⟩
      exact two (f := .many) (Evl.Ex.refl H) htp ((if_pos hin).trans (if_pos (by omega)))
    have ech : chk L hp hrr g = (entF [] g.inp).or ((linesF L hp hrr g.inp g.lin).or (unkF (g.inp ++ g.lin.flatMap Ln.gives) [g.res])) := (if_pos hin).trans (if_neg (by omega))
    walk_at "rc"
    refine ⟨Nat.zero_le _, fun kn hkn => ?_⟩
    have e1 := Evl.Ex.new (o := .lst []) hkn
    have g1 : upd H kn (.lst []) kn = some (.lst []) := upd_same
    generalize upd H kn (.lst []) = H1 at e1 g1
    have mt1 : ∀ {Hc : Hp} {xs ys : List V}, Ex H Hc → Ex H (upd Hc kn (.lst ys)) := fun e => Evl.Ex.mut e hkn
    have ret : ∀ {H1 : Hp} {v : V} {x : Fk × Str}, Ex H H1 → Dp K H1 v (encN (some x)) → chk L hp hrr g = some x → Q v H1 := fun {H1 v x} e d h => q v H1 e (by rw [h, ← encN_F]; exact d)
    walk_at "rc"
    walk_at "rs"
    walk_at "rc"
    refine rd_anyT' ?_
    walk_at "rc"
    refine rd_ixDT e1 hv (i := 0) rfl fun v2 h2 => ?_
    refine rd_itDT e1 h2 fun J w => ?_
    refine fo_D w (fun i σ H' => (∃ n fl l, σ = [some (.str L), some bv, some v, some (.ref kn), n, fl, l]) ∧ Ex H H' ∧ H' kn = some (.lst ((g.inp.take i).map V.str)) ∧ entF [] g.inp = entF ([] ++ g.inp.take i) (g.inp.drop i)) ⟨⟨_, _, _, rfl⟩, e1, g1, rfl⟩ (fun i σ H' _ h => h.2.1) ?_ ?_
    · rintro i d x σ H' hd hx ⟨⟨n, fl, l, rfl⟩, e, hk, ht⟩
      rw [List.getElem?_map] at hd
      obtain ⟨z, hz, rfl⟩ := Option.map_eq_some_iff.mp hd
      cases Dp.str_iff hx
      have hu := entF_app hz ht
      have hi : i < g.inp.length := (List.getElem?_eq_some_iff.mp hz).1
      walk_at "rc"
      refine ⟨z, kn, g.inp.take i, rfl, hk, ok.i z (List.mem_of_getElem? hz), fun fv H2 e2 df => ?_⟩
      walk_at "rc"
      walk_at "rs"
      walk_at "rc"
      have df' : Dp K H2 fv (encN (newName ([] ++ g.inp.take i) z)) := df
      generalize hnn : newName ([] ++ g.inp.take i) z = F at df' hu
      clear df
      rcases encN_non df' with ⟨rfl, rfl⟩ | ⟨⟨x, rfl⟩, a, rfl⟩
      · refine rd_iteN (fun h => absurd rfl h) fun _ => ?_
        have hk2 := e2 _ _ hk
        walk_at "rc"
        refine ⟨.inl ⟨rfl, _, SqL.of hk2⟩, ?_⟩
        walk_at "rc"
        refine ⟨kn, _, _, rfl, rfl, hk2, by rw [List.length_map, List.length_take]; omega, ?_⟩
        refine ⟨⟨_, _, _, rfl⟩, mt1 (xs := []) (e.trans e2), ?_, hu.1 rfl⟩
        rw [upd_same, List.take_succ_eq_append_getElem hi, List.map_append, (List.getElem?_eq_some_iff.mp hz).2]
        rfl
      · refine rd_iteN (fun _ => ?_) fun h => nomatch h
        walk_at "rc"
        exact ret (e.trans e2) df' (by rw [ech, hu.2 x rfl]; rfl)
    rintro σ H2 ⟨⟨n, fl, l, rfl⟩, e2, hk2, ht⟩
    rw [List.length_map, List.take_length, List.drop_length] at ht
    rw [List.length_map, List.take_length] at hk2
    have ht : entF [] g.inp = none := ht
    rw [ht, Option.none_or] at ech
    walk_at "rc"
    walk_at "rs"
    walk_at "rc"
    refine rd_anyT' ?_
    walk_at "rc"
    refine rd_ixDT e2 hv (i := 1) rfl fun v3 h3 => ?_
    refine rd_itDT e2 h3 fun J w => ?_
    refine fo_D w (fun i σ H' => (∃ n fl l, σ = [some (.str L), some bv, some v, some (.ref kn), n, fl, l]) ∧ Ex H H' ∧ H' kn = some (.lst ((g.inp ++ (g.lin.take i).flatMap Ln.gives).map V.str)) ∧ linesF L hp hrr g.inp g.lin = linesF L hp hrr (g.inp ++ (g.lin.take i).flatMap Ln.gives) (g.lin.drop i)) ⟨⟨_, _, _, rfl⟩, e2, by rw [List.take_zero, List.flatMap_nil, List.append_nil]; exact hk2, by rw [List.take_zero, List.flatMap_nil, List.append_nil]; rfl⟩ (fun i σ H' _ h => h.2.1) ?_ ?_
    · rintro i d x σ H3 hd hx ⟨⟨n, fl, l0, rfl⟩, e3, hk3, ht3⟩
      rw [List.getElem?_map] at hd
      obtain ⟨l, hl, rfl⟩ := Option.map_eq_some_iff.mp hd
      have hu := linesF_app hl ht3
      have hi : i < g.lin.length := (List.getElem?_eq_some_iff.mp hl).1
      have okl := ok.l l (List.mem_of_getElem? hl)
      have glen := gives_lens (g.lin.take i)
      rw [List.length_take] at glen
      generalize hkk : g.inp ++ (g.lin.take i).flatMap Ln.gives = known at hu hk3
      have klen : known.length ≤ 200 := by rw [← hkk, List.length_append]; omega
      have fin : ∀ x, lineF L hp hrr known l = some x → chk L hp hrr g = some x := fun x hx => by rw [ech, hu.2 x hx]; rfl
      have ek : g.inp ++ (g.lin.take (i + 1)).flatMap Ln.gives = known ++ l.gives := by
        rw [List.take_succ_eq_append_getElem hi, List.flatMap_append, ← List.append_assoc, hkk, List.flatMap_cons, List.flatMap_nil, List.append_nil, (List.getElem?_eq_some_iff.mp hl).2]
      have hx' : Dp K H x (.tuple (.str l.kind :: l.rest)) := hx
      walk_at "rc"
      refine rd_anyL' ?_
      walk_at "rc"
      refine ⟨x, l, rfl, hx.ex e3, Nat.le_trans okl.m (by decide), fun la H4 e4 hla0 hla => ?_⟩
      have e34 := e3.trans e4
      have hk4 := e4 _ _ hk3
      refine ⟨la, rfl, ⟨_, SqL.of hla⟩, ?_⟩
      refine fo_list (a := la) (xs := l.reads.map V.str) (fun j σ H' => (∃ n, σ = [some (.str L), some bv, some v, some (.ref kn), n, fl, some x]) ∧ H' = H4 ∧ unkF known l.reads = unkF known (l.reads.drop j)) ⟨⟨_, rfl⟩, rfl, rfl⟩ (fun j σ H' _ h => by rw [h.2.1]; exact SqL.of hla) ?_ ?_
      · rintro j y σ H5 hy ⟨⟨n, rfl⟩, rfl, hd5⟩
        rw [List.getElem?_map] at hy
        obtain ⟨z, hz, rfl⟩ := Option.map_eq_some_iff.mp hy
        have hu5 := unkF_drop hz hd5
        walk_at "rc"
        refine rd_niLs (SqL.of hk4) ?_
        walk_at "rc"
        refine rd_iteN (fun h2 => ?_) fun h2 => ?_
        · walk_at "rc"
          refine ⟨by show 2 ≤ sizeLine; omega, fun tp htp => ?_⟩
          exact two (f := .unknown) e34 htp (fin _ (by unfold lineF; rw [hu5.2 h2]; rfl))
        · walk_at "rc"
          exact ⟨⟨_, rfl⟩, rfl, hu5.1 h2⟩
      rintro σ H5 ⟨⟨n, rfl⟩, rfl, hd5⟩
      rw [List.length_map, List.drop_length] at hd5
      have hno1 : unkF known l.reads = none := hd5
      walk_at "rc"
      refine ⟨p, L, deep, states, bv, x, D1, D2, kp, kr, ksp, ksr, l, rfl, B.ex e34, hx.ex e34, okl, fun fv H6 e6 df => ?_⟩
      rw [← ehp, ← ehr] at df
      have e36 := e34.trans e6
      have hk6 := e6 _ _ hk4
      walk_at "rc"
      walk_at "rs"
      walk_at "rc"
      generalize hnn : thingF L hp hrr l = F at df
      rcases encN_non df with ⟨rfl, rfl⟩ | ⟨⟨y, rfl⟩, a, rfl⟩
      · have hno2 : thingF L hp hrr l = none := hnn
        refine rd_iteD (fun _ => ?_) fun h => absurd rfl h
        walk_at "rc"
        refine rd_ixDT e36 hx' (i := 0) rfl fun v0 h0 => ?_
        cases Dp.str_iff h0
        walk_at "rc"
        rcases ln_gives l with ⟨hk, hg⟩ | ⟨hk, m, hg, hr0⟩
        · refine rd_iteN (fun h => absurd hk h) fun _ => ?_
          walk_at "rc"
          refine rd_iteN (fun h => absurd rfl h) fun _ => ?_
          walk_at "rc"
          exact ⟨⟨_, _, _, rfl⟩, e36, by rw [ek, hg, List.append_nil]; exact hk6, hu.1 (by unfold lineF; rw [hno1, hno2, hg]; rfl)⟩
        · refine rd_iteN (fun _ => ?_) fun h => absurd h hk
          walk_at "rc"
          refine rd_ixDT e36 hx' (i := 1) (d := .str m) hr0 fun v1 h1 => ?_
          cases Dp.str_iff h1
          walk_at "rc"
          refine ⟨m, kn, known, rfl, hk6, okl.s m (gives_strs (by rw [hg]; exact List.mem_cons_self)), fun fv2 H7 e7 df2 => ?_⟩
          have e37 := e36.trans e7
          have hk7 := e7 _ _ hk6
          have nl2 : noList (encN (newName known m)) = true := by
            cases newName known m with
            | none => rfl
            | some x => obtain ⟨f, z⟩ := x; rfl
          have kput : Ex (hid [kn] H7) (hid [kn] (upd H7 kn (.lst (known.map V.str ++ [.str m])))) := (Kp.put List.mem_cons_self).ex
          have df8 : Dp K (upd H7 kn (.lst (known.map V.str ++ [.str m]))) fv2 (encN (newName known m)) := ((Dp.hidT (S := [kn]) (fun b hb => .inr (by rw [List.mem_singleton.mp hb]; exact ⟨_, hk7⟩)) _ nl2 df2).ex kput).ex hid_ex
          have g8 : upd H7 kn (.lst (known.map V.str ++ [.str m])) kn = some (.lst ((known ++ [m]).map V.str)) := by rw [upd_same, List.map_append]; rfl
          have e38 : Ex H (upd H7 kn (.lst (known.map V.str ++ [.str m]))) := mt1 (xs := []) e37
          walk_at "rc"
          refine ⟨.inl ⟨rfl, _, SqL.of hk7⟩, ?_⟩
          walk_at "rc"
          refine rd_ixDT e37 hx' (i := 1) (d := .str m) hr0 fun v1 h1 => ?_
          cases Dp.str_iff h1
          walk_at "rc"
          refine ⟨kn, _, _, rfl, rfl, hk7, by rw [List.length_map]; omega, ?_⟩
          generalize upd H7 kn (.lst (known.map V.str ++ [.str m])) = H8 at df8 g8 e38
          walk_at "rc"
          generalize hn3 : newName known m = F3 at df8
          have ent : ∀ x, F3 = some x → lineF L hp hrr known l = some x := fun x hx => by
            unfold lineF
            rw [hno1, hno2, hg]
            show ((newName known m).or none : Flt) = _
            rw [hn3, hx]; rfl
          rcases encN_non df8 with ⟨rfl, rfl⟩ | ⟨⟨y, rfl⟩, a, rfl⟩
          · refine rd_iteN (fun h => absurd rfl h) fun _ => ?_
            walk_at "rc"
            refine ⟨⟨_, _, _, rfl⟩, e38, by rw [ek, hg]; exact g8, hu.1 ?_⟩
            unfold lineF
            rw [hno1, hno2, hg]
            show ((newName known m).or none : Flt) = _
            rw [hn3]; rfl
          · refine rd_iteN (fun _ => ?_) fun h => nomatch h
            walk_at "rc"
            exact ret e38 df8 (fin y (ent y rfl))
      · refine rd_iteD (fun h => nomatch h) fun _ => ?_
        walk_at "rc"
        refine rd_iteN (fun _ => ?_) fun h => nomatch h
        walk_at "rc"
        exact ret e36 df (fin y (by unfold lineF; rw [hno1, hnn]; rfl))
    rintro σ H3 ⟨⟨n, fl, l, rfl⟩, e3, hk3, ht3⟩
    rw [List.length_map, List.take_length, List.drop_length] at ht3
    rw [List.length_map, List.take_length] at hk3
    have ht3 : linesF L hp hrr g.inp g.lin = none := ht3
    rw [ht3, Option.none_or] at ech
    walk_at "rc"
    refine rd_ife ?_
    walk_at "rc"
    refine rd_ixDT e3 hv (i := 2) rfl fun v4 h4 => ?_
    cases Dp.str_iff h4
    walk_at "rc"
    refine rd_inLs (SqL.of hk3) ?_
    rw [inV_str]
    walk_at "rc"
    refine rd_iteD (fun hz => ?_) fun hz => ?_
    · walk_at "rc"
      refine ⟨by show 2 ≤ sizeLine; omega, fun tp htp => ?_⟩
      refine q _ _ (e3.trans (Evl.Ex.new htp)) ?_
      rw [ech, show unkF (g.inp ++ g.lin.flatMap Ln.gives) [g.res] = none from if_pos hz]
      exact .tup (Evl.st_of upd_same) (.cons (.str _) (.cons .non .nil))
    · walk_at "rc"
      refine rd_ixDT e3 hv (i := 2) rfl fun v5 h5 => ?_
      cases Dp.str_iff h5
      walk_at "rc"
      refine ⟨by show 2 ≤ sizeLine; omega, fun tp htp => ?_⟩
      exact two (f := .unknown) e3 htp (ech.trans (if_neg hz))
end
section
variable (T : Txt K mg)
abbrev OD : List Str := ["", "ninechars", "give", "Ab", "x1", "nobody"]
theorem od_good : ∀ z ∈ OD, GoodS z := by unfold GoodS okS; decide +kernel
def spOdd : Sp := fun vs H Q _ => ∃ (p a : Addr) (ns : List Str), vs = [.ref p, .ref a] ∧ StAt H p ∧ H a = some (.lst (ns.map V.str)) ∧ ns.length ≤ 900 ∧ (∀ z ∈ ns, GoodS z) ∧ ∀ z H', GoodS z → Dr p H H' → Q (.str z) H'
theorem ok_odd : FnOk P w K mg base CX0 3 T.a_odd T.d_odd ["state", "names"] spOdd := by
  refine T.f_odd.ok sc_odd (fun vs H Q E h => ?_) (fun cdv A outer s H vs Q E hr h => ?_)
  · obtain ⟨_, _, _, rfl, _⟩ := h; rfl
  · obtain ⟨p, a, ns, rfl, hS, ha, hl, hg, q⟩ := h
    have sz : 100000 ≤ sizeLine := by decide
    refine ⟨_, (pss_one (ps_ret (pe_callE (ok_pick T) (hr.mono (by decide)) T.o_pick (pa_cons (pv 0) (pa_cons (pe_op (kAdd K) (pv 1) (pe_lst (pa_cons pe_str (pa_cons pe_str (pa_cons pe_str (pa_cons pe_str (pa_cons pe_str (pa_cons pe_str pa_nil)))))))) pa_nil))))), ?_⟩
    walk_at "rc"
    refine ⟨by show 6 ≤ sizeLine; omega, fun l hl6 => ?_⟩
    have e1 := Evl.Ex.new (o := .lst [.str (Str.ofString ""), .str (Str.ofString "ninechars"), .str (Str.ofString "give"), .str (Str.ofString "Ab"), .str (Str.ofString "x1"), .str (Str.ofString "nobody")]) hl6
    have g1 : upd H l (.lst [.str (Str.ofString ""), .str (Str.ofString "ninechars"), .str (Str.ofString "give"), .str (Str.ofString "Ab"), .str (Str.ofString "x1"), .str (Str.ofString "nobody")]) l = some (.lst (OD.map V.str)) := upd_same
    have a1 := e1 _ _ ha
    have d1 : Dr p H (upd H l (.lst [.str (Str.ofString ""), .str (Str.ofString "ninechars"), .str (Str.ofString "give"), .str (Str.ofString "Ab"), .str (Str.ofString "x1"), .str (Str.ofString "nobody")])) := (Dr.refl hS).ex e1
    generalize upd H l (.lst [.str (Str.ofString ""), .str (Str.ofString "ninechars"), .str (Str.ofString "give"), .str (Str.ofString "Ab"), .str (Str.ofString "x1"), .str (Str.ofString "nobody")]) = H1 at e1 g1 a1 d1
    refine rd_cat a1 g1 (by rw [List.length_map, List.length_map]; show ns.length + 6 ≤ sizeLine; omega) fun l2 hl2 => ?_
    have e2 := Evl.Ex.new (o := .lst (ns.map V.str ++ OD.map V.str)) hl2
    have g2 : upd H1 l2 (.lst (ns.map V.str ++ OD.map V.str)) l2 = some (.lst ((ns ++ OD).map V.str)) := by rw [upd_same, List.map_append]
    have d2 := d1.ex e2
    walk_at "rc"
    have ll : (ns ++ OD).length = ns.length + 6 := by rw [List.length_append]; rfl
    refine ⟨p, l2, (ns ++ OD).map V.str, rfl, d2.st, g2, st_neL d2.st g2, by rw [List.length_map]; omega, by rw [List.length_map]; omega, fun v H3 hv d3 => ?_⟩
    obtain ⟨z, hz, rfl⟩ := mem_strV hv
    refine q z H3 ?_ (d2.trans d3)
    rcases List.mem_append.mp hz with h | h
    · exact hg z h
    · exact od_good z h
end
section
structure Prg.Sz (n : Nat) (g : Prg) : Prop where
  i : ∀ z ∈ g.inp, GoodS z
  il : g.inp.length ≤ 3 + 4 * n
  l : ∀ l ∈ g.lin, (∀ z ∈ l.strs, GoodS z) ∧ l.many ≤ 30 + n
  ll : g.lin.length ≤ 6 + 13 * n
  r : GoodS g.res
theorem Prg.Sz.ok {n : Nat} {g : Prg} (h : g.Sz n) (hn : n ≤ 6) : g.Ok := by
  have a := h.il
  have b := h.ll
  exact ⟨h.i, by omega, fun l hl => ⟨(h.l l hl).1, Nat.le_trans (h.l l hl).2 (by omega)⟩, by omega, h.r⟩
theorem okS_AZ : okS AZ := by unfold okS; decide +kernel
theorem okS_lit (a : String) (h : PyData.strOk (Str.ofString a) = true := by decide +kernel) : okS (Str.ofString a) := h
theorem name_good {z : Str} (h : nameB z = true) : GoodS z := by
  unfold nameB at h
  simp only [Bool.and_eq_true, decide_eq_true_eq, List.all_eq_true] at h
  exact ⟨by have := h.1.1.2; omega, okS_sub okS_AZ fun c hc => h.2 c hc⟩
abbrev SG : Str := "abcdefghijklm"
def Ln.fst : Ln → Str | .jo n _ => n | .tu n _ => n | .rw n _ _ => n | .ch n _ _ _ _ => n | .ne s _ => s
theorem ln_fst (l : Ln) : l.rest[0]? = some (.str l.fst) := by cases l <;> rfl
theorem fst_strs (l : Ln) : l.fst ∈ l.strs := by cases l <;> exact List.mem_cons_self
def sndL : PyData → PyData
  | .tuple (_ :: x :: _) => x
  | _ => .none
theorem sndL_ln (l : Ln) : sndL (encLn l) = .str l.fst := by cases l <;> rfl
theorem ly_pa {p : Pa} (h : GoodS p.str) : Ly (encPa p) 1 := Ly.tuple fun d hd => by
  rcases List.mem_cons.mp hd with e | hd
  · rw [e]; exact Ly.str (by cases p with | txt z => exact okS_lit "text" | nam z => exact okS_lit "name")
  · rw [List.mem_singleton.mp hd]; exact Ly.str h.2
theorem ly_ln {l : Ln} (h : ∀ z ∈ l.strs, GoodS z) : Ly (encLn l) 3 := by
  have hk : okS l.kind := by
    cases l with
    | jo n ps => exact okS_lit "join"
    | tu n s => exact okS_lit "turn"
    | rw n r s => exact okS_lit "rewrite"
    | ch n s p y d => exact okS_lit "choose"
    | ne s p => exact okS_lit "need"
  refine Ly.tuple fun d hd => ?_
  rcases List.mem_cons.mp hd with e | hd
  · rw [e]; exact (Ly.str hk).mono (by decide)
  cases l with
  | jo n ps =>
    rcases List.mem_cons.mp hd with e | hd
    · rw [e]; exact (Ly.str (h n List.mem_cons_self).2).mono (by decide)
    · rw [List.mem_singleton.mp hd]
      refine Ly.tuple fun d hd => ?_
      obtain ⟨p, hp, rfl⟩ := List.mem_map.mp hd
      exact ly_pa (h _ (List.mem_cons_of_mem _ (List.mem_map_of_mem hp)))
  | tu n s => simp only [Ln.rest, List.mem_cons, List.not_mem_nil, or_false] at hd; rcases hd with e | e <;> (rw [e]; exact (Ly.str (h _ (by simp [Ln.strs])).2).mono (by decide))
  | rw n r s => simp only [Ln.rest, List.mem_cons, List.not_mem_nil, or_false] at hd; rcases hd with e | e | e <;> (rw [e]; exact (Ly.str (h _ (by simp [Ln.strs])).2).mono (by decide))
  | ch n s p y d' => simp only [Ln.rest, List.mem_cons, List.not_mem_nil, or_false] at hd; rcases hd with e | e | e | e | e <;> (rw [e]; exact (Ly.str (h _ (by simp [Ln.strs])).2).mono (by decide))
  | ne s p => simp only [Ln.rest, List.mem_cons, List.not_mem_nil, or_false] at hd; rcases hd with e | e <;> (rw [e]; exact (Ly.str (h _ (by simp [Ln.strs])).2).mono (by decide))
theorem rd_neNilD {A B : Addr} {H H0 : Hp} {us : List V} {ds : List PyData} {Q : VK} (h1 : H A = some (.lst us)) (e : Ex H0 H) (hd : DpAll K H0 us ds) (h2 : H B = some (.lst [])) (ly : Lay (.list ds)) (q : Q (.bl (!ds.isEmpty)) H) : oNe K (.ref A) (.ref B) H Q := by
  have l2 : Lay (.list []) := Ly.lay (Ly.list (n := 0) fun d hd => nomatch hd) (by decide)
  refine .inr ⟨.list ds, .list [], .lst (SqL.of h1) (hd.ex e), .lst (SqL.of h2) .nil, ly.sh, l2.sh, ?_⟩
  have e : PyData.eqv (.list ds) (.list []) = ds.isEmpty := by
    cases ds with
    | nil => simp only [PyData.eqv, PyData.eqvAll, List.isEmpty_nil]
    | cons a l => simp only [PyData.eqv, PyData.eqvAll, List.isEmpty_cons]
  rw [e]
  exact q
theorem rd_setV {xs : List V} {p : Addr} {i : Nat} {v : V} {H : Hp} {Q : Hp → Prop} (h : H p = some (.lst xs)) (hi : i < xs.length) (q : Q (upd H p (.lst (xs.set i v)))) : rSetL (.ref p) (.int (i : Int)) v H Q :=
  ⟨p, _, (i : Int), i, rfl, rfl, h, by unfold ixN; rw [if_pos (by omega), if_pos (by omega)]; rfl, q⟩
theorem dp_putL {S : List Addr} {H : Hp} {a : Addr} {xs ys : List V} {v : V} {d : PyData} (n : noList d = true) (ha : H a = some (.lst xs)) (h : Dp K (hid S H) v d) : Dp K (hid S (upd H a (.lst ys))) v d := by
  by_cases z : a ∈ S
  · exact h.ex (Kp.put z).ex
  · have h1 := Dp.hidT (S := [a]) (H := hid S H) (fun b hb => .inr ⟨xs, by rw [List.mem_singleton.mp hb, hid_at z]; exact ha⟩) d n h
    refine h1.ex fun b o q => ?_
    obtain ⟨q1, q2⟩ := hid_some q
    obtain ⟨q3, q4⟩ := hid_some q2
    rw [hid_at q3, upd_ne fun e => q1 (by rw [e]; exact List.mem_cons_self)]
    exact q4
theorem _root_.L2.DpAll.imp {H H' : Hp} : ∀ {vs : List V} {ds : List PyData}, (∀ d ∈ ds, ∀ v, Dp K H v d → Dp K H' v d) → DpAll K H vs ds → DpAll K H' vs ds
  | _, _, _, .nil => .nil
  | _, _, f, .cons h t => .cons (f _ List.mem_cons_self _ h) (t.imp fun d hd => f d (List.mem_cons_of_mem _ hd))
theorem noList_mem : ∀ {ds : List PyData}, noListAll ds = true → ∀ d ∈ ds, noList d = true
  | [], _, _, h => nomatch h
  | x :: ds, hn, d, h => by
    have hn : (noList x && noListAll ds) = true := hn
    rw [Bool.and_eq_true] at hn
    rcases List.mem_cons.mp h with e | h
    · rw [e]; exact hn.1
    · exact noList_mem hn.2 d h
theorem noList_row (l : Ln) : ∀ d ∈ (.str l.kind :: l.rest : List PyData), noList d = true := noList_mem (noList_ln l)
theorem dpAll_putG {S : List Addr} {H : Hp} {a : Addr} {xs ys : List V} {us : List V} {ds : List PyData} (hn : ∀ d ∈ ds, noList d = true) (ha : H a = some (.lst xs)) (h : DpAll K (hid S H) us ds) : DpAll K (hid S (upd H a (.lst ys))) us ds :=
  h.imp fun d hd v hv => dp_putL (hn d hd) ha hv
theorem toH {p : Addr} {H : Hp} {v : V} {d : PyData} (hS : StAt H p) (n : noList d = true) (h : Dp K H v d) : Dp K (hid [p] H) v d := Dp.hidT (fun b hb => by
  obtain ⟨l, ns, pl, h1, _⟩ := hS
  rw [List.mem_singleton.mp hb]
  exact .inr ⟨_, h1⟩) d n h
theorem cutD30 (ds : List PyData) : cutD ds none (some 30) = ds.take 30 := by
  unfold cutD
  rw [HT.sIx_none, List.drop_zero, Nat.sub_zero]
  show ds.take (HT.sIx ds.length ds.length (some ((30 : Nat) : Int))) = _
  rw [HT.sIx_nat]
  rcases Nat.le_total 30 ds.length with h | h
  · rw [Nat.min_eq_left h]
  · rw [Nat.min_eq_right h, List.take_length, List.take_of_length_le h]
theorem noList_pas (ps : List Pa) : noList (.tuple (ps.map encPa)) = true := noList_all fun d hd => by
  obtain ⟨_, _, rfl⟩ := List.mem_map.mp hd
  rfl
theorem dpAll_putL {S : List Addr} {H : Hp} {a : Addr} {xs ys : List V} {us : List V} {ls : List Ln} (ha : H a = some (.lst xs)) (h : DpAll K (hid S H) us (ls.map encLn)) : DpAll K (hid S (upd H a (.lst ys))) us (ls.map encLn) :=
  h.imp fun d hd v hv => by
    obtain ⟨l, _, rfl⟩ := List.mem_map.mp hd
    exact dp_putL (noList_ln l) ha hv
theorem cutV4 (xs : List V) : cutV xs none (some 4) = xs.take 4 := by
  unfold cutV
  rw [HT.sIx_none, List.drop_zero, Nat.sub_zero]
  show xs.take (HT.sIx xs.length xs.length (some ((4 : Nat) : Int))) = _
  rw [HT.sIx_nat]
  rcases Nat.le_total 4 xs.length with h | h
  · rw [Nat.min_eq_left h]
  · rw [Nat.min_eq_right h, List.take_length, List.take_of_length_le h]
theorem rd_catA {x y : V} {ds1 ds2 : List PyData} {H : Hp} {Q : VK} (hx : Dp K H x (.tuple ds1)) (hy : Dp K H y (.tuple ds2)) (hl : ds1.length + ds2.length ≤ sizeLine) (q : ∀ v H', Ex H H' → Dp K H' v (.tuple (ds1 ++ ds2)) → Q v H') : rCatA K x y H Q := by
  obtain ⟨a, vs, rfl, h1, h2⟩ := Dp.tupv hx
  obtain ⟨b, ws, rfl, h3, h4⟩ := Dp.tupv hy
  refine ⟨a, b, vs, ws, rfl, rfl, h1, h3, by rw [h2.len, h4.len]; exact hl, fun e => ?_, fun _ e => ?_, fun _ _ p hp => ?_⟩
  · subst e
    cases h2
    exact q _ H (Evl.Ex.refl H) hy
  · subst e
    cases h4
    rw [List.append_nil] at q
    exact q _ H (Evl.Ex.refl H) hx
  · exact q _ _ (Evl.Ex.new hp) (.tup (Evl.st_of upd_same) ((h2.app h4).ex (Evl.Ex.new hp)))
theorem dpAll_rep {H : Hp} {vs : List V} {ds : List PyData} (h : DpAll K H vs ds) : ∀ k : Nat, DpAll K H (List.replicate k vs).flatten (List.replicate k ds).flatten
  | 0 => .nil
  | k + 1 => by
    rw [List.replicate_succ, List.replicate_succ, List.flatten_cons, List.flatten_cons]
    exact h.app (dpAll_rep h k)
theorem rd_mulA {x : V} {ds : List PyData} {k : Nat} {H : Hp} {Q : VK} (hx : Dp K H x (.tuple ds)) (k2 : 2 ≤ k) (k3 : k ≤ 1000) (hl : ds.length ≤ 1000) (q : ∀ v H', Ex H H' → Dp K H' v (.tuple (List.replicate k ds).flatten) → Q v H') : oMulA K x (.int (k : Int)) H Q := by
  obtain ⟨a, vs, rfl, h1, h2⟩ := Dp.tupv hx
  by_cases e : vs = []
  · subst e
    cases h2
    have e2 : (List.replicate k ([] : List PyData)).flatten = [] := by simp
    rw [e2] at q
    exact .inr ⟨a, (k : Int), rfl, rfl, by omega, by omega, h1, q _ H (Evl.Ex.refl H) hx⟩
  · refine .inl ⟨a, (k : Int), vs, rfl, rfl, h1, e, by omega, by omega, by rw [h2.len]; exact hl, fun p hp => ?_⟩
    rw [Int.toNat_natCast]
    exact q _ _ (Evl.Ex.new hp) (.tup (Evl.st_of upd_same) ((dpAll_rep h2 k).ex (Evl.Ex.new hp)))
theorem ln_set {l : Ln} {j : Nat} {z : Str} (hj : j < l.rest.length) (hn : ¬ (l.kind = Str.ofString "join" ∧ j = 1)) : ∃ l' : Ln, l'.kind = l.kind ∧ l'.rest = l.rest.set j (.str z) ∧ (∀ y ∈ l'.strs, y ∈ l.strs ∨ y = z) ∧ l'.many = l.many := by
  cases l with
  | jo n ps =>
    have hj : j < 2 := hj
    have h0 : j = 0 := by
      have : j ≠ 1 := fun e => hn ⟨rfl, e⟩
      omega
    subst h0
    exact ⟨.jo z ps, rfl, rfl, fun y hy => by rcases List.mem_cons.mp hy with h | h; exact .inr h; exact .inl (List.mem_cons_of_mem _ h), rfl⟩
  | tu n s =>
    have hj : j < 2 := hj
    have h : j = 0 ∨ j = 1 := by omega
    rcases h with rfl | rfl
    · exact ⟨.tu z s, rfl, rfl, fun y hy => by simp only [Ln.strs, List.mem_cons, List.not_mem_nil, or_false] at hy ⊢; rcases hy with h | h <;> simp [h], rfl⟩
    · exact ⟨.tu n z, rfl, rfl, fun y hy => by simp only [Ln.strs, List.mem_cons, List.not_mem_nil, or_false] at hy ⊢; rcases hy with h | h <;> simp [h], rfl⟩
  | rw n r s =>
    have hj : j < 3 := hj
    have h : j = 0 ∨ j = 1 ∨ j = 2 := by omega
    rcases h with rfl | rfl | rfl
    · exact ⟨.rw z r s, rfl, rfl, fun y hy => by simp only [Ln.strs, List.mem_cons, List.not_mem_nil, or_false] at hy ⊢; rcases hy with h | h | h <;> simp [h], rfl⟩
    · exact ⟨.rw n z s, rfl, rfl, fun y hy => by simp only [Ln.strs, List.mem_cons, List.not_mem_nil, or_false] at hy ⊢; rcases hy with h | h | h <;> simp [h], rfl⟩
    · exact ⟨.rw n r z, rfl, rfl, fun y hy => by simp only [Ln.strs, List.mem_cons, List.not_mem_nil, or_false] at hy ⊢; rcases hy with h | h | h <;> simp [h], rfl⟩
  | ch n s p c d =>
    have hj : j < 5 := hj
    have h : j = 0 ∨ j = 1 ∨ j = 2 ∨ j = 3 ∨ j = 4 := by omega
    rcases h with rfl | rfl | rfl | rfl | rfl
    · exact ⟨.ch z s p c d, rfl, rfl, fun y hy => by simp only [Ln.strs, List.mem_cons, List.not_mem_nil, or_false] at hy ⊢; rcases hy with h | h | h | h | h <;> simp [h], rfl⟩
    · exact ⟨.ch n z p c d, rfl, rfl, fun y hy => by simp only [Ln.strs, List.mem_cons, List.not_mem_nil, or_false] at hy ⊢; rcases hy with h | h | h | h | h <;> simp [h], rfl⟩
    · exact ⟨.ch n s z c d, rfl, rfl, fun y hy => by simp only [Ln.strs, List.mem_cons, List.not_mem_nil, or_false] at hy ⊢; rcases hy with h | h | h | h | h <;> simp [h], rfl⟩
    · exact ⟨.ch n s p z d, rfl, rfl, fun y hy => by simp only [Ln.strs, List.mem_cons, List.not_mem_nil, or_false] at hy ⊢; rcases hy with h | h | h | h | h <;> simp [h], rfl⟩
    · exact ⟨.ch n s p c z, rfl, rfl, fun y hy => by simp only [Ln.strs, List.mem_cons, List.not_mem_nil, or_false] at hy ⊢; rcases hy with h | h | h | h | h <;> simp [h], rfl⟩
  | ne s p =>
    have hj : j < 2 := hj
    have h : j = 0 ∨ j = 1 := by omega
    rcases h with rfl | rfl
    · exact ⟨.ne z p, rfl, rfl, fun y hy => by simp only [Ln.strs, List.mem_cons, List.not_mem_nil, or_false] at hy ⊢; rcases hy with h | h <;> simp [h], rfl⟩
    · exact ⟨.ne s z, rfl, rfl, fun y hy => by simp only [Ln.strs, List.mem_cons, List.not_mem_nil, or_false] at hy ⊢; rcases hy with h | h <;> simp [h], rfl⟩
theorem rest_len (l : Ln) : 2 ≤ l.rest.length ∧ l.rest.length ≤ 5 := by cases l <;> exact ⟨Nat.le_of_ble_eq_true rfl, Nat.le_of_ble_eq_true rfl⟩
/-- one of four letters is not in an alphabet of three -/
theorem strange_ex {L : Str} (h : L.length ≤ 3) : ∃ c cs, (Str.ofString "abcd").cps.toList.filter (fun c => !decide (c ∈ L.cps.toList)) = c :: cs := by
  cases hh : (Str.ofString "abcd").cps.toList.filter (fun c => !decide (c ∈ L.cps.toList)) with
  | cons c cs => exact ⟨c, cs, rfl⟩
  | nil =>
    exfalso
    rw [List.filter_eq_nil_iff] at hh
    have := nodup_leG (Str.ofString "abcd").cps.toList L.cps.toList (by decide +kernel) fun c hc => by have := hh c hc; simpa using this
    have h4 : (Str.ofString "abcd").cps.toList.length = 4 := by decide +kernel
    have h3 : L.cps.toList.length ≤ 3 := h
    omega
variable (T : Txt K mg)
def spSpoilt : Sp := fun vs H Q _ => ∃ (p : Addr) (L : Str) (deep states : Nat) (bv v : V) (D1 D2 : Addr) (kp kr : List (L2.Key × V)) (ksp ksr : List Str) (g : Prg) (n : Nat), vs = [.str L, .ref p, bv, v] ∧ LBk K H p L deep states bv D1 D2 kp kr ksp ksr ∧ Alpha L 3 ∧ StAt H p ∧
  Dp K (hid [p] H) v (encG g) ∧ g.Sz n ∧ n ≤ 5 ∧ 0 < g.inp.length ∧ ∀ v' g' H', Dp K (hid [p] H') v' (encG g') → g'.Sz (n + 1) → Dr p H H' → Q v' H'
theorem ok_spoilt : FnOk P w K mg base CX0 4 T.a_spoilt T.d_spoilt ["letters", "state", "book", "program"] (spSpoilt (K := K)) := by
  refine T.f_spoilt.ok sc_spoilt (fun vs H Q E h => ?_) (fun cdv A outer s H vs Q E hr h => ?_)
  · obtain ⟨_, _, _, _, _, _, _, _, _, _, _, _, _, _, rfl, _⟩ := h; rfl
  · obtain ⟨p, L, deep, states, bv, v, D1, D2, kp, kr, ksp, ksr, g, n, rfl, B, al, hS, hv, sg, n5, i0, q⟩ := h
    have sz : 100000 ≤ sizeLine := by decide
    have sil := sg.il
    have sll := sg.ll
    have l0 := al.l0
    have l1 := al.l1
    obtain ⟨bt, rfl, hbt⟩ := B.b
    have nbt : bt ≠ p := fun z => by
      obtain ⟨l, ns, pl, h1, _⟩ := hS
      rw [z, h1] at hbt; cases hbt
    have hv : Dp K (hid [p] H) v (.tuple [.tuple (g.inp.map PyData.str), .tuple (g.lin.map encLn), .str g.res]) := hv
    refine ⟨_, (pss_cons (ps_asg (pe_tup (pa_cons (pe_callTy (kLstOf K) (by rfl) T.nb_list (by decide +kernel) (pa_cons (pe_ix (kIx K) (pv 3) pe_int (fun _ _ => rfl)) pa_nil)) (pa_cons (pe_callTy (kLstOf K) (by rfl) T.nb_list (by decide +kernel) (pa_cons (pe_ix (kIx K) (pv 3) pe_int (fun _ _ => rfl)) pa_nil)) (pa_cons (pe_ix (kIx K) (pv 3) pe_int (fun _ _ => rfl)) pa_nil)))) (kGt K rfl (pg_tup (n := 3) (by rfl) (pgs_cons (pg_name (i := 4) sc_spoilt.nd rfl (by first | exact Or.inl rfl | exact Or.inr rfl)) (pgs_cons (pg_name (i := 5) sc_spoilt.nd rfl (by first | exact Or.inl rfl | exact Or.inr rfl)) (pgs_cons (pg_name (i := 6) sc_spoilt.nd rfl (by first | exact Or.inl rfl | exact Or.inr rfl)) pgs_nil))))))
  (pss_cons (ps_set (i := 7) sc_spoilt.nd rfl (by first | exact Or.inl rfl | exact Or.inr rfl) (pe_op (kAdd K) (pe_op (kAdd K) (pe_op (kAdd K) (pv 4) (pe_lc (own := [("line", 8)]) (g := gName 8) (tt := tYes) (by rfl) sc_spoilt.nd (kAny K rfl (pv 5)) (blkOk_by (own := [("line", 8)]) (N := ["letters", "state", "book", "program", "inputs", "lines", "result", "names", "line", "kind", "at", "k", "place", "strange", "letter", "more"]) (sc := defScope s_spoilt) (by decide +kernel)) (fun _ _ _ _ _ => (pg_name (i := 8) sc_spoilt.nd rfl (by first | exact Or.inl rfl | exact Or.inr rfl))) (fun _ _ _ _ _ => pts_nil) (fun _ _ _ _ _ => (pe_ix (kIx K) (pv 8) pe_int (fun _ _ => rfl))))) (pe_callB (kSortS K) (by rfl) T.nb_sorted (by decide +kernel) (pa_cons (pe_callTy (call_list_dK (by rfl)) (by rfl) T.nb_list (by decide +kernel) (pa_cons (pe_ix (kIx K) (pv 2) pe_int (fun _ _ => rfl)) pa_nil)) pa_nil))) (pe_callB (kSortS K) (by rfl) T.nb_sorted (by decide +kernel) (pa_cons (pe_callTy (call_list_dK (by rfl)) (by rfl) T.nb_list (by decide +kernel) (pa_cons (pe_ix (kIx K) (pv 2) pe_int (fun _ _ => rfl)) pa_nil)) pa_nil))))
  (pss_cons (ps_set (i := 9) sc_spoilt.nd rfl (by first | exact Or.inl rfl | exact Or.inr rfl) (pe_callE (ok_next T) (hr.mono (by decide)) T.o_next (pa_cons (pv 1) (pa_cons pe_int pa_nil))))
  (pss_cons (ps_set (i := 10) sc_spoilt.nd rfl (by first | exact Or.inl rfl | exact Or.inr rfl) (pe_ifExp (pt_cmpR (kNe K rfl hr.units) (pv 5) (pe_lst pa_nil) (by first | rfl | exact nomark _)) (pe_callE (ok_next T) (hr.mono (by decide)) T.o_next (pa_cons (pv 1) (pa_cons (pe_callB (kLen K) (by rfl) T.nb_len (by decide +kernel) (pa_cons (pv 5) pa_nil)) pa_nil))) pe_int))
  (pss_cons (ps_if (pt_cmpR (kEq K rfl hr.units) (pv 9) pe_int (by first | rfl | exact nomark _))
    (pss_one (ps_set (i := 4) sc_spoilt.nd rfl (by first | exact Or.inl rfl | exact Or.inr rfl) (pe_ix (kIx K) (pe_lst (pa_cons (pe_lst pa_nil) (pa_cons (pe_slice (kSl K) (pe_op (kAdd K) (pv 4) (pe_lst (pa_cons pe_str (pa_cons pe_str (pa_cons pe_str pa_nil))))) po_none (po_some pe_int)) (pa_cons (pe_op (kAdd K) (pv 4) (pe_lst (pa_cons pe_str (pa_cons pe_str (pa_cons pe_str (pa_cons pe_str pa_nil)))))) pa_nil)))) (pe_callE (ok_next T) (hr.mono (by decide)) T.o_next (pa_cons (pv 1) (pa_cons pe_int pa_nil))) (fun _ _ => rfl))))
    (pss_one (ps_if (pt_cmpR (kEq K rfl hr.units) (pv 9) pe_int (by first | rfl | exact nomark _))
    (pss_one (ps_asg (pe_callE (ok_odd T) (hr.mono (by decide)) T.o_odd (pa_cons (pv 1) (pa_cons (pv 7) pa_nil))) (pg_sub (pv 4) (pe_callE (ok_next T) (hr.mono (by decide)) T.o_next (pa_cons (pv 1) (pa_cons (pe_callB (kLen K) (by rfl) T.nb_len (by decide +kernel) (pa_cons (pv 4) pa_nil)) pa_nil))) set_list)))
    (pss_one (ps_if (pt_cmpR (kEq K rfl hr.units) (pv 9) pe_int (by first | rfl | exact nomark _))
    (pss_one (ps_set (i := 6) sc_spoilt.nd rfl (by first | exact Or.inl rfl | exact Or.inr rfl) (pe_callE (ok_odd T) (hr.mono (by decide)) T.o_odd (pa_cons (pv 1) (pa_cons (pv 7) pa_nil)))))
    (pss_one (ps_if (pt_cmpR (kEq K rfl hr.units) (pv 9) pe_int (by first | rfl | exact nomark _))
    (pss_one (ps_set (i := 5) sc_spoilt.nd rfl (by first | exact Or.inl rfl | exact Or.inr rfl) (pe_op (kAdd K) (pv 5) (pe_lc (own := [("k", 11)]) (g := gName 11) (tt := tYes) (by rfl) sc_spoilt.nd (pi_range1 (by rfl) T.nb_range (pa_cons (pe_op (kAdd K) pe_int (pe_callE (ok_next T) (hr.mono (by decide)) T.o_next (pa_cons (pv 1) (pa_cons pe_int pa_nil)))) pa_nil)) (blkOk_by (own := [("k", 11)]) (N := ["letters", "state", "book", "program", "inputs", "lines", "result", "names", "line", "kind", "at", "k", "place", "strange", "letter", "more"]) (sc := defScope s_spoilt) (by decide +kernel)) (fun _ _ _ _ _ => (pg_name (i := 11) sc_spoilt.nd rfl (by first | exact Or.inl rfl | exact Or.inr rfl))) (fun _ _ _ _ _ => pts_nil) (fun _ _ _ _ _ => (pe_tup (pa_cons pe_str (pa_cons (pe_op (kAdd K) pe_str (pe_ix (kIx K) pe_str (pv 11) (fun _ _ => rfl))) (pa_cons (pe_ix (kIx K) (pv 4) pe_int (fun _ _ => rfl)) pa_nil)))))))))
    (pss_one (ps_if (pt_cmpR (kNe K rfl hr.units) (pv 5) (pe_lst pa_nil) (by first | rfl | exact nomark _))
    (pss_cons (ps_set (i := 8) sc_spoilt.nd rfl (by first | exact Or.inl rfl | exact Or.inr rfl) (pe_callTy (kLstOf K) (by rfl) T.nb_list (by decide +kernel) (pa_cons (pe_ix (kIx K) (pv 5) (pv 10) (fun _ _ => rfl)) pa_nil)))
  (pss_cons (ps_set (i := 12) sc_spoilt.nd rfl (by first | exact Or.inl rfl | exact Or.inr rfl) (pe_op (kAdd K) pe_int (pe_callE (ok_next T) (hr.mono (by decide)) T.o_next (pa_cons (pv 1) (pa_cons (pe_op op_subP (pe_callB (kLen K) (by rfl) T.nb_len (by decide +kernel) (pa_cons (pv 8) pa_nil)) pe_int) pa_nil)))))
  (pss_cons (ps_if (PW.pt (pw_and (pt_cmpR (kEq K rfl hr.units) (pe_ix (kIx K) (pv 8) pe_int (fun _ _ => rfl)) pe_str (by first | rfl | exact nomark _)) (pw_and1 (pt_cmpR (kEq K rfl hr.units) (pv 12) pe_int (by first | rfl | exact nomark _)))))
    (pss_cons (ps_set (i := 13) sc_spoilt.nd rfl (by first | exact Or.inl rfl | exact Or.inr rfl) (pe_ix (kIx K) (pe_lc (own := [("letter", 14)]) (g := gName 14)  (by rfl) sc_spoilt.nd (kAny K rfl pe_str) (blkOk_by (own := [("letter", 14)]) (N := ["letters", "state", "book", "program", "inputs", "lines", "result", "names", "line", "kind", "at", "k", "place", "strange", "letter", "more"]) (sc := defScope s_spoilt) (by decide +kernel)) (fun _ _ _ _ _ => (pg_name (i := 14) sc_spoilt.nd rfl (by first | exact Or.inl rfl | exact Or.inr rfl))) (fun _ _ _ _ _ => (pts_one (pt_cmpR (kNotIn K) (pv 14) (pv 0) (by first | rfl | exact nomark _)))) (fun _ _ _ _ _ => (pv 14))) pe_int (fun _ _ => rfl)))
  (pss_cons (ps_set (i := 15) sc_spoilt.nd rfl (by first | exact Or.inl rfl | exact Or.inr rfl) (pe_lst (pa_cons (pe_tup (pa_cons pe_str (pa_cons pe_str pa_nil))) (pa_cons (pe_tup (pa_cons pe_str (pa_cons (pe_callE (ok_odd T) (hr.mono (by decide)) T.o_odd (pa_cons (pv 1) (pa_cons (pv 7) pa_nil))) pa_nil))) (pa_cons (pe_tup (pa_cons pe_str (pa_cons (pe_ix (kIx K) (pv 0) pe_int (fun _ _ => rfl)) pa_nil))) (pa_cons (pe_tup (pa_cons pe_str (pa_cons (pv 13) pa_nil))) pa_nil))))))
  (pss_cons (ps_set (i := 15) sc_spoilt.nd rfl (by first | exact Or.inl rfl | exact Or.inr rfl) (pe_ix (kIx K) (pv 15) (pe_callE (ok_next T) (hr.mono (by decide)) T.o_next (pa_cons (pv 1) (pa_cons pe_int pa_nil))) (fun _ _ => rfl)))
  (pss_one (ps_asg (pe_ix (kIx K) (pe_lst (pa_cons (pe_tup pa_nil) (pa_cons (pe_op (kCatA K) (pe_ix (kIx K) (pv 8) pe_int (fun _ _ => rfl)) (pe_tup (pa_cons (pv 15) pa_nil))) (pa_cons (pe_slice (kSl K) (pe_op (kMulA K) (pe_ix (kIx K) (pv 8) pe_int (fun _ _ => rfl)) pe_int) po_none (po_some pe_int)) (pa_cons (pe_op (kCatA K) (pe_tup (pa_cons (pv 15) pa_nil)) (pe_ix (kIx K) (pv 8) pe_int (fun _ _ => rfl))) pa_nil))))) (pe_callE (ok_next T) (hr.mono (by decide)) T.o_next (pa_cons (pv 1) (pa_cons pe_int pa_nil))) (fun _ _ => rfl)) (pg_sub (pv 8) pe_int set_list))))))
    (pss_one (ps_asg (pe_callE (ok_odd T) (hr.mono (by decide)) T.o_odd (pa_cons (pv 1) (pa_cons (pv 7) pa_nil))) (pg_sub (pv 8) (pv 12) set_list))))
  (pss_one (ps_asg (pe_callTy (kTupOf K) (by rfl) T.nb_tuple (by decide +kernel) (pa_cons (pv 8) pa_nil)) (pg_sub (pv 5) (pv 10) set_list))))))
    pss_nil)))))))))
  (pss_one (ps_ret (pe_tup (pa_cons (pe_callTy (kTupOf K) (by rfl) T.nb_tuple (by decide +kernel) (pa_cons (pv 4) pa_nil)) (pa_cons (pe_callTy (kTupOf K) (by rfl) T.nb_tuple (by decide +kernel) (pa_cons (pv 5) pa_nil)) (pa_cons (pv 6) pa_nil))))))))))), ?_⟩
    walk_at "rc"
    refine rd_ixDT hid_ex hv (i := 0) rfl fun v0 h0 => ?_
    walk_at "rc"
    refine rd_lstSq0 hid_ex (.inr h0) fun Li vs0 hLi hvs0 => ?_
    have eu := dp_strs' hvs0
    subst eu
    have e1 := Evl.Ex.new (o := .lst (g.inp.map V.str)) hLi
    have gi1 : upd H Li (.lst (g.inp.map V.str)) Li = some (.lst (g.inp.map V.str)) := upd_same
    generalize upd H Li (.lst (g.inp.map V.str)) = H1 at e1 gi1
    walk_at "rc"
    refine rd_ixDT (hid_ex.trans e1) hv (i := 1) rfl fun v1 h1 => ?_
    walk_at "rc"
    refine rd_lstSq0 (hid_ex.trans e1) (.inr h1) fun Ll us hLl dus => ?_
    have e2 := Evl.Ex.new (o := .lst us) hLl
    have gi2 := e2 _ _ gi1
    have gl2 : upd H1 Ll (.lst us) Ll = some (.lst us) := upd_same
    have e02 := e1.trans e2
    have hLl0 : H Ll = none := by
      cases z : H Ll with
      | none => rfl
      | some o => rw [e1 _ _ z] at hLl; cases hLl
    generalize upd H1 Ll (.lst us) = H2 at e2 gi2 gl2 e02
    walk_at "rc"
    refine rd_ixDT (hid_ex.trans e02) hv (i := 2) rfl fun v2 h2 => ?_
    cases Dp.str_iff h2
    walk_at "rc"
    refine ⟨by show 3 ≤ sizeLine; omega, fun t3 ht3 => ?_⟩
    have e3 := Evl.Ex.new (o := .tup [.ref Li, .ref Ll, .str g.res]) ht3
    have gi3 := e3 _ _ gi2
    have gl3 := e3 _ _ gl2
    have g33 : upd H2 t3 (.tup [.ref Li, .ref Ll, .str g.res]) t3 = some (.tup [.ref Li, .ref Ll, .str g.res]) := upd_same
    have e03 := e02.trans e3
    generalize upd H2 t3 (.tup [.ref Li, .ref Ll, .str g.res]) = H3 at e3 gi3 gl3 g33 e03
    have d3 : Dr p H H3 := (Dr.refl hS).ex e03
    have nil' : Li ≠ Ll := fun z => by rw [← z, gi1] at hLl; cases hLl
    have nip := st_neL d3.st gi3
    have nlp : Ll ≠ p := fun z => by
      obtain ⟨o, ho⟩ := hS.some
      rw [z, ho] at hLl0; cases hLl0
    have dus3 : DpAll K (hid [p] H3) us (g.lin.map encLn) := dus.ex (Ex.hid e03)
    have llen : us.length = g.lin.length := by rw [dus.len, List.length_map]
    walk_at "rc"
    refine ⟨t3, _, rfl, Evl.st_of g33, rfl, ?_⟩
    walk_at "rc"
    refine rd_anyL' ?_
    walk_at "rc"
    refine ⟨Ll, rfl, ⟨_, SqL.of gl3⟩, ?_⟩
    refine lc_MD (K := K) (S := []) tr_ex (fun b hb => nomatch hb) (wd_list (K := K) (H0 := H3) (SqL.of gl3) (dus3.ex hid_ex)) (by rw [hid_nil]; exact Evl.Ex.refl H3) (by rw [List.length_map]; omega) (fun v => rfl) sndL (fun L d v Hc hd hv hL nL t1 hs up N hN => ?_) fun qa ua H4 e4 hqa nqa hqa4 hds => ?_
    · obtain ⟨l, hl, rfl⟩ := List.mem_map.mp hd
      walk_at "rc"
      refine rd_ixDT hid_ex (ds := .str l.kind :: l.rest) hv (i := 1) (d := .str l.fst) (ln_fst l) fun v3 h3 => ?_
      refine hN _ _ (Evl.Ex.refl Hc) ?_
      rw [sndL_ln]
      exact h3
    have hds' : DpAll K (hid [qa] H4) ua ((g.lin.map Ln.fst).map PyData.str) := by
      rw [List.map_map] at hds ⊢
      exact (List.map_congr_left fun l _ => sndL_ln l : g.lin.map (sndL ∘ encLn) = _) ▸ hds
    have eu := dp_strs' hds'
    subst eu
    clear hds hds'
    obtain ⟨ys, py, sy⟩ := sort_ex ksp
    obtain ⟨zs, pz, sz'⟩ := sort_ex ksr
    have lys := py.length_eq
    have lzs := pz.length_eq
    have lp := B.lp
    have lr := B.lr
    have gi4 := e4 _ _ gi3
    have gl4 := e4 _ _ gl3
    have e04 := e03.trans e4
    walk_at "rc"
    refine rd_cat gi4 hqa4 (by rw [List.length_map, List.length_map, List.length_map]; omega) fun qb hqb => ?_
    have e5 := Evl.Ex.new (o := .lst (g.inp.map V.str ++ (g.lin.map Ln.fst).map V.str)) hqb
    have g5 : upd H4 qb (.lst (g.inp.map V.str ++ (g.lin.map Ln.fst).map V.str)) qb = some (.lst ((g.inp ++ g.lin.map Ln.fst).map V.str)) := by rw [upd_same, List.map_append (f := V.str)]
    have e05 := e04.trans e5
    have gi5 := e5 _ _ gi4
    have gl5 := e5 _ _ gl4
    generalize upd H4 qb (.lst (g.inp.map V.str ++ (g.lin.map Ln.fst).map V.str)) = H5 at e5 g5 e05 gi5 gl5
    walk_at "rc"
    refine rd_ixT (Evl.st_of (e05 _ _ hbt)) (atI_nat (j := 0) rfl) ?_
    walk_at "rc"
    refine rd_sortK (e05 _ _ B.hp) B.yp (by omega) py sy fun qc H6 e6 _ hqc => ?_
    have e06 := e05.trans e6
    refine rd_cat (e6 _ _ g5) hqc (by rw [List.length_map, List.length_map, List.length_append, List.length_map]; omega) fun qd hqd => ?_
    have e7 := e6.trans (Evl.Ex.new (o := .lst ((g.inp ++ g.lin.map Ln.fst).map V.str ++ ys.map V.str)) hqd)
    have g7 : upd H6 qd (.lst ((g.inp ++ g.lin.map Ln.fst).map V.str ++ ys.map V.str)) qd = some (.lst ((g.inp ++ g.lin.map Ln.fst ++ ys).map V.str)) := by rw [upd_same, List.map_append (f := V.str) (l₁ := g.inp ++ g.lin.map Ln.fst)]
    have e07 := e05.trans e7
    have gi7 := e7 _ _ gi5
    have gl7 := e7 _ _ gl5
    generalize upd H6 qd (.lst ((g.inp ++ g.lin.map Ln.fst).map V.str ++ ys.map V.str)) = H7 at e7 g7 e07 gi7 gl7
    walk_at "rc"
    refine rd_ixT (Evl.st_of (e07 _ _ hbt)) (atI_nat (j := 1) rfl) ?_
    walk_at "rc"
    refine rd_sortK (e07 _ _ B.hr) B.yr (by omega) pz sz' fun qe H8 e8 _ hqe => ?_
    refine rd_cat (e8 _ _ g7) hqe (by rw [List.length_map, List.length_map, List.length_append, List.length_append, List.length_map]; omega) fun Lm hLm => ?_
    have e9 := e8.trans (Evl.Ex.new (o := .lst ((g.inp ++ g.lin.map Ln.fst ++ ys).map V.str ++ zs.map V.str)) hLm)
    have g9 : upd H8 Lm (.lst ((g.inp ++ g.lin.map Ln.fst ++ ys).map V.str ++ zs.map V.str)) Lm = some (.lst ((g.inp ++ g.lin.map Ln.fst ++ ys ++ zs).map V.str)) := by rw [upd_same, List.map_append (f := V.str) (l₁ := g.inp ++ g.lin.map Ln.fst ++ ys)]
    have e09 := e07.trans e9
    have gi9 := e9 _ _ gi7
    have gl9 := e9 _ _ gl7
    have nml : (g.inp ++ g.lin.map Ln.fst ++ ys ++ zs).length ≤ 900 := by
      rw [List.length_append, List.length_append, List.length_append, List.length_map]; omega
    have nmg : ∀ z ∈ g.inp ++ g.lin.map Ln.fst ++ ys ++ zs, GoodS z := fun z hz => by
      rcases List.mem_append.mp hz with hz | hz
      rcases List.mem_append.mp hz with hz | hz
      rcases List.mem_append.mp hz with hz | hz
      · exact sg.i z hz
      · obtain ⟨l, hl, rfl⟩ := List.mem_map.mp hz
        exact (sg.l l hl).1 _ (fst_strs l)
      · exact name_good (B.gp.g z (py.mem_iff.mp hz))
      · exact name_good (B.gr.g z (pz.mem_iff.mp hz))
    generalize g.inp ++ g.lin.map Ln.fst ++ ys ++ zs = nms at g9 nml nmg
    generalize upd H8 Lm (.lst ((g.inp ++ g.lin.map Ln.fst ++ ys).map V.str ++ zs.map V.str)) = H9 at e9 g9 e09 gi9 gl9
    have d9 : Dr p H H9 := (Dr.refl hS).ex e09
    have nmp := st_neL d9.st g9
    have dus9 : DpAll K (hid [p] H9) us (g.lin.map encLn) := dus.ex (Ex.hid e09)
    walk_at "rc"
    refine ⟨p, 8, rfl, by decide, d9.st, fun kd H10 kd0 kd1 S10 o10 i10 => ?_⟩
    have d10 : Dr p H9 H10 := ⟨S10, o10, i10.2⟩
    have d010 := d9.trans d10
    have g10 := d10.old _ _ nmp g9
    have gi10 := d10.old _ _ nip gi9
    have gl10 := d10.old _ _ nlp gl9
    have dus10 := dus9.ex (d10.kp (S := [p]) List.mem_cons_self).ex
    have layL : Lay (.list (g.lin.map encLn)) := Ly.lay (Ly.list (n := 3) fun d hd => by
      obtain ⟨l, hl, rfl⟩ := List.mem_map.mp hd
      exact ly_ln (sg.l l hl).1) (by decide)
    walk_at "rc"
    refine rd_vcut (fun y H' => ∃ at0 : Nat, y = .int (at0 : Int) ∧ (g.lin ≠ [] → at0 < g.lin.length) ∧ Dr p H10 H') (fun Q' hQ => ?_) ?_
    · refine rd_ife ?_
      walk_at "rc"
      refine ⟨Nat.zero_le _, fun qn hqn => ?_⟩
      have e11 := Evl.Ex.new (o := .lst []) hqn
      have g11 : upd H10 qn (.lst []) qn = some (.lst []) := upd_same
      have gl11 := e11 _ _ gl10
      have d11 : Dr p H10 (upd H10 qn (.lst [])) := (Dr.refl S10).ex e11
      have dus11 := dus10.ex (Ex.hid (S := [p]) e11)
      generalize upd H10 qn (.lst []) = H11 at e11 g11 gl11 d11 dus11
      refine rd_neNilD gl11 hid_ex dus11 g11 layL ?_
      refine ⟨_, rfl, rd_ite (fun hne => ?_) fun hne => ?_⟩
      · have hne : g.lin ≠ [] := fun z => by rw [z] at hne; cases hne
        have hpos : 0 < g.lin.length := List.length_pos_iff.mpr hne
        walk_at "rc"
        refine rd_lenL (SqL.of gl11) ?_
        rw [llen]
        walk_at "rc"
        refine ⟨p, (g.lin.length : Int), rfl, by omega, d11.st, fun r H12 r0 r1 S12 o12 i12 => ?_⟩
        obtain ⟨r, rfl⟩ := Int.eq_ofNat_of_zero_le r0
        exact hQ _ _ ⟨r, rfl, fun _ => by omega, d11.trans ⟨S12, o12, i12.2⟩⟩
      · have hne : g.lin = [] := by
          cases hh : g.lin with
          | nil => rfl
          | cons a l => rw [hh] at hne; cases hne
        walk_at "rc"
        exact hQ _ _ ⟨0, rfl, fun h => absurd hne h, d11⟩
    rintro y H11 ⟨at0, rfl, hat, d11⟩
    have d011 := d010.trans d11
    have g11 := d11.old _ _ nmp g10
    have gi11 := d11.old _ _ nip gi10
    have gl11 := d11.old _ _ nlp gl10
    have dus11 := dus10.ex (d11.kp (S := [p]) List.mem_cons_self).ex
    clear gi10 gl10 dus10 g10 d9 d10 dus9 gi9 gl9 g9
    walk_at "rc"
    refine rd_cut (fun σ H' => ∃ (k8 k11 k12 k13 k14 k15 : Option V) (Li' Ll' : Addr) (g' : Prg) (us' : List V), σ = [some (.str L), some (.ref p), some (.ref bt), some v, some (.ref Li'), some (.ref Ll'), some (.str g'.res), some (.ref Lm), k8, some (.int kd), some (.int (at0 : Int)), k11, k12, k13, k14, k15] ∧ Dr p H H' ∧ H' Li' = some (.lst (g'.inp.map V.str)) ∧ H' Ll' = some (.lst us') ∧ DpAll K (hid [p] H') us' (g'.lin.map encLn) ∧ g'.Sz (n + 1)) (fun N hN => ?_) ?_
    · have S11 := d011.st
      walk_at "rc"
      refine rd_iteD (fun h0 => ?_) fun h0 => ?_
      · walk_at "rc"
        refine ⟨Nat.zero_le _, fun qa1 hqa1 => ?_⟩
        have e12 := Evl.Ex.new (o := .lst []) hqa1
        have ga12 : upd H11 qa1 (.lst []) qa1 = some (.lst (([] : List Str).map V.str)) := upd_same
        generalize upd H11 qa1 (.lst []) = H12 at e12 ga12
        walk_at "rc"
        refine ⟨by show 3 ≤ sizeLine; omega, fun qb1 hqb1 => ?_⟩
        have e13 := e12.trans (Evl.Ex.new (o := .lst [.str (Str.ofString "aa"), .str (Str.ofString "bb"), .str (Str.ofString "cc")]) hqb1)
        have ga13 := (Evl.Ex.new (o := .lst [.str (Str.ofString "aa"), .str (Str.ofString "bb"), .str (Str.ofString "cc")]) hqb1) _ _ ga12
        have gb13 : upd H12 qb1 (.lst [.str (Str.ofString "aa"), .str (Str.ofString "bb"), .str (Str.ofString "cc")]) qb1 = some (.lst ([Str.ofString "aa", Str.ofString "bb", Str.ofString "cc"].map V.str)) := upd_same
        generalize upd H12 qb1 (.lst [.str (Str.ofString "aa"), .str (Str.ofString "bb"), .str (Str.ofString "cc")]) = H13 at e13 ga13 gb13
        refine rd_cat (e13 _ _ gi11) gb13 (by rw [List.length_map]; show g.inp.length + 3 ≤ sizeLine; omega) fun qc1 hqc1 => ?_
        have e14 := e13.trans (Evl.Ex.new (o := .lst (g.inp.map V.str ++ [Str.ofString "aa", Str.ofString "bb", Str.ofString "cc"].map V.str)) hqc1)
        have ga14 := (Evl.Ex.new (o := .lst (g.inp.map V.str ++ [Str.ofString "aa", Str.ofString "bb", Str.ofString "cc"].map V.str)) hqc1) _ _ ga13
        have gc14 : upd H13 qc1 (.lst (g.inp.map V.str ++ [Str.ofString "aa", Str.ofString "bb", Str.ofString "cc"].map V.str)) qc1 = _ := upd_same
        generalize upd H13 qc1 (.lst (g.inp.map V.str ++ [Str.ofString "aa", Str.ofString "bb", Str.ofString "cc"].map V.str)) = H14 at e14 ga14 gc14
        walk_at "rc"
        refine .inl ⟨qc1, _, rfl, SqL.of gc14, fun qd1 hqd1 => ?_⟩
        rw [cutV4]
        have gd15 : upd H14 qd1 (.lst ((g.inp.map V.str ++ [Str.ofString "aa", Str.ofString "bb", Str.ofString "cc"].map V.str).take 4)) qd1 = some (.lst (((g.inp ++ [Str.ofString "aa", Str.ofString "bb", Str.ofString "cc"]).take 4).map V.str)) := by rw [upd_same, List.map_take, List.map_append]
        have e15 := e14.trans (Evl.Ex.new (o := .lst ((g.inp.map V.str ++ [Str.ofString "aa", Str.ofString "bb", Str.ofString "cc"].map V.str).take 4)) hqd1)
        have ga15 := (Evl.Ex.new (o := .lst ((g.inp.map V.str ++ [Str.ofString "aa", Str.ofString "bb", Str.ofString "cc"].map V.str).take 4)) hqd1) _ _ ga14
        generalize upd H14 qd1 (.lst ((g.inp.map V.str ++ [Str.ofString "aa", Str.ofString "bb", Str.ofString "cc"].map V.str).take 4)) = H15 at e15 ga15 gd15
        walk_at "rc"
        refine ⟨by show 4 ≤ sizeLine; omega, fun qe1 hqe1 => ?_⟩
        have e16' := Evl.Ex.new (o := .lst [.str (Str.ofString "aa"), .str (Str.ofString "bb"), .str (Str.ofString "cc"), .str (Str.ofString "dd")]) hqe1
        have e16 := e15.trans e16'
        have ga16 := e16' _ _ ga15
        have gd16 := e16' _ _ gd15
        have ge16 : upd H15 qe1 (.lst [.str (Str.ofString "aa"), .str (Str.ofString "bb"), .str (Str.ofString "cc"), .str (Str.ofString "dd")]) qe1 = some (.lst ([Str.ofString "aa", Str.ofString "bb", Str.ofString "cc", Str.ofString "dd"].map V.str)) := upd_same
        generalize upd H15 qe1 (.lst [.str (Str.ofString "aa"), .str (Str.ofString "bb"), .str (Str.ofString "cc"), .str (Str.ofString "dd")]) = H16 at e16' e16 ga16 gd16 ge16
        refine rd_cat (e16 _ _ gi11) ge16 (by rw [List.length_map]; show g.inp.length + 4 ≤ sizeLine; omega) fun qf1 hqf1 => ?_
        have e17' := Evl.Ex.new (o := .lst (g.inp.map V.str ++ [Str.ofString "aa", Str.ofString "bb", Str.ofString "cc", Str.ofString "dd"].map V.str)) hqf1
        have e17 := e16.trans e17'
        have ga17 := e17' _ _ ga16
        have gd17 := e17' _ _ gd16
        have gf17 : upd H16 qf1 (.lst (g.inp.map V.str ++ [Str.ofString "aa", Str.ofString "bb", Str.ofString "cc", Str.ofString "dd"].map V.str)) qf1 = some (.lst ((g.inp ++ [Str.ofString "aa", Str.ofString "bb", Str.ofString "cc", Str.ofString "dd"]).map V.str)) := by rw [upd_same, List.map_append]
        generalize upd H16 qf1 (.lst (g.inp.map V.str ++ [Str.ofString "aa", Str.ofString "bb", Str.ofString "cc", Str.ofString "dd"].map V.str)) = H17 at e17' e17 ga17 gd17 gf17
        walk_at "rc"
        refine ⟨by show 3 ≤ sizeLine; omega, fun qg1 hqg1 => ?_⟩
        have e18' := Evl.Ex.new (o := .lst [.ref qa1, .ref qd1, .ref qf1]) hqg1
        have e18 := e17.trans e18'
        have ga18 := e18' _ _ ga17
        have gd18 := e18' _ _ gd17
        have gf18 := e18' _ _ gf17
        have gg18 : upd H17 qg1 (.lst [.ref qa1, .ref qd1, .ref qf1]) qg1 = some (.lst [.ref qa1, .ref qd1, .ref qf1]) := upd_same
        generalize upd H17 qg1 (.lst [.ref qa1, .ref qd1, .ref qf1]) = H18 at e18' e18 ga18 gd18 gf18 gg18
        have d18 : Dr p H11 H18 := (Dr.refl S11).ex e18
        have ngp : qg1 ≠ p := fun z => by
          obtain ⟨l, ns, pl, h1, _⟩ := d18.st
          rw [z, h1] at gg18; cases gg18
        walk_at "rc"
        refine ⟨p, 3, rfl, by decide, d18.st, fun r H19 r0 r1 S19 o19 i19 => ?_⟩
        have d19 : Dr p H18 H19 := ⟨S19, o19, i19.2⟩
        have d119 := d18.trans d19
        have gg19 := d19.old _ _ ngp gg18
        obtain ⟨r, rfl⟩ := Int.eq_ofNat_of_zero_le r0
        have dus19 := dus11.ex (d119.kp (S := [p]) List.mem_cons_self).ex
        have gl19 := d119.old _ _ nlp gl11
        have abcd : ∀ z ∈ [Str.ofString "aa", Str.ofString "bb", Str.ofString "cc", Str.ofString "dd"], GoodS z := by unfold GoodS okS; decide +kernel
        have lok : ∀ l ∈ g.lin, (∀ z ∈ l.strs, GoodS z) ∧ l.many ≤ 30 + (n + 1) := fun l hl => ⟨(sg.l l hl).1, by have := (sg.l l hl).2; omega⟩
        obtain ⟨qi, inp', hqi, hi', hg', hl'⟩ : ∃ (qi : Addr) (inp' : List Str), [V.ref qa1, .ref qd1, .ref qf1][r]? = some (.ref qi) ∧ H19 qi = some (.lst (inp'.map V.str)) ∧ (∀ z ∈ inp', GoodS z) ∧ inp'.length ≤ 3 + 4 * (n + 1) := by
          have h : r = 0 ∨ r = 1 ∨ r = 2 := by omega
          rcases h with rfl | rfl | rfl
          · exact ⟨qa1, [], rfl, d19.old _ _ (st_neL d18.st ga18) ga18, (fun z h => nomatch h), Nat.zero_le _⟩
          · refine ⟨qd1, _, rfl, d19.old _ _ (st_neL d18.st gd18) gd18, fun z h => ?_, by rw [List.length_take]; omega⟩
            rcases List.mem_append.mp (List.mem_of_mem_take h) with h | h
            · exact sg.i z h
            · refine abcd z ?_
              simp only [List.mem_cons, List.not_mem_nil, or_false] at h ⊢
              rcases h with h | h | h <;> simp [h]
          · refine ⟨qf1, _, rfl, d19.old _ _ (st_neL d18.st gf18) gf18, fun z h => ?_, by rw [List.length_append]; show g.inp.length + 4 ≤ _; omega⟩
            rcases List.mem_append.mp h with h | h
            · exact sg.i z h
            · exact abcd z h
        refine rd_ixL (SqL.of gg19) (atI_nat hqi) ?_
        exact hN _ _ ⟨_, _, _, _, _, _, qi, Ll, ⟨inp', g.lin, g.res⟩, us, rfl, d011.trans d119, hi', gl19, dus19, ⟨hg', hl', lok, by show g.lin.length ≤ _; omega, sg.r⟩⟩
      walk_at "rc"
      refine rd_iteD (fun h1 => ?_) fun h1 => ?_
      · walk_at "rc"
        refine ⟨p, Lm, nms, rfl, S11, g11, nml, nmg, fun z H12 hz d12 => ?_⟩
        walk_at "rc"
        refine rd_lenL (SqL.of (d12.old _ _ nip gi11)) ?_
        rw [List.length_map]
        walk_at "rc"
        refine ⟨p, (g.inp.length : Int), rfl, by omega, d12.st, fun r H13 r0 r1 S13 o13 i13 => ?_⟩
        have d13 : Dr p H12 H13 := ⟨S13, o13, i13.2⟩
        have dd := d12.trans d13
        have gi13 := dd.old _ _ nip gi11
        have gl13 := dd.old _ _ nlp gl11
        have dus13 := dus11.ex (dd.kp (S := [p]) List.mem_cons_self).ex
        obtain ⟨r, rfl⟩ := Int.eq_ofNat_of_zero_le r0
        refine rd_setV gi13 (by rw [List.length_map]; omega) ?_
        refine hN _ _ ⟨_, _, _, _, _, _, Li, Ll, ⟨g.inp.set r z, g.lin, g.res⟩, us, rfl, (d011.trans dd).put hS hLi, by rw [upd_same, List.map_set], by rw [upd_ne (Ne.symm nil')]; exact gl13, dpAll_putL gi13 dus13, ⟨fun y hy => ?_, by show (g.inp.set r z).length ≤ _; rw [List.length_set]; omega, fun l hl => ⟨(sg.l l hl).1, by have := (sg.l l hl).2; omega⟩, by show g.lin.length ≤ _; omega, sg.r⟩⟩
        rcases List.mem_or_eq_of_mem_set hy with h | h
        · exact sg.i y h
        · rw [h]; exact hz
      walk_at "rc"
      refine rd_iteD (fun h2 => ?_) fun h2 => ?_
      · walk_at "rc"
        refine ⟨p, Lm, nms, rfl, S11, g11, nml, nmg, fun z H12 hz d12 => ?_⟩
        walk_at "rc"
        exact hN _ _ ⟨_, _, _, _, _, _, Li, Ll, ⟨g.inp, g.lin, z⟩, us, rfl, d011.trans d12, d12.old _ _ nip gi11, d12.old _ _ nlp gl11, dus11.ex (d12.kp (S := [p]) List.mem_cons_self).ex, ⟨sg.i, by show g.inp.length ≤ _; omega, fun l hl => ⟨(sg.l l hl).1, by have := (sg.l l hl).2; omega⟩, by show g.lin.length ≤ _; omega, hz⟩⟩
      walk_at "rc"
      refine rd_iteD (fun h3 => ?_) fun h3 => ?_
      · walk_at "rc"
        refine ⟨p, 7, rfl, by decide, S11, fun r H12 r0 r1 S12 o12 i12 => ?_⟩
        have d12 : Dr p H11 H12 := ⟨S12, o12, i12.2⟩
        have gi12 := d12.old _ _ nip gi11
        have gl12 := d12.old _ _ nlp gl11
        have dus12 := dus11.ex (d12.kp (S := [p]) List.mem_cons_self).ex
        obtain ⟨r, rfl⟩ := Int.eq_ofNat_of_zero_le r0
        have en : (7 : Int) + (r : Int) = ((r + 7 : Nat) : Int) := by omega
        walk_at "rc"
        rw [en]
        refine ⟨_, rfl, by omega, by omega, ?_⟩
        rw [Int.toNat_natCast]
        have sgl : SG.cps.toList.length = 13 := by decide +kernel
        have hin0 : g.inp[0]? = some (g.inp[0]'i0) := List.getElem?_eq_getElem i0
        refine lc_F (K := K) (S := [p]) (P := fun i x => x = V.int (i : Nat)) tr_ex (st1 S12.some.choose_spec) walk_range0 rng_Y (by omega) (fun _ _ => True.intro) (fun _ => true) (fun i => encLn (.tu (Str.ofString "z" ++ ⟨#[SG.cps.toList.getD i 0]⟩) (g.inp[0]'i0))) (hg_name fun v => rfl) (fun L i σ2 Hc hi p2 hL nL t1 hs1 up N hN => rd_yes (hN Hc (Evl.Ex.refl Hc))) (fun L i σ2 Hc hi p2 hp2 hL nL t1 hs1 up N hN => ?_) fun q1 us2 H13 e13 hq1 nq1 hus2 hds => ?_
        · obtain ⟨v, rfl, rfl⟩ := p2
          have hi13 : i < SG.cps.toList.length := by omega
          walk_at "rc"
          refine rd_ixS (z := SG) (by show SG.cps.toList.length ≤ sizeLine; omega) (atI_nat (List.getElem?_eq_getElem hi13)) ?_
          refine rd_addS (by show 1 + 1 ≤ sizeLine; omega) ?_
          walk_at "rc"
          refine rd_ixL (SqL.of (t1 _ _ gi12)) (atI_nat (j := 0) (by rw [List.getElem?_map, hin0]; rfl)) ?_
          walk_at "rc"
          refine ⟨by show 3 ≤ sizeLine; omega, fun tp htp => ?_⟩
          refine hN _ _ (Evl.Ex.new htp) ?_
          rw [show SG.cps.toList.getD i 0 = SG.cps.toList[i] by rw [List.getD_eq_getElem?_getD, List.getElem?_eq_getElem hi13]; rfl]
          exact Dp.newT htp (notin_of hs1 htp) (.cons (.str _) (.cons (.str _) (.cons (.str _) .nil)))
        · generalize hlns : ((List.range (r + 7)).map fun i => Ln.tu (Str.ofString "z" ++ ⟨#[SG.cps.toList.getD i 0]⟩) (g.inp[0]'i0)) = lns
          have hds' : DpAll K (hid [p] H13) us2 (lns.map encLn) := by
            rw [← hlns, List.map_map]
            rw [List.filter_eq_self.mpr (fun _ _ => rfl)] at hds
            exact hds.ex hid_tail
          have lln : lns.length = r + 7 := by rw [← hlns, List.length_map, List.length_range]
          have lok2 : ∀ l ∈ lns, (∀ z ∈ l.strs, GoodS z) ∧ l.many ≤ 30 + (n + 1) := fun l hl => by
            rw [← hlns] at hl
            obtain ⟨i, hi, rfl⟩ := List.mem_map.mp hl
            have hi13 : i < SG.cps.toList.length := by have := List.mem_range.mp hi; omega
            refine ⟨fun z hz => ?_, Nat.zero_le _⟩
            rcases List.mem_cons.mp hz with e | hz
            · rw [e]
              refine ⟨by rw [str_len]; show 1 + 1 ≤ 100; decide, okS_app (okS_lit "z") (okS_one (z := SG) (by unfold okS; decide +kernel) ?_)⟩
              rw [List.getD_eq_getElem?_getD, List.getElem?_eq_getElem hi13]
              exact List.getElem_mem hi13
            · rw [List.mem_singleton.mp hz]
              exact sg.i _ (List.getElem_mem i0)
          have l2 : us2.length = r + 7 := by rw [hds'.len, List.length_map, lln]
          refine rd_cat (e13 _ _ gl12) hus2 (by omega) fun q2 hq2 => ?_
          have e14 := Evl.Ex.new (o := .lst (us ++ us2)) hq2
          have dd : Dr p H11 (upd H13 q2 (.lst (us ++ us2))) := (d12.ex e13).ex e14
          refine hN _ _ ⟨_, _, _, _, _, _, Li, q2, ⟨g.inp, g.lin ++ lns, g.res⟩, us ++ us2, rfl, d011.trans dd, e14 _ _ (e13 _ _ gi12), upd_same, ?_, ⟨sg.i, by show g.inp.length ≤ _; omega, fun l hl => ?_, by show (g.lin ++ lns).length ≤ _; rw [List.length_append]; omega, sg.r⟩⟩
          · show DpAll K _ _ ((g.lin ++ lns).map encLn)
            rw [List.map_append]
            exact ((dus12.ex (Ex.hid (S := [p]) e13)).ex (Ex.hid (S := [p]) e14)).app (hds'.ex (Ex.hid (S := [p]) e14))
          · rcases List.mem_append.mp hl with hl | hl
            · exact ⟨(sg.l l hl).1, by have := (sg.l l hl).2; omega⟩
            · exact lok2 l hl
      walk_at "rc"
      refine ⟨Nat.zero_le _, fun qn hqn => ?_⟩
      have e12 := Evl.Ex.new (o := .lst []) hqn
      have g12 : upd H11 qn (.lst []) qn = some (.lst []) := upd_same
      have gi12 := e12 _ _ gi11
      have gl12 := e12 _ _ gl11
      have gm12 := e12 _ _ g11
      have d12 : Dr p H11 (upd H11 qn (.lst [])) := (Dr.refl S11).ex e12
      have dus12 := dus11.ex (Ex.hid (S := [p]) e12)
      generalize upd H11 qn (.lst []) = H12 at e12 g12 gl12 d12 dus12 gi12 gm12
      refine rd_neNilD gl12 hid_ex dus12 g12 layL ?_
      refine ⟨_, rfl, rd_ite (fun hne => ?_) fun hne => ?_⟩
      rotate_left
      · walk_at "rc"
        exact hN _ _ ⟨_, _, _, _, _, _, Li, Ll, g, us, rfl, d011.trans d12, gi12, gl12, dus12, ⟨sg.i, by omega, fun l hl => ⟨(sg.l l hl).1, by have := (sg.l l hl).2; omega⟩, by omega, sg.r⟩⟩
      have hne : g.lin ≠ [] := fun z => by rw [z] at hne; cases hne
      have hat := hat hne
      obtain ⟨l, hl⟩ : ∃ l, g.lin[at0]? = some l := ⟨_, List.getElem?_eq_getElem hat⟩
      have okl := sg.l l (List.mem_of_getElem? hl)
      obtain ⟨vl, hvl, dvl⟩ := dus12.get (i := at0) (d := encLn l) (by rw [List.getElem?_map, hl]; rfl)
      walk_at "rc"
      refine rd_ixL (SqL.of gl12) (atI_nat hvl) ?_
      walk_at "rc"
      refine rd_lstSq0 (e := hid_ex) (H0 := hid [p] H12) (ds := .str l.kind :: l.rest) (.inr dvl) fun Lx vx hLx dvx => ?_
      have e13 := Evl.Ex.new (o := .lst vx) hLx
      have gx13 : upd H12 Lx (.lst vx) Lx = some (.lst vx) := upd_same
      have gi13 := e13 _ _ gi12
      have gl13 := e13 _ _ gl12
      have gm13 := e13 _ _ gm12
      have d13 := d12.ex e13
      have dus13 := dus12.ex (Ex.hid (S := [p]) e13)
      have dvx13 := dvx.ex (Ex.hid (S := [p]) e13)
      have hLx0 : H11 Lx = none := by
        cases z : H11 Lx with
        | none => rfl
        | some o => rw [e12 _ _ z] at hLx; cases hLx
      generalize upd H12 Lx (.lst vx) = H13 at e13 gx13 gi13 gl13 gm13 d13 dus13 dvx13
      have nxp : Lx ≠ p := fun z => by
        obtain ⟨o, ho⟩ := S11.some
        rw [z, ho] at hLx0; cases hLx0
      have nxi : Lx ≠ Li := fun z => by rw [z, gi11] at hLx0; cases hLx0
      have nxl : Lx ≠ Ll := fun z => by rw [z, gl11] at hLx0; cases hLx0
      have nxm : Lx ≠ Lm := fun z => by rw [z, g11] at hLx0; cases hLx0
      have rl := rest_len l
      have vxl : vx.length = l.rest.length + 1 := dvx.len
      walk_at "rc"
      refine rd_lenL (SqL.of gx13) ?_
      rw [vxl]
      walk_at "rc"
      rw [show (((l.rest.length + 1 : Nat) : Int) - 1) = (l.rest.length : Int) by omega]
      refine ⟨p, (l.rest.length : Int), rfl, by omega, d13.st, fun r H14 r0 r1 S14 o14 i14 => ?_⟩
      have d14 : Dr p H13 H14 := ⟨S14, o14, i14.2⟩
      have d114 := d13.trans d14
      have gx14 := d14.old _ _ nxp gx13
      have gi14 := d14.old _ _ nip gi13
      have gl14 := d14.old _ _ nlp gl13
      have gm14 := d14.old _ _ nmp gm13
      have dus14 := dus13.ex (d14.kp (S := [p]) List.mem_cons_self).ex
      have dvx14 := dvx13.ex (d14.kp (S := [p]) List.mem_cons_self).ex
      obtain ⟨r, rfl⟩ := Int.eq_ofNat_of_zero_le r0
      have hr1 : r < l.rest.length := by omega
      have en : (1 : Int) + (r : Int) = ((r + 1 : Nat) : Int) := by omega
      clear gi11 gl11 dus11 gi12 gl12 gm12 dus12 gi13 gl13 gm13 gx13 dus13 dvx13
      walk_at "rc"
      rw [en]
      refine rd_cut (fun σ H' => ∃ (k11 k13 k14 k15 : Option V) (l' : Ln) (vx' : List V), σ = [some (.str L), some (.ref p), some (.ref bt), some v, some (.ref Li), some (.ref Ll), some (.str g.res), some (.ref Lm), some (.ref Lx), some (.int kd), some (.int (at0 : Int)), k11, some (.int ((r + 1 : Nat) : Int)), k13, k14, k15] ∧ Dr p H11 H' ∧ H' Li = some (.lst (g.inp.map V.str)) ∧ H' Ll = some (.lst us) ∧ DpAll K (hid [p] H') us (g.lin.map encLn) ∧ H' Lx = some (.lst vx') ∧ DpAll K (hid [p] H') vx' (.str l'.kind :: l'.rest) ∧ (∀ z ∈ l'.strs, GoodS z) ∧ l'.many ≤ 30 + (n + 1)) (fun N2 hN2 => ?_) ?_
      · obtain ⟨w0, hw0, dw0⟩ := dvx14.get (i := 0) (d := .str l.kind) rfl
        cases Dp.str_iff dw0
        have other : ∀ {z : Str} {Hc : Hp}, GoodS z → ¬ (l.kind = Str.ofString "join" ∧ r = 1) → Dr p H14 Hc → rSetL (.ref Lx) (.int ((r + 1 : Nat) : Int)) (.str z) Hc fun H3 => N2 [some (.str L), some (.ref p), some (.ref bt), some v, some (.ref Li), some (.ref Ll), some (.str g.res), some (.ref Lm), some (.ref Lx), some (.int kd), some (.int (at0 : Int)), none, some (.int ((r + 1 : Nat) : Int)), none, none, none] H3 := fun {z Hc} hz hn dc => by
          have gxc := dc.old _ _ nxp gx14
          obtain ⟨l', ek, er, es, em⟩ := ln_set (z := z) hr1 hn
          refine rd_setV gxc (by omega) ?_
          have dvc := dvx14.ex (dc.kp (S := [p]) List.mem_cons_self).ex
          refine hN2 _ _ ⟨_, _, _, _, l', _, rfl, (d114.trans dc).put S11 hLx0, ?_, ?_, dpAll_putL gxc (dus14.ex (dc.kp (S := [p]) List.mem_cons_self).ex), upd_same, ?_, fun y hy => ?_, ?_⟩
          · rw [upd_ne (Ne.symm nxi)]; exact dc.old _ _ nip gi14
          · rw [upd_ne (Ne.symm nxl)]; exact dc.old _ _ nlp gl14
          · have ds := dvc.set (v := .str z) (d := .str z) (.str z) (r + 1)
            have e1 : (PyData.str l.kind :: l.rest).set (r + 1) (.str z) = .str l'.kind :: l'.rest := by rw [ek, er]; rfl
            rw [e1] at ds
            exact dpAll_putG (noList_row l') gxc ds
          · rcases es y hy with h | h
            · exact okl.1 y h
            · rw [h]; exact hz
          · rw [em]; have := okl.2; omega
        walk_at "rc"
        refine rd_ixL (SqL.of gx14) (atI_nat hw0) ?_
        walk_at "rc"
        refine rd_iteD (fun hj => ?_) fun hj => ?_
        rotate_left
        · walk_at "rc"
          refine ⟨p, Lm, nms, rfl, d14.st, gm14, nml, nmg, fun z H15 hz d15 => ?_⟩
          walk_at "rc"
          exact other hz (fun h => hj h.1) d15
        walk_at "rc"
        refine rd_iteD (fun hp2 => ?_) fun hp2 => ?_
        rotate_left
        · walk_at "rc"
          refine ⟨p, Lm, nms, rfl, d14.st, gm14, nml, nmg, fun z H15 hz d15 => ?_⟩
          walk_at "rc"
          exact other hz (fun h => hp2 (by have := h.2; omega)) d15
        clear other
        obtain ⟨nm, ps, rfl⟩ : ∃ nm ps, l = .jo nm ps := by
          cases l with
          | jo nm ps => exact ⟨nm, ps, rfl⟩
          | tu a b => exact sne "turn" "join" hj
          | rw a b c => exact sne "rewrite" "join" hj
          | ch a b c d e => exact sne "choose" "join" hj
          | ne a b => exact sne "need" "join" hj
        have hr : r = 1 := by omega
        subst hr
        have pml : ps.length ≤ 30 + n := okl.2
        have pok : ∀ q ∈ ps, GoodS q.str := fun q hq => okl.1 _ (List.mem_cons_of_mem _ (List.mem_map_of_mem hq))
        have nmok : GoodS nm := okl.1 _ List.mem_cons_self
        walk_at "rc"
        refine rd_anyS' ?_
        walk_at "rc"
        refine rd_itS ?_
        refine lc_signs (z := Str.ofString "abcd") (y := L) (by decide +kernel) (fun c Hc hc e N hN => ?_) (fun c Hc hc e N hN => rd_var rfl hN) fun qs hqs => ?_
        · walk_at "rc"
          exact hN
        obtain ⟨c0, cs0, hcs⟩ := strange_ex l1
        have c0m : c0 ∈ (Str.ofString "abcd").cps.toList := (List.mem_filter.mp (hcs ▸ List.mem_cons_self : c0 ∈ (Str.ofString "abcd").cps.toList.filter (fun c => !decide (c ∈ L.cps.toList)))).1
        rw [hcs]
        have e15 := Evl.Ex.new (o := .lst (((c0 :: cs0).map fun c => (⟨#[c]⟩ : Str)).map V.str)) hqs
        have gs15 : upd H14 qs (.lst (((c0 :: cs0).map fun c => (⟨#[c]⟩ : Str)).map V.str)) qs = some (.lst (((c0 :: cs0).map fun c => (⟨#[c]⟩ : Str)).map V.str)) := upd_same
        generalize upd H14 qs (.lst (((c0 :: cs0).map fun c => (⟨#[c]⟩ : Str)).map V.str)) = H15 at e15 gs15
        walk_at "rc"
        refine rd_ixL (SqL.of gs15) (atI_nat (j := 0) rfl) ?_
        walk_at "rc"
        refine ⟨by show 2 ≤ sizeLine; omega, fun t1 ht1 => ?_⟩
        have e16 := e15.trans (Evl.Ex.new (o := .tup [.str (Str.ofString "text"), .str (Str.ofString "-")]) ht1)
        have g161 : upd H15 t1 (.tup [.str (Str.ofString "text"), .str (Str.ofString "-")]) t1 = some (.tup [.str (Str.ofString "text"), .str (Str.ofString "-")]) := upd_same
        have d16 : Dr p H14 (upd H15 t1 (.tup [.str (Str.ofString "text"), .str (Str.ofString "-")])) := (Dr.refl d14.st).ex e16
        generalize upd H15 t1 (.tup [.str (Str.ofString "text"), .str (Str.ofString "-")]) = H16 at e16 g161 d16
        have tnp : ∀ {Hc : Hp} {a : Addr} {xs : List V}, StAt Hc p → Hc a = some (.tup xs) → a ≠ p := fun {Hc a xs} hS h z => by
          obtain ⟨l, ns, pl, h1, _⟩ := hS
          rw [z, h1] at h; cases h
        walk_at "rc"
        refine ⟨p, Lm, nms, rfl, d16.st, d16.old _ _ nmp gm14, nml, nmg, fun zo H17 hzo d17 => ?_⟩
        have g171 := d17.old _ _ (tnp d16.st g161) g161
        walk_at "rc"
        refine ⟨by show 2 ≤ sizeLine; omega, fun t2 ht2 => ?_⟩
        have e18 := Evl.Ex.new (o := .tup [.str (Str.ofString "name"), .str zo]) ht2
        have g181 := e18 _ _ g171
        have g182 : upd H17 t2 (.tup [.str (Str.ofString "name"), .str zo]) t2 = some (.tup [.str (Str.ofString "name"), .str zo]) := upd_same
        have d18 := (d16.trans d17).ex e18
        generalize upd H17 t2 (.tup [.str (Str.ofString "name"), .str zo]) = H18 at e18 g181 g182 d18
        have h00 : L.cps.toList[0]? = some (L.cps.toList[0]'(by show 0 < L.length; exact l0)) := List.getElem?_eq_getElem (by show 0 < L.length; exact l0)
        have hc0 : L.cps.toList[0]'(by show 0 < L.length; exact l0) ∈ L.cps.toList := List.getElem_mem _
        generalize L.cps.toList[0]'(by show 0 < L.length; exact l0) = cL at h00 hc0
        walk_at "rc"
        refine rd_ixS (by omega) (atI_nat (j := 0) h00) ?_
        walk_at "rc"
        refine ⟨by show 2 ≤ sizeLine; omega, fun t3 ht3 => ?_⟩
        have e19 := Evl.Ex.new (o := .tup [.str (Str.ofString "text"), .str ⟨#[cL]⟩]) ht3
        have g191 := e19 _ _ g181
        have g192 := e19 _ _ g182
        have g193 : upd H18 t3 (.tup [.str (Str.ofString "text"), .str ⟨#[cL]⟩]) t3 = some (.tup [.str (Str.ofString "text"), .str ⟨#[cL]⟩]) := upd_same
        have d19 := d18.ex e19
        generalize upd H18 t3 (.tup [.str (Str.ofString "text"), .str ⟨#[cL]⟩]) = H19 at e19 g191 g192 g193 d19
        walk_at "rc"
        refine ⟨by show 2 ≤ sizeLine; omega, fun t4 ht4 => ?_⟩
        have e20 := Evl.Ex.new (o := .tup [.str (Str.ofString "text"), .str ⟨#[c0]⟩]) ht4
        have g201 := e20 _ _ g191
        have g202 := e20 _ _ g192
        have g203 := e20 _ _ g193
        have g204 : upd H19 t4 (.tup [.str (Str.ofString "text"), .str ⟨#[c0]⟩]) t4 = some (.tup [.str (Str.ofString "text"), .str ⟨#[c0]⟩]) := upd_same
        have d20 := d19.ex e20
        generalize upd H19 t4 (.tup [.str (Str.ofString "text"), .str ⟨#[c0]⟩]) = H20 at e20 g201 g202 g203 g204 d20
        walk_at "rc"
        refine ⟨by show 4 ≤ sizeLine; omega, fun qm hqm => ?_⟩
        have e21 := Evl.Ex.new (o := .lst [.ref t1, .ref t2, .ref t3, .ref t4]) hqm
        have gm21 : upd H20 qm (.lst [.ref t1, .ref t2, .ref t3, .ref t4]) qm = some (.lst [.ref t1, .ref t2, .ref t3, .ref t4]) := upd_same
        have d21 := d20.ex e21
        have pas : ∀ i : Nat, i < 4 → ∃ (tm : Addr) (pm : Pa), [V.ref t1, .ref t2, .ref t3, .ref t4][i]? = some (.ref tm) ∧ upd H20 qm (.lst [.ref t1, .ref t2, .ref t3, .ref t4]) tm = some (.tup [.str pm.kind, .str pm.str]) ∧ GoodS pm.str := fun i hi => by
          have h : i = 0 ∨ i = 1 ∨ i = 2 ∨ i = 3 := by omega
          rcases h with rfl | rfl | rfl | rfl
          · exact ⟨t1, .txt "-", rfl, e21 _ _ g201, by show (Str.ofString "-").length ≤ 100; decide +kernel, okS_lit "-"⟩
          · exact ⟨t2, .nam zo, rfl, e21 _ _ g202, hzo⟩
          · exact ⟨t3, .txt ⟨#[cL]⟩, rfl, e21 _ _ g203, by show 1 ≤ 100; decide, okS_one al.ok hc0⟩
          · exact ⟨t4, .txt ⟨#[c0]⟩, rfl, e21 _ _ g204, by show 1 ≤ 100; decide, okS_one (okS_lit "abcd") c0m⟩
        generalize upd H20 qm (.lst [.ref t1, .ref t2, .ref t3, .ref t4]) = H21 at e21 gm21 d21 pas
        have nqp : qm ≠ p := fun z => by
          obtain ⟨l, ns, pl, h1, _⟩ := d21.st
          rw [z, h1] at gm21; cases gm21
        walk_at "rc"
        refine ⟨p, 4, rfl, by decide, d21.st, fun rr H22 rr0 rr1 S22 o22 i22 => ?_⟩
        have d22 : Dr p H21 H22 := ⟨S22, o22, i22.2⟩
        obtain ⟨rr, rfl⟩ := Int.eq_ofNat_of_zero_le rr0
        obtain ⟨tm, pm, hpm, htm, gpm⟩ := pas rr (by omega)
        have htm2 := d22.old _ _ (tnp d21.st htm) htm
        refine rd_ixL (SqL.of (d22.old _ _ nqp gm21)) (atI_nat hpm) ?_
        have d1422 := d21.trans d22
        have gx22 := d1422.old _ _ nxp gx14
        have dvx22 := dvx14.ex (d1422.kp (S := [p]) List.mem_cons_self).ex
        clear pas gm21 g201 g202 g203 g204 g191 g192 g193 g181 g182 g171 g161
        obtain ⟨vp, hvp, dvp⟩ := dvx22.get (i := 2) (d := .tuple (ps.map encPa)) rfl
        have fp : Dp K H22 vp (.tuple (ps.map encPa)) := dvp.ex hid_ex
        have fm : Dp K H22 (.ref tm) (encPa pm) := .tup (Evl.st_of htm2) (.cons (.str _) (.cons (.str _) .nil))
        walk_at "rc"
        refine ⟨Nat.zero_le _, fun z0 hz0 => ?_⟩
        have e23 := Evl.Ex.new (o := .tup []) hz0
        have f0 : Dp K (upd H22 z0 (.tup [])) (.ref z0) (.tuple (([] : List Pa).map encPa)) := .tup (Evl.st_of upd_same) .nil
        generalize upd H22 z0 (.tup []) = H23 at e23 f0
        walk_at "rc"
        refine rd_ixL (SqL.of (e23 _ _ gx22)) (atI_nat hvp) ?_
        walk_at "rc"
        refine ⟨by show 1 ≤ sizeLine; omega, fun m1 hm1 => ?_⟩
        have e24 := e23.trans (Evl.Ex.new (o := .tup [.ref tm]) hm1)
        have f0a := f0.ex (Evl.Ex.new (o := .tup [.ref tm]) hm1)
        have fm1 : Dp K (upd H23 m1 (.tup [.ref tm])) (.ref m1) (.tuple [encPa pm]) := .tup (Evl.st_of upd_same) (.cons (fm.ex e24) .nil)
        generalize upd H23 m1 (.tup [.ref tm]) = H24 at e24 f0a fm1
        refine rd_catA (fp.ex e24) fm1 (by rw [List.length_map]; show ps.length + 1 ≤ sizeLine; omega) fun w1 H25 e25 f1 => ?_
        have e225 := e24.trans e25
        walk_at "rc"
        refine rd_ixL (SqL.of (e225 _ _ gx22)) (atI_nat hvp) ?_
        walk_at "rc"
        refine rd_mulA (k := 7) (fp.ex e225) (by decide) (by decide) (by rw [List.length_map]; omega) fun w2 H26 e26 f2 => ?_
        walk_at "rc"
        refine rd_slDT (Evl.Ex.refl H26) f2 fun w3 H27 e27 f3 => ?_
        rw [cutD30] at f3
        have e227 := (e225.trans e26).trans e27
        walk_at "rc"
        refine ⟨by show 1 ≤ sizeLine; omega, fun m2 hm2 => ?_⟩
        have e28' := Evl.Ex.new (o := .tup [.ref tm]) hm2
        have e28 := e227.trans e28'
        have fm2 : Dp K (upd H27 m2 (.tup [.ref tm])) (.ref m2) (.tuple [encPa pm]) := .tup (Evl.st_of upd_same) (.cons (fm.ex e28) .nil)
        have f3a := f3.ex e28'
        have f1a := f1.ex ((e26.trans e27).trans e28')
        have f0b := f0a.ex (((e25.trans e26).trans e27).trans e28')
        generalize upd H27 m2 (.tup [.ref tm]) = H28 at e28' e28 fm2 f3a f1a f0b
        walk_at "rc"
        refine rd_ixL (SqL.of (e28 _ _ gx22)) (atI_nat hvp) ?_
        refine rd_catA fm2 (fp.ex e28) (by rw [List.length_map]; show 1 + ps.length ≤ sizeLine; omega) fun w4 H29 e29 f4 => ?_
        have e229 := e28.trans e29
        walk_at "rc"
        refine ⟨by show 4 ≤ sizeLine; omega, fun qv hqv => ?_⟩
        have e30' := Evl.Ex.new (o := .lst [.ref z0, w1, w3, w4]) hqv
        have e30 := e229.trans e30'
        have gv30 : upd H29 qv (.lst [.ref z0, w1, w3, w4]) qv = some (.lst [.ref z0, w1, w3, w4]) := upd_same
        have d30 : Dr p H14 (upd H29 qv (.lst [.ref z0, w1, w3, w4])) := d1422.ex e30
        have fr : ∀ {x : V} {d : PyData}, Dp K H28 x d → Dp K (upd H29 qv (.lst [.ref z0, w1, w3, w4])) x d := fun h => h.ex (e29.trans e30')
        have four : ∀ i : Nat, i < 4 → ∃ (wv : V) (ps' : List Pa), [V.ref z0, w1, w3, w4][i]? = some wv ∧ Dp K (upd H29 qv (.lst [.ref z0, w1, w3, w4])) wv (.tuple (ps'.map encPa)) ∧ ps'.length ≤ 30 + (n + 1) ∧ ∀ q ∈ ps', GoodS q.str := fun i hi => by
          have h : i = 0 ∨ i = 1 ∨ i = 2 ∨ i = 3 := by omega
          rcases h with rfl | rfl | rfl | rfl
          · exact ⟨.ref z0, [], rfl, fr f0b, Nat.zero_le _, fun q h => nomatch h⟩
          · refine ⟨w1, ps ++ [pm], rfl, by rw [List.map_append]; exact fr f1a, by rw [List.length_append]; show ps.length + 1 ≤ _; omega, fun q h => ?_⟩
            rcases List.mem_append.mp h with h | h
            · exact pok q h
            · rw [List.mem_singleton.mp h]; exact gpm
          · refine ⟨w3, (List.replicate 7 ps).flatten.take 30, rfl, by rw [List.map_take, List.map_flatten, List.map_replicate]; exact fr f3a, by rw [List.length_take]; omega, fun q h => ?_⟩
            obtain ⟨l, hl, hq⟩ := List.mem_flatten.mp (List.mem_of_mem_take h)
            rw [(List.mem_replicate.mp hl).2] at hq
            exact pok q hq
          · refine ⟨w4, pm :: ps, rfl, f4.ex e30', by show ps.length + 1 ≤ _; omega, fun q h => ?_⟩
            rcases List.mem_cons.mp h with h | h
            · rw [h]; exact gpm
            · exact pok q h
        generalize upd H29 qv (.lst [.ref z0, w1, w3, w4]) = H30 at e30' e30 gv30 d30 four
        have nvp : qv ≠ p := fun z => by
          obtain ⟨l, ns, pl, h1, h2, _⟩ := d30.st
          rw [z, h1] at gv30; cases gv30
        walk_at "rc"
        refine ⟨p, 4, rfl, by decide, d30.st, fun ri H31 ri0 ri1 S31 o31 i31 => ?_⟩
        have d31 : Dr p H30 H31 := ⟨S31, o31, i31.2⟩
        obtain ⟨ri, rfl⟩ := Int.eq_ofNat_of_zero_le ri0
        obtain ⟨wv, ps', hwv, fwv, lps, gps⟩ := four ri (by omega)
        have dd := d30.trans d31
        refine rd_ixL (SqL.of (d31.old _ _ nvp gv30)) (atI_nat hwv) ?_
        have fwv31 : Dp K (hid [p] H31) wv (.tuple (ps'.map encPa)) := (toH d30.st (noList_pas ps') fwv).ex (d31.kp (S := [p]) List.mem_cons_self).ex
        have gx31 := dd.old _ _ nxp gx14
        have dvx31 := dvx14.ex (dd.kp (S := [p]) List.mem_cons_self).ex
        walk_at "rc"
        refine rd_setV (i := 2) gx31 (by rw [vxl]; show 2 < 3; decide) ?_
        refine hN2 _ _ ⟨_, _, _, _, .jo nm ps', _, rfl, (d114.trans dd).put S11 hLx0, ?_, ?_, dpAll_putL gx31 (dus14.ex (dd.kp (S := [p]) List.mem_cons_self).ex), upd_same, ?_, fun y hy => ?_, lps⟩
        · rw [upd_ne (Ne.symm nxi)]; exact dd.old _ _ nip gi14
        · rw [upd_ne (Ne.symm nxl)]; exact dd.old _ _ nlp gl14
        · exact dpAll_putG (noList_row (.jo nm ps')) gx31 (dvx31.set fwv31 2)
        · rcases List.mem_cons.mp hy with h | h
          · rw [h]; exact nmok
          · obtain ⟨q, hq, rfl⟩ := List.mem_map.mp h
            exact gps q hq
      · rintro σ H15 ⟨k11, k13, k14, k15, l', vx', rfl, d15, gi15, gl15, dus15, gx15, dvx15, ok1, ok2⟩
        walk_at "rc"
        refine rd_tupL (SqL.of gx15) fun tq htq => ?_
        have e16 := Evl.Ex.new (o := .tup vx') htq
        have gi16 := e16 _ _ gi15
        have gl16 := e16 _ _ gl15
        have d16 := d15.ex e16
        have dus16 := dus15.ex (Ex.hid (S := [p]) e16)
        have f16 : Dp K (hid [p] (upd H15 tq (.tup vx'))) (.ref tq) (encLn l') := Dp.newT htq (notin_of (st1 d15.st.some.choose_spec) htq) dvx15
        generalize upd H15 tq (.tup vx') = H16 at e16 gi16 gl16 d16 dus16 f16
        walk_at "rc"
        refine rd_setV gl16 (by rw [llen]; exact hat) ?_
        have ls : (g.lin.map encLn).set at0 (encLn l') = (g.lin.set at0 l').map encLn := (List.map_set ..).symm
        refine hN _ _ ⟨_, _, _, _, _, _, Li, Ll, ⟨g.inp, g.lin.set at0 l', g.res⟩, us.set at0 (.ref tq), rfl, (d011.trans d16).put hS hLl0, by rw [upd_ne nil']; exact gi16, upd_same, ?_, ⟨sg.i, by show g.inp.length ≤ _; omega, fun y hy => ?_, by show (g.lin.set at0 l').length ≤ _; rw [List.length_set]; omega, sg.r⟩⟩
        · show DpAll K _ _ ((g.lin.set at0 l').map encLn)
          have ds := dus16.set f16 at0
          rw [ls] at ds
          exact dpAll_putL gl16 ds
        · rcases List.mem_or_eq_of_mem_set hy with h | h
          · exact ⟨(sg.l y h).1, by have := (sg.l y h).2; omega⟩
          · rw [h]; exact ⟨ok1, ok2⟩
    · rintro σ H' ⟨k8, k11, k12, k13, k14, k15, Li', Ll', g', us', rfl, d12, gi12, gl12, dus12, sg12⟩
      walk_at "rc"
      refine rd_tupL (SqL.of gi12) fun ti hti => ?_
      have e13 := Evl.Ex.new (o := .tup (g'.inp.map V.str)) hti
      have d13 := d12.ex e13
      have f13 : Dp K (hid [p] (upd H' ti (.tup (g'.inp.map V.str)))) (.ref ti) (.tuple (g'.inp.map PyData.str)) := Dp.newT hti (notin_of (st1 d12.st.some.choose_spec) hti) (dps_str g'.inp)
      have gl13 := e13 _ _ gl12
      have dus13 := dus12.ex (Ex.hid (S := [p]) e13)
      generalize upd H' ti (.tup (g'.inp.map V.str)) = H13 at d13 f13 gl13 dus13
      walk_at "rc"
      refine rd_tupL (SqL.of gl13) fun tl htl => ?_
      have e14 := Evl.Ex.new (o := .tup us') htl
      have d14 := d13.ex e14
      have f14 : Dp K (hid [p] (upd H13 tl (.tup us'))) (.ref tl) (.tuple (g'.lin.map encLn)) := Dp.newT htl (notin_of (st1 d13.st.some.choose_spec) htl) dus13
      have f13' := f13.ex (Ex.hid (S := [p]) e14)
      generalize upd H13 tl (.tup us') = H14 at d14 f14 f13'
      walk_at "rc"
      refine ⟨by show 3 ≤ sizeLine; omega, fun tq htq => ?_⟩
      exact q (.ref tq) g' _ (Dp.newT htq (notin_of (st1 d14.st.some.choose_spec) htq) (.cons f13' (.cons f14 (.cons (.str _) .nil)))) sg12 (d14.ex (Evl.Ex.new htq))
end
section
theorem rd_neNilT {A B : Addr} {H H0 : Hp} {ds : List PyData} {Q : VK} (e : Ex H0 H) (hd : Dp K H0 (.ref A) (.tuple ds)) (h2 : H B = some (.tup [])) (ly : Lay (.tuple ds)) (q : Q (.bl (!ds.isEmpty)) H) : oNe K (.ref A) (.ref B) H Q := by
  have l2 : Lay (.tuple []) := Ly.lay (Ly.tuple (n := 0) fun d hd => nomatch hd) (by decide)
  refine .inr ⟨.tuple ds, .tuple [], hd.ex e, .tup (Evl.st_of h2) .nil, ly.sh, l2.sh, ?_⟩
  have e : PyData.eqv (.tuple ds) (.tuple []) = ds.isEmpty := by
    cases ds with
    | nil => simp only [PyData.eqv, PyData.eqvAll, List.isEmpty_nil]
    | cons a l => simp only [PyData.eqv, PyData.eqvAll, List.isEmpty_cons]
  rw [e]
  exact q
theorem rd_mkV {C : Addr} {sp : Sp} {dvs : List V} {E : XK} {t : TA} {σ : L2.St} {H : Hp} {Q : VK} (h : t σ H fun vs H1 => ∀ x dx, H1 x = none → H1 dx = none → dx ≠ x → sp (.ref x :: (vs ++ dvs)) (upd (upd H1 dx (.own x)) x (.ins C dx [])) (fun v H2 => v = .non ∧ Q (.ref x) H2) E) : tMake C sp dvs E t σ H Q := h
theorem made_ex0 {C x dx : Addr} {H H' : Hp} (hx : H x = none) (hd : H dx = none) (k : Kp [x] (upd (upd H dx (.own x)) x (.ins C dx [])) H') : Ex H H' := fun b o q =>
  k b o (fun z => ne_of_none q hx (List.mem_singleton.mp z)) (by rw [upd_ne (ne_of_none q hx), upd_ne (ne_of_none q hd)]; exact q)
theorem ly_F {F : Flt} (h : ∀ x, F = some x → okS x.2) : Lay (encF F) := by
  cases F with
  | none => exact Ly.lay (Ly.tuple (n := 0) fun d hd => by
      rcases List.mem_cons.mp hd with e | hd
      · rw [e]; exact Ly.str (okS_lit "good")
      · rw [List.mem_singleton.mp hd]; exact Ly.none) (by decide)
  | some x =>
    obtain ⟨f, z⟩ := x
    refine Ly.lay (Ly.tuple (n := 0) fun d hd => ?_) (by decide)
    rcases List.mem_cons.mp hd with e | hd
    · rw [e]
      cases f with
      | bad => exact Ly.str (okS_lit "bad")
      | taken => exact Ly.str (okS_lit "taken")
      | unknown => exact Ly.str (okS_lit "unknown")
      | many => exact Ly.str (okS_lit "many")
      | text => exact Ly.str (okS_lit "text")
    · rw [List.mem_singleton.mp hd]; exact Ly.str (h _ rfl)
def FOk (F : Flt) : Prop := ∀ x, F = some x → okS x.2
theorem FOk.none : FOk none := fun _ h => nomatch h
theorem FOk.some {f : Fk} {z : Str} (h : okS z) : FOk (some (f, z)) := fun x e => by cases e; exact h
theorem FOk.or {F G : Flt} (a : FOk F) (b : FOk G) : FOk (F.or G) := fun x h => by
  cases F with
  | none => exact b x h
  | some y => exact a x h
theorem newName_ok {known : List Str} {n : Str} (h : okS n) : FOk (newName known n) := by
  unfold newName
  split
  · split
    · exact .some h
    · exact .none
  · exact .some h
theorem unkF_ok {known : List Str} : ∀ {ns : List Str}, (∀ z ∈ ns, okS z) → FOk (unkF known ns)
  | [], _ => .none
  | n :: ns, h => by
    unfold unkF
    split
    · exact unkF_ok fun z hz => h z (List.mem_cons_of_mem _ hz)
    · exact .some (h n List.mem_cons_self)
theorem entF_ok : ∀ {ns : List Str} {known : List Str}, (∀ z ∈ ns, okS z) → FOk (entF known ns)
  | [], _, _ => .none
  | n :: ns, known, h => (newName_ok (h n List.mem_cons_self)).or (entF_ok fun z hz => h z (List.mem_cons_of_mem _ hz))
theorem textF_ok {L : Str} : ∀ {ps : List Pa}, (∀ q ∈ ps, okS q.str) → FOk (textF L ps)
  | [], _ => .none
  | .txt z :: ps, h => by
    unfold textF
    split
    · exact textF_ok fun q hq => h q (List.mem_cons_of_mem _ hq)
    · exact .some (h (.txt z) List.mem_cons_self)
  | .nam z :: ps, h => textF_ok (ps := ps) fun q hq => h q (List.mem_cons_of_mem _ hq)
theorem thingF_ok {L : Str} {hp hr : Str → Bool} {l : Ln} (h : ∀ z ∈ l.strs, GoodS z) : FOk (thingF L hp hr l) := by
  cases l with
  | jo n ps =>
    show FOk (partsF L ps)
    unfold partsF
    split
    · exact textF_ok fun q hq => (h q.str (List.mem_cons_of_mem _ (List.mem_map_of_mem hq))).2
    · exact .some (okS_lit "parts")
  | tu n s => exact .none
  | rw n r s =>
    show FOk (if hr r = true then none else some (Fk.unknown, r))
    split
    · exact .none
    · exact .some (h r (by simp [Ln.strs])).2
  | ch n s p y d =>
    show FOk (if hp p = true then none else some (Fk.unknown, p))
    split
    · exact .none
    · exact .some (h p (by simp [Ln.strs])).2
  | ne s p =>
    show FOk (if hp p = true then none else some (Fk.unknown, p))
    split
    · exact .none
    · exact .some (h p (by simp [Ln.strs])).2
theorem linesF_ok {L : Str} {hp hr : Str → Bool} : ∀ {ls : List Ln} {known : List Str}, (∀ l ∈ ls, ∀ z ∈ l.strs, GoodS z) → FOk (linesF L hp hr known ls)
  | [], _, _ => .none
  | l :: ls, known, h => by
    have hl := h l List.mem_cons_self
    exact ((unkF_ok fun z hz => (hl z (reads_strs hz)).2).or ((thingF_ok hl).or (entF_ok fun z hz => (hl z (gives_strs hz)).2))).or (linesF_ok fun l hl => h l (List.mem_cons_of_mem _ hl))
theorem chk_ok {L : Str} {hp hr : Str → Bool} {g : Prg} (ok : g.Ok) : FOk (chk L hp hr g) := by
  unfold chk
  split
  · split
    · exact .some (okS_lit "lines")
    · exact (entF_ok fun z hz => (ok.i z hz).2).or ((linesF_ok fun l hl => (ok.l l hl).s).or (unkF_ok fun z hz => by rw [List.mem_singleton.mp hz]; exact ok.r.2))
  · exact .some (okS_lit "inputs")
theorem sz0 {L : Str} {ksp ksr : List Str} {g : Prg} (h : PrgIn L ksp ksr 6 g) (hp : Nms ksp []) (hr : Nms ksr []) (ok : okS L) : g.Sz 0 := by
  have nm : ∀ z ∈ g.inp ++ g.lin.flatMap Ln.gives, GoodS z := fun z hz => name_good (h.nm.g z hz)
  refine ⟨fun z hz => nm z (List.mem_append.mpr (.inl hz)), h.i1, fun l hl => ?_, h.ll, nm _ h.rs⟩
  obtain ⟨i, hi, e⟩ := List.getElem_of_mem hl
  obtain ⟨name, hin, hnm⟩ := h.ln i l (by rw [List.getElem?_eq_getElem hi, e])
  have known : ∀ z ∈ g.inp ++ (g.lin.take i).flatMap Ln.gives, GoodS z := fun z hz => by
    refine nm z ?_
    rcases List.mem_append.mp hz with hz | hz
    · exact List.mem_append.mpr (.inl hz)
    · obtain ⟨l2, h2, hz⟩ := List.mem_flatMap.mp hz
      exact List.mem_append.mpr (.inr (List.mem_flatMap.mpr ⟨l2, List.mem_of_mem_take h2, hz⟩))
  have gn := name_good hnm
  cases l with
  | jo n ps =>
    obtain ⟨rfl, _, h3, hq⟩ := hin
    refine ⟨fun z hz => ?_, by show ps.length ≤ 30 + 0; omega⟩
    rcases List.mem_cons.mp hz with e | hz
    · rw [e]; exact gn
    · obtain ⟨q, hq1, rfl⟩ := List.mem_map.mp hz
      have := hq q hq1
      cases q with
      | txt y => exact ⟨Nat.le_trans this.2 (by decide), okS_sub ok fun c hc => this.1 c hc⟩
      | nam y => exact known y this
  | tu n s =>
    obtain ⟨rfl, h1⟩ := hin
    refine ⟨fun z hz => ?_, Nat.zero_le _⟩
    simp only [Ln.strs, List.mem_cons, List.not_mem_nil, or_false] at hz
    rcases hz with rfl | rfl
    · exact gn
    · exact known _ h1
  | rw n r s =>
    obtain ⟨rfl, h1, h2⟩ := hin
    refine ⟨fun z hz => ?_, Nat.zero_le _⟩
    simp only [Ln.strs, List.mem_cons, List.not_mem_nil, or_false] at hz
    rcases hz with rfl | rfl | rfl
    · exact gn
    · exact name_good (hr.g _ h1)
    · exact known _ h2
  | ch n s c y d =>
    obtain ⟨rfl, h1, h2, h3, h4⟩ := hin
    refine ⟨fun z hz => ?_, Nat.zero_le _⟩
    simp only [Ln.strs, List.mem_cons, List.not_mem_nil, or_false] at hz
    rcases hz with rfl | rfl | rfl | rfl | rfl
    · exact gn
    · exact known _ h1
    · exact name_good (hp.g _ h2)
    · exact known _ h3
    · exact known _ h4
  | ne s c =>
    obtain ⟨h1, h2⟩ := hin
    refine ⟨fun z hz => ?_, Nat.zero_le _⟩
    simp only [Ln.strs, List.mem_cons, List.not_mem_nil, or_false] at hz
    rcases hz with rfl | rfl
    · exact known _ h1
    · exact name_good (hp.g _ h2)
theorem BkF.dr {C : Addr} {H H' : Hp} {b p : Addr} {ls : Str} {dp dr dm : Addr} {kp kr : List (L2.Key × V)} (h : BkF C H b ls dp dr dm kp kr) (n1 : b ≠ p) (n2 : dp ≠ p) (n3 : dr ≠ p) (d : Dr p H H') : BkF C H' b ls dp dr dm kp kr :=
  ⟨h.ob.imp fun dx z => d.old _ _ n1 z, d.old _ _ n2 h.p, d.old _ _ n3 h.r, h.np, h.nr, h.lp, h.lr⟩
variable (T : Txt K mg)
abbrev lvLaw := 12
def spLaw : Sp := fun vs H Q _ => ∃ (a : Addr) (ns : List Int), vs = [.ref a] ∧ SqL K H a (ns.map V.int) ∧ ns.length ≤ 63 ∧ Tbs nmT (Ps T) H ∧ ∀ H', Q (.bl true) H'
theorem ok_law (B : Bs T base) : FnOk P w K mg base CX0 lvLaw T.a_law T.d_law ["script"] (spLaw T) := by
  refine T.f_law.ok sc_law (fun vs H Q E h => ?_) (fun cdv A outer s H vs Q E hr h => ?_)
  · obtain ⟨_, _, rfl, _⟩ := h; rfl
  · obtain ⟨a, ns, rfl, hs, hn, hT, q⟩ := h
    have sz : 12000000 ≤ sizeLine := by decide
    refine ⟨_, (pss_cons (ps_set (i := 1) sc_law.nd rfl (by first | exact Or.inl rfl | exact Or.inr rfl) (pe_callE (ok_state T) (hr.mono (by decide)) T.o_state (pa_cons (pv 0) (pa_cons pe_int (pa_cons pe_int pa_nil)))))
  (pss_cons (ps_set (i := 2) sc_law.nd rfl (by first | exact Or.inl rfl | exact Or.inr rfl) (pe_callE (ok_letters T) (hr.mono (by decide)) T.o_letters (pa_cons (pv 1) (pa_cons pe_int pa_nil))))
  (pss_cons (ps_set (i := 3) sc_law.nd rfl (by first | exact Or.inl rfl | exact Or.inr rfl) (pe_callE (ok_book T) (hr.mono (by decide)) T.o_book (pa_cons (pv 2) (pa_cons (pv 1) (pa_cons pe_int (pa_cons pe_int pa_nil))))))
  (pss_cons (ps_set (i := 4) sc_law.nd rfl (by first | exact Or.inl rfl | exact Or.inr rfl) (pe_callE (ok_made_book T) (hr.mono (by decide)) T.o_made_book (pa_cons (pv 2) (pa_cons (pv 3) pa_nil))))
  (pss_cons (ps_for PassesOwn.never rfl (pi_range1 (by rfl) T.nb_range (pa_cons pe_int pa_nil)) (pg_name (i := 5) sc_law.nd rfl (by first | exact Or.inl rfl | exact Or.inr rfl))
    (pss_cons (ps_set (i := 6) sc_law.nd rfl (by first | exact Or.inl rfl | exact Or.inr rfl) (pe_callE (ok_program T) (hr.mono (by decide)) T.o_program (pa_cons (pv 2) (pa_cons (pv 1) (pa_cons (pv 3) (pa_cons pe_int pa_nil))))))
  (pss_one (ps_for PassesOwn.never rfl (pi_range1 (by rfl) T.nb_range (pa_cons pe_int pa_nil)) (pg_name (i := 7) sc_law.nd rfl (by first | exact Or.inl rfl | exact Or.inr rfl))
    (pss_cons (ps_set (i := 8) sc_law.nd rfl (by first | exact Or.inl rfl | exact Or.inr rfl) (pe_callE (ok_told T) (hr.mono (by decide)) T.o_told (pa_cons (pv 4) (pa_cons (pe_make T.mk_Program (ok_Program_init T) (hr.mono (by decide)) (by rfl) T.g_Program T.b_Program_init .nil pass0 (pa_cons (pe_callTy (kLstOf K) (by rfl) T.nb_list (by decide +kernel) (pa_cons (pe_ix (kIx K) (pv 6) pe_int (fun _ _ => rfl)) pa_nil)) (pa_cons (pe_callTy (kLstOf K) (by rfl) T.nb_list (by decide +kernel) (pa_cons (pe_ix (kIx K) (pv 6) pe_int (fun _ _ => rfl)) pa_nil)) (pa_cons (pe_ix (kIx K) (pv 6) pe_int (fun _ _ => rfl)) pa_nil)))) pa_nil))))
  (pss_cons (ps_if (pt_cmpR (kNe K rfl hr.units) (pv 8) (pe_callE (ok_due T) (hr.mono (by decide)) T.o_due (pa_cons (pv 2) (pa_cons (pv 3) (pa_cons (pv 6) pa_nil)))) (by first | rfl | exact nomark _))
    (pss_one (ps_ret pe_bl))
    pss_nil)
  (pss_one (ps_set (i := 6) sc_law.nd rfl (by first | exact Or.inl rfl | exact Or.inr rfl) (pe_ifExp (pt_cmpR (kNe K rfl hr.units) (pe_ix (kIx K) (pv 6) pe_int (fun _ _ => rfl)) (pe_tup pa_nil) (by first | rfl | exact nomark _)) (pe_callE (ok_spoilt T) (hr.mono (by decide)) T.o_spoilt (pa_cons (pv 2) (pa_cons (pv 1) (pa_cons (pv 3) (pa_cons (pv 6) pa_nil))))) (pv 6))))))))))
  (pss_one (ps_ret pe_bl))))))), ?_⟩
    walk_at "rc"
    refine ⟨a, ns, 0, 14, rfl, hs, by decide, by decide, by decide, by decide, fun p H1 hp e1 S1 => ?_⟩
    walk_at "rc"
    refine ⟨p, 3, rfl, by decide, by decide, S1, fun L H2 al d2 => ?_⟩
    have S2 := d2.st
    have l0 := al.l0
    have l1 := al.l1
    walk_at "rc"
    refine ⟨p, L, 1, 1, rfl, al, S2, by decide, by decide, by decide, fun bv D1 D2 kp kr ksp ksr H3 LB d3 => ?_⟩
    have S3 := d3.st
    obtain ⟨rf, hrf⟩ : ∃ rf : Str → Parts, ∀ z v, valV kr (.inr z) = some v → Dp K (hid [p] H3) v (partsL (rf z)) ∧ goodR L (rf z) ∧ Sm (rf z) := by
      have h1 : ∀ z : Str, ∃ r : Parts, ∀ v, valV kr (.inr z) = some v → Dp K (hid [p] H3) v (partsL r) ∧ goodR L r ∧ Sm r := fun z => by
        cases hv : valV kr (.inr z) with
        | none => exact ⟨⟨"", [], []⟩, fun v e => nomatch e⟩
        | some v =>
          obtain ⟨r, a1, a2, a3, _⟩ := LB.vr _ _ hv
          exact ⟨r, fun v' e => by cases e; exact ⟨a1, a2, a3⟩⟩
      exact ⟨fun z => Classical.choose (h1 z), fun z => Classical.choose_spec (h1 z)⟩
    have ga : goodA L := ⟨l0, by omega, fun c hc => ⟨al.pl c hc, nodup_count.mpr al.nd c hc⟩⟩
    walk_at "rc"
    refine ⟨p, L, 1, 1, bv, D1, D2, kp, kr, ksp, ksr, rf, rfl, LB, ga, hrf, fun m dp dr dm kp' kr' H4 e4 m0 dp0 dr0 dm0 BF v1 v2 v3 gdm => ?_⟩
    have S4 := S3.ex e4
    have LB4 := LB.ex e4
    walk_at "rc"
    walk_at "rs"
    walk_at "rc"
    refine ⟨4, rfl, by decide, by decide, ?_⟩
    have np : ∀ {x : Addr}, H3 x = none → x ≠ p := fun {x} h z => by
      obtain ⟨o, ho⟩ := S3.some
      rw [z, ho] at h; cases h
    have ehp : (fun z => (valV kp' (.inr z)).isSome) = fun z => decide (z ∈ ksp) := funext fun z => by rw [v1]; exact keys_some LB.yp z
    have ehr : (fun z => (valV kr' (.inr z)).isSome) = fun z => decide (z ∈ ksr) := funext fun z => by
      rw [← keys_some LB.yr z]
      have := v2 z
      cases h1 : valV kr' (.inr z) <;> cases h2 : valV kr (.inr z) <;> simp_all
    refine fo_range (n := 4) (fun i σ H' => ∃ k5 k6 k7 k8 : Option V, σ = [some (.ref a), some (.ref p), some (.str L), some bv, some (.ref m), k5, k6, k7, k8] ∧ Dr p H4 H') ⟨_, _, _, _, rfl, Dr.refl S4⟩ ?_ ?_
    · rintro i σ H5 hi ⟨k5, k6, k7, k8, rfl, d5⟩
      walk_at "rc"
      refine ⟨p, L, 1, 1, 6, bv, D1, D2, kp, kr, ksp, ksr, rfl, LB4.dr S4 d5, al, d5.st, by decide, fun v g H6 dv hg d6 => ?_⟩
      have sg0 := sz0 hg LB.gp LB.gr al.ok
      walk_at "rc"
      refine ⟨4, rfl, by decide, by decide, ?_⟩
      refine fo_range (n := 4) (fun j σ H' => ∃ (k7 k8 : Option V) (v : V) (g : Prg), σ = [some (.ref a), some (.ref p), some (.str L), some bv, some (.ref m), some (.int (i : Int)), some v, k7, k8] ∧ Dr p H4 H' ∧ Dp K (hid [p] H') v (encG g) ∧ g.Sz j) ⟨_, _, v, g, rfl, d5.trans d6, dv, sg0⟩ ?_ ?_
      · clear dv sg0 hg v g
        rintro j σ H7 hj ⟨k7, k8, v, g, rfl, d7, dv, sg⟩
        have ok := sg.ok (by omega)
        have dv' : Dp K (hid [p] H7) v (.tuple [.tuple (g.inp.map PyData.str), .tuple (g.lin.map encLn), .str g.res]) := dv
        have S7 := d7.st
        walk_at "rc"
        refine rd_mkV ?_
        walk_at "rc"
        refine rd_ixDT hid_ex dv' (i := 0) rfl fun v0 h0 => ?_
        walk_at "rc"
        refine rd_lstSq0 hid_ex (.inr h0) fun qi vi hqi hvi => ?_
        have eu := dp_strs' hvi
        subst eu
        have e8 := Evl.Ex.new (o := .lst (g.inp.map V.str)) hqi
        have gi8 : upd H7 qi (.lst (g.inp.map V.str)) qi = some (.lst (g.inp.map V.str)) := upd_same
        generalize upd H7 qi (.lst (g.inp.map V.str)) = H8 at e8 gi8
        walk_at "rc"
        refine rd_ixDT (hid_ex.trans e8) dv' (i := 1) rfl fun v1' h1' => ?_
        walk_at "rc"
        refine rd_lstSq0 (hid_ex.trans e8) (.inr h1') fun ql us hql dus => ?_
        have e9' := Evl.Ex.new (o := .lst us) hql
        have e9 := e8.trans e9'
        have gi9 := e9' _ _ gi8
        have fl9 : Dp K (upd H8 ql (.lst us)) (.ref ql) (.list (g.lin.map encLn)) := .lst (SqL.of upd_same) (dus.ex (hid_ex.trans e9))
        generalize upd H8 ql (.lst us) = H9 at e9' e9 gi9 fl9
        have fi9 : Dp K H9 (.ref qi) (.list (g.inp.map PyData.str)) := .lst (SqL.of gi9) (dps_str g.inp)
        walk_at "rc"
        refine rd_ixDT (hid_ex.trans e9) dv' (i := 2) rfl fun v2' h2' => ?_
        cases Dp.str_iff h2'
        walk_at "rc"
        intro x dx hx hdx ne
        have ex9 := upd2_ex (C := T.C_Program) hx hdx
        refine ⟨x, dx, .ref qi, .ref ql, g, rfl, upd_same, .inl (fi9.ex ex9), .inl (fl9.ex ex9), fun H10 k10 PG => ⟨rfl, ?_⟩⟩
        have e10 := e9.trans (made_ex hx hdx ne k10)
        have d10 := d7.ex e10
        walk_at "rc"
        refine ⟨m, x, g, L, dp, dr, dm, kp', kr', rfl, BF.dr (np m0) (np dp0) (np dr0) d10, PG, ok, fun tv H11 e11 dtv => ?_⟩
        rw [ehp, ehr] at dtv
        have e711 := e10.trans e11
        have d11 := d10.ex e11
        walk_at "rc"
        walk_at "rs"
        walk_at "rc"
        refine ⟨p, L, 1, 1, bv, v, D1, D2, kp, kr, ksp, ksr, g, rfl, LB4.dr S4 d11, (dv.ex hid_ex).ex e711, ok, fun wv H12 e12 dwv => ?_⟩
        have e712 := e711.trans e12
        have d12 := d11.ex e12
        refine rd_neD e12 (Evl.Ex.refl H12) dtv dwv (ly_F (chk_ok ok)) ?_
        walk_at "rc"
        have dv12 := dv'.ex (Ex.hid (S := [p]) e712)
        refine rd_ife ?_
        walk_at "rc"
        refine rd_ixDT hid_ex dv12 (i := 0) rfl fun v3 h3 => ?_
        obtain ⟨A3, vs3, rfl, _, _⟩ := Dp.tupv h3
        walk_at "rc"
        refine ⟨Nat.zero_le _, fun z0 hz0 => ?_⟩
        have e13 := Evl.Ex.new (o := .tup []) hz0
        have g13 : upd H12 z0 (.tup []) z0 = some (.tup []) := upd_same
        have d13 := d12.ex e13
        have dv13 := dv12.ex (Ex.hid (S := [p]) e13)
        generalize upd H12 z0 (.tup []) = H13 at e13 g13 d13 dv13
        refine rd_neNilT (hid_ex.trans e13) h3 g13 (Ly.lay (Ly.tuple (n := 0) fun d hd => by
          obtain ⟨z, hz, rfl⟩ := List.mem_map.mp hd
          exact Ly.str (sg.i z hz).2) (by decide)) ?_
        refine ⟨_, rfl, rd_ite (fun hne => ?_) fun hne => ?_⟩
        · have hpos : 0 < g.inp.length := by
            cases hh : g.inp with
            | nil => rw [hh] at hne; cases hne
            | cons a l => exact Nat.succ_pos _
          walk_at "rc"
          refine ⟨p, L, 1, 1, bv, v, D1, D2, kp, kr, ksp, ksr, g, j, rfl, LB4.dr S4 d13, al, d13.st, dv13, sg, by omega, hpos, fun v' g' H14 dv14 sg14 d14 => ?_⟩
          exact ⟨_, _, v', g', rfl, d13.trans d14, dv14, sg14⟩
        · walk_at "rc"
          refine ⟨_, _, v, g, rfl, d13, dv13, ⟨sg.i, by have := sg.il; omega, fun l hl => ⟨(sg.l l hl).1, by have := (sg.l l hl).2; omega⟩, by have := sg.ll; omega, sg.r⟩⟩
      · rintro σ H7 ⟨k7, k8, v, g, rfl, d7, _, _⟩
        exact ⟨_, _, _, _, rfl, d7⟩
    · rintro σ H5 ⟨k5, k6, k7, k8, rfl, d5⟩
      walk_at "rc"
      exact q H5
end
end
theorem all_mk {l : PySem.W.OpenLaw} {w : World} {K : PySem.W.Frag} {h : Heap} {mg : Str → Option Value} {fa : Addr} (X : K.In h) (G : h.Ns mainGlobals mg) (hfa : mg "law" = some (.ref fa))
    {cc_least_from PP_least_from cc_both PP_both cc_either PP_either cc__paired PP__paired cc_chained_texts PP_chained_texts cc_repetition PP_repetition : Addr}
    {a__wall : Addr} {od__wall an__wall : Option Addr} {sl__wall : Array (Option Value)} {oc__wall kV__wall dc__wall pm__wall cd__wall ct__wall : Value}
    {a_check_alphabet : Addr} {od_check_alphabet an_check_alphabet : Option Addr} {sl_check_alphabet : Array (Option Value)} {oc_check_alphabet kV_check_alphabet dc_check_alphabet pm_check_alphabet cd_check_alphabet ct_check_alphabet : Value}
    {a_is_text : Addr} {od_is_text an_is_text : Option Addr} {sl_is_text : Array (Option Value)} {oc_is_text kV_is_text dc_is_text pm_is_text cd_is_text ct_is_text : Value}
    {a_check_text : Addr} {od_check_text an_check_text : Option Addr} {sl_check_text : Array (Option Value)} {oc_check_text kV_check_text dc_check_text pm_check_text cd_check_text ct_check_text : Value}
    {a_block_numbers : Addr} {od_block_numbers an_block_numbers : Option Addr} {sl_block_numbers : Array (Option Value)} {oc_block_numbers kV_block_numbers dc_block_numbers pm_block_numbers cd_block_numbers ct_block_numbers : Value}
    {a_first_states : Addr} {od_first_states an_first_states : Option Addr} {sl_first_states : Array (Option Value)} {oc_first_states kV_first_states dc_first_states pm_first_states cd_first_states ct_first_states : Value}
    {a__blocks_of_kinds : Addr} {od__blocks_of_kinds an__blocks_of_kinds : Option Addr} {sl__blocks_of_kinds : Array (Option Value)} {oc__blocks_of_kinds kV__blocks_of_kinds dc__blocks_of_kinds pm__blocks_of_kinds cd__blocks_of_kinds ct__blocks_of_kinds : Value}
    {a_explored : Addr} {od_explored an_explored : Option Addr} {sl_explored : Array (Option Value)} {oc_explored kV_explored dc_explored pm_explored cd_explored ct_explored : Value}
    {a_ways_back : Addr} {od_ways_back an_ways_back : Option Addr} {sl_ways_back : Array (Option Value)} {oc_ways_back kV_ways_back dc_ways_back pm_ways_back cd_ways_back ct_ways_back : Value}
    {a_least : Addr} {od_least an_least : Option Addr} {sl_least : Array (Option Value)} {oc_least kV_least dc_least pm_least cd_least ct_least : Value}
    {a_least_from : Addr} {od_least_from an_least_from : Option Addr} {sl_least_from : Array (Option Value)} {oc_least_from kV_least_from dc_least_from pm_least_from cd_least_from ct_least_from : Value}
    {a_least_explored : Addr} {od_least_explored an_least_explored : Option Addr} {sl_least_explored : Array (Option Value)} {oc_least_explored kV_least_explored dc_least_explored pm_least_explored cd_least_explored ct_least_explored : Value}
    {a__merged : Addr} {od__merged an__merged : Option Addr} {sl__merged : Array (Option Value)} {oc__merged kV__merged dc__merged pm__merged cd__merged ct__merged : Value}
    {a_sources_by : Addr} {od_sources_by an_sources_by : Option Addr} {sl_sources_by : Array (Option Value)} {oc_sources_by kV_sources_by dc_sources_by pm_sources_by cd_sources_by ct_sources_by : Value}
    {a_both : Addr} {od_both an_both : Option Addr} {sl_both : Array (Option Value)} {oc_both kV_both dc_both pm_both cd_both ct_both : Value}
    {a_either : Addr} {od_either an_either : Option Addr} {sl_either : Array (Option Value)} {oc_either kV_either dc_either pm_either cd_either ct_either : Value}
    {a_opposite : Addr} {od_opposite an_opposite : Option Addr} {sl_opposite : Array (Option Value)} {oc_opposite kV_opposite dc_opposite pm_opposite cd_opposite ct_opposite : Value}
    {a__paired : Addr} {od__paired an__paired : Option Addr} {sl__paired : Array (Option Value)} {oc__paired kV__paired dc__paired pm__paired cd__paired ct__paired : Value}
    {a_chained_texts : Addr} {od_chained_texts an_chained_texts : Option Addr} {sl_chained_texts : Array (Option Value)} {oc_chained_texts kV_chained_texts dc_chained_texts pm_chained_texts cd_chained_texts ct_chained_texts : Value}
    {a_repetition : Addr} {od_repetition an_repetition : Option Addr} {sl_repetition : Array (Option Value)} {oc_repetition kV_repetition dc_repetition pm_repetition cd_repetition ct_repetition : Value}
    {a__lot : Addr} {od__lot an__lot : Option Addr} {sl__lot : Array (Option Value)} {oc__lot kV__lot dc__lot pm__lot cd__lot ct__lot : Value}
    {a__after : Addr} {od__after an__after : Option Addr} {sl__after : Array (Option Value)} {oc__after kV__after dc__after pm__after cd__after ct__after : Value}
    {a__accepts_one : Addr} {od__accepts_one an__accepts_one : Option Addr} {sl__accepts_one : Array (Option Value)} {oc__accepts_one kV__accepts_one dc__accepts_one pm__accepts_one cd__accepts_one ct__accepts_one : Value}
    {a_parts_of : Addr} {od_parts_of an_parts_of : Option Addr} {sl_parts_of : Array (Option Value)} {oc_parts_of kV_parts_of dc_parts_of pm_parts_of cd_parts_of ct_parts_of : Value}
    {a_flat_terms : Addr} {od_flat_terms an_flat_terms : Option Addr} {sl_flat_terms : Array (Option Value)} {oc_flat_terms kV_flat_terms dc_flat_terms pm_flat_terms cd_flat_terms ct_flat_terms : Value}
    {a_machine_of : Addr} {od_machine_of an_machine_of : Option Addr} {sl_machine_of : Array (Option Value)} {oc_machine_of kV_machine_of dc_machine_of pm_machine_of cd_machine_of ct_machine_of : Value}
    {a__machine_of_term : Addr} {od__machine_of_term an__machine_of_term : Option Addr} {sl__machine_of_term : Array (Option Value)} {oc__machine_of_term kV__machine_of_term dc__machine_of_term pm__machine_of_term cd__machine_of_term ct__machine_of_term : Value}
    {a__machine_of_leaf : Addr} {od__machine_of_leaf an__machine_of_leaf : Option Addr} {sl__machine_of_leaf : Array (Option Value)} {oc__machine_of_leaf kV__machine_of_leaf dc__machine_of_leaf pm__machine_of_leaf cd__machine_of_leaf ct__machine_of_leaf : Value}
    {a_is_name : Addr} {od_is_name an_is_name : Option Addr} {sl_is_name : Array (Option Value)} {oc_is_name kV_is_name dc_is_name pm_is_name cd_is_name ct_is_name : Value}
    {a_check_program : Addr} {od_check_program an_check_program : Option Addr} {sl_check_program : Array (Option Value)} {oc_check_program kV_check_program dc_check_program pm_check_program cd_check_program ct_check_program : Value}
    {a_names_read : Addr} {od_names_read an_names_read : Option Addr} {sl_names_read : Array (Option Value)} {oc_names_read kV_names_read dc_names_read pm_names_read cd_names_read ct_names_read : Value}
    {a_names_given : Addr} {od_names_given an_names_given : Option Addr} {sl_names_given : Array (Option Value)} {oc_names_given kV_names_given dc_names_given pm_names_given cd_names_given ct_names_given : Value}
    {a__check_new_name : Addr} {od__check_new_name an__check_new_name : Option Addr} {sl__check_new_name : Array (Option Value)} {oc__check_new_name kV__check_new_name dc__check_new_name pm__check_new_name cd__check_new_name ct__check_new_name : Value}
    {a__check_known : Addr} {od__check_known an__check_known : Option Addr} {sl__check_known : Array (Option Value)} {oc__check_known kV__check_known dc__check_known pm__check_known cd__check_known ct__check_known : Value}
    {a__check_book_has : Addr} {od__check_book_has an__check_book_has : Option Addr} {sl__check_book_has : Array (Option Value)} {oc__check_book_has kV__check_book_has dc__check_book_has pm__check_book_has cd__check_book_has ct__check_book_has : Value}
    {a__check_parts : Addr} {od__check_parts an__check_parts : Option Addr} {sl__check_parts : Array (Option Value)} {oc__check_parts kV__check_parts dc__check_parts pm__check_parts cd__check_parts ct__check_parts : Value}
    {a_cell : Addr} {od_cell an_cell : Option Addr} {sl_cell : Array (Option Value)} {oc_cell kV_cell dc_cell pm_cell cd_cell ct_cell : Value}
    {a_numbers : Addr} {od_numbers an_numbers : Option Addr} {sl_numbers : Array (Option Value)} {oc_numbers kV_numbers dc_numbers pm_numbers cd_numbers ct_numbers : Value}
    {a_state : Addr} {od_state an_state : Option Addr} {sl_state : Array (Option Value)} {oc_state kV_state dc_state pm_state cd_state ct_state : Value}
    {a_next : Addr} {od_next an_next : Option Addr} {sl_next : Array (Option Value)} {oc_next kV_next dc_next pm_next cd_next ct_next : Value}
    {a_letters : Addr} {od_letters an_letters : Option Addr} {sl_letters : Array (Option Value)} {oc_letters kV_letters dc_letters pm_letters cd_letters ct_letters : Value}
    {a_pattern : Addr} {od_pattern an_pattern : Option Addr} {sl_pattern : Array (Option Value)} {oc_pattern kV_pattern dc_pattern pm_pattern cd_pattern ct_pattern : Value}
    {a_word : Addr} {od_word an_word : Option Addr} {sl_word : Array (Option Value)} {oc_word kV_word dc_word pm_word cd_word ct_word : Value}
    {a_maker : Addr} {od_maker an_maker : Option Addr} {sl_maker : Array (Option Value)} {oc_maker kV_maker dc_maker pm_maker cd_maker ct_maker : Value}
    {a_name : Addr} {od_name an_name : Option Addr} {sl_name : Array (Option Value)} {oc_name kV_name dc_name pm_name cd_name ct_name : Value}
    {a_named : Addr} {od_named an_named : Option Addr} {sl_named : Array (Option Value)} {oc_named kV_named dc_named pm_named cd_named ct_named : Value}
    {a_book : Addr} {od_book an_book : Option Addr} {sl_book : Array (Option Value)} {oc_book kV_book dc_book pm_book cd_book ct_book : Value}
    {a_made_book : Addr} {od_made_book an_made_book : Option Addr} {sl_made_book : Array (Option Value)} {oc_made_book kV_made_book dc_made_book pm_made_book cd_made_book ct_made_book : Value}
    {a_pick : Addr} {od_pick an_pick : Option Addr} {sl_pick : Array (Option Value)} {oc_pick kV_pick dc_pick pm_pick cd_pick ct_pick : Value}
    {a_line : Addr} {od_line an_line : Option Addr} {sl_line : Array (Option Value)} {oc_line kV_line dc_line pm_line cd_line ct_line : Value}
    {a_program : Addr} {od_program an_program : Option Addr} {sl_program : Array (Option Value)} {oc_program kV_program dc_program pm_program cd_program ct_program : Value}
    {a_told : Addr} {od_told an_told : Option Addr} {sl_told : Array (Option Value)} {oc_told kV_told dc_told pm_told cd_told ct_told : Value}
    {a_law_is_name : Addr} {od_law_is_name an_law_is_name : Option Addr} {sl_law_is_name : Array (Option Value)} {oc_law_is_name kV_law_is_name dc_law_is_name pm_law_is_name cd_law_is_name ct_law_is_name : Value}
    {a_entered : Addr} {od_entered an_entered : Option Addr} {sl_entered : Array (Option Value)} {oc_entered kV_entered dc_entered pm_entered cd_entered ct_entered : Value}
    {a_read_names : Addr} {od_read_names an_read_names : Option Addr} {sl_read_names : Array (Option Value)} {oc_read_names kV_read_names dc_read_names pm_read_names cd_read_names ct_read_names : Value}
    {a_things : Addr} {od_things an_things : Option Addr} {sl_things : Array (Option Value)} {oc_things kV_things dc_things pm_things cd_things ct_things : Value}
    {a_due : Addr} {od_due an_due : Option Addr} {sl_due : Array (Option Value)} {oc_due kV_due dc_due pm_due cd_due ct_due : Value}
    {a_odd : Addr} {od_odd an_odd : Option Addr} {sl_odd : Array (Option Value)} {oc_odd kV_odd dc_odd pm_odd cd_odd ct_odd : Value}
    {a_spoilt : Addr} {od_spoilt an_spoilt : Option Addr} {sl_spoilt : Array (Option Value)} {oc_spoilt kV_spoilt dc_spoilt pm_spoilt cd_spoilt ct_spoilt : Value}
    {a_law : Addr} {od_law an_law : Option Addr} {sl_law : Array (Option Value)} {oc_law kV_law dc_law pm_law cd_law ct_law : Value}
    {C_AnytextError C_LetterError C_MachineError C_ProgramError C_BadAlphabet C_BadText C_BadMachine C_BadRewriter C_BadName C_NameTaken C_UnknownName C_TooMany : Addr}
    {a_init T_init : Addr} {od_init an_init : Option Addr} {sl_init : Array (Option Value)} {oc_init kV_init dc_init pm_init cd_init ct_init : Value} {dd_init : Option Addr} {nn_init : Nat} {sm_init : Array (Option Value)} {oc2_init : Value}
    {nm_BadAlphabet q_BadAlphabet : Str} {N_BadAlphabet : Addr} {bs_BadAlphabet : List Value} {sn_BadAlphabet : List Str} {sb_BadAlphabet : List Value} {ab_BadAlphabet : Bool} {col_BadAlphabet : Option Bool} {dd_BadAlphabet : Option Addr} {m0_BadAlphabet m1_BadAlphabet m2_BadAlphabet m3_BadAlphabet m5_BadAlphabet : Option Value}
    {nm_BadMachine q_BadMachine : Str} {N_BadMachine : Addr} {bs_BadMachine : List Value} {sn_BadMachine : List Str} {sb_BadMachine : List Value} {ab_BadMachine : Bool} {col_BadMachine : Option Bool} {dd_BadMachine : Option Addr} {m0_BadMachine m1_BadMachine m2_BadMachine m3_BadMachine m5_BadMachine : Option Value}
    {nm_BadName q_BadName : Str} {N_BadName : Addr} {bs_BadName : List Value} {sn_BadName : List Str} {sb_BadName : List Value} {ab_BadName : Bool} {col_BadName : Option Bool} {dd_BadName : Option Addr} {m0_BadName m1_BadName m2_BadName m3_BadName m5_BadName : Option Value}
    {nm_BadRewriter q_BadRewriter : Str} {N_BadRewriter : Addr} {bs_BadRewriter : List Value} {sn_BadRewriter : List Str} {sb_BadRewriter : List Value} {ab_BadRewriter : Bool} {col_BadRewriter : Option Bool} {dd_BadRewriter : Option Addr} {m0_BadRewriter m1_BadRewriter m2_BadRewriter m3_BadRewriter m5_BadRewriter : Option Value}
    {nm_BadText q_BadText : Str} {N_BadText : Addr} {bs_BadText : List Value} {sn_BadText : List Str} {sb_BadText : List Value} {ab_BadText : Bool} {col_BadText : Option Bool} {dd_BadText : Option Addr} {m0_BadText m1_BadText m2_BadText m3_BadText m5_BadText : Option Value}
    {nm_NameTaken q_NameTaken : Str} {N_NameTaken : Addr} {bs_NameTaken : List Value} {sn_NameTaken : List Str} {sb_NameTaken : List Value} {ab_NameTaken : Bool} {col_NameTaken : Option Bool} {dd_NameTaken : Option Addr} {m0_NameTaken m1_NameTaken m2_NameTaken m3_NameTaken m5_NameTaken : Option Value}
    {nm_TooMany q_TooMany : Str} {N_TooMany : Addr} {bs_TooMany : List Value} {sn_TooMany : List Str} {sb_TooMany : List Value} {ab_TooMany : Bool} {col_TooMany : Option Bool} {dd_TooMany : Option Addr} {m0_TooMany m1_TooMany m2_TooMany m3_TooMany m5_TooMany : Option Value}
    {nm_UnknownName q_UnknownName : Str} {N_UnknownName : Addr} {bs_UnknownName : List Value} {sn_UnknownName : List Str} {sb_UnknownName : List Value} {ab_UnknownName : Bool} {col_UnknownName : Option Bool} {dd_UnknownName : Option Addr} {m0_UnknownName m1_UnknownName m2_UnknownName m3_UnknownName m5_UnknownName : Option Value}
    {C_Blocks : Addr}
    {a_Blocks_init : Addr} {od_Blocks_init an_Blocks_init : Option Addr} {sl_Blocks_init : Array (Option Value)} {oc_Blocks_init kV_Blocks_init dc_Blocks_init pm_Blocks_init cd_Blocks_init ct_Blocks_init : Value}
    {a_Blocks_states_in : Addr} {od_Blocks_states_in an_Blocks_states_in : Option Addr} {sl_Blocks_states_in : Array (Option Value)} {oc_Blocks_states_in kV_Blocks_states_in dc_Blocks_states_in pm_Blocks_states_in cd_Blocks_states_in ct_Blocks_states_in : Value}
    {a_Blocks_mark : Addr} {od_Blocks_mark an_Blocks_mark : Option Addr} {sl_Blocks_mark : Array (Option Value)} {oc_Blocks_mark kV_Blocks_mark dc_Blocks_mark pm_Blocks_mark cd_Blocks_mark ct_Blocks_mark : Value}
    {a_Blocks_cut : Addr} {od_Blocks_cut an_Blocks_cut : Option Addr} {sl_Blocks_cut : Array (Option Value)} {oc_Blocks_cut kV_Blocks_cut dc_Blocks_cut pm_Blocks_cut cd_Blocks_cut ct_Blocks_cut : Value}
    {a_Blocks_take_out : Addr} {od_Blocks_take_out an_Blocks_take_out : Option Addr} {sl_Blocks_take_out : Array (Option Value)} {oc_Blocks_take_out kV_Blocks_take_out dc_Blocks_take_out pm_Blocks_take_out cd_Blocks_take_out ct_Blocks_take_out : Value}
    {C_Machine : Addr}
    {a_Machine_init : Addr} {od_Machine_init an_Machine_init : Option Addr} {sl_Machine_init : Array (Option Value)} {oc_Machine_init kV_Machine_init dc_Machine_init pm_Machine_init cd_Machine_init ct_Machine_init : Value}
    {a_Machine_check : Addr} {od_Machine_check an_Machine_check : Option Addr} {sl_Machine_check : Array (Option Value)} {oc_Machine_check kV_Machine_check dc_Machine_check pm_Machine_check cd_Machine_check ct_Machine_check : Value}
    {a_Machine_run : Addr} {od_Machine_run an_Machine_run : Option Addr} {sl_Machine_run : Array (Option Value)} {oc_Machine_run kV_Machine_run dc_Machine_run pm_Machine_run cd_Machine_run ct_Machine_run : Value}
    {a_Machine_run_from : Addr} {od_Machine_run_from an_Machine_run_from : Option Addr} {sl_Machine_run_from : Array (Option Value)} {oc_Machine_run_from kV_Machine_run_from dc_Machine_run_from pm_Machine_run_from cd_Machine_run_from ct_Machine_run_from : Value}
    {a_Machine_accepts : Addr} {od_Machine_accepts an_Machine_accepts : Option Addr} {sl_Machine_accepts : Array (Option Value)} {oc_Machine_accepts kV_Machine_accepts dc_Machine_accepts pm_Machine_accepts cd_Machine_accepts ct_Machine_accepts : Value}
    {a_Machine_picture : Addr} {od_Machine_picture an_Machine_picture : Option Addr} {sl_Machine_picture : Array (Option Value)} {oc_Machine_picture kV_Machine_picture dc_Machine_picture pm_Machine_picture cd_Machine_picture ct_Machine_picture : Value}
    {C_Book : Addr}
    {a_Book_init : Addr} {od_Book_init an_Book_init : Option Addr} {sl_Book_init : Array (Option Value)} {oc_Book_init kV_Book_init dc_Book_init pm_Book_init cd_Book_init ct_Book_init : Value}
    {a_Book_has_pattern : Addr} {od_Book_has_pattern an_Book_has_pattern : Option Addr} {sl_Book_has_pattern : Array (Option Value)} {oc_Book_has_pattern kV_Book_has_pattern dc_Book_has_pattern pm_Book_has_pattern cd_Book_has_pattern ct_Book_has_pattern : Value}
    {a_Book_has_rewriter : Addr} {od_Book_has_rewriter an_Book_has_rewriter : Option Addr} {sl_Book_has_rewriter : Array (Option Value)} {oc_Book_has_rewriter kV_Book_has_rewriter dc_Book_has_rewriter pm_Book_has_rewriter cd_Book_has_rewriter ct_Book_has_rewriter : Value}
    {a_Book_machine : Addr} {od_Book_machine an_Book_machine : Option Addr} {sl_Book_machine : Array (Option Value)} {oc_Book_machine kV_Book_machine dc_Book_machine pm_Book_machine cd_Book_machine ct_Book_machine : Value}
    {a_Book_rewriter : Addr} {od_Book_rewriter an_Book_rewriter : Option Addr} {sl_Book_rewriter : Array (Option Value)} {oc_Book_rewriter kV_Book_rewriter dc_Book_rewriter pm_Book_rewriter cd_Book_rewriter ct_Book_rewriter : Value}
    {C_Program : Addr}
    {a_Program_init : Addr} {od_Program_init an_Program_init : Option Addr} {sl_Program_init : Array (Option Value)} {oc_Program_init kV_Program_init dc_Program_init pm_Program_init cd_Program_init ct_Program_init : Value}
    {a_Program_picture : Addr} {od_Program_picture an_Program_picture : Option Addr} {sl_Program_picture : Array (Option Value)} {oc_Program_picture kV_Program_picture dc_Program_picture pm_Program_picture cd_Program_picture ct_Program_picture : Value}
    {C_Rewriter : Addr}
    {a_Rewriter_init : Addr} {od_Rewriter_init an_Rewriter_init : Option Addr} {sl_Rewriter_init : Array (Option Value)} {oc_Rewriter_init kV_Rewriter_init dc_Rewriter_init pm_Rewriter_init cd_Rewriter_init ct_Rewriter_init : Value}
    {a_Rewriter_check : Addr} {od_Rewriter_check an_Rewriter_check : Option Addr} {sl_Rewriter_check : Array (Option Value)} {oc_Rewriter_check kV_Rewriter_check dc_Rewriter_check pm_Rewriter_check cd_Rewriter_check ct_Rewriter_check : Value}
    {a_Rewriter_rewrite : Addr} {od_Rewriter_rewrite an_Rewriter_rewrite : Option Addr} {sl_Rewriter_rewrite : Array (Option Value)} {oc_Rewriter_rewrite kV_Rewriter_rewrite dc_Rewriter_rewrite pm_Rewriter_rewrite cd_Rewriter_rewrite ct_Rewriter_rewrite : Value}
    {a_Rewriter_rewrite_from : Addr} {od_Rewriter_rewrite_from an_Rewriter_rewrite_from : Option Addr} {sl_Rewriter_rewrite_from : Array (Option Value)} {oc_Rewriter_rewrite_from kV_Rewriter_rewrite_from dc_Rewriter_rewrite_from pm_Rewriter_rewrite_from cd_Rewriter_rewrite_from ct_Rewriter_rewrite_from : Value}
    {a_Rewriter_picture : Addr} {od_Rewriter_picture an_Rewriter_picture : Option Addr} {sl_Rewriter_picture : Array (Option Value)} {oc_Rewriter_picture kV_Rewriter_picture dc_Rewriter_picture pm_Rewriter_picture cd_Rewriter_picture ct_Rewriter_picture : Value}
    {t_LETTERS : Tok}
    {t_MOST_LETTERS : Tok}
    {a_LEAVES : Addr} {od_LEAVES : Option Addr} {n_LEAVES : Nat} {sl_LEAVES : Array (Option Value)} {tk_LEAVES_0 tk_LEAVES_1 tk_LEAVES_2 : Tok}
    {a_WORDS : Addr} {od_WORDS : Option Addr} {n_WORDS : Nat} {sl_WORDS : Array (Option Value)} {tk_WORDS_0 tk_WORDS_1 tk_WORDS_2 tk_WORDS_3 tk_WORDS_4 tk_WORDS_5 tk_WORDS_6 tk_WORDS_7 : Tok}
    {t_NAME_LETTERS : Tok}
    {t_LONGEST_NAME : Tok}
    {t_MOST_INPUTS : Tok}
    {t_MOST_LINES : Tok}
    {t_MOST_PARTS : Tok}
    (n__wall : PySem.W.nsIn K mainGlobals "_wall" = some (some (.ref a__wall)))
    (l__wall : K.lookup a__wall = some ⟨oc__wall, od__wall, .func (PySem.W.fnOf "_wall" "_wall" (defArgs s__wall) (defBody s__wall) (defScope s__wall) .none kV__wall dc__wall pm__wall an__wall cd__wall ct__wall), sl__wall⟩)
    (c__wall : PySem.W.codeIn K cd__wall "_wall" = true)
    (k__wall : PySem.W.keepIn K (.ref a__wall) = true)
    (n_check_alphabet : PySem.W.nsIn K mainGlobals "check_alphabet" = some (some (.ref a_check_alphabet)))
    (l_check_alphabet : K.lookup a_check_alphabet = some ⟨oc_check_alphabet, od_check_alphabet, .func (PySem.W.fnOf "check_alphabet" "check_alphabet" (defArgs s_check_alphabet) (defBody s_check_alphabet) (defScope s_check_alphabet) .none kV_check_alphabet dc_check_alphabet pm_check_alphabet an_check_alphabet cd_check_alphabet ct_check_alphabet), sl_check_alphabet⟩)
    (c_check_alphabet : PySem.W.codeIn K cd_check_alphabet "check_alphabet" = true)
    (k_check_alphabet : PySem.W.keepIn K (.ref a_check_alphabet) = true)
    (n_is_text : PySem.W.nsIn K mainGlobals "is_text" = some (some (.ref a_is_text)))
    (l_is_text : K.lookup a_is_text = some ⟨oc_is_text, od_is_text, .func (PySem.W.fnOf "is_text" "is_text" (defArgs s_is_text) (defBody s_is_text) (defScope s_is_text) .none kV_is_text dc_is_text pm_is_text an_is_text cd_is_text ct_is_text), sl_is_text⟩)
    (c_is_text : PySem.W.codeIn K cd_is_text "is_text" = true)
    (k_is_text : PySem.W.keepIn K (.ref a_is_text) = true)
    (n_check_text : PySem.W.nsIn K mainGlobals "check_text" = some (some (.ref a_check_text)))
    (l_check_text : K.lookup a_check_text = some ⟨oc_check_text, od_check_text, .func (PySem.W.fnOf "check_text" "check_text" (defArgs s_check_text) (defBody s_check_text) (defScope s_check_text) .none kV_check_text dc_check_text pm_check_text an_check_text cd_check_text ct_check_text), sl_check_text⟩)
    (c_check_text : PySem.W.codeIn K cd_check_text "check_text" = true)
    (k_check_text : PySem.W.keepIn K (.ref a_check_text) = true)
    (n_block_numbers : PySem.W.nsIn K mainGlobals "block_numbers" = some (some (.ref a_block_numbers)))
    (l_block_numbers : K.lookup a_block_numbers = some ⟨oc_block_numbers, od_block_numbers, .func (PySem.W.fnOf "block_numbers" "block_numbers" (defArgs s_block_numbers) (defBody s_block_numbers) (defScope s_block_numbers) .none kV_block_numbers dc_block_numbers pm_block_numbers an_block_numbers cd_block_numbers ct_block_numbers), sl_block_numbers⟩)
    (c_block_numbers : PySem.W.codeIn K cd_block_numbers "block_numbers" = true)
    (k_block_numbers : PySem.W.keepIn K (.ref a_block_numbers) = true)
    (n_first_states : PySem.W.nsIn K mainGlobals "first_states" = some (some (.ref a_first_states)))
    (l_first_states : K.lookup a_first_states = some ⟨oc_first_states, od_first_states, .func (PySem.W.fnOf "first_states" "first_states" (defArgs s_first_states) (defBody s_first_states) (defScope s_first_states) .none kV_first_states dc_first_states pm_first_states an_first_states cd_first_states ct_first_states), sl_first_states⟩)
    (c_first_states : PySem.W.codeIn K cd_first_states "first_states" = true)
    (k_first_states : PySem.W.keepIn K (.ref a_first_states) = true)
    (n__blocks_of_kinds : PySem.W.nsIn K mainGlobals "_blocks_of_kinds" = some (some (.ref a__blocks_of_kinds)))
    (l__blocks_of_kinds : K.lookup a__blocks_of_kinds = some ⟨oc__blocks_of_kinds, od__blocks_of_kinds, .func (PySem.W.fnOf "_blocks_of_kinds" "_blocks_of_kinds" (defArgs s__blocks_of_kinds) (defBody s__blocks_of_kinds) (defScope s__blocks_of_kinds) .none kV__blocks_of_kinds dc__blocks_of_kinds pm__blocks_of_kinds an__blocks_of_kinds cd__blocks_of_kinds ct__blocks_of_kinds), sl__blocks_of_kinds⟩)
    (c__blocks_of_kinds : PySem.W.codeIn K cd__blocks_of_kinds "_blocks_of_kinds" = true)
    (k__blocks_of_kinds : PySem.W.keepIn K (.ref a__blocks_of_kinds) = true)
    (n_explored : PySem.W.nsIn K mainGlobals "explored" = some (some (.ref a_explored)))
    (l_explored : K.lookup a_explored = some ⟨oc_explored, od_explored, .func (PySem.W.fnOf "explored" "explored" (defArgs s_explored) (defBody s_explored) (defScope s_explored) .none kV_explored dc_explored pm_explored an_explored cd_explored ct_explored), sl_explored⟩)
    (c_explored : PySem.W.codeIn K cd_explored "explored" = true)
    (k_explored : PySem.W.keepIn K (.ref a_explored) = true)
    (n_ways_back : PySem.W.nsIn K mainGlobals "ways_back" = some (some (.ref a_ways_back)))
    (l_ways_back : K.lookup a_ways_back = some ⟨oc_ways_back, od_ways_back, .func (PySem.W.fnOf "ways_back" "ways_back" (defArgs s_ways_back) (defBody s_ways_back) (defScope s_ways_back) .none kV_ways_back dc_ways_back pm_ways_back an_ways_back cd_ways_back ct_ways_back), sl_ways_back⟩)
    (c_ways_back : PySem.W.codeIn K cd_ways_back "ways_back" = true)
    (k_ways_back : PySem.W.keepIn K (.ref a_ways_back) = true)
    (n_least : PySem.W.nsIn K mainGlobals "least" = some (some (.ref a_least)))
    (l_least : K.lookup a_least = some ⟨oc_least, od_least, .func (PySem.W.fnOf "least" "least" (defArgs s_least) (defBody s_least) (defScope s_least) .none kV_least dc_least pm_least an_least cd_least ct_least), sl_least⟩)
    (c_least : PySem.W.codeIn K cd_least "least" = true)
    (k_least : PySem.W.keepIn K (.ref a_least) = true)
    (n_least_from : PySem.W.nsIn K mainGlobals "least_from" = some (some (.ref a_least_from)))
    (l_least_from : K.lookup a_least_from = some ⟨oc_least_from, od_least_from, .func (PySem.W.fnOf "least_from" "least_from" (defArgs s_least_from) (defBody s_least_from) (defScope s_least_from) .none kV_least_from dc_least_from pm_least_from an_least_from cd_least_from ct_least_from), sl_least_from⟩)
    (c_least_from : PySem.W.codeIn K cd_least_from "least_from" = true)
    (k_least_from : PySem.W.keepIn K (.ref a_least_from) = true)
    (n_least_explored : PySem.W.nsIn K mainGlobals "least_explored" = some (some (.ref a_least_explored)))
    (l_least_explored : K.lookup a_least_explored = some ⟨oc_least_explored, od_least_explored, .func (PySem.W.fnOf "least_explored" "least_explored" (defArgs s_least_explored) (defBody s_least_explored) (defScope s_least_explored) .none kV_least_explored dc_least_explored pm_least_explored an_least_explored cd_least_explored ct_least_explored), sl_least_explored⟩)
    (c_least_explored : PySem.W.codeIn K cd_least_explored "least_explored" = true)
    (k_least_explored : PySem.W.keepIn K (.ref a_least_explored) = true)
    (n__merged : PySem.W.nsIn K mainGlobals "_merged" = some (some (.ref a__merged)))
    (l__merged : K.lookup a__merged = some ⟨oc__merged, od__merged, .func (PySem.W.fnOf "_merged" "_merged" (defArgs s__merged) (defBody s__merged) (defScope s__merged) .none kV__merged dc__merged pm__merged an__merged cd__merged ct__merged), sl__merged⟩)
    (c__merged : PySem.W.codeIn K cd__merged "_merged" = true)
    (k__merged : PySem.W.keepIn K (.ref a__merged) = true)
    (n_sources_by : PySem.W.nsIn K mainGlobals "sources_by" = some (some (.ref a_sources_by)))
    (l_sources_by : K.lookup a_sources_by = some ⟨oc_sources_by, od_sources_by, .func (PySem.W.fnOf "sources_by" "sources_by" (defArgs s_sources_by) (defBody s_sources_by) (defScope s_sources_by) .none kV_sources_by dc_sources_by pm_sources_by an_sources_by cd_sources_by ct_sources_by), sl_sources_by⟩)
    (c_sources_by : PySem.W.codeIn K cd_sources_by "sources_by" = true)
    (k_sources_by : PySem.W.keepIn K (.ref a_sources_by) = true)
    (n_both : PySem.W.nsIn K mainGlobals "both" = some (some (.ref a_both)))
    (l_both : K.lookup a_both = some ⟨oc_both, od_both, .func (PySem.W.fnOf "both" "both" (defArgs s_both) (defBody s_both) (defScope s_both) .none kV_both dc_both pm_both an_both cd_both ct_both), sl_both⟩)
    (c_both : PySem.W.codeIn K cd_both "both" = true)
    (k_both : PySem.W.keepIn K (.ref a_both) = true)
    (n_either : PySem.W.nsIn K mainGlobals "either" = some (some (.ref a_either)))
    (l_either : K.lookup a_either = some ⟨oc_either, od_either, .func (PySem.W.fnOf "either" "either" (defArgs s_either) (defBody s_either) (defScope s_either) .none kV_either dc_either pm_either an_either cd_either ct_either), sl_either⟩)
    (c_either : PySem.W.codeIn K cd_either "either" = true)
    (k_either : PySem.W.keepIn K (.ref a_either) = true)
    (n_opposite : PySem.W.nsIn K mainGlobals "opposite" = some (some (.ref a_opposite)))
    (l_opposite : K.lookup a_opposite = some ⟨oc_opposite, od_opposite, .func (PySem.W.fnOf "opposite" "opposite" (defArgs s_opposite) (defBody s_opposite) (defScope s_opposite) .none kV_opposite dc_opposite pm_opposite an_opposite cd_opposite ct_opposite), sl_opposite⟩)
    (c_opposite : PySem.W.codeIn K cd_opposite "opposite" = true)
    (k_opposite : PySem.W.keepIn K (.ref a_opposite) = true)
    (n__paired : PySem.W.nsIn K mainGlobals "_paired" = some (some (.ref a__paired)))
    (l__paired : K.lookup a__paired = some ⟨oc__paired, od__paired, .func (PySem.W.fnOf "_paired" "_paired" (defArgs s__paired) (defBody s__paired) (defScope s__paired) .none kV__paired dc__paired pm__paired an__paired cd__paired ct__paired), sl__paired⟩)
    (c__paired : PySem.W.codeIn K cd__paired "_paired" = true)
    (k__paired : PySem.W.keepIn K (.ref a__paired) = true)
    (n_chained_texts : PySem.W.nsIn K mainGlobals "chained_texts" = some (some (.ref a_chained_texts)))
    (l_chained_texts : K.lookup a_chained_texts = some ⟨oc_chained_texts, od_chained_texts, .func (PySem.W.fnOf "chained_texts" "chained_texts" (defArgs s_chained_texts) (defBody s_chained_texts) (defScope s_chained_texts) .none kV_chained_texts dc_chained_texts pm_chained_texts an_chained_texts cd_chained_texts ct_chained_texts), sl_chained_texts⟩)
    (c_chained_texts : PySem.W.codeIn K cd_chained_texts "chained_texts" = true)
    (k_chained_texts : PySem.W.keepIn K (.ref a_chained_texts) = true)
    (n_repetition : PySem.W.nsIn K mainGlobals "repetition" = some (some (.ref a_repetition)))
    (l_repetition : K.lookup a_repetition = some ⟨oc_repetition, od_repetition, .func (PySem.W.fnOf "repetition" "repetition" (defArgs s_repetition) (defBody s_repetition) (defScope s_repetition) .none kV_repetition dc_repetition pm_repetition an_repetition cd_repetition ct_repetition), sl_repetition⟩)
    (c_repetition : PySem.W.codeIn K cd_repetition "repetition" = true)
    (k_repetition : PySem.W.keepIn K (.ref a_repetition) = true)
    (n__lot : PySem.W.nsIn K mainGlobals "_lot" = some (some (.ref a__lot)))
    (l__lot : K.lookup a__lot = some ⟨oc__lot, od__lot, .func (PySem.W.fnOf "_lot" "_lot" (defArgs s__lot) (defBody s__lot) (defScope s__lot) .none kV__lot dc__lot pm__lot an__lot cd__lot ct__lot), sl__lot⟩)
    (c__lot : PySem.W.codeIn K cd__lot "_lot" = true)
    (k__lot : PySem.W.keepIn K (.ref a__lot) = true)
    (n__after : PySem.W.nsIn K mainGlobals "_after" = some (some (.ref a__after)))
    (l__after : K.lookup a__after = some ⟨oc__after, od__after, .func (PySem.W.fnOf "_after" "_after" (defArgs s__after) (defBody s__after) (defScope s__after) .none kV__after dc__after pm__after an__after cd__after ct__after), sl__after⟩)
    (c__after : PySem.W.codeIn K cd__after "_after" = true)
    (k__after : PySem.W.keepIn K (.ref a__after) = true)
    (n__accepts_one : PySem.W.nsIn K mainGlobals "_accepts_one" = some (some (.ref a__accepts_one)))
    (l__accepts_one : K.lookup a__accepts_one = some ⟨oc__accepts_one, od__accepts_one, .func (PySem.W.fnOf "_accepts_one" "_accepts_one" (defArgs s__accepts_one) (defBody s__accepts_one) (defScope s__accepts_one) .none kV__accepts_one dc__accepts_one pm__accepts_one an__accepts_one cd__accepts_one ct__accepts_one), sl__accepts_one⟩)
    (c__accepts_one : PySem.W.codeIn K cd__accepts_one "_accepts_one" = true)
    (k__accepts_one : PySem.W.keepIn K (.ref a__accepts_one) = true)
    (n_parts_of : PySem.W.nsIn K mainGlobals "parts_of" = some (some (.ref a_parts_of)))
    (l_parts_of : K.lookup a_parts_of = some ⟨oc_parts_of, od_parts_of, .func (PySem.W.fnOf "parts_of" "parts_of" (defArgs s_parts_of) (defBody s_parts_of) (defScope s_parts_of) .none kV_parts_of dc_parts_of pm_parts_of an_parts_of cd_parts_of ct_parts_of), sl_parts_of⟩)
    (c_parts_of : PySem.W.codeIn K cd_parts_of "parts_of" = true)
    (k_parts_of : PySem.W.keepIn K (.ref a_parts_of) = true)
    (n_flat_terms : PySem.W.nsIn K mainGlobals "flat_terms" = some (some (.ref a_flat_terms)))
    (l_flat_terms : K.lookup a_flat_terms = some ⟨oc_flat_terms, od_flat_terms, .func (PySem.W.fnOf "flat_terms" "flat_terms" (defArgs s_flat_terms) (defBody s_flat_terms) (defScope s_flat_terms) .none kV_flat_terms dc_flat_terms pm_flat_terms an_flat_terms cd_flat_terms ct_flat_terms), sl_flat_terms⟩)
    (c_flat_terms : PySem.W.codeIn K cd_flat_terms "flat_terms" = true)
    (k_flat_terms : PySem.W.keepIn K (.ref a_flat_terms) = true)
    (n_machine_of : PySem.W.nsIn K mainGlobals "machine_of" = some (some (.ref a_machine_of)))
    (l_machine_of : K.lookup a_machine_of = some ⟨oc_machine_of, od_machine_of, .func (PySem.W.fnOf "machine_of" "machine_of" (defArgs s_machine_of) (defBody s_machine_of) (defScope s_machine_of) .none kV_machine_of dc_machine_of pm_machine_of an_machine_of cd_machine_of ct_machine_of), sl_machine_of⟩)
    (c_machine_of : PySem.W.codeIn K cd_machine_of "machine_of" = true)
    (k_machine_of : PySem.W.keepIn K (.ref a_machine_of) = true)
    (n__machine_of_term : PySem.W.nsIn K mainGlobals "_machine_of_term" = some (some (.ref a__machine_of_term)))
    (l__machine_of_term : K.lookup a__machine_of_term = some ⟨oc__machine_of_term, od__machine_of_term, .func (PySem.W.fnOf "_machine_of_term" "_machine_of_term" (defArgs s__machine_of_term) (defBody s__machine_of_term) (defScope s__machine_of_term) .none kV__machine_of_term dc__machine_of_term pm__machine_of_term an__machine_of_term cd__machine_of_term ct__machine_of_term), sl__machine_of_term⟩)
    (c__machine_of_term : PySem.W.codeIn K cd__machine_of_term "_machine_of_term" = true)
    (k__machine_of_term : PySem.W.keepIn K (.ref a__machine_of_term) = true)
    (n__machine_of_leaf : PySem.W.nsIn K mainGlobals "_machine_of_leaf" = some (some (.ref a__machine_of_leaf)))
    (l__machine_of_leaf : K.lookup a__machine_of_leaf = some ⟨oc__machine_of_leaf, od__machine_of_leaf, .func (PySem.W.fnOf "_machine_of_leaf" "_machine_of_leaf" (defArgs s__machine_of_leaf) (defBody s__machine_of_leaf) (defScope s__machine_of_leaf) .none kV__machine_of_leaf dc__machine_of_leaf pm__machine_of_leaf an__machine_of_leaf cd__machine_of_leaf ct__machine_of_leaf), sl__machine_of_leaf⟩)
    (c__machine_of_leaf : PySem.W.codeIn K cd__machine_of_leaf "_machine_of_leaf" = true)
    (k__machine_of_leaf : PySem.W.keepIn K (.ref a__machine_of_leaf) = true)
    (n_is_name : PySem.W.nsIn K mainGlobals "is_name" = some (some (.ref a_is_name)))
    (l_is_name : K.lookup a_is_name = some ⟨oc_is_name, od_is_name, .func (PySem.W.fnOf "is_name" "is_name" (defArgs s_is_name) (defBody s_is_name) (defScope s_is_name) .none kV_is_name dc_is_name pm_is_name an_is_name cd_is_name ct_is_name), sl_is_name⟩)
    (c_is_name : PySem.W.codeIn K cd_is_name "is_name" = true)
    (k_is_name : PySem.W.keepIn K (.ref a_is_name) = true)
    (n_check_program : PySem.W.nsIn K mainGlobals "check_program" = some (some (.ref a_check_program)))
    (l_check_program : K.lookup a_check_program = some ⟨oc_check_program, od_check_program, .func (PySem.W.fnOf "check_program" "check_program" (defArgs s_check_program) (defBody s_check_program) (defScope s_check_program) .none kV_check_program dc_check_program pm_check_program an_check_program cd_check_program ct_check_program), sl_check_program⟩)
    (c_check_program : PySem.W.codeIn K cd_check_program "check_program" = true)
    (k_check_program : PySem.W.keepIn K (.ref a_check_program) = true)
    (n_names_read : PySem.W.nsIn K mainGlobals "names_read" = some (some (.ref a_names_read)))
    (l_names_read : K.lookup a_names_read = some ⟨oc_names_read, od_names_read, .func (PySem.W.fnOf "names_read" "names_read" (defArgs s_names_read) (defBody s_names_read) (defScope s_names_read) .none kV_names_read dc_names_read pm_names_read an_names_read cd_names_read ct_names_read), sl_names_read⟩)
    (c_names_read : PySem.W.codeIn K cd_names_read "names_read" = true)
    (k_names_read : PySem.W.keepIn K (.ref a_names_read) = true)
    (n_names_given : PySem.W.nsIn K mainGlobals "names_given" = some (some (.ref a_names_given)))
    (l_names_given : K.lookup a_names_given = some ⟨oc_names_given, od_names_given, .func (PySem.W.fnOf "names_given" "names_given" (defArgs s_names_given) (defBody s_names_given) (defScope s_names_given) .none kV_names_given dc_names_given pm_names_given an_names_given cd_names_given ct_names_given), sl_names_given⟩)
    (c_names_given : PySem.W.codeIn K cd_names_given "names_given" = true)
    (k_names_given : PySem.W.keepIn K (.ref a_names_given) = true)
    (n__check_new_name : PySem.W.nsIn K mainGlobals "_check_new_name" = some (some (.ref a__check_new_name)))
    (l__check_new_name : K.lookup a__check_new_name = some ⟨oc__check_new_name, od__check_new_name, .func (PySem.W.fnOf "_check_new_name" "_check_new_name" (defArgs s__check_new_name) (defBody s__check_new_name) (defScope s__check_new_name) .none kV__check_new_name dc__check_new_name pm__check_new_name an__check_new_name cd__check_new_name ct__check_new_name), sl__check_new_name⟩)
    (c__check_new_name : PySem.W.codeIn K cd__check_new_name "_check_new_name" = true)
    (k__check_new_name : PySem.W.keepIn K (.ref a__check_new_name) = true)
    (n__check_known : PySem.W.nsIn K mainGlobals "_check_known" = some (some (.ref a__check_known)))
    (l__check_known : K.lookup a__check_known = some ⟨oc__check_known, od__check_known, .func (PySem.W.fnOf "_check_known" "_check_known" (defArgs s__check_known) (defBody s__check_known) (defScope s__check_known) .none kV__check_known dc__check_known pm__check_known an__check_known cd__check_known ct__check_known), sl__check_known⟩)
    (c__check_known : PySem.W.codeIn K cd__check_known "_check_known" = true)
    (k__check_known : PySem.W.keepIn K (.ref a__check_known) = true)
    (n__check_book_has : PySem.W.nsIn K mainGlobals "_check_book_has" = some (some (.ref a__check_book_has)))
    (l__check_book_has : K.lookup a__check_book_has = some ⟨oc__check_book_has, od__check_book_has, .func (PySem.W.fnOf "_check_book_has" "_check_book_has" (defArgs s__check_book_has) (defBody s__check_book_has) (defScope s__check_book_has) .none kV__check_book_has dc__check_book_has pm__check_book_has an__check_book_has cd__check_book_has ct__check_book_has), sl__check_book_has⟩)
    (c__check_book_has : PySem.W.codeIn K cd__check_book_has "_check_book_has" = true)
    (k__check_book_has : PySem.W.keepIn K (.ref a__check_book_has) = true)
    (n__check_parts : PySem.W.nsIn K mainGlobals "_check_parts" = some (some (.ref a__check_parts)))
    (l__check_parts : K.lookup a__check_parts = some ⟨oc__check_parts, od__check_parts, .func (PySem.W.fnOf "_check_parts" "_check_parts" (defArgs s__check_parts) (defBody s__check_parts) (defScope s__check_parts) .none kV__check_parts dc__check_parts pm__check_parts an__check_parts cd__check_parts ct__check_parts), sl__check_parts⟩)
    (c__check_parts : PySem.W.codeIn K cd__check_parts "_check_parts" = true)
    (k__check_parts : PySem.W.keepIn K (.ref a__check_parts) = true)
    (n_cell : PySem.W.nsIn K mainGlobals "_law_cell" = some (some (.ref a_cell)))
    (l_cell : K.lookup a_cell = some ⟨oc_cell, od_cell, .func (PySem.W.fnOf "_law_cell" "_law_cell" (defArgs s_cell) (defBody s_cell) (defScope s_cell) .none kV_cell dc_cell pm_cell an_cell cd_cell ct_cell), sl_cell⟩)
    (c_cell : PySem.W.codeIn K cd_cell "_law_cell" = true)
    (k_cell : PySem.W.keepIn K (.ref a_cell) = true)
    (n_numbers : PySem.W.nsIn K mainGlobals "_law_numbers" = some (some (.ref a_numbers)))
    (l_numbers : K.lookup a_numbers = some ⟨oc_numbers, od_numbers, .func (PySem.W.fnOf "_law_numbers" "_law_numbers" (defArgs s_numbers) (defBody s_numbers) (defScope s_numbers) .none kV_numbers dc_numbers pm_numbers an_numbers cd_numbers ct_numbers), sl_numbers⟩)
    (c_numbers : PySem.W.codeIn K cd_numbers "_law_numbers" = true)
    (k_numbers : PySem.W.keepIn K (.ref a_numbers) = true)
    (n_state : PySem.W.nsIn K mainGlobals "_law_state" = some (some (.ref a_state)))
    (l_state : K.lookup a_state = some ⟨oc_state, od_state, .func (PySem.W.fnOf "_law_state" "_law_state" (defArgs s_state) (defBody s_state) (defScope s_state) .none kV_state dc_state pm_state an_state cd_state ct_state), sl_state⟩)
    (c_state : PySem.W.codeIn K cd_state "_law_state" = true)
    (k_state : PySem.W.keepIn K (.ref a_state) = true)
    (n_next : PySem.W.nsIn K mainGlobals "_law_next" = some (some (.ref a_next)))
    (l_next : K.lookup a_next = some ⟨oc_next, od_next, .func (PySem.W.fnOf "_law_next" "_law_next" (defArgs s_next) (defBody s_next) (defScope s_next) .none kV_next dc_next pm_next an_next cd_next ct_next), sl_next⟩)
    (c_next : PySem.W.codeIn K cd_next "_law_next" = true)
    (k_next : PySem.W.keepIn K (.ref a_next) = true)
    (n_letters : PySem.W.nsIn K mainGlobals "_law_letters" = some (some (.ref a_letters)))
    (l_letters : K.lookup a_letters = some ⟨oc_letters, od_letters, .func (PySem.W.fnOf "_law_letters" "_law_letters" (defArgs s_letters) (defBody s_letters) (defScope s_letters) .none kV_letters dc_letters pm_letters an_letters cd_letters ct_letters), sl_letters⟩)
    (c_letters : PySem.W.codeIn K cd_letters "_law_letters" = true)
    (k_letters : PySem.W.keepIn K (.ref a_letters) = true)
    (n_pattern : PySem.W.nsIn K mainGlobals "_law_pattern" = some (some (.ref a_pattern)))
    (l_pattern : K.lookup a_pattern = some ⟨oc_pattern, od_pattern, .func (PySem.W.fnOf "_law_pattern" "_law_pattern" (defArgs s_pattern) (defBody s_pattern) (defScope s_pattern) .none kV_pattern dc_pattern pm_pattern an_pattern cd_pattern ct_pattern), sl_pattern⟩)
    (c_pattern : PySem.W.codeIn K cd_pattern "_law_pattern" = true)
    (k_pattern : PySem.W.keepIn K (.ref a_pattern) = true)
    (n_word : PySem.W.nsIn K mainGlobals "_law_word" = some (some (.ref a_word)))
    (l_word : K.lookup a_word = some ⟨oc_word, od_word, .func (PySem.W.fnOf "_law_word" "_law_word" (defArgs s_word) (defBody s_word) (defScope s_word) .none kV_word dc_word pm_word an_word cd_word ct_word), sl_word⟩)
    (c_word : PySem.W.codeIn K cd_word "_law_word" = true)
    (k_word : PySem.W.keepIn K (.ref a_word) = true)
    (n_maker : PySem.W.nsIn K mainGlobals "_law_maker" = some (some (.ref a_maker)))
    (l_maker : K.lookup a_maker = some ⟨oc_maker, od_maker, .func (PySem.W.fnOf "_law_maker" "_law_maker" (defArgs s_maker) (defBody s_maker) (defScope s_maker) .none kV_maker dc_maker pm_maker an_maker cd_maker ct_maker), sl_maker⟩)
    (c_maker : PySem.W.codeIn K cd_maker "_law_maker" = true)
    (k_maker : PySem.W.keepIn K (.ref a_maker) = true)
    (n_name : PySem.W.nsIn K mainGlobals "_law_name" = some (some (.ref a_name)))
    (l_name : K.lookup a_name = some ⟨oc_name, od_name, .func (PySem.W.fnOf "_law_name" "_law_name" (defArgs s_name) (defBody s_name) (defScope s_name) .none kV_name dc_name pm_name an_name cd_name ct_name), sl_name⟩)
    (c_name : PySem.W.codeIn K cd_name "_law_name" = true)
    (k_name : PySem.W.keepIn K (.ref a_name) = true)
    (n_named : PySem.W.nsIn K mainGlobals "_law_named" = some (some (.ref a_named)))
    (l_named : K.lookup a_named = some ⟨oc_named, od_named, .func (PySem.W.fnOf "_law_named" "_law_named" (defArgs s_named) (defBody s_named) (defScope s_named) .none kV_named dc_named pm_named an_named cd_named ct_named), sl_named⟩)
    (c_named : PySem.W.codeIn K cd_named "_law_named" = true)
    (k_named : PySem.W.keepIn K (.ref a_named) = true)
    (n_book : PySem.W.nsIn K mainGlobals "_law_book" = some (some (.ref a_book)))
    (l_book : K.lookup a_book = some ⟨oc_book, od_book, .func (PySem.W.fnOf "_law_book" "_law_book" (defArgs s_book) (defBody s_book) (defScope s_book) .none kV_book dc_book pm_book an_book cd_book ct_book), sl_book⟩)
    (c_book : PySem.W.codeIn K cd_book "_law_book" = true)
    (k_book : PySem.W.keepIn K (.ref a_book) = true)
    (n_made_book : PySem.W.nsIn K mainGlobals "_law_made_book" = some (some (.ref a_made_book)))
    (l_made_book : K.lookup a_made_book = some ⟨oc_made_book, od_made_book, .func (PySem.W.fnOf "_law_made_book" "_law_made_book" (defArgs s_made_book) (defBody s_made_book) (defScope s_made_book) .none kV_made_book dc_made_book pm_made_book an_made_book cd_made_book ct_made_book), sl_made_book⟩)
    (c_made_book : PySem.W.codeIn K cd_made_book "_law_made_book" = true)
    (k_made_book : PySem.W.keepIn K (.ref a_made_book) = true)
    (n_pick : PySem.W.nsIn K mainGlobals "_law_pick" = some (some (.ref a_pick)))
    (l_pick : K.lookup a_pick = some ⟨oc_pick, od_pick, .func (PySem.W.fnOf "_law_pick" "_law_pick" (defArgs s_pick) (defBody s_pick) (defScope s_pick) .none kV_pick dc_pick pm_pick an_pick cd_pick ct_pick), sl_pick⟩)
    (c_pick : PySem.W.codeIn K cd_pick "_law_pick" = true)
    (k_pick : PySem.W.keepIn K (.ref a_pick) = true)
    (n_line : PySem.W.nsIn K mainGlobals "_law_line" = some (some (.ref a_line)))
    (l_line : K.lookup a_line = some ⟨oc_line, od_line, .func (PySem.W.fnOf "_law_line" "_law_line" (defArgs s_line) (defBody s_line) (defScope s_line) .none kV_line dc_line pm_line an_line cd_line ct_line), sl_line⟩)
    (c_line : PySem.W.codeIn K cd_line "_law_line" = true)
    (k_line : PySem.W.keepIn K (.ref a_line) = true)
    (n_program : PySem.W.nsIn K mainGlobals "_law_program" = some (some (.ref a_program)))
    (l_program : K.lookup a_program = some ⟨oc_program, od_program, .func (PySem.W.fnOf "_law_program" "_law_program" (defArgs s_program) (defBody s_program) (defScope s_program) .none kV_program dc_program pm_program an_program cd_program ct_program), sl_program⟩)
    (c_program : PySem.W.codeIn K cd_program "_law_program" = true)
    (k_program : PySem.W.keepIn K (.ref a_program) = true)
    (n_told : PySem.W.nsIn K mainGlobals "_law_told" = some (some (.ref a_told)))
    (l_told : K.lookup a_told = some ⟨oc_told, od_told, .func (PySem.W.fnOf "_law_told" "_law_told" (defArgs s_told) (defBody s_told) (defScope s_told) .none kV_told dc_told pm_told an_told cd_told ct_told), sl_told⟩)
    (c_told : PySem.W.codeIn K cd_told "_law_told" = true)
    (k_told : PySem.W.keepIn K (.ref a_told) = true)
    (n_law_is_name : PySem.W.nsIn K mainGlobals "_law_is_name" = some (some (.ref a_law_is_name)))
    (l_law_is_name : K.lookup a_law_is_name = some ⟨oc_law_is_name, od_law_is_name, .func (PySem.W.fnOf "_law_is_name" "_law_is_name" (defArgs s_law_is_name) (defBody s_law_is_name) (defScope s_law_is_name) .none kV_law_is_name dc_law_is_name pm_law_is_name an_law_is_name cd_law_is_name ct_law_is_name), sl_law_is_name⟩)
    (c_law_is_name : PySem.W.codeIn K cd_law_is_name "_law_is_name" = true)
    (k_law_is_name : PySem.W.keepIn K (.ref a_law_is_name) = true)
    (n_entered : PySem.W.nsIn K mainGlobals "_law_entered" = some (some (.ref a_entered)))
    (l_entered : K.lookup a_entered = some ⟨oc_entered, od_entered, .func (PySem.W.fnOf "_law_entered" "_law_entered" (defArgs s_entered) (defBody s_entered) (defScope s_entered) .none kV_entered dc_entered pm_entered an_entered cd_entered ct_entered), sl_entered⟩)
    (c_entered : PySem.W.codeIn K cd_entered "_law_entered" = true)
    (k_entered : PySem.W.keepIn K (.ref a_entered) = true)
    (n_read_names : PySem.W.nsIn K mainGlobals "_law_read_names" = some (some (.ref a_read_names)))
    (l_read_names : K.lookup a_read_names = some ⟨oc_read_names, od_read_names, .func (PySem.W.fnOf "_law_read_names" "_law_read_names" (defArgs s_read_names) (defBody s_read_names) (defScope s_read_names) .none kV_read_names dc_read_names pm_read_names an_read_names cd_read_names ct_read_names), sl_read_names⟩)
    (c_read_names : PySem.W.codeIn K cd_read_names "_law_read_names" = true)
    (k_read_names : PySem.W.keepIn K (.ref a_read_names) = true)
    (n_things : PySem.W.nsIn K mainGlobals "_law_things" = some (some (.ref a_things)))
    (l_things : K.lookup a_things = some ⟨oc_things, od_things, .func (PySem.W.fnOf "_law_things" "_law_things" (defArgs s_things) (defBody s_things) (defScope s_things) .none kV_things dc_things pm_things an_things cd_things ct_things), sl_things⟩)
    (c_things : PySem.W.codeIn K cd_things "_law_things" = true)
    (k_things : PySem.W.keepIn K (.ref a_things) = true)
    (n_due : PySem.W.nsIn K mainGlobals "_law_due" = some (some (.ref a_due)))
    (l_due : K.lookup a_due = some ⟨oc_due, od_due, .func (PySem.W.fnOf "_law_due" "_law_due" (defArgs s_due) (defBody s_due) (defScope s_due) .none kV_due dc_due pm_due an_due cd_due ct_due), sl_due⟩)
    (c_due : PySem.W.codeIn K cd_due "_law_due" = true)
    (k_due : PySem.W.keepIn K (.ref a_due) = true)
    (n_odd : PySem.W.nsIn K mainGlobals "_law_odd" = some (some (.ref a_odd)))
    (l_odd : K.lookup a_odd = some ⟨oc_odd, od_odd, .func (PySem.W.fnOf "_law_odd" "_law_odd" (defArgs s_odd) (defBody s_odd) (defScope s_odd) .none kV_odd dc_odd pm_odd an_odd cd_odd ct_odd), sl_odd⟩)
    (c_odd : PySem.W.codeIn K cd_odd "_law_odd" = true)
    (k_odd : PySem.W.keepIn K (.ref a_odd) = true)
    (n_spoilt : PySem.W.nsIn K mainGlobals "_law_spoilt" = some (some (.ref a_spoilt)))
    (l_spoilt : K.lookup a_spoilt = some ⟨oc_spoilt, od_spoilt, .func (PySem.W.fnOf "_law_spoilt" "_law_spoilt" (defArgs s_spoilt) (defBody s_spoilt) (defScope s_spoilt) .none kV_spoilt dc_spoilt pm_spoilt an_spoilt cd_spoilt ct_spoilt), sl_spoilt⟩)
    (c_spoilt : PySem.W.codeIn K cd_spoilt "_law_spoilt" = true)
    (k_spoilt : PySem.W.keepIn K (.ref a_spoilt) = true)
    (n_law : PySem.W.nsIn K mainGlobals "law" = some (some (.ref a_law)))
    (l_law : K.lookup a_law = some ⟨oc_law, od_law, .func (PySem.W.fnOf "law" "law" (defArgs s_law) (defBody s_law) (defScope s_law) .none kV_law dc_law pm_law an_law cd_law ct_law), sl_law⟩)
    (c_law : PySem.W.codeIn K cd_law "law" = true)
    (k_law : PySem.W.keepIn K (.ref a_law) = true)
    (n_AnytextError : PySem.W.nsIn K mainGlobals "AnytextError" = some (some (.ref C_AnytextError)))
    (n_LetterError : PySem.W.nsIn K mainGlobals "LetterError" = some (some (.ref C_LetterError)))
    (n_MachineError : PySem.W.nsIn K mainGlobals "MachineError" = some (some (.ref C_MachineError)))
    (n_ProgramError : PySem.W.nsIn K mainGlobals "ProgramError" = some (some (.ref C_ProgramError)))
    (n_BadAlphabet : PySem.W.nsIn K mainGlobals "BadAlphabet" = some (some (.ref C_BadAlphabet)))
    (n_BadText : PySem.W.nsIn K mainGlobals "BadText" = some (some (.ref C_BadText)))
    (n_BadMachine : PySem.W.nsIn K mainGlobals "BadMachine" = some (some (.ref C_BadMachine)))
    (n_BadRewriter : PySem.W.nsIn K mainGlobals "BadRewriter" = some (some (.ref C_BadRewriter)))
    (n_BadName : PySem.W.nsIn K mainGlobals "BadName" = some (some (.ref C_BadName)))
    (n_NameTaken : PySem.W.nsIn K mainGlobals "NameTaken" = some (some (.ref C_NameTaken)))
    (n_UnknownName : PySem.W.nsIn K mainGlobals "UnknownName" = some (some (.ref C_UnknownName)))
    (n_TooMany : PySem.W.nsIn K mainGlobals "TooMany" = some (some (.ref C_TooMany)))
    (ini_BadAlphabet : PySem.W.findIn K (.ref C_BadAlphabet) "__init__" = some (some (.ref a_init)))
    (l_init : K.lookup a_init = some ⟨oc_init, od_init, .func (PySem.W.fnOf "__init__" "AnytextError.__init__" (defArgs s_init) (defBody s_init) (defScope s_init) (.ref T_init) kV_init dc_init pm_init an_init cd_init ct_init), sl_init⟩)
    (c_init : PySem.W.codeIn K cd_init "AnytextError.__init__" = true)
    (k_init : PySem.W.keepIn K (.ref a_init) = true)
    (ti_init : PySem.W.typeIn K (.ref a_init) = some (.type "function"))
    (lt_init : K.lookup T_init = some ⟨oc2_init, dd_init, .seq #[.none] nn_init, sm_init⟩)
    (i_AnytextError : PySem.W.isClsIn K C_AnytextError = true)
    (t_AnytextError : PySem.W.typeIn K (.ref C_AnytextError) = some (.type "type"))
    (e_AnytextError : PySem.W.subIn K (.ref C_AnytextError) (.type "BaseException") = some true)
    (h_AnytextError : PySem.W.hasDictIn K C_AnytextError = true)
    (i_BadName : PySem.W.isClsIn K C_BadName = true)
    (t_BadName : PySem.W.typeIn K (.ref C_BadName) = some (.type "type"))
    (e_BadName : PySem.W.subIn K (.ref C_BadName) (.type "BaseException") = some true)
    (h_BadName : PySem.W.hasDictIn K C_BadName = true)
    (i_BadText : PySem.W.isClsIn K C_BadText = true)
    (t_BadText : PySem.W.typeIn K (.ref C_BadText) = some (.type "type"))
    (e_BadText : PySem.W.subIn K (.ref C_BadText) (.type "BaseException") = some true)
    (h_BadText : PySem.W.hasDictIn K C_BadText = true)
    (i_LetterError : PySem.W.isClsIn K C_LetterError = true)
    (t_LetterError : PySem.W.typeIn K (.ref C_LetterError) = some (.type "type"))
    (e_LetterError : PySem.W.subIn K (.ref C_LetterError) (.type "BaseException") = some true)
    (h_LetterError : PySem.W.hasDictIn K C_LetterError = true)
    (i_NameTaken : PySem.W.isClsIn K C_NameTaken = true)
    (t_NameTaken : PySem.W.typeIn K (.ref C_NameTaken) = some (.type "type"))
    (e_NameTaken : PySem.W.subIn K (.ref C_NameTaken) (.type "BaseException") = some true)
    (h_NameTaken : PySem.W.hasDictIn K C_NameTaken = true)
    (i_ProgramError : PySem.W.isClsIn K C_ProgramError = true)
    (t_ProgramError : PySem.W.typeIn K (.ref C_ProgramError) = some (.type "type"))
    (e_ProgramError : PySem.W.subIn K (.ref C_ProgramError) (.type "BaseException") = some true)
    (h_ProgramError : PySem.W.hasDictIn K C_ProgramError = true)
    (i_TooMany : PySem.W.isClsIn K C_TooMany = true)
    (t_TooMany : PySem.W.typeIn K (.ref C_TooMany) = some (.type "type"))
    (e_TooMany : PySem.W.subIn K (.ref C_TooMany) (.type "BaseException") = some true)
    (h_TooMany : PySem.W.hasDictIn K C_TooMany = true)
    (i_UnknownName : PySem.W.isClsIn K C_UnknownName = true)
    (t_UnknownName : PySem.W.typeIn K (.ref C_UnknownName) = some (.type "type"))
    (e_UnknownName : PySem.W.subIn K (.ref C_UnknownName) (.type "BaseException") = some true)
    (h_UnknownName : PySem.W.hasDictIn K C_UnknownName = true)
    (l_BadAlphabet : K.lookup C_BadAlphabet = some (excClassObj nm_BadAlphabet q_BadAlphabet C_BadAlphabet N_BadAlphabet bs_BadAlphabet [.ref C_LetterError, .ref C_AnytextError, .type "ValueError", .type "Exception", .type "BaseException", .type "object"] true sn_BadAlphabet sb_BadAlphabet ab_BadAlphabet col_BadAlphabet dd_BadAlphabet m0_BadAlphabet m1_BadAlphabet m2_BadAlphabet m3_BadAlphabet m5_BadAlphabet "ValueError.__new__"))
    (sa_BadAlphabet : PySem.W.findIn K (.ref C_BadAlphabet) "__setattr__" = some (some (.builtin "object.__setattr__")))
    (ga_BadAlphabet : PySem.W.findIn K (.ref C_BadAlphabet) "__getattribute__" = some (some (.builtin "BaseException.__getattribute__")))
    (gg_BadAlphabet : PySem.W.findIn K (.ref C_BadAlphabet) "__getattr__" = some none)
    (nw_BadAlphabet : PySem.W.findIn K (.ref C_BadAlphabet) "what" = some none)
    (cc_BadAlphabet : PySem.W.findIn K (.ref C_BadAlphabet) "__class__" = some (some (.builtin "object.__class__")))
    (mo_BadAlphabet : PySem.W.mroIn K C_BadAlphabet (.type "object") = some true)
    (se_BadAlphabet : PySem.W.subIn K (.ref C_BadAlphabet) (.ref C_BadAlphabet) = some true)
    (kC_BadAlphabet : PySem.W.keepIn K (.ref C_BadAlphabet) = true)
    (i_BadAlphabet : PySem.W.isClsIn K C_BadAlphabet = true)
    (t_BadAlphabet : PySem.W.typeIn K (.ref C_BadAlphabet) = some (.type "type"))
    (e_BadAlphabet : PySem.W.subIn K (.ref C_BadAlphabet) (.type "BaseException") = some true)
    (h_BadAlphabet : PySem.W.hasDictIn K C_BadAlphabet = true)
    (s_BadAlphabet_AnytextError : PySem.W.subIn K (.ref C_BadAlphabet) (.ref C_AnytextError) = some true)
    (s_BadAlphabet_BadName : PySem.W.subIn K (.ref C_BadAlphabet) (.ref C_BadName) = some false)
    (s_BadAlphabet_BadText : PySem.W.subIn K (.ref C_BadAlphabet) (.ref C_BadText) = some false)
    (s_BadAlphabet_LetterError : PySem.W.subIn K (.ref C_BadAlphabet) (.ref C_LetterError) = some true)
    (s_BadAlphabet_NameTaken : PySem.W.subIn K (.ref C_BadAlphabet) (.ref C_NameTaken) = some false)
    (s_BadAlphabet_ProgramError : PySem.W.subIn K (.ref C_BadAlphabet) (.ref C_ProgramError) = some false)
    (s_BadAlphabet_TooMany : PySem.W.subIn K (.ref C_BadAlphabet) (.ref C_TooMany) = some false)
    (s_BadAlphabet_UnknownName : PySem.W.subIn K (.ref C_BadAlphabet) (.ref C_UnknownName) = some false)
    (l_BadMachine : K.lookup C_BadMachine = some (excClassObj nm_BadMachine q_BadMachine C_BadMachine N_BadMachine bs_BadMachine [.ref C_MachineError, .ref C_AnytextError, .type "ValueError", .type "Exception", .type "BaseException", .type "object"] true sn_BadMachine sb_BadMachine ab_BadMachine col_BadMachine dd_BadMachine m0_BadMachine m1_BadMachine m2_BadMachine m3_BadMachine m5_BadMachine "ValueError.__new__"))
    (sa_BadMachine : PySem.W.findIn K (.ref C_BadMachine) "__setattr__" = some (some (.builtin "object.__setattr__")))
    (ga_BadMachine : PySem.W.findIn K (.ref C_BadMachine) "__getattribute__" = some (some (.builtin "BaseException.__getattribute__")))
    (gg_BadMachine : PySem.W.findIn K (.ref C_BadMachine) "__getattr__" = some none)
    (nw_BadMachine : PySem.W.findIn K (.ref C_BadMachine) "what" = some none)
    (ini_BadMachine : PySem.W.findIn K (.ref C_BadMachine) "__init__" = some (some (.ref a_init)))
    (cc_BadMachine : PySem.W.findIn K (.ref C_BadMachine) "__class__" = some (some (.builtin "object.__class__")))
    (mo_BadMachine : PySem.W.mroIn K C_BadMachine (.type "object") = some true)
    (se_BadMachine : PySem.W.subIn K (.ref C_BadMachine) (.ref C_BadMachine) = some true)
    (kC_BadMachine : PySem.W.keepIn K (.ref C_BadMachine) = true)
    (i_BadMachine : PySem.W.isClsIn K C_BadMachine = true)
    (t_BadMachine : PySem.W.typeIn K (.ref C_BadMachine) = some (.type "type"))
    (e_BadMachine : PySem.W.subIn K (.ref C_BadMachine) (.type "BaseException") = some true)
    (h_BadMachine : PySem.W.hasDictIn K C_BadMachine = true)
    (s_BadMachine_AnytextError : PySem.W.subIn K (.ref C_BadMachine) (.ref C_AnytextError) = some true)
    (s_BadMachine_BadName : PySem.W.subIn K (.ref C_BadMachine) (.ref C_BadName) = some false)
    (s_BadMachine_BadText : PySem.W.subIn K (.ref C_BadMachine) (.ref C_BadText) = some false)
    (s_BadMachine_LetterError : PySem.W.subIn K (.ref C_BadMachine) (.ref C_LetterError) = some false)
    (s_BadMachine_NameTaken : PySem.W.subIn K (.ref C_BadMachine) (.ref C_NameTaken) = some false)
    (s_BadMachine_ProgramError : PySem.W.subIn K (.ref C_BadMachine) (.ref C_ProgramError) = some false)
    (s_BadMachine_TooMany : PySem.W.subIn K (.ref C_BadMachine) (.ref C_TooMany) = some false)
    (s_BadMachine_UnknownName : PySem.W.subIn K (.ref C_BadMachine) (.ref C_UnknownName) = some false)
    (l_BadName : K.lookup C_BadName = some (excClassObj nm_BadName q_BadName C_BadName N_BadName bs_BadName [.ref C_ProgramError, .ref C_AnytextError, .type "ValueError", .type "Exception", .type "BaseException", .type "object"] true sn_BadName sb_BadName ab_BadName col_BadName dd_BadName m0_BadName m1_BadName m2_BadName m3_BadName m5_BadName "ValueError.__new__"))
    (sa_BadName : PySem.W.findIn K (.ref C_BadName) "__setattr__" = some (some (.builtin "object.__setattr__")))
    (ga_BadName : PySem.W.findIn K (.ref C_BadName) "__getattribute__" = some (some (.builtin "BaseException.__getattribute__")))
    (gg_BadName : PySem.W.findIn K (.ref C_BadName) "__getattr__" = some none)
    (nw_BadName : PySem.W.findIn K (.ref C_BadName) "what" = some none)
    (ini_BadName : PySem.W.findIn K (.ref C_BadName) "__init__" = some (some (.ref a_init)))
    (cc_BadName : PySem.W.findIn K (.ref C_BadName) "__class__" = some (some (.builtin "object.__class__")))
    (mo_BadName : PySem.W.mroIn K C_BadName (.type "object") = some true)
    (se_BadName : PySem.W.subIn K (.ref C_BadName) (.ref C_BadName) = some true)
    (kC_BadName : PySem.W.keepIn K (.ref C_BadName) = true)
    (s_BadName_AnytextError : PySem.W.subIn K (.ref C_BadName) (.ref C_AnytextError) = some true)
    (s_BadName_BadText : PySem.W.subIn K (.ref C_BadName) (.ref C_BadText) = some false)
    (s_BadName_LetterError : PySem.W.subIn K (.ref C_BadName) (.ref C_LetterError) = some false)
    (s_BadName_NameTaken : PySem.W.subIn K (.ref C_BadName) (.ref C_NameTaken) = some false)
    (s_BadName_ProgramError : PySem.W.subIn K (.ref C_BadName) (.ref C_ProgramError) = some true)
    (s_BadName_TooMany : PySem.W.subIn K (.ref C_BadName) (.ref C_TooMany) = some false)
    (s_BadName_UnknownName : PySem.W.subIn K (.ref C_BadName) (.ref C_UnknownName) = some false)
    (l_BadRewriter : K.lookup C_BadRewriter = some (excClassObj nm_BadRewriter q_BadRewriter C_BadRewriter N_BadRewriter bs_BadRewriter [.ref C_MachineError, .ref C_AnytextError, .type "ValueError", .type "Exception", .type "BaseException", .type "object"] true sn_BadRewriter sb_BadRewriter ab_BadRewriter col_BadRewriter dd_BadRewriter m0_BadRewriter m1_BadRewriter m2_BadRewriter m3_BadRewriter m5_BadRewriter "ValueError.__new__"))
    (sa_BadRewriter : PySem.W.findIn K (.ref C_BadRewriter) "__setattr__" = some (some (.builtin "object.__setattr__")))
    (ga_BadRewriter : PySem.W.findIn K (.ref C_BadRewriter) "__getattribute__" = some (some (.builtin "BaseException.__getattribute__")))
    (gg_BadRewriter : PySem.W.findIn K (.ref C_BadRewriter) "__getattr__" = some none)
    (nw_BadRewriter : PySem.W.findIn K (.ref C_BadRewriter) "what" = some none)
    (ini_BadRewriter : PySem.W.findIn K (.ref C_BadRewriter) "__init__" = some (some (.ref a_init)))
    (cc_BadRewriter : PySem.W.findIn K (.ref C_BadRewriter) "__class__" = some (some (.builtin "object.__class__")))
    (mo_BadRewriter : PySem.W.mroIn K C_BadRewriter (.type "object") = some true)
    (se_BadRewriter : PySem.W.subIn K (.ref C_BadRewriter) (.ref C_BadRewriter) = some true)
    (kC_BadRewriter : PySem.W.keepIn K (.ref C_BadRewriter) = true)
    (i_BadRewriter : PySem.W.isClsIn K C_BadRewriter = true)
    (t_BadRewriter : PySem.W.typeIn K (.ref C_BadRewriter) = some (.type "type"))
    (e_BadRewriter : PySem.W.subIn K (.ref C_BadRewriter) (.type "BaseException") = some true)
    (h_BadRewriter : PySem.W.hasDictIn K C_BadRewriter = true)
    (s_BadRewriter_AnytextError : PySem.W.subIn K (.ref C_BadRewriter) (.ref C_AnytextError) = some true)
    (s_BadRewriter_BadName : PySem.W.subIn K (.ref C_BadRewriter) (.ref C_BadName) = some false)
    (s_BadRewriter_BadText : PySem.W.subIn K (.ref C_BadRewriter) (.ref C_BadText) = some false)
    (s_BadRewriter_LetterError : PySem.W.subIn K (.ref C_BadRewriter) (.ref C_LetterError) = some false)
    (s_BadRewriter_NameTaken : PySem.W.subIn K (.ref C_BadRewriter) (.ref C_NameTaken) = some false)
    (s_BadRewriter_ProgramError : PySem.W.subIn K (.ref C_BadRewriter) (.ref C_ProgramError) = some false)
    (s_BadRewriter_TooMany : PySem.W.subIn K (.ref C_BadRewriter) (.ref C_TooMany) = some false)
    (s_BadRewriter_UnknownName : PySem.W.subIn K (.ref C_BadRewriter) (.ref C_UnknownName) = some false)
    (l_BadText : K.lookup C_BadText = some (excClassObj nm_BadText q_BadText C_BadText N_BadText bs_BadText [.ref C_LetterError, .ref C_AnytextError, .type "ValueError", .type "Exception", .type "BaseException", .type "object"] true sn_BadText sb_BadText ab_BadText col_BadText dd_BadText m0_BadText m1_BadText m2_BadText m3_BadText m5_BadText "ValueError.__new__"))
    (sa_BadText : PySem.W.findIn K (.ref C_BadText) "__setattr__" = some (some (.builtin "object.__setattr__")))
    (ga_BadText : PySem.W.findIn K (.ref C_BadText) "__getattribute__" = some (some (.builtin "BaseException.__getattribute__")))
    (gg_BadText : PySem.W.findIn K (.ref C_BadText) "__getattr__" = some none)
    (nw_BadText : PySem.W.findIn K (.ref C_BadText) "what" = some none)
    (ini_BadText : PySem.W.findIn K (.ref C_BadText) "__init__" = some (some (.ref a_init)))
    (cc_BadText : PySem.W.findIn K (.ref C_BadText) "__class__" = some (some (.builtin "object.__class__")))
    (mo_BadText : PySem.W.mroIn K C_BadText (.type "object") = some true)
    (se_BadText : PySem.W.subIn K (.ref C_BadText) (.ref C_BadText) = some true)
    (kC_BadText : PySem.W.keepIn K (.ref C_BadText) = true)
    (s_BadText_AnytextError : PySem.W.subIn K (.ref C_BadText) (.ref C_AnytextError) = some true)
    (s_BadText_BadName : PySem.W.subIn K (.ref C_BadText) (.ref C_BadName) = some false)
    (s_BadText_LetterError : PySem.W.subIn K (.ref C_BadText) (.ref C_LetterError) = some true)
    (s_BadText_NameTaken : PySem.W.subIn K (.ref C_BadText) (.ref C_NameTaken) = some false)
    (s_BadText_ProgramError : PySem.W.subIn K (.ref C_BadText) (.ref C_ProgramError) = some false)
    (s_BadText_TooMany : PySem.W.subIn K (.ref C_BadText) (.ref C_TooMany) = some false)
    (s_BadText_UnknownName : PySem.W.subIn K (.ref C_BadText) (.ref C_UnknownName) = some false)
    (l_NameTaken : K.lookup C_NameTaken = some (excClassObj nm_NameTaken q_NameTaken C_NameTaken N_NameTaken bs_NameTaken [.ref C_ProgramError, .ref C_AnytextError, .type "ValueError", .type "Exception", .type "BaseException", .type "object"] true sn_NameTaken sb_NameTaken ab_NameTaken col_NameTaken dd_NameTaken m0_NameTaken m1_NameTaken m2_NameTaken m3_NameTaken m5_NameTaken "ValueError.__new__"))
    (sa_NameTaken : PySem.W.findIn K (.ref C_NameTaken) "__setattr__" = some (some (.builtin "object.__setattr__")))
    (ga_NameTaken : PySem.W.findIn K (.ref C_NameTaken) "__getattribute__" = some (some (.builtin "BaseException.__getattribute__")))
    (gg_NameTaken : PySem.W.findIn K (.ref C_NameTaken) "__getattr__" = some none)
    (nw_NameTaken : PySem.W.findIn K (.ref C_NameTaken) "what" = some none)
    (ini_NameTaken : PySem.W.findIn K (.ref C_NameTaken) "__init__" = some (some (.ref a_init)))
    (cc_NameTaken : PySem.W.findIn K (.ref C_NameTaken) "__class__" = some (some (.builtin "object.__class__")))
    (mo_NameTaken : PySem.W.mroIn K C_NameTaken (.type "object") = some true)
    (se_NameTaken : PySem.W.subIn K (.ref C_NameTaken) (.ref C_NameTaken) = some true)
    (kC_NameTaken : PySem.W.keepIn K (.ref C_NameTaken) = true)
    (s_NameTaken_AnytextError : PySem.W.subIn K (.ref C_NameTaken) (.ref C_AnytextError) = some true)
    (s_NameTaken_BadName : PySem.W.subIn K (.ref C_NameTaken) (.ref C_BadName) = some false)
    (s_NameTaken_BadText : PySem.W.subIn K (.ref C_NameTaken) (.ref C_BadText) = some false)
    (s_NameTaken_LetterError : PySem.W.subIn K (.ref C_NameTaken) (.ref C_LetterError) = some false)
    (s_NameTaken_ProgramError : PySem.W.subIn K (.ref C_NameTaken) (.ref C_ProgramError) = some true)
    (s_NameTaken_TooMany : PySem.W.subIn K (.ref C_NameTaken) (.ref C_TooMany) = some false)
    (s_NameTaken_UnknownName : PySem.W.subIn K (.ref C_NameTaken) (.ref C_UnknownName) = some false)
    (l_TooMany : K.lookup C_TooMany = some (excClassObj nm_TooMany q_TooMany C_TooMany N_TooMany bs_TooMany [.ref C_ProgramError, .ref C_AnytextError, .type "ValueError", .type "Exception", .type "BaseException", .type "object"] true sn_TooMany sb_TooMany ab_TooMany col_TooMany dd_TooMany m0_TooMany m1_TooMany m2_TooMany m3_TooMany m5_TooMany "ValueError.__new__"))
    (sa_TooMany : PySem.W.findIn K (.ref C_TooMany) "__setattr__" = some (some (.builtin "object.__setattr__")))
    (ga_TooMany : PySem.W.findIn K (.ref C_TooMany) "__getattribute__" = some (some (.builtin "BaseException.__getattribute__")))
    (gg_TooMany : PySem.W.findIn K (.ref C_TooMany) "__getattr__" = some none)
    (nw_TooMany : PySem.W.findIn K (.ref C_TooMany) "what" = some none)
    (ini_TooMany : PySem.W.findIn K (.ref C_TooMany) "__init__" = some (some (.ref a_init)))
    (cc_TooMany : PySem.W.findIn K (.ref C_TooMany) "__class__" = some (some (.builtin "object.__class__")))
    (mo_TooMany : PySem.W.mroIn K C_TooMany (.type "object") = some true)
    (se_TooMany : PySem.W.subIn K (.ref C_TooMany) (.ref C_TooMany) = some true)
    (kC_TooMany : PySem.W.keepIn K (.ref C_TooMany) = true)
    (s_TooMany_AnytextError : PySem.W.subIn K (.ref C_TooMany) (.ref C_AnytextError) = some true)
    (s_TooMany_BadName : PySem.W.subIn K (.ref C_TooMany) (.ref C_BadName) = some false)
    (s_TooMany_BadText : PySem.W.subIn K (.ref C_TooMany) (.ref C_BadText) = some false)
    (s_TooMany_LetterError : PySem.W.subIn K (.ref C_TooMany) (.ref C_LetterError) = some false)
    (s_TooMany_NameTaken : PySem.W.subIn K (.ref C_TooMany) (.ref C_NameTaken) = some false)
    (s_TooMany_ProgramError : PySem.W.subIn K (.ref C_TooMany) (.ref C_ProgramError) = some true)
    (s_TooMany_UnknownName : PySem.W.subIn K (.ref C_TooMany) (.ref C_UnknownName) = some false)
    (l_UnknownName : K.lookup C_UnknownName = some (excClassObj nm_UnknownName q_UnknownName C_UnknownName N_UnknownName bs_UnknownName [.ref C_ProgramError, .ref C_AnytextError, .type "ValueError", .type "Exception", .type "BaseException", .type "object"] true sn_UnknownName sb_UnknownName ab_UnknownName col_UnknownName dd_UnknownName m0_UnknownName m1_UnknownName m2_UnknownName m3_UnknownName m5_UnknownName "ValueError.__new__"))
    (sa_UnknownName : PySem.W.findIn K (.ref C_UnknownName) "__setattr__" = some (some (.builtin "object.__setattr__")))
    (ga_UnknownName : PySem.W.findIn K (.ref C_UnknownName) "__getattribute__" = some (some (.builtin "BaseException.__getattribute__")))
    (gg_UnknownName : PySem.W.findIn K (.ref C_UnknownName) "__getattr__" = some none)
    (nw_UnknownName : PySem.W.findIn K (.ref C_UnknownName) "what" = some none)
    (ini_UnknownName : PySem.W.findIn K (.ref C_UnknownName) "__init__" = some (some (.ref a_init)))
    (cc_UnknownName : PySem.W.findIn K (.ref C_UnknownName) "__class__" = some (some (.builtin "object.__class__")))
    (mo_UnknownName : PySem.W.mroIn K C_UnknownName (.type "object") = some true)
    (se_UnknownName : PySem.W.subIn K (.ref C_UnknownName) (.ref C_UnknownName) = some true)
    (kC_UnknownName : PySem.W.keepIn K (.ref C_UnknownName) = true)
    (s_UnknownName_AnytextError : PySem.W.subIn K (.ref C_UnknownName) (.ref C_AnytextError) = some true)
    (s_UnknownName_BadName : PySem.W.subIn K (.ref C_UnknownName) (.ref C_BadName) = some false)
    (s_UnknownName_BadText : PySem.W.subIn K (.ref C_UnknownName) (.ref C_BadText) = some false)
    (s_UnknownName_LetterError : PySem.W.subIn K (.ref C_UnknownName) (.ref C_LetterError) = some false)
    (s_UnknownName_NameTaken : PySem.W.subIn K (.ref C_UnknownName) (.ref C_NameTaken) = some false)
    (s_UnknownName_ProgramError : PySem.W.subIn K (.ref C_UnknownName) (.ref C_ProgramError) = some true)
    (s_UnknownName_TooMany : PySem.W.subIn K (.ref C_UnknownName) (.ref C_TooMany) = some false)
    (sp_B : PySem.W.specialIn K (.builtin "object.__class__") "__get__" = some (some (.builtin "getset_descriptor.__get__")))
    (tk_B : PySem.W.takesIn K (.builtin "object.__class__") = some true)
    (n_Blocks : PySem.W.nsIn K mainGlobals "Blocks" = some (some (.ref C_Blocks)))
    (pg_Blocks : PySem.W.plainGet K C_Blocks Str.empty = true)
    (hd_Blocks : PySem.W.hasDictIn K C_Blocks = true)
    (po_Blocks : PySem.W.plainOver K C_Blocks = true)
    (sa_Blocks : PySem.W.findIn K (.ref C_Blocks) "__setattr__" = some (some (.builtin "object.__setattr__")))
    (mk_Blocks : PySem.W.makesIn K C_Blocks = true)
    (kc_Blocks : PySem.W.keepIn K (.ref C_Blocks) = true)
    (na_Blocks_members : PySem.W.findIn K (.ref C_Blocks) "members" = some none)
    (na_Blocks_places : PySem.W.findIn K (.ref C_Blocks) "places" = some none)
    (na_Blocks_block_of : PySem.W.findIn K (.ref C_Blocks) "block_of" = some none)
    (na_Blocks_starts : PySem.W.findIn K (.ref C_Blocks) "starts" = some none)
    (na_Blocks_ends : PySem.W.findIn K (.ref C_Blocks) "ends" = some none)
    (na_Blocks_marks : PySem.W.findIn K (.ref C_Blocks) "marks" = some none)
    (na_Blocks_touched : PySem.W.findIn K (.ref C_Blocks) "touched" = some none)
    (i_Blocks_init : PySem.W.findIn K (.ref C_Blocks) "__init__" = some (some (.ref a_Blocks_init)))
    (q_Blocks_init : PySem.W.isFn K (.ref a_Blocks_init) = true)
    (l_Blocks_init : K.lookup a_Blocks_init = some ⟨oc_Blocks_init, od_Blocks_init, .func (PySem.W.fnOf "__init__" "Blocks.__init__" (defArgs s_Blocks_init) (defBody s_Blocks_init) (defScope s_Blocks_init) .none kV_Blocks_init dc_Blocks_init pm_Blocks_init an_Blocks_init cd_Blocks_init ct_Blocks_init), sl_Blocks_init⟩)
    (c_Blocks_init : PySem.W.codeIn K cd_Blocks_init "Blocks.__init__" = true)
    (k_Blocks_init : PySem.W.keepIn K (.ref a_Blocks_init) = true)
    (i_Blocks_states_in : PySem.W.findIn K (.ref C_Blocks) "states_in" = some (some (.ref a_Blocks_states_in)))
    (q_Blocks_states_in : PySem.W.isFn K (.ref a_Blocks_states_in) = true)
    (l_Blocks_states_in : K.lookup a_Blocks_states_in = some ⟨oc_Blocks_states_in, od_Blocks_states_in, .func (PySem.W.fnOf "states_in" "Blocks.states_in" (defArgs s_Blocks_states_in) (defBody s_Blocks_states_in) (defScope s_Blocks_states_in) .none kV_Blocks_states_in dc_Blocks_states_in pm_Blocks_states_in an_Blocks_states_in cd_Blocks_states_in ct_Blocks_states_in), sl_Blocks_states_in⟩)
    (c_Blocks_states_in : PySem.W.codeIn K cd_Blocks_states_in "Blocks.states_in" = true)
    (k_Blocks_states_in : PySem.W.keepIn K (.ref a_Blocks_states_in) = true)
    (i_Blocks_mark : PySem.W.findIn K (.ref C_Blocks) "mark" = some (some (.ref a_Blocks_mark)))
    (q_Blocks_mark : PySem.W.isFn K (.ref a_Blocks_mark) = true)
    (l_Blocks_mark : K.lookup a_Blocks_mark = some ⟨oc_Blocks_mark, od_Blocks_mark, .func (PySem.W.fnOf "mark" "Blocks.mark" (defArgs s_Blocks_mark) (defBody s_Blocks_mark) (defScope s_Blocks_mark) .none kV_Blocks_mark dc_Blocks_mark pm_Blocks_mark an_Blocks_mark cd_Blocks_mark ct_Blocks_mark), sl_Blocks_mark⟩)
    (c_Blocks_mark : PySem.W.codeIn K cd_Blocks_mark "Blocks.mark" = true)
    (k_Blocks_mark : PySem.W.keepIn K (.ref a_Blocks_mark) = true)
    (i_Blocks_cut : PySem.W.findIn K (.ref C_Blocks) "cut" = some (some (.ref a_Blocks_cut)))
    (q_Blocks_cut : PySem.W.isFn K (.ref a_Blocks_cut) = true)
    (l_Blocks_cut : K.lookup a_Blocks_cut = some ⟨oc_Blocks_cut, od_Blocks_cut, .func (PySem.W.fnOf "cut" "Blocks.cut" (defArgs s_Blocks_cut) (defBody s_Blocks_cut) (defScope s_Blocks_cut) .none kV_Blocks_cut dc_Blocks_cut pm_Blocks_cut an_Blocks_cut cd_Blocks_cut ct_Blocks_cut), sl_Blocks_cut⟩)
    (c_Blocks_cut : PySem.W.codeIn K cd_Blocks_cut "Blocks.cut" = true)
    (k_Blocks_cut : PySem.W.keepIn K (.ref a_Blocks_cut) = true)
    (i_Blocks_take_out : PySem.W.findIn K (.ref C_Blocks) "take_out" = some (some (.ref a_Blocks_take_out)))
    (q_Blocks_take_out : PySem.W.isFn K (.ref a_Blocks_take_out) = true)
    (l_Blocks_take_out : K.lookup a_Blocks_take_out = some ⟨oc_Blocks_take_out, od_Blocks_take_out, .func (PySem.W.fnOf "take_out" "Blocks.take_out" (defArgs s_Blocks_take_out) (defBody s_Blocks_take_out) (defScope s_Blocks_take_out) .none kV_Blocks_take_out dc_Blocks_take_out pm_Blocks_take_out an_Blocks_take_out cd_Blocks_take_out ct_Blocks_take_out), sl_Blocks_take_out⟩)
    (c_Blocks_take_out : PySem.W.codeIn K cd_Blocks_take_out "Blocks.take_out" = true)
    (k_Blocks_take_out : PySem.W.keepIn K (.ref a_Blocks_take_out) = true)
    (n_Machine : PySem.W.nsIn K mainGlobals "Machine" = some (some (.ref C_Machine)))
    (pg_Machine : PySem.W.plainGet K C_Machine Str.empty = true)
    (hd_Machine : PySem.W.hasDictIn K C_Machine = true)
    (po_Machine : PySem.W.plainOver K C_Machine = true)
    (sa_Machine : PySem.W.findIn K (.ref C_Machine) "__setattr__" = some (some (.builtin "object.__setattr__")))
    (mk_Machine : PySem.W.makesIn K C_Machine = true)
    (kc_Machine : PySem.W.keepIn K (.ref C_Machine) = true)
    (na_Machine_letters : PySem.W.findIn K (.ref C_Machine) "letters" = some none)
    (na_Machine_accepting : PySem.W.findIn K (.ref C_Machine) "accepting" = some none)
    (na_Machine_table : PySem.W.findIn K (.ref C_Machine) "table" = some none)
    (i_Machine_init : PySem.W.findIn K (.ref C_Machine) "__init__" = some (some (.ref a_Machine_init)))
    (q_Machine_init : PySem.W.isFn K (.ref a_Machine_init) = true)
    (l_Machine_init : K.lookup a_Machine_init = some ⟨oc_Machine_init, od_Machine_init, .func (PySem.W.fnOf "__init__" "Machine.__init__" (defArgs s_Machine_init) (defBody s_Machine_init) (defScope s_Machine_init) .none kV_Machine_init dc_Machine_init pm_Machine_init an_Machine_init cd_Machine_init ct_Machine_init), sl_Machine_init⟩)
    (c_Machine_init : PySem.W.codeIn K cd_Machine_init "Machine.__init__" = true)
    (k_Machine_init : PySem.W.keepIn K (.ref a_Machine_init) = true)
    (i_Machine_check : PySem.W.findIn K (.ref C_Machine) "check" = some (some (.ref a_Machine_check)))
    (q_Machine_check : PySem.W.isFn K (.ref a_Machine_check) = true)
    (l_Machine_check : K.lookup a_Machine_check = some ⟨oc_Machine_check, od_Machine_check, .func (PySem.W.fnOf "check" "Machine.check" (defArgs s_Machine_check) (defBody s_Machine_check) (defScope s_Machine_check) .none kV_Machine_check dc_Machine_check pm_Machine_check an_Machine_check cd_Machine_check ct_Machine_check), sl_Machine_check⟩)
    (c_Machine_check : PySem.W.codeIn K cd_Machine_check "Machine.check" = true)
    (k_Machine_check : PySem.W.keepIn K (.ref a_Machine_check) = true)
    (i_Machine_run : PySem.W.findIn K (.ref C_Machine) "run" = some (some (.ref a_Machine_run)))
    (q_Machine_run : PySem.W.isFn K (.ref a_Machine_run) = true)
    (l_Machine_run : K.lookup a_Machine_run = some ⟨oc_Machine_run, od_Machine_run, .func (PySem.W.fnOf "run" "Machine.run" (defArgs s_Machine_run) (defBody s_Machine_run) (defScope s_Machine_run) .none kV_Machine_run dc_Machine_run pm_Machine_run an_Machine_run cd_Machine_run ct_Machine_run), sl_Machine_run⟩)
    (c_Machine_run : PySem.W.codeIn K cd_Machine_run "Machine.run" = true)
    (k_Machine_run : PySem.W.keepIn K (.ref a_Machine_run) = true)
    (i_Machine_run_from : PySem.W.findIn K (.ref C_Machine) "run_from" = some (some (.ref a_Machine_run_from)))
    (q_Machine_run_from : PySem.W.isFn K (.ref a_Machine_run_from) = true)
    (l_Machine_run_from : K.lookup a_Machine_run_from = some ⟨oc_Machine_run_from, od_Machine_run_from, .func (PySem.W.fnOf "run_from" "Machine.run_from" (defArgs s_Machine_run_from) (defBody s_Machine_run_from) (defScope s_Machine_run_from) .none kV_Machine_run_from dc_Machine_run_from pm_Machine_run_from an_Machine_run_from cd_Machine_run_from ct_Machine_run_from), sl_Machine_run_from⟩)
    (c_Machine_run_from : PySem.W.codeIn K cd_Machine_run_from "Machine.run_from" = true)
    (k_Machine_run_from : PySem.W.keepIn K (.ref a_Machine_run_from) = true)
    (i_Machine_accepts : PySem.W.findIn K (.ref C_Machine) "accepts" = some (some (.ref a_Machine_accepts)))
    (q_Machine_accepts : PySem.W.isFn K (.ref a_Machine_accepts) = true)
    (l_Machine_accepts : K.lookup a_Machine_accepts = some ⟨oc_Machine_accepts, od_Machine_accepts, .func (PySem.W.fnOf "accepts" "Machine.accepts" (defArgs s_Machine_accepts) (defBody s_Machine_accepts) (defScope s_Machine_accepts) .none kV_Machine_accepts dc_Machine_accepts pm_Machine_accepts an_Machine_accepts cd_Machine_accepts ct_Machine_accepts), sl_Machine_accepts⟩)
    (c_Machine_accepts : PySem.W.codeIn K cd_Machine_accepts "Machine.accepts" = true)
    (k_Machine_accepts : PySem.W.keepIn K (.ref a_Machine_accepts) = true)
    (i_Machine_picture : PySem.W.findIn K (.ref C_Machine) "picture" = some (some (.ref a_Machine_picture)))
    (q_Machine_picture : PySem.W.isFn K (.ref a_Machine_picture) = true)
    (l_Machine_picture : K.lookup a_Machine_picture = some ⟨oc_Machine_picture, od_Machine_picture, .func (PySem.W.fnOf "picture" "Machine.picture" (defArgs s_Machine_picture) (defBody s_Machine_picture) (defScope s_Machine_picture) .none kV_Machine_picture dc_Machine_picture pm_Machine_picture an_Machine_picture cd_Machine_picture ct_Machine_picture), sl_Machine_picture⟩)
    (c_Machine_picture : PySem.W.codeIn K cd_Machine_picture "Machine.picture" = true)
    (k_Machine_picture : PySem.W.keepIn K (.ref a_Machine_picture) = true)
    (n_Book : PySem.W.nsIn K mainGlobals "Book" = some (some (.ref C_Book)))
    (pg_Book : PySem.W.plainGet K C_Book Str.empty = true)
    (hd_Book : PySem.W.hasDictIn K C_Book = true)
    (po_Book : PySem.W.plainOver K C_Book = true)
    (sa_Book : PySem.W.findIn K (.ref C_Book) "__setattr__" = some (some (.builtin "object.__setattr__")))
    (mk_Book : PySem.W.makesIn K C_Book = true)
    (kc_Book : PySem.W.keepIn K (.ref C_Book) = true)
    (na_Book_letters : PySem.W.findIn K (.ref C_Book) "letters" = some none)
    (na_Book__patterns : PySem.W.findIn K (.ref C_Book) "_patterns" = some none)
    (na_Book__rewriters : PySem.W.findIn K (.ref C_Book) "_rewriters" = some none)
    (na_Book__machines : PySem.W.findIn K (.ref C_Book) "_machines" = some none)
    (i_Book_init : PySem.W.findIn K (.ref C_Book) "__init__" = some (some (.ref a_Book_init)))
    (q_Book_init : PySem.W.isFn K (.ref a_Book_init) = true)
    (l_Book_init : K.lookup a_Book_init = some ⟨oc_Book_init, od_Book_init, .func (PySem.W.fnOf "__init__" "Book.__init__" (defArgs s_Book_init) (defBody s_Book_init) (defScope s_Book_init) .none kV_Book_init dc_Book_init pm_Book_init an_Book_init cd_Book_init ct_Book_init), sl_Book_init⟩)
    (c_Book_init : PySem.W.codeIn K cd_Book_init "Book.__init__" = true)
    (k_Book_init : PySem.W.keepIn K (.ref a_Book_init) = true)
    (i_Book_has_pattern : PySem.W.findIn K (.ref C_Book) "has_pattern" = some (some (.ref a_Book_has_pattern)))
    (q_Book_has_pattern : PySem.W.isFn K (.ref a_Book_has_pattern) = true)
    (l_Book_has_pattern : K.lookup a_Book_has_pattern = some ⟨oc_Book_has_pattern, od_Book_has_pattern, .func (PySem.W.fnOf "has_pattern" "Book.has_pattern" (defArgs s_Book_has_pattern) (defBody s_Book_has_pattern) (defScope s_Book_has_pattern) .none kV_Book_has_pattern dc_Book_has_pattern pm_Book_has_pattern an_Book_has_pattern cd_Book_has_pattern ct_Book_has_pattern), sl_Book_has_pattern⟩)
    (c_Book_has_pattern : PySem.W.codeIn K cd_Book_has_pattern "Book.has_pattern" = true)
    (k_Book_has_pattern : PySem.W.keepIn K (.ref a_Book_has_pattern) = true)
    (i_Book_has_rewriter : PySem.W.findIn K (.ref C_Book) "has_rewriter" = some (some (.ref a_Book_has_rewriter)))
    (q_Book_has_rewriter : PySem.W.isFn K (.ref a_Book_has_rewriter) = true)
    (l_Book_has_rewriter : K.lookup a_Book_has_rewriter = some ⟨oc_Book_has_rewriter, od_Book_has_rewriter, .func (PySem.W.fnOf "has_rewriter" "Book.has_rewriter" (defArgs s_Book_has_rewriter) (defBody s_Book_has_rewriter) (defScope s_Book_has_rewriter) .none kV_Book_has_rewriter dc_Book_has_rewriter pm_Book_has_rewriter an_Book_has_rewriter cd_Book_has_rewriter ct_Book_has_rewriter), sl_Book_has_rewriter⟩)
    (c_Book_has_rewriter : PySem.W.codeIn K cd_Book_has_rewriter "Book.has_rewriter" = true)
    (k_Book_has_rewriter : PySem.W.keepIn K (.ref a_Book_has_rewriter) = true)
    (i_Book_machine : PySem.W.findIn K (.ref C_Book) "machine" = some (some (.ref a_Book_machine)))
    (q_Book_machine : PySem.W.isFn K (.ref a_Book_machine) = true)
    (l_Book_machine : K.lookup a_Book_machine = some ⟨oc_Book_machine, od_Book_machine, .func (PySem.W.fnOf "machine" "Book.machine" (defArgs s_Book_machine) (defBody s_Book_machine) (defScope s_Book_machine) .none kV_Book_machine dc_Book_machine pm_Book_machine an_Book_machine cd_Book_machine ct_Book_machine), sl_Book_machine⟩)
    (c_Book_machine : PySem.W.codeIn K cd_Book_machine "Book.machine" = true)
    (k_Book_machine : PySem.W.keepIn K (.ref a_Book_machine) = true)
    (i_Book_rewriter : PySem.W.findIn K (.ref C_Book) "rewriter" = some (some (.ref a_Book_rewriter)))
    (q_Book_rewriter : PySem.W.isFn K (.ref a_Book_rewriter) = true)
    (l_Book_rewriter : K.lookup a_Book_rewriter = some ⟨oc_Book_rewriter, od_Book_rewriter, .func (PySem.W.fnOf "rewriter" "Book.rewriter" (defArgs s_Book_rewriter) (defBody s_Book_rewriter) (defScope s_Book_rewriter) .none kV_Book_rewriter dc_Book_rewriter pm_Book_rewriter an_Book_rewriter cd_Book_rewriter ct_Book_rewriter), sl_Book_rewriter⟩)
    (c_Book_rewriter : PySem.W.codeIn K cd_Book_rewriter "Book.rewriter" = true)
    (k_Book_rewriter : PySem.W.keepIn K (.ref a_Book_rewriter) = true)
    (n_Program : PySem.W.nsIn K mainGlobals "Program" = some (some (.ref C_Program)))
    (pg_Program : PySem.W.plainGet K C_Program Str.empty = true)
    (hd_Program : PySem.W.hasDictIn K C_Program = true)
    (po_Program : PySem.W.plainOver K C_Program = true)
    (sa_Program : PySem.W.findIn K (.ref C_Program) "__setattr__" = some (some (.builtin "object.__setattr__")))
    (mk_Program : PySem.W.makesIn K C_Program = true)
    (kc_Program : PySem.W.keepIn K (.ref C_Program) = true)
    (na_Program_inputs : PySem.W.findIn K (.ref C_Program) "inputs" = some none)
    (na_Program_lines : PySem.W.findIn K (.ref C_Program) "lines" = some none)
    (na_Program_result : PySem.W.findIn K (.ref C_Program) "result" = some none)
    (i_Program_init : PySem.W.findIn K (.ref C_Program) "__init__" = some (some (.ref a_Program_init)))
    (q_Program_init : PySem.W.isFn K (.ref a_Program_init) = true)
    (l_Program_init : K.lookup a_Program_init = some ⟨oc_Program_init, od_Program_init, .func (PySem.W.fnOf "__init__" "Program.__init__" (defArgs s_Program_init) (defBody s_Program_init) (defScope s_Program_init) .none kV_Program_init dc_Program_init pm_Program_init an_Program_init cd_Program_init ct_Program_init), sl_Program_init⟩)
    (c_Program_init : PySem.W.codeIn K cd_Program_init "Program.__init__" = true)
    (k_Program_init : PySem.W.keepIn K (.ref a_Program_init) = true)
    (i_Program_picture : PySem.W.findIn K (.ref C_Program) "picture" = some (some (.ref a_Program_picture)))
    (q_Program_picture : PySem.W.isFn K (.ref a_Program_picture) = true)
    (l_Program_picture : K.lookup a_Program_picture = some ⟨oc_Program_picture, od_Program_picture, .func (PySem.W.fnOf "picture" "Program.picture" (defArgs s_Program_picture) (defBody s_Program_picture) (defScope s_Program_picture) .none kV_Program_picture dc_Program_picture pm_Program_picture an_Program_picture cd_Program_picture ct_Program_picture), sl_Program_picture⟩)
    (c_Program_picture : PySem.W.codeIn K cd_Program_picture "Program.picture" = true)
    (k_Program_picture : PySem.W.keepIn K (.ref a_Program_picture) = true)
    (n_Rewriter : PySem.W.nsIn K mainGlobals "Rewriter" = some (some (.ref C_Rewriter)))
    (pg_Rewriter : PySem.W.plainGet K C_Rewriter Str.empty = true)
    (hd_Rewriter : PySem.W.hasDictIn K C_Rewriter = true)
    (po_Rewriter : PySem.W.plainOver K C_Rewriter = true)
    (sa_Rewriter : PySem.W.findIn K (.ref C_Rewriter) "__setattr__" = some (some (.builtin "object.__setattr__")))
    (mk_Rewriter : PySem.W.makesIn K C_Rewriter = true)
    (kc_Rewriter : PySem.W.keepIn K (.ref C_Rewriter) = true)
    (na_Rewriter_letters : PySem.W.findIn K (.ref C_Rewriter) "letters" = some none)
    (na_Rewriter_lead : PySem.W.findIn K (.ref C_Rewriter) "lead" = some none)
    (na_Rewriter_finals : PySem.W.findIn K (.ref C_Rewriter) "finals" = some none)
    (na_Rewriter_table : PySem.W.findIn K (.ref C_Rewriter) "table" = some none)
    (i_Rewriter_init : PySem.W.findIn K (.ref C_Rewriter) "__init__" = some (some (.ref a_Rewriter_init)))
    (q_Rewriter_init : PySem.W.isFn K (.ref a_Rewriter_init) = true)
    (l_Rewriter_init : K.lookup a_Rewriter_init = some ⟨oc_Rewriter_init, od_Rewriter_init, .func (PySem.W.fnOf "__init__" "Rewriter.__init__" (defArgs s_Rewriter_init) (defBody s_Rewriter_init) (defScope s_Rewriter_init) .none kV_Rewriter_init dc_Rewriter_init pm_Rewriter_init an_Rewriter_init cd_Rewriter_init ct_Rewriter_init), sl_Rewriter_init⟩)
    (c_Rewriter_init : PySem.W.codeIn K cd_Rewriter_init "Rewriter.__init__" = true)
    (k_Rewriter_init : PySem.W.keepIn K (.ref a_Rewriter_init) = true)
    (i_Rewriter_check : PySem.W.findIn K (.ref C_Rewriter) "check" = some (some (.ref a_Rewriter_check)))
    (q_Rewriter_check : PySem.W.isFn K (.ref a_Rewriter_check) = true)
    (l_Rewriter_check : K.lookup a_Rewriter_check = some ⟨oc_Rewriter_check, od_Rewriter_check, .func (PySem.W.fnOf "check" "Rewriter.check" (defArgs s_Rewriter_check) (defBody s_Rewriter_check) (defScope s_Rewriter_check) .none kV_Rewriter_check dc_Rewriter_check pm_Rewriter_check an_Rewriter_check cd_Rewriter_check ct_Rewriter_check), sl_Rewriter_check⟩)
    (c_Rewriter_check : PySem.W.codeIn K cd_Rewriter_check "Rewriter.check" = true)
    (k_Rewriter_check : PySem.W.keepIn K (.ref a_Rewriter_check) = true)
    (i_Rewriter_rewrite : PySem.W.findIn K (.ref C_Rewriter) "rewrite" = some (some (.ref a_Rewriter_rewrite)))
    (q_Rewriter_rewrite : PySem.W.isFn K (.ref a_Rewriter_rewrite) = true)
    (l_Rewriter_rewrite : K.lookup a_Rewriter_rewrite = some ⟨oc_Rewriter_rewrite, od_Rewriter_rewrite, .func (PySem.W.fnOf "rewrite" "Rewriter.rewrite" (defArgs s_Rewriter_rewrite) (defBody s_Rewriter_rewrite) (defScope s_Rewriter_rewrite) .none kV_Rewriter_rewrite dc_Rewriter_rewrite pm_Rewriter_rewrite an_Rewriter_rewrite cd_Rewriter_rewrite ct_Rewriter_rewrite), sl_Rewriter_rewrite⟩)
    (c_Rewriter_rewrite : PySem.W.codeIn K cd_Rewriter_rewrite "Rewriter.rewrite" = true)
    (k_Rewriter_rewrite : PySem.W.keepIn K (.ref a_Rewriter_rewrite) = true)
    (i_Rewriter_rewrite_from : PySem.W.findIn K (.ref C_Rewriter) "rewrite_from" = some (some (.ref a_Rewriter_rewrite_from)))
    (q_Rewriter_rewrite_from : PySem.W.isFn K (.ref a_Rewriter_rewrite_from) = true)
    (l_Rewriter_rewrite_from : K.lookup a_Rewriter_rewrite_from = some ⟨oc_Rewriter_rewrite_from, od_Rewriter_rewrite_from, .func (PySem.W.fnOf "rewrite_from" "Rewriter.rewrite_from" (defArgs s_Rewriter_rewrite_from) (defBody s_Rewriter_rewrite_from) (defScope s_Rewriter_rewrite_from) .none kV_Rewriter_rewrite_from dc_Rewriter_rewrite_from pm_Rewriter_rewrite_from an_Rewriter_rewrite_from cd_Rewriter_rewrite_from ct_Rewriter_rewrite_from), sl_Rewriter_rewrite_from⟩)
    (c_Rewriter_rewrite_from : PySem.W.codeIn K cd_Rewriter_rewrite_from "Rewriter.rewrite_from" = true)
    (k_Rewriter_rewrite_from : PySem.W.keepIn K (.ref a_Rewriter_rewrite_from) = true)
    (i_Rewriter_picture : PySem.W.findIn K (.ref C_Rewriter) "picture" = some (some (.ref a_Rewriter_picture)))
    (q_Rewriter_picture : PySem.W.isFn K (.ref a_Rewriter_picture) = true)
    (l_Rewriter_picture : K.lookup a_Rewriter_picture = some ⟨oc_Rewriter_picture, od_Rewriter_picture, .func (PySem.W.fnOf "picture" "Rewriter.picture" (defArgs s_Rewriter_picture) (defBody s_Rewriter_picture) (defScope s_Rewriter_picture) .none kV_Rewriter_picture dc_Rewriter_picture pm_Rewriter_picture an_Rewriter_picture cd_Rewriter_picture ct_Rewriter_picture), sl_Rewriter_picture⟩)
    (c_Rewriter_picture : PySem.W.codeIn K cd_Rewriter_picture "Rewriter.picture" = true)
    (k_Rewriter_picture : PySem.W.keepIn K (.ref a_Rewriter_picture) = true)
    (z_abs : PySem.W.nsIn K mainGlobals "abs" = some none)
    (z_all : PySem.W.nsIn K mainGlobals "all" = some none)
    (z_any : PySem.W.nsIn K mainGlobals "any" = some none)
    (z_dict : PySem.W.nsIn K mainGlobals "dict" = some none)
    (z_enumerate : PySem.W.nsIn K mainGlobals "enumerate" = some none)
    (z_int : PySem.W.nsIn K mainGlobals "int" = some none)
    (z_isinstance : PySem.W.nsIn K mainGlobals "isinstance" = some none)
    (z_len : PySem.W.nsIn K mainGlobals "len" = some none)
    (z_list : PySem.W.nsIn K mainGlobals "list" = some none)
    (z_max : PySem.W.nsIn K mainGlobals "max" = some none)
    (z_min : PySem.W.nsIn K mainGlobals "min" = some none)
    (z_range : PySem.W.nsIn K mainGlobals "range" = some none)
    (z_reversed : PySem.W.nsIn K mainGlobals "reversed" = some none)
    (z_set : PySem.W.nsIn K mainGlobals "set" = some none)
    (z_sorted : PySem.W.nsIn K mainGlobals "sorted" = some none)
    (z_tuple : PySem.W.nsIn K mainGlobals "tuple" = some none)
    (k_LETTERS : PySem.W.nsIn K mainGlobals "LETTERS" = some (some (.str "abcdefghijklmnopqrstuvwxyzABCDEFGHIJKLMNOPQRSTUVWXYZ0123456789<>=:_@#" t_LETTERS)))
    (k_MOST_LETTERS : PySem.W.nsIn K mainGlobals "MOST_LETTERS" = some (some (.int 8 t_MOST_LETTERS)))
    (k_LEAVES : PySem.W.nsIn K mainGlobals "LEAVES" = some (some (.ref a_LEAVES)))
    (kt_LEAVES : K.lookup a_LEAVES = some ⟨.type "tuple", od_LEAVES, .seq #[.str "none" tk_LEAVES_0, .str "empty" tk_LEAVES_1, .str "one" tk_LEAVES_2] n_LEAVES, sl_LEAVES⟩)
    (k_WORDS : PySem.W.nsIn K mainGlobals "WORDS" = some (some (.ref a_WORDS)))
    (kt_WORDS : K.lookup a_WORDS = some ⟨.type "tuple", od_WORDS, .seq #[.str "turn" tk_WORDS_0, .str "rewrite" tk_WORDS_1, .str "if" tk_WORDS_2, .str "in" tk_WORDS_3, .str "then" tk_WORDS_4, .str "else" tk_WORDS_5, .str "need" tk_WORDS_6, .str "give" tk_WORDS_7] n_WORDS, sl_WORDS⟩)
    (k_NAME_LETTERS : PySem.W.nsIn K mainGlobals "NAME_LETTERS" = some (some (.str "abcdefghijklmnopqrstuvwxyz" t_NAME_LETTERS)))
    (k_LONGEST_NAME : PySem.W.nsIn K mainGlobals "LONGEST_NAME" = some (some (.int 8 t_LONGEST_NAME)))
    (k_MOST_INPUTS : PySem.W.nsIn K mainGlobals "MOST_INPUTS" = some (some (.int 3 t_MOST_INPUTS)))
    (k_MOST_LINES : PySem.W.nsIn K mainGlobals "MOST_LINES" = some (some (.int 12 t_MOST_LINES)))
    (k_MOST_PARTS : PySem.W.nsIn K mainGlobals "MOST_PARTS" = some (some (.int 6 t_MOST_PARTS)))
    (ec_least_from : cd_least_from = .ref cc_least_from)
    (hdt_least_from : PySem.W.codeHdIn K cc_least_from PP_least_from = true)
    (nt_least_from : K.lookup PP_least_from = none)
    (ht_least_from : h.get? PP_least_from = some (PySem.W.tabObj #[]))
    (ec_both : cd_both = .ref cc_both)
    (hdt_both : PySem.W.codeHdIn K cc_both PP_both = true)
    (nt_both : K.lookup PP_both = none)
    (ht_both : h.get? PP_both = some (PySem.W.tabObj #[]))
    (ec_either : cd_either = .ref cc_either)
    (hdt_either : PySem.W.codeHdIn K cc_either PP_either = true)
    (nt_either : K.lookup PP_either = none)
    (ht_either : h.get? PP_either = some (PySem.W.tabObj #[]))
    (ec__paired : cd__paired = .ref cc__paired)
    (hdt__paired : PySem.W.codeHdIn K cc__paired PP__paired = true)
    (nt__paired : K.lookup PP__paired = none)
    (ht__paired : h.get? PP__paired = some (PySem.W.tabObj #[]))
    (ec_chained_texts : cd_chained_texts = .ref cc_chained_texts)
    (hdt_chained_texts : PySem.W.codeHdIn K cc_chained_texts PP_chained_texts = true)
    (nt_chained_texts : K.lookup PP_chained_texts = none)
    (ht_chained_texts : h.get? PP_chained_texts = some (PySem.W.tabObj #[]))
    (ec_repetition : cd_repetition = .ref cc_repetition)
    (hdt_repetition : PySem.W.codeHdIn K cc_repetition PP_repetition = true)
    (nt_repetition : K.lookup PP_repetition = none)
    (ht_repetition : h.get? PP_repetition = some (PySem.W.tabObj #[]))
    : LamX.LawAtS l w K L2.CX0 lvLaw 63 "script" mg fa h := by
  have e := hfa.symm.trans (PySem.W.mg_of X G n_law)
  cases e
  have f__wall := fun_mk (st := s__wall) l__wall c__wall k__wall
  have b__wall := f__wall.binds (ps := ["k"]) fun _ _ _ _ _ _ us hl => match us, hl with | [_], _ => rfl
  have f_check_alphabet := fun_mk (st := s_check_alphabet) l_check_alphabet c_check_alphabet k_check_alphabet
  have b_check_alphabet := f_check_alphabet.binds (ps := ["letters"]) fun _ _ _ _ _ _ us hl => match us, hl with | [_], _ => rfl
  have f_is_text := fun_mk (st := s_is_text) l_is_text c_is_text k_is_text
  have b_is_text := f_is_text.binds (ps := ["letters", "text"]) fun _ _ _ _ _ _ us hl => match us, hl with | [_, _], _ => rfl
  have f_check_text := fun_mk (st := s_check_text) l_check_text c_check_text k_check_text
  have b_check_text := f_check_text.binds (ps := ["letters", "text"]) fun _ _ _ _ _ _ us hl => match us, hl with | [_, _], _ => rfl
  have f_block_numbers := fun_mk (st := s_block_numbers) l_block_numbers c_block_numbers k_block_numbers
  have b_block_numbers := f_block_numbers.binds (ps := ["kinds", "sources"]) fun _ _ _ _ _ _ us hl => match us, hl with | [_, _], _ => rfl
  have f_first_states := fun_mk (st := s_first_states) l_first_states c_first_states k_first_states
  have b_first_states := f_first_states.binds (ps := ["numbers"]) fun _ _ _ _ _ _ us hl => match us, hl with | [_], _ => rfl
  have f__blocks_of_kinds := fun_mk (st := s__blocks_of_kinds) l__blocks_of_kinds c__blocks_of_kinds k__blocks_of_kinds
  have b__blocks_of_kinds := f__blocks_of_kinds.binds (ps := ["kinds"]) fun _ _ _ _ _ _ us hl => match us, hl with | [_], _ => rfl
  have f_explored := fun_mk (st := s_explored) l_explored c_explored k_explored
  have b_explored := f_explored.binds (ps := ["letters", "start", "step", "accepts"]) fun _ _ _ _ _ _ us hl => match us, hl with | [_, _, _, _], _ => rfl
  have f_ways_back := fun_mk (st := s_ways_back) l_ways_back c_ways_back k_ways_back
  have b_ways_back := f_ways_back.binds (ps := ["nexts"]) fun _ _ _ _ _ _ us hl => match us, hl with | [_], _ => rfl
  have f_least := fun_mk (st := s_least) l_least c_least k_least
  have b_least := f_least.binds (ps := ["machine"]) fun _ _ _ _ _ _ us hl => match us, hl with | [_], _ => rfl
  have f_least_from := fun_mk (st := s_least_from) l_least_from c_least_from k_least_from
  have b_least_from := f_least_from.binds (ps := ["machine", "start"]) fun _ _ _ _ _ _ us hl => match us, hl with | [_, _], _ => rfl
  have f_least_explored := fun_mk (st := s_least_explored) l_least_explored c_least_explored k_least_explored
  have b_least_explored := f_least_explored.binds (ps := ["letters", "start", "step", "accepts"]) fun _ _ _ _ _ _ us hl => match us, hl with | [_, _, _, _], _ => rfl
  have f__merged := fun_mk (st := s__merged) l__merged c__merged k__merged
  have b__merged := f__merged.binds (ps := ["machine"]) fun _ _ _ _ _ _ us hl => match us, hl with | [_], _ => rfl
  have f_sources_by := fun_mk (st := s_sources_by) l_sources_by c_sources_by k_sources_by
  have b_sources_by := f_sources_by.binds (ps := ["machine", "index"]) fun _ _ _ _ _ _ us hl => match us, hl with | [_, _], _ => rfl
  have f_both := fun_mk (st := s_both) l_both c_both k_both
  have b_both := f_both.binds (ps := ["first", "second"]) fun _ _ _ _ _ _ us hl => match us, hl with | [_, _], _ => rfl
  have f_either := fun_mk (st := s_either) l_either c_either k_either
  have b_either := f_either.binds (ps := ["first", "second"]) fun _ _ _ _ _ _ us hl => match us, hl with | [_, _], _ => rfl
  have f_opposite := fun_mk (st := s_opposite) l_opposite c_opposite k_opposite
  have b_opposite := f_opposite.binds (ps := ["machine"]) fun _ _ _ _ _ _ us hl => match us, hl with | [_], _ => rfl
  have f__paired := fun_mk (st := s__paired) l__paired c__paired k__paired
  have b__paired := f__paired.binds (ps := ["first", "second", "chosen"]) fun _ _ _ _ _ _ us hl => match us, hl with | [_, _, _], _ => rfl
  have f_chained_texts := fun_mk (st := s_chained_texts) l_chained_texts c_chained_texts k_chained_texts
  have b_chained_texts := f_chained_texts.binds (ps := ["first", "second"]) fun _ _ _ _ _ _ us hl => match us, hl with | [_, _], _ => rfl
  have f_repetition := fun_mk (st := s_repetition) l_repetition c_repetition k_repetition
  have b_repetition := f_repetition.binds (ps := ["machine"]) fun _ _ _ _ _ _ us hl => match us, hl with | [_], _ => rfl
  have f__lot := fun_mk (st := s__lot) l__lot c__lot k__lot
  have b__lot := f__lot.binds (ps := ["states"]) fun _ _ _ _ _ _ us hl => match us, hl with | [_], _ => rfl
  have f__after := fun_mk (st := s__after) l__after c__after k__after
  have b__after := f__after.binds (ps := ["machine", "lot", "index"]) fun _ _ _ _ _ _ us hl => match us, hl with | [_, _, _], _ => rfl
  have f__accepts_one := fun_mk (st := s__accepts_one) l__accepts_one c__accepts_one k__accepts_one
  have b__accepts_one := f__accepts_one.binds (ps := ["machine", "lot"]) fun _ _ _ _ _ _ us hl => match us, hl with | [_, _], _ => rfl
  have f_parts_of := fun_mk (st := s_parts_of) l_parts_of c_parts_of k_parts_of
  have b_parts_of := f_parts_of.binds (ps := ["term"]) fun _ _ _ _ _ _ us hl => match us, hl with | [_], _ => rfl
  have f_flat_terms := fun_mk (st := s_flat_terms) l_flat_terms c_flat_terms k_flat_terms
  have b_flat_terms := f_flat_terms.binds (ps := ["pattern"]) fun _ _ _ _ _ _ us hl => match us, hl with | [_], _ => rfl
  have f_machine_of := fun_mk (st := s_machine_of) l_machine_of c_machine_of k_machine_of
  have b_machine_of := f_machine_of.binds (ps := ["letters", "pattern"]) fun _ _ _ _ _ _ us hl => match us, hl with | [_, _], _ => rfl
  have f__machine_of_term := fun_mk (st := s__machine_of_term) l__machine_of_term c__machine_of_term k__machine_of_term
  have b__machine_of_term := f__machine_of_term.binds (ps := ["letters", "term", "machines"]) fun _ _ _ _ _ _ us hl => match us, hl with | [_, _, _], _ => rfl
  have f__machine_of_leaf := fun_mk (st := s__machine_of_leaf) l__machine_of_leaf c__machine_of_leaf k__machine_of_leaf
  have b__machine_of_leaf := f__machine_of_leaf.binds (ps := ["letters", "term"]) fun _ _ _ _ _ _ us hl => match us, hl with | [_, _], _ => rfl
  have f_is_name := fun_mk (st := s_is_name) l_is_name c_is_name k_is_name
  have b_is_name := f_is_name.binds (ps := ["name"]) fun _ _ _ _ _ _ us hl => match us, hl with | [_], _ => rfl
  have f_check_program := fun_mk (st := s_check_program) l_check_program c_check_program k_check_program
  have b_check_program := f_check_program.binds (ps := ["book", "program"]) fun _ _ _ _ _ _ us hl => match us, hl with | [_, _], _ => rfl
  have f_names_read := fun_mk (st := s_names_read) l_names_read c_names_read k_names_read
  have b_names_read := f_names_read.binds (ps := ["line"]) fun _ _ _ _ _ _ us hl => match us, hl with | [_], _ => rfl
  have f_names_given := fun_mk (st := s_names_given) l_names_given c_names_given k_names_given
  have b_names_given := f_names_given.binds (ps := ["line"]) fun _ _ _ _ _ _ us hl => match us, hl with | [_], _ => rfl
  have f__check_new_name := fun_mk (st := s__check_new_name) l__check_new_name c__check_new_name k__check_new_name
  have b__check_new_name := f__check_new_name.binds (ps := ["name", "known"]) fun _ _ _ _ _ _ us hl => match us, hl with | [_, _], _ => rfl
  have f__check_known := fun_mk (st := s__check_known) l__check_known c__check_known k__check_known
  have b__check_known := f__check_known.binds (ps := ["names", "known"]) fun _ _ _ _ _ _ us hl => match us, hl with | [_, _], _ => rfl
  have f__check_book_has := fun_mk (st := s__check_book_has) l__check_book_has c__check_book_has k__check_book_has
  have b__check_book_has := f__check_book_has.binds (ps := ["book", "line"]) fun _ _ _ _ _ _ us hl => match us, hl with | [_, _], _ => rfl
  have f__check_parts := fun_mk (st := s__check_parts) l__check_parts c__check_parts k__check_parts
  have b__check_parts := f__check_parts.binds (ps := ["letters", "parts"]) fun _ _ _ _ _ _ us hl => match us, hl with | [_, _], _ => rfl
  have f_cell := fun_mk (st := s_cell) l_cell c_cell k_cell
  have b_cell := f_cell.binds (ps := ["script", "k"]) fun _ _ _ _ _ _ us hl => match us, hl with | [_, _], _ => rfl
  have f_numbers := fun_mk (st := s_numbers) l_numbers c_numbers k_numbers
  have b_numbers := f_numbers.binds (ps := ["cell", "many"]) fun _ _ _ _ _ _ us hl => match us, hl with | [_, _], _ => rfl
  have f_state := fun_mk (st := s_state) l_state c_state k_state
  have b_state := f_state.binds (ps := ["script", "start", "many"]) fun _ _ _ _ _ _ us hl => match us, hl with | [_, _, _], _ => rfl
  have f_next := fun_mk (st := s_next) l_next c_next k_next
  have b_next := f_next.binds (ps := ["state", "many"]) fun _ _ _ _ _ _ us hl => match us, hl with | [_, _], _ => rfl
  have f_letters := fun_mk (st := s_letters) l_letters c_letters k_letters
  have b_letters := f_letters.binds (ps := ["state", "most"]) fun _ _ _ _ _ _ us hl => match us, hl with | [_, _], _ => rfl
  have f_pattern := fun_mk (st := s_pattern) l_pattern c_pattern k_pattern
  have b_pattern := f_pattern.binds (ps := ["letters", "state", "deep"]) fun _ _ _ _ _ _ us hl => match us, hl with | [_, _, _], _ => rfl
  have f_word := fun_mk (st := s_word) l_word c_word k_word
  have b_word := f_word.binds (ps := ["letters", "state", "most"]) fun _ _ _ _ _ _ us hl => match us, hl with | [_, _, _], _ => rfl
  have f_maker := fun_mk (st := s_maker) l_maker c_maker k_maker
  have b_maker := f_maker.binds (ps := ["letters", "state", "most"]) fun _ _ _ _ _ _ us hl => match us, hl with | [_, _, _], _ => rfl
  have f_name := fun_mk (st := s_name) l_name c_name k_name
  have b_name := f_name.binds (ps := ["state", "taken"]) fun _ _ _ _ _ _ us hl => match us, hl with | [_, _], _ => rfl
  have f_named := fun_mk (st := s_named) l_named c_named k_named
  have b_named := f_named.binds (ps := ["state", "many", "taken"]) fun _ _ _ _ _ _ us hl => match us, hl with | [_, _, _], _ => rfl
  have f_book := fun_mk (st := s_book) l_book c_book k_book
  have b_book := f_book.binds (ps := ["letters", "state", "deep", "states"]) fun _ _ _ _ _ _ us hl => match us, hl with | [_, _, _, _], _ => rfl
  have f_made_book := fun_mk (st := s_made_book) l_made_book c_made_book k_made_book
  have b_made_book := f_made_book.binds (ps := ["letters", "book"]) fun _ _ _ _ _ _ us hl => match us, hl with | [_, _], _ => rfl
  have f_pick := fun_mk (st := s_pick) l_pick c_pick k_pick
  have b_pick := f_pick.binds (ps := ["state", "rows"]) fun _ _ _ _ _ _ us hl => match us, hl with | [_, _], _ => rfl
  have f_line := fun_mk (st := s_line) l_line c_line k_line
  have b_line := f_line.binds (ps := ["letters", "state", "book", "known", "name"]) fun _ _ _ _ _ _ us hl => match us, hl with | [_, _, _, _, _], _ => rfl
  have f_program := fun_mk (st := s_program) l_program c_program k_program
  have b_program := f_program.binds (ps := ["letters", "state", "book", "most"]) fun _ _ _ _ _ _ us hl => match us, hl with | [_, _, _, _], _ => rfl
  have f_told := fun_mk (st := s_told) l_told c_told k_told
  have b_told := f_told.binds (ps := ["book", "program"]) fun _ _ _ _ _ _ us hl => match us, hl with | [_, _], _ => rfl
  have f_law_is_name := fun_mk (st := s_law_is_name) l_law_is_name c_law_is_name k_law_is_name
  have b_law_is_name := f_law_is_name.binds (ps := ["name"]) fun _ _ _ _ _ _ us hl => match us, hl with | [_], _ => rfl
  have f_entered := fun_mk (st := s_entered) l_entered c_entered k_entered
  have b_entered := f_entered.binds (ps := ["known", "name"]) fun _ _ _ _ _ _ us hl => match us, hl with | [_, _], _ => rfl
  have f_read_names := fun_mk (st := s_read_names) l_read_names c_read_names k_read_names
  have b_read_names := f_read_names.binds (ps := ["line"]) fun _ _ _ _ _ _ us hl => match us, hl with | [_], _ => rfl
  have f_things := fun_mk (st := s_things) l_things c_things k_things
  have b_things := f_things.binds (ps := ["letters", "book", "line"]) fun _ _ _ _ _ _ us hl => match us, hl with | [_, _, _], _ => rfl
  have f_due := fun_mk (st := s_due) l_due c_due k_due
  have b_due := f_due.binds (ps := ["letters", "book", "program"]) fun _ _ _ _ _ _ us hl => match us, hl with | [_, _, _], _ => rfl
  have f_odd := fun_mk (st := s_odd) l_odd c_odd k_odd
  have b_odd := f_odd.binds (ps := ["state", "names"]) fun _ _ _ _ _ _ us hl => match us, hl with | [_, _], _ => rfl
  have f_spoilt := fun_mk (st := s_spoilt) l_spoilt c_spoilt k_spoilt
  have b_spoilt := f_spoilt.binds (ps := ["letters", "state", "book", "program"]) fun _ _ _ _ _ _ us hl => match us, hl with | [_, _, _, _], _ => rfl
  have f_law := fun_mk (st := s_law) l_law c_law k_law
  have b_law := f_law.binds (ps := ["script"]) fun _ _ _ _ _ _ us hl => match us, hl with | [_], _ => rfl
  have f_Blocks_init := fun_mk (st := s_Blocks_init) l_Blocks_init c_Blocks_init k_Blocks_init
  have b_Blocks_init := f_Blocks_init.binds (ps := ["self", "many"]) fun _ _ _ _ _ _ us hl => match us, hl with | [_, _], _ => rfl
  have f_Blocks_states_in := fun_mk (st := s_Blocks_states_in) l_Blocks_states_in c_Blocks_states_in k_Blocks_states_in
  have b_Blocks_states_in := f_Blocks_states_in.binds (ps := ["self", "block"]) fun _ _ _ _ _ _ us hl => match us, hl with | [_, _], _ => rfl
  have f_Blocks_mark := fun_mk (st := s_Blocks_mark) l_Blocks_mark c_Blocks_mark k_Blocks_mark
  have b_Blocks_mark := f_Blocks_mark.binds (ps := ["self", "state"]) fun _ _ _ _ _ _ us hl => match us, hl with | [_, _], _ => rfl
  have f_Blocks_cut := fun_mk (st := s_Blocks_cut) l_Blocks_cut c_Blocks_cut k_Blocks_cut
  have b_Blocks_cut := f_Blocks_cut.binds (ps := ["self"]) fun _ _ _ _ _ _ us hl => match us, hl with | [_], _ => rfl
  have f_Blocks_take_out := fun_mk (st := s_Blocks_take_out) l_Blocks_take_out c_Blocks_take_out k_Blocks_take_out
  have b_Blocks_take_out := f_Blocks_take_out.binds (ps := ["self", "start", "end"]) fun _ _ _ _ _ _ us hl => match us, hl with | [_, _, _], _ => rfl
  have f_Machine_init := fun_mk (st := s_Machine_init) l_Machine_init c_Machine_init k_Machine_init
  have b_Machine_init := f_Machine_init.binds (ps := ["self", "letters", "accepting", "table"]) fun _ _ _ _ _ _ us hl => match us, hl with | [_, _, _, _], _ => rfl
  have f_Machine_check := fun_mk (st := s_Machine_check) l_Machine_check c_Machine_check k_Machine_check
  have b_Machine_check := f_Machine_check.binds (ps := ["self"]) fun _ _ _ _ _ _ us hl => match us, hl with | [_], _ => rfl
  have f_Machine_run := fun_mk (st := s_Machine_run) l_Machine_run c_Machine_run k_Machine_run
  have b_Machine_run := f_Machine_run.binds (ps := ["self", "text"]) fun _ _ _ _ _ _ us hl => match us, hl with | [_, _], _ => rfl
  have f_Machine_run_from := fun_mk (st := s_Machine_run_from) l_Machine_run_from c_Machine_run_from k_Machine_run_from
  have b_Machine_run_from := f_Machine_run_from.binds (ps := ["self", "state", "text"]) fun _ _ _ _ _ _ us hl => match us, hl with | [_, _, _], _ => rfl
  have f_Machine_accepts := fun_mk (st := s_Machine_accepts) l_Machine_accepts c_Machine_accepts k_Machine_accepts
  have b_Machine_accepts := f_Machine_accepts.binds (ps := ["self", "text"]) fun _ _ _ _ _ _ us hl => match us, hl with | [_, _], _ => rfl
  have f_Machine_picture := fun_mk (st := s_Machine_picture) l_Machine_picture c_Machine_picture k_Machine_picture
  have b_Machine_picture := f_Machine_picture.binds (ps := ["self"]) fun _ _ _ _ _ _ us hl => match us, hl with | [_], _ => rfl
  have f_Book_init := fun_mk (st := s_Book_init) l_Book_init c_Book_init k_Book_init
  have b_Book_init := f_Book_init.binds (ps := ["self", "letters", "patterns", "rewriters"]) fun _ _ _ _ _ _ us hl => match us, hl with | [_, _, _, _], _ => rfl
  have f_Book_has_pattern := fun_mk (st := s_Book_has_pattern) l_Book_has_pattern c_Book_has_pattern k_Book_has_pattern
  have b_Book_has_pattern := f_Book_has_pattern.binds (ps := ["self", "name"]) fun _ _ _ _ _ _ us hl => match us, hl with | [_, _], _ => rfl
  have f_Book_has_rewriter := fun_mk (st := s_Book_has_rewriter) l_Book_has_rewriter c_Book_has_rewriter k_Book_has_rewriter
  have b_Book_has_rewriter := f_Book_has_rewriter.binds (ps := ["self", "name"]) fun _ _ _ _ _ _ us hl => match us, hl with | [_, _], _ => rfl
  have f_Book_machine := fun_mk (st := s_Book_machine) l_Book_machine c_Book_machine k_Book_machine
  have b_Book_machine := f_Book_machine.binds (ps := ["self", "name"]) fun _ _ _ _ _ _ us hl => match us, hl with | [_, _], _ => rfl
  have f_Book_rewriter := fun_mk (st := s_Book_rewriter) l_Book_rewriter c_Book_rewriter k_Book_rewriter
  have b_Book_rewriter := f_Book_rewriter.binds (ps := ["self", "name"]) fun _ _ _ _ _ _ us hl => match us, hl with | [_, _], _ => rfl
  have f_Program_init := fun_mk (st := s_Program_init) l_Program_init c_Program_init k_Program_init
  have b_Program_init := f_Program_init.binds (ps := ["self", "inputs", "lines", "result"]) fun _ _ _ _ _ _ us hl => match us, hl with | [_, _, _, _], _ => rfl
  have f_Program_picture := fun_mk (st := s_Program_picture) l_Program_picture c_Program_picture k_Program_picture
  have b_Program_picture := f_Program_picture.binds (ps := ["self"]) fun _ _ _ _ _ _ us hl => match us, hl with | [_], _ => rfl
  have f_Rewriter_init := fun_mk (st := s_Rewriter_init) l_Rewriter_init c_Rewriter_init k_Rewriter_init
  have b_Rewriter_init := f_Rewriter_init.binds (ps := ["self", "letters", "lead", "finals", "table"]) fun _ _ _ _ _ _ us hl => match us, hl with | [_, _, _, _, _], _ => rfl
  have f_Rewriter_check := fun_mk (st := s_Rewriter_check) l_Rewriter_check c_Rewriter_check k_Rewriter_check
  have b_Rewriter_check := f_Rewriter_check.binds (ps := ["self"]) fun _ _ _ _ _ _ us hl => match us, hl with | [_], _ => rfl
  have f_Rewriter_rewrite := fun_mk (st := s_Rewriter_rewrite) l_Rewriter_rewrite c_Rewriter_rewrite k_Rewriter_rewrite
  have b_Rewriter_rewrite := f_Rewriter_rewrite.binds (ps := ["self", "text"]) fun _ _ _ _ _ _ us hl => match us, hl with | [_, _], _ => rfl
  have f_Rewriter_rewrite_from := fun_mk (st := s_Rewriter_rewrite_from) l_Rewriter_rewrite_from c_Rewriter_rewrite_from k_Rewriter_rewrite_from
  have b_Rewriter_rewrite_from := f_Rewriter_rewrite_from.binds (ps := ["self", "state", "text"]) fun _ _ _ _ _ _ us hl => match us, hl with | [_, _, _], _ => rfl
  have f_Rewriter_picture := fun_mk (st := s_Rewriter_picture) l_Rewriter_picture c_Rewriter_picture k_Rewriter_picture
  have b_Rewriter_picture := f_Rewriter_picture.binds (ps := ["self"]) fun _ _ _ _ _ _ us hl => match us, hl with | [_], _ => rfl
  have fI : FunD K "__init__" "AnytextError.__init__" (defArgs s_init) (defBody s_init) (defScope s_init) [.non] [] a_init _ := ⟨⟨oc_init, od_init, .ref T_init, kV_init, dc_init, pm_init, an_init, cd_init, ct_init, sl_init, rfl, l_init, c_init, .inr ⟨(fun z => nomatch z), T_init, _, [.none], nn_init, rfl, lt_init, rfl, .cons rfl .nil⟩, .inl rfl⟩, k_init⟩
  have bI0 := fI.binds1 (ps := ["self", "what"]) 2 1 (fun z => nomatch z) rfl fun T kV doc pm an cdv ct us its hu hi => match us, hu, its, hi with | [_, _], _, [_], _ => ⟨_, rfl, rfl⟩
  have bI : Binds K (PySem.W.fnOf "__init__" "AnytextError.__init__" (defArgs s_init) (defBody s_init) (defScope s_init) (.ref T_init) kV_init dc_init pm_init an_init cd_init ct_init) ["self", "what"] [] := by
    obtain ⟨ds, hv, hb⟩ := bI0
    cases hv
    exact hb
  have dt_LEAVES : ∀ H, Dp K H (.ref a_LEAVES) (.tuple [.str "none", .str "empty", .str "one"]) := fun H => .tup (show SqT K H a_LEAVES [.str "none", .str "empty", .str "one"] from .inr ⟨_, _, _, kt_LEAVES, rfl, rfl, by show 3 ≤ sizeLine; decide, .cons ⟨_, rfl⟩ (.cons ⟨_, rfl⟩ (.cons ⟨_, rfl⟩ (.nil)))⟩) (.cons (.str _) (.cons (.str _) (.cons (.str _) (.nil))))
  have dt_WORDS : ∀ H, Dp K H (.ref a_WORDS) (.tuple [.str "turn", .str "rewrite", .str "if", .str "in", .str "then", .str "else", .str "need", .str "give"]) := fun H => .tup (show SqT K H a_WORDS [.str "turn", .str "rewrite", .str "if", .str "in", .str "then", .str "else", .str "need", .str "give"] from .inr ⟨_, _, _, kt_WORDS, rfl, rfl, by show 8 ≤ sizeLine; decide, .cons ⟨_, rfl⟩ (.cons ⟨_, rfl⟩ (.cons ⟨_, rfl⟩ (.cons ⟨_, rfl⟩ (.cons ⟨_, rfl⟩ (.cons ⟨_, rfl⟩ (.cons ⟨_, rfl⟩ (.cons ⟨_, rfl⟩ (.nil))))))))⟩) (.cons (.str _) (.cons (.str _) (.cons (.str _) (.cons (.str _) (.cons (.str _) (.cons (.str _) (.cons (.str _) (.cons (.str _) (.nil)))))))))
  let T : Txt K mg := {
    C_Blocks := C_Blocks, g_Blocks := PySem.W.mg_of X G n_Blocks, cl_Blocks := ⟨pg_Blocks, hd_Blocks, po_Blocks, sa_Blocks⟩,
    na_Blocks_members := na_Blocks_members,
    na_Blocks_places := na_Blocks_places,
    na_Blocks_block_of := na_Blocks_block_of,
    na_Blocks_starts := na_Blocks_starts,
    na_Blocks_ends := na_Blocks_ends,
    na_Blocks_marks := na_Blocks_marks,
    na_Blocks_touched := na_Blocks_touched,
    a_Blocks_init := a_Blocks_init, d_Blocks_init := _, f_Blocks_init := f_Blocks_init, b_Blocks_init := b_Blocks_init,
    mk_Blocks := ⟨mk_Blocks, i_Blocks_init, q_Blocks_init, kc_Blocks⟩,
    a_Blocks_states_in := a_Blocks_states_in, d_Blocks_states_in := _, f_Blocks_states_in := f_Blocks_states_in, b_Blocks_states_in := b_Blocks_states_in,
    m_Blocks_states_in := ⟨i_Blocks_states_in, q_Blocks_states_in, k_Blocks_states_in⟩,
    a_Blocks_mark := a_Blocks_mark, d_Blocks_mark := _, f_Blocks_mark := f_Blocks_mark, b_Blocks_mark := b_Blocks_mark,
    m_Blocks_mark := ⟨i_Blocks_mark, q_Blocks_mark, k_Blocks_mark⟩,
    a_Blocks_cut := a_Blocks_cut, d_Blocks_cut := _, f_Blocks_cut := f_Blocks_cut, b_Blocks_cut := b_Blocks_cut,
    m_Blocks_cut := ⟨i_Blocks_cut, q_Blocks_cut, k_Blocks_cut⟩,
    a_Blocks_take_out := a_Blocks_take_out, d_Blocks_take_out := _, f_Blocks_take_out := f_Blocks_take_out, b_Blocks_take_out := b_Blocks_take_out,
    m_Blocks_take_out := ⟨i_Blocks_take_out, q_Blocks_take_out, k_Blocks_take_out⟩,
    C_Machine := C_Machine, g_Machine := PySem.W.mg_of X G n_Machine, cl_Machine := ⟨pg_Machine, hd_Machine, po_Machine, sa_Machine⟩,
    na_Machine_letters := na_Machine_letters,
    na_Machine_accepting := na_Machine_accepting,
    na_Machine_table := na_Machine_table,
    a_Machine_init := a_Machine_init, d_Machine_init := _, f_Machine_init := f_Machine_init, b_Machine_init := b_Machine_init,
    mk_Machine := ⟨mk_Machine, i_Machine_init, q_Machine_init, kc_Machine⟩,
    a_Machine_check := a_Machine_check, d_Machine_check := _, f_Machine_check := f_Machine_check, b_Machine_check := b_Machine_check,
    m_Machine_check := ⟨i_Machine_check, q_Machine_check, k_Machine_check⟩,
    a_Machine_run := a_Machine_run, d_Machine_run := _, f_Machine_run := f_Machine_run, b_Machine_run := b_Machine_run,
    m_Machine_run := ⟨i_Machine_run, q_Machine_run, k_Machine_run⟩,
    a_Machine_run_from := a_Machine_run_from, d_Machine_run_from := _, f_Machine_run_from := f_Machine_run_from, b_Machine_run_from := b_Machine_run_from,
    m_Machine_run_from := ⟨i_Machine_run_from, q_Machine_run_from, k_Machine_run_from⟩,
    a_Machine_accepts := a_Machine_accepts, d_Machine_accepts := _, f_Machine_accepts := f_Machine_accepts, b_Machine_accepts := b_Machine_accepts,
    m_Machine_accepts := ⟨i_Machine_accepts, q_Machine_accepts, k_Machine_accepts⟩,
    a_Machine_picture := a_Machine_picture, d_Machine_picture := _, f_Machine_picture := f_Machine_picture, b_Machine_picture := b_Machine_picture,
    m_Machine_picture := ⟨i_Machine_picture, q_Machine_picture, k_Machine_picture⟩,
    C_Book := C_Book, g_Book := PySem.W.mg_of X G n_Book, cl_Book := ⟨pg_Book, hd_Book, po_Book, sa_Book⟩,
    na_Book_letters := na_Book_letters,
    na_Book__patterns := na_Book__patterns,
    na_Book__rewriters := na_Book__rewriters,
    na_Book__machines := na_Book__machines,
    a_Book_init := a_Book_init, d_Book_init := _, f_Book_init := f_Book_init, b_Book_init := b_Book_init,
    mk_Book := ⟨mk_Book, i_Book_init, q_Book_init, kc_Book⟩,
    a_Book_has_pattern := a_Book_has_pattern, d_Book_has_pattern := _, f_Book_has_pattern := f_Book_has_pattern, b_Book_has_pattern := b_Book_has_pattern,
    m_Book_has_pattern := ⟨i_Book_has_pattern, q_Book_has_pattern, k_Book_has_pattern⟩,
    a_Book_has_rewriter := a_Book_has_rewriter, d_Book_has_rewriter := _, f_Book_has_rewriter := f_Book_has_rewriter, b_Book_has_rewriter := b_Book_has_rewriter,
    m_Book_has_rewriter := ⟨i_Book_has_rewriter, q_Book_has_rewriter, k_Book_has_rewriter⟩,
    a_Book_machine := a_Book_machine, d_Book_machine := _, f_Book_machine := f_Book_machine, b_Book_machine := b_Book_machine,
    m_Book_machine := ⟨i_Book_machine, q_Book_machine, k_Book_machine⟩,
    a_Book_rewriter := a_Book_rewriter, d_Book_rewriter := _, f_Book_rewriter := f_Book_rewriter, b_Book_rewriter := b_Book_rewriter,
    m_Book_rewriter := ⟨i_Book_rewriter, q_Book_rewriter, k_Book_rewriter⟩,
    C_Program := C_Program, g_Program := PySem.W.mg_of X G n_Program, cl_Program := ⟨pg_Program, hd_Program, po_Program, sa_Program⟩,
    na_Program_inputs := na_Program_inputs,
    na_Program_lines := na_Program_lines,
    na_Program_result := na_Program_result,
    a_Program_init := a_Program_init, d_Program_init := _, f_Program_init := f_Program_init, b_Program_init := b_Program_init,
    mk_Program := ⟨mk_Program, i_Program_init, q_Program_init, kc_Program⟩,
    a_Program_picture := a_Program_picture, d_Program_picture := _, f_Program_picture := f_Program_picture, b_Program_picture := b_Program_picture,
    m_Program_picture := ⟨i_Program_picture, q_Program_picture, k_Program_picture⟩,
    C_Rewriter := C_Rewriter, g_Rewriter := PySem.W.mg_of X G n_Rewriter, cl_Rewriter := ⟨pg_Rewriter, hd_Rewriter, po_Rewriter, sa_Rewriter⟩,
    na_Rewriter_letters := na_Rewriter_letters,
    na_Rewriter_lead := na_Rewriter_lead,
    na_Rewriter_finals := na_Rewriter_finals,
    na_Rewriter_table := na_Rewriter_table,
    a_Rewriter_init := a_Rewriter_init, d_Rewriter_init := _, f_Rewriter_init := f_Rewriter_init, b_Rewriter_init := b_Rewriter_init,
    mk_Rewriter := ⟨mk_Rewriter, i_Rewriter_init, q_Rewriter_init, kc_Rewriter⟩,
    a_Rewriter_check := a_Rewriter_check, d_Rewriter_check := _, f_Rewriter_check := f_Rewriter_check, b_Rewriter_check := b_Rewriter_check,
    m_Rewriter_check := ⟨i_Rewriter_check, q_Rewriter_check, k_Rewriter_check⟩,
    a_Rewriter_rewrite := a_Rewriter_rewrite, d_Rewriter_rewrite := _, f_Rewriter_rewrite := f_Rewriter_rewrite, b_Rewriter_rewrite := b_Rewriter_rewrite,
    m_Rewriter_rewrite := ⟨i_Rewriter_rewrite, q_Rewriter_rewrite, k_Rewriter_rewrite⟩,
    a_Rewriter_rewrite_from := a_Rewriter_rewrite_from, d_Rewriter_rewrite_from := _, f_Rewriter_rewrite_from := f_Rewriter_rewrite_from, b_Rewriter_rewrite_from := b_Rewriter_rewrite_from,
    m_Rewriter_rewrite_from := ⟨i_Rewriter_rewrite_from, q_Rewriter_rewrite_from, k_Rewriter_rewrite_from⟩,
    a_Rewriter_picture := a_Rewriter_picture, d_Rewriter_picture := _, f_Rewriter_picture := f_Rewriter_picture, b_Rewriter_picture := b_Rewriter_picture,
    m_Rewriter_picture := ⟨i_Rewriter_picture, q_Rewriter_picture, k_Rewriter_picture⟩,
    a__wall := a__wall, d__wall := _, f__wall := f__wall, o__wall := ⟨PySem.W.mg_of X G n__wall, k__wall, b__wall⟩,
    a_check_alphabet := a_check_alphabet, d_check_alphabet := _, f_check_alphabet := f_check_alphabet, o_check_alphabet := ⟨PySem.W.mg_of X G n_check_alphabet, k_check_alphabet, b_check_alphabet⟩,
    a_is_text := a_is_text, d_is_text := _, f_is_text := f_is_text, o_is_text := ⟨PySem.W.mg_of X G n_is_text, k_is_text, b_is_text⟩,
    a_check_text := a_check_text, d_check_text := _, f_check_text := f_check_text, o_check_text := ⟨PySem.W.mg_of X G n_check_text, k_check_text, b_check_text⟩,
    a_block_numbers := a_block_numbers, d_block_numbers := _, f_block_numbers := f_block_numbers, o_block_numbers := ⟨PySem.W.mg_of X G n_block_numbers, k_block_numbers, b_block_numbers⟩,
    a_first_states := a_first_states, d_first_states := _, f_first_states := f_first_states, o_first_states := ⟨PySem.W.mg_of X G n_first_states, k_first_states, b_first_states⟩,
    a__blocks_of_kinds := a__blocks_of_kinds, d__blocks_of_kinds := _, f__blocks_of_kinds := f__blocks_of_kinds, o__blocks_of_kinds := ⟨PySem.W.mg_of X G n__blocks_of_kinds, k__blocks_of_kinds, b__blocks_of_kinds⟩,
    a_explored := a_explored, d_explored := _, f_explored := f_explored, o_explored := ⟨PySem.W.mg_of X G n_explored, k_explored, b_explored⟩,
    a_ways_back := a_ways_back, d_ways_back := _, f_ways_back := f_ways_back, o_ways_back := ⟨PySem.W.mg_of X G n_ways_back, k_ways_back, b_ways_back⟩,
    a_least := a_least, d_least := _, f_least := f_least, o_least := ⟨PySem.W.mg_of X G n_least, k_least, b_least⟩,
    a_least_from := a_least_from, d_least_from := _, f_least_from := f_least_from, o_least_from := ⟨PySem.W.mg_of X G n_least_from, k_least_from, b_least_from⟩,
    a_least_explored := a_least_explored, d_least_explored := _, f_least_explored := f_least_explored, o_least_explored := ⟨PySem.W.mg_of X G n_least_explored, k_least_explored, b_least_explored⟩,
    a__merged := a__merged, d__merged := _, f__merged := f__merged, o__merged := ⟨PySem.W.mg_of X G n__merged, k__merged, b__merged⟩,
    a_sources_by := a_sources_by, d_sources_by := _, f_sources_by := f_sources_by, o_sources_by := ⟨PySem.W.mg_of X G n_sources_by, k_sources_by, b_sources_by⟩,
    a_both := a_both, d_both := _, f_both := f_both, o_both := ⟨PySem.W.mg_of X G n_both, k_both, b_both⟩,
    a_either := a_either, d_either := _, f_either := f_either, o_either := ⟨PySem.W.mg_of X G n_either, k_either, b_either⟩,
    a_opposite := a_opposite, d_opposite := _, f_opposite := f_opposite, o_opposite := ⟨PySem.W.mg_of X G n_opposite, k_opposite, b_opposite⟩,
    a__paired := a__paired, d__paired := _, f__paired := f__paired, o__paired := ⟨PySem.W.mg_of X G n__paired, k__paired, b__paired⟩,
    a_chained_texts := a_chained_texts, d_chained_texts := _, f_chained_texts := f_chained_texts, o_chained_texts := ⟨PySem.W.mg_of X G n_chained_texts, k_chained_texts, b_chained_texts⟩,
    a_repetition := a_repetition, d_repetition := _, f_repetition := f_repetition, o_repetition := ⟨PySem.W.mg_of X G n_repetition, k_repetition, b_repetition⟩,
    a__lot := a__lot, d__lot := _, f__lot := f__lot, o__lot := ⟨PySem.W.mg_of X G n__lot, k__lot, b__lot⟩,
    a__after := a__after, d__after := _, f__after := f__after, o__after := ⟨PySem.W.mg_of X G n__after, k__after, b__after⟩,
    a__accepts_one := a__accepts_one, d__accepts_one := _, f__accepts_one := f__accepts_one, o__accepts_one := ⟨PySem.W.mg_of X G n__accepts_one, k__accepts_one, b__accepts_one⟩,
    a_parts_of := a_parts_of, d_parts_of := _, f_parts_of := f_parts_of, o_parts_of := ⟨PySem.W.mg_of X G n_parts_of, k_parts_of, b_parts_of⟩,
    a_flat_terms := a_flat_terms, d_flat_terms := _, f_flat_terms := f_flat_terms, o_flat_terms := ⟨PySem.W.mg_of X G n_flat_terms, k_flat_terms, b_flat_terms⟩,
    a_machine_of := a_machine_of, d_machine_of := _, f_machine_of := f_machine_of, o_machine_of := ⟨PySem.W.mg_of X G n_machine_of, k_machine_of, b_machine_of⟩,
    a__machine_of_term := a__machine_of_term, d__machine_of_term := _, f__machine_of_term := f__machine_of_term, o__machine_of_term := ⟨PySem.W.mg_of X G n__machine_of_term, k__machine_of_term, b__machine_of_term⟩,
    a__machine_of_leaf := a__machine_of_leaf, d__machine_of_leaf := _, f__machine_of_leaf := f__machine_of_leaf, o__machine_of_leaf := ⟨PySem.W.mg_of X G n__machine_of_leaf, k__machine_of_leaf, b__machine_of_leaf⟩,
    a_is_name := a_is_name, d_is_name := _, f_is_name := f_is_name, o_is_name := ⟨PySem.W.mg_of X G n_is_name, k_is_name, b_is_name⟩,
    a_check_program := a_check_program, d_check_program := _, f_check_program := f_check_program, o_check_program := ⟨PySem.W.mg_of X G n_check_program, k_check_program, b_check_program⟩,
    a_names_read := a_names_read, d_names_read := _, f_names_read := f_names_read, o_names_read := ⟨PySem.W.mg_of X G n_names_read, k_names_read, b_names_read⟩,
    a_names_given := a_names_given, d_names_given := _, f_names_given := f_names_given, o_names_given := ⟨PySem.W.mg_of X G n_names_given, k_names_given, b_names_given⟩,
    a__check_new_name := a__check_new_name, d__check_new_name := _, f__check_new_name := f__check_new_name, o__check_new_name := ⟨PySem.W.mg_of X G n__check_new_name, k__check_new_name, b__check_new_name⟩,
    a__check_known := a__check_known, d__check_known := _, f__check_known := f__check_known, o__check_known := ⟨PySem.W.mg_of X G n__check_known, k__check_known, b__check_known⟩,
    a__check_book_has := a__check_book_has, d__check_book_has := _, f__check_book_has := f__check_book_has, o__check_book_has := ⟨PySem.W.mg_of X G n__check_book_has, k__check_book_has, b__check_book_has⟩,
    a__check_parts := a__check_parts, d__check_parts := _, f__check_parts := f__check_parts, o__check_parts := ⟨PySem.W.mg_of X G n__check_parts, k__check_parts, b__check_parts⟩,
    a_cell := a_cell, d_cell := _, f_cell := f_cell, o_cell := ⟨PySem.W.mg_of X G n_cell, k_cell, b_cell⟩,
    a_numbers := a_numbers, d_numbers := _, f_numbers := f_numbers, o_numbers := ⟨PySem.W.mg_of X G n_numbers, k_numbers, b_numbers⟩,
    a_state := a_state, d_state := _, f_state := f_state, o_state := ⟨PySem.W.mg_of X G n_state, k_state, b_state⟩,
    a_next := a_next, d_next := _, f_next := f_next, o_next := ⟨PySem.W.mg_of X G n_next, k_next, b_next⟩,
    a_letters := a_letters, d_letters := _, f_letters := f_letters, o_letters := ⟨PySem.W.mg_of X G n_letters, k_letters, b_letters⟩,
    a_pattern := a_pattern, d_pattern := _, f_pattern := f_pattern, o_pattern := ⟨PySem.W.mg_of X G n_pattern, k_pattern, b_pattern⟩,
    a_word := a_word, d_word := _, f_word := f_word, o_word := ⟨PySem.W.mg_of X G n_word, k_word, b_word⟩,
    a_maker := a_maker, d_maker := _, f_maker := f_maker, o_maker := ⟨PySem.W.mg_of X G n_maker, k_maker, b_maker⟩,
    a_name := a_name, d_name := _, f_name := f_name, o_name := ⟨PySem.W.mg_of X G n_name, k_name, b_name⟩,
    a_named := a_named, d_named := _, f_named := f_named, o_named := ⟨PySem.W.mg_of X G n_named, k_named, b_named⟩,
    a_book := a_book, d_book := _, f_book := f_book, o_book := ⟨PySem.W.mg_of X G n_book, k_book, b_book⟩,
    a_made_book := a_made_book, d_made_book := _, f_made_book := f_made_book, o_made_book := ⟨PySem.W.mg_of X G n_made_book, k_made_book, b_made_book⟩,
    a_pick := a_pick, d_pick := _, f_pick := f_pick, o_pick := ⟨PySem.W.mg_of X G n_pick, k_pick, b_pick⟩,
    a_line := a_line, d_line := _, f_line := f_line, o_line := ⟨PySem.W.mg_of X G n_line, k_line, b_line⟩,
    a_program := a_program, d_program := _, f_program := f_program, o_program := ⟨PySem.W.mg_of X G n_program, k_program, b_program⟩,
    a_told := a_told, d_told := _, f_told := f_told, o_told := ⟨PySem.W.mg_of X G n_told, k_told, b_told⟩,
    a_law_is_name := a_law_is_name, d_law_is_name := _, f_law_is_name := f_law_is_name, o_law_is_name := ⟨PySem.W.mg_of X G n_law_is_name, k_law_is_name, b_law_is_name⟩,
    a_entered := a_entered, d_entered := _, f_entered := f_entered, o_entered := ⟨PySem.W.mg_of X G n_entered, k_entered, b_entered⟩,
    a_read_names := a_read_names, d_read_names := _, f_read_names := f_read_names, o_read_names := ⟨PySem.W.mg_of X G n_read_names, k_read_names, b_read_names⟩,
    a_things := a_things, d_things := _, f_things := f_things, o_things := ⟨PySem.W.mg_of X G n_things, k_things, b_things⟩,
    a_due := a_due, d_due := _, f_due := f_due, o_due := ⟨PySem.W.mg_of X G n_due, k_due, b_due⟩,
    a_odd := a_odd, d_odd := _, f_odd := f_odd, o_odd := ⟨PySem.W.mg_of X G n_odd, k_odd, b_odd⟩,
    a_spoilt := a_spoilt, d_spoilt := _, f_spoilt := f_spoilt, o_spoilt := ⟨PySem.W.mg_of X G n_spoilt, k_spoilt, b_spoilt⟩,
    a_law := _, d_law := _, f_law := f_law, o_law := ⟨PySem.W.mg_of X G n_law, k_law, b_law⟩,
    a_init := a_init, d_init := _, T_init := T_init, f_init := fI, tI := ti_init, bI := bI,
    C_AnytextError := C_AnytextError,
    C_LetterError := C_LetterError,
    C_MachineError := C_MachineError,
    C_ProgramError := C_ProgramError,
    C_BadAlphabet := C_BadAlphabet,
    C_BadText := C_BadText,
    C_BadMachine := C_BadMachine,
    C_BadRewriter := C_BadRewriter,
    C_BadName := C_BadName,
    C_NameTaken := C_NameTaken,
    C_UnknownName := C_UnknownName,
    C_TooMany := C_TooMany,
    g_AnytextError := PySem.W.mg_of X G n_AnytextError,
    g_BadAlphabet := PySem.W.mg_of X G n_BadAlphabet,
    g_BadMachine := PySem.W.mg_of X G n_BadMachine,
    g_BadName := PySem.W.mg_of X G n_BadName,
    g_BadRewriter := PySem.W.mg_of X G n_BadRewriter,
    g_BadText := PySem.W.mg_of X G n_BadText,
    g_LetterError := PySem.W.mg_of X G n_LetterError,
    g_NameTaken := PySem.W.mg_of X G n_NameTaken,
    g_ProgramError := PySem.W.mg_of X G n_ProgramError,
    g_TooMany := PySem.W.mg_of X G n_TooMany,
    g_UnknownName := PySem.W.mg_of X G n_UnknownName,
    i_AnytextError := i_AnytextError, t_AnytextError := t_AnytextError, e_AnytextError := e_AnytextError, h_AnytextError := h_AnytextError,
    i_BadName := i_BadName, t_BadName := t_BadName, e_BadName := e_BadName, h_BadName := h_BadName,
    i_BadText := i_BadText, t_BadText := t_BadText, e_BadText := e_BadText, h_BadText := h_BadText,
    i_LetterError := i_LetterError, t_LetterError := t_LetterError, e_LetterError := e_LetterError, h_LetterError := h_LetterError,
    i_NameTaken := i_NameTaken, t_NameTaken := t_NameTaken, e_NameTaken := e_NameTaken, h_NameTaken := h_NameTaken,
    i_ProgramError := i_ProgramError, t_ProgramError := t_ProgramError, e_ProgramError := e_ProgramError, h_ProgramError := h_ProgramError,
    i_TooMany := i_TooMany, t_TooMany := t_TooMany, e_TooMany := e_TooMany, h_TooMany := h_TooMany,
    i_UnknownName := i_UnknownName, t_UnknownName := t_UnknownName, e_UnknownName := e_UnknownName, h_UnknownName := h_UnknownName,
    x_BadAlphabet := ⟨⟨⟨nm_BadAlphabet, q_BadAlphabet, N_BadAlphabet, bs_BadAlphabet, _, sn_BadAlphabet, sb_BadAlphabet, ab_BadAlphabet, col_BadAlphabet, dd_BadAlphabet, m0_BadAlphabet, m1_BadAlphabet, m2_BadAlphabet, m3_BadAlphabet, m5_BadAlphabet, l_BadAlphabet, by rfl⟩, sa_BadAlphabet, e_BadAlphabet, t_BadAlphabet, kC_BadAlphabet⟩, ⟨ga_BadAlphabet, gg_BadAlphabet, e_BadAlphabet, h_BadAlphabet⟩, nw_BadAlphabet, ini_BadAlphabet, i_BadAlphabet, cc_BadAlphabet, mo_BadAlphabet, se_BadAlphabet⟩,
    s_BadAlphabet_AnytextError := s_BadAlphabet_AnytextError,
    s_BadAlphabet_BadName := s_BadAlphabet_BadName,
    s_BadAlphabet_BadText := s_BadAlphabet_BadText,
    s_BadAlphabet_LetterError := s_BadAlphabet_LetterError,
    s_BadAlphabet_NameTaken := s_BadAlphabet_NameTaken,
    s_BadAlphabet_ProgramError := s_BadAlphabet_ProgramError,
    s_BadAlphabet_TooMany := s_BadAlphabet_TooMany,
    s_BadAlphabet_UnknownName := s_BadAlphabet_UnknownName,
    x_BadMachine := ⟨⟨⟨nm_BadMachine, q_BadMachine, N_BadMachine, bs_BadMachine, _, sn_BadMachine, sb_BadMachine, ab_BadMachine, col_BadMachine, dd_BadMachine, m0_BadMachine, m1_BadMachine, m2_BadMachine, m3_BadMachine, m5_BadMachine, l_BadMachine, by rfl⟩, sa_BadMachine, e_BadMachine, t_BadMachine, kC_BadMachine⟩, ⟨ga_BadMachine, gg_BadMachine, e_BadMachine, h_BadMachine⟩, nw_BadMachine, ini_BadMachine, i_BadMachine, cc_BadMachine, mo_BadMachine, se_BadMachine⟩,
    s_BadMachine_AnytextError := s_BadMachine_AnytextError,
    s_BadMachine_BadName := s_BadMachine_BadName,
    s_BadMachine_BadText := s_BadMachine_BadText,
    s_BadMachine_LetterError := s_BadMachine_LetterError,
    s_BadMachine_NameTaken := s_BadMachine_NameTaken,
    s_BadMachine_ProgramError := s_BadMachine_ProgramError,
    s_BadMachine_TooMany := s_BadMachine_TooMany,
    s_BadMachine_UnknownName := s_BadMachine_UnknownName,
    x_BadName := ⟨⟨⟨nm_BadName, q_BadName, N_BadName, bs_BadName, _, sn_BadName, sb_BadName, ab_BadName, col_BadName, dd_BadName, m0_BadName, m1_BadName, m2_BadName, m3_BadName, m5_BadName, l_BadName, by rfl⟩, sa_BadName, e_BadName, t_BadName, kC_BadName⟩, ⟨ga_BadName, gg_BadName, e_BadName, h_BadName⟩, nw_BadName, ini_BadName, i_BadName, cc_BadName, mo_BadName, se_BadName⟩,
    s_BadName_AnytextError := s_BadName_AnytextError,
    s_BadName_BadName := se_BadName,
    s_BadName_BadText := s_BadName_BadText,
    s_BadName_LetterError := s_BadName_LetterError,
    s_BadName_NameTaken := s_BadName_NameTaken,
    s_BadName_ProgramError := s_BadName_ProgramError,
    s_BadName_TooMany := s_BadName_TooMany,
    s_BadName_UnknownName := s_BadName_UnknownName,
    x_BadRewriter := ⟨⟨⟨nm_BadRewriter, q_BadRewriter, N_BadRewriter, bs_BadRewriter, _, sn_BadRewriter, sb_BadRewriter, ab_BadRewriter, col_BadRewriter, dd_BadRewriter, m0_BadRewriter, m1_BadRewriter, m2_BadRewriter, m3_BadRewriter, m5_BadRewriter, l_BadRewriter, by rfl⟩, sa_BadRewriter, e_BadRewriter, t_BadRewriter, kC_BadRewriter⟩, ⟨ga_BadRewriter, gg_BadRewriter, e_BadRewriter, h_BadRewriter⟩, nw_BadRewriter, ini_BadRewriter, i_BadRewriter, cc_BadRewriter, mo_BadRewriter, se_BadRewriter⟩,
    s_BadRewriter_AnytextError := s_BadRewriter_AnytextError,
    s_BadRewriter_BadName := s_BadRewriter_BadName,
    s_BadRewriter_BadText := s_BadRewriter_BadText,
    s_BadRewriter_LetterError := s_BadRewriter_LetterError,
    s_BadRewriter_NameTaken := s_BadRewriter_NameTaken,
    s_BadRewriter_ProgramError := s_BadRewriter_ProgramError,
    s_BadRewriter_TooMany := s_BadRewriter_TooMany,
    s_BadRewriter_UnknownName := s_BadRewriter_UnknownName,
    x_BadText := ⟨⟨⟨nm_BadText, q_BadText, N_BadText, bs_BadText, _, sn_BadText, sb_BadText, ab_BadText, col_BadText, dd_BadText, m0_BadText, m1_BadText, m2_BadText, m3_BadText, m5_BadText, l_BadText, by rfl⟩, sa_BadText, e_BadText, t_BadText, kC_BadText⟩, ⟨ga_BadText, gg_BadText, e_BadText, h_BadText⟩, nw_BadText, ini_BadText, i_BadText, cc_BadText, mo_BadText, se_BadText⟩,
    s_BadText_AnytextError := s_BadText_AnytextError,
    s_BadText_BadName := s_BadText_BadName,
    s_BadText_BadText := se_BadText,
    s_BadText_LetterError := s_BadText_LetterError,
    s_BadText_NameTaken := s_BadText_NameTaken,
    s_BadText_ProgramError := s_BadText_ProgramError,
    s_BadText_TooMany := s_BadText_TooMany,
    s_BadText_UnknownName := s_BadText_UnknownName,
    x_NameTaken := ⟨⟨⟨nm_NameTaken, q_NameTaken, N_NameTaken, bs_NameTaken, _, sn_NameTaken, sb_NameTaken, ab_NameTaken, col_NameTaken, dd_NameTaken, m0_NameTaken, m1_NameTaken, m2_NameTaken, m3_NameTaken, m5_NameTaken, l_NameTaken, by rfl⟩, sa_NameTaken, e_NameTaken, t_NameTaken, kC_NameTaken⟩, ⟨ga_NameTaken, gg_NameTaken, e_NameTaken, h_NameTaken⟩, nw_NameTaken, ini_NameTaken, i_NameTaken, cc_NameTaken, mo_NameTaken, se_NameTaken⟩,
    s_NameTaken_AnytextError := s_NameTaken_AnytextError,
    s_NameTaken_BadName := s_NameTaken_BadName,
    s_NameTaken_BadText := s_NameTaken_BadText,
    s_NameTaken_LetterError := s_NameTaken_LetterError,
    s_NameTaken_NameTaken := se_NameTaken,
    s_NameTaken_ProgramError := s_NameTaken_ProgramError,
    s_NameTaken_TooMany := s_NameTaken_TooMany,
    s_NameTaken_UnknownName := s_NameTaken_UnknownName,
    x_TooMany := ⟨⟨⟨nm_TooMany, q_TooMany, N_TooMany, bs_TooMany, _, sn_TooMany, sb_TooMany, ab_TooMany, col_TooMany, dd_TooMany, m0_TooMany, m1_TooMany, m2_TooMany, m3_TooMany, m5_TooMany, l_TooMany, by rfl⟩, sa_TooMany, e_TooMany, t_TooMany, kC_TooMany⟩, ⟨ga_TooMany, gg_TooMany, e_TooMany, h_TooMany⟩, nw_TooMany, ini_TooMany, i_TooMany, cc_TooMany, mo_TooMany, se_TooMany⟩,
    s_TooMany_AnytextError := s_TooMany_AnytextError,
    s_TooMany_BadName := s_TooMany_BadName,
    s_TooMany_BadText := s_TooMany_BadText,
    s_TooMany_LetterError := s_TooMany_LetterError,
    s_TooMany_NameTaken := s_TooMany_NameTaken,
    s_TooMany_ProgramError := s_TooMany_ProgramError,
    s_TooMany_TooMany := se_TooMany,
    s_TooMany_UnknownName := s_TooMany_UnknownName,
    x_UnknownName := ⟨⟨⟨nm_UnknownName, q_UnknownName, N_UnknownName, bs_UnknownName, _, sn_UnknownName, sb_UnknownName, ab_UnknownName, col_UnknownName, dd_UnknownName, m0_UnknownName, m1_UnknownName, m2_UnknownName, m3_UnknownName, m5_UnknownName, l_UnknownName, by rfl⟩, sa_UnknownName, e_UnknownName, t_UnknownName, kC_UnknownName⟩, ⟨ga_UnknownName, gg_UnknownName, e_UnknownName, h_UnknownName⟩, nw_UnknownName, ini_UnknownName, i_UnknownName, cc_UnknownName, mo_UnknownName, se_UnknownName⟩,
    s_UnknownName_AnytextError := s_UnknownName_AnytextError,
    s_UnknownName_BadName := s_UnknownName_BadName,
    s_UnknownName_BadText := s_UnknownName_BadText,
    s_UnknownName_LetterError := s_UnknownName_LetterError,
    s_UnknownName_NameTaken := s_UnknownName_NameTaken,
    s_UnknownName_ProgramError := s_UnknownName_ProgramError,
    s_UnknownName_TooMany := s_UnknownName_TooMany,
    s_UnknownName_UnknownName := se_UnknownName,
    clsB := ⟨sp_B, tk_B⟩,
    c_least_from := cc_least_from, P_least_from := PP_least_from, t_least_from := funT_mk l_least_from ec_least_from c_least_from,
    c_both := cc_both, P_both := PP_both, t_both := funT_mk l_both ec_both c_both,
    c_either := cc_either, P_either := PP_either, t_either := funT_mk l_either ec_either c_either,
    c__paired := cc__paired, P__paired := PP__paired, t__paired := funT_mk l__paired ec__paired c__paired,
    c_chained_texts := cc_chained_texts, P_chained_texts := PP_chained_texts, t_chained_texts := funT_mk l_chained_texts ec_chained_texts c_chained_texts,
    c_repetition := cc_repetition, P_repetition := PP_repetition, t_repetition := funT_mk l_repetition ec_repetition c_repetition,
    nb_abs := PySem.W.mg_none_of X G z_abs,
    nb_all := PySem.W.mg_none_of X G z_all,
    nb_any := PySem.W.mg_none_of X G z_any,
    nb_dict := PySem.W.mg_none_of X G z_dict,
    nb_enumerate := PySem.W.mg_none_of X G z_enumerate,
    nb_int := PySem.W.mg_none_of X G z_int,
    nb_isinstance := PySem.W.mg_none_of X G z_isinstance,
    nb_len := PySem.W.mg_none_of X G z_len,
    nb_list := PySem.W.mg_none_of X G z_list,
    nb_max := PySem.W.mg_none_of X G z_max,
    nb_min := PySem.W.mg_none_of X G z_min,
    nb_range := PySem.W.mg_none_of X G z_range,
    nb_reversed := PySem.W.mg_none_of X G z_reversed,
    nb_set := PySem.W.mg_none_of X G z_set,
    nb_sorted := PySem.W.mg_none_of X G z_sorted,
    nb_tuple := PySem.W.mg_none_of X G z_tuple,
    t_LETTERS := t_LETTERS, c_LETTERS := PySem.W.mg_of X G k_LETTERS,
    t_MOST_LETTERS := t_MOST_LETTERS, c_MOST_LETTERS := PySem.W.mg_of X G k_MOST_LETTERS,
    a_LEAVES := a_LEAVES, c_LEAVES := PySem.W.mg_of X G k_LEAVES, v_LEAVES := dt_LEAVES,
    a_WORDS := a_WORDS, c_WORDS := PySem.W.mg_of X G k_WORDS, v_WORDS := dt_WORDS,
    t_NAME_LETTERS := t_NAME_LETTERS, c_NAME_LETTERS := PySem.W.mg_of X G k_NAME_LETTERS,
    t_LONGEST_NAME := t_LONGEST_NAME, c_LONGEST_NAME := PySem.W.mg_of X G k_LONGEST_NAME,
    t_MOST_INPUTS := t_MOST_INPUTS, c_MOST_INPUTS := PySem.W.mg_of X G k_MOST_INPUTS,
    t_MOST_LINES := t_MOST_LINES, c_MOST_LINES := PySem.W.mg_of X G k_MOST_LINES,
    t_MOST_PARTS := t_MOST_PARTS, c_MOST_PARTS := PySem.W.mg_of X G k_MOST_PARTS }
  refine ⟨T.d_law, [(cc_least_from, PP_least_from), (cc_both, PP_both), (cc_either, PP_either), (cc__paired, PP__paired), (cc_chained_texts, PP_chained_texts), (cc_repetition, PP_repetition)], spLaw T, ?_, ?_, ?_, fun s v => .of_eq rfl, fun H a ns hn _ ht hs => ⟨a, ns, rfl, hs, hn, ?_, fun _ => rfl⟩, fun base hk hg ht => ok_law T ⟨ht (cc_least_from, PP_least_from) (by simp), by simp [Ps, T], ht (cc_both, PP_both) (by simp), by simp [Ps, T], ht (cc_either, PP_either) (by simp), by simp [Ps, T], ht (cc__paired, PP__paired) (by simp), by simp [Ps, T], ht (cc_chained_texts, PP_chained_texts) (by simp), by simp [Ps, T], ht (cc_repetition, PP_repetition) (by simp), by simp [Ps, T]⟩⟩
  · intro p hp
    simp only [List.mem_cons, List.not_mem_nil, or_false] at hp
    rcases hp with rfl | rfl | rfl | rfl | rfl | rfl
    · exact ht_least_from
    · exact ht_both
    · exact ht_either
    · exact ht__paired
    · exact ht_chained_texts
    · exact ht_repetition
  · intro p hp
    simp only [List.mem_cons, List.not_mem_nil, or_false] at hp
    rcases hp with rfl | rfl | rfl | rfl | rfl | rfl
    · exact nt_least_from
    · exact nt_both
    · exact nt_either
    · exact nt__paired
    · exact nt_chained_texts
    · exact nt_repetition
  · intro p hp
    simp only [List.mem_cons, List.not_mem_nil, or_false] at hp
    rcases hp with rfl | rfl | rfl | rfl | rfl | rfl
    · exact PySem.W.codeHd_of_K X hdt_least_from
    · exact PySem.W.codeHd_of_K X hdt_both
    · exact PySem.W.codeHd_of_K X hdt_either
    · exact PySem.W.codeHd_of_K X hdt__paired
    · exact PySem.W.codeHd_of_K X hdt_chained_texts
    · exact PySem.W.codeHd_of_K X hdt_repetition
  · intro R hR
    have hR : R ∈ [PP_least_from, PP_both, PP_either, PP__paired, PP_chained_texts, PP_repetition] := hR
    simp only [List.mem_cons, List.not_mem_nil, or_false] at hR
    rcases hR with e | e | e | e | e | e
    · rw [e]; exact NdefX.TabN.nil (ht (cc_least_from, PP_least_from) (by simp))
    · rw [e]; exact NdefX.TabN.nil (ht (cc_both, PP_both) (by simp))
    · rw [e]; exact NdefX.TabN.nil (ht (cc_either, PP_either) (by simp))
    · rw [e]; exact NdefX.TabN.nil (ht (cc__paired, PP__paired) (by simp))
    · rw [e]; exact NdefX.TabN.nil (ht (cc_chained_texts, PP_chained_texts) (by simp))
    · rw [e]; exact NdefX.TabN.nil (ht (cc_repetition, PP_repetition) (by simp))
end AT
open PySem PySem.W PyProof.Rows
set_option maxRecDepth 100000 in
set_option maxHeartbeats 0 in
theorem PySem.Challenge.cw_anytext_k34_programs_in_order_holds : PySem.Challenge.rw_anytext_k34_programs_in_order.Holds := by
  w_on; o_law; k_head; (case hw => w_witness2)
  k_fill
  refine LamX.walk_ofTs (l := PySem.Challenge.rw_anytext_k34_programs_in_order) (n := 63) (k := AT.lvLaw) (x := "script") (CX := fun _ => L2.CX0) rfl (by decide) rfl ⟨rfl, by decide, by decide⟩ (fun w h Y => PySem.W.km_in_of Y) ?F fun _ _ _ _ _ z => z
  case F =>
    intro w mg fa h Y KX G hmg
    have hT8 := PySem.W.km_tabs_of Y
    refine' AT.all_mk KX G hmg ?n__wall ?l__wall ?c__wall ?k__wall ?n_check_alphabet ?l_check_alphabet ?c_check_alphabet ?k_check_alphabet ?n_is_text ?l_is_text ?c_is_text ?k_is_text ?n_check_text ?l_check_text ?c_check_text ?k_check_text ?n_block_numbers ?l_block_numbers ?c_block_numbers ?k_block_numbers ?n_first_states ?l_first_states ?c_first_states ?k_first_states ?n__blocks_of_kinds ?l__blocks_of_kinds ?c__blocks_of_kinds ?k__blocks_of_kinds ?n_explored ?l_explored ?c_explored ?k_explored ?n_ways_back ?l_ways_back ?c_ways_back ?k_ways_back ?n_least ?l_least ?c_least ?k_least ?n_least_from ?l_least_from ?c_least_from ?k_least_from ?n_least_explored ?l_least_explored ?c_least_explored ?k_least_explored ?n__merged ?l__merged ?c__merged ?k__merged ?n_sources_by ?l_sources_by ?c_sources_by ?k_sources_by ?n_both ?l_both ?c_both ?k_both ?n_either ?l_either ?c_either ?k_either ?n_opposite ?l_opposite ?c_opposite ?k_opposite ?n__paired ?l__paired ?c__paired ?k__paired ?n_chained_texts ?l_chained_texts ?c_chained_texts ?k_chained_texts ?n_repetition ?l_repetition ?c_repetition ?k_repetition ?n__lot ?l__lot ?c__lot ?k__lot ?n__after ?l__after ?c__after ?k__after ?n__accepts_one ?l__accepts_one ?c__accepts_one ?k__accepts_one ?n_parts_of ?l_parts_of ?c_parts_of ?k_parts_of ?n_flat_terms ?l_flat_terms ?c_flat_terms ?k_flat_terms ?n_machine_of ?l_machine_of ?c_machine_of ?k_machine_of ?n__machine_of_term ?l__machine_of_term ?c__machine_of_term ?k__machine_of_term ?n__machine_of_leaf ?l__machine_of_leaf ?c__machine_of_leaf ?k__machine_of_leaf ?n_is_name ?l_is_name ?c_is_name ?k_is_name ?n_check_program ?l_check_program ?c_check_program ?k_check_program ?n_names_read ?l_names_read ?c_names_read ?k_names_read ?n_names_given ?l_names_given ?c_names_given ?k_names_given ?n__check_new_name ?l__check_new_name ?c__check_new_name ?k__check_new_name ?n__check_known ?l__check_known ?c__check_known ?k__check_known ?n__check_book_has ?l__check_book_has ?c__check_book_has ?k__check_book_has ?n__check_parts ?l__check_parts ?c__check_parts ?k__check_parts ?n_cell ?l_cell ?c_cell ?k_cell ?n_numbers ?l_numbers ?c_numbers ?k_numbers ?n_state ?l_state ?c_state ?k_state ?n_next ?l_next ?c_next ?k_next ?n_letters ?l_letters ?c_letters ?k_letters ?n_pattern ?l_pattern ?c_pattern ?k_pattern ?n_word ?l_word ?c_word ?k_word ?n_maker ?l_maker ?c_maker ?k_maker ?n_name ?l_name ?c_name ?k_name ?n_named ?l_named ?c_named ?k_named ?n_book ?l_book ?c_book ?k_book ?n_made_book ?l_made_book ?c_made_book ?k_made_book ?n_pick ?l_pick ?c_pick ?k_pick ?n_line ?l_line ?c_line ?k_line ?n_program ?l_program ?c_program ?k_program ?n_told ?l_told ?c_told ?k_told ?n_law_is_name ?l_law_is_name ?c_law_is_name ?k_law_is_name ?n_entered ?l_entered ?c_entered ?k_entered ?n_read_names ?l_read_names ?c_read_names ?k_read_names ?n_things ?l_things ?c_things ?k_things ?n_due ?l_due ?c_due ?k_due ?n_odd ?l_odd ?c_odd ?k_odd ?n_spoilt ?l_spoilt ?c_spoilt ?k_spoilt ?n_law ?l_law ?c_law ?k_law ?n_AnytextError ?n_LetterError ?n_MachineError ?n_ProgramError ?n_BadAlphabet ?n_BadText ?n_BadMachine ?n_BadRewriter ?n_BadName ?n_NameTaken ?n_UnknownName ?n_TooMany ?ini_BadAlphabet ?l_init ?c_init ?k_init ?ti_init ?lt_init ?i_AnytextError ?t_AnytextError ?e_AnytextError ?h_AnytextError ?i_BadName ?t_BadName ?e_BadName ?h_BadName ?i_BadText ?t_BadText ?e_BadText ?h_BadText ?i_LetterError ?t_LetterError ?e_LetterError ?h_LetterError ?i_NameTaken ?t_NameTaken ?e_NameTaken ?h_NameTaken ?i_ProgramError ?t_ProgramError ?e_ProgramError ?h_ProgramError ?i_TooMany ?t_TooMany ?e_TooMany ?h_TooMany ?i_UnknownName ?t_UnknownName ?e_UnknownName ?h_UnknownName ?l_BadAlphabet ?sa_BadAlphabet ?ga_BadAlphabet ?gg_BadAlphabet ?nw_BadAlphabet ?cc_BadAlphabet ?mo_BadAlphabet ?se_BadAlphabet ?kC_BadAlphabet ?i_BadAlphabet ?t_BadAlphabet ?e_BadAlphabet ?h_BadAlphabet ?s_BadAlphabet_AnytextError ?s_BadAlphabet_BadName ?s_BadAlphabet_BadText ?s_BadAlphabet_LetterError ?s_BadAlphabet_NameTaken ?s_BadAlphabet_ProgramError ?s_BadAlphabet_TooMany ?s_BadAlphabet_UnknownName ?l_BadMachine ?sa_BadMachine ?ga_BadMachine ?gg_BadMachine ?nw_BadMachine ?ini_BadMachine ?cc_BadMachine ?mo_BadMachine ?se_BadMachine ?kC_BadMachine ?i_BadMachine ?t_BadMachine ?e_BadMachine ?h_BadMachine ?s_BadMachine_AnytextError ?s_BadMachine_BadName ?s_BadMachine_BadText ?s_BadMachine_LetterError ?s_BadMachine_NameTaken ?s_BadMachine_ProgramError ?s_BadMachine_TooMany ?s_BadMachine_UnknownName ?l_BadName ?sa_BadName ?ga_BadName ?gg_BadName ?nw_BadName ?ini_BadName ?cc_BadName ?mo_BadName ?se_BadName ?kC_BadName ?s_BadName_AnytextError ?s_BadName_BadText ?s_BadName_LetterError ?s_BadName_NameTaken ?s_BadName_ProgramError ?s_BadName_TooMany ?s_BadName_UnknownName ?l_BadRewriter ?sa_BadRewriter ?ga_BadRewriter ?gg_BadRewriter ?nw_BadRewriter ?ini_BadRewriter ?cc_BadRewriter ?mo_BadRewriter ?se_BadRewriter ?kC_BadRewriter ?i_BadRewriter ?t_BadRewriter ?e_BadRewriter ?h_BadRewriter ?s_BadRewriter_AnytextError ?s_BadRewriter_BadName ?s_BadRewriter_BadText ?s_BadRewriter_LetterError ?s_BadRewriter_NameTaken ?s_BadRewriter_ProgramError ?s_BadRewriter_TooMany ?s_BadRewriter_UnknownName ?l_BadText ?sa_BadText ?ga_BadText ?gg_BadText ?nw_BadText ?ini_BadText ?cc_BadText ?mo_BadText ?se_BadText ?kC_BadText ?s_BadText_AnytextError ?s_BadText_BadName ?s_BadText_LetterError ?s_BadText_NameTaken ?s_BadText_ProgramError ?s_BadText_TooMany ?s_BadText_UnknownName ?l_NameTaken ?sa_NameTaken ?ga_NameTaken ?gg_NameTaken ?nw_NameTaken ?ini_NameTaken ?cc_NameTaken ?mo_NameTaken ?se_NameTaken ?kC_NameTaken ?s_NameTaken_AnytextError ?s_NameTaken_BadName ?s_NameTaken_BadText ?s_NameTaken_LetterError ?s_NameTaken_ProgramError ?s_NameTaken_TooMany ?s_NameTaken_UnknownName ?l_TooMany ?sa_TooMany ?ga_TooMany ?gg_TooMany ?nw_TooMany ?ini_TooMany ?cc_TooMany ?mo_TooMany ?se_TooMany ?kC_TooMany ?s_TooMany_AnytextError ?s_TooMany_BadName ?s_TooMany_BadText ?s_TooMany_LetterError ?s_TooMany_NameTaken ?s_TooMany_ProgramError ?s_TooMany_UnknownName ?l_UnknownName ?sa_UnknownName ?ga_UnknownName ?gg_UnknownName ?nw_UnknownName ?ini_UnknownName ?cc_UnknownName ?mo_UnknownName ?se_UnknownName ?kC_UnknownName ?s_UnknownName_AnytextError ?s_UnknownName_BadName ?s_UnknownName_BadText ?s_UnknownName_LetterError ?s_UnknownName_NameTaken ?s_UnknownName_ProgramError ?s_UnknownName_TooMany ?sp_B ?tk_B ?n_Blocks ?pg_Blocks ?hd_Blocks ?po_Blocks ?sa_Blocks ?mk_Blocks ?kc_Blocks ?na_Blocks_members ?na_Blocks_places ?na_Blocks_block_of ?na_Blocks_starts ?na_Blocks_ends ?na_Blocks_marks ?na_Blocks_touched ?i_Blocks_init ?q_Blocks_init ?l_Blocks_init ?c_Blocks_init ?k_Blocks_init ?i_Blocks_states_in ?q_Blocks_states_in ?l_Blocks_states_in ?c_Blocks_states_in ?k_Blocks_states_in ?i_Blocks_mark ?q_Blocks_mark ?l_Blocks_mark ?c_Blocks_mark ?k_Blocks_mark ?i_Blocks_cut ?q_Blocks_cut ?l_Blocks_cut ?c_Blocks_cut ?k_Blocks_cut ?i_Blocks_take_out ?q_Blocks_take_out ?l_Blocks_take_out ?c_Blocks_take_out ?k_Blocks_take_out ?n_Machine ?pg_Machine ?hd_Machine ?po_Machine ?sa_Machine ?mk_Machine ?kc_Machine ?na_Machine_letters ?na_Machine_accepting ?na_Machine_table ?i_Machine_init ?q_Machine_init ?l_Machine_init ?c_Machine_init ?k_Machine_init ?i_Machine_check ?q_Machine_check ?l_Machine_check ?c_Machine_check ?k_Machine_check ?i_Machine_run ?q_Machine_run ?l_Machine_run ?c_Machine_run ?k_Machine_run ?i_Machine_run_from ?q_Machine_run_from ?l_Machine_run_from ?c_Machine_run_from ?k_Machine_run_from ?i_Machine_accepts ?q_Machine_accepts ?l_Machine_accepts ?c_Machine_accepts ?k_Machine_accepts ?i_Machine_picture ?q_Machine_picture ?l_Machine_picture ?c_Machine_picture ?k_Machine_picture ?n_Book ?pg_Book ?hd_Book ?po_Book ?sa_Book ?mk_Book ?kc_Book ?na_Book_letters ?na_Book__patterns ?na_Book__rewriters ?na_Book__machines ?i_Book_init ?q_Book_init ?l_Book_init ?c_Book_init ?k_Book_init ?i_Book_has_pattern ?q_Book_has_pattern ?l_Book_has_pattern ?c_Book_has_pattern ?k_Book_has_pattern ?i_Book_has_rewriter ?q_Book_has_rewriter ?l_Book_has_rewriter ?c_Book_has_rewriter ?k_Book_has_rewriter ?i_Book_machine ?q_Book_machine ?l_Book_machine ?c_Book_machine ?k_Book_machine ?i_Book_rewriter ?q_Book_rewriter ?l_Book_rewriter ?c_Book_rewriter ?k_Book_rewriter ?n_Program ?pg_Program ?hd_Program ?po_Program ?sa_Program ?mk_Program ?kc_Program ?na_Program_inputs ?na_Program_lines ?na_Program_result ?i_Program_init ?q_Program_init ?l_Program_init ?c_Program_init ?k_Program_init ?i_Program_picture ?q_Program_picture ?l_Program_picture ?c_Program_picture ?k_Program_picture ?n_Rewriter ?pg_Rewriter ?hd_Rewriter ?po_Rewriter ?sa_Rewriter ?mk_Rewriter ?kc_Rewriter ?na_Rewriter_letters ?na_Rewriter_lead ?na_Rewriter_finals ?na_Rewriter_table ?i_Rewriter_init ?q_Rewriter_init ?l_Rewriter_init ?c_Rewriter_init ?k_Rewriter_init ?i_Rewriter_check ?q_Rewriter_check ?l_Rewriter_check ?c_Rewriter_check ?k_Rewriter_check ?i_Rewriter_rewrite ?q_Rewriter_rewrite ?l_Rewriter_rewrite ?c_Rewriter_rewrite ?k_Rewriter_rewrite ?i_Rewriter_rewrite_from ?q_Rewriter_rewrite_from ?l_Rewriter_rewrite_from ?c_Rewriter_rewrite_from ?k_Rewriter_rewrite_from ?i_Rewriter_picture ?q_Rewriter_picture ?l_Rewriter_picture ?c_Rewriter_picture ?k_Rewriter_picture ?z_abs ?z_all ?z_any ?z_dict ?z_enumerate ?z_int ?z_isinstance ?z_len ?z_list ?z_max ?z_min ?z_range ?z_reversed ?z_set ?z_sorted ?z_tuple ?k_LETTERS ?k_MOST_LETTERS ?k_LEAVES ?kt_LEAVES ?k_WORDS ?kt_WORDS ?k_NAME_LETTERS ?k_LONGEST_NAME ?k_MOST_INPUTS ?k_MOST_LINES ?k_MOST_PARTS ?ec_least_from ?hdt_least_from ?nt_least_from ?ht_least_from ?ec_both ?hdt_both ?nt_both ?ht_both ?ec_either ?hdt_either ?nt_either ?ht_either ?ec__paired ?hdt__paired ?nt__paired ?ht__paired ?ec_chained_texts ?hdt_chained_texts ?nt_chained_texts ?ht_chained_texts ?ec_repetition ?hdt_repetition ?nt_repetition ?ht_repetition
    (case n__wall => k_is); (case l__wall => k_is); (case c__wall => k_is); (case k__wall => k_is); (case n_check_alphabet => k_is); (case l_check_alphabet => k_is)
    (case c_check_alphabet => k_is); (case k_check_alphabet => k_is); (case n_is_text => k_is); (case l_is_text => k_is); (case c_is_text => k_is); (case k_is_text => k_is)
    (case n_check_text => k_is); (case l_check_text => k_is); (case c_check_text => k_is); (case k_check_text => k_is); (case n_block_numbers => k_is); (case l_block_numbers => k_is)
    (case c_block_numbers => k_is); (case k_block_numbers => k_is); (case n_first_states => k_is); (case l_first_states => k_is); (case c_first_states => k_is); (case k_first_states => k_is)
    (case n__blocks_of_kinds => k_is); (case l__blocks_of_kinds => k_is); (case c__blocks_of_kinds => k_is); (case k__blocks_of_kinds => k_is); (case n_explored => k_is); (case l_explored => k_is)
    (case c_explored => k_is); (case k_explored => k_is); (case n_ways_back => k_is); (case l_ways_back => k_is); (case c_ways_back => k_is); (case k_ways_back => k_is)
    (case n_least => k_is); (case l_least => k_is); (case c_least => k_is); (case k_least => k_is); (case n_least_from => k_is); (case l_least_from => k_is)
    (case c_least_from => k_is); (case k_least_from => k_is); (case n_least_explored => k_is); (case l_least_explored => k_is); (case c_least_explored => k_is); (case k_least_explored => k_is)
    (case n__merged => k_is); (case l__merged => k_is); (case c__merged => k_is); (case k__merged => k_is); (case n_sources_by => k_is); (case l_sources_by => k_is)
    (case c_sources_by => k_is); (case k_sources_by => k_is); (case n_both => k_is); (case l_both => k_is); (case c_both => k_is); (case k_both => k_is)
    (case n_either => k_is); (case l_either => k_is); (case c_either => k_is); (case k_either => k_is); (case n_opposite => k_is); (case l_opposite => k_is)
    (case c_opposite => k_is); (case k_opposite => k_is); (case n__paired => k_is); (case l__paired => k_is); (case c__paired => k_is); (case k__paired => k_is)
    (case n_chained_texts => k_is); (case l_chained_texts => k_is); (case c_chained_texts => k_is); (case k_chained_texts => k_is); (case n_repetition => k_is); (case l_repetition => k_is)
    (case c_repetition => k_is); (case k_repetition => k_is); (case n__lot => k_is); (case l__lot => k_is); (case c__lot => k_is); (case k__lot => k_is)
    (case n__after => k_is); (case l__after => k_is); (case c__after => k_is); (case k__after => k_is); (case n__accepts_one => k_is); (case l__accepts_one => k_is)
    (case c__accepts_one => k_is); (case k__accepts_one => k_is); (case n_parts_of => k_is); (case l_parts_of => k_is); (case c_parts_of => k_is); (case k_parts_of => k_is)
    (case n_flat_terms => k_is); (case l_flat_terms => k_is); (case c_flat_terms => k_is); (case k_flat_terms => k_is); (case n_machine_of => k_is); (case l_machine_of => k_is)
    (case c_machine_of => k_is); (case k_machine_of => k_is); (case n__machine_of_term => k_is); (case l__machine_of_term => k_is); (case c__machine_of_term => k_is); (case k__machine_of_term => k_is)
    (case n__machine_of_leaf => k_is); (case l__machine_of_leaf => k_is); (case c__machine_of_leaf => k_is); (case k__machine_of_leaf => k_is); (case n_is_name => k_is); (case l_is_name => k_is)
    (case c_is_name => k_is); (case k_is_name => k_is); (case n_check_program => k_is); (case l_check_program => k_is); (case c_check_program => k_is); (case k_check_program => k_is)
    (case n_names_read => k_is); (case l_names_read => k_is); (case c_names_read => k_is); (case k_names_read => k_is); (case n_names_given => k_is); (case l_names_given => k_is)
    (case c_names_given => k_is); (case k_names_given => k_is); (case n__check_new_name => k_is); (case l__check_new_name => k_is); (case c__check_new_name => k_is); (case k__check_new_name => k_is)
    (case n__check_known => k_is); (case l__check_known => k_is); (case c__check_known => k_is); (case k__check_known => k_is); (case n__check_book_has => k_is); (case l__check_book_has => k_is)
    (case c__check_book_has => k_is); (case k__check_book_has => k_is); (case n__check_parts => k_is); (case l__check_parts => k_is); (case c__check_parts => k_is); (case k__check_parts => k_is)
    (case n_cell => k_is); (case l_cell => k_is); (case c_cell => k_is); (case k_cell => k_is); (case n_numbers => k_is); (case l_numbers => k_is)
    (case c_numbers => k_is); (case k_numbers => k_is); (case n_state => k_is); (case l_state => k_is); (case c_state => k_is); (case k_state => k_is)
    (case n_next => k_is); (case l_next => k_is); (case c_next => k_is); (case k_next => k_is); (case n_letters => k_is); (case l_letters => k_is)
    (case c_letters => k_is); (case k_letters => k_is); (case n_pattern => k_is); (case l_pattern => k_is); (case c_pattern => k_is); (case k_pattern => k_is)
    (case n_word => k_is); (case l_word => k_is); (case c_word => k_is); (case k_word => k_is); (case n_maker => k_is); (case l_maker => k_is)
    (case c_maker => k_is); (case k_maker => k_is); (case n_name => k_is); (case l_name => k_is); (case c_name => k_is); (case k_name => k_is)
    (case n_named => k_is); (case l_named => k_is); (case c_named => k_is); (case k_named => k_is); (case n_book => k_is); (case l_book => k_is)
    (case c_book => k_is); (case k_book => k_is); (case n_made_book => k_is); (case l_made_book => k_is); (case c_made_book => k_is); (case k_made_book => k_is)
    (case n_pick => k_is); (case l_pick => k_is); (case c_pick => k_is); (case k_pick => k_is); (case n_line => k_is); (case l_line => k_is)
    (case c_line => k_is); (case k_line => k_is); (case n_program => k_is); (case l_program => k_is); (case c_program => k_is); (case k_program => k_is)
    (case n_told => k_is); (case l_told => k_is); (case c_told => k_is); (case k_told => k_is); (case n_law_is_name => k_is); (case l_law_is_name => k_is)
    (case c_law_is_name => k_is); (case k_law_is_name => k_is); (case n_entered => k_is); (case l_entered => k_is); (case c_entered => k_is); (case k_entered => k_is)
    (case n_read_names => k_is); (case l_read_names => k_is); (case c_read_names => k_is); (case k_read_names => k_is); (case n_things => k_is); (case l_things => k_is)
    (case c_things => k_is); (case k_things => k_is); (case n_due => k_is); (case l_due => k_is); (case c_due => k_is); (case k_due => k_is)
    (case n_odd => k_is); (case l_odd => k_is); (case c_odd => k_is); (case k_odd => k_is); (case n_spoilt => k_is); (case l_spoilt => k_is)
    (case c_spoilt => k_is); (case k_spoilt => k_is); (case n_law => k_is); (case l_law => k_is); (case c_law => k_is); (case k_law => k_is)
    (case n_AnytextError => k_is); (case n_LetterError => k_is); (case n_MachineError => k_is); (case n_ProgramError => k_is); (case n_BadAlphabet => k_is); (case n_BadText => k_is)
    (case n_BadMachine => k_is); (case n_BadRewriter => k_is); (case n_BadName => k_is); (case n_NameTaken => k_is); (case n_UnknownName => k_is); (case n_TooMany => k_is)
    (case ini_BadAlphabet => k_is); (case l_init => k_is); (case c_init => k_is); (case k_init => k_is); (case ti_init => k_is); (case lt_init => k_is)
    (case i_AnytextError => k_is); (case t_AnytextError => k_is); (case e_AnytextError => k_is); (case h_AnytextError => k_is); (case i_BadName => k_is); (case t_BadName => k_is)
    (case e_BadName => k_is); (case h_BadName => k_is); (case i_BadText => k_is); (case t_BadText => k_is); (case e_BadText => k_is); (case h_BadText => k_is)
    (case i_LetterError => k_is); (case t_LetterError => k_is); (case e_LetterError => k_is); (case h_LetterError => k_is); (case i_NameTaken => k_is); (case t_NameTaken => k_is)
    (case e_NameTaken => k_is); (case h_NameTaken => k_is); (case i_ProgramError => k_is); (case t_ProgramError => k_is); (case e_ProgramError => k_is); (case h_ProgramError => k_is)
    (case i_TooMany => k_is); (case t_TooMany => k_is); (case e_TooMany => k_is); (case h_TooMany => k_is); (case i_UnknownName => k_is); (case t_UnknownName => k_is)
    (case e_UnknownName => k_is); (case h_UnknownName => k_is); (case l_BadAlphabet => k_is); (case sa_BadAlphabet => k_is); (case ga_BadAlphabet => k_is); (case gg_BadAlphabet => k_is)
    (case nw_BadAlphabet => k_is); (case cc_BadAlphabet => k_is); (case mo_BadAlphabet => k_is); (case se_BadAlphabet => k_is); (case kC_BadAlphabet => k_is); (case i_BadAlphabet => k_is)
    (case t_BadAlphabet => k_is); (case e_BadAlphabet => k_is); (case h_BadAlphabet => k_is); (case s_BadAlphabet_AnytextError => k_is); (case s_BadAlphabet_BadName => k_is); (case s_BadAlphabet_BadText => k_is)
    (case s_BadAlphabet_LetterError => k_is); (case s_BadAlphabet_NameTaken => k_is); (case s_BadAlphabet_ProgramError => k_is); (case s_BadAlphabet_TooMany => k_is); (case s_BadAlphabet_UnknownName => k_is); (case l_BadMachine => k_is)
    (case sa_BadMachine => k_is); (case ga_BadMachine => k_is); (case gg_BadMachine => k_is); (case nw_BadMachine => k_is); (case ini_BadMachine => k_is); (case cc_BadMachine => k_is)
    (case mo_BadMachine => k_is); (case se_BadMachine => k_is); (case kC_BadMachine => k_is); (case i_BadMachine => k_is); (case t_BadMachine => k_is); (case e_BadMachine => k_is)
    (case h_BadMachine => k_is); (case s_BadMachine_AnytextError => k_is); (case s_BadMachine_BadName => k_is); (case s_BadMachine_BadText => k_is); (case s_BadMachine_LetterError => k_is); (case s_BadMachine_NameTaken => k_is)
    (case s_BadMachine_ProgramError => k_is); (case s_BadMachine_TooMany => k_is); (case s_BadMachine_UnknownName => k_is); (case l_BadName => k_is); (case sa_BadName => k_is); (case ga_BadName => k_is)
    (case gg_BadName => k_is); (case nw_BadName => k_is); (case ini_BadName => k_is); (case cc_BadName => k_is); (case mo_BadName => k_is); (case se_BadName => k_is)
    (case kC_BadName => k_is); (case s_BadName_AnytextError => k_is); (case s_BadName_BadText => k_is); (case s_BadName_LetterError => k_is); (case s_BadName_NameTaken => k_is); (case s_BadName_ProgramError => k_is)
    (case s_BadName_TooMany => k_is); (case s_BadName_UnknownName => k_is); (case l_BadRewriter => k_is); (case sa_BadRewriter => k_is); (case ga_BadRewriter => k_is); (case gg_BadRewriter => k_is)
    (case nw_BadRewriter => k_is); (case ini_BadRewriter => k_is); (case cc_BadRewriter => k_is); (case mo_BadRewriter => k_is); (case se_BadRewriter => k_is); (case kC_BadRewriter => k_is)
    (case i_BadRewriter => k_is); (case t_BadRewriter => k_is); (case e_BadRewriter => k_is); (case h_BadRewriter => k_is); (case s_BadRewriter_AnytextError => k_is); (case s_BadRewriter_BadName => k_is)
    (case s_BadRewriter_BadText => k_is); (case s_BadRewriter_LetterError => k_is); (case s_BadRewriter_NameTaken => k_is); (case s_BadRewriter_ProgramError => k_is); (case s_BadRewriter_TooMany => k_is); (case s_BadRewriter_UnknownName => k_is)
    (case l_BadText => k_is); (case sa_BadText => k_is); (case ga_BadText => k_is); (case gg_BadText => k_is); (case nw_BadText => k_is); (case ini_BadText => k_is)
    (case cc_BadText => k_is); (case mo_BadText => k_is); (case se_BadText => k_is); (case kC_BadText => k_is); (case s_BadText_AnytextError => k_is); (case s_BadText_BadName => k_is)
    (case s_BadText_LetterError => k_is); (case s_BadText_NameTaken => k_is); (case s_BadText_ProgramError => k_is); (case s_BadText_TooMany => k_is); (case s_BadText_UnknownName => k_is); (case l_NameTaken => k_is)
    (case sa_NameTaken => k_is); (case ga_NameTaken => k_is); (case gg_NameTaken => k_is); (case nw_NameTaken => k_is); (case ini_NameTaken => k_is); (case cc_NameTaken => k_is)
    (case mo_NameTaken => k_is); (case se_NameTaken => k_is); (case kC_NameTaken => k_is); (case s_NameTaken_AnytextError => k_is); (case s_NameTaken_BadName => k_is); (case s_NameTaken_BadText => k_is)
    (case s_NameTaken_LetterError => k_is); (case s_NameTaken_ProgramError => k_is); (case s_NameTaken_TooMany => k_is); (case s_NameTaken_UnknownName => k_is); (case l_TooMany => k_is); (case sa_TooMany => k_is)
    (case ga_TooMany => k_is); (case gg_TooMany => k_is); (case nw_TooMany => k_is); (case ini_TooMany => k_is); (case cc_TooMany => k_is); (case mo_TooMany => k_is)
    (case se_TooMany => k_is); (case kC_TooMany => k_is); (case s_TooMany_AnytextError => k_is); (case s_TooMany_BadName => k_is); (case s_TooMany_BadText => k_is); (case s_TooMany_LetterError => k_is)
    (case s_TooMany_NameTaken => k_is); (case s_TooMany_ProgramError => k_is); (case s_TooMany_UnknownName => k_is); (case l_UnknownName => k_is); (case sa_UnknownName => k_is); (case ga_UnknownName => k_is)
    (case gg_UnknownName => k_is); (case nw_UnknownName => k_is); (case ini_UnknownName => k_is); (case cc_UnknownName => k_is); (case mo_UnknownName => k_is); (case se_UnknownName => k_is)
    (case kC_UnknownName => k_is); (case s_UnknownName_AnytextError => k_is); (case s_UnknownName_BadName => k_is); (case s_UnknownName_BadText => k_is); (case s_UnknownName_LetterError => k_is); (case s_UnknownName_NameTaken => k_is)
    (case s_UnknownName_ProgramError => k_is); (case s_UnknownName_TooMany => k_is); (case sp_B => k_is); (case tk_B => k_is); (case n_Blocks => k_is); (case pg_Blocks => k_is)
    (case hd_Blocks => k_is); (case po_Blocks => k_is); (case sa_Blocks => k_is); (case mk_Blocks => k_is); (case kc_Blocks => k_is); (case na_Blocks_members => k_is)
    (case na_Blocks_places => k_is); (case na_Blocks_block_of => k_is); (case na_Blocks_starts => k_is); (case na_Blocks_ends => k_is); (case na_Blocks_marks => k_is); (case na_Blocks_touched => k_is)
    (case i_Blocks_init => k_is); (case q_Blocks_init => k_is); (case l_Blocks_init => k_is); (case c_Blocks_init => k_is); (case k_Blocks_init => k_is); (case i_Blocks_states_in => k_is)
    (case q_Blocks_states_in => k_is); (case l_Blocks_states_in => k_is); (case c_Blocks_states_in => k_is); (case k_Blocks_states_in => k_is); (case i_Blocks_mark => k_is); (case q_Blocks_mark => k_is)
    (case l_Blocks_mark => k_is); (case c_Blocks_mark => k_is); (case k_Blocks_mark => k_is); (case i_Blocks_cut => k_is); (case q_Blocks_cut => k_is); (case l_Blocks_cut => k_is)
    (case c_Blocks_cut => k_is); (case k_Blocks_cut => k_is); (case i_Blocks_take_out => k_is); (case q_Blocks_take_out => k_is); (case l_Blocks_take_out => k_is); (case c_Blocks_take_out => k_is)
    (case k_Blocks_take_out => k_is); (case n_Machine => k_is); (case pg_Machine => k_is); (case hd_Machine => k_is); (case po_Machine => k_is); (case sa_Machine => k_is)
    (case mk_Machine => k_is); (case kc_Machine => k_is); (case na_Machine_letters => k_is); (case na_Machine_accepting => k_is); (case na_Machine_table => k_is); (case i_Machine_init => k_is)
    (case q_Machine_init => k_is); (case l_Machine_init => k_is); (case c_Machine_init => k_is); (case k_Machine_init => k_is); (case i_Machine_check => k_is); (case q_Machine_check => k_is)
    (case l_Machine_check => k_is); (case c_Machine_check => k_is); (case k_Machine_check => k_is); (case i_Machine_run => k_is); (case q_Machine_run => k_is); (case l_Machine_run => k_is)
    (case c_Machine_run => k_is); (case k_Machine_run => k_is); (case i_Machine_run_from => k_is); (case q_Machine_run_from => k_is); (case l_Machine_run_from => k_is); (case c_Machine_run_from => k_is)
    (case k_Machine_run_from => k_is); (case i_Machine_accepts => k_is); (case q_Machine_accepts => k_is); (case l_Machine_accepts => k_is); (case c_Machine_accepts => k_is); (case k_Machine_accepts => k_is)
    (case i_Machine_picture => k_is); (case q_Machine_picture => k_is); (case l_Machine_picture => k_is); (case c_Machine_picture => k_is); (case k_Machine_picture => k_is); (case n_Book => k_is)
    (case pg_Book => k_is); (case hd_Book => k_is); (case po_Book => k_is); (case sa_Book => k_is); (case mk_Book => k_is); (case kc_Book => k_is)
    (case na_Book_letters => k_is); (case na_Book__patterns => k_is); (case na_Book__rewriters => k_is); (case na_Book__machines => k_is); (case i_Book_init => k_is); (case q_Book_init => k_is)
    (case l_Book_init => k_is); (case c_Book_init => k_is); (case k_Book_init => k_is); (case i_Book_has_pattern => k_is); (case q_Book_has_pattern => k_is); (case l_Book_has_pattern => k_is)
    (case c_Book_has_pattern => k_is); (case k_Book_has_pattern => k_is); (case i_Book_has_rewriter => k_is); (case q_Book_has_rewriter => k_is); (case l_Book_has_rewriter => k_is); (case c_Book_has_rewriter => k_is)
    (case k_Book_has_rewriter => k_is); (case i_Book_machine => k_is); (case q_Book_machine => k_is); (case l_Book_machine => k_is); (case c_Book_machine => k_is); (case k_Book_machine => k_is)
    (case i_Book_rewriter => k_is); (case q_Book_rewriter => k_is); (case l_Book_rewriter => k_is); (case c_Book_rewriter => k_is); (case k_Book_rewriter => k_is); (case n_Program => k_is)
    (case pg_Program => k_is); (case hd_Program => k_is); (case po_Program => k_is); (case sa_Program => k_is); (case mk_Program => k_is); (case kc_Program => k_is)
    (case na_Program_inputs => k_is); (case na_Program_lines => k_is); (case na_Program_result => k_is); (case i_Program_init => k_is); (case q_Program_init => k_is); (case l_Program_init => k_is)
    (case c_Program_init => k_is); (case k_Program_init => k_is); (case i_Program_picture => k_is); (case q_Program_picture => k_is); (case l_Program_picture => k_is); (case c_Program_picture => k_is)
    (case k_Program_picture => k_is); (case n_Rewriter => k_is); (case pg_Rewriter => k_is); (case hd_Rewriter => k_is); (case po_Rewriter => k_is); (case sa_Rewriter => k_is)
    (case mk_Rewriter => k_is); (case kc_Rewriter => k_is); (case na_Rewriter_letters => k_is); (case na_Rewriter_lead => k_is); (case na_Rewriter_finals => k_is); (case na_Rewriter_table => k_is)
    (case i_Rewriter_init => k_is); (case q_Rewriter_init => k_is); (case l_Rewriter_init => k_is); (case c_Rewriter_init => k_is); (case k_Rewriter_init => k_is); (case i_Rewriter_check => k_is)
    (case q_Rewriter_check => k_is); (case l_Rewriter_check => k_is); (case c_Rewriter_check => k_is); (case k_Rewriter_check => k_is); (case i_Rewriter_rewrite => k_is); (case q_Rewriter_rewrite => k_is)
    (case l_Rewriter_rewrite => k_is); (case c_Rewriter_rewrite => k_is); (case k_Rewriter_rewrite => k_is); (case i_Rewriter_rewrite_from => k_is); (case q_Rewriter_rewrite_from => k_is); (case l_Rewriter_rewrite_from => k_is)
    (case c_Rewriter_rewrite_from => k_is); (case k_Rewriter_rewrite_from => k_is); (case i_Rewriter_picture => k_is); (case q_Rewriter_picture => k_is); (case l_Rewriter_picture => k_is); (case c_Rewriter_picture => k_is)
    (case k_Rewriter_picture => k_is); (case z_abs => k_is); (case z_all => k_is); (case z_any => k_is); (case z_dict => k_is); (case z_enumerate => k_is)
    (case z_int => k_is); (case z_isinstance => k_is); (case z_len => k_is); (case z_list => k_is); (case z_max => k_is); (case z_min => k_is)
    (case z_range => k_is); (case z_reversed => k_is); (case z_set => k_is); (case z_sorted => k_is); (case z_tuple => k_is); (case k_LETTERS => k_is)
    (case k_MOST_LETTERS => k_is); (case k_LEAVES => k_is); (case kt_LEAVES => k_is); (case k_WORDS => k_is); (case kt_WORDS => k_is); (case k_NAME_LETTERS => k_is)
    (case k_LONGEST_NAME => k_is); (case k_MOST_INPUTS => k_is); (case k_MOST_LINES => k_is); (case k_MOST_PARTS => k_is); (case ec_least_from => rfl); (case hdt_least_from => exact AT.tab_is (by kernel_rfl))
    (case nt_least_from => kernel_rfl); (case ht_least_from => exact hT8 _ (AT.mem_dec (by kernel_rfl))); (case ec_both => rfl); (case hdt_both => exact AT.tab_is (by kernel_rfl)); (case nt_both => kernel_rfl); (case ht_both => exact hT8 _ (AT.mem_dec (by kernel_rfl)))
    (case ec_either => rfl); (case hdt_either => exact AT.tab_is (by kernel_rfl)); (case nt_either => kernel_rfl); (case ht_either => exact hT8 _ (AT.mem_dec (by kernel_rfl))); (case ec__paired => rfl); (case hdt__paired => exact AT.tab_is (by kernel_rfl))
    (case nt__paired => kernel_rfl); (case ht__paired => exact hT8 _ (AT.mem_dec (by kernel_rfl))); (case ec_chained_texts => rfl); (case hdt_chained_texts => exact AT.tab_is (by kernel_rfl)); (case nt_chained_texts => kernel_rfl); (case ht_chained_texts => exact hT8 _ (AT.mem_dec (by kernel_rfl)))
    (case ec_repetition => rfl); (case hdt_repetition => exact AT.tab_is (by kernel_rfl)); (case nt_repetition => kernel_rfl); (case ht_repetition => exact hT8 _ (AT.mem_dec (by kernel_rfl)))

