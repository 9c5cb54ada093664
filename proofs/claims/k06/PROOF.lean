import PyProof.Rows.All
import Wide.All
import OpenK.AllK
import Wide.FinOn
import HandS.ForMost
import HandS.ForExc
import HandS.Walk
import HandS.Evl
import HandS.ExcInit
import HandS.ExcField
import HandS.ExcIs
import HandS.IsInst
import HandS.RaiseMore
import HandS.TupAny
import HandS.TryOnly
import HandS.Defaults
import HandS.Steps
import KE.KExcIs
import HandS.TupMul
import PyProof.ReprRoads
import HandS.Replace
import KE.DataMinMax
import KE.DataCmp
import PyProof.StrBlock2
import HandS.Ends
import HandS.Style
import KE.KDictDisplayH
import PyProof.Draws
import PyProof.EnumMake
import PyProof.WalksMore
import HandS.Zip0
import HandS.DictComp
import HandS.TupLe
import HandS.Nested
import HandS.NestedK
import HandS.EndTab
import HandS.HeadWalk
import KE.KNestM
import HandS.Rev
import HandS.MapObj
import PyProof.StrWalks
import PyProof.JoinWalk
import HandS.Strs
import HandS.Conv
import PyProof.ListIndex
import HandS.SetKeys
import HandS.SetBool
import HandS.SortInts
import KE.KDictKeyed
import HandS.SetFor
import HandS.Flow
import HandS.WordsDict
import KE.KRevSl
import HandS.TryMany
import HandS.Iter
import HandS.TupLen
import KE.KDictList
import HandS.WrittenGet
import PyProof.AutoSeq1
import HandS.Sort
import HandS.RevRange
import HandS.WideBits
import PyProof.ListStr
import PySem.Challenge.RW_anytext_k06_meaning_of_patterns
set_option Elab.async false
set_option linter.all false
set_option maxRecDepth 100000
set_option maxHeartbeats 4000000
/-! own words: readings step by step, operators by several kinds of values -/
namespace AT
open PySem PySem.Spec PyProof.Rows L2
abbrev Ex := Evl.Ex
section
variable {X : Cx} {f : Value → Value → Sem Value} {r r' : R2}
theorem OpR.or (h : OpR X f r) (h' : OpR X f r') : OpR X f (fun x y H Q => r x y H Q ∨ r' x y H Q) := by
  intro pins s σ H x y v u Q I rx ry q
  rcases q with q | q
  · exact h pins s σ H x y v u Q I rx ry q
  · exact h' pins s σ H x y v u Q I rx ry q
theorem CallR.or {f : Value} {r r' : List V → Hp → VK → Prop} (h : CallR X f r) (h' : CallR X f r') : CallR X f (fun x H Q => r x H Q ∨ r' x H Q) := by
  intro pins s σ H x us Q I rx q
  rcases q with q | q
  · exact h pins s σ H x us Q I rx q
  · exact h' pins s σ H x us Q I rx q
end
/-! ### operators -/
/-- + of ints, of texts, of lists -/
def oAdd (K : PySem.W.Frag) : R2 := fun x y H Q => (rI0 (fun i j => .int (i + j)) x y H Q) ∨ (∃ i j : Str, x = .str i ∧ y = .str j ∧ i.length + j.length ≤ sizeLine ∧ Q (.str (i ++ j)) H) ∨ rCat x y H Q ∨ rCatT K x y H Q
theorem op_addP {X : Cx} : OpR X (binaryOp .Add) (oAdd X.K) := OpR.or op_add (OpR.or op_add_str (OpR.or op_cat op_catT))
def oSub : R2 := rI0 fun i j => .int (i - j)
theorem op_subP {X : Cx} : OpR X (binaryOp .Sub) oSub := op_sub
def oMul : R2 := rI CMul fun i j => .int (i * j)
theorem op_mulP {X : Cx} : OpR X (binaryOp .Mult) oMul := op_mul
def oMod : R2 := rI (fun _ j => j ≠ 0) fun i j => .int (i.fmod j)
theorem op_modP {X : Cx} : OpR X (binaryOp .Mod) oMod := op_modN
def oDiv : R2 := rI CDivN fun i j => .int (i.fdiv j)
theorem op_divP {X : Cx} : OpR X (binaryOp .FloorDiv) oDiv := op_fdivN
def oPow : R2 := rI CPow fun i j => .int (i ^ j.toNat)
theorem op_powP {X : Cx} : OpR X (binaryOp .Pow) oPow := op_pow
def oLt : R2 := rI0 fun i j => .bl (decide (i < j))
def oLe : R2 := rI0 fun i j => .bl (decide (i ≤ j))
def oGt : R2 := rI0 fun i j => .bl (decide (j < i))
def oGe : R2 := rI0 fun i j => .bl (decide (j ≤ i))
theorem op_ltP {X : Cx} : OpR X (compareOp .Lt) oLt := op_lt
theorem op_leP {X : Cx} : OpR X (compareOp .LtE) oLe := op_le
theorem op_gtP {X : Cx} : OpR X (compareOp .Gt) oGt := op_gt
theorem op_geP {X : Cx} : OpR X (compareOp .GtE) oGe := op_ge
/-- == of ints, bools, texts; of data -/
def oEq (K : PySem.W.Frag) : R2 := fun x y H Q => rEq x y H Q ∨ rEqD K x y H Q
def oNe (K : PySem.W.Frag) : R2 := fun x y H Q => rNe x y H Q ∨ rNeD K x y H Q
theorem op_eqP {X : Cx} (hu : X.A.units + 64 < cLine) : OpR X (compareOp .Eq) (oEq X.K) := OpR.or op_eq (op_eqD hu)
theorem op_neP {X : Cx} (hu : X.A.units + 64 < cLine) : OpR X (compareOp .NotEq) (oNe X.K) := OpR.or op_ne (op_neD hu)

/-! ### reading, step by step -/
section rd
variable {K : PySem.W.Frag} {σ : L2.St} {H : Hp} {Q : VK} {QB : Bool → Hp → Prop} {QL : List V → Hp → Prop} {D : Ends} {ta tb tc te to : TE} {tt uu : TT} {tl : TA} {t u : TS} {g : TG} {i : Nat} {v w x y : V} {r r' : R2} {QS : L2.St → Hp → Prop}
theorem rd_seq (h : t { D with nx := u D } σ H) : tSeq t u D σ H := h
theorem rd_asg (h : te σ H fun x H1 => g x σ H1 D.nx) : tAsg te g D σ H := h
theorem rd_name (h : QS (σ.set i (some v)) H) : gName i v σ H QS := h
theorem rd_var (e : σ[i]? = some (some v)) (h : Q v H) : tVar i σ H Q := ⟨v, e, h⟩
theorem rd_c (h : Q v H) : tC v σ H Q := h
theorem rd_op (h : ta σ H fun x H1 => tb σ H1 fun y H2 => r x y H2 Q) : tOp r ta tb σ H Q := h
theorem rd_ret (h : te σ H D.rt) : tRet te D σ H := h
theorem rd_retN (h : D.rt .non H) : tRetN D σ H := h
theorem rd_if (h : tt σ H fun b H1 => if b = true then t D σ H1 else u D σ H1) : tIfS tt t u D σ H := h
theorem rd_ife (h : tt σ H fun b H1 => if b = true then ta σ H1 Q else tb σ H1 Q) : tIf tt ta tb σ H Q := h
theorem rd_next (h : D.nx σ H) : tNext D σ H := h
theorem rd_drop (h : te σ H fun _ H1 => D.nx σ H1) : tDrop te D σ H := h
theorem rd_test (h : te σ H fun x H' => ∃ k, x = .bl k ∧ QB k H') : tTest te σ H QB := h
theorem rd_tB (h : te σ H fun x H' => ∃ k, x = .bl k ∧ QB k H') : tB te σ H QB := h
theorem rd_bl {b : Bool} {P : Bool → Prop} (h : P b) : ∃ k, V.bl b = .bl k ∧ P k := ⟨b, rfl, h⟩
theorem rd_not (h : tt σ H fun c H1 => QB (!c) H1) : tNot tt σ H QB := h
theorem rd_and (h : tt σ H fun c H1 => if c = true then uu σ H1 QB else QB false H1) : tAnd tt uu σ H QB := h
theorem rd_or (h : tt σ H fun c H1 => if c = true then QB true H1 else uu σ H1 QB) : tOr tt uu σ H QB := h
theorem rd_nil (h : QL [] H) : tNil σ H QL := h
theorem rd_cons (h : ta σ H fun x H1 => tl σ H1 fun xs H2 => QL (x :: xs) H2) : tCons ta tl σ H QL := h
theorem rd_lst (h : tl σ H fun xs H1 => xs.length ≤ sizeLine ∧ ∀ p, H1 p = none → Q (.ref p) (upd H1 p (.lst xs))) : tLst tl σ H Q := h
theorem rd_tup (h : tl σ H fun xs H1 => xs.length ≤ sizeLine ∧ ∀ p, H1 p = none → Q (.ref p) (upd H1 p (.tup xs))) : tTup tl σ H Q := h
theorem rd_cb {rc : List V → Hp → VK → Prop} (h : tl σ H fun vs H1 => rc vs H1 Q) : tCB rc tl σ H Q := h
theorem rd_chain (h : ta σ H fun x H1 => tb σ H1 fun y H2 => r x y H2 fun z H3 => ∃ k, z = .bl k ∧ if k = true then tc σ H3 fun w H4 => r' y w H4 Q else Q (.bl false) H3) : tChain r r' ta tb tc σ H Q := h
theorem rd_call {sp : Sp} {dvs : List V} {E : XK} (h : tl σ H fun vs H1 => sp (vs ++ dvs) H1 Q E) : tCall sp dvs E tl σ H Q := h
theorem rd_iteT {A B : Prop} (h : A) : if true = true then A else B := iteT h
theorem rd_iteF {A B : Prop} (h : B) : if false = true then A else B := iteF h
theorem rd_itet {A B : Prop} {c : Bool} (e : c = true) (h : A) : if c = true then A else B := by rw [e]; exact iteT h
theorem rd_itef {A B : Prop} {c : Bool} (e : c = false) (h : B) : if c = true then A else B := by rw [e]; exact iteF h
theorem rd_ite {A B : Prop} {c : Bool} (h1 : c = true → A) (h2 : c = false → B) : if c = true then A else B := by
  cases c with
  | true => exact iteT (h1 rfl)
  | false => exact iteF (h2 rfl)
theorem rd_iteD {A B p : Prop} [Decidable p] (h1 : p → A) (h2 : ¬ p → B) : if decide p = true then A else B := rd_ite (fun e => h1 (of_decide_eq_true e)) fun e => h2 (of_decide_eq_false e)
theorem rd_iteN {A B p : Prop} [Decidable p] (h1 : ¬ p → A) (h2 : p → B) : if (!decide p) = true then A else B := rd_ite (fun e => h1 (by simpa using e)) fun e => h2 (by simpa using e)
/-! ints -/
variable {a b : Int}
theorem rd_addI (h : Q (.int (a + b)) H) : oAdd K (.int a) (.int b) H Q := .inl ⟨a, b, rfl, rfl, h⟩
theorem rd_subI (h : Q (.int (a - b)) H) : oSub (.int a) (.int b) H Q := ⟨a, b, rfl, rfl, h⟩
theorem rd_mulI (c : CMul a b) (h : Q (.int (a * b)) H) : oMul (.int a) (.int b) H Q := ⟨a, b, rfl, rfl, c, h⟩
theorem rd_modI (c : b ≠ 0) (h : Q (.int (a.fmod b)) H) : oMod (.int a) (.int b) H Q := ⟨a, b, rfl, rfl, c, h⟩
theorem rd_divI (c : CDivN a b) (h : Q (.int (a.fdiv b)) H) : oDiv (.int a) (.int b) H Q := ⟨a, b, rfl, rfl, c, h⟩
theorem rd_powI (c : CPow a b) (h : Q (.int (a ^ b.toNat)) H) : oPow (.int a) (.int b) H Q := ⟨a, b, rfl, rfl, c, h⟩
theorem rd_lt (h : Q (.bl (decide (a < b))) H) : oLt (.int a) (.int b) H Q := ⟨a, b, rfl, rfl, h⟩
theorem rd_le (h : Q (.bl (decide (a ≤ b))) H) : oLe (.int a) (.int b) H Q := ⟨a, b, rfl, rfl, h⟩
theorem rd_gt (h : Q (.bl (decide (b < a))) H) : oGt (.int a) (.int b) H Q := ⟨a, b, rfl, rfl, h⟩
theorem rd_ge (h : Q (.bl (decide (b ≤ a))) H) : oGe (.int a) (.int b) H Q := ⟨a, b, rfl, rfl, h⟩
theorem rd_eqI (h : Q (.bl (decide (a = b))) H) : oEq K (.int a) (.int b) H Q := .inl ⟨rfl, by
  have e : decide (V.int a = V.int b) = decide (a = b) := decide_eq_decide.mpr ⟨fun z => V.int.inj z, fun z => by rw [z]⟩
  rw [e]; exact h⟩
theorem rd_neI (h : Q (.bl (!decide (a = b))) H) : oNe K (.int a) (.int b) H Q := .inl ⟨rfl, by
  have e : decide (V.int a = V.int b) = decide (a = b) := decide_eq_decide.mpr ⟨fun z => V.int.inj z, fun z => by rw [z]⟩
  rw [e]; exact h⟩
theorem rd_eqS {x y : Str} (h : Q (.bl (decide (x = y))) H) : oEq K (.str x) (.str y) H Q := .inl ⟨rfl, by
  have e : decide (V.str x = V.str y) = decide (x = y) := decide_eq_decide.mpr ⟨fun z => V.str.inj z, fun z => by rw [z]⟩
  rw [e]; exact h⟩
theorem rd_neS {x y : Str} (h : Q (.bl (!decide (x = y))) H) : oNe K (.str x) (.str y) H Q := .inl ⟨rfl, by
  have e : decide (V.str x = V.str y) = decide (x = y) := decide_eq_decide.mpr ⟨fun z => V.str.inj z, fun z => by rw [z]⟩
  rw [e]; exact h⟩
theorem rd_addS {x y : Str} (c : x.length + y.length ≤ sizeLine) (h : Q (.str (x ++ y)) H) : oAdd K (.str x) (.str y) H Q := .inr (.inl ⟨x, y, rfl, rfl, c, h⟩)
theorem rd_cat {l m : Addr} {xs ys : List V} (h1 : H l = some (.lst xs)) (h2 : H m = some (.lst ys)) (c : xs.length + ys.length ≤ sizeLine) (h : ∀ p, H p = none → Q (.ref p) (upd H p (.lst (xs ++ ys)))) : oAdd K (.ref l) (.ref m) H Q := .inr (.inr (.inl ⟨l, m, xs, ys, rfl, rfl, h1, h2, c, h⟩))
/-! calls of built-ins -/
end rd
/-! ### heaps -/
theorem ex_upd {H0 H : Hp} {p : Addr} {o : HO} (e : Ex H0 H) (h : H p = none) : Ex H0 (upd H p o) := fun a u q => by
  rw [upd_ne (ne_of_none (e a u q) h)]
  exact e a u q
theorem sq_upd {K : PySem.W.Frag} {H : Hp} {a p : Addr} {o : HO} {xs : List V} (hp : H p = none) (h : SqL K H a xs) : SqL K (upd H p o) a xs := Evl.ex_l (Evl.Ex.new hp) h
theorem sqt_upd {K : PySem.W.Frag} {H : Hp} {a p : Addr} {o : HO} {xs : List V} (hp : H p = none) (h : SqT K H a xs) : SqT K (upd H p o) a xs := Evl.ex_t (Evl.Ex.new hp) h
theorem at_upd {H : Hp} {a p : Addr} {o u : HO} (hp : H p = none) (h : H a = some u) : upd H p o a = some u := by
  rw [upd_ne (ne_of_none h hp)]; exact h

/-! ### more operators: in, len, slices, what is walked, repr -/
section
variable {X : Cx}
def oIn (K : PySem.W.Frag) : R2 := fun x y H Q => (∃ (c : Nat) (z : Str), x = .str ⟨#[c]⟩ ∧ y = .str z ∧ Q (.bl (decide (c ∈ z.cps.toList))) H) ∨ rIn K false x y H Q
def oNotIn (K : PySem.W.Frag) : R2 := fun x y H Q => (∃ (c : Nat) (z : Str), x = .str ⟨#[c]⟩ ∧ y = .str z ∧ Q (.bl (!decide (c ∈ z.cps.toList))) H) ∨ rIn K true x y H Q
theorem op_inP : OpR X (compareOp .In) (oIn X.K) := OpR.or op_in_sign op_in_seq
theorem op_notInP : OpR X (compareOp .NotIn) (oNotIn X.K) := OpR.or op_notIn_sign op_notIn_seq
def cLen (K : PySem.W.Frag) : List V → Hp → VK → Prop := fun xs H Q => (∃ x n, xs = [x] ∧ LenV K x H n ∧ Q (.int n) H) ∨ ∃ a kvs, xs = [V.ref a] ∧ H a = some (.dK kvs) ∧ Q (.int kvs.length) H
theorem call_lenP : CallR X (.builtin "len") (cLen X.K) := CallR.or call_len call_lenD
def cInt : List V → Hp → VK → Prop := fun xs H Q => (∃ i, xs = [.int i] ∧ Q (.int i) H) ∨ ∃ k, xs = [.bl k] ∧ Q (.int (if k then 1 else 0)) H
theorem call_intP : CallR X (.type "int") cInt := call_int1
def cAbs : List V → Hp → VK → Prop := fun xs H Q => ∃ i, xs = [.int i] ∧ Q (.int (if i < 0 then -i else i)) H
theorem call_absP : CallR X (.builtin "abs") cAbs := call_abs
def oSl (K : PySem.W.Frag) : V → Option Int → Option Int → Hp → VK → Prop := fun x lo hi H Q => rSlL K x lo hi H Q ∨ rSlS x lo hi H Q ∨ rSlA K x lo hi H Q
theorem sl_P : SlR X (oSl X.K) := SlR.or sl_list (SlR.or sl_str sl_tupA)
theorem PI.or {tg iter : Expr} {w w' : TI} (h : PI X tg iter w) (h' : PI X tg iter w') : PI X tg iter (fun σ H R => w σ H R ∨ w' σ H R) :=
  ⟨fun pins s σ H R I q => q.elim (h.run pins s σ H R I) (h'.run pins s σ H R I)⟩
def iAny (K : PySem.W.Frag) (te : TE) : TI := fun σ H R => iList K te σ H R ∨ iTup K te σ H R ∨ iStr te σ H R
theorem pi_any {tg e : Expr} {te : TE} (he : PE X e te) : PI X tg e (iAny X.K te) := PI.or (pi_list he) (PI.or (pi_tup he) (pi_str he))
theorem call_repr_bl : CallR X (.builtin "repr") (fun xs H Q => ∃ b, xs = [.bl b] ∧ Q (.str (if b then "True" else "False")) H) := by
  intro pins s σ H xs us Q I r h
  obtain ⟨b, rfl, q⟩ := h
  obtain ⟨u, rfl, ru⟩ := vals1 r
  cases (show u = Value.bool b from ru)
  exact PySem.P.repr_of_bool ⟨.str _, H, I.tok _, ⟨_, rfl⟩, q⟩
def cRepr : List V → Hp → VK → Prop := fun xs H Q => (∃ i, xs = [.int i] ∧ i.natAbs.log2 < 1920 ∧ Q (.str (toString i)) H) ∨ ∃ b, xs = [.bl b] ∧ Q (.str (if b then "True" else "False")) H
theorem call_reprP : CallR X (.builtin "repr") cRepr := CallR.or SkE.call_repr_int call_repr_bl
end
/-! ### own defs -/
/-- the def named x stands at f; all its parameters are written at a call -/
structure Own (K : PySem.W.Frag) (mg : Str → Option Value) (x : Str) (f : Addr) (fd : FuncData) (ps : List Str) : Prop where
  g : mg x = some (.ref f)
  k : PySem.W.keepIn K (.ref f) = true
  b : Binds K fd ps []
section
variable {X : Cx} {k : Nat} {f : Addr} {fd : FuncData} {ps : List Str} {sp : Sp} {x : Str} {p pos : Pos} {e : Expr} {es : List Expr} {t : TA}
def tCalled (sp : Sp) (t : TA) : TE := fun σ H Q => t σ H fun vs H1 => sp vs H1 Q E0
/-- a call of a def that raises nothing -/
theorem pe_callE (F : FnOk X.prog X.w X.K X.mg X.base CX0 k f fd ps sp) (hr : Room k X.A) (O : Own X.K X.mg x f fd ps) (ha : PA X (e :: es) t) (hg : Gl X x := by rfl)
    (hdb : (x == ("__debug__" : Str)) = false := by decide) (he : starEach (e :: es) X.env = (false, eval e X.env) :: starEach es X.env := by rfl) (hpl : (backTo pos (starEach es X.env)).any (·.1) = false := by rfl) :
    PE X (.Call (.Name x p) (e :: es) [] pos) (tCalled sp t) := pe_callS (E := fun _ => E0) F hr hg O.g O.k O.b (fun _ _ _ _ _ _ _ h => h.elim) ha hdb he hpl
def tCalledR (sp : Sp) (W : WX) (t : TA) : TE := fun σ H Q => t σ H fun vs H1 => sp vs H1 Q fun c d H2 => W c d σ H2
/-- a call of a def that may raise -/
theorem pe_callR {W : WX} (F : FnOk X.prog X.w X.K X.mg X.base (L2.CX X.prog X.w) k f fd ps sp) (hr : Room k X.A) (O : Own X.K X.mg x f fd ps) (tk : Takes X W) (ha : PA X (e :: es) t) (hg : Gl X x := by rfl)
    (hdb : (x == ("__debug__" : Str)) = false := by decide) (he : starEach (e :: es) X.env = (false, eval e X.env) :: starEach es X.env := by rfl) (hpl : (backTo pos (starEach es X.env)).any (·.1) = false := by rfl) :
    PE X (.Call (.Name x p) (e :: es) [] pos) (tCalledR sp W t) := pe_callS (E := WE W) F hr hg O.g O.k O.b (fun σ => passAt tk σ) ha hdb he hpl
end
/-! ### exceptions with the one attribute «what» -/
/-- the __init__ of the family: self.what = what -/
def spInit (K : PySem.W.Frag) : Sp := fun vs H Q _ => ∃ (a C : Addr) (v : V), vs = [.ref a, v] ∧ OexC K C ∧ PySem.W.findIn K (.ref C) "what" = some none ∧ H a = some (exo a C none) ∧
  ∀ dx, H dx = none → dx ≠ a → Q .non (upd (upd H dx (exd dx [("what", v)])) a (exo a C (some dx)))
/-- what the written part says of such a class -/
structure ErrX (K : PySem.W.Frag) (C fI : Addr) : Prop where
  ox : OexC K C
  xf : XfC K C
  nw : PySem.W.findIn K (.ref C) "what" = some none
  ini : PySem.W.findIn K (.ref C) "__init__" = some (some (.ref fI))
  cl : PySem.W.isClsIn K C = true
  cc : PySem.W.findIn K (.ref C) "__class__" = some (some (.builtin "object.__class__"))
  mo : PySem.W.mroIn K C (.type "object") = some true
  se : PySem.W.subIn K (.ref C) (.ref C) = some true
/-- of the builtin that tells an object's class -/
structure ClsB (K : PySem.W.Frag) : Prop where
  sp : PySem.W.specialIn K (.builtin "object.__class__") "__get__" = some (some (.builtin "getset_descriptor.__get__"))
  tk : PySem.W.takesIn K (.builtin "object.__class__") = some true
theorem mk_what {K : PySem.W.Frag} {C fI : Addr} {v : V} {H1 : Hp} {Q : XK} {vs : List V} (T : ErrX K C fI) (ev : vs = [v]) (h : ∀ d, H1 d = none → Q (.ref C) (some d) (upd H1 d (.xd [("what", v)]))) :
    vs.length ≤ 1000 ∧ ∀ a, H1 a = none → spInit K (.ref a :: (vs ++ [])) (upd H1 a (exo a C none))
      (fun u H2 => u = .non ∧ ∃ (d : Addr) (fs : List (Str × V)), H2 a = some (exo a C (some d)) ∧ H2 d = some (exd d fs) ∧ H1 d = none ∧ Q (.ref C) (some d) (upd (del H2 a) d (.xd fs))) (fun _ _ _ => False) := by
  subst ev
  refine ⟨by show 1 ≤ 1000; decide, fun a ha => ⟨a, C, v, rfl, T.ox, T.nw, upd_same, fun dx hdx ne => ⟨rfl, dx, [("what", v)], upd_same, ?_, ?_, ?_⟩⟩⟩
  · rw [upd_ne ne, upd_same]
  · rw [upd_ne ne] at hdx
    exact hdx
  · rw [upd_ne ne] at hdx
    have e : upd (del (upd (upd (upd H1 a (exo a C none)) dx (exd dx [("what", v)])) a (exo a C (some dx))) a) dx (.xd [("what", v)]) = upd H1 dx (.xd [("what", v)]) := by
      funext b
      by_cases h1 : b = dx
      · rw [h1, upd_same, upd_same]
      · rw [upd_ne h1, upd_ne h1]
        by_cases h2 : b = a
        · rw [h2, del_same, ha]
        · rw [del_ne h2, upd_ne h2, upd_ne h1, upd_ne h2]
    rw [e]
    exact h dx hdx
/-- raise C(e) -/
def tRaised (C : Addr) (W : WX) (ta : TA) : TS := fun _ σ H => ta σ H fun vs H1 => ∃ v, vs = [v] ∧ ∀ d, H1 d = none → W (.ref C) (some d) σ (upd H1 d (.xd [("what", v)]))
section
variable {X : Cx} {C fI : Addr} {fd : FuncData} {x : Str} {p pos pos2 : Pos} {e : Expr} {ta : TA} {W : WX}
theorem PA.imp {es : List Expr} {t t' : TA} (h : PA X es t) (hi : ∀ σ H Q, t' σ H Q → t σ H Q) : PA X es t' := ⟨fun pos pins s σ H Q I q => h.run pos pins s σ H Q I (hi σ H Q q)⟩
theorem PS.imp {st : Stmt} {t t' : TS} (h : PS X st t) (hi : ∀ D σ H, t' D σ H → t D σ H) : PS X st t' := ⟨fun pins s σ H D I q => h.run pins s σ H D I (hi D σ H q)⟩
/-- a reading is monotone in its wish -/
def MonoA (t : TA) : Prop := ∀ σ H (Q Q' : List V → Hp → Prop), (∀ vs H1, Q vs H1 → Q' vs H1) → t σ H Q → t σ H Q'
theorem ps_raiseW (hc : X.calm = true) (T : ErrX X.K C fI) (G : FnOk X.prog X.w X.K X.mg X.base CX0 1 fI fd ["self", "what"] (spInit X.K)) (tI : PySem.W.typeIn X.K (.ref fI) = some (.type "function")) (bI : Binds X.K fd ["self", "what"] []) (hr : Room 2 X.A) (hm : X.mg x = some (.ref C))
    (tk : Takes X W) (ha : PA X (e :: []) ta) (mo : MonoA ta) (hg : Gl X x := by rfl) (hdb : (x == ("__debug__" : Str)) = false := by decide)
    (he : starEach (e :: []) X.env = (false, eval e X.env) :: starEach [] X.env := by rfl) (hpl : (backTo pos (starEach [] X.env)).any (·.1) = false := by rfl) :
    PS X (.Raise (some (.Call (.Name x p) (e :: []) [] pos)) none pos2) (tRaised C W ta) := by
  refine PS.imp (ps_raise hc tk (pmk_oex (pos := pos) T.ox T.ini tI G hr bI .nil pass0 hg hm ha hdb he hpl)) fun D σ H q => ?_
  refine mo σ H _ _ (fun vs H1 q => ?_) q
  obtain ⟨v, ev, h⟩ := q
  exact mk_what (Q := fun c d H' => W c d σ H') T ev h
theorem MonoA.nil : MonoA tNil := fun _ _ _ _ h q => h _ _ q
theorem MonoA.one {te : TE} (m : ∀ σ H (Q Q' : VK), (∀ v H1, Q v H1 → Q' v H1) → te σ H Q → te σ H Q') : MonoA (tCons te tNil) := fun σ H Q Q' h q => m σ H _ _ (fun v H1 z => h _ _ z) q
theorem mono_var {i : Nat} : ∀ σ H (Q Q' : VK), (∀ v H1, Q v H1 → Q' v H1) → tVar i σ H Q → tVar i σ H Q' := fun _ _ _ _ h ⟨v, e, q⟩ => ⟨v, e, h _ _ q⟩
theorem mono_c {v : V} : ∀ σ H (Q Q' : VK), (∀ v H1, Q v H1 → Q' v H1) → tC v σ H Q → tC v σ H Q' := fun _ _ _ _ h q => h _ _ q
end
/-- isinstance(e, c), isinstance(e, (c, ..)): e the exception that the suite holds -/
def cIsE (K : PySem.W.Frag) (D a dd : Addr) : List V → Hp → VK → Prop := fun xs H Q => ∃ (fs : List (Str × V)) (b : Bool), H dd = some (.xd fs) ∧
  ((∃ (c : V) (cv : Value), xs = [.ref a, c] ∧ ClsV c cv ∧ PySem.W.kitOne K (.ref D) cv = some b) ∨ ∃ (tp : Addr) (cs : List V) (us : List Value), xs = [.ref a, .ref tp] ∧ H tp = some (.tup cs) ∧ Paired ClsV cs us ∧ PySem.W.kitAny K (.ref D) us = some b) ∧ Q (.bl b) H
theorem call_isX {X : Cx} {a D dd fI : Addr} {oe : Obj} {pn : List (Addr × Obj)} (T : ErrX X.K D fI) (B : ClsB X.K) (hz : Zc (.ref D) (some dd) oe) (hf : ∃ vs, oe.data = .fields vs) : CallR (X.suite a ((a, oe) :: pn)) (.builtin "isinstance") (cIsE X.K D a dd) := by
  intro pins s σ H xs us Q I r h
  obtain ⟨fs, b, hdd, hc, q⟩ := h
  obtain ⟨mA, hns, _⟩ := (show ObjOk X.prog X.w H s.heap dd (.xd fs) from I.hok dd _ hdd)
  obtain ⟨od, ho, _⟩ := lookIn_ns hns
  obtain ⟨hget, _⟩ := I.pin (a, oe) (List.mem_append.mpr (.inl List.mem_cons_self))
  obtain ⟨vs, hv⟩ := hf
  have J : PySem.W.InstAt s.heap a oe D (some od) := ⟨hget, hz.1, by unfold PySem.W.notCls; rw [hv] <;> rfl, by rw [hz.2]; exact ho⟩
  have Z : PySem.W.KitX X.K (.ref a) (.ref D) (fun h => PySem.W.InstAt h a oe D (some od)) := PySem.W.kitx_exc T.cl T.xf.ga T.xf.gg T.xf.exC T.cc B.sp B.tk T.mo
  rcases hc with ⟨c, cv, rfl, hcv, e⟩ | ⟨tp, cs, ws, rfl, hT, hcs, e⟩
  · obtain ⟨u1, u2, rfl, r1, r2⟩ := vals2 r
    cases (show u1 = Value.ref a from r1)
    have e2 := hcv.eq r2
    subst e2
    exact PySem.W.kia_one Z I.kIn J e (fun z => nomatch z) fun tk => ⟨.bl b, H, I.tok tk, rfl, q⟩
  · obtain ⟨u1, u2, rfl, r1, r2⟩ := vals2 r
    cases (show u1 = Value.ref a from r1)
    cases (show u2 = Value.ref tp from r2)
    obtain ⟨_, its, rv, o, h1, h2, n, h3⟩ := (show ObjOk X.prog X.w H s.heap tp (.tup cs) from I.hok tp _ hT)
    have e3 := ClsV.all hcs rv
    subst e3
    obtain ⟨oc, od', dt, sl⟩ := o
    simp only at h2 h3
    subst h2 h3
    exact PySem.W.kia_tup Z I.kIn J h1 e (fun z => nomatch z) fun tk => ⟨.bl b, H, I.tok tk, rfl, q⟩
/-- an own class or a class of Python's beside it: what isinstance says -/
theorem kit_ref {K : PySem.W.Frag} {D C fI : Addr} {b : Bool} (T : ErrX K D fI) (cl : PySem.W.isClsIn K C = true) (ty : PySem.W.typeIn K (.ref C) = some (.type "type")) (s : PySem.W.subIn K (.ref D) (.ref C) = some b) : PySem.W.kitOne K (.ref D) (.ref C) = some b := by
  by_cases e : D = C
  · subst e
    rw [T.se] at s
    obtain rfl : true = b := Option.some.inj s
    unfold PySem.W.kitOne
    rw [if_pos (by simp)]
  · unfold PySem.W.kitOne
    rw [if_neg (by simp [e])]
    show (if ((PySem.W.clsIn K C).isSome && PySem.W.typeIn K (.ref C) == some (.type "type")) = true then PySem.W.subIn K (.ref D) (.ref C) else none) = some b
    have e1 : (PySem.W.clsIn K C).isSome = true := cl
    rw [e1, ty, s]
    rfl
theorem kit_bt {K : PySem.W.Frag} {D : Addr} {n : String} {b : Bool} (m : PySem.W.kitMeta n = true) (s : PySem.W.subIn K (.ref D) (.type n) = some b) : PySem.W.kitOne K (.ref D) (.type n) = some b := by
  unfold PySem.W.kitOne
  rw [if_neg (by simp)]
  show (if PySem.W.kitMeta n = true then PySem.W.subIn K (.ref D) (.type n) else none) = some b
  rw [if_pos m, s]

theorem PSs.exi {ι : Type} {X : Cx} {st : List Stmt} {P : ι → Prop} {t : ι → TS} (h : ∀ i, P i → PSs X st (t i)) : PSs X st (fun D σ H => ∃ i, P i ∧ t i D σ H) :=
  ⟨fun pins s σ H D I ⟨i, p, q⟩ => (h i p).run pins s σ H D I q⟩
/-- what a suite knows of its exception: its class, its dict, where the family's __init__ stands -/
structure Caught (K : PySem.W.Frag) (cls : Value) (d : Option Addr) (i : Addr × Addr × Addr) : Prop where
  c : cls = .ref i.1
  e : d = some i.2.1
  x : ErrX K i.1 i.2.2
theorem Caught.z {K : PySem.W.Frag} {cls : Value} {d : Option Addr} {i : Addr × Addr × Addr} {oe : Obj} (h : Caught K cls d i) (hz : Zc cls d oe) : Zc (.ref i.1) (some i.2.1) oe := ⟨hz.1.trans h.c, hz.2.trans h.e⟩
/-! ### reading of calls -/
section
variable {K : PySem.W.Frag} {σ : L2.St} {H : Hp} {Q : VK} {D : Ends} {tl : TA} {te ta tb : TE} {a : Int} {v x : V} {n : Nat} {W : WX} {C : Addr}
theorem rd_called {sp : Sp} (h : tl σ H fun vs H1 => sp vs H1 Q E0) : tCalled sp tl σ H Q := h
theorem rd_calledR {sp : Sp} (h : tl σ H fun vs H1 => sp vs H1 Q fun c d H2 => W c d σ H2) : tCalledR sp W tl σ H Q := h
theorem rd_raised (h : tl σ H fun vs H1 => ∃ v, vs = [v] ∧ ∀ d, H1 d = none → W (.ref C) (some d) σ (upd H1 d (.xd [("what", v)]))) : tRaised C W tl D σ H := h
theorem rd_raised1 {P : V → Prop} (h : P v) : ∃ v', [v] = [v'] ∧ P v' := ⟨v, rfl, h⟩
theorem rd_int (h : Q (.int a) H) : cInt [.int a] H Q := .inl ⟨a, rfl, h⟩
theorem rd_abs (h : Q (.int (if a < 0 then -a else a)) H) : cAbs [.int a] H Q := ⟨a, rfl, h⟩
theorem rd_lenL {p : Addr} {xs : List V} (e : SqL K H p xs) (h : Q (.int (xs.length : Nat)) H) : cLen K [.ref p] H Q := .inl ⟨_, _, rfl, .inl ⟨xs, e, rfl⟩, h⟩
theorem rd_lenT {p : Addr} {xs : List V} (e : SqT K H p xs) (h : Q (.int (xs.length : Nat)) H) : cLen K [.ref p] H Q := .inl ⟨_, _, rfl, .inr ⟨xs, e, rfl⟩, h⟩
theorem rd_lenS {z : Str} (e : z.length ≤ sizeLine) (h : Q (.int (z.length : Nat)) H) : cLen K [.str z] H Q := .inl ⟨_, _, rfl, ⟨e, rfl⟩, h⟩
theorem rd_ixL {p : Addr} {xs : List V} (e : SqL K H p xs) (ha : atI xs a = some v) (h : Q v H) : rIx K (.ref p) (.int a) H Q := .inl ⟨p, xs, a, v, rfl, rfl, e, ha, h⟩
theorem rd_ixT {p : Addr} {xs : List V} (e : SqT K H p xs) (ha : atI xs a = some v) (h : Q v H) : rIx K (.ref p) (.int a) H Q := .inr (.inl ⟨p, xs, a, v, rfl, rfl, e, ha, h⟩)
theorem rd_ixS {z : Str} {c : Nat} (e : z.length ≤ sizeLine) (ha : atI z.cps.toList a = some c) (h : Q (.str ⟨#[c]⟩) H) : rIx K (.str z) (.int a) H Q := .inr (.inr ⟨z, a, c, rfl, rfl, e, ha, h⟩)
theorem rd_inS {c : Nat} {z : Str} (h : Q (.bl (decide (c ∈ z.cps.toList))) H) : oIn K (.str ⟨#[c]⟩) (.str z) H Q := .inl ⟨c, z, rfl, rfl, h⟩
theorem rd_niS {c : Nat} {z : Str} (h : Q (.bl (!decide (c ∈ z.cps.toList))) H) : oNotIn K (.str ⟨#[c]⟩) (.str z) H Q := .inl ⟨c, z, rfl, rfl, h⟩
theorem rd_rng1 {ta : TA} {R : It → Hp → Prop} (h : ta σ H fun vs H1 => ∃ j : Int, vs = [.int j] ∧ -(2 ^ 62) ≤ j ∧ j < 2 ^ 62 ∧ R (Itr 0 j.toNat) H1) : iRng1 ta σ H R := h
theorem rd_rng2 {ta : TA} {R : It → Hp → Prop} (h : ta σ H fun vs H1 => ∃ i j : Int, vs = [.int i, .int j] ∧ (-(2 ^ 62) ≤ i ∧ i < 2 ^ 62 ∧ -(2 ^ 62) ≤ j ∧ j < 2 ^ 62) ∧ R (Itr i (j - i).toNat) H1) : iRng2 ta σ H R := h
theorem rd_bm {T : String} {r : V → List V → Hp → VK → Prop} {to : TE} {t : TA} (h : to σ H fun x H1 => tyV K T x H1 ∧ t σ H1 fun xs H2 => r x xs H2 Q) : tBM K T r to t σ H Q := h
theorem rd_andV (h : ta σ H fun x H1 => ∃ c, x = .bl c ∧ if c = true then tb σ H1 Q else Q (.bl false) H1) : tAndV ta tb σ H Q := h
theorem rd_orV (h : ta σ H fun x H1 => ∃ c, x = .bl c ∧ if c = true then Q (.bl true) H1 else tb σ H1 Q) : tOrV ta tb σ H Q := h
theorem rd_sl {r : V → Option Int → Option Int → Hp → VK → Prop} {tl th : TO} (h : te σ H fun x H1 => tl σ H1 fun l H2 => th σ H2 fun u H3 => r x l u H3 Q) : tSl r te tl th σ H Q := h
theorem rd_noPart {Q : Option Int → Hp → Prop} (h : Q none H) : tNoPart σ H Q := h
theorem rd_part {Q : Option Int → Hp → Prop} (h : te σ H fun x H1 => ∃ i, x = .int i ∧ Q (some i) H1) : tPart te σ H Q := h
theorem rd_intv {P : Int → Prop} (h : P a) : ∃ i, V.int a = .int i ∧ P i := ⟨a, rfl, h⟩
theorem rd_slS {z : Str} {lo hi : Option Int} (e : z.length ≤ sizeLine) (h : Q (.str (cutS z lo hi)) H) : oSl K (.str z) lo hi H Q := .inr (.inl ⟨z, rfl, e, h⟩)
end

section
variable {CX : CXT} {P : Program} {w : World} {K : PySem.W.Frag} {mg : Str → Option Value} {base : Heap} {N : List Str} {q : Str} {sc : Scope} {f : Addr} {cdv : Value} {A : Around} {outer : List Env} {s : Shared} {H : Hp} {E : XK}
theorem cxK : (cxOf CX P w K mg base N q sc f cdv A outer s H E).nox.K = K := rfl
theorem cxK' : (cxOf CX P w K mg base N q sc f cdv A outer s H E).K = K := rfl
end

/-! ### loops and comprehensions -/
def forB (g : TG) (tb : TS) (D : Ends) (σ : L2.St) (J : It) (H : Hp) : Prop := tFor (fun _ H R => R J H) g tb D σ H
def lcB (g : TG) (tt : TT) (te : TE) (vs : List Nat) (σ : L2.St) (Q : VK) (J : It) (H : Hp) : Prop := tLc (fun _ H R => R J H) g tt te vs σ H Q
section
variable {K : PySem.W.Frag} {σ : L2.St} {H : Hp} {Q : VK} {D : Ends} {wi : TI} {g : TG} {tb : TS} {tt : TT} {te : TE} {vs : List Nat} {J : It} {n : Nat} {G : Hp → Prop} {Y : Nat → Hp → V → Hp → Prop} {R : It → Hp → Prop}
theorem rd_for (h : wi σ H (forB g tb D σ)) : tFor wi g tb D σ H := h
theorem rd_lc (h : wi σ H (lcB g tt te vs σ Q)) : tLc wi g tt te vs σ H Q := h
theorem fo_range {n : Nat} (Pv : Nat → L2.St → Hp → Prop) (h0 : Pv 0 σ H) (hs : ∀ (i : Nat) σ H, i < n → Pv i σ H → g (.int (i : Int)) σ H fun σ2 H2 => tb { D with nx := Pv (i + 1), ct := Pv (i + 1), bk := D.nx } σ2 H2) (hd : ∀ σ H, Pv n σ H → D.nx σ H) : forB g tb D σ (Itr 0 n) H :=
  for_range (lo := 0) Pv h0 (fun i σ H hi p => by rw [Int.zero_add]; exact hs i σ H hi p) hd
theorem fo_range2 {lo : Int} {n : Nat} (Pv : Nat → L2.St → Hp → Prop) (h0 : Pv 0 σ H) (hs : ∀ (i : Nat) σ H, i < n → Pv i σ H → g (.int (lo + (i : Int))) σ H fun σ2 H2 => tb { D with nx := Pv (i + 1), ct := Pv (i + 1), bk := D.nx } σ2 H2) (hd : ∀ σ H, Pv n σ H → D.nx σ H) : forB g tb D σ (Itr lo n) H :=
  for_range (lo := lo) Pv h0 hs hd
theorem fo_it (w : Walk J n G Y) (Pv : Nat → L2.St → Hp → Prop) (h0 : Pv 0 σ H) (hG : ∀ i σ H, i ≤ n → Pv i σ H → G H)
    (hs : ∀ i x σ H H', i < n → Pv i σ H → Y i H x H' → g x σ H' fun σ2 H2 => tb { D with nx := Pv (i + 1), ct := Pv (i + 1), bk := D.nx } σ2 H2) (hd : ∀ σ H, Pv n σ H → D.nx σ H) : forB g tb D σ J H := for_it w Pv h0 hG hs hd
/-- over a text -/
theorem fo_str {z : Str} (Pv : Nat → L2.St → Hp → Prop) (h0 : Pv 0 σ H) (hs : ∀ (i : Nat) c σ H, z.cps.toList[i]? = some c → Pv i σ H → g (.str ⟨#[c]⟩) σ H fun σ2 H2 => tb { D with nx := Pv (i + 1), ct := Pv (i + 1), bk := D.nx } σ2 H2) (hd : ∀ σ H, Pv z.length σ H → D.nx σ H) : forB g tb D σ (Its z) H :=
  fo_it walk_str Pv h0 (fun _ _ _ _ _ => True.intro) (fun i x σ H H' hi p y => by
    obtain ⟨rfl, c, e, rfl⟩ := y
    exact hs i c σ _ (by rw [Array.getElem?_toList]; exact e) p) hd
theorem fo_list {a : Addr} {xs : List V} (Pv : Nat → L2.St → Hp → Prop) (h0 : Pv 0 σ H) (hl : ∀ i σ H, i ≤ xs.length → Pv i σ H → SqL K H a xs) (hs : ∀ (i : Nat) x σ H, xs[i]? = some x → Pv i σ H → g x σ H fun σ2 H2 => tb { D with nx := Pv (i + 1), ct := Pv (i + 1), bk := D.nx } σ2 H2)
    (hd : ∀ σ H, Pv xs.length σ H → D.nx σ H) : forB g tb D σ (Itl K a) H := for_list Pv h0 hl hs hd
theorem fo_tup {a : Addr} {xs : List V} (Pv : Nat → L2.St → Hp → Prop) (h0 : Pv 0 σ H) (hl : ∀ i σ H, i ≤ xs.length → Pv i σ H → SqT K H a xs) (hs : ∀ (i : Nat) x σ H, xs[i]? = some x → Pv i σ H → g x σ H fun σ2 H2 => tb { D with nx := Pv (i + 1), ct := Pv (i + 1), bk := D.nx } σ2 H2)
    (hd : ∀ σ H, Pv xs.length σ H → D.nx σ H) : forB g tb D σ (Itt K a) H := for_tup Pv h0 hl hs hd
/-- what is walked -/
theorem rd_anyL {a : Addr} {xs : List V} {te : TE} (he : ∀ Q : VK, Q (.ref a) H → te σ H Q) (hs : SqL K H a xs) (h : R (Itl K a) H) : iAny K te σ H R := .inl (he _ ⟨a, rfl, ⟨xs, hs⟩, h⟩)
theorem rd_anyT {a : Addr} {xs : List V} {te : TE} (he : ∀ Q : VK, Q (.ref a) H → te σ H Q) (hs : SqT K H a xs) (h : R (Itt K a) H) : iAny K te σ H R := .inr (.inl (he _ ⟨a, rfl, ⟨xs, hs⟩, h⟩))
theorem rd_anyS {z : Str} {te : TE} (he : ∀ Q : VK, Q (.str z) H → te σ H Q) (h : R (Its z) H) : iAny K te σ H R := .inr (.inr (he _ ⟨z, rfl, h⟩))
/-- a comprehension whose parts leave the heap -/
theorem lc_pure {j : Nat} {xs : Nat → V} {f : Nat → Bool} {v : Nat → V} (w : Walk J n G Y) (hY : ∀ i H x H', i < n → Y i H x H' → H' = H ∧ x = xs i) (hG : ∀ Hc, Ex H Hc → G Hc) (hn : n < 100000)
    (ht : ∀ i Hc, i < n → Ex H Hc → Ans tt ((wipe σ [j]).set j (some (xs i))) Hc (f i)) (he : ∀ i Hc, i < n → Ex H Hc → f i = true → Val te ((wipe σ [j]).set j (some (xs i))) Hc (v i))
    (h : ∀ L, H L = none → Q (.ref L) (upd H L (.lst (Evl.given n f v)))) : lcB (gName j) tt te [j] σ Q J H := by
  intro L hL
  have hz : ∀ m, m ≤ n → (Evl.given m f v).length < sizeLine := fun m hm => Nat.lt_of_le_of_lt (Evl.given_len m f v) (Nat.lt_of_le_of_lt hm (Nat.lt_trans hn (by decide)))
  refine lc_it w (fun i Hc => i ≤ n ∧ Hc = upd H L (.lst (Evl.given i f v))) ⟨Nat.zero_le _, rfl⟩ (fun i Hc _ p => ?_) (fun i x Hc H' hi p y => ?_) fun Hc p => ?_
  · obtain ⟨_, rfl⟩ := p
    exact hG _ (Evl.Ex.new hL)
  · obtain ⟨hi1, rfl⟩ := p
    obtain ⟨rfl, rfl⟩ := hY _ _ _ _ hi y
    have e0 := Evl.Ex.new (o := .lst (Evl.given i f v)) hL
    refine ⟨by simp [wipe], ?_⟩
    refine ht i _ hi e0 _ ?_
    cases hf : f i with
    | true =>
      refine rd_iteT ?_
      refine he i _ hi e0 hf _ ?_
      refine ⟨_, upd_same, hz i (Nat.le_of_lt hi), hi, ?_⟩
      rw [upd_upd, Evl.given_yes hf]
    | false =>
      refine rd_iteF ⟨hi, ?_⟩
      rw [Evl.given_no hf]
  · obtain ⟨_, rfl⟩ := p
    exact h L hL
theorem rd_yes {QB : Bool → Hp → Prop} (h : QB true H) : tYes σ H QB := h
theorem ans_yes : Ans tYes σ H true := fun _ q => q
end
/-- the list that is given -/
theorem given_eq {α : Type} (l : List α) (p : α → Bool) (f : α → V) (q : Nat → Bool) (v : Nat → V) (hq : ∀ i x, l[i]? = some x → q i = p x) (hv : ∀ i x, l[i]? = some x → v i = f x) : ∀ n, n ≤ l.length → Evl.given n q v = ((l.take n).filter p).map f
  | 0, _ => rfl
  | n + 1, h => by
    have hx : l[n]? = some (l[n]'h) := List.getElem?_eq_getElem h
    have ih := given_eq l p f q v hq hv n (Nat.le_of_lt h)
    rw [List.take_succ, hx]
    cases e : p (l[n]'h) with
    | true =>
      rw [Evl.given_yes ((hq _ _ hx).trans e), ih, List.filter_append, List.map_append, hv _ _ hx]
      simp [e]
    | false =>
      rw [Evl.given_no ((hq _ _ hx).trans e), ih, List.filter_append, List.map_append]
      simp [e]

theorem rd_gsub {to ti : TE} {t : TSet} {v : V} {σ : L2.St} {H : Hp} {Q : L2.St → Hp → Prop} (h : to σ H fun o H1 => ti σ H1 fun i H2 => t o i v H2 fun H3 => Q σ H3) : gSub to ti t v σ H Q := h
theorem rd_while {tt : TT} {tb : TS} {D : Ends} {σ : L2.St} {H : Hp} (Pv : L2.St → Hp → Prop) (μ : L2.St → Hp → Nat) (h0 : Pv σ H)
    (hs : ∀ σ H, Pv σ H → tt σ H fun b H1 => if b = true then tb { D with nx := fun σ' H' => Pv σ' H' ∧ μ σ' H' < μ σ H, ct := fun σ' H' => Pv σ' H' ∧ μ σ' H' < μ σ H, bk := D.nx } σ H1 else D.nx σ H1)
    (mono : ∀ σ H Q Q', (∀ b H1, Q b H1 → Q' b H1) → tt σ H Q → tt σ H Q') : tWhile tt tb D σ H := while_by Pv μ h0 hs mono

/-! ### the same, the written part named -/
section
variable {X : Cx} (K : PySem.W.Frag) (hK : X.K = K := by rfl)
include hK
theorem kAdd : OpR X (binaryOp .Add) (oAdd K) := hK ▸ op_addP
theorem kEq (hu : X.A.units + 64 < cLine) : OpR X (compareOp .Eq) (oEq K) := hK ▸ op_eqP hu
theorem kNe (hu : X.A.units + 64 < cLine) : OpR X (compareOp .NotEq) (oNe K) := hK ▸ op_neP hu
theorem kIn : OpR X (compareOp .In) (oIn K) := hK ▸ op_inP
theorem kNotIn : OpR X (compareOp .NotIn) (oNotIn K) := hK ▸ op_notInP
theorem kLen : CallR X (.builtin "len") (cLen K) := hK ▸ call_lenP
theorem kSl : SlR X (oSl K) := hK ▸ sl_P
theorem kIx : IxR X (rIx K) := hK ▸ ix_seq
theorem kAny {tg e : Expr} {te : TE} (he : PE X e te) : PI X tg e (iAny K te) := hK ▸ pi_any he
theorem kAll (hc : X.calm = true := by rfl) : CallR X (.builtin "all") (rAll K) := hK ▸ cr_all hc
theorem kAnyOf (hc : X.calm = true := by rfl) : CallR X (.builtin "any") (rAny K) := hK ▸ cr_any hc
theorem kSum (hc : X.calm = true := by rfl) : CallR X (.builtin "sum") (rSum K) := hK ▸ cr_sum hc
end
section
variable {X : Cx} {x : Str} {pos : Pos}
theorem pe_globS {s : Str} {t : Tok} (hg : Gl X x) (hm : X.mg x = some (.str s t)) (hd : (x == ("__debug__" : Str)) = false := by decide) : PE X (.Name x pos) (tC (.str s)) := pe_glob hg hm ⟨t, rfl⟩ hd
theorem pe_globI {i : Int} {t : Tok} (hg : Gl X x) (hm : X.mg x = some (.int i t)) (hd : (x == ("__debug__" : Str)) = false := by decide) : PE X (.Name x pos) (tC (.int i)) := pe_glob hg hm ⟨t, rfl⟩ hd
theorem pe_globR {a : Addr} (hg : Gl X x) (hm : X.mg x = some (.ref a)) (hd : (x == ("__debug__" : Str)) = false := by decide) : PE X (.Name x pos) (tC (.ref a)) := pe_glob (v := .ref a) hg hm rfl hd
end

theorem rd_iteNF {A B : Prop} (h : A) : if (!false) = true then A else B := iteT h
theorem rd_iteNT {A B : Prop} (h : B) : if (!true) = true then A else B := iteF h

section
variable {X : Cx} {x : Str} {pos : Pos}
theorem pe_blT {n : String} (hg : Gl X x) (hm : X.mg x = none) (hv : bootBuiltins x = some (.type n)) (hn : x ≠ "__name__" := by decide) (hd : (x == ("__debug__" : Str)) = false := by decide) : PE X (.Name x pos) (tC (.ty n)) := pe_bltn (v := .ty n) hg hm hv rfl hn hd
end
/-! ### lists of flat values compared -/
def okS (z : Str) : Prop := PyData.strOk z = true
theorem okS_iff {z : Str} : okS z ↔ ∀ c ∈ z.cps.toList, c < 0x110000 := by
  unfold okS PyData.strOk
  rw [← Array.all_toList, List.all_eq_true]
  exact ⟨fun h c hc => by simpa using h c hc, fun h c hc => by simpa using h c hc⟩
theorem okS_app {x y : Str} (hx : okS x) (hy : okS y) : okS (x ++ y) := okS_iff.mpr fun c hc => by
  have e : (x ++ y).cps.toList = x.cps.toList ++ y.cps.toList := TL.tl_append x y
  rw [e] at hc
  exact (List.mem_append.mp hc).elim (okS_iff.mp hx c) (okS_iff.mp hy c)
theorem okS_one {z : Str} {c : Nat} (hz : okS z) (hc : c ∈ z.cps.toList) : okS ⟨#[c]⟩ := okS_iff.mpr fun d hd => by
  have e : d = c := by simpa using hd
  rw [e]
  exact okS_iff.mp hz c hc
theorem okS_sub {x y : Str} (hy : okS y) (h : ∀ c ∈ x.cps.toList, c ∈ y.cps.toList) : okS x := okS_iff.mpr fun c hc => okS_iff.mp hy c (h c hc)
def dOf : V → PyData
  | .bl b => .bool b
  | .int i => .int i
  | .str x => .str x
  | _ => .none
def flat1 : V → Bool
  | .non => true
  | .bl _ => true
  | .int _ => true
  | .str x => PyData.strOk x
  | _ => false
theorem dp_flat {K : PySem.W.Frag} {H : Hp} {v : V} (h : flat1 v = true) : Dp K H v (dOf v) := by
  cases v with
  | non => exact .non
  | bl b => exact .bl b
  | int i => exact .int i
  | str x => exact .str x
  | byt _ => exact absurd h Bool.false_ne_true
  | flt _ => exact absurd h Bool.false_ne_true
  | ref _ => exact absurd h Bool.false_ne_true
  | ty _ => exact absurd h Bool.false_ne_true
theorem lay_flat {v : V} (h : flat1 v = true) : (dOf v).canLay0 = true ∧ (dOf v).depth = 0 := by
  cases v with
  | str x => exact ⟨h, rfl⟩
  | _ => exact ⟨rfl, rfl⟩
theorem dpAll_flat {K : PySem.W.Frag} {H : Hp} : ∀ {xs : List V}, xs.all flat1 = true → DpAll K H xs (xs.map dOf)
  | [], _ => .nil
  | v :: xs, h => by
    rw [List.all_cons, Bool.and_eq_true] at h
    exact .cons (dp_flat h.1) (dpAll_flat h.2)
theorem lay_all : ∀ {xs : List V}, xs.all flat1 = true → PyData.canLayAll0 (xs.map dOf) = true ∧ PyData.depthAll (xs.map dOf) = 0
  | [], _ => ⟨rfl, rfl⟩
  | v :: xs, h => by
    rw [List.all_cons, Bool.and_eq_true] at h
    obtain ⟨h1, h2⟩ := lay_flat h.1
    obtain ⟨h3, h4⟩ := lay_all h.2
    refine ⟨?_, ?_⟩
    · show ((dOf v).canLay0 && PyData.canLayAll0 (xs.map dOf)) = true
      rw [h1, h3]
      rfl
    · show max (dOf v).depth (PyData.depthAll (xs.map dOf)) = 0
      rw [h2, h4]
      rfl
theorem shaped_list {xs : List V} (h : xs.all flat1 = true) : SeqAt.shaped (.list (xs.map dOf)) = true := by
  obtain ⟨h1, h2⟩ := lay_all h
  refine Bool.and_eq_true_iff.mpr ⟨h1, decide_eq_true ?_⟩
  show PyData.depthAll (xs.map dOf) + 1 ≤ 64
  rw [h2]
  decide
theorem refl_list {xs : List V} (h : xs.all flat1 = true) : PyData.eqv (.list (xs.map dOf)) (.list (xs.map dOf)) = true := SeqAt.eqv_refl _ (lay_all h).1
section
variable {K : PySem.W.Frag} {p q : Addr} {xs : List V} {H : Hp} {Q : VK}
theorem rd_neL (hp : SqL K H p xs) (hq : SqL K H q xs) (hf : xs.all flat1 = true) (h : Q (.bl false) H) : oNe K (.ref p) (.ref q) H Q :=
  .inr ⟨_, _, .lst hp (dpAll_flat hf), .lst hq (dpAll_flat hf), shaped_list hf, shaped_list hf, by rw [refl_list hf]; exact h⟩
theorem rd_eqL (hp : SqL K H p xs) (hq : SqL K H q xs) (hf : xs.all flat1 = true) (h : Q (.bl true) H) : oEq K (.ref p) (.ref q) H Q :=
  .inr ⟨_, _, .lst hp (dpAll_flat hf), .lst hq (dpAll_flat hf), shaped_list hf, shaped_list hf, by rw [refl_list hf]; exact h⟩
theorem rd_eqNil (hp : SqL K H p xs) (hq : SqL K H q []) (hf : xs.all flat1 = true) (h : Q (.bl xs.isEmpty) H) : oEq K (.ref p) (.ref q) H Q :=
  .inr ⟨_, .list [], .lst hp (dpAll_flat hf), .lst hq .nil, shaped_list hf, rfl, by
    cases xs with
    | nil => exact h
    | cons a r => exact h⟩
end
theorem rd_reprB {b : Bool} {H : Hp} {Q : VK} (h : Q (.str (if b then "True" else "False")) H) : cRepr [.bl b] H Q := .inr ⟨b, rfl, h⟩

section
variable {σ : L2.St} {H : Hp} {Q : VK} {D : Ends} {t u : TS} {te ta tb : TE} {g : TG} {a b : Bool}
theorem rd_seqA (h : tAsg te g { D with nx := u D } σ H) : tSeq (tAsg te g) u D σ H := h
theorem rd_seqD (h : tDrop te { D with nx := u D } σ H) : tSeq (tDrop te) u D σ H := h
/-- a statement, then the rest: R is what holds between -/
theorem rd_cut (R : L2.St → Hp → Prop) (h1 : ∀ N : L2.St → Hp → Prop, (∀ σ H, R σ H → N σ H) → t { D with nx := N } σ H) (h2 : ∀ σ H, R σ H → u D σ H) : tSeq t u D σ H := h1 (u D) h2
theorem val_andV (h1 : Val ta σ H (.bl a)) (h2 : a = true → Val tb σ H (.bl b)) : Val (tAndV ta tb) σ H (.bl (a && b)) := fun Q q => h1 _ ⟨a, rfl, by
  cases a with
  | true => exact iteT (h2 rfl _ q)
  | false => exact iteF q⟩
theorem val_orV (h1 : Val ta σ H (.bl a)) (h2 : a = false → Val tb σ H (.bl b)) : Val (tOrV ta tb) σ H (.bl (a || b)) := fun Q q => h1 _ ⟨a, rfl, by
  cases a with
  | true => exact iteT q
  | false => exact iteF (h2 rfl _ q)⟩
theorem val_is {v w : V} (h : Val te σ H v) (e : v = w) : Val te σ H w := e ▸ h
theorem rd_val {v : V} (h : Val te σ H v) (q : Q v H) : te σ H Q := h Q q
end

theorem rd_idS {t u : TS} {D : Ends} {σ : L2.St} {H : Hp} (h : tSeq t u D σ H) : tSeq t u D σ H := h
theorem rd_idI {c : TT} {t u : TS} {D : Ends} {σ : L2.St} {H : Hp} (h : tIfS c t u D σ H) : tIfS c t u D σ H := h
end AT

set_option Elab.async false
set_option linter.all false
set_option maxRecDepth 100000
set_option maxHeartbeats 4000000
/-! own words, second part: objects that are made and asked where something may be raised; data; tuples -/
namespace AT
open PySem PySem.Spec L2
section
variable {X : Cx} {Cx1 : CXT} {n : Nat} {fa Ca : Addr} {fn : FuncData} {pr : List Str} {pm : Sp} {W : WX} {nm mt : Str} {q1 q2 q3 : Pos} {o a0 : Expr} {as : List Expr} {to : TE} {ta : TA}
/-- C(..) whose __init__ may raise -/
def tMakeR (C : Addr) (sp : Sp) (W : WX) (t : TA) : TE := fun σ H Q => t σ H fun vs H1 => ∀ x dx, H1 x = none → H1 dx = none → dx ≠ x → sp (.ref x :: vs) (upd (upd H1 dx (.own x)) x (.ins C dx [])) (fun v H2 => v = .non ∧ Q (.ref x) H2) fun c d H2 => W c d σ H2
theorem pe_makeR (M : Mk X.K Ca fa) (G : FnOk X.prog X.w X.K X.mg X.base (L2.CX X.prog X.w) n fa fn pr pm) (hr : Room (n + 1) X.A) (hm : X.mg nm = some (.ref Ca)) (hb : Binds X.K fn pr []) (tk : Takes X W) (ha : PA X (a0 :: as) ta) (hg : Gl X nm := by rfl)
    (hdb : (nm == ("__debug__" : Str)) = false := by decide) (he : starEach (a0 :: as) X.env = (false, eval a0 X.env) :: starEach as X.env := by rfl) (hpl : (backTo q2 (starEach as X.env)).any (·.1) = false := by rfl) :
    PE X (.Call (.Name nm q1) (a0 :: as) [] q2) (tMakeR Ca pm W ta) := by
  refine ⟨fun P s σ H Q I h => wpAny_Call_Name_kw (ld_glob I hg hm ?_ hdb)⟩
  refine PySem.W.callWith_K (h₀ := X.base) I.ok.mod.kin M.kp (thn (ha.run q2 P s σ H _ I h) fun us t ⟨vs, H1, J, rv, q⟩ => ⟨J.kIn, ?_⟩) he hpl
  have fresh1 := J.hok.fresh (Nat.le_succ t.heap.objs.size)
  have fresh0 := J.hok.fresh (Nat.le_refl t.heap.objs.size)
  have asked := q _ _ fresh1 fresh0 (Nat.ne_of_lt (Nat.lt_succ_self _))
  have J2 := Inv.made (C := Ca) J
  have rel : Vals (V.ref (t.heap.objs.size + 1) :: vs) (Value.ref (t.heap.objs.size + 1) :: us) := .cons rfl rv
  have len : (Value.ref (t.heap.objs.size + 1) :: us ++ []).length = pr.length := by
    rw [List.append_nil, ← rel.length]
    exact G.len _ _ _ _ asked
  have bind := hb _ (Value.ref (t.heap.objs.size + 1) :: us) J2.kIn len
  rw [List.append_nil] at bind
  have ran := G.run _ X.stack _ _ ⟨Value.ref (t.heap.objs.size + 1) :: us, []⟩ _ _ _ (fun c d H2 => W c d σ H2) (hr.make Ca us []) (J2.env0.make Ca us []) bind rel asked
  refine wpAny_call (make_map (f := fa) J.kIn M.makes M.init (beq_iff_eq.mp M.fn) (codeAny_mono ran fun res z hz => ?_))
  cases res with
  | error er => exact passAt tk σ _ _ _ _ _ J2 hz
  | ok fl =>
    cases fl with
    | ret u =>
      have back := J2.after hz
      obtain ⟨v, H3, J3, r3, e3, q3⟩ := back
      subst e3
      exact ⟨r3, .ref (t.heap.objs.size + 1), H3, J3, rfl, q3⟩
    | next => exact hz.elim
    | brk => exact hz.elim
    | cont => exact hz.elim
/-- o.m(..) whose m may raise -/
def tMethR (C : Addr) (m : Str) (sp : Sp) (W : WX) (to : TE) (t : TA) : TE := fun σ H Q => to σ H fun x H1 => ∃ a dx fs, x = .ref a ∧ H1 a = some (.ins C dx fs) ∧ fs.lookup m = none ∧ t σ H1 fun vs H2 => sp (x :: vs) H2 Q fun c d H3 => W c d σ H3
theorem pe_methRs {pl : Sem Bool} (hmt : Meth X.K Ca mt fa) (cl : Cls X.K Ca) (ho : PE X o to) (G : FnOk X.prog X.w X.K X.mg X.base (L2.CX X.prog X.w) n fa fn pr pm) (hr : Room n X.A) (hb : Binds X.K fn pr []) (tk : Takes X W) (ha : PA X (a0 :: as) ta)
    (hst : starEach (a0 :: as) X.env = (false, eval a0 X.env) :: starEach as X.env := by rfl) (hpl : (backTo q2 (starEach as X.env)).any (·.1) = false := by rfl)
    (ht : eval (.Call (.Attribute o mt q3) (a0 :: as) [] q2) X.env = (do
      let r ← eval o X.env
      standAt q3.atName
      let (g, more) ← holding [r] (getMethod r mt pl)
      callWith q2 g more (backTo q2 (starEach (a0 :: as) X.env)) (backToKw q2 (keywordEach [] X.env))) := by rfl) : PE X (.Call (.Attribute o mt q3) (a0 :: as) [] q2) (tMethR Ca mt pm W to ta) := by
  refine ⟨fun P s σ H Q I h => PySem.W.methodCall_KW (pl := pl) (thn (ho.run P s σ H _ I h) fun u t ⟨x, H1, J, rx, a, dx, fs, ex, ea, nl, q⟩ => ?_) ht⟩
  subst ex
  obtain rfl : u = Value.ref a := rx
  refine getmeth_ok J ea cl hmt nl (PySem.W.callWith_K (first := [.ref a]) (h₀ := X.base) J.ok.mod.kin hmt.kp (thn (ha.run q2 P t σ H1 _ J q) fun us t2 ⟨vs, H2, J2, rv, z⟩ => ⟨J2.kIn, ?_⟩) hst hpl)
  exact run_fnS (us := .ref a :: us) (vs := .ref a :: vs) (E := WE W) G hr hb (passAt tk σ) J2 (.cons rfl rv) z
theorem pe_methR0 {pl : Sem Bool} (hmt : Meth X.K Ca mt fa) (cl : Cls X.K Ca) (ho : PE X o to) (G : FnOk X.prog X.w X.K X.mg X.base (L2.CX X.prog X.w) n fa fn pr pm) (hr : Room n X.A) (hb : Binds X.K fn pr []) (tk : Takes X W)
    (ht : eval (.Call (.Attribute o mt q3) [] [] q2) X.env = (do
      let r ← eval o X.env
      standAt q3.atName
      let (g, more) ← holding [r] (getMethod r mt pl)
      callWith q2 g more (backTo q2 (starEach [] X.env)) (backToKw q2 (keywordEach [] X.env))) := by rfl) : PE X (.Call (.Attribute o mt q3) [] [] q2) (tMethR Ca mt pm W to tNil) := by
  refine ⟨fun P s σ H Q I h => PySem.W.methodCall_KW (pl := pl) (thn (ho.run P s σ H _ I h) fun u t ⟨x, H1, J, rx, a, dx, fs, ex, ea, nl, q⟩ => ?_) ht⟩
  subst ex
  obtain rfl : u = Value.ref a := rx
  refine getmeth_ok J ea cl hmt nl ?_
  exact PySem.W.callWith_K0 (first := [.ref a]) J.kIn hmt.kp (run_fnS (us := [.ref a]) (vs := [.ref a]) (E := WE W) G hr hb (passAt tk σ) J (.cons rfl .nil) q)
end

/-! ### the place of a sign in a text -/
section
open PySem.Builtin.Str PySem.StrLaws
theorem first_sign (x : Str) (c : Nat) (h : c ∈ x.cps.toList) : ∃ rest, occurrences x ⟨#[c]⟩ 0 x.length 1 = x.cps.toList.idxOf c :: rest := by
  have key := occ_first x ⟨#[c]⟩ x.length 1 (Nat.le_refl 1) (List.range' 0 (x.length + 1 - 0)) 0 fun _ _ => Nat.zero_le _
  rw [occ_eq]
  have sub := fun k => subAt_one x c k
  rcases key with ⟨_, hn⟩ | ⟨pre, i, post, e, h0, hi, hn⟩
  · obtain ⟨j, hj⟩ := List.getElem?_of_mem h
    have hlt : j < x.length := (List.getElem?_eq_some_iff.mp hj).1
    exact absurd ((sub j).mpr hj) (hn j (List.mem_range'.mpr ⟨j, by omega, by omega⟩))
  · have hx := (sub i).mp hi
    have before : ∀ k, k < i → x.cps.toList[k]? ≠ some c := fun k hk q => hn k (range'_split e k hk) ((sub k).mpr q)
    obtain ⟨hl, hv⟩ := List.getElem?_eq_some_iff.mp hx
    have e2 : x.cps.toList.idxOf c = i := by
      have hlt : x.cps.toList.idxOf c < x.cps.toList.length := List.idxOf_lt_length_iff.mpr h
      have hget : x.cps.toList[x.cps.toList.idxOf c] = c := List.getElem_idxOf hlt
      rcases Nat.lt_trichotomy (x.cps.toList.idxOf c) i with z | z | z
      · exact absurd (List.getElem?_eq_some_iff.mpr ⟨hlt, hget⟩) (before _ z)
      · exact z
      · exact absurd hv (by
          have := List.not_of_lt_findIdx (p := (· == c)) (xs := x.cps.toList) z
          simpa using this)
    rw [e2]
    generalize hg : (forIn (List.range' 0 (x.length + 1 - 0)) ((#[] : Array Nat), 0) (occBody x ⟨#[c]⟩ x.length 1)).run.fst = arr at h0
    cases hl : arr.toList with
    | nil =>
      rw [← Array.getElem?_toList, hl] at h0
      cases h0
    | cons a r =>
      rw [← Array.getElem?_toList, hl] at h0
      exact ⟨r, by rw [Option.some.inj (show some a = some i from h0)]⟩
end
def mIdx : V → List V → Hp → VK → Prop := fun x xs H Q => ∃ (a : Str) (c : Nat), x = .str a ∧ xs = [.str ⟨#[c]⟩] ∧ c ∈ a.cps.toList ∧ Q (.int (a.cps.toList.idxOf c : Nat)) H
section
variable {X : Cx}
theorem mt_strIdx : MtR X "str.index" mIdx := by
  intro P s σ H x xs v us Q I rx rs h
  obtain ⟨a, c, ex, es, hc, q⟩ := h
  obtain ⟨rest, e⟩ := first_sign a c hc
  exact mt_sindex P s σ H x xs v us Q I rx rs ⟨a, _, _, rest, ex, es, e, q⟩
/-! ### the least and the greatest of a tuple of ints -/
theorem reads_ints {hp : Heap} : ∀ {ns : List Int} {us : List Value}, Vals (ns.map V.int) us → ReadsAll hp us (ns.map PyData.int) []
  | [], _, r => by cases r; exact .nil
  | n :: ns, _, r => by
    cases r with
    | cons r1 r2 =>
      obtain ⟨t, rfl⟩ := r1
      exact ReadsAll.cons (as := []) (bs := []) (.int n t) (reads_ints r2)
theorem alike_ints (ns : List Int) : PySem.W.AlikeAll (ns.map PyData.int) := ⟨fun x hx y hy => by
  obtain ⟨a, _, rfl⟩ := List.mem_map.mp hx
  obtain ⟨b, _, rfl⟩ := List.mem_map.mp hy
  rfl, fun x hx => by
  obtain ⟨a, _, rfl⟩ := List.mem_map.mp hx
  exact fun z => by cases z⟩
theorem depth_ints : ∀ ns : List Int, PyData.depthAll (ns.map PyData.int) = 0
  | [] => rfl
  | n :: ns => by
    show max 0 (PyData.depthAll (ns.map PyData.int)) = 0
    rw [depth_ints ns]
    rfl
/-- min(t), max(t): t a tuple of ints, not empty -/
def cMinT (K : PySem.W.Frag) : List V → Hp → VK → Prop := fun vs H Q => ∃ (a : Addr) (n : Int) (ns : List Int), vs = [.ref a] ∧ SqT K H a ((n :: ns).map V.int) ∧ Q (.int (ns.foldl min n)) H
def cMaxT (K : PySem.W.Frag) : List V → Hp → VK → Prop := fun vs H Q => ∃ (a : Addr) (n : Int) (ns : List Int), vs = [.ref a] ∧ SqT K H a ((n :: ns).map V.int) ∧ Q (.int (ns.foldl max n)) H
theorem call_minT (hc : X.calm = true) (hu : X.A.units + 64 < cLine) : CallR X (.builtin "min") (cMinT X.K) := by
  intro P s σ H vs us Q I r h
  obtain ⟨a, n, ns, rfl, ht, q⟩ := h
  obtain ⟨u, rfl, ru⟩ := vals1 r
  cases (show u = Value.ref a from ru)
  obtain ⟨its, rv, pl, _⟩ := I.tuple ht
  refine PySem.W.min_tuple_data (x := .int n) (xs := ns.map .int) (I.ok.hd hc) pl (reads_ints (ns := n :: ns) rv) (alike_ints (n :: ns)) (by
    have e := depth_ints (n :: ns)
    rw [List.map_cons] at e
    rw [e]
    omega) fun i v h' tk bs hv hr hk => ?_
  rw [PySem.W.minD_ints] at hr
  cases hr with
  | int _ t => exact ⟨.int _, H, I.kept hk, ⟨t, rfl⟩, q⟩
theorem call_maxT (hc : X.calm = true) (hu : X.A.units + 64 < cLine) : CallR X (.builtin "max") (cMaxT X.K) := by
  intro P s σ H vs us Q I r h
  obtain ⟨a, n, ns, rfl, ht, q⟩ := h
  obtain ⟨u, rfl, ru⟩ := vals1 r
  cases (show u = Value.ref a from ru)
  obtain ⟨its, rv, pl, _⟩ := I.tuple ht
  refine PySem.W.max_tuple_data (x := .int n) (xs := ns.map .int) (I.ok.hd hc) pl (reads_ints (ns := n :: ns) rv) (alike_ints (n :: ns)) (by
    have e := depth_ints (n :: ns)
    rw [List.map_cons] at e
    rw [e]
    omega) fun i v h' tk bs hv hr hk => ?_
  rw [PySem.W.maxD_ints] at hr
  cases hr with
  | int _ t => exact ⟨.int _, H, I.kept hk, ⟨t, rfl⟩, q⟩
end

section
variable {X : Cx} (K : PySem.W.Frag) (hK : X.K = K := by rfl)
include hK
theorem kMin (hu : X.A.units + 64 < cLine) (hc : X.calm = true := by rfl) : CallR X (.builtin "min") (cMinT K) := hK ▸ call_minT hc hu
theorem kMax (hu : X.A.units + 64 < cLine) (hc : X.calm = true := by rfl) : CallR X (.builtin "max") (cMaxT K) := hK ▸ call_maxT hc hu
theorem kFld {o : Expr} {f : Str} {p : Pos} {te : TE} (h : PE X (.Attribute o f p) (tFld X.K te f)) : PE X (.Attribute o f p) (tFld K te f) := hK ▸ h
theorem kBm {e : Expr} {T : String} {r : V → List V → Hp → VK → Prop} {to : TE} {t : TA} (h : PE X e (tBM X.K T r to t)) : PE X e (tBM K T r to t) := hK ▸ h
theorem kBm0 {e : Expr} {T : String} {r : V → List V → Hp → VK → Prop} {to : TE} (h : PE X e (tBM0 X.K T r to)) : PE X e (tBM0 K T r to) := hK ▸ h
def cTupOf (K : PySem.W.Frag) : List V → Hp → VK → Prop := fun xs H Q => ∃ p ys, xs = [.ref p] ∧ ((SqL K H p ys ∧ ∀ l, H l = none → Q (.ref l) (upd H l (.tup ys))) ∨ (SqT K H p ys ∧ Q (.ref p) H))
def cLstOf (K : PySem.W.Frag) : List V → Hp → VK → Prop := fun xs H Q => ∃ p ys, xs = [.ref p] ∧ (SqL K H p ys ∨ SqT K H p ys) ∧ ∀ l, H l = none → Q (.ref l) (upd H l (.lst ys))
def mJoin (K : PySem.W.Frag) : V → List V → Hp → VK → Prop := fun x xs H Q => ∃ a p, ∃ ys : List Str, x = .str a ∧ xs = [.ref p] ∧ (SqL K H p (ys.map V.str) ∨ SqT K H p (ys.map V.str)) ∧ (ys.map (·.length)).sum + ys.length * a.length ≤ 16777216 ∧ Q (.str (Txt.join a ys)) H
theorem kTupOf : CallR X (.type "tuple") (cTupOf K) := hK ▸ call_tuple_of
theorem kLstOf : CallR X (.type "list") (cLstOf K) := hK ▸ call_list_of
theorem kJoin : MtR X "str.join" (mJoin K) := hK ▸ mt_join
end
/-! ### a text, several times -/
def oMulP : R2 := fun x y H Q => oMul x y H Q ∨ ∃ (z : Str) (n : Int), x = .str z ∧ y = .int n ∧ MulOk z n ∧ Q (.str (Txt.mul z n)) H
theorem op_mulS {X : Cx} : OpR X (binaryOp .Mult) (fun x y H Q => ∃ (z : Str) (n : Int), x = .str z ∧ y = .int n ∧ MulOk z n ∧ Q (.str (Txt.mul z n)) H) := by
  intro P s σ H x y v u Q I rx ry h
  obtain ⟨z, n, rfl, rfl, ok, q⟩ := h
  obtain ⟨t, rfl⟩ := rx
  obtain ⟨t2, rfl⟩ := ry
  exact PySem.SB.mul ok fun t' k => ⟨.str _, H, I.tok _, ⟨t', rfl⟩, q⟩
theorem op_mulPP {X : Cx} : OpR X (binaryOp .Mult) oMulP := OpR.or op_mulP op_mulS
section
variable {K : PySem.W.Frag} {σ : L2.St} {H : Hp} {Q : VK} {D : Ends} {te tv : TE} {f : Str} {a C dx : Addr} {fs : List (Str × V)} {v : V} {t : TA} {sp : Sp} {W : WX}
theorem rd_fld (h : te σ H fun x H1 => ∃ a C dx fs v, x = .ref a ∧ H1 a = some (.ins C dx fs) ∧ Cls K C ∧ NoAttr K C f ∧ fs.lookup f = some v ∧ Q v H1) : tFld K te f σ H Q := h
theorem rd_fldv {P : Addr → Prop} : True := True.intro
theorem rd_mulN {x y : Int} (c : CMul x y) (h : Q (.int (x * y)) H) : oMulP (.int x) (.int y) H Q := .inl ⟨x, y, rfl, rfl, c, h⟩
theorem rd_mulT {z : Str} {n : Int} (c : MulOk z n) (h : Q (.str (Txt.mul z n)) H) : oMulP (.str z) (.int n) H Q := .inr ⟨z, n, rfl, rfl, c, h⟩
theorem rd_tupL {p : Addr} {ys : List V} (e : SqL K H p ys) (h : ∀ l, H l = none → Q (.ref l) (upd H l (.tup ys))) : cTupOf K [.ref p] H Q := ⟨p, ys, rfl, .inl ⟨e, h⟩⟩
theorem rd_tupT {p : Addr} {ys : List V} (e : SqT K H p ys) (h : Q (.ref p) H) : cTupOf K [.ref p] H Q := ⟨p, ys, rfl, .inr ⟨e, h⟩⟩
theorem rd_lstL {p : Addr} {ys : List V} (e : SqL K H p ys ∨ SqT K H p ys) (h : ∀ l, H l = none → Q (.ref l) (upd H l (.lst ys))) : cLstOf K [.ref p] H Q := ⟨p, ys, rfl, e, h⟩
theorem rd_idx {z : Str} {c : Nat} (hc : c ∈ z.cps.toList) (h : Q (.int (z.cps.toList.idxOf c : Nat)) H) : mIdx (.str z) [.str ⟨#[c]⟩] H Q := ⟨z, c, rfl, rfl, hc, h⟩
end

/-! ### comprehensions whose parts change the heap: P of the new list's place, the turn, what is in it, the heap -/
theorem lc_gen {J : It} {n j : Nat} {G : Hp → Prop} {Y : Nat → Hp → V → Hp → Prop} {xs : Nat → V} {σ : L2.St} {H : Hp} {Q : VK} {te : TE} (P : Addr → Nat → List V → Hp → Prop) (w : Walk J n G Y) (hY : ∀ i H x H', i < n → Y i H x H' → H' = H ∧ x = xs i) (hn : n < 100000)
    (h0 : ∀ L, H L = none → P L 0 [] (upd H L (.lst []))) (hG : ∀ L i vs Hc, H L = none → P L i vs Hc → G Hc)
    (he : ∀ L i vs Hc, i < n → H L = none → Hc L = some (.lst vs) → vs.length = i → P L i vs Hc → ∀ N : VK, (∀ v H2, H2 L = some (.lst vs) → P L (i + 1) (vs ++ [v]) (upd H2 L (.lst (vs ++ [v]))) → N v H2) → te ((wipe σ [j]).set j (some (xs i))) Hc N)
    (h : ∀ L vs Hc, H L = none → Hc L = some (.lst vs) → vs.length = n → P L n vs Hc → Q (.ref L) Hc) : lcB (gName j) tYes te [j] σ Q J H := by
  intro L hL
  refine lc_it w (fun i Hc => ∃ vs, Hc L = some (.lst vs) ∧ vs.length = i ∧ P L i vs Hc) ⟨[], upd_same, rfl, h0 L hL⟩ (fun i Hc _ p => ?_) (fun i x Hc H' hi p y => ?_) fun Hc p => ?_
  · obtain ⟨vs, _, _, p⟩ := p
    exact hG L i vs Hc hL p
  · obtain ⟨vs, h1, h2, p⟩ := p
    obtain ⟨rfl, rfl⟩ := hY _ _ _ _ hi y
    refine ⟨by simp [wipe], rd_yes ?_⟩
    refine rd_iteT ?_
    refine he L i vs _ hi hL h1 h2 p _ fun v H2 z1 z2 => ?_
    exact ⟨vs, z1, Nat.lt_of_lt_of_le (by rw [h2]; omega : vs.length < 100000) (by decide), vs ++ [v], upd_same, by rw [List.length_append, h2]; rfl, z2⟩
  · obtain ⟨vs, h1, h2, p⟩ := p
    exact h L vs Hc hL h1 h2 p
/-- the heap but for one place -/
def hide (L : Addr) (H : Hp) : Hp := fun b => if b = L then none else H b
theorem hide_ne {L b : Addr} {H : Hp} (h : b ≠ L) : hide L H b = H b := if_neg h
theorem hide_ex {L : Addr} {H : Hp} : Ex (hide L H) H := fun b o e => by
  by_cases h : b = L
  · rw [h] at e
    have z : hide L H L = none := if_pos rfl
    rw [z] at e
    cases e
  · rw [hide_ne h] at e
    exact e
theorem hide_mono {L : Addr} {H H' : Hp} (k : ∀ b o, b ≠ L → H b = some o → H' b = some o) : Ex (hide L H) (hide L H') := fun b o e => by
  by_cases h : b = L
  · rw [h] at e
    have z : hide L H L = none := if_pos rfl
    rw [z] at e
    cases e
  · rw [hide_ne h] at e ⊢
    exact k b o h e
theorem ex_hide {L : Addr} {H H' : Hp} (hL : H L = none) (e : Ex H H') : Ex H (hide L H') := fun b o q => by
  rw [hide_ne (ne_of_none q hL)]
  exact e b o q
/-- each value is new or stood before: R of the turn, the value and the heap without the new list -/
theorem lc_new {J : It} {n j : Nat} {G : Hp → Prop} {Y : Nat → Hp → V → Hp → Prop} {xs : Nat → V} {σ : L2.St} {H : Hp} {Q : VK} {te : TE} (R : Nat → V → Hp → Prop) (w : Walk J n G Y) (hY : ∀ i H x H', i < n → Y i H x H' → H' = H ∧ x = xs i) (hn : n < 100000)
    (hG : ∀ Hc, Ex H Hc → G Hc) (mR : ∀ i v H1 H2, Ex H1 H2 → R i v H1 → R i v H2)
    (he : ∀ L i Hc, i < n → H L = none → (∃ vs, Hc L = some (.lst vs)) → Ex H Hc → ∀ N : VK, (∀ v H2, Ex Hc H2 → R i v (hide L H2) → N v H2) → te ((wipe σ [j]).set j (some (xs i))) Hc N)
    (h : ∀ L vs Hc, H L = none → Ex H Hc → Hc L = some (.lst vs) → vs.length = n → (∀ i v, vs[i]? = some v → R i v (hide L Hc)) → Q (.ref L) Hc) : lcB (gName j) tYes te [j] σ Q J H := by
  refine lc_gen (fun L i vs Hc => Ex H Hc ∧ ∀ i v, vs[i]? = some v → R i v (hide L Hc)) w hY hn (fun L hL => ⟨Evl.Ex.new hL, fun i v z => by cases z⟩) (fun L i vs Hc _ p => hG Hc p.1) (fun L i vs Hc hi hL h1 h2 p N hN => ?_) (fun L vs Hc hL h1 h2 p => h L vs Hc hL p.1 h1 h2 p.2)
  refine he L i Hc hi hL ⟨vs, h1⟩ p.1 N fun v H2 e2 r2 => hN v H2 (e2 L _ h1) ?_
  have kp : Ex (hide L H2) (hide L (upd H2 L (.lst (vs ++ [v])))) := hide_mono fun b o hb q => by rw [upd_ne hb]; exact q
  have kp0 : Ex (hide L Hc) (hide L H2) := hide_mono fun b o _ q => e2 b o q
  refine ⟨Evl.Ex.mut (p.1.trans e2) hL, fun i' v' hv => ?_⟩
  by_cases hlt : i' < vs.length
  · rw [List.getElem?_append_left hlt] at hv
    exact mR _ _ _ _ (kp0.trans kp) (p.2 i' v' hv)
  · rw [List.getElem?_append_right (by omega)] at hv
    have e0 : i' - vs.length = 0 := by
      rcases Nat.eq_zero_or_pos (i' - vs.length) with z | z
      · exact z
      · rw [List.getElem?_eq_none (by simp; omega)] at hv
        cases hv
    rw [e0] at hv
    obtain rfl : v = v' := Option.some.inj hv
    have e3 : i' = i := by omega
    rw [e3]
    exact mR _ _ _ _ kp r2

theorem rd_sfld {K : PySem.W.Frag} {ta tv : TE} {f : Str} {D : Ends} {σ : L2.St} {H : Hp} (h : tv σ H fun y H1 => ta σ H1 fun x H2 => ∃ a C dx fs, x = .ref a ∧ H2 a = some (.ins C dx fs) ∧ Cls K C ∧ NoAttr K C f ∧ fs.length < 1000 ∧ D.nx σ (upd H2 a (.ins C dx (putF f y fs)))) : sFld K ta tv f D σ H := h
theorem kSf {X : Cx} (K : PySem.W.Frag) (hK : X.K = K := by rfl) {st : Stmt} {ta tv : TE} {f : Str} (h : PS X st (sFld X.K ta tv f)) : PS X st (sFld K ta tv f) := hK ▸ h

section
variable {K : PySem.W.Frag} {σ : L2.St} {H : Hp} {Q : VK} {te to : TE} {t : TA} {C : Addr} {m f : Str} {sp : Sp} {W : WX} {dvs : List V} {E : XK}
theorem rd_makeR (h : t σ H fun vs H1 => ∀ x dx, H1 x = none → H1 dx = none → dx ≠ x → sp (.ref x :: vs) (upd (upd H1 dx (.own x)) x (.ins C dx [])) (fun v H2 => v = .non ∧ Q (.ref x) H2) fun c d H2 => W c d σ H2) : tMakeR C sp W t σ H Q := h
theorem rd_methR (h : to σ H fun x H1 => ∃ a dx fs, x = .ref a ∧ H1 a = some (.ins C dx fs) ∧ fs.lookup m = none ∧ t σ H1 fun vs H2 => sp (x :: vs) H2 Q fun c d H3 => W c d σ H3) : tMethR C m sp W to t σ H Q := h
theorem rd_meth (h : to σ H fun x H1 => ∃ a dx fs, x = .ref a ∧ H1 a = some (.ins C dx fs) ∧ fs.lookup m = none ∧ t σ H1 fun vs H2 => sp (x :: (vs ++ dvs)) H2 Q E) : tMeth C m sp dvs E to t σ H Q := h
theorem rd_notV (h : te σ H fun x H1 => ∃ c, x = .bl c ∧ Q (.bl (!c)) H1) : tNotV te σ H Q := h
theorem rd_xf {a : Addr} {cls : Value} {d : Option Addr} {C : Addr} {f : Str} (h : te σ H fun x H1 => x = .ref a ∧ cls = .ref C ∧ ∃ (dd : Addr) (fs : List (Str × V)) (v : V), d = some dd ∧ H1 dd = some (.xd fs) ∧ fs.lookup f = some v ∧ Q v H1) : tXf a cls d C f te σ H Q := h
end
/-! ### more on comprehensions, numbers, texts -/
theorem look_map {f : NameKind → Bool} : ∀ (l : List (Str × NameKind)) (y : Str), (l.lookup y = some .cell ∨ l.lookup y = some .free) → ∀ g : Str × NameKind → Str × NameKind, (∀ n k, g (n, k) = (n, k) ∨ (k = .free ∧ g (n, k) = (n, .cell))) → ((l.map g).lookup y = some .cell ∨ (l.map g).lookup y = some .free)
  | [], _, h, _, _ => by rcases h with h | h <;> cases h
  | (n, k) :: l, y, h, g, hg => by
    rw [List.map_cons]
    rw [List.lookup_cons] at h
    cases e : y == n with
    | true =>
      rw [e] at h
      rcases hg n k with z | ⟨z1, z2⟩
      · rw [z, List.lookup_cons, e]; exact h
      · rw [z2, List.lookup_cons, e]; exact .inl rfl
    | false =>
      rw [e] at h
      have ih := look_map (f := f) l y h g hg
      rcases hg n k with z | ⟨z1, z2⟩
      · rw [z, List.lookup_cons, e]; exact ih
      · rw [z2, List.lookup_cons, e]; exact ih
theorem blkOk_in {X : Cx} {N : List Str} (hN : X.N = N) {s : Shared} {H : Hp} {sc0 scope : Scope} {C : Addr} {cl : List (Str × Addr)} {fp : List Addr} {own : List (Str × Nat)} (h : blkC N sc0 scope own = true) :
    BlkOk (X.blk s H sc0 (compEnvC sc0 cl C X.env) fp).N (X.blk s H sc0 (compEnvC sc0 cl C X.env) fp).env.scope scope own := by
  subst hN
  have b := blkOk_by h
  refine ⟨b.kind, b.uniq, b.ix, fun y hy hf => ?_, b.own⟩
  refine look_map (f := fun _ => true) _ _ (b.free y hy hf) _ fun n k => ?_
  by_cases c : (k == NameKind.free && X.env.scope.kind == ScopeKind.function && X.env.kindOf n == some NameKind.cell) = true
  · right
    refine ⟨?_, if_pos c⟩
    have c1 : (k == NameKind.free) = true := by
      rw [Bool.and_eq_true, Bool.and_eq_true] at c
      exact c.1.1
    cases k <;> first | rfl | cases c1
  · left
    exact if_neg c
theorem given_range (v : Nat → V) : ∀ n, Evl.given n (fun _ => true) v = (List.range n).map v
  | 0 => rfl
  | n + 1 => by rw [Evl.given_yes rfl, given_range v n, List.range_succ, List.map_append]; rfl
/-- a comprehension whose parts leave the heap, without a test -/
theorem lc_map {J : It} {n j : Nat} {G : Hp → Prop} {Y : Nat → Hp → V → Hp → Prop} {xs v : Nat → V} {σ : L2.St} {H : Hp} {Q : VK} {te : TE} (w : Walk J n G Y) (hY : ∀ i H x H', i < n → Y i H x H' → H' = H ∧ x = xs i) (hG : ∀ Hc, Ex H Hc → G Hc) (hn : n < 100000)
    (he : ∀ i Hc, i < n → Ex H Hc → Val te ((wipe σ [j]).set j (some (xs i))) Hc (v i))
    (h : ∀ L, H L = none → Q (.ref L) (upd H L (.lst ((List.range n).map v)))) : lcB (gName j) tYes te [j] σ Q J H := by
  refine lc_pure (f := fun _ => true) w hY hG hn (fun _ _ _ _ => ans_yes) (fun i Hc hi e _ => he i Hc hi e) fun L hL => ?_
  rw [given_range]
  exact h L hL
theorem walk_range0 {n : Nat} : Walk (Itr 0 n) n (fun _ => True) fun i H x H' => H' = H ∧ x = V.int (i : Nat) := by
  obtain ⟨a, b, c⟩ := walk_range (lo := 0) (n := n)
  refine ⟨a, b, fun i H x H' hi g y => ?_⟩
  have := c i H x H' hi g y
  refine ⟨this.1, ?_⟩
  rw [this.2]
  show V.int (0 + (i : Int)) = _
  rw [Int.zero_add]
theorem fmod_nat (a m : Nat) : Int.fmod (a : Int) (m : Int) = ((a % m : Nat) : Int) := by
  rw [Int.fmod_eq_emod_of_nonneg _ (Int.natCast_nonneg m)]
  rfl
theorem fold_app (c : Nat) : ∀ (k : Nat) (a : Array Nat), (List.foldl (fun x y => x ++ y) a (List.replicate k #[c])).toList = a.toList ++ List.replicate k c
  | 0, a => by simp
  | k + 1, a => by
    rw [List.replicate_succ, List.foldl_cons, fold_app c k, List.replicate_succ]
    simp
theorem mul_sign (c : Nat) (n : Int) (h : 0 < n) : (Txt.mul ⟨#[c]⟩ n).cps.toList = List.replicate n.toNat c := by
  unfold Txt.mul
  rw [if_neg (by omega)]
  by_cases e : n = 1
  · subst e; rfl
  · have hb : (n == 1 || (⟨#[c]⟩ : Str).length == 0) = false := by
      have : (⟨#[c]⟩ : Str).length = 1 := rfl
      simp [e, this]
    rw [if_neg (by rw [hb]; decide)]
    show (List.foldl (fun x y => x ++ y) #[] (List.replicate n.toNat #[c])).toList = _
    rw [fold_app]
    rfl
theorem ixN_nat {n j : Nat} (h : j < n) : ixN n (j : Int) = some j := by
  unfold ixN
  rw [if_pos (Int.natCast_nonneg j), if_pos (by omega), Int.toNat_natCast]
theorem seqIndex_nat {n j : Nat} (h : j < n) : seqIndex? (j : Int) n = some j := by
  unfold seqIndex?
  have h0 : ¬ (j : Int) < 0 := by omega
  simp only [h0, if_false]
  rw [if_pos (by simp; omega), Int.toNat_natCast]
theorem erase_map {α β : Type} (f : α → β) : ∀ (l : List α) (j : Nat), (l.map f).eraseIdx j = (l.eraseIdx j).map f
  | [], _ => rfl
  | _ :: _, 0 => rfl
  | a :: l, j + 1 => by
    show f a :: (l.map f).eraseIdx j = f a :: (l.eraseIdx j).map f
    rw [erase_map f l j]
theorem mulOk_sign (c : Nat) {n : Int} (h0 : 0 < n) (h1 : n < 100000) : MulOk ⟨#[c]⟩ n := by
  have e : (⟨#[c]⟩ : Str).length = 1 := rfl
  refine ⟨by simp; omega, fun _ _ => ?_, fun _ _ => ?_⟩
  · rw [e]
    intro hh
    have : ((2:Int) ^ 63 - 1) / n ≥ 1 := by
      refine Int.le_ediv_of_mul_le h0 ?_
      omega
    omega
  · rw [e]
    unfold Builtin.Str.tooLong
    have : sizeLine ≥ 100000 := by decide
    exact decide_eq_false (by omega)
theorem first_at {l : List Nat} {c : Nat} {r : List Nat} (h : l = c :: r) : l.idxOf c = 0 := by
  rw [h]
  exact List.idxOf_cons_self
theorem atI_last {α : Type} {l : List α} (h : 0 < l.length) : atI l (-1) = some (l[l.length - 1]'(by omega)) := by
  have e : ixN l.length (-1) = some (l.length - 1) := by
    unfold ixN
    rw [if_neg (by decide), if_pos (by omega)]
    congr 1
    omega
  show (ixN l.length (-1)).bind (fun j => l[j]?) = _
  rw [e]
  exact List.getElem?_eq_getElem _
end AT

set_option Elab.async false
set_option linter.all false
set_option maxRecDepth 100000
set_option maxHeartbeats 4000000
/-! own words, third part: a law's own def, run where nothing is being shown; the repr of data -/
namespace AT
open PySem PySem.Spec L2
/-- as FnOk, but only where no repr is under way -/
structure FnG (P : Program) (w : World) (K : PySem.W.Frag) (mg : Str → Option Value) (base : Heap) (CX : CXT) (k : Nat) (f : Addr) (fd : FuncData) (ps : List Str) (sp : Sp) : Prop where
  len : ∀ vs H Q E, sp vs H Q E → vs.length = ps.length
  run : ∀ (A : Around) (outer : List Env) (s : Shared) (H : Hp) (args : Args) (us : List Value) (vs : List V) (Q : VK) (E : XK), A.guards = some [] → Room k A → Env0 P w K mg base A outer s H → BindsTo s fd args (ps.zip us) → Vals vs us → sp vs H Q E →
    codeAny (model P w) A (.call (.ref f) args) (CR CX outer P w H s Q E) s
theorem fn_ofG {CX : CXT} {P : Program} {w : World} {K : PySem.W.Frag} {mg : Str → Option Value} {base : Heap} {k : Nat} {f : Addr} {name qual : Str} {params : Arguments} {body : List Stmt} {scope : Scope} {dV kV doc pm cdv ct oc : Value} {an od : Option Addr} {osl : Array (Option Value)} {N ps : List Str} {sp : Sp}
    (lk : List.lookup f K = some { cls := oc, dict := od, data := Data.func (PySem.W.fnOf name qual params body scope dV kV doc pm an cdv ct), slots := osl }) (hcd : PySem.W.codeIn K cdv qual = true) (S : FnScope N ps scope)
    (len : ∀ vs H Q E, sp vs H Q E → vs.length = ps.length)
    (hb : ∀ (A : Around) (outer : List Env) (s : Shared) (H : Hp) (vs : List V) (Q : VK) (E : XK), A.guards = some [] → Room k (A.deeper (PyProof.Rows.envOfC qual scope s.heap.objs.size f cdv)) → sp vs H Q E →
      ∃ t, PSs (cxOf CX P w K mg base N qual scope f cdv A outer s H E) body t ∧ t { nx := fun _ H' => Q .non H', rt := Q } (L2.start N vs) H) :
    FnG P w K mg base CX (k + 1) f (PySem.W.fnOf name qual params body scope dV kV doc pm an cdv ct) ps sp := by
  refine ⟨len, fun A outer s H args us vs Q E hg hr e0 bd rv hsp => ?_⟩
  have hl := len vs H Q E hsp
  have KX : K.In s.heap := e0.mod.kin.keeps fun b o e => (e0.bs b o e).1
  have lim : s.heap.NoLimit := e0.mod.nolimit.keeps fun b o e => (e0.bs b o e).1
  refine codeAny_call_function hr.depth (KX f _ lk) rfl S.co S.gen rfl (PySem.W.codeRec_of KX hcd) (bd _ _ _ _ ?_)
  refine wpAny_newFunctionEnv_cells S.kind (fun x hx => ?_) fun env he s1 x => ?_
  · obtain ⟨n, v⟩ := x
    rcases S.par n (List.of_mem_zip hx).1 with q | q
    · exact .inl q
    · exact .inr ⟨q, PySem.W.cellsFrom_some scope.names (s.heap.objs.size + 1) [] (.inl q)⟩
  · subst he
    refine ⟨lim.keeps x.toInCall.keep, codeAny_func ?_⟩
    obtain ⟨t, ht, hq⟩ := hb A outer s H vs Q E hg (hr.deeper _) hsp
    have I := inv_start (CX := CX) (E := E) S hr.hd e0 hl rv x
    refine wpAny_mono (ht.run [] s1 (L2.start N vs) H _ I hq) (fun fl s' hs => ?_) fun e s' hs => hs
    cases fl with
    | next =>
      obtain ⟨σ', H', J, q⟩ := hs
      exact ⟨.non, H', J.os, J.bare, J.base, J.hok, rfl, q⟩
    | brk =>
      obtain ⟨_, _, _, q⟩ := hs
      exact q.elim
    | cont =>
      obtain ⟨_, _, _, q⟩ := hs
      exact q.elim
    | ret u =>
      obtain ⟨v, σ', H', J, rv, q⟩ := hs
      exact ⟨v, H', J.os, J.bare, J.base, J.hok, rv, q⟩
theorem _root_.L2.Fun.okG {P : Program} {w : World} {K : PySem.W.Frag} {mg : Str → Option Value} {base : Heap} {x qual : Str} {st : Stmt} {f : Addr} {fd : FuncData} {N ps : List Str} {k : Nat} {sp : Sp} (F : Fun K x qual st f fd) (S : FnScope N ps (defScope st)) (len : ∀ vs H Q E, sp vs H Q E → vs.length = ps.length)
    (hb : ∀ (cdv : Value) (A : Around) (outer : List Env) (s : Shared) (H : Hp) (vs : List V) (Q : VK) (E : XK), A.guards = some [] → Room k (A.deeper (PyProof.Rows.envOfC qual (defScope st) s.heap.objs.size f cdv)) → sp vs H Q E →
      ∃ t, PSs (cxOf CX0 P w K mg base N qual (defScope st) f cdv A outer s H E).nox (defBody st) t ∧ t { nx := fun _ H' => Q .non H', rt := Q } (L2.start N vs) H) : FnG P w K mg base CX0 (k + 1) f fd ps sp := by
  obtain ⟨oc, od, kV, doc, pm, an, cdv, ct, osl, rfl, lk, hcd⟩ := F.ex
  refine fn_ofG lk hcd S len fun A outer s H vs Q E hg hr hsp => ?_
  obtain ⟨t, h, q⟩ := hb cdv A outer s H vs Q E hg hr hsp
  exact ⟨t, PSs.nox h, q⟩
theorem law_callG {P : Program} {w : World} {K : PySem.W.Frag} {mg mb : Str → Option Value} {k : Nat} {fa a : Addr} {fd : FuncData} {x : Str} {sp : Sp} {s₁ : Shared} {vs : List Value} {ns : List Int}
    (KX : K.In s₁.heap) (hns : s₁.heap.Ns mainGlobals mg) (hb : s₁.heap.Ns builtinsNs mb) (hbb : ∀ x : Str, x ≠ "__name__" → mb x = bootBuiltins x) (hlim : s₁.heap.NoLimit) (hg : s₁.gens = #[]) (ha : s₁.heap.get? a = some { cls := .type "list", data := .seq vs.toArray })
    (hi : PyProof.Rows.IntsAre vs ns) (hl : ns.length ≤ sizeLine) (hr : Room k callerA) (F : ∀ base : Heap, K.In base → base.Ns mainGlobals mg → FnG P w K mg base CX0 k fa fd [x] sp) (hbind : ∀ (s : Shared) (u : Value), BindsTo s fd { pos := [u] } [(x, u)])
    (hsp : ∀ H : Hp, Only H → SqL K H a (ns.map V.int) → sp [.ref a] H (fun v _ => v = .bl true) E0) :
    codeAny (model P w) callerA (.call (.ref fa) { pos := [.ref a] }) (fun r s' => r = .ok (.ret (.bool true)) ∧ OldK s₁.heap s'.heap ∧ s'.os = s₁.os ∧ PyProof.Rows.AllBare s'.gens) s₁ := by
  have core : ∀ H : Hp, Only H → SqL K H a (ns.map V.int) → HOk P w H s₁.heap → (∀ b, H b ≠ none → b = a) → (H a ≠ none → K.lookup a = none) →
      codeAny (model P w) callerA (.call (.ref fa) { pos := [.ref a] }) (fun r s' => r = .ok (.ret (.bool true)) ∧ OldK s₁.heap s'.heap ∧ s'.os = s₁.os ∧ PyProof.Rows.AllBare s'.gens) s₁ := by
    intro H hO hS hok hA hK
    have nd : ∀ {b : Addr} {o : Obj} {es ep}, s₁.heap.get? b = some o → o.data = .dict es ep → H b = none := by
      intro b o es ep e d
      cases q : H b with
      | none => rfl
      | some u =>
        obtain rfl := hA b (by rw [q]; exact fun z => by cases z)
        rw [ha] at e
        obtain rfl := Option.some.inj e
        cases d
    have nsK : ∀ {b : Addr} {m : Str → Option Value}, s₁.heap.Ns b m → (hidT s₁.heap H).Ns b m := by
      rintro b m ⟨o, es, ep, e, d, r⟩
      exact ⟨o, es, ep, hidT_get e (nd e d), d, r⟩
    have hKb : K.In (hidT s₁.heap H) := fun b o e => hidT_get (KX b o e) (by
      cases q : H b with
      | none => rfl
      | some u =>
        have nb : H b ≠ none := by rw [q]; exact fun z => by cases z
        obtain rfl := hA b nb
        have z := hK nb
        rw [e] at z
        cases z)
    have hM : L2.Mod K mg (hidT s₁.heap H) := ⟨hKb, nsK hns, ⟨mb, nsK hb, hbb⟩, by
      obtain ⟨mc, h1, h2⟩ := hlim
      exact ⟨mc, nsK h1, h2⟩⟩
    have e0 : Env0 P w K mg (hidT s₁.heap H) callerA [] s₁ H := ⟨rfl, hM, fun b o e => of_hidT e, Nat.le_of_eq (hidT_size s₁.heap H), trivial, (fun b z => by cases z), hok, PyProof.Rows.AllBare.of_eq hg⟩
    refine codeAny_mono ((F (hidT s₁.heap H) hKb (nsK hns)).run callerA [] s₁ H { pos := [.ref a] } [.ref a] [.ref a] _ E0 rfl hr e0 (hbind s₁ (.ref a)) (.cons rfl .nil) (hsp H hO hS)) fun r s' z => ?_
    cases r with
    | error e => exact absurd z fun z => by cases z
    | ok fl =>
      cases fl with
      | next => exact z.elim
      | brk => exact z.elim
      | cont => exact z.elim
      | ret u =>
        obtain ⟨v, H', os, bare, un, hok', rv, rfl⟩ := z
        obtain rfl : u = .bool true := rv
        refine ⟨rfl, OldK.of_keep fun b o e => ?_, os, bare⟩
        cases q : H b with
        | none => exact un.keep b o e q (fun z => by cases z) (fun z => by cases z)
        | some u =>
          rcases hO b with z | ⟨ob, xs, z⟩
          · rw [z] at q; cases q
          · have z2 := un.frzs b ob (.lst xs) z
            have e1 := (hok b _ z).1
            have e2 := (hok' b _ z2).1
            rw [e] at e1
            rw [e2, e1]
  cases hk : K.lookup a with
  | none =>
    refine core (fun b => if b = a then some (.frz { cls := .type "list", data := .seq vs.toArray } (.lst (ns.map V.int))) else none) (fun b => ?_) (.inl (.inr ⟨_, if_pos rfl⟩)) (fun b u z => ?_) (fun b z => ?_) fun _ => hk
    · by_cases e : b = a
      · exact .inr ⟨_, _, if_pos e⟩
      · exact .inl (if_neg e)
    · by_cases e : b = a
      · subst e
        have z' := (if_pos rfl).symm.trans z
        obtain rfl := Option.some.inj z'
        exact ⟨ha, by rw [List.length_map]; exact hl, vs, _, vals_ints hi, ha⟩
      · have z' := (if_neg e).symm.trans z
        cases z'
    · by_cases e : b = a
      · exact e
      · exact absurd (if_neg e) z
  | some o =>
    refine core (fun _ => none) (fun _ => .inl rfl) ?_ (fun b u z => by cases z) (fun b z => absurd rfl z) fun z => absurd rfl z
    have e := KX a o hk
    rw [ha] at e
    obtain rfl := Option.some.inj e
    refine .inr ⟨_, vs.toArray, _, hk, rfl, rfl, rfl, ?_, vals_ints hi⟩
    have := PyProof.Rows.IntsAre.length hi
    rw [List.size_toArray]
    omega
theorem walk_ofG {l : PySem.W.OpenLaw} {n k : Nat} {q : Program} {loose : List Str} {XP : (Str → Option Value) → Heap → Prop} {YP : World → Heap → Prop} {d : DefRec} {K : Params → PySem.W.Frag} {sp : PySem.W.Frag → Sp} {x : Str}
    (hn : l.most = some n) (hn2 : n ≤ sizeLine) (hdf : d.params.defaults = []) (hr : Room k callerA) (hY : ∀ (w : World) (h : Heap), YP w h → (K w.params).In h)
    (F : ∀ (w : World) (mg : Str → Option Value) (fa : Addr) (h : Heap), (K w.params).In h → h.Ns mainGlobals mg → mg d.name = some (.ref fa) → ∃ fd, (∀ (s : Shared) (u : Value), BindsTo s fd { pos := [u] } [(x, u)]) ∧ ∀ base : Heap, (K w.params).In base → base.Ns mainGlobals mg → FnG l.prog w (K w.params) mg base CX0 k fa fd [x] (sp (K w.params)))
    (hsp : ∀ (K : PySem.W.Frag) (H : Hp) (a : Addr) (ns : List Int), ns.length ≤ n → Only H → SqL K H a (ns.map V.int) → sp K [.ref a] H (fun v _ => v = .bl true) E0) : PySem.W.WalkO q loose XP YP l.row.toRowW d [] fun f vs => PySem.call f vs :=
  Att.attach_call hn hdf fun w s₀ s₁ mg mb fa o pm cd doc a vs ns G Y ho hd hcd hmg hobj hints hlen hg => by
    obtain ⟨fd, hb, hF⟩ := F w mg fa s₁.heap (hY w s₁.heap Y) G.T.g hmg
    exact law_callG (hY w s₁.heap Y) G.T.g G.T.b G.T.builtins G.T.nolimit hg hobj hints (Nat.le_trans hlen hn2) hr hF hb fun H hO hS => hsp _ H a ns hlen hO hS
/-- repr(v): v lists and tuples of plain values -/
def cReprD (K : PySem.W.Frag) : List V → Hp → VK → Prop := fun xs H Q => cRepr xs H Q ∨ ∃ (a : Addr) (d : PyData), xs = [.ref a] ∧ Dp K H (.ref a) d ∧ d.showable = true ∧ d.hasDict = false ∧ d.depth ≤ 60 ∧ d.shown.length ≤ sizeLine ∧ Q (.str d.shown) H
theorem call_reprD {X : Cx} (hg : X.A.guards = some []) (hu : X.A.units + 64 < cLine) : CallR X (.builtin "repr") (cReprD X.K) := by
  refine CallR.or call_reprP ?_
  intro P s σ H vs us Q I r h
  obtain ⟨a, d, rfl, hd, sh, nd, dl, sl, q⟩ := h
  obtain ⟨u, rfl, ru⟩ := vals1 r
  cases (show u = Value.ref a from ru)
  obtain ⟨as, rd⟩ := Dp.reads I d _ _ hd ru
  refine repr_of_reads' rd sh (fun z => by rw [nd] at z; cases z) hg (by omega) (fun b o e => e) (fun h' u tk hk => ?_) sl
  exact ⟨.str d.shown, H, I.kept hk, ⟨u, rfl⟩, q⟩
/-! ### how long what is shown may be -/
theorem join_len (sep : Str) (B : Nat) : ∀ ss : List Str, (∀ s ∈ ss, s.length ≤ B) → (Str.join sep ss).length ≤ ss.length * (B + sep.length)
  | [], _ => by unfold Str.join; exact Nat.zero_le _
  | [x], h => by
    unfold Str.join
    have := h x List.mem_cons_self
    simp
    omega
  | x :: y :: r, h => by
    have ih := join_len sep B (y :: r) fun s hs => h s (List.mem_cons_of_mem _ hs)
    have hx := h x List.mem_cons_self
    unfold Str.join
    rw [TL.len_tl, TL.tl_append, TL.tl_append, List.length_append, List.length_append, ← TL.len_tl, ← TL.len_tl, ← TL.len_tl]
    rw [List.length_cons, Nat.succ_mul]
    omega
theorem tuple_len {B : Nat} {ss : List Str} (h : ∀ s ∈ ss, s.length ≤ B) : (tupleText ss).length ≤ ss.length * (B + 2) + 3 := by
  have j := join_len (Str.ofString ", ") B ss h
  have e2 : (Str.ofString ", ").length = 2 := by decide +kernel
  rw [e2] at j
  unfold tupleText
  rw [TL.len_tl, TL.tl_append, TL.tl_append, List.length_append, List.length_append, ← TL.len_tl, ← TL.len_tl, ← TL.len_tl]
  have e1 : (Str.ofString "(").length = 1 := by decide +kernel
  have e3 : (Str.ofString (if (ss.length == 1) = true then ",)" else ")")).length ≤ 2 := by
    cases (ss.length == 1) <;> decide +kernel
  omega
theorem foldl_len {f : Nat → Array Nat} {B : Nat} : ∀ (l : List Nat) (a : Array Nat), (∀ c ∈ l, (f c).size ≤ B) → (l.foldl (fun out c => out ++ f c) a).size ≤ a.size + l.length * B
  | [], a, _ => by simp
  | c :: l, a, h => by
    have ih := foldl_len (f := f) (B := B) l (a ++ f c) fun d hd => h d (List.mem_cons_of_mem _ hd)
    have hc := h c List.mem_cons_self
    rw [List.foldl_cons, List.length_cons, Nat.succ_mul]
    rw [Array.size_append] at ih
    omega
theorem repr_len {z : Str} {B : Nat} (h : ∀ c ∈ z.cps.toList, (Builtin.Str.reprChar (reprQuote z) c).length ≤ B) : (reprText z).length ≤ 2 + z.length * B := by
  show ((Array.foldl (fun out c => out ++ (Builtin.Str.reprChar (reprQuote z) c).toArray) #[reprQuote z] z.cps).push (reprQuote z)).size ≤ _
  rw [Array.size_push, ← Array.foldl_toList]
  have := foldl_len (f := fun c => (Builtin.Str.reprChar (reprQuote z) c).toArray) (B := B) z.cps.toList #[reprQuote z] (fun c hc => by rw [List.size_toArray]; exact h c hc)
  have e : z.cps.toList.length = z.length := rfl
  rw [e] at this
  have e1 : (#[reprQuote z] : Array Nat).size = 1 := rfl
  omega
theorem quote_or (z : Str) : reprQuote z = 34 ∨ reprQuote z = 39 := by
  unfold reprQuote
  split
  · exact .inl rfl
  · exact .inr rfl
theorem repr_pl : ∀ c ∈ ("abcdefghijklmnopqrstuvwxyzABCDEFGHIJKLMNOPQRSTUVWXYZ0123456789<>=:_@#" : Str).cps.toList, (Builtin.Str.reprChar 34 c).length ≤ 10 ∧ (Builtin.Str.reprChar 39 c).length ≤ 10 := by decide +kernel
theorem small_text : ∀ n : Nat, n < 100 → (Str.ofString (toString (n : Int))).length ≤ 4 ∧ (n : Int).natAbs.log2 < 1920 := by decide +kernel
/-- data that may be shown: at most so long, so deep -/
structure Okd (d : PyData) (L D : Nat) : Prop where
  sh : d.showable = true
  nd : d.hasDict = false
  dp : d.depth ≤ D
  ln : d.shown.length ≤ L
theorem Okd.mono {d : PyData} {L D L' D' : Nat} (h : Okd d L D) (h1 : L ≤ L') (h2 : D ≤ D') : Okd d L' D' := ⟨h.sh, h.nd, Nat.le_trans h.dp h2, Nat.le_trans h.ln h1⟩
theorem Okd.bool (b : Bool) : Okd (.bool b) 5 0 := ⟨rfl, rfl, Nat.le_refl 0, by cases b <;> decide +kernel⟩
theorem Okd.int {n : Nat} (h : n < 100) : Okd (.int (n : Int)) 4 0 := ⟨decide_eq_true (small_text n h).2, rfl, Nat.le_refl 0, (small_text n h).1⟩
theorem Okd.str {z : Str} (h : ∀ c ∈ z.cps.toList, c ∈ ("abcdefghijklmnopqrstuvwxyzABCDEFGHIJKLMNOPQRSTUVWXYZ0123456789<>=:_@#" : Str).cps.toList) : Okd (.str z) (2 + z.length * 10) 0 := ⟨rfl, rfl, Nat.le_refl 0, repr_len fun c hc => by
  rcases quote_or z with e | e <;> rw [e]
  · exact (repr_pl c (h c hc)).1
  · exact (repr_pl c (h c hc)).2⟩
theorem all_okd {L D : Nat} : ∀ xs : List PyData, (∀ x ∈ xs, Okd x L D) → PyData.showableAll xs = true ∧ PyData.hasDictAll xs = false ∧ PyData.depthAll xs ≤ D ∧ (∀ s ∈ PyData.shownAll xs, s.length ≤ L) ∧ (PyData.shownAll xs).length = xs.length
  | [], _ => ⟨rfl, rfl, Nat.zero_le _, (fun s hs => by cases hs), rfl⟩
  | x :: xs, h => by
    obtain ⟨a, b, c, d, e⟩ := all_okd xs fun y hy => h y (List.mem_cons_of_mem _ hy)
    have hx := h x List.mem_cons_self
    refine ⟨?_, ?_, ?_, fun s hs => ?_, ?_⟩
    · show (x.showable && PyData.showableAll xs) = true
      rw [hx.sh, a]; rfl
    · show (x.hasDict || PyData.hasDictAll xs) = false
      rw [hx.nd, b]; rfl
    · show max x.depth (PyData.depthAll xs) ≤ D
      exact Nat.max_le.mpr ⟨hx.dp, c⟩
    · have hs' : s ∈ x.shown :: PyData.shownAll xs := hs
      rcases List.mem_cons.mp hs' with z | z
      · rw [z]; exact hx.ln
      · exact d s z
    · show (x.shown :: PyData.shownAll xs).length = _
      rw [List.length_cons, e]
      rfl
theorem Okd.tuple {L D : Nat} {xs : List PyData} (h : ∀ x ∈ xs, Okd x L D) : Okd (.tuple xs) (xs.length * (L + 2) + 3) (D + 1) := by
  obtain ⟨a, b, c, d, e⟩ := all_okd xs h
  refine ⟨a, b, Nat.succ_le_succ c, ?_⟩
  have := tuple_len d
  rw [e] at this
  exact this
section
variable {X : Cx} (K : PySem.W.Frag)
theorem kReprD (hg : X.A.guards = some []) (hu : X.A.units + 64 < cLine) (hK : X.K = K := by rfl) : CallR X (.builtin "repr") (cReprD K) := hK ▸ call_reprD hg hu
end
theorem rd_reprBD {K : PySem.W.Frag} {b : Bool} {H : Hp} {Q : VK} (h : Q (.str (if b then "True" else "False")) H) : cReprD K [.bl b] H Q := .inl (rd_reprB h)
theorem rd_reprD {K : PySem.W.Frag} {a : Addr} {d : PyData} {L D : Nat} {H : Hp} {Q : VK} (h1 : Dp K H (.ref a) d) (h2 : Okd d L D) (hL : L ≤ sizeLine) (hD : D ≤ 60) (h : Q (.str d.shown) H) : cReprD K [.ref a] H Q := .inr ⟨a, d, rfl, h1, h2.sh, h2.nd, Nat.le_trans h2.dp hD, Nat.le_trans h2.ln hL, h⟩
/-! ### signs, joined -/
theorem fold_signs : ∀ (cs : List Nat) (a : Array Nat), (List.foldl (fun acc (p : Str) => acc ++ (Str.ofString "").cps ++ p.cps) a (cs.map fun c => (⟨#[c]⟩ : Str))).toList = a.toList ++ cs
  | [], a => by simp
  | c :: cs, a => by
    rw [List.map_cons, List.foldl_cons, fold_signs cs]
    have e : (Str.ofString "").cps = #[] := by decide +kernel
    rw [e]
    simp
theorem join_signs (cs : List Nat) : (Txt.join "" (cs.map fun c => (⟨#[c]⟩ : Str))).cps.toList = cs := by
  cases cs with
  | nil => rfl
  | cons c cs =>
    show (List.foldl (fun acc (p : Str) => acc ++ (Str.ofString "").cps ++ p.cps) #[c] (cs.map fun c => (⟨#[c]⟩ : Str))).toList = _
    rw [fold_signs cs #[c]]
    rfl
theorem sum_signs : ∀ cs : List Nat, ((cs.map fun c => (⟨#[c]⟩ : Str)).map (·.length)).sum = cs.length
  | [] => rfl
  | c :: cs => by
    rw [List.map_cons, List.map_cons, List.sum_cons, sum_signs cs, List.length_cons]
    show 1 + cs.length = cs.length + 1
    omega
end AT

set_option Elab.async false
set_option linter.all false
set_option maxRecDepth 100000
set_option maxHeartbeats 4000000
/-! own words, fourth part: values as data, a heap with a hidden part that changes -/
namespace AT
open PySem PySem.Spec L2
section
variable {K : PySem.W.Frag}
mutual
theorem Dp.ex' {H H' : Hp} (e : Ex H H') : ∀ (d : PyData) {v : V}, Dp K H v d → Dp K H' v d
  | .none, _, h => by cases h; exact .non
  | .bool b, _, h => by cases h; exact .bl b
  | .int i, _, h => by cases h; exact .int i
  | .str x, _, h => by cases h; exact .str x
  | .list ds, _, h => by
    cases h with
    | lst hs ha => exact .lst (Evl.ex_l e hs) (DpAll.ex' e ds ha)
  | .tuple ds, _, h => by
    cases h with
    | tup hs ha => exact .tup (Evl.ex_t e hs) (DpAll.ex' e ds ha)
  | .dict _, _, h => by cases h
theorem DpAll.ex' {H H' : Hp} (e : Ex H H') : ∀ (ds : List PyData) {vs : List V}, DpAll K H vs ds → DpAll K H' vs ds
  | [], _, h => by cases h; exact .nil
  | d :: ds, _, h => by
    cases h with
    | cons h1 h2 => exact .cons (Dp.ex' e d h1) (DpAll.ex' e ds h2)
end
theorem _root_.L2.Dp.ex {H H' : Hp} {v : V} {d : PyData} (h : Dp K H v d) (e : Ex H H') : Dp K H' v d := Dp.ex' e d h
theorem _root_.L2.DpAll.ex {H H' : Hp} {vs : List V} {ds : List PyData} (h : DpAll K H vs ds) (e : Ex H H') : DpAll K H' vs ds := DpAll.ex' e ds h
theorem _root_.L2.DpAll.len {H : Hp} : ∀ {vs : List V} {ds : List PyData}, DpAll K H vs ds → vs.length = ds.length
  | _, _, .nil => rfl
  | _, _, .cons _ t => by rw [List.length_cons, List.length_cons, t.len]
theorem _root_.L2.DpAll.get {H : Hp} : ∀ {vs : List V} {ds : List PyData} {i : Nat} {d : PyData}, DpAll K H vs ds → ds[i]? = some d → ∃ v, vs[i]? = some v ∧ Dp K H v d
  | _, _, i, d, .nil, e => by simp at e
  | _, _, 0, d, .cons (v := v) h _, e => by
    simp at e
    subst e
    exact ⟨v, rfl, h⟩
  | _, _, i + 1, d, .cons _ t, e => by
    obtain ⟨v, h1, h2⟩ := t.get (i := i) (d := d) (by simpa using e)
    exact ⟨v, by simpa using h1, h2⟩
theorem _root_.L2.DpAll.got {H : Hp} {vs : List V} {ds : List PyData} {i : Nat} {v : V} (h : DpAll K H vs ds) (e : vs[i]? = some v) : ∃ d, ds[i]? = some d ∧ Dp K H v d := by
  have hl : i < vs.length := (List.getElem?_eq_some_iff.mp e).1
  have hd : i < ds.length := by rw [← h.len]; exact hl
  obtain ⟨v', h1, h2⟩ := h.get (List.getElem?_eq_getElem hd)
  rw [h1] at e
  obtain rfl := Option.some.inj e
  exact ⟨_, List.getElem?_eq_getElem hd, h2⟩
theorem _root_.L2.DpAll.app {H : Hp} : ∀ {vs : List V} {ds : List PyData} {us : List V} {es : List PyData}, DpAll K H vs ds → DpAll K H us es → DpAll K H (vs ++ us) (ds ++ es)
  | _, _, _, _, .nil, h => h
  | _, _, _, _, .cons h t, q => .cons h (t.app q)
theorem _root_.L2.DpAll.snoc {H : Hp} {vs : List V} {ds : List PyData} {v : V} {d : PyData} (h : DpAll K H vs ds) (q : Dp K H v d) : DpAll K H (vs ++ [v]) (ds ++ [d]) := h.app (.cons q .nil)
theorem DpAll.of {H : Hp} : ∀ {vs : List V} {ds : List PyData}, vs.length = ds.length → (∀ (i : Nat) v d, vs[i]? = some v → ds[i]? = some d → Dp K H v d) → DpAll K H vs ds
  | [], [], _, _ => .nil
  | [], _ :: _, h, _ => by cases h
  | _ :: _, [], h, _ => by cases h
  | v :: vs, d :: ds, h, g => .cons (g 0 v d rfl rfl) (DpAll.of (Nat.succ.inj h) fun i v d h1 h2 => g (i + 1) v d (by simpa using h1) (by simpa using h2))
theorem _root_.L2.DpAll.erase {H : Hp} : ∀ {vs : List V} {ds : List PyData} (i : Nat), DpAll K H vs ds → DpAll K H (vs.eraseIdx i) (ds.eraseIdx i)
  | _, _, _, .nil => .nil
  | _, _, 0, .cons _ t => t
  | _, _, i + 1, .cons h t => .cons h (t.erase i)
theorem _root_.L2.DpAll.set {H : Hp} {v : V} {d : PyData} (q : Dp K H v d) : ∀ {vs : List V} {ds : List PyData} (i : Nat), DpAll K H vs ds → DpAll K H (vs.set i v) (ds.set i d)
  | _, _, _, .nil => .nil
  | _, _, 0, .cons _ t => .cons q t
  | _, _, i + 1, .cons h t => .cons h (t.set q i)
theorem DpAll.mapV {α : Type} {H : Hp} (f : α → V) (g : α → PyData) (l : List α) (h : ∀ x ∈ l, Dp K H (f x) (g x)) : DpAll K H (l.map f) (l.map g) := by
  induction l with
  | nil => exact .nil
  | cons x l ih => exact .cons (h x List.mem_cons_self) (ih fun y hy => h y (List.mem_cons_of_mem _ hy))
/-! the shapes of values -/
theorem Dp.non_iff {H : Hp} {v : V} (h : Dp K H v .none) : v = .non := by cases h; rfl
theorem Dp.int_iff {H : Hp} {v : V} {i : Int} (h : Dp K H v (.int i)) : v = .int i := by cases h; rfl
theorem Dp.str_iff {H : Hp} {v : V} {i : Str} (h : Dp K H v (.str i)) : v = .str i := by cases h; rfl
theorem Dp.bl_iff {H : Hp} {v : V} {i : Bool} (h : Dp K H v (.bool i)) : v = .bl i := by cases h; rfl
theorem Dp.lstv {H : Hp} {v : V} {ds : List PyData} (h : Dp K H v (.list ds)) : ∃ a vs, v = .ref a ∧ SqL K H a vs ∧ DpAll K H vs ds := by
  cases h with
  | lst hs ha => exact ⟨_, _, rfl, hs, ha⟩
theorem Dp.tupv {H : Hp} {v : V} {ds : List PyData} (h : Dp K H v (.tuple ds)) : ∃ a vs, v = .ref a ∧ SqT K H a vs ∧ DpAll K H vs ds := by
  cases h with
  | tup hs ha => exact ⟨_, _, rfl, hs, ha⟩
/-! ### the hidden part -/
def hid (S : List Addr) (H : Hp) : Hp := fun b => if b ∈ S then none else H b
theorem hid_at {S : List Addr} {H : Hp} {b : Addr} (h : b ∉ S) : hid S H b = H b := if_neg h
theorem hid_in {S : List Addr} {H : Hp} {b : Addr} (h : b ∈ S) : hid S H b = none := if_pos h
theorem hid_nil {H : Hp} : hid [] H = H := by
  funext b
  exact if_neg List.not_mem_nil
theorem hid_some {S : List Addr} {H : Hp} {b : Addr} {o : HO} (h : hid S H b = some o) : b ∉ S ∧ H b = some o := by
  by_cases z : b ∈ S
  · rw [hid_in z] at h; cases h
  · exact ⟨z, by rw [hid_at z] at h; exact h⟩
theorem hid_ex {S : List Addr} {H : Hp} : Ex (hid S H) H := fun b o h => (hid_some h).2
theorem hid_sub {S S' : List Addr} {H : Hp} (h : ∀ b ∈ S', b ∈ S) : Ex (hid S H) (hid S' H) := fun b o q => by
  obtain ⟨h1, h2⟩ := hid_some q
  rw [hid_at fun z => h1 (h b z)]
  exact h2
theorem hid_tail {q : Addr} {S : List Addr} {H : Hp} : Ex (hid (q :: S) H) (hid S H) := hid_sub fun _ hb => List.mem_cons_of_mem _ hb
/-- all but S stands -/
def Kp (S : List Addr) (H H' : Hp) : Prop := ∀ b o, b ∉ S → H b = some o → H' b = some o
theorem Kp.refl {S : List Addr} {H : Hp} : Kp S H H := fun _ _ _ h => h
theorem Kp.trans {S : List Addr} {H H1 H2 : Hp} (a : Kp S H H1) (b : Kp S H1 H2) : Kp S H H2 := fun x o hx h => b x o hx (a x o hx h)
theorem Kp.of_ex {S : List Addr} {H H' : Hp} (e : Ex H H') : Kp S H H' := fun b o _ h => e b o h
theorem Kp.ex {S : List Addr} {H H' : Hp} (k : Kp S H H') : Ex (hid S H) (hid S H') := fun b o q => by
  obtain ⟨h1, h2⟩ := hid_some q
  rw [hid_at h1]
  exact k b o h1 h2
theorem Kp.sub {S S' : List Addr} {H H' : Hp} (k : Kp S H H') (h : ∀ b ∈ S, b ∈ S') : Kp S' H H' := fun b o hb q => k b o (fun z => hb (h b z)) q
theorem Kp.put {S : List Addr} {H : Hp} {q : Addr} {o : HO} (h : q ∈ S) : Kp S H (upd H q o) := fun b u hb z => by
  rw [upd_ne (show b ≠ q from fun e => hb (by rw [e]; exact h))]
  exact z
theorem Kp.new {S : List Addr} {H : Hp} {q : Addr} {o : HO} (h : H q = none) : Kp S H (upd H q o) := Kp.of_ex (Evl.Ex.new h)
/-- from what stands in the one hidden part to the other -/
theorem Kp.up {M S : List Addr} {H0 H : Hp} (k : Kp M H0 H) (fr : ∀ q ∈ S, q ∉ M → H0 q = none) : Ex (hid M H0) (hid S H) := fun b o z => by
  obtain ⟨h1, h2⟩ := hid_some z
  rw [hid_at fun hb => ?_]
  · exact k b o h1 h2
  · have := fr b hb h1
    rw [h2] at this
    cases this
theorem Ex.hid {S : List Addr} {H H' : Hp} (e : Ex H H') : Ex (AT.hid S H) (AT.hid S H') := (Kp.of_ex (S := S) e).ex
/-- a list that was changed is let be -/
theorem Dp.frz {S : List Addr} {H : Hp} {q : Addr} {vs : List V} {ds : List PyData} (hq : H q = some (.lst vs)) (hn : q ∉ S) (h : DpAll K (hid (q :: S) H) vs ds) : Dp K (hid S H) (.ref q) (.list ds) :=
  .lst (SqL.of (by rw [hid_at hn]; exact hq)) (h.ex hid_tail)
theorem Dp.frz' {S : List Addr} {H : Hp} {q : Addr} {vs : List V} {ds : List PyData} (hq : H q = some (.lst vs)) (hn : q ∉ S) (h : DpAll K (hid S H) vs ds) : Dp K (hid S H) (.ref q) (.list ds) :=
  .lst (SqL.of (by rw [hid_at hn]; exact hq)) h
/-- a new list, a new tuple -/
theorem notin_of {S : List Addr} {H : Hp} {q : Addr} (hs : ∀ b ∈ S, ∃ o, H b = some o) (hq : H q = none) : q ∉ S := fun z => by
  obtain ⟨o, ho⟩ := hs q z
  rw [hq] at ho
  cases ho
theorem Dp.newT {S : List Addr} {H : Hp} {q : Addr} {vs : List V} {ds : List PyData} (hq : H q = none) (hn : q ∉ S) (h : DpAll K (hid S H) vs ds) : Dp K (hid S (upd H q (.tup vs))) (.ref q) (.tuple ds) :=
  .tup (Evl.st_of (by rw [hid_at hn, upd_same])) (h.ex (Ex.hid (Evl.Ex.new hq)))
theorem Dp.newL {S : List Addr} {H : Hp} {q : Addr} {vs : List V} {ds : List PyData} (hq : H q = none) (hn : q ∉ S) (h : DpAll K (hid S H) vs ds) : Dp K (hid S (upd H q (.lst vs))) (.ref q) (.list ds) :=
  .lst (SqL.of (by rw [hid_at hn, upd_same])) (h.ex (Ex.hid (Evl.Ex.new hq)))
/-! ### reading -/
section
variable {σ : L2.St} {H H0 : Hp} {Q : VK} {x : V} {ds : List PyData} {d : PyData} {i : Nat}
theorem rd_ixDT (e : Ex H0 H) (h : Dp K H0 x (.tuple ds)) (hi : ds[i]? = some d) (q : ∀ v, Dp K H0 v d → Q v H) : rIx K x (.int (i : Int)) H Q := by
  obtain ⟨a, vs, rfl, h1, h2⟩ := Dp.tupv h
  obtain ⟨v, hv, hd⟩ := h2.get hi
  exact rd_ixT (Evl.ex_t e h1) (atI_nat hv) (q v hd)
theorem rd_ixDL (e : Ex H0 H) (h : Dp K H0 x (.list ds)) (hi : ds[i]? = some d) (q : ∀ v, Dp K H0 v d → Q v H) : rIx K x (.int (i : Int)) H Q := by
  obtain ⟨a, vs, rfl, h1, h2⟩ := Dp.lstv h
  obtain ⟨v, hv, hd⟩ := h2.get hi
  exact rd_ixL (Evl.ex_l e h1) (atI_nat hv) (q v hd)
theorem rd_lenDT (e : Ex H0 H) (h : Dp K H0 x (.tuple ds)) (q : Q (.int (ds.length : Int)) H) : cLen K [x] H Q := by
  obtain ⟨a, vs, rfl, h1, h2⟩ := Dp.tupv h
  exact rd_lenT (Evl.ex_t e h1) (by rw [h2.len]; exact q)
theorem rd_lenDL (e : Ex H0 H) (h : Dp K H0 x (.list ds)) (q : Q (.int (ds.length : Int)) H) : cLen K [x] H Q := by
  obtain ⟨a, vs, rfl, h1, h2⟩ := Dp.lstv h
  exact rd_lenL (Evl.ex_l e h1) (by rw [h2.len]; exact q)
def oIs : R2 := fun x y H Q => y = .non ∧ Q (.bl (decide (x = .non))) H
theorem rd_is {P : Prop} (h : P) : V.non = V.non ∧ P := ⟨rfl, h⟩
/-- == of the same data -/
def Lay (d : PyData) : Prop := d.canLay0 = true ∧ d.depth ≤ 64
theorem Lay.sh {d : PyData} (h : Lay d) : SeqAt.shaped d = true := Bool.and_eq_true_iff.mpr ⟨h.1, decide_eq_true h.2⟩
theorem rd_eqD {y : V} {H1 : Hp} (e0 : Ex H0 H) (e1 : Ex H1 H) (hx : Dp K H0 x d) (hy : Dp K H1 y d) (hl : Lay d) (q : Q (.bl true) H) : oEq K x y H Q :=
  .inr ⟨d, d, hx.ex e0, hy.ex e1, hl.sh, hl.sh, by rw [SeqAt.eqv_refl d hl.1]; exact q⟩
theorem rd_neD {y : V} {H1 : Hp} (e0 : Ex H0 H) (e1 : Ex H1 H) (hx : Dp K H0 x d) (hy : Dp K H1 y d) (hl : Lay d) (q : Q (.bl false) H) : oNe K x y H Q :=
  .inr ⟨d, d, hx.ex e0, hy.ex e1, hl.sh, hl.sh, by rw [SeqAt.eqv_refl d hl.1]; exact q⟩
end
/-- data that may be compared: at most so deep -/
structure Ly (d : PyData) (n : Nat) : Prop where
  c : d.canLay0 = true
  p : d.depth ≤ n
theorem Ly.lay {d : PyData} {n : Nat} (h : Ly d n) (hn : n ≤ 64) : Lay d := ⟨h.c, Nat.le_trans h.p hn⟩
theorem Ly.mono {d : PyData} {n m : Nat} (h : Ly d n) (hn : n ≤ m) : Ly d m := ⟨h.c, Nat.le_trans h.p hn⟩
theorem Ly.none : Ly .none 0 := ⟨rfl, Nat.le_refl 0⟩
theorem Ly.bool {b : Bool} : Ly (.bool b) 0 := ⟨rfl, Nat.le_refl 0⟩
theorem Ly.int {i : Int} : Ly (.int i) 0 := ⟨rfl, Nat.le_refl 0⟩
theorem Ly.str {x : Str} (h : okS x) : Ly (.str x) 0 := ⟨h, Nat.le_refl 0⟩
theorem ly_all {n : Nat} : ∀ {ds : List PyData}, (∀ d ∈ ds, Ly d n) → PyData.canLayAll0 ds = true ∧ PyData.depthAll ds ≤ n
  | [], _ => ⟨rfl, Nat.zero_le _⟩
  | d :: ds, h => by
    obtain ⟨a, b⟩ := ly_all (ds := ds) fun y hy => h y (List.mem_cons_of_mem _ hy)
    have hx := h d List.mem_cons_self
    refine ⟨?_, Nat.max_le.mpr ⟨hx.p, b⟩⟩
    show (d.canLay0 && PyData.canLayAll0 ds) = true
    rw [hx.c, a]; rfl
theorem Ly.tuple {n : Nat} {ds : List PyData} (h : ∀ d ∈ ds, Ly d n) : Ly (.tuple ds) (n + 1) := ⟨(ly_all h).1, Nat.succ_le_succ (ly_all h).2⟩
theorem Ly.list {n : Nat} {ds : List PyData} (h : ∀ d ∈ ds, Ly d n) : Ly (.list ds) (n + 1) := ⟨(ly_all h).1, Nat.succ_le_succ (ly_all h).2⟩
/-! ### walks over data -/
def YD (K : PySem.W.Frag) (ds : List PyData) (H0 : Hp) : Nat → Hp → V → Hp → Prop := fun i H v H' => H' = H ∧ ∃ d, ds[i]? = some d ∧ Dp K H0 v d
abbrev Wd (K : PySem.W.Frag) (J : It) (ds : List PyData) (H0 : Hp) : Prop := Walk J ds.length (fun H => Ex H0 H) (YD K ds H0)
theorem wd_list {H0 : Hp} {a : Addr} {vs : List V} {ds : List PyData} (h : SqL K H0 a vs) (hd : DpAll K H0 vs ds) : Wd K (Itl K a) ds H0 := by
  rw [Wd, ← hd.len]
  exact walk_list.mono (fun H e => Evl.ex_l e h) fun i H x H' _ _ y => ⟨y.1, hd.got y.2⟩
theorem wd_tup {H0 : Hp} {a : Addr} {vs : List V} {ds : List PyData} (h : SqT K H0 a vs) (hd : DpAll K H0 vs ds) : Wd K (Itt K a) ds H0 := by
  rw [Wd, ← hd.len]
  exact walk_tup.mono (fun H e => Evl.ex_t e h) fun i H x H' _ _ y => ⟨y.1, hd.got y.2⟩
section
variable {σ : L2.St} {H H0 : Hp} {Q : VK} {te : TE} {R : It → Hp → Prop} {D : Ends} {g : TG} {tb : TS} {tt : TT} {J : It} {ds : List PyData} {x : V} {vs : List Nat}
theorem rd_anyL' (h : te σ H fun x H1 => ∃ a, x = .ref a ∧ (∃ xs, SqL K H1 a xs) ∧ R (Itl K a) H1) : iAny K te σ H R := .inl h
theorem rd_anyT' (h : te σ H fun x H1 => ∃ a, x = .ref a ∧ (∃ xs, SqT K H1 a xs) ∧ R (Itt K a) H1) : iAny K te σ H R := .inr (.inl h)
theorem rd_anyS' (h : te σ H fun v H1 => ∃ x, v = .str x ∧ R (Its x) H1) : iAny K te σ H R := .inr (.inr h)
theorem rd_itDL (e : Ex H0 H) (h : Dp K H0 x (.list ds)) (q : ∀ J, Wd K J ds H0 → R J H) : ∃ a, x = .ref a ∧ (∃ xs, SqL K H a xs) ∧ R (Itl K a) H := by
  obtain ⟨a, vs, rfl, h1, h2⟩ := Dp.lstv h
  exact ⟨a, rfl, ⟨vs, Evl.ex_l e h1⟩, q _ (wd_list h1 h2)⟩
theorem rd_itDT (e : Ex H0 H) (h : Dp K H0 x (.tuple ds)) (q : ∀ J, Wd K J ds H0 → R J H) : ∃ a, x = .ref a ∧ (∃ xs, SqT K H a xs) ∧ R (Itt K a) H := by
  obtain ⟨a, vs, rfl, h1, h2⟩ := Dp.tupv h
  exact ⟨a, rfl, ⟨vs, Evl.ex_t e h1⟩, q _ (wd_tup h1 h2)⟩
theorem rd_itS {z : Str} (q : R (Its z) H) : ∃ x, V.str z = .str x ∧ R (Its x) H := ⟨z, rfl, q⟩
theorem fo_D (w : Wd K J ds H0) (Pv : Nat → L2.St → Hp → Prop) (h0 : Pv 0 σ H) (hG : ∀ i σ H, i ≤ ds.length → Pv i σ H → Ex H0 H)
    (hs : ∀ (i : Nat) d v σ H, ds[i]? = some d → Dp K H0 v d → Pv i σ H → g v σ H fun σ2 H2 => tb { D with nx := Pv (i + 1), ct := Pv (i + 1), bk := D.nx } σ2 H2) (hd : ∀ σ H, Pv ds.length σ H → D.nx σ H) : forB g tb D σ J H :=
  fo_it w Pv h0 hG (fun i v σ H H' hi p y => by
    obtain ⟨rfl, d, h1, h2⟩ := y
    exact hs i d v σ _ h1 h2 p) hd
/-- how the heap goes on from H: S may change, the rest stands -/
structure Tr (S : List Addr) (H : Hp) (T : Hp → Hp → Prop) : Prop where
  rfl' : T H H
  here : ∀ {a}, T H a → T a a
  st : ∀ {a b c}, T a b → (∃ o, a c = some o) → ∃ o : HO, b c = some o
  trans : ∀ {a b c}, T a b → T b c → T a c
  put : ∀ {L Hc o}, H L = none → T H Hc → T H (upd Hc L o)
  kp : ∀ {a b}, T a b → Kp S a b
theorem tr_ex {S : List Addr} {H : Hp} : Tr S H Ex := ⟨Evl.Ex.refl H, fun {a} _ => Evl.Ex.refl a, fun e h => h.elim fun o z => ⟨o, e _ _ z⟩, fun a b => a.trans b, fun h e => Evl.Ex.mut e h, fun e => Kp.of_ex e⟩
/-- a comprehension with a test, each value told by its turn -/
theorem lc_F {S : List Addr} {T : Hp → Hp → Prop} {n : Nat} {G : Hp → Prop} {Y : Nat → Hp → V → Hp → Prop} {P : Nat → V → Prop} {P2 : Nat → L2.St → Prop} (t : Tr S H T) (hS : ∀ b ∈ S, ∃ o, H b = some o) (w : Walk J n G Y) (hY : ∀ i H x H', i < n → Y i H x H' → H' = H ∧ P i x) (hn : n < 100000)
    (hG : ∀ Hc, T H Hc → G Hc) (p : Nat → Bool) (f : Nat → PyData)
    (hg : ∀ i x Hc (N : L2.St → Hp → Prop), i < n → P i x → T H Hc → (∀ σ2, wipe σ2 vs = wipe σ vs → P2 i σ2 → N σ2 Hc) → g x (wipe σ vs) Hc N)
    (ht : ∀ L i σ2 Hc, i < n → P2 i σ2 → H L = none → L ∉ S → T H Hc → (∀ b ∈ L :: S, ∃ o, Hc b = some o) → Ex (hid S H) (hid (L :: S) Hc) → ∀ N : Bool → Hp → Prop, (∀ H2, T Hc H2 → N (p i) H2) → tt σ2 Hc N)
    (he : ∀ L i σ2 Hc, i < n → P2 i σ2 → p i = true → H L = none → L ∉ S → T H Hc → (∀ b ∈ L :: S, ∃ o, Hc b = some o) → Ex (hid S H) (hid (L :: S) Hc) → ∀ N : VK, (∀ v H2, T Hc H2 → Dp K (hid (L :: S) H2) v (f i) → N v H2) → te σ2 Hc N)
    (h : ∀ L us Hc, T H Hc → H L = none → L ∉ S → Hc L = some (.lst us) → DpAll K (hid (L :: S) Hc) us (((List.range n).filter p).map f) → Q (.ref L) Hc) : lcB g tt te vs σ Q J H := by
  intro L hL
  have nL : L ∉ S := notin_of hS hL
  have up : ∀ {Hc}, T H Hc → Ex (hid S H) (hid (L :: S) Hc) := fun q => (t.kp q).up fun b hb hn => by
    rcases List.mem_cons.mp hb with z | z
    · rw [z]; exact hL
    · exact absurd z hn
  have kL : ∀ {a b : Hp} {o}, T a b → a L = some o → b L = some o := fun q z => t.kp q L _ nL z
  have hz : ∀ m, m ≤ n → (((List.range m).filter p).map f).length < sizeLine := fun m hm => by
    rw [List.length_map]
    have := List.length_filter_le p (List.range m)
    rw [List.length_range] at this
    exact Nat.lt_of_le_of_lt (Nat.le_trans this hm) (Nat.lt_trans hn (by decide))
  refine lc_it w (fun i Hc => i ≤ n ∧ T H Hc ∧ ∃ us, Hc L = some (.lst us) ∧ DpAll K (hid (L :: S) Hc) us (((List.range i).filter p).map f)) ⟨Nat.zero_le _, t.put hL t.rfl', [], upd_same, .nil⟩ (fun i Hc _ q => hG Hc q.2.1) (fun i x Hc H' hi q y => ?_) fun Hc q => ?_
  · obtain ⟨hi1, t1, us, h1, h2⟩ := q
    obtain ⟨rfl, px⟩ := hY _ _ _ _ hi y
    refine hg i x _ _ hi px t1 fun σ2 hw p2 => ⟨hw, ?_⟩
    have hs1 : ∀ b ∈ L :: S, ∃ o, H' b = some o := fun b hb => by
      rcases List.mem_cons.mp hb with z | z
      · rw [z]; exact ⟨_, h1⟩
      · exact t.st t1 (hS b z)
    refine ht L i σ2 _ hi p2 hL nL t1 hs1 (up t1) _ fun H2 t2 => ?_
    cases hp : p i with
    | true =>
      refine rd_iteT ?_
      refine he L i σ2 H2 hi p2 hp hL nL (t.trans t1 t2) (fun b hb => t.st t2 (hs1 b hb)) (up (t.trans t1 t2)) _ fun v H3 t3 dv => ?_
      have k23 := (t.kp (t.trans t2 t3)).sub (S' := L :: S) fun b hb => List.mem_cons_of_mem _ hb
      refine ⟨us, kL t3 (kL t2 h1), by rw [h2.len]; exact hz i hi1, hi, t.put hL (t.trans (t.trans t1 t2) t3), us ++ [v], upd_same, ?_⟩
      rw [List.range_succ, List.filter_append, List.map_append]
      have e : ((List.filter p [i]).map f) = [f i] := by
        rw [List.filter_cons, if_pos hp]
        rfl
      rw [e]
      exact ((h2.ex k23.ex).snoc dv).ex (Kp.put List.mem_cons_self).ex
    | false =>
      refine rd_iteF ?_
      have k12 := (t.kp t2).sub (S' := L :: S) fun b hb => List.mem_cons_of_mem _ hb
      refine ⟨hi, t.trans t1 t2, us, kL t2 h1, ?_⟩
      rw [List.range_succ, List.filter_append, List.map_append]
      have e : ((List.filter p [i]).map f) = [] := by
        rw [List.filter_cons, if_neg (by rw [hp]; exact Bool.false_ne_true)]
        rfl
      rw [e, List.append_nil]
      exact h2.ex k12.ex
  · obtain ⟨_, t1, us, h1, h2⟩ := q
    exact h L us Hc t1 hL nL h1 h2
/-- a comprehension without a test, each value told by a relation -/
theorem lc_R {S : List Addr} {T : Hp → Hp → Prop} {n : Nat} {G : Hp → Prop} {Y : Nat → Hp → V → Hp → Prop} {P : Nat → V → Prop} {P2 : Nat → L2.St → Prop} (t : Tr S H T) (hS : ∀ b ∈ S, ∃ o, H b = some o) (w : Walk J n G Y) (hY : ∀ i H x H', i < n → Y i H x H' → H' = H ∧ P i x) (hn : n < 100000)
    (hG : ∀ Hc, T H Hc → G Hc) (R : Nat → PyData → Prop)
    (hg : ∀ i x Hc (N : L2.St → Hp → Prop), i < n → P i x → T H Hc → (∀ σ2, wipe σ2 vs = wipe σ vs → P2 i σ2 → N σ2 Hc) → g x (wipe σ vs) Hc N)
    (he : ∀ L i σ2 Hc, i < n → P2 i σ2 → H L = none → L ∉ S → T H Hc → (∀ b ∈ L :: S, ∃ o, Hc b = some o) → Ex (hid S H) (hid (L :: S) Hc) → ∀ N : VK, (∀ v d H2, T Hc H2 → Dp K (hid (L :: S) H2) v d → R i d → N v H2) → te σ2 Hc N)
    (h : ∀ L us Hc ds, T H Hc → H L = none → L ∉ S → Hc L = some (.lst us) → DpAll K (hid (L :: S) Hc) us ds → ds.length = n → (∀ i d, ds[i]? = some d → R i d) → Q (.ref L) Hc) : lcB g tYes te vs σ Q J H := by
  intro L hL
  have nL : L ∉ S := notin_of hS hL
  have up : ∀ {Hc}, T H Hc → Ex (hid S H) (hid (L :: S) Hc) := fun q => (t.kp q).up fun b hb hn => by
    rcases List.mem_cons.mp hb with z | z
    · rw [z]; exact hL
    · exact absurd z hn
  have kL : ∀ {a b : Hp} {o}, T a b → a L = some o → b L = some o := fun q z => t.kp q L _ nL z
  refine lc_it w (fun i Hc => i ≤ n ∧ T H Hc ∧ ∃ us ds, Hc L = some (.lst us) ∧ DpAll K (hid (L :: S) Hc) us ds ∧ ds.length = i ∧ ∀ i d, ds[i]? = some d → R i d) ⟨Nat.zero_le _, t.put hL t.rfl', [], [], upd_same, .nil, rfl, fun i d z => by simp at z⟩ (fun i Hc _ q => hG Hc q.2.1) (fun i x Hc H' hi q y => ?_) fun Hc q => ?_
  · obtain ⟨hi1, t1, us, ds, h1, h2, h3, h4⟩ := q
    obtain ⟨rfl, px⟩ := hY _ _ _ _ hi y
    refine hg i x _ _ hi px t1 fun σ2 hw p2 => ⟨hw, rd_yes ?_⟩
    refine rd_iteT ?_
    have hs1 : ∀ b ∈ L :: S, ∃ o, H' b = some o := fun b hb => by
      rcases List.mem_cons.mp hb with z | z
      · rw [z]; exact ⟨_, h1⟩
      · exact t.st t1 (hS b z)
    refine he L i σ2 _ hi p2 hL nL t1 hs1 (up t1) _ fun v d H3 t3 dv rv => ?_
    have k23 := (t.kp t3).sub (S' := L :: S) fun b hb => List.mem_cons_of_mem _ hb
    refine ⟨us, kL t3 h1, by rw [h2.len, h3]; exact Nat.lt_of_lt_of_le (Nat.lt_trans hi hn) (by decide), hi, t.put hL (t.trans t1 t3), us ++ [v], ds ++ [d], upd_same, ((h2.ex k23.ex).snoc dv).ex (Kp.put List.mem_cons_self).ex, by rw [List.length_append, h3]; rfl, fun i' d' hd' => ?_⟩
    by_cases hlt : i' < ds.length
    · rw [List.getElem?_append_left hlt] at hd'
      exact h4 i' d' hd'
    · rw [List.getElem?_append_right (by omega)] at hd'
      have e0 : i' - ds.length = 0 := by
        rcases Nat.eq_zero_or_pos (i' - ds.length) with z | z
        · exact z
        · rw [List.getElem?_eq_none (by simp; omega)] at hd'
          cases hd'
      rw [e0] at hd'
      obtain rfl : d = d' := Option.some.inj hd'
      have e3 : i' = i := by omega
      rw [e3]
      exact rv
  · obtain ⟨_, t1, us, ds, h1, h2, h3, h4⟩ := q
    exact h L us Hc ds t1 hL nL h1 h2 h3 h4
/-- one name as the target -/
theorem hg_name {T : Hp → Hp → Prop} {n j : Nat} {P : Nat → V → Prop} {H : Hp} (hw : ∀ v : V, wipe ((wipe σ [j]).set j (some v)) [j] = wipe σ [j]) : ∀ i x Hc (N : L2.St → Hp → Prop), i < n → P i x → T H Hc → (∀ σ2, wipe σ2 [j] = wipe σ [j] → (∃ v, P i v ∧ σ2 = (wipe σ [j]).set j (some v)) → N σ2 Hc) → gName j x (wipe σ [j]) Hc N :=
  fun i x Hc N _ p _ h => h _ (hw x) ⟨x, p, rfl⟩
theorem wd_Y {n : Nat} : ∀ (i : Nat) (H : Hp) (x : V) (H' : Hp), i < n → YD K ds H0 i H x H' → H' = H ∧ ∃ d, ds[i]? = some d ∧ Dp K H0 x d := fun _ _ _ _ _ y => y
theorem str_Y {z : Str} : ∀ (i : Nat) (H : Hp) (x : V) (H' : Hp), i < z.cps.size → (H' = H ∧ ∃ c, z.cps[i]? = some c ∧ x = .str ⟨#[c]⟩) → H' = H ∧ ∃ c, z.cps.toList[i]? = some c ∧ x = V.str ⟨#[c]⟩ := fun i H x H' _ y => ⟨y.1, by
  obtain ⟨c, h1, h2⟩ := y.2
  exact ⟨c, by rw [Array.getElem?_toList]; exact h1, h2⟩⟩
/-! over data, one name as the target -/
theorem getD_range {α β : Type} (l : List α) (a : α) (q : α → Bool) (f : α → β) : ((List.range l.length).filter (fun i => q (l.getD i a))).map (fun i => f (l.getD i a)) = (l.filter q).map f := by
  have e : (List.range l.length).map (fun i => l.getD i a) = l := by
    refine List.ext_getElem (by simp) fun i h1 h2 => ?_
    rw [List.getElem_map, List.getElem_range, List.getD_eq_getElem?_getD, List.getElem?_eq_getElem h2]
    rfl
  have h : ((List.range l.length).map (fun i => l.getD i a)).filter q = ((List.range l.length).filter (fun i => q (l.getD i a))).map (fun i => l.getD i a) := List.filter_map ..
  rw [e] at h
  rw [h, List.map_map]
  rfl
theorem lc_FD {S : List Addr} {T : Hp → Hp → Prop} {j : Nat} (t : Tr S H T) (hS : ∀ b ∈ S, ∃ o, H b = some o) (w : Wd K J ds H0) (e0 : Ex H0 (hid S H)) (hn : ds.length < 100000) (hw : ∀ v : V, wipe ((wipe σ [j]).set j (some v)) [j] = wipe σ [j])
    (q : PyData → Bool) (F : PyData → PyData)
    (ht : ∀ L d v Hc, d ∈ ds → Dp K (hid (L :: S) Hc) v d → H L = none → L ∉ S → T H Hc → (∀ b ∈ L :: S, ∃ o, Hc b = some o) → Ex (hid S H) (hid (L :: S) Hc) → ∀ N : Bool → Hp → Prop, (∀ H2, T Hc H2 → N (q d) H2) → tt ((wipe σ [j]).set j (some v)) Hc N)
    (he : ∀ L d v Hc, d ∈ ds → Dp K (hid (L :: S) Hc) v d → q d = true → H L = none → L ∉ S → T H Hc → (∀ b ∈ L :: S, ∃ o, Hc b = some o) → Ex (hid S H) (hid (L :: S) Hc) → ∀ N : VK, (∀ v H2, T Hc H2 → Dp K (hid (L :: S) H2) v (F d) → N v H2) → te ((wipe σ [j]).set j (some v)) Hc N)
    (h : ∀ L us Hc, T H Hc → H L = none → L ∉ S → Hc L = some (.lst us) → DpAll K (hid (L :: S) Hc) us ((ds.filter q).map F) → Q (.ref L) Hc) : lcB (gName j) tt te [j] σ Q J H := by
  have hd : ∀ {i : Nat} {d : PyData}, ds[i]? = some d → ds.getD i .none = d := fun z => by rw [List.getD_eq_getElem?_getD, z]; rfl
  refine lc_F (K := K) (P := fun i x => ∃ d, ds[i]? = some d ∧ Dp K H0 x d) t hS w wd_Y hn (fun Hc z => (e0.trans (t.kp z).ex).trans hid_ex) (fun i => q (ds.getD i .none)) (fun i => F (ds.getD i .none)) (hg_name hw) (fun L i σ2 Hc hi p2 hL nL t1 hs up N hN => ?_) (fun L i σ2 Hc hi p2 hp hL nL t1 hs up N hN => ?_) fun L us Hc t1 hL nL h1 h2 => ?_
  · obtain ⟨v, ⟨d, h1, h2⟩, rfl⟩ := p2
    exact ht L d v Hc (List.mem_of_getElem? h1) (h2.ex (e0.trans up)) hL nL t1 hs up N fun H2 t2 => by have := hN H2 t2; rw [hd h1] at this; exact this
  · obtain ⟨v, ⟨d, h1, h2⟩, rfl⟩ := p2
    rw [hd h1] at hp
    exact he L d v Hc (List.mem_of_getElem? h1) (h2.ex (e0.trans up)) hp hL nL t1 hs up N fun v2 H2 t2 d2 => hN v2 H2 t2 (by rw [hd h1]; exact d2)
  · rw [getD_range] at h2
    exact h L us Hc t1 hL nL h1 h2
theorem lc_MD {S : List Addr} {T : Hp → Hp → Prop} {j : Nat} (t : Tr S H T) (hS : ∀ b ∈ S, ∃ o, H b = some o) (w : Wd K J ds H0) (e0 : Ex H0 (hid S H)) (hn : ds.length < 100000) (hw : ∀ v : V, wipe ((wipe σ [j]).set j (some v)) [j] = wipe σ [j])
    (F : PyData → PyData)
    (he : ∀ L d v Hc, d ∈ ds → Dp K (hid (L :: S) Hc) v d → H L = none → L ∉ S → T H Hc → (∀ b ∈ L :: S, ∃ o, Hc b = some o) → Ex (hid S H) (hid (L :: S) Hc) → ∀ N : VK, (∀ v H2, T Hc H2 → Dp K (hid (L :: S) H2) v (F d) → N v H2) → te ((wipe σ [j]).set j (some v)) Hc N)
    (h : ∀ L us Hc, T H Hc → H L = none → L ∉ S → Hc L = some (.lst us) → DpAll K (hid (L :: S) Hc) us (ds.map F) → Q (.ref L) Hc) : lcB (gName j) tYes te [j] σ Q J H := by
  refine lc_FD (K := K) t hS w e0 hn hw (fun _ => true) F (fun L d v Hc _ _ _ _ t1 _ _ N hN => rd_yes (hN Hc (t.here t1))) (fun L d v Hc hm hd _ hL nL t1 hs up N hN => he L d v Hc hm hd hL nL t1 hs up N hN) fun L us Hc t1 hL nL h1 h2 => ?_
  rw [List.filter_eq_self.mpr fun _ _ => rfl] at h2
  exact h L us Hc t1 hL nL h1 h2
theorem ex_up1 {H H' : Hp} {q : Addr} (e : Ex H H') (hq : H q = none) : Ex H (hid [q] H') := fun b o z => by
  rw [hid_at (fun m => by rw [List.mem_singleton.mp m, hq] at z; cases z)]
  exact e b o z
theorem st1 {H : Hp} {q : Addr} {o : HO} (h : H q = some o) : ∀ b ∈ [q], ∃ o, H b = some o := fun b hb => by
  cases List.mem_singleton.mp hb
  exact ⟨o, h⟩
theorem sts_ex {S : List Addr} {H H' : Hp} (h : ∀ b ∈ S, ∃ o, H b = some o) (e : Ex H H') : ∀ b ∈ S, ∃ o, H' b = some o := fun b hb => by
  obtain ⟨o, z⟩ := h b hb
  exact ⟨o, e b o z⟩
theorem ex_nil {H H' : Hp} (e : Ex H H') : Ex H (hid [] H') := by rw [hid_nil]; exact e
def isN : PyData → Bool
  | .none => true
  | _ => false
theorem isN_dp {H : Hp} {v : V} {d : PyData} (h : Dp K H v d) : decide (v = .non) = isN d := by
  cases h <;> rfl
/-- the values of plain data -/
theorem dp_strs {H : Hp} : ∀ {vs : List V} {ss : List Str}, DpAll K H vs (ss.map PyData.str) → vs = ss.map V.str
  | _, [], h => by cases h; rfl
  | _, s :: ss, h => by
    cases h with
    | cons h1 h2 => rw [Dp.str_iff h1, dp_strs h2]; rfl
theorem dp_ints' {H : Hp} : ∀ {vs : List V} {ss : List Int}, DpAll K H vs (ss.map PyData.int) → vs = ss.map V.int
  | _, [], h => by cases h; rfl
  | _, s :: ss, h => by
    cases h with
    | cons h1 h2 => rw [Dp.int_iff h1, dp_ints' h2]; rfl
theorem dp_bls {H : Hp} : ∀ {vs : List V} {ss : List Bool}, DpAll K H vs (ss.map PyData.bool) → vs = ss.map V.bl
  | _, [], h => by cases h; rfl
  | _, s :: ss, h => by
    cases h with
    | cons h1 h2 => rw [Dp.bl_iff h1, dp_bls h2]; rfl
theorem dps_str {H : Hp} (ss : List Str) : DpAll K H (ss.map V.str) (ss.map PyData.str) := DpAll.mapV _ _ _ fun x _ => .str x
theorem dps_int {H : Hp} (ss : List Int) : DpAll K H (ss.map V.int) (ss.map PyData.int) := DpAll.mapV _ _ _ fun x _ => .int x
theorem dps_bl {H : Hp} (ss : List Bool) : DpAll K H (ss.map V.bl) (ss.map PyData.bool) := DpAll.mapV _ _ _ fun x _ => .bl x
end
end
section
variable {X : Cx} (K : PySem.W.Frag) (hK : X.K = K := by rfl)
include hK
theorem kGt {e : Expr} {n : Nat} {t : TGs} (h : PG X e (gTup X.K n t)) : PG X e (gTup K n t) := hK ▸ h
end
section
variable {K : PySem.W.Frag} {σ : L2.St} {H H0 : Hp} {v : V} {Q : L2.St → Hp → Prop} {t : TGs} {ds : List PyData}
/-- a, b = a tuple of data -/
theorem rd_gtD {n : Nat} (e : Ex H0 H) (h : Dp K H0 v (.tuple ds)) (hn : ds.length = n) (q : ∀ xs, DpAll K H0 xs ds → t xs σ H Q) : gTup K n t v σ H Q := by
  obtain ⟨a, vs, rfl, h1, h2⟩ := Dp.tupv h
  exact ⟨a, vs, rfl, Evl.ex_t e h1, by rw [h2.len, hn], q vs h2⟩
theorem dp2 {a b : PyData} {xs : List V} (h : DpAll K H0 xs [a, b]) : ∃ x y, xs = [x, y] ∧ Dp K H0 x a ∧ Dp K H0 y b := by
  cases h with
  | cons h1 h =>
    cases h with
    | cons h2 h =>
      cases h
      exact ⟨_, _, rfl, h1, h2⟩
theorem rd_gN {i : Nat} {tg : TGs} {x : V} {xs : List V} (h : tg xs (σ.set i (some x)) H Q) : gCons (gName i) tg (x :: xs) σ H Q := ⟨_, _, rfl, h⟩
theorem rd_gE (h : Q σ H) : gNil [] σ H Q := ⟨rfl, h⟩
end
/-! ### hiding what data can't reach -/
mutual
def noList : PyData → Bool
  | .list _ => false
  | .tuple ds => noListAll ds
  | _ => true
def noListAll : List PyData → Bool
  | [] => true
  | d :: ds => noList d && noListAll ds
end
section
variable {K : PySem.W.Frag} {S : List Addr} {H : Hp}
theorem sqt_hid (h : ∀ b ∈ S, (∃ C dx fs, H b = some (.ins C dx fs)) ∨ ∃ xs, H b = some (.lst xs)) {a : Addr} {vs : List V} (q : SqT K H a vs) : SqT K (hid S H) a vs := by
  rcases q with (q | ⟨o, q⟩) | q
  · refine .inl (.inl ?_)
    rw [hid_at fun hb => ?_]
    · exact q
    · rcases h a hb with ⟨_, _, _, z⟩ | ⟨_, z⟩ <;> rw [z] at q <;> cases q
  · refine .inl (.inr ⟨o, ?_⟩)
    rw [hid_at fun hb => ?_]
    · exact q
    · rcases h a hb with ⟨_, _, _, z⟩ | ⟨_, z⟩ <;> rw [z] at q <;> cases q
  · exact .inr q
theorem sql_hid (h : ∀ b ∈ S, ∃ C dx fs, H b = some (.ins C dx fs)) {a : Addr} {vs : List V} (q : SqL K H a vs) : SqL K (hid S H) a vs := by
  rcases q with (q | ⟨o, q⟩) | q
  · refine .inl (.inl ?_)
    rw [hid_at fun hb => ?_]
    · exact q
    · obtain ⟨_, _, _, z⟩ := h a hb
      rw [z] at q; cases q
  · refine .inl (.inr ⟨o, ?_⟩)
    rw [hid_at fun hb => ?_]
    · exact q
    · obtain ⟨_, _, _, z⟩ := h a hb
      rw [z] at q; cases q
  · exact .inr q
mutual
theorem Dp.hidI (h : ∀ b ∈ S, ∃ C dx fs, H b = some (.ins C dx fs)) : ∀ (d : PyData) {v : V}, Dp K H v d → Dp K (hid S H) v d
  | .none, _, q => by cases q; exact .non
  | .bool b, _, q => by cases q; exact .bl b
  | .int i, _, q => by cases q; exact .int i
  | .str x, _, q => by cases q; exact .str x
  | .list ds, _, q => by
    cases q with
    | lst hs ha => exact .lst (sql_hid h hs) (DpAll.hidI h ds ha)
  | .tuple ds, _, q => by
    cases q with
    | tup hs ha => exact .tup (sqt_hid (fun b hb => .inl (h b hb)) hs) (DpAll.hidI h ds ha)
  | .dict _, _, q => by cases q
theorem DpAll.hidI (h : ∀ b ∈ S, ∃ C dx fs, H b = some (.ins C dx fs)) : ∀ (ds : List PyData) {vs : List V}, DpAll K H vs ds → DpAll K (hid S H) vs ds
  | [], _, q => by cases q; exact .nil
  | d :: ds, _, q => by
    cases q with
    | cons h1 h2 => exact .cons (Dp.hidI h d h1) (DpAll.hidI h ds h2)
end
mutual
theorem Dp.hidT (h : ∀ b ∈ S, (∃ C dx fs, H b = some (.ins C dx fs)) ∨ ∃ xs, H b = some (.lst xs)) : ∀ (d : PyData) {v : V}, noList d = true → Dp K H v d → Dp K (hid S H) v d
  | .none, _, _, q => by cases q; exact .non
  | .bool b, _, _, q => by cases q; exact .bl b
  | .int i, _, _, q => by cases q; exact .int i
  | .str x, _, _, q => by cases q; exact .str x
  | .list ds, _, n, q => by cases n
  | .tuple ds, _, n, q => by
    cases q with
    | tup hs ha => exact .tup (sqt_hid h hs) (DpAll.hidT h ds n ha)
  | .dict _, _, _, q => by cases q
theorem DpAll.hidT (h : ∀ b ∈ S, (∃ C dx fs, H b = some (.ins C dx fs)) ∨ ∃ xs, H b = some (.lst xs)) : ∀ (ds : List PyData) {vs : List V}, noListAll ds = true → DpAll K H vs ds → DpAll K (hid S H) vs ds
  | [], _, _, q => by cases q; exact .nil
  | d :: ds, _, n, q => by
    obtain ⟨n1, n2⟩ := Bool.and_eq_true_iff.mp n
    cases q with
    | cons h1 h2 => exact .cons (Dp.hidT h d n1 h1) (DpAll.hidT h ds n2 h2)
end
theorem noList_all {ds : List PyData} (h : ∀ d ∈ ds, noList d = true) : noListAll ds = true := by
  induction ds with
  | nil => rfl
  | cons d ds ih =>
    show (noList d && noListAll ds) = true
    rw [h d List.mem_cons_self, ih fun e he => h e (List.mem_cons_of_mem _ he)]
    rfl
/-- a list or a tuple of data -/
def SqD (K : PySem.W.Frag) (H : Hp) (x : V) (ds : List PyData) : Prop := Dp K H x (.list ds) ∨ Dp K H x (.tuple ds)
theorem SqD.ex {H' : Hp} {x : V} {ds : List PyData} (h : SqD K H x ds) (e : Ex H H') : SqD K H' x ds := h.elim (fun z => .inl (z.ex e)) fun z => .inr (z.ex e)
theorem rd_anySq {σ : L2.St} {H0 : Hp} {te : TE} {x : V} {ds : List PyData} {R : It → Hp → Prop} (he : ∀ Q : VK, Q x H → te σ H Q) (e : Ex H0 H) (h : SqD K H0 x ds) (q : ∀ J, Wd K J ds H0 → R J H) : iAny K te σ H R := by
  rcases h with h | h
  · exact rd_anyL' (he _ (rd_itDL e h q))
  · exact rd_anyT' (he _ (rd_itDT e h q))
/-- tuple(x) -/
theorem rd_tupSq {S : List Addr} {H0 : Hp} {x : V} {ds : List PyData} {Q : VK} (hs : ∀ b ∈ S, ∃ o, H b = some o) (e : Ex H0 (hid S H)) (h : SqD K H0 x ds) (q : ∀ a H', Ex H H' → Dp K (hid S H') (.ref a) (.tuple ds) → Q (.ref a) H') : cTupOf K [x] H Q := by
  rcases h with h | h
  · obtain ⟨a, vs, rfl, h1, h2⟩ := Dp.lstv h
    exact rd_tupL (Evl.ex_l (e.trans hid_ex) h1) fun l hl => q l _ (Evl.Ex.new hl) (Dp.newT hl (notin_of hs hl) (h2.ex e))
  · obtain ⟨a, vs, rfl, h1, h2⟩ := Dp.tupv h
    exact rd_tupT (Evl.ex_t (e.trans hid_ex) h1) (q a H (Evl.Ex.refl H) (h.ex e))
/-- list(x) -/
theorem rd_lstSq {S : List Addr} {H0 : Hp} {x : V} {ds : List PyData} {Q : VK} (e : Ex H0 (hid S H)) (h : SqD K H0 x ds) (q : ∀ l vs, H l = none → DpAll K (hid S H) vs ds → Q (.ref l) (upd H l (.lst vs))) : cLstOf K [x] H Q := by
  rcases h with h | h
  · obtain ⟨a, vs, rfl, h1, h2⟩ := Dp.lstv h
    exact rd_lstL (.inl (Evl.ex_l (e.trans hid_ex) h1)) fun l hl => q l vs hl (h2.ex e)
  · obtain ⟨a, vs, rfl, h1, h2⟩ := Dp.tupv h
    exact rd_lstL (.inr (Evl.ex_t (e.trans hid_ex) h1)) fun l hl => q l vs hl (h2.ex e)
end
section
variable {K : PySem.W.Frag} {H : Hp}
theorem rd_lstSq0 {H0 : Hp} {x : V} {ds : List PyData} {Q : VK} (e : Ex H0 H) (h : SqD K H0 x ds) (q : ∀ l vs, H l = none → DpAll K H0 vs ds → Q (.ref l) (upd H l (.lst vs))) : cLstOf K [x] H Q := by
  rcases h with h | h
  · obtain ⟨a, vs, rfl, h1, h2⟩ := Dp.lstv h
    exact rd_lstL (.inl (Evl.ex_l e h1)) fun l hl => q l vs hl h2
  · obtain ⟨a, vs, rfl, h1, h2⟩ := Dp.tupv h
    exact rd_lstL (.inr (Evl.ex_t e h1)) fun l hl => q l vs hl h2
end
theorem rd_par3 {i j l : Nat} {ta : TA} {D : Ends} {σ : L2.St} {H : Hp} (h : ta σ H fun vs H1 => ∃ u v w, vs = [u, v, w] ∧ D.nx (((σ.set i (some u)).set j (some v)).set l (some w)) H1) : tPar3 i j l ta D σ H := h
theorem rd_v3 {u v w : V} {P : V → V → V → Prop} (h : P u v w) : ∃ u' v' w', [u, v, w] = [u', v', w'] ∧ P u' v' w' := ⟨u, v, w, rfl, h⟩
end AT

set_option Elab.async false
set_option linter.all false
set_option maxRecDepth 100000
set_option maxHeartbeats 4000000
/-! own words, fifth part: dicts whose keys are tuples, lists unpacked, while -/
namespace AT
open PySem PySem.Spec PyProof.Rows L2
/-- {k: v}, the key a tuple -/
def tDisp1T (tk tv : TE) : TE := fun σ H Q => ∀ p, H p = none → tk σ (upd H p (.dT [])) fun x H1 => tv σ H1 fun y H2 => H2 p = some (.dT []) ∧ ∃ (b : Addr) (k : List Key), x = .ref b ∧ H2 b = some (.tup (k.map kV)) ∧ Q (.ref p) (upd H2 p (.dT [(k, y)]))
section
variable {X : Cx} {pos : Pos} {k v : Expr} {tk tv : TE}
theorem pe_disp1T (hu : X.A.units + 1 < cLine) (hk : PE X k tk) (hv : PE X v tv) : PE X (.Dict [some k] [v] pos) (tDisp1T tk tv) := by
  refine ⟨fun pins s σ H Q I q => ?_⟩
  have hn := I.hok.fresh (Nat.le_refl s.heap.objs.size)
  have I1 := I.laid (a := s.heap.objs.size) (o := .dT []) (t' := s.toks) (fun _ _ z => Heap.get?_push_of_some _ z) (Nat.le_refl _) (dt_empty s.heap I.big)
  have hz := zip_pairTrees [some k] [v] X.env pos rfl rfl
  have hl : (pairTrees [some k] [v] X.env pos).length = 1 := pairTrees_length [some k] [v] X.env pos rfl rfl
  have hne : pairTrees [some k] [v] X.env pos ≠ [] := fun z => by rw [z] at hl; cases hl
  have room : (tupleKind (mixKind X.prog X.w)).room X.A := Nat.lt_of_succ_lt hu
  rw [arm_eval_Dict, hz, dictDisplay_pairs _ hne (by rw [hl]; decide)]
  refine wpAny_bind (wpAny_standAt (wpAny_bind ?_))
  refine wpAny_subDictH (knd := tupleKind (mixKind X.prog X.w)) room (by rw [hl]; decide) ?_
  refine pairTrees_cons_walk (thn (hk.run pins _ σ _ _ I1 (q _ hn)) fun u s1 ⟨x, H1, I1', rx, q1⟩ => thn (hv.run pins s1 σ H1 _ I1' q1) fun w2 s2 ⟨y, H2, I2, ry, q2⟩ => pairTrees_nil_walk ?_)
  obtain ⟨e, b, ks, rfl, eb, q3⟩ := q2
  cases (show u = Value.ref b from rx)
  obtain ⟨z, hd, xs0, r0, dd⟩ := dt_of I2.hok e
  cases r0
  refine ⟨[(ks, b, w2)], ⟨rfl, rfl, key_of I2.hok eb, True.intro⟩, dd, fun h' tk dd' hs => wpAny_pure ⟨.ref s.heap.objs.size, _, ?_, rfl, q3⟩⟩
  have e1 : storedAllH [] [(ks, b, w2)] = [(ks, b, w2)] := rfl
  rw [e1] at dd'
  obtain ⟨o, es, ep, ho, h2, h3, h4, h5, h6⟩ := dd'
  refine d_write I2 (by rw [e]; exact True.intro) hs ⟨o, ho⟩ ⟨by show 1 ≤ sizeLine; decide, hd, [(ks, b, w2)], .cons ⟨rfl, ?_, ry⟩ .nil, o, es, ep, ho, h2, h3, h4, h6⟩
  show upd H2 s.heap.objs.size _ b = _
  rw [upd_ne (ne_of eb e (fun z => nomatch z))]
  exact eb
end
section
variable {X : Cx} (K : PySem.W.Frag) (hK : X.K = K := by rfl)
include hK
theorem kGl {e : Expr} {n : Nat} {t : TGs} (h : PG X e (gLst X.K n t)) : PG X e (gLst K n t) := hK ▸ h
end
section
variable {K : PySem.W.Frag} {σ : L2.St} {H : Hp} {Q : VK} {D : Ends} {td ty tv tk : TE} {tt : TT} {tb : TS}
theorem rd_dget (h : td σ H fun x H1 => ty σ H1 fun y H2 => ∃ a v, x = .ref a ∧ DGet H2 a y (some v) ∧ Q v H2) : tDGet td ty σ H Q := h
theorem rd_din (h : ty σ H fun y H1 => td σ H1 fun x H2 => ∃ a o, x = .ref a ∧ DGet H2 a y o ∧ Q (.bl o.isSome) H2) : tDIn ty td σ H Q := h
theorem rd_dnin (h : ty σ H fun y H1 => td σ H1 fun x H2 => ∃ a o, x = .ref a ∧ DGet H2 a y o ∧ Q (.bl (!o.isSome)) H2) : tDNotIn ty td σ H Q := h
theorem rd_dput (h : tv σ H fun v H1 => td σ H1 fun x H2 => ty σ H2 fun y H3 => ∃ a H4, x = .ref a ∧ DPut H3 a y v H4 ∧ D.nx σ H4) : sDPut td ty tv D σ H := h
theorem rd_disp1T (h : ∀ p, H p = none → tk σ (upd H p (.dT [])) fun x H1 => tv σ H1 fun y H2 => H2 p = some (.dT []) ∧ ∃ (b : Addr) (k : List Key), x = .ref b ∧ H2 b = some (.tup (k.map kV)) ∧ Q (.ref p) (upd H2 p (.dT [(k, y)]))) : tDisp1T tk tv σ H Q := h
theorem rd_dnK (h : ∀ p, H p = none → Q (.ref p) (upd H p (.dK []))) : tDNewK σ H Q := h
theorem rd_dnT (h : ∀ p, H p = none → Q (.ref p) (upd H p (.dT []))) : tDNewT σ H Q := h
theorem rd_wh (W : Nat → L2.St → Hp → Prop) (m0 : Nat) (h0 : W m0 σ H) (hs : ∀ m σ' H', W m σ' H' → tt σ' H' fun b H1 => if b = true then ∃ N : L2.St → Hp → Prop, (∀ σ2 H2, N σ2 H2 → ∃ m', m' < m ∧ W m' σ2 H2) ∧ tb { D with nx := N, ct := N, bk := D.nx } σ' H1 else D.nx σ' H1) : tWhile tt tb D σ H := ⟨W, ⟨m0, h0⟩, hs⟩
end
end AT

set_option Elab.async false
set_option linter.all false
set_option maxRecDepth 100000
set_option maxHeartbeats 4000000
/-! own words, sixth part: enumerate over tuples and texts -/
namespace AT
open PySem PySem.Spec PyProof.Rows L2
open AutoSeq1 (wpAny_loadPart')
section
theorem tupIn {h : Heap} {a : Addr} {its : Array Value} (p : IsTup h a its) : h.IsTuple a its := by
  obtain ⟨o, e1, e2, n, e3⟩ := p
  exact ⟨o, e1, e2, n, e3⟩
/-- a tuple, item by item -/
theorem draws_tup {P : Program} {w : World} {B : Around} (calm : B.handled = none) (z q : Addr) (hq : q ≠ z) (vs : Array Value) :
    Draws P w B z [z, q] vs.size (fun k v => vs[k]? = some v) (fun k g => g.IsTupleIter z q k ∧ g.IsTuple q vs) := by
  refine ⟨fun _ _ st => ?_, fun _ _ _ st hk => ?_, fun k s Q E hk st hQ => ?_, fun s Q E st hE => ?_⟩
  · obtain ⟨⟨o, e, _⟩, _⟩ := st
    exact ⟨o, e⟩
  · exact ⟨Heap.IsTupleIter.at st.1 fun o e => hk z List.mem_cons_self o e, Heap.IsTuple.at st.2 fun o e => hk q (List.mem_cons_of_mem _ List.mem_cons_self) o e⟩
  · have hx : vs[k]? = some vs[k] := by simp [hk]
    exact RZ.nextOf_tuple_item st.1 st.2 hx fun g g1 g2 => hQ _ g s.toks hx ⟨g1, Heap.IsTuple.extBut st.2 g2.extBut hq⟩ g2
  · exact RZ.nextOf_tuple_end calm st.1 st.2 (by simp) hE
theorem enumNewT (q : Addr) (vs : Array Value) (k : Nat) (od : Option Addr) (sl : Array (Option Value)) :
    Meets (Builtin.«enumerate.__new__» ⟨[.type "enumerate", .ref q], []⟩) (fun _ R s => s.heap.get? q = some ⟨.type "tuple", od, .seq vs k, sl⟩ ∧
      R (.ok (.ret (.ref (s.heap.push { cls := .type "tuple_iterator", data := .fields #[.ref q, .int 0 0] }).objs.size)))
        ⟨(s.heap.push { cls := .type "tuple_iterator", data := .fields #[.ref q, .int 0 0] }).push { cls := .type "enumerate", data := .fields #[.none, .bool false, .ref s.heap.objs.size, rawInt 0, .none, .none] }, s.gens, s.drawn, s.toks, s.os⟩) :=
  .of_wp fun prog w A R s h => by
    obtain ⟨hp, g, d, tk, os⟩ := s
    obtain ⟨hl, h⟩ := h
    have sub := sub_enumerate
    have tup : Heap.IsTuple (Shared.heap ⟨hp, g, d, tk, os⟩) q vs := ⟨_, hl, rfl, k, rfl⟩
    wp_walk using wpAny_loadPart' hl
    refine wpAny_stack_any fun _ => wpAny_pure ?_
    split
    · rename_i c _ _ _ _ _
      cases (c == Value.type "enumerate") <;>
        (wp_walk using wpAny_loadPart' hl, wpAny_pyIter_tuple tup
         exact ⟨_, rfl, h⟩)
    · wp_walk using wpAny_loadPart' hl, wpAny_pyIter_tuple tup
      exact ⟨_, rfl, h⟩
theorem callEnumT {P : Program} {w : World} {B : Around} {E : Value → Shared → Prop} {s : Shared} {q : Addr} {vs : Array Value} {Q : Value → Shared → Prop} (tup : s.heap.IsTuple q vs)
    (hQ : ∀ g, IsEnum g (s.heap.objs.size + 1) s.heap.objs.size 0 .none → g.IsTupleIter s.heap.objs.size q 0 → (∀ b o, s.heap.get? b = some o → g.get? b = some o) → Q (.ref (s.heap.objs.size + 1)) { s with heap := g }) :
    wpAny (model P w) B (call (.type "enumerate") [.ref q]) Q E s := by
  obtain ⟨⟨c, od, dt, sl⟩, hl, hc, k, hd⟩ := tup
  obtain rfl : c = .type "tuple" := hc
  obtain rfl : dt = .seq vs k := hd
  refine callType_new F.called_enumerate (by decide) (F.typeCall_enumerate_1 _) (F.newCall_enumerate_1 _) (fun x => F.args_object_init_2 x _) F.entry_enumerate_new (enumNewT q vs k od sl) ⟨hl, ?_⟩
  have size1 : (s.heap.push { cls := .type "tuple_iterator", data := .fields #[.ref q, .int 0 0] }).objs.size = s.heap.objs.size + 1 := Heap.size_push ..
  show _ ∧ _
  rw [size1]
  have made : IsEnum ((s.heap.push { cls := .type "tuple_iterator", data := .fields #[.ref q, .int 0 0] }).push { cls := .type "enumerate", data := .fields #[.none, .bool false, .ref s.heap.objs.size, rawInt 0, .none, .none] }) (s.heap.objs.size + 1) s.heap.objs.size 0 .none := by
    have e := Heap.get?_push_size (s.heap.push { cls := .type "tuple_iterator", data := .fields #[.ref q, .int 0 0] }) (o := { cls := .type "enumerate", data := .fields #[.none, .bool false, .ref s.heap.objs.size, rawInt 0, .none, .none] }) rfl
    rw [size1] at e
    exact e
  exact ⟨⟨_, made, rfl⟩, hQ _ made ⟨_, Heap.get?_push_of_some _ (Heap.get?_push_size _ rfl), rfl, rfl⟩ fun b o z => Heap.get?_push_of_some _ (Heap.get?_push_of_some _ z)⟩
/-- the tuple at q, each item in a new pair -/
def ItEt (K : PySem.W.Frag) (q : Addr) : It where
  go := fun i H => ∃ (xs : List V) (x : V), SqT K H q xs ∧ xs[i]? = some x
  yld := fun i H v H' => ∃ T x, v = .ref T ∧ H T = none ∧ H' = upd H T (.tup [.int (i : Nat), x]) ∧ ∀ xs, SqT K H q xs → xs[i]? = some x
  stop := fun i H => ∃ xs : List V, SqT K H q xs ∧ xs.length = i
theorem turn_enumT {P : Program} {w : World} {K : PySem.W.Frag} {tgs : List Expr} {kk : Nat} {tp : Pos} (q e z : Addr) :
    Turn P w K (.Tuple tgs kk tp) (ItEt K q) [e, z] e (fun i g => (∃ old, IsEnum g e z ((i : Nat) : Int) old) ∧ g.IsTupleIter z q i ∧ e ≠ z ∧ q ≠ z ∧ q ≠ e) := by
  refine ⟨List.mem_cons_self, fun i g st b hb => ?_, fun i g g' st k => ?_, ?_, ?_, fun B i s Q E st h => ?_⟩
  · obtain ⟨⟨old, he⟩, ⟨o, ho, hc, hd⟩, _⟩ := st
    rcases List.mem_cons.mp hb with y | y
    · rw [y]; exact ⟨_, he, fun v t => nomatch t⟩
    · rw [List.mem_singleton.mp y]; exact ⟨o, ho, fun v t => by rw [hd] at t; cases t⟩
  · obtain ⟨⟨old, he⟩, hz, ne⟩ := st
    exact ⟨⟨old, k e List.mem_cons_self _ he⟩, Heap.IsTupleIter.at hz fun o t => k z (List.mem_cons_of_mem _ List.mem_cons_self) o t, ne⟩
  · intro X hP hw hK hc i pins s σ H E I hf st hg
    subst hP hw hK
    obtain ⟨⟨old, he⟩, hz, ne, n1, n2⟩ := st
    obtain ⟨xs, x, hq, hx⟩ := hg
    obtain ⟨its, rv, p, len⟩ := I.tuple hq
    obtain ⟨u, hu, ru⟩ := rv.get hx
    have lt : i < its.toArray.size := by
      have := (List.getElem?_eq_some_iff.mp hu).1
      simpa using this
    have heL : e < s.heap.objs.size := Heap.lt_size he
    have hzL : z < s.heap.objs.size := by obtain ⟨_, t, _⟩ := hz; exact Heap.lt_size t
    refine wpAny_pyNext_enum_itemD (draws_tup (P := X.prog) (w := X.w) (B := X.A.in1) (show X.A.in1.handled = none from I.ok.hd hc) z q n1 its.toArray) he ⟨hz, tupIn p⟩ lt ne (by simp [ne, Ne.symm n2]) fun u' g tk hu' ho st' hT hsz hk => ?_
    have eu : u' = u := by
      have a : its.toArray[i]? = some u := by simpa using hu
      rw [a] at hu'
      exact (Option.some.inj hu').symm
    subst eu
    refine ⟨_, rfl, wpAny_letOwnedTupleGo_enum (s := { s with heap := g, toks := tk + 1 }) ho fun g2 he' sb => ?_⟩
    have hT2 : g2.get? s.heap.objs.size = some { cls := .type "tuple", data := .seq #[.int i tk, u'] } := (sb.2 _ (Nat.ne_of_gt heL)).trans hT
    have fresh : ObjOk X.prog X.w (upd H s.heap.objs.size (.tup [.int (i : Nat), x])) g2 s.heap.objs.size (.tup [.int (i : Nat), x]) := ⟨by show 2 ≤ sizeLine; decide, [.int i tk, u'], .cons ⟨_, rfl⟩ (.cons ru .nil), ⟨_, hT2, rfl, _, rfl⟩⟩
    have I1 : Inv X pins σ (upd H s.heap.objs.size (.tup [.int (i : Nat), x])) { s with heap := g2, toks := tk + 1 } :=
      I.turnedNew (ch := [e, z]) (fun b ob hb t => (sb.2 b (fun y => hb (by simp [y]))).trans (hk b ob (fun y => hb (by simp [y])) (fun y => hb (by simp [y])) t)) hf (Nat.le_refl _) fresh
    refine ⟨.ref s.heap.objs.size, _, I1, rfl, ⟨_, x, rfl, I.hok.fresh (Nat.le_refl _), rfl, fun ys hy => by rw [I.tuple_inj hy hq]; exact hx⟩, ⟨⟨u', ?_⟩, Heap.IsTupleIter.at st'.1 fun o t => (sb.2 z (Ne.symm ne)).trans t, ne, n1, n2⟩, fun b hb => ?_⟩
    · have e1 : ((i + 1 : Nat) : Int) = (i : Int) + 1 := by omega
      rw [e1]
      exact he'
    · have hb' : b < s.heap.objs.size := by
        rcases List.mem_cons.mp hb with y | y
        · rw [y]; exact heL
        · rw [List.mem_singleton.mp y]; exact hzL
      rw [upd_ne (Nat.ne_of_lt hb')]
      exact (hf b hb).1
  · intro X hP hw hK hc i pins s σ H E I hf st hg
    subst hP hw hK
    obtain ⟨⟨old, he⟩, hz, ne, n1, n2⟩ := st
    obtain ⟨xs, hq, hx⟩ := hg
    obtain ⟨its, rv, p, len⟩ := I.tuple hq
    obtain ⟨f0, f1, f2, f3, f4, f5⟩ := hf z (List.mem_cons_of_mem _ List.mem_cons_self)
    have hl : i = its.toArray.size := by
      have := rv.length
      simp
      omega
    have he0 : IsEnum s.heap e z ((its.toArray.size : Nat) : Int) old := hl ▸ he
    have hz0 : s.heap.IsTupleIter z q its.toArray.size := hl ▸ hz
    refine wpAny_pyNext_enum_endD (draws_tup (P := X.prog) (w := X.w) (B := X.A.in1) (show X.A.in1.handled = none from I.ok.hd hc) z q n1 its.toArray) he0 ⟨hz0, tupIn p⟩ fun g eb => ⟨rfl, I.turned (t' := s.toks) (fun b o hb t => eb b o hb t) f0 f1 f3 f4 f5⟩
  · obtain ⟨⟨_, he⟩, _⟩ := st
    exact wpAny_pyIter_enum he h
def iEnumT (K : PySem.W.Frag) (ta : TA) : TI := fun σ H R => ta σ H fun vs H1 => ∃ q xs, vs = [.ref q] ∧ SqT K H1 q xs ∧ R (ItEt K q) H1
theorem pi_enumT {X : Cx} {e : Expr} {ta : TA} {p pos tp : Pos} {tgs : List Expr} {kk : Nat} (hg : Gl X "enumerate") (hm : X.mg "enumerate" = none) (ha : PA X [e] ta) (hs : starEach [e] X.env = [(false, eval e X.env)] := by rfl) :
    PI X (.Tuple tgs kk tp) (.Call (.Name "enumerate" p) [e] [] pos) (iEnumT X.K ta) := by
  refine ⟨fun pins s σ H R I h => Call_ (ld_blt I hg hm boot_enumerate (PyProof.Rows.callWith_type1 (thn (ha.run pos pins s σ H _ I h) fun us s1 ⟨vs, H1, I1, r1, q1⟩ => ?_) hs rfl))⟩
  obtain ⟨a, xs, ex, hq, q⟩ := q1
  subst ex
  obtain ⟨u, rfl, ru⟩ := vals1 r1
  cases (show u = Value.ref a from ru)
  obtain ⟨its, rv, p', hz⟩ := I1.tuple hq
  have old : a < s1.heap.objs.size := by obtain ⟨o, e1, _⟩ := p'; exact Heap.lt_size e1
  refine callEnumT (tupIn p') fun g he hit hk => wpAny_pyIter_enum he ?_
  have I2 : Inv X pins σ H1 { s1 with heap := g } := I1.kept (t' := s1.toks) hk
  refine ⟨s1.heap.objs.size + 1, [s1.heap.objs.size + 1, s1.heap.objs.size], _, _, H1, rfl, I2, turn_enumT a (s1.heap.objs.size + 1) s1.heap.objs.size, ⟨⟨.none, he⟩, hit, Nat.succ_ne_self _, Nat.ne_of_lt old, Nat.ne_of_lt (Nat.lt_succ_of_lt old)⟩, fun b hb => ?_, q⟩
  have hle : s1.heap.objs.size ≤ b := by
    rcases List.mem_cons.mp hb with y | y
    · rw [y]; exact Nat.le_add_right _ _
    · rw [List.mem_singleton.mp y]; exact Nat.le_refl _
  exact I1.fpOk hle (I1.hok.fresh hle)
theorem walk_enumT {K : PySem.W.Frag} {q : Addr} {xs : List V} : Walk (ItEt K q) xs.length (fun H => SqT K H q xs) (YPair (fun i => some (.int (i : Nat))) (fun i => xs[i]?)) := by
  refine ⟨fun i _ hi h => ⟨xs, xs[i], h, by simp [hi]⟩, fun _ h => ⟨xs, h, rfl⟩, fun i H v H' _ h y => ?_⟩
  obtain ⟨T, x, h1, h2, h3, h4⟩ := y
  exact ⟨T, .int (i : Nat), x, h1, h2, h3, rfl, h4 xs h⟩
/-- enumerate of a list or a tuple -/
def iEnumA (K : PySem.W.Frag) (ta : TA) : TI := fun σ H R => iEnum K ta σ H R ∨ iEnumT K ta σ H R
theorem pi_enumA {X : Cx} {e : Expr} {ta : TA} {p pos tp : Pos} {tgs : List Expr} {kk : Nat} (hg : Gl X "enumerate") (hm : X.mg "enumerate" = none) (ha : PA X [e] ta) (hs : starEach [e] X.env = [(false, eval e X.env)] := by rfl) :
    PI X (.Tuple tgs kk tp) (.Call (.Name "enumerate" p) [e] [] pos) (iEnumA X.K ta) := PI.or (pi_enum hg hm ha hs) (pi_enumT hg hm ha hs)
end
section
variable {X : Cx} (K : PySem.W.Frag) (hK : X.K = K := by rfl)
include hK
theorem kEn {tg e : Expr} {ta : TA} (h : PI X tg e (iEnumA X.K ta)) : PI X tg e (iEnumA K ta) := hK ▸ h
end
end AT

set_option Elab.async false
set_option linter.all false
set_option maxRecDepth 100000
set_option maxHeartbeats 8000000
/-! own words, seventh part: a name that is set to a dict comprehension on its own line -/
namespace AT
open PySem L2 PySem.Spec PyProof.Rows
/-- whatever the block of the comprehension is -/
abbrev InBlk (X : Cx) (sc : Scope) (R : Cx → Prop) : Prop := ∀ s H C cl fp, R (X.blk s H sc (compEnvC sc cl C X.env) fp)
/-- the comprehension, with one for -/
abbrev DC1 (a b t e : Expr) (cs : List Expr) (sc : Scope) (o : Pos) : Expr := .DictComp a b [⟨t, e, cs, 0⟩] sc o
theorem ps_setDc {X : Cx} {i : Nat} {n : Str} {np o so : Pos} {a b t e : Expr} {cs : List Expr} {sc : Scope} {own : List (Str × Nat)} {wi : TI} {g : TG} {tt : TT} {ta tb : TE}
    (calm : X.calm = true) (nd : X.N.Nodup) (at' : X.N[i]? = some n) (loc : X.env.scope.names.lookup n = some .local) (sw : swapsWith (DC1 a b t e cs sc o) (some (.Name n np)) so.line X.env = pure true)
    (pi : PI X t e wi) (bk : BlkOk X.N X.env.scope sc own) (pg : InBlk X sc fun Y => PG Y t g) (pt : InBlk X sc fun Y => PTs Y cs tt) (pa : InBlk X sc fun Y => PE Y a ta) (pb : InBlk X sc fun Y => PE Y b tb)
    (fo : ∀ x, foldedSetIterable e X.env x = pure x := by intro _; rfl) : PS X (.Assign [.Name n np] (DC1 a b t e cs sc o) so) (tAsg (tDc wi g tt ta tb (own.map (·.2))) (gName i)) :=
  ⟨fun P s σ H D J w => by
    rw [exec_Assign_Name_used n np _ so sw]
    apply wpAny_bind; apply wpAny_standAt; apply wpAny_bind
    refine wpAny_bind (thn ?core fun _ s2 h2 => wpAny_pure (wpAny_pure h2))
    refine dc_core (Qf := fun _ s2 => SP X P D .next s2) (Q := fun x H1 => gName i x σ H1 D.nx) calm nd J pi bk pg pt pa pb fo w fun L C s2 m H2 J2 h2 ns fp => ?_
    refine wpAny_assign_Name (store_ok2 (v := V.ref L) J2 nd at' (.inl loc) rfl (fun s3 J3 ⟨z, but, or⟩ => ⟨m, ns.sameBut but (or.elim (fun y => y ▸ fp.2.1) fun y q => fp.2.2.2.2.1 n z y q.symm), fun h4 but4 => ?_⟩) (.inr loc))
    exact ⟨_, H2, J3.turned (t' := s3.toks) (fun c u hc y => (but4.2 c hc).trans y) fp.1 fp.2.1 fp.2.2.2.1 fp.2.2.2.2.1 fp.2.2.2.2.2, h2⟩⟩
theorem sw_trueD {a b : Expr} {gs : List Comprehension} {sc : Scope} {o np : Pos} {n : Str} {l : Nat} {env : Env} (fn : env.scope.kind = .function) (loc : env.scope.names.lookup n = some .local) (ln : (np.line == o.line) = true)
    (no : (sc.names.any fun (m, k) => m == n && (k == .local || k == .cell)) = false) : swapsWith (.DictComp a b gs sc o) (some (.Name n np)) l env = pure true := by
  have k1 : env.kindOf n = some .local := loc
  have k2 : env.blockKind = .function := by simp only [Env.blockKind, fn]; decide
  simp only [swapsWith, k1, k2, no, Expr.pos, ln]
  rfl
end AT

set_option Elab.async false
set_option linter.all false
set_option maxRecDepth 100000
set_option maxHeartbeats 4000000
/-! own words, eighth part: defs and lambdas with captured names as values, called by whoever holds them -/
namespace AT
open PySem PySem.Spec PyProof.Rows L2 LamX NdefX
/-! ### cells that stand still -/
def frC (c : Addr) (o : Obj) : HO := .frz o (.ext fun h => h.get? c = some o)
theorem frC_ok {P : Program} {w : World} {H : Hp} {h : Heap} {c : Addr} {o : Obj} (e : h.get? c = some o) : ObjOk P w H h c (frC c o) :=
  ⟨e, e, ⟨o, e⟩, fun _ _ q k => k o q⟩
def fz (as : List Addr) (O : Addr → Obj) (H : Hp) : Hp := fun b => if b ∈ as then some (frC b (O b)) else H b
def rz (as : List Addr) (H H' : Hp) : Hp := fun b => if b ∈ as then H b else H' b
section
variable {as : List Addr} {O : Addr → Obj} {H H' : Hp} {b : Addr} {P : Program} {w : World} {h h' : Heap} {fs : List Addr}
theorem fz_in (hb : b ∈ as) : fz as O H b = some (frC b (O b)) := if_pos hb
theorem fz_at (hb : b ∉ as) : fz as O H b = H b := if_neg hb
theorem rz_in (hb : b ∈ as) : rz as H H' b = H b := if_pos hb
theorem rz_at (hb : b ∉ as) : rz as H H' b = H' b := if_neg hb
theorem fz_ex (W : ∀ c ∈ as, H c = none) : Ex H (fz as O H) := fun b o e => by
  rw [fz_at fun z => by rw [W b z] at e; cases e]
  exact e
theorem fz_hid (W : ∀ c ∈ as, H c = none) : hid as (fz as O H) = H := by
  funext b
  by_cases hb : b ∈ as
  · rw [hid_in hb, W b hb]
  · rw [hid_at hb, fz_at hb]
theorem rz_ex (e : Ex (hid as H) H') : Ex H (rz as H H') := fun b o q => by
  by_cases hb : b ∈ as
  · rw [rz_in hb]; exact q
  · rw [rz_at hb]; exact e b o (by rw [hid_at hb]; exact q)
theorem hok_fz (ok : HOk P w H h) (W : ∀ c ∈ as, h.get? c = some (O c) ∧ H c = none) : HOk P w (fz as O H) h := fun a o e => by
  have nin : ∀ {b u}, H b = some u → b ∉ as := fun {b u} q z => by rw [(W b z).2] at q; cases q
  by_cases ha : a ∈ as
  · rw [fz_in ha] at e
    cases e
    exact frC_ok (W a ha).1
  · rw [fz_at ha] at e
    exact (ok a o e).stay (fun _ _ _ z => z) (fun b q => by rw [fz_at (nin q)]; exact q) fun b xs q => by rw [fz_at (nin q)]; exact q
theorem hok_hid (ok : HOk P w H h) (W : ∀ c ∈ as, ∃ o u, H c = some (.frz o u)) : HOk P w (hid as H) h := fun a o e => by
  have nin : ∀ {b u}, H b = some u → (∀ o v, u ≠ .frz o v) → b ∉ as := fun {b u} q n z => by
    obtain ⟨o, v, e⟩ := W b z
    rw [q] at e
    exact n o v (Option.some.inj e)
  refine (ok a o (hid_some e).2).stay (fun _ _ _ z => z) (fun b q => ?_) fun b xs q => ?_
  · rw [hid_at (nin q fun o v z => by cases z)]; exact q
  · rw [hid_at (nin q fun o v z => by cases z)]; exact q
/-- behind a call that was told of the frame's own cells -/
theorem un_hid (W : ∀ c ∈ as, h.get? c = some (O c) ∧ H c = none) (u : Un fs [] (fz as O H) H' h h') (ok : HOk P w H' h') : Un fs [] H (hid as H') h h' := by
  have same : ∀ c, c ∈ as → h'.get? c = some (O c) := fun c hc => (ok c _ (u.frzs c _ _ (fz_in hc))).1
  have nin : ∀ {b v}, H b = some v → b ∉ as := fun {b v} q z => by rw [(W b z).2] at q; cases q
  have here : ∀ {b o}, h.get? b = some o → b ∈ as → h'.get? b = some o := fun {b o} e hb => by
    have q := (W b hb).1
    rw [e] at q
    rw [same b hb, Option.some.inj q]
  refine ⟨fun b o e n nf nx => ?_, fun b o e n nf nx => ?_, fun b o e n nx => ?_, u.there, fun b xs q => ?_, fun b o v q => ?_, fun b ps q => ?_⟩
  · by_cases hb : b ∈ as
    · exact here e hb
    · exact u.keep b o e (by rw [fz_at hb]; exact n) nf nx
  · by_cases hb : b ∈ as
    · exact ⟨o.slots, here e hb⟩
    · exact u.slot b o e (by rw [fz_at hb]; exact n) nf nx
  · by_cases hb : b ∈ as
    · exact hid_in hb
    · rw [hid_at hb]; exact u.free b o e (by rw [fz_at hb]; exact n) nx
  · rw [hid_at (nin q)]; exact u.tups b xs (by rw [fz_at (nin q)]; exact q)
  · rw [hid_at (nin q)]; exact u.frzs b o v (by rw [fz_at (nin q)]; exact q)
  · obtain ⟨m, z⟩ := u.tbls b ps (by rw [fz_at (nin q)]; exact q)
    exact ⟨m, by rw [hid_at (nin q)]; exact z⟩
/-- behind the call of a function whose cells stood still -/
theorem un_rz (W : ∀ c ∈ as, ∃ o, H c = some (frC c o) ∧ h.get? c = some o ∧ c ∉ fs) (u : Un fs [] (hid as H) H' h h') : Un fs [] H (rz as H H') h h' := by
  have nin : ∀ {b : Addr}, H b = none → b ∉ as := fun {b} q z => by
    obtain ⟨o, e, _⟩ := W b z
    rw [q] at e; cases e
  refine ⟨fun b o e n nf nx => ?_, fun b o e n nf nx => ?_, fun b o e n nx => ?_, u.there, fun b xs q => ?_, fun b o v q => ?_, fun b ps q => ?_⟩
  · exact u.keep b o e (by rw [hid_at (nin n)]; exact n) nf nx
  · exact u.slot b o e (by rw [hid_at (nin n)]; exact n) nf nx
  · rw [rz_at (nin n)]; exact u.free b o e (by rw [hid_at (nin n)]; exact n) nx
  all_goals by_cases hb : b ∈ as
  · rw [rz_in hb]; exact q
  · rw [rz_at hb]; exact u.tups b xs (by rw [hid_at hb]; exact q)
  · rw [rz_in hb]; exact q
  · rw [rz_at hb]; exact u.frzs b o v (by rw [hid_at hb]; exact q)
  · rw [rz_in hb]; exact ⟨#[], by rw [q]; simp⟩
  · rw [rz_at hb]; exact u.tbls b ps (by rw [hid_at hb]; exact q)
theorem hok_rz (W : ∀ c ∈ as, ∃ o, H c = some (frC c o) ∧ h.get? c = some o ∧ c ∉ fs) (u : Un fs [] (hid as H) H' h h') (ok : HOk P w H' h') : HOk P w (rz as H H') h' := fun a o e => by
  have gone : ∀ c, c ∈ as → H' c = none := fun c hc => by
    obtain ⟨o, _, e2, _⟩ := W c hc
    exact u.free c o e2 (hid_in hc) (by simp)
  have nin : ∀ {b v}, H' b = some v → b ∉ as := fun {b v} q z => by rw [gone b z] at q; cases q
  by_cases ha : a ∈ as
  · obtain ⟨o', e1, e2, nf⟩ := W a ha
    rw [rz_in ha, e1] at e
    cases e
    exact frC_ok (u.keep a o' e2 (hid_in ha) nf (by simp))
  · rw [rz_at ha] at e
    exact (ok a o e).stay (fun _ _ _ z => z) (fun b q => by rw [rz_at (nin q)]; exact q) fun b xs q => by rw [rz_at (nin q)]; exact q
end
/-! ### what holds a function -/
/-- what never changes while it is tracked so -/
def isX : HO → Prop
  | .ext _ => True
  | .frz _ _ => True
  | _ => False
def StX (H H' : Hp) : Prop := ∀ b o, H b = some o → isX o → H' b = some o
theorem StX.of_ex {H H' : Hp} (e : Ex H H') : StX H H' := fun b o q _ => e b o q
theorem StX.of_kp {S : List Addr} {H H' : Hp} (k : Kp S H H') (n : ∀ b ∈ S, ∀ o, H b = some o → ¬ isX o) : StX H H' := fun b o q x => k b o (fun z => n b z o q x) q
/-- f is a function that keeps sp where G stands -/
structure FV (P : Program) (w : World) (K : PySem.W.Frag) (mg : Str → Option Value) (base : Heap) (k : Nat) (f : Addr) (G : Hp → Prop) (sp : List V → Hp → VK → Prop) : Prop where
  fn : ∀ (H : Hp) (h : Heap), HOk P w H h → G H → PySem.W.FnAt f h
  st : ∀ H H', StX H H' → G H → G H'
  run : ∀ (A : Around) (outer : List Env) (s : Shared) (H : Hp) (us : List Value) (vs : List V) (Q : VK), Room k A → Env0 P w K mg base A outer s H → G H → Vals vs us → sp vs H Q →
    codeAny (model P w) A (.call (.ref f) ⟨us, []⟩) (CR L2.CX0 outer P w H s Q L2.E0) s
theorem FV.mono {P : Program} {w : World} {K : PySem.W.Frag} {mg : Str → Option Value} {base : Heap} {j k : Nat} {f : Addr} {G : Hp → Prop} {sp : List V → Hp → VK → Prop} (F : FV P w K mg base j f G sp) (h : j ≤ k) : FV P w K mg base k f G sp :=
  ⟨F.fn, F.st, fun A outer s H us vs Q hr => F.run A outer s H us vs Q (hr.mono h)⟩
def tCallQ (P : Program) (w : World) (K : PySem.W.Frag) (mg : Str → Option Value) (base : Heap) (k i : Nat) (t : TA) : TE := fun σ H Q => ∃ (f : Addr) (G : Hp → Prop) (sp : List V → Hp → VK → Prop), σ[i]? = some (some (.ref f)) ∧ FV P w K mg base k f G sp ∧ G H ∧ t σ H fun vs H1 => G H1 ∧ sp vs H1 Q
section
variable {X : Cx} {k i : Nat} {x : Str} {p pos : Pos} {e : Expr} {es : List Expr} {t : TA}
theorem run_fv {pins : List (Addr × Obj)} {σ : L2.St} {H : Hp} {s : Shared} {Q : VK} {f : Addr} {G : Hp → Prop} {sp : List V → Hp → VK → Prop} {us : List Value} {vs : List V} (F : FV X.prog X.w X.K X.mg X.base k f G sp) (hr : Room k X.A) (I : Inv X pins σ H s) (g : G H) (r : Vals vs us) (q : sp vs H Q) :
    wpAny (model X.prog X.w) X.A (call (.ref f) us) (EP X pins σ Q) X.xe s := by
  refine wpAny_call (codeAny_mono (F.run X.A X.stack s H us vs Q hr I.env0 g r q) fun res s' z => ?_)
  match res, z with
  | .error e, z => exact z.elim
  | .ok (.ret u), z => exact I.after z
  | .ok .next, z => exact z.elim
  | .ok .brk, z => exact z.elim
  | .ok .cont, z => exact z.elim
/-- x(..), x a name that holds a function -/
theorem pe_callQ (hr : Room k X.A) (hN : X.N[i]? = some x) (hv : Vis X.env.scope x) (ha : PA X (e :: es) t) (hd : (x == ("__debug__" : Str)) = false := by decide) (hcd : (x == ("__classdict__" : Str)) = false := by decide)
    (he : starEach (e :: es) X.env = (false, eval e X.env) :: starEach es X.env := by rfl) (hpl : (backTo pos (starEach es X.env)).any (·.1) = false := by rfl) : PE X (.Call (.Name x p) (e :: es) [] pos) (tCallQ X.prog X.w X.K X.mg X.base k i t) := by
  constructor
  intro pins s σ H Q I q
  obtain ⟨f, G, sp, hs, F, g, ht⟩ := q
  have hx := (pe_var (pos := p) hN hv hd hcd).run pins s σ H (fun v H1 => v = .ref f ∧ H1 = H) I ⟨_, hs, rfl, rfl⟩
  refine wpAny_Call_Name_kw (thn hx fun u s1 z => ?_)
  obtain ⟨v, H1, I1, rv, ev, eH⟩ := z
  subst ev eH
  obtain rfl : u = .ref f := rv
  refine PySem.W.callWith_F (first := []) (F.fn _ _ I1.hok g) (thn (ha.run pos pins s1 σ _ _ I1 ht) fun us s2 z => ?_) he hpl
  obtain ⟨vs, H2, I2, r, g2, q⟩ := z
  exact ⟨F.fn _ _ I2.hok g2, run_fv F hr I2 g2 r q⟩
end
/-! ### a frame's own cells, told to a callee -/
def ca (X : Cx) : List Addr := X.env.cells.filterMap fun p => X.env.cells.lookup p.1
theorem mem_ca {X : Cx} {c : Addr} : c ∈ ca X ↔ ∃ y, X.env.cells.lookup y = some c := by
  unfold ca
  rw [List.mem_filterMap]
  constructor
  · rintro ⟨p, _, e⟩
    exact ⟨_, e⟩
  · rintro ⟨y, e⟩
    exact ⟨(y, c), PySem.mem_of_lookup e, e⟩
structure OwnC (X : Cx) (σ : L2.St) (O : Addr → Obj) (H : Hp) : Prop where
  inj : ∀ x y c, X.env.cells.lookup x = some c → X.env.cells.lookup y = some c → x = y
  has : ∀ x, (X.env.kindOf x = some .cell ∨ X.env.kindOf x = some .free) → ∃ c, X.env.cells.lookup x = some c
  non : ∀ c ∈ ca X, H c = none
  dat : ∀ c ∈ ca X, ∃ v, (O c).data = .cell v
  val : ∀ (i : Nat) y v c, X.N[i]? = some y → σ[i]? = some (some v) → (X.env.scope.names.lookup y = some .cell ∨ X.env.scope.names.lookup y = some .free) → X.env.cells.lookup y = some c → ∃ u, L2.RelV v u ∧ (O c).data = .cell (some u)
def tCallZ (X : Cx) (sp : Sp) (t : TA) : TE := fun σ H Q => t σ H fun vs H1 => ∀ O, OwnC X σ O H1 → sp vs (fz (ca X) O H1) (fun v H2 => Q v (hid (ca X) H2)) L2.E0
section
variable {X : Cx} {k : Nat} {f : Addr} {fd : FuncData} {ps : List Str} {sp : Sp} {x : Str} {p pos : Pos} {e : Expr} {es : List Expr} {t : TA}
theorem own_of {pins : List (Addr × Obj)} {σ : L2.St} {H : Hp} {s : Shared} (I : Inv X pins σ H s) (hfn : ∀ y, X.fn y = true) :
    ∃ O : Addr → Obj, OwnC X σ O H ∧ (∀ c ∈ ca X, s.heap.get? c = some (O c) ∧ H c = none) ∧ (∀ c ∈ ca X, X.base.get? c = none) ∧ ∀ c ∈ ca X, c ∉ frs X.stack := by
  have at_ : ∀ c ∈ ca X, ∃ o v, s.heap.get? c = some o ∧ o.data = .cell v := fun c hc => by
    obtain ⟨y, e⟩ := mem_ca.mp hc
    obtain ⟨v, o, ho, hd⟩ := I.cell y c e
    exact ⟨o, v, ho, hd⟩
  have up : ∀ c ∈ ca X, X.s_0.heap.objs.size ≤ c := fun c hc => by
    obtain ⟨y, e⟩ := mem_ca.mp hc
    exact I.ok.cab y c (hfn y) e
  have nn : ∀ c ∈ ca X, H c = none := fun c hc => by
    obtain ⟨y, e⟩ := mem_ca.mp hc
    exact I.freeC y c e
  let O : Addr → Obj := fun c => (s.heap.get? c).getD default
  have hO : ∀ {c o}, s.heap.get? c = some o → O c = o := fun {c o} e => by
    show (s.heap.get? c).getD default = o
    rw [e]; rfl
  refine ⟨O, ⟨I.ok.inj, I.ok.has, nn, fun c hc => ?_, fun i y v c e1 e2 hk e3 => ?_⟩, fun c hc => ?_, fun c hc => ?_, fun c hc z => ?_⟩
  · obtain ⟨o, v, ho, hd⟩ := at_ c hc
    exact ⟨v, by rw [hO ho]; exact hd⟩
  · obtain ⟨m, _, hl⟩ := I.loc
    obtain ⟨u, r, l⟩ := hl i y v e1 e2 (hk.elim (fun z => .inr (.inl z)) fun z => .inr (.inr z))
    rcases l with ⟨z, _⟩ | ⟨_, c', e', o, ho, hd⟩
    · have z' : X.env.scope.names.lookup y = some .local := z
      rcases hk with hk | hk <;> rw [hk] at z' <;> cases z'
    · rw [e3] at e'
      cases e'
      exact ⟨u, r, by rw [hO ho]; exact hd⟩
  · obtain ⟨o, v, ho, hd⟩ := at_ c hc
    exact ⟨by rw [hO ho]; exact ho, nn c hc⟩
  · exact Heap.get?_none_of_le (Nat.le_trans I.ok.bsz (up c hc))
  · rcases List.mem_cons.mp (I.stkSub _ z) with e | hb
    · obtain ⟨y, e2⟩ := mem_ca.mp hc
      exact I.cne y c e2 e
    · obtain ⟨_, o, ho, _⟩ := I.ok.funs.mem hb
      exact Nat.lt_irrefl _ (Nat.lt_of_lt_of_le (Heap.lt_size ho) (up c hc))
/-- a call that hands on functions which captured this frame's names -/
theorem pe_callZ (F : FnOk X.prog X.w X.K X.mg X.base L2.CX0 k f fd ps sp) (hr : Room k X.A) (B : Own X.K X.mg x f fd ps) (hfn : ∀ y, X.fn y = true) (ha : PA X (e :: es) t) (hg : Gl X x := by rfl)
    (hdb : (x == ("__debug__" : Str)) = false := by decide) (he : starEach (e :: es) X.env = (false, eval e X.env) :: starEach es X.env := by rfl) (hpl : (backTo pos (starEach es X.env)).any (·.1) = false := by rfl) :
    PE X (.Call (.Name x p) (e :: es) [] pos) (tCallZ X sp t) := by
  constructor
  intro pins s σ H Q I q
  refine wpAny_Call_Name_kw (ld_glob I hg B.g ?_ hdb)
  refine PySem.W.callWith_K (h₀ := X.base) I.ok.mod.kin B.k (thn (ha.run pos pins s σ H _ I q) fun us s2 z => ?_) he hpl
  obtain ⟨vs, H2, I2, r, q2⟩ := z
  refine ⟨I2.kIn, ?_⟩
  obtain ⟨O, ow, W, nb, nf⟩ := own_of I2 hfn
  have q3 := q2 O ow
  have hl : us.length = ps.length := by rw [← r.length]; exact F.len _ _ _ _ q3
  have e0 := I2.env0
  have e1 : Env0 X.prog X.w X.K X.mg X.base X.A X.stack s2 (fz (ca X) O H2) := by
    refine ⟨e0.frames, e0.mod, fun b o z => ⟨(e0.bs b o z).1, ?_⟩, e0.bsz, e0.funs, fun b hb => ?_, hok_fz e0.hok W, e0.bare⟩
    · rw [fz_at fun m => by rw [nb b m] at z; cases z]
      exact (e0.bs b o z).2
    · rw [fz_at fun m => nf b m hb]
      exact e0.frf b hb
  have hb0 := B.b s2 us I2.kIn (by rw [List.append_nil]; exact hl)
  rw [List.append_nil] at hb0
  refine wpAny_call (codeAny_mono (F.run X.A X.stack s2 _ ⟨us, []⟩ us vs _ L2.E0 hr e1 hb0 r q3) fun res s' z => ?_)
  match res, z with
  | .error e, z => exact z.elim
  | .ok (.ret u), z =>
    obtain ⟨v, H', os, bare, un, hok, rv, qv⟩ := z
    refine I2.after ⟨v, hid (ca X) H', os, bare, un_hid W un hok, hok_hid hok fun c hc => ⟨_, _, un.frzs c _ _ (fz_in hc)⟩, rv, qv⟩
  | .ok .next, z => exact z.elim
  | .ok .brk, z => exact z.elim
  | .ok .cont, z => exact z.elim
end
/-! ### what a made function leans on -/
structure Clo (H : Hp) (f : Addr) (o : HO) (c : Addr) (q : Str) (cl : List (Str × Addr)) (fr : List Str) (ws : List (Option V)) : Prop where
  fn : H f = some o
  code : H c = some (CodeO c q)
  cel : ∀ a ∈ cl.map (·.2), ∃ u, H a = some (frC a u) ∧ ∃ v, u.data = .cell v
  inj : ∀ x y a, cl.lookup x = some a → cl.lookup y = some a → x = y
  len : ws.length = fr.length
  has : ∀ (i : Nat) (y : Str), fr[i]? = some y → ∃ a, cl.lookup y = some a ∧ ∀ v, ws[i]? = some (some v) → ∃ u o, H a = some (frC a o) ∧ L2.RelV v u ∧ o.data = .cell (some u)
theorem Clo.st {H H' : Hp} {f c : Addr} {o : HO} {q : Str} {cl : List (Str × Addr)} {fr : List Str} {ws : List (Option V)} (h : Clo H f o c q cl fr ws) (ho : isX o) (s : StX H H') : Clo H' f o c q cl fr ws :=
  ⟨s _ _ h.fn ho, s _ _ h.code True.intro, fun a ha => let ⟨u, e, r⟩ := h.cel a ha; ⟨u, s _ _ e True.intro, r⟩, h.inj, h.len, fun i y e => let ⟨a, e1, r⟩ := h.has i y e; ⟨a, e1, fun v ev => let ⟨u, o, e2, r2⟩ := r v ev; ⟨u, o, s _ _ e2 True.intro, r2⟩⟩⟩
/-- of the frame that made it -/
theorem clo_made {X : Cx} {σ : L2.St} {O : Addr → Obj} {H : Hp} {scope : Scope} {f c : Addr} {o : HO} {q : Str} {fr : List Str} {js : List Nat} (ow : OwnC X σ O H) (hf : H f = some o) (hc : H c = some (CodeO c q)) (hb : ndefB X.env.scope scope fr = true) (hjs : js.map (fun j => X.N[j]?) = fr.map some) :
    Clo (fz (ca X) O H) f o c q (cloFrom X.env.cells scope.names []) fr (js.map (slotAt σ)) := by
  have hfree : ∀ y ∈ scope.names, y.2 = .free → ∃ a, X.env.cells.lookup y.1 = some a := fun y hy e => ow.has _ (ndef_free hb y hy e)
  have up : ∀ {a u}, H a = some u → fz (ca X) O H a = some u := fun {a u} e => fz_ex ow.non a u e
  refine ⟨up hf, up hc, fun a ha => ?_, fun x y a e1 e2 => ow.inj x y a (clo_cm hfree e1) (clo_cm hfree e2), ?_, fun i y e => ?_⟩
  · obtain ⟨⟨y, a'⟩, hm, rfl⟩ := List.mem_map.mp ha
    obtain ⟨h1, h2⟩ := (cloFrom_mem hm).resolve_left (by simp)
    obtain ⟨a1, ha1⟩ := hfree _ h1 rfl
    have ha1 : X.env.cells.lookup y = some a1 := ha1
    have e : a' = a1 := by rw [h2, ha1]; rfl
    subst e
    have hi : a' ∈ ca X := mem_ca.mpr ⟨y, ha1⟩
    exact ⟨O a', fz_in hi, ow.dat a' hi⟩
  · have q := congrArg List.length hjs
    rw [List.length_map, List.length_map] at q
    rw [List.length_map]; exact q
  · have e2 : (js.map fun j => X.N[j]?)[i]? = some (some y) := by rw [hjs, List.getElem?_map, e]; rfl
    rw [List.getElem?_map] at e2
    obtain ⟨j, ej, hj⟩ : ∃ j, js[i]? = some j ∧ X.N[j]? = some y := by
      cases ej : js[i]? with
      | none => rw [ej] at e2; cases e2
      | some j => rw [ej] at e2; exact ⟨j, rfl, Option.some.inj e2⟩
    have hy : (y, NameKind.free) ∈ scope.names := ndef_fr hb y (List.mem_of_getElem? e)
    have hk := ndef_free hb _ hy rfl
    obtain ⟨a, ha⟩ := ow.has y hk
    refine ⟨a, clo_has hfree hy ha, fun v ev => ?_⟩
    rw [List.getElem?_map, ej] at ev
    obtain ⟨u, r, d⟩ := ow.val j y v a hj (slotAt_some (Option.some.inj ev)) hk ha
    exact ⟨u, O a, fz_in (mem_ca.mpr ⟨y, ha⟩), r, d⟩
section
variable {P : Program} {w : World} {K : PySem.W.Frag} {mg : Str → Option Value} {base : Heap} {A : Around} {outer : List Env} {s : Shared} {H : Hp}
theorem env0_hid {as : List Addr} (e0 : Env0 P w K mg base A outer s H) (W : ∀ c ∈ as, ∃ o u, H c = some (.frz o u)) : Env0 P w K mg base A outer s (hid as H) := by
  refine ⟨e0.frames, e0.mod, fun b o z => ⟨(e0.bs b o z).1, ?_⟩, e0.bsz, e0.funs, fun b hb => ?_, hok_hid e0.hok W, e0.bare⟩
  · by_cases hb : b ∈ as
    · exact hid_in hb
    · rw [hid_at hb]; exact (e0.bs b o z).2
  · by_cases m : b ∈ as
    · exact hid_in m
    · rw [hid_at m]; exact e0.frf b hb
theorem Clo.cells {f c : Addr} {o : HO} {q : Str} {cl : List (Str × Addr)} {fr : List Str} {ws : List (Option V)} (h : Clo H f o c q cl fr ws) (hok : HOk P w H s.heap) : CellsAt cl fr ws s.heap (hid (cl.map (·.2)) H) := by
  refine ⟨h.len, fun y a e => ?_, h.inj, fun i y e => ?_⟩
  · have ha : a ∈ cl.map (·.2) := List.mem_map.mpr ⟨(y, a), PySem.mem_of_lookup e, rfl⟩
    obtain ⟨u, e1, v, hd⟩ := h.cel a ha
    exact ⟨hid_in ha, v, u, (hok a _ e1).1, hd⟩
  · obtain ⟨a, e1, r⟩ := h.has i y e
    refine ⟨a, e1, fun v ev => ?_⟩
    obtain ⟨u, o, e2, rv, hd⟩ := r v ev
    exact ⟨u, rv, o, (hok a _ e2).1, hd⟩
/-- back from the function's own heap -/
theorem cr_rz {as : List Addr} {Q : VK} {res : Result} {s' : Shared} (e0 : Env0 P w K mg base A outer s H) (W : ∀ c ∈ as, ∃ o, H c = some (frC c o)) (z : CR L2.CX0 outer P w (hid as H) s (fun v H' => (∀ b ∈ as, H' b = none) → Q v (rz as H H')) L2.E0 res s') : CR L2.CX0 outer P w H s Q L2.E0 res s' := by
  match res, z with
  | .error e, z => exact z
  | .ok .next, z => exact z
  | .ok .brk, z => exact z
  | .ok .cont, z => exact z
  | .ok (.ret u), z =>
    obtain ⟨v, H', os, bare, un, hok, rv, q⟩ := z
    have W' : ∀ c ∈ as, ∃ o, H c = some (frC c o) ∧ s.heap.get? c = some o ∧ c ∉ frs outer := fun c hc => by
      obtain ⟨o, e⟩ := W c hc
      exact ⟨o, e, (e0.hok c _ e).1, fun m => by rw [e0.frf c m] at e; cases e⟩
    exact ⟨v, rz as H H', os, bare, un_rz W' un, hok_rz W' un hok, rv, q fun c hc => let ⟨o, _, e2, _⟩ := W' c hc; un.free c o e2 (hid_in hc) (by simp)⟩
end
section
variable {P : Program} {w : World} {K : PySem.W.Frag} {mg : Str → Option Value} {base : Heap} {k : Nat} {f : Addr} {ps fr : List Str} {ws : List (Option V)}
/-- a nested def as a value -/
theorem FV.of_nok {F : NF} {sp : List (Option V) → Sp} (N : NOk P w K mg base L2.CX0 k f F ps fr sp) :
    FV P w K mg base k f (fun H => Clo H f (FnO f F) F.c F.qual F.cl fr ws) (fun vs H Q => sp ws vs (hid (F.cl.map (·.2)) H) (fun v H' => (∀ b ∈ F.cl.map (·.2), H' b = none) → Q v (rz (F.cl.map (·.2)) H H')) L2.E0) := by
  refine ⟨fun H h ok g => ?_, fun H H' st g => g.st True.intro st, fun A outer s H us vs Q hr e0 g r q => ?_⟩
  · obtain ⟨od, sl, doc, pm, ctv, ho⟩ := fnO_at ok g.fn
    exact ⟨_, od, _, sl, ho⟩
  · have W : ∀ c ∈ F.cl.map (·.2), ∃ o, H c = some (frC c o) := fun c hc => let ⟨u, e, _⟩ := g.cel c hc; ⟨u, e⟩
    have nin : ∀ {b φ}, H b = some (.ext φ) → b ∉ F.cl.map (·.2) := fun {b φ} e m => by
      obtain ⟨u, z⟩ := W b m
      rw [e] at z; cases z
    have e1 := env0_hid e0 fun c hc => let ⟨u, e⟩ := W c hc; ⟨_, _, e⟩
    refine codeAny_mono (N.run A outer s _ us vs ws _ L2.E0 hr e1 ?_ ?_ (g.cells e0.hok) r q) fun res s' z => cr_rz e0 W z
    · rw [hid_at (nin g.fn)]; exact g.fn
    · rw [hid_at (nin g.code)]; exact g.code
/-! ### lambdas -/
/-- the object at f is the lambda F, its body an expression -/
def FnE (f : Addr) (F : NF) (body : Expr) : HO := .ext fun h => ∃ pm ctv, h.get? f = some (PySem.W.kla_obj F.name F.qual F.params body F.scope F.cl pm F.c ctv)
theorem FV.of_lam {N : List Str} {F : NF} {body : Expr} {sp : List (Option V) → Sp} (S : NScope N ps fr F.scope) (hb : ∀ (pm ctv : Value) (us : List Value), us.length = ps.length → bindArgs (PySem.W.kla_fn F.name F.qual F.params body F.scope F.cl pm (.ref F.c) ctv) ⟨us, []⟩ = pure (ps.zip us))
    (len : ∀ ws vs H Q E, sp ws vs H Q E → vs.length = ps.length)
    (hbody : ∀ (A : Around) (outer : List Env) (s : Shared) (H : Hp) (vs : List V) (Q : VK), Room k (A.deeper (envF F f s.heap.objs.size)) → ws.length = fr.length → sp ws vs H Q L2.E0 → ∃ t, PE (ncx L2.CX0 P w K mg base N F f A outer s H L2.E0) body t ∧ t (startF N vs ws) H Q) :
    FV P w K mg base (k + 1) f (fun H => Clo H f (FnE f F body) F.c F.qual F.cl fr ws) (fun vs H Q => sp ws vs (hid (F.cl.map (·.2)) H) (fun v H' => (∀ b ∈ F.cl.map (·.2), H' b = none) → Q v (rz (F.cl.map (·.2)) H H')) L2.E0) := by
  refine ⟨fun H h ok g => ?_, fun H H' st g => g.st True.intro st, fun A outer s H us vs Q hr e0 g r q => ?_⟩
  · obtain ⟨⟨pm, ctv, ho⟩, _⟩ := ok f _ g.fn
    exact ⟨_, _, _, _, ho⟩
  · have W : ∀ c ∈ F.cl.map (·.2), ∃ o, H c = some (frC c o) := fun c hc => let ⟨u, e, _⟩ := g.cel c hc; ⟨u, e⟩
    have e1 := env0_hid e0 fun c hc => let ⟨u, e⟩ := W c hc; ⟨_, _, e⟩
    obtain ⟨⟨pm, ctv, ho⟩, _⟩ := e0.hok f _ g.fn
    have hco := codeO_at e0.hok g.code
    have hl := len _ _ _ _ _ q
    have lim : s.heap.NoLimit := e0.mod.nolimit.keeps fun b o e => (e0.bs b o e).1
    have C := g.cells e0.hok
    suffices h : codeAny (model P w) A (.call (.ref f) ⟨us, []⟩) (CR L2.CX0 outer P w (hid (F.cl.map (·.2)) H) s (fun v H' => (∀ b ∈ F.cl.map (·.2), H' b = none) → Q v (rz (F.cl.map (·.2)) H H')) L2.E0) s from codeAny_mono h fun res s' z => cr_rz e0 W z
    refine PySem.W.kla_callFunE hr.depth ho rfl S.co S.gen rfl hco ?_
    rw [hb pm ctv us (by rw [← r.length]; exact hl)]
    refine wpAny_pure (wpAny_newFunctionEnv S.nocell (fun y hy => S.par y.1 (List.of_mem_zip (show (y.1, y.2) ∈ ps.zip us from hy)).1) (fun h₁ hns hsb => ⟨lim.fresh _ hsb, ?_⟩) S.kind)
    have kp : ∀ b o, s.heap.get? b = some o → h₁.get? b = some o := fun b o e => hsb.extBut b o (Nat.ne_of_lt (Heap.lt_size e)) (Heap.get?_push_of_some _ e)
    obtain ⟨t, ht, hq⟩ := hbody A outer s _ vs _ (hr.deeper _) g.len q
    have I := inv_startN (N := N) (F := F) (f := f) (CX := L2.CX0) (E := L2.E0) (tk := s.toks + (ps.zip us).length) S hr.hd e1 hl r C hns kp
    refine PySem.W.kla_codeExpr (wpAny_mono (ht.run [] _ _ _ _ I hq) (fun v s' z => ?_) fun e s' z => z)
    obtain ⟨v', H', J, rv, qv⟩ := z
    exact ⟨v', H', J.os, J.bare, J.base, J.hok, rv, qv⟩
end
end AT

set_option Elab.async false
set_option linter.all false
set_option maxRecDepth 100000
set_option maxHeartbeats 4000000
/-! own words, ninth part: making defs and lambdas within a def -/
namespace AT
open PySem PySem.Spec PyProof.Rows L2 LamX NdefX
/-- the makers' tables: one table of names for the whole text -/
def Tbs (nm : Nat → Nat → Str) (Ps : List Addr) (H : Hp) : Prop := ∀ P ∈ Ps, TabN H P nm
theorem Tbs.ex {nm : Nat → Nat → Str} {Ps : List Addr} {H H' : Hp} (t : Tbs nm Ps H) (e : Ex H H') : Tbs nm Ps H' := fun P hP => (t P hP).ext e
theorem TabN.isT {nm : Nat → Nat → Str} {H : Hp} {P : Addr} (t : TabN H P nm) : ∃ ps, H P = some (.tbl ps) := let ⟨ps, e, _⟩ := t; ⟨ps, e⟩
/-- kept by what changes other things -/
theorem Tbs.kp {nm : Nat → Nat → Str} {Ps S : List Addr} {H H' : Hp} (t : Tbs nm Ps H) (k : Kp S H H') (n : ∀ b ∈ S, ∀ o, H b = some o → ¬ isX o ∧ ∀ ps, o ≠ .tbl ps) : Tbs nm Ps H' := fun P hP => by
  obtain ⟨ps, e, h1, h2⟩ := t P hP
  refine ⟨ps, k P _ (fun z => (n P z _ e).2 _ rfl) e, h1, fun pos cv hc => ?_⟩
  obtain ⟨c, e1, e2⟩ := h2 pos cv hc
  exact ⟨c, e1, k c _ (fun z => (n c z _ e2).1 True.intro) e2⟩
section
variable {X : Cx} {pins : List (Addr × Obj)} {σ : L2.St} {H : Hp} {s : Shared} {nm : Nat → Nat → Str} {Ps : List Addr} {c P c' : Addr} {ps : Array Value} {pos : Pos} {q : Str} {ho : HO} {o : Obj} {h' : Heap} {tk : Tok}
/-- the code object found: the function alone is new -/
theorem inv_hit (I : Inv X pins σ H s) (hx : ∀ b o, s.heap.get? b = some o → h'.get? b = some o) (hsz : s.heap.objs.size ≤ h'.objs.size) (new : ∀ H1, ObjOk X.prog X.w H1 (h'.push o) h'.objs.size ho) :
    Inv X pins σ (upd H h'.objs.size ho) { s with heap := h'.push o, toks := tk } ∧ H h'.objs.size = none :=
  ⟨I.laid (fun b u e => Heap.get?_push_of_some _ (hx b u e)) hsz (new _), I.hok.fresh hsz⟩
/-- the code object made: the table grows, the code object and the function are new -/
theorem inv_made (I : Inv X pins σ H s) (T : Tbs nm Ps H) (hm : P ∈ Ps) (hP : H P = some (.tbl ps)) (ht : TriplesOk ps.toList) (ha : ∀ (p : Pos) cv, codeAmong p ps.toList = some cv → ∃ c, cv = .ref c ∧ H c = some (CodeO c (nm p.line p.col))) (hn : nm pos.line pos.col = q)
    (hx : Heap.ExtBut P s.heap h') (hge : s.heap.objs.size ≤ c') (hlt : c' < h'.objs.size) (hrec : h'.CodeRec (.ref c') q) (htb : h'.get? P = some (PySem.W.tabObj (ps ++ #[rawInt pos.line, rawInt pos.col, .ref c'])))
    (new : ∀ H1, ObjOk X.prog X.w H1 (h'.push o) h'.objs.size ho) :
    ∃ H1, Inv X pins σ H1 { s with heap := h'.push o, toks := tk } ∧ Kp [P] H H1 ∧ Tbs nm Ps H1 ∧ H h'.objs.size = none ∧ H1 h'.objs.size = some ho ∧ H1 c' = some (CodeO c' q) := by
  obtain ⟨c2, oc, vs, t, e2, hoc, hd, hv⟩ := hrec
  cases e2
  have nC : H c' = none := I.hok.fresh hge
  have hsz : s.heap.objs.size ≤ h'.objs.size := Nat.le_trans hge (Nat.le_of_lt hlt)
  have nF : H h'.objs.size = none := I.hok.fresh hsz
  have I1 := inv_table (t' := tk) (more := #[rawInt pos.line, rawInt pos.col, .ref c']) (h' := h') I hP (fun b o hb e => hx b o hb e) htb hge ⟨oc, vs, t, hoc, hd, hv⟩
  have hF1 : ∀ b, b ≠ P → b ≠ c' → upd (upd H P (.tbl (ps ++ #[rawInt pos.line, rawInt pos.col, .ref c']))) c' (CodeO c' q) b = H b := fun b h1 h2 => by rw [upd_ne h2, upd_ne h1]
  have nPc : P ≠ c' := ne_of_none hP nC
  have nPf : P ≠ h'.objs.size := ne_of_none hP nF
  have ncf : c' ≠ h'.objs.size := Nat.ne_of_lt hlt
  have I2 := I1.laid (a := h'.objs.size) (o := ho) (h' := h'.push o) (t' := tk) (fun b u e => Heap.get?_push_of_some _ e) (Nat.le_refl _) (new _)
  generalize hH2 : upd (upd (upd H P (.tbl (ps ++ #[rawInt pos.line, rawInt pos.col, .ref c']))) c' (CodeO c' q)) h'.objs.size ho = H2 at I2
  have old : ∀ b u, b ≠ P → H b = some u → H2 b = some u := fun b u hb e => by
    rw [← hH2, upd_ne (ne_of_none e nF), hF1 b hb (ne_of_none e nC)]
    exact e
  have atP : H2 P = some (.tbl (ps ++ #[rawInt pos.line, rawInt pos.col, .ref c'])) := by rw [← hH2, upd_ne nPf, upd_ne nPc, upd_same]
  have atc : H2 c' = some (CodeO c' q) := by rw [← hH2, upd_ne ncf, upd_same]
  have code : ∀ {b r}, H b = some (CodeO b r) → H2 b = some (CodeO b r) := fun {b r} e => old b _ (fun z => by rw [z, hP] at e; exact codeO_ne _ (Option.some.inj e).symm) e
  refine ⟨H2, I2, fun b u hb e => old b u (fun z => hb (by rw [z]; exact List.mem_cons_self)) e, fun R hR => ?_, nF, by rw [← hH2, upd_same], atc⟩
  by_cases hb : R = P
  · subst hb
    refine ⟨_, atP, ?_, fun p' cv hcv => ?_⟩
    · rw [Array.toList_append]; exact PySem.TriplesOk_snoc _ _ _ _ ht
    · rw [Array.toList_append] at hcv
      rcases among_app2 _ ht hcv with z | ⟨z, z1, z2⟩
      · obtain ⟨c0, e1, e2⟩ := ha p' cv z
        exact ⟨c0, e1, code e2⟩
      · exact ⟨c', z, by rw [← z1, ← z2, hn]; exact atc⟩
  · obtain ⟨ps', a1, a2, a3⟩ := T R hR
    refine ⟨ps', old R _ hb a1, a2, fun p' cv hcv => ?_⟩
    obtain ⟨c0, e1, e2⟩ := a3 p' cv hcv
    exact ⟨c0, e1, code e2⟩
end
/-! ### the statement «def name(..): ..» in a def -/
def tNdf (nm : Nat → Nat → Str) (Ps : List Addr) (P : Addr) (i : Nat) (mk : Addr → NF) : TS := fun D σ H => Tbs nm Ps H ∧ ∀ (f c' : Addr) (H1 : Hp), Kp [P] H H1 → Tbs nm Ps H1 → H f = none → H1 f = some (FnO f (mk c')) → H1 c' = some (CodeO c' (mk c').qual) → D.nx (σ.set i (some (.ref f))) H1
section
variable {X : Cx} {nm : Nat → Nat → Str} {Ps : List Addr} {c P : Addr}
theorem fnO_new {P : Program} {w : World} {F : NF} {h : Heap} {doc pm ctv : Value} {f : Addr} (e : h.get? f = some ({ cls := .type "function", data := .func (F.fd doc pm ctv) } : Obj)) (H1 : Hp) : ObjOk P w H1 h f (FnO f F) :=
  ⟨⟨_, _, doc, pm, ctv, e⟩, ⟨_, e⟩, fun _ _ ⟨od, sl, d, p, t, z⟩ st => ⟨od, sl, d, p, t, st _ z⟩⟩
theorem fnE_new {P : Program} {w : World} {F : NF} {body : Expr} {h : Heap} {pm ctv : Value} {f : Addr} (e : h.get? f = some (PySem.W.kla_obj F.name F.qual F.params body F.scope F.cl pm F.c ctv)) (H1 : Hp) : ObjOk P w H1 h f (FnE f F body) :=
  ⟨⟨pm, ctv, e⟩, ⟨_, e⟩, fun _ _ ⟨p, t, z⟩ st => ⟨p, t, st _ z⟩⟩
theorem ps_ndf {st : Stmt} {name : Str} {pos : Pos} {i : Nat} (hst : st = .FunctionDef name (C8.fnArgs st) (C8.fnBody st) [] none [] (C8.fnScope st) none name pos) (TB : TabB X.base X.mg c P) (hcode : X.env.code = .ref c) (hm : P ∈ Ps) (hn : nm pos.line pos.col = X.env.qual ++ name) {fr : List Str} (hfr : ndefB X.env.scope (C8.fnScope st) fr = true)
    (hd0 : (C8.fnArgs st).defaults = []) (hk0 : (C8.fnArgs st).kw_defaults = []) (ha : annTrees (C8.fnArgs st) none X.env = []) (hN : X.N.Nodup) (hi : X.N[i]? = some name) (hx : Loc X.env.scope name) (hf : X.fn name = true ∨ X.env.scope.names.lookup name = some .local) :
    PS X st (tNdf nm Ps P i (NF.of st name (X.env.qual ++ name) (cloFrom X.env.cells (C8.fnScope st).names []))) := by
  rw [hst]
  constructor
  intro pins s σ H D I q
  obtain ⟨T, q⟩ := q
  have hq : qualnameIn X.env name name = X.env.qual ++ name := by
    have hk : X.env.kindOf name = some .local ∨ X.env.kindOf name = some .cell := hx
    unfold qualnameIn
    rcases hk with k | k
    · rw [k]; rfl
    · rw [k]; exact if_neg (by decide)
  refine PySem.W.nestDef_K hd0 hk0 ha ?_
  rw [hq]
  have hfree : ∀ y ∈ (C8.fnScope st).names, y.2 = .free → ∃ a, X.env.cells.lookup y.1 = some a := fun y hy e => I.ok.has _ (ndef_free hfr y hy e)
  obtain ⟨ps, hP, ht, hal⟩ := T P hm
  have bP : s.heap.BuiltinsAt X.mg P := TB.bm.keeps I.bk
  have hP' : s.heap.get? P = some { cls := .none, data := .fields ps } := I.hok P _ hP
  have gl := I.mod.glob.keeps I.bk
  have cd := TB.code.keeps I.bk
  have go : ∀ (f c' : Addr) (H1 : Hp) (s' : Shared), Inv X pins σ H1 s' → Kp [P] H H1 → Tbs nm Ps H1 → H f = none → H1 f = some (FnO f (NF.of st name (X.env.qual ++ name) (cloFrom X.env.cells (C8.fnScope st).names []) c')) → H1 c' = some (CodeO c' (X.env.qual ++ name)) →
      wpAny (model X.prog X.w) X.A (storeName X.env name (.ref f)) (fun _ s'' => SP X pins D .next s'') X.xe s' := fun f c' H1 s' I1 k t n h1 h2 =>
    store_ok I1 hN hi hx (v := .ref f) rfl (fun s'' J => ⟨_, H1, J, q f c' H1 k t n h1 h2⟩) hf
  cases hc : codeAmong pos ps.toList with
  | some cv =>
    obtain ⟨c', rfl, hco⟩ := hal pos cv hc
    rw [hn] at hco
    refine PySem.W.makeFunction_hit (mg := X.mg) (closure_ok hfree) I.ok.glob gl hcode cd hP' ht hc bP fun ctv doc h' tk hx2 hsz => ?_
    obtain ⟨J, nF⟩ := inv_hit (tk := tk) (ho := FnO h'.objs.size (NF.of st name (X.env.qual ++ name) (cloFrom X.env.cells (C8.fnScope st).names []) c')) I hx2 hsz fun H1 => fnO_new (doc := doc) (pm := (X.mg "__name__").getD .none) (ctv := ctv) (Heap.get?_push_size _ rfl) H1
    have e := Evl.Ex.new (o := FnO h'.objs.size (NF.of st name (X.env.qual ++ name) (cloFrom X.env.cells (C8.fnScope st).names []) c')) nF
    exact go _ c' _ _ J (Kp.of_ex e) (T.ex e) nF upd_same (e _ _ hco)
  | none =>
    refine PySem.W.makeFunction_K (mg := X.mg) (closure_ok hfree) I.ok.glob gl hcode cd hP' ht hc TB.gP bP fun c' ctv doc h' tk hx2 hge hlt hrec htb => ?_
    obtain ⟨H1, J, k, t, n, h1, h2⟩ := inv_made (tk := tk) (ho := FnO h'.objs.size (NF.of st name (X.env.qual ++ name) (cloFrom X.env.cells (C8.fnScope st).names []) c')) I T hm hP ht hal hn hx2 hge hlt hrec htb fun H1 => fnO_new (doc := doc) (pm := (X.mg "__name__").getD .none) (ctv := ctv) (Heap.get?_push_size _ rfl) H1
    exact go _ c' _ _ J k t n h1 h2
/-! ### a lambda -/
def tLmd (nm : Nat → Nat → Str) (Ps : List Addr) (P : Addr) (mk : Addr → NF) (body : Expr) : TE := fun σ H Q => Tbs nm Ps H ∧ ∀ (f c' : Addr) (H1 : Hp), Kp [P] H H1 → Tbs nm Ps H1 → H f = none → H1 f = some (FnE f (mk c') body) → H1 c' = some (CodeO c' (mk c').qual) → Q (.ref f) H1
theorem pe_lmd {params : Arguments} {body : Expr} {scope : Scope} {pos : Pos} (TB : TabB X.base X.mg c P) (hcode : X.env.code = .ref c) (hm : P ∈ Ps) (hn : nm pos.line pos.col = X.env.qual ++ "<lambda>") {fr : List Str} (hfr : ndefB X.env.scope scope fr = true) (hdef : defaultsOf params X.env = ([], [])) :
    PE X (.Lambda params body scope pos) (tLmd nm Ps P (fun c' => ⟨"<lambda>", X.env.qual ++ "<lambda>", params, [], scope, cloFrom X.env.cells scope.names [], c'⟩) body) := by
  constructor
  intro pins s σ H Q I q
  obtain ⟨T, q⟩ := q
  refine PySem.W.kla_eval hdef ?_
  have hfree : ∀ y ∈ scope.names, y.2 = .free → ∃ a, X.env.cells.lookup y.1 = some a := fun y hy e => I.ok.has _ (ndef_free hfr y hy e)
  obtain ⟨ps, hP, ht, hal⟩ := T P hm
  have bP : s.heap.BuiltinsAt X.mg P := TB.bm.keeps I.bk
  have hP' : s.heap.get? P = some { cls := .none, data := .fields ps } := I.hok P _ hP
  have gl := I.mod.glob.keeps I.bk
  have cd := TB.code.keeps I.bk
  cases hc : codeAmong pos ps.toList with
  | some cv =>
    obtain ⟨c', rfl, hco⟩ := hal pos cv hc
    rw [hn] at hco
    refine PySem.W.kla_makeFunctionHit (mg := X.mg) (closure_ok hfree) I.ok.glob gl hcode cd hP' ht hc bP fun ctv h' tk hx2 hsz => ?_
    obtain ⟨J, nF⟩ := inv_hit (tk := tk) (ho := FnE h'.objs.size ⟨"<lambda>", X.env.qual ++ "<lambda>", params, [], scope, cloFrom X.env.cells scope.names [], c'⟩ body) I hx2 hsz fun H1 => fnE_new (pm := (X.mg "__name__").getD .none) (ctv := ctv) (Heap.get?_push_size _ rfl) H1
    have e := Evl.Ex.new (o := FnE h'.objs.size ⟨"<lambda>", X.env.qual ++ "<lambda>", params, [], scope, cloFrom X.env.cells scope.names [], c'⟩ body) nF
    exact ⟨.ref _, _, J, rfl, q _ c' _ (Kp.of_ex e) (T.ex e) nF upd_same (e _ _ hco)⟩
  | none =>
    refine PySem.W.kla_makeFunction (mg := X.mg) (closure_ok hfree) I.ok.glob gl hcode cd hP' ht hc TB.gP bP fun c' ctv h' tk hx2 hge hlt hrec htb => ?_
    obtain ⟨H1, J, k, t, n, h1, h2⟩ := inv_made (tk := tk) (ho := FnE h'.objs.size ⟨"<lambda>", X.env.qual ++ "<lambda>", params, [], scope, cloFrom X.env.cells scope.names [], c'⟩ body) I T hm hP ht hal hn hx2 hge hlt hrec htb fun H1 => fnE_new (pm := (X.mg "__name__").getD .none) (ctv := ctv) (Heap.get?_push_size _ rfl) H1
    exact ⟨.ref _, H1, J, rfl, q _ c' H1 k t n h1 h2⟩
end
/-! ### a maker of the text -/
structure FunT (K : PySem.W.Frag) (x qual : Str) (st : Stmt) (f : Addr) (fd : FuncData) (c : Addr) : Prop where
  ex : ∃ (oc : Value) (od : Option Addr) (kV doc pm : Value) (an : Option Addr) (ct : Value) (osl : Array (Option Value)), fd = PySem.W.fnOf x qual (defArgs st) (defBody st) (defScope st) .none kV doc pm an (.ref c) ct ∧ K.lookup f = some ⟨oc, od, .func fd, osl⟩ ∧ PySem.W.codeIn K (.ref c) qual = true
theorem funT_mk {K : PySem.W.Frag} {x qual : Str} {st : Stmt} {f c : Addr} {oc : Value} {od an : Option Addr} {osl : Array (Option Value)} {kV doc pm cd ct : Value} (l : K.lookup f = some ⟨oc, od, .func (PySem.W.fnOf x qual (defArgs st) (defBody st) (defScope st) .none kV doc pm an cd ct), osl⟩) (ec : cd = .ref c)
    (h : PySem.W.codeIn K cd qual = true) : FunT K x qual st f (PySem.W.fnOf x qual (defArgs st) (defBody st) (defScope st) .none kV doc pm an cd ct) c := by
  subst ec
  exact ⟨oc, od, kV, doc, pm, an, ct, osl, rfl, l, h⟩
/-- a maker, by its body -/
theorem FunT.ok {P : Program} {w : World} {K : PySem.W.Frag} {mg : Str → Option Value} {base : Heap} {x qual : Str} {st : Stmt} {f c : Addr} {fd : FuncData} {N ps : List Str} {k : Nat} {sp : Sp} (F : FunT K x qual st f fd c) (S : FnScope N ps (defScope st)) (len : ∀ vs H Q E, sp vs H Q E → vs.length = ps.length)
    (hb : ∀ (A : Around) (outer : List Env) (s : Shared) (H : Hp) (vs : List V) (Q : VK) (E : XK), Room k (A.deeper (PyProof.Rows.envOfC qual (defScope st) s.heap.objs.size f (.ref c))) → sp vs H Q E →
      ∃ t, PSs (cxOf L2.CX0 P w K mg base N qual (defScope st) f (.ref c) A outer s H E).nox (defBody st) t ∧ t { nx := fun _ H' => Q .non H', rt := Q } (L2.start N vs) H) : FnOk P w K mg base L2.CX0 (k + 1) f fd ps sp := by
  obtain ⟨oc, od, kV, doc, pm, an, ct, osl, rfl, lk, hcd⟩ := F.ex
  refine fn_of lk hcd S len fun A outer s H vs Q E hr hsp => ?_
  obtain ⟨t, h, q⟩ := hb A outer s H vs Q E hr hsp
  exact ⟨t, PSs.nox h, q⟩
/-- a nested def, by its body -/
theorem nok_by {P : Program} {w : World} {K : PySem.W.Frag} {mg : Str → Option Value} {base : Heap} {N ps fr : List Str} {F : NF} {f : Addr} {k : Nat} {sp : List (Option V) → Sp} (S : NScope N ps fr F.scope)
    (hb : ∀ (doc pm ctv : Value) (us : List Value), us.length = ps.length → bindArgs (F.fd doc pm ctv) ⟨us, []⟩ = pure (ps.zip us)) (len : ∀ ws vs H Q E, sp ws vs H Q E → vs.length = ps.length)
    (hbody : ∀ (A : Around) (outer : List Env) (s : Shared) (H : Hp) (vs : List V) (ws : List (Option V)) (Q : VK) (E : XK), Room k (A.deeper (envF F f s.heap.objs.size)) → ws.length = fr.length → sp ws vs H Q E →
      ∃ t, PSs (ncx L2.CX0 P w K mg base N F f A outer s H E).nox F.body t ∧ t { nx := fun _ H' => Q .non H', rt := Q } (startF N vs ws) H) : NOk P w K mg base L2.CX0 (k + 1) f F ps fr sp := by
  refine nok_of S hb len fun A outer s H vs ws Q E hr _ _ hl hsp => ?_
  obtain ⟨t, h, q⟩ := hbody A outer s H vs ws Q E hr hl hsp
  exact ⟨t, PSs.nox h, q⟩
def inBody (st : Stmt) (i : Nat) : Stmt := (defBody st).getD i (.Pass ⟨0, 0, 0, 0⟩)
/-- which table the code object at c has -/
def tabOf (K : PySem.W.Frag) (c : Addr) : Addr := match K.lookup c with
  | some ⟨_, _, .fields vs, _⟩ => match (vs[11]? : Option PySem.Value) with
    | some (.ref p) => p
    | _ => 0
  | _ => 0
theorem tab_is {K : PySem.W.Frag} {c : Addr} (h : PySem.W.codeHdIn K c (tabOf K c) = true) : PySem.W.codeHdIn K c (tabOf K c) = true := h
theorem mem_dec {p : Addr} {l : List Addr} (h : decide (p ∈ l) = true) : p ∈ l := of_decide_eq_true h
end AT

set_option Elab.async false
set_option linter.all false
set_option maxRecDepth 100000
set_option maxHeartbeats 4000000
/-! own words, tenth part: enumerate over a text; sep.join(reversed(a list)) -/
namespace AT
open PySem PySem.Spec PyProof.Rows L2
section
abbrev SgnP (x : Str) : Nat → Value → Prop := fun i v => ∃ c u, x.cps[i]? = some c ∧ v = .str ⟨#[c]⟩ u
theorem draws_sgn {P : Program} {w : World} {B : Around} (calm : B.handled = none) (z : Addr) (x : Str) (t : Tok) : Draws P w B z [z] x.cps.size (SgnP x) (fun i g => g.IsStrIter z (strIterType x) x t i) := by
  unfold strIterType
  cases x.cps.all (· < 128) with
  | true => exact Draws.strAscii calm z x t
  | false => exact Draws.strWide calm z x t
/-- the text x, each sign in a new pair with its place -/
def ItEs (x : Str) : It where
  go := fun i _ => i < x.cps.size
  yld := fun i H v H' => ∃ T c, v = .ref T ∧ H T = none ∧ x.cps[i]? = some c ∧ H' = upd H T (.tup [.int (i : Nat), .str ⟨#[c]⟩])
  stop := fun i _ => x.cps.size ≤ i
theorem turn_enumS {P : Program} {w : World} {K : PySem.W.Frag} {tgs : List Expr} {kk : Nat} {tp : Pos} (x : Str) (t : Tok) (e z : Addr) :
    Turn P w K (.Tuple tgs kk tp) (ItEs x) [e, z] e (fun i g => (∃ old, IsEnum g e z ((i : Nat) : Int) old) ∧ g.IsStrIter z (strIterType x) x t i ∧ e ≠ z ∧ i ≤ x.cps.size) := by
  refine ⟨List.mem_cons_self, fun i g st b hb => ?_, fun i g g' st k => ?_, ?_, ?_, fun B i s Q E st h => ?_⟩
  · obtain ⟨⟨old, he⟩, ⟨o, ho, hc, hd⟩, _⟩ := st
    rcases List.mem_cons.mp hb with y | y
    · rw [y]; exact ⟨_, he, fun v t => nomatch t⟩
    · rw [List.mem_singleton.mp y]; exact ⟨o, ho, fun v t => by rw [hd] at t; cases t⟩
  · obtain ⟨⟨old, he⟩, ⟨o, ho, r⟩, ne, hi⟩ := st
    exact ⟨⟨old, k e List.mem_cons_self _ he⟩, ⟨o, k z (List.mem_cons_of_mem _ List.mem_cons_self) _ ho, r⟩, ne, hi⟩
  · intro X hP hw hK hc i pins s σ H E I hf st hg
    subst hP hw hK
    obtain ⟨⟨old, he⟩, hz, ne, hi⟩ := st
    have lt : i < x.cps.size := hg
    have heL : e < s.heap.objs.size := Heap.lt_size he
    have hzL : z < s.heap.objs.size := by obtain ⟨_, q, _⟩ := hz; exact Heap.lt_size q
    refine wpAny_pyNext_enum_itemD (draws_sgn (P := X.prog) (w := X.w) (B := X.A.in1) (show X.A.in1.handled = none from I.ok.hd hc) z x t) he hz lt ne (by simp [ne]) fun u' g tk hu' ho st' hT hsz hk => ?_
    obtain ⟨c, tu, hc1, rfl⟩ := hu'
    refine ⟨_, rfl, wpAny_letOwnedTupleGo_enum (s := { s with heap := g, toks := tk + 1 }) ho fun g2 he' sb => ?_⟩
    have hT2 : g2.get? s.heap.objs.size = some { cls := .type "tuple", data := .seq #[.int i tk, .str ⟨#[c]⟩ tu] } := (sb.2 _ (Nat.ne_of_gt heL)).trans hT
    have new : ObjOk X.prog X.w (upd H s.heap.objs.size (.tup [.int (i : Nat), .str ⟨#[c]⟩])) g2 s.heap.objs.size (.tup [.int (i : Nat), .str ⟨#[c]⟩]) :=
      ⟨by show 2 ≤ sizeLine; decide, [.int i tk, .str ⟨#[c]⟩ tu], .cons ⟨_, rfl⟩ (.cons ⟨_, rfl⟩ .nil), ⟨_, hT2, rfl, _, rfl⟩⟩
    have I1 : Inv X pins σ (upd H s.heap.objs.size (.tup [.int (i : Nat), .str ⟨#[c]⟩])) { s with heap := g2, toks := tk + 1 } :=
      I.turnedNew (ch := [e, z]) (fun b ob hb t => (sb.2 b (fun y => hb (by simp [y]))).trans (hk b ob (fun y => hb (by simp [y])) (fun y => hb (by simp [y])) t)) hf (Nat.le_refl _) new
    refine ⟨.ref s.heap.objs.size, _, I1, rfl, ⟨_, c, rfl, I.hok.fresh (Nat.le_refl _), hc1, rfl⟩, ⟨⟨.str ⟨#[c]⟩ tu, ?_⟩, ?_, ne, lt⟩, fun b hb => ?_⟩
    · have e1 : ((i + 1 : Nat) : Int) = (i : Int) + 1 := by omega
      rw [e1]
      exact he'
    · obtain ⟨o, q, r⟩ := st'
      exact ⟨o, (sb.2 z (Ne.symm ne)).trans q, r⟩
    · have hb' : b < s.heap.objs.size := by
        rcases List.mem_cons.mp hb with y | y
        · exact y ▸ heL
        · exact List.mem_singleton.mp y ▸ hzL
      rw [upd_ne (Nat.ne_of_lt hb')]
      exact (hf b hb).1
  · intro X hP hw hK hc i pins s σ H E I hf st hg
    subst hP hw hK
    obtain ⟨⟨old, he⟩, hz, ne, hi⟩ := st
    obtain ⟨f0, f1, f2, f3, f4, f5⟩ := hf z (List.mem_cons_of_mem _ List.mem_cons_self)
    have hl : i = x.cps.size := Nat.le_antisymm hi hg
    rw [hl] at he hz
    refine wpAny_pyNext_enum_endD (draws_sgn (P := X.prog) (w := X.w) (B := X.A.in1) (show X.A.in1.handled = none from I.ok.hd hc) z x t) he hz fun g eb => ⟨rfl, I.turned (t' := s.toks) (fun b o hb t => eb b o hb t) f0 f1 f3 f4 f5⟩
  · obtain ⟨⟨_, he⟩, _⟩ := st
    exact wpAny_pyIter_enum he h
def iEnumS (ta : TA) : TI := fun σ H R => ta σ H fun vs H1 => ∃ x, vs = [.str x] ∧ R (ItEs x) H1
theorem pi_enumS {X : Cx} {e : Expr} {ta : TA} {p pos tp : Pos} {tgs : List Expr} {kk : Nat} (hg : Gl X "enumerate") (hm : X.mg "enumerate" = none) (ha : PA X [e] ta) (hs : starEach [e] X.env = [(false, eval e X.env)] := by rfl) :
    PI X (.Tuple tgs kk tp) (.Call (.Name "enumerate" p) [e] [] pos) (iEnumS ta) := by
  constructor
  intro pins s σ H R I h
  refine Call_ (ld_blt I hg hm boot_enumerate (PyProof.Rows.callWith_type1 (thn (ha.run pos pins s σ H _ I h) fun us s1 z => ?_) hs rfl))
  obtain ⟨vs, H1, I1, r1, x, ex, q⟩ := z
  subst ex
  obtain ⟨u, rfl, ru⟩ := vals1 r1
  obtain ⟨t, rfl⟩ := ru
  refine call_enumerate_str fun g he hit hsz hk => wpAny_pyIter_enum he ?_
  have I2 : Inv X pins σ H1 { s1 with heap := g } := I1.kept (t' := s1.toks) hk
  refine ⟨s1.heap.objs.size + 1, [s1.heap.objs.size + 1, s1.heap.objs.size], _, _, H1, rfl, I2, turn_enumS x t (s1.heap.objs.size + 1) s1.heap.objs.size, ⟨⟨.none, he⟩, hit, Nat.succ_ne_self _, Nat.zero_le _⟩, fun b hb => ?_, q⟩
  have hle : s1.heap.objs.size ≤ b := by
    rcases List.mem_cons.mp hb with y | y
    · rw [y]; exact Nat.le_succ _
    · rw [List.mem_singleton.mp y]; exact Nat.le_refl _
  exact I1.fpOk hle (I1.hok.fresh hle)
theorem walk_enumS {x : Str} : Walk (ItEs x) x.cps.size (fun _ => True) (fun i H v H' => ∃ T c, v = .ref T ∧ H T = none ∧ x.cps[i]? = some c ∧ H' = upd H T (.tup [.int (i : Nat), .str ⟨#[c]⟩])) :=
  ⟨fun i _ hi _ => hi, fun _ _ => Nat.le_refl _, fun i H v H' _ _ y => y⟩
/-- enumerate of a list, a tuple or a text -/
def iEnumX (K : PySem.W.Frag) (ta : TA) : TI := fun σ H R => iEnumS ta σ H R ∨ iEnumA K ta σ H R
theorem pi_enumX {X : Cx} {e : Expr} {ta : TA} {p pos tp : Pos} {tgs : List Expr} {kk : Nat} (hg : Gl X "enumerate") (hm : X.mg "enumerate" = none) (ha : PA X [e] ta) (hs : starEach [e] X.env = [(false, eval e X.env)] := by rfl) :
    PI X (.Tuple tgs kk tp) (.Call (.Name "enumerate" p) [e] [] pos) (iEnumX X.K ta) := PI.or (pi_enumS hg hm ha hs) (pi_enumA hg hm ha hs)
end
/-! ### sep.join(reversed(a list)) -/
section
variable {P : Program} {w : World} {A : Around} {E : Value → Shared → Prop} {s : Shared}
theorem join_rev {x : Str} {t : Tok} {it l : Addr} {its : Array Value} {ys : List Str} {Q : Value → Shared → Prop} (calm : A.handled = none) (hit : s.heap.IsRevIter it l ((its.size : Int) - 1)) (hl : s.heap.IsList l its) (hne : l ≠ it) (hn : its.size ≤ sizeLine)
    (hP : ∀ acc : Array Value, ItemsOf (fun i v => its[its.size - 1 - i]? = some v) acc its.size → StrsAre acc.toList ys) (hok : (ys.map (·.length)).sum + ys.length * x.length ≤ 16777216)
    (hq : ∀ h' tk t', (∀ b o, b ≠ it → s.heap.get? b = some o → h'.get? b = some o) → Q (.str (Txt.join x ys) t') { s with heap := h', toks := tk }) : wpAny (model P w) A (call (.builtin "str.join") [.str x t, .ref it]) Q E s := by
  refine wpAny_call (codeAny_call_builtin F.slot_str_join.plain F.entry_str_join (F.slot_str_join.check _ _ _ _ _ _ _ _ (typeIs_str _ _ _) (F.args_str_join_2 _ _) ?_))
  rw [join_tree_other]
  have ty : s.TypeIs (.ref it) "list_reverseiterator" := hit.typeIs
  refine wpAny_bind (wpAny_typeOf ty ?_)
  rw [if_neg (by decide)]
  refine wpAny_bind (wpAny_tryCatch (wpAny_pyIter_revIter hit ?_))
  have calm1 : A.in1.in1.handled = none := calm
  refine wpAny_bind (RT.collect_rev (A := A.in1) calm hit hl hne hn fun h' tk acc kp items => ?_)
  obtain ⟨ps, hps, es⟩ := strsAre_values (hP acc items)
  subst es
  rw [hps]
  have fit := joinOk_of hok
  unfold JoinOk at fit
  rw [Bool.not_eq_true'] at fit
  have g : Gives (PySem.joinTail x (strValues ps)) (joinMade x ps) := by
    have made := PySem.gives_joinTail x ps fit
    rcases ps with _ | ⟨one, _ | ⟨two, rest⟩⟩
    · exact made
    · exact made
    · exact made
  exact g P w A (wants Q E) _ (PySem.post_join ps ⟨PySem.joinFit_length fit, fun t' k => hq h' k t' kp⟩)
end
theorem strs_rev {ys : List Str} {its : List Value} {acc : Array Value} (r : Vals (ys.map V.str) its) (h : ItemsOf (fun i v => its.toArray[its.toArray.size - 1 - i]? = some v) acc its.toArray.size) : StrsAre acc.toList ys.reverse := by
  have r2 := RT.vals_rev r h
  rw [← List.map_reverse] at r2
  generalize ys.reverse = zs at r2
  generalize acc.toList = us at r2
  clear h r
  induction zs generalizing us with
  | nil => cases r2; exact .nil
  | cons z zs ih =>
    cases r2 with
    | cons r1 r3 =>
      obtain ⟨t, rfl⟩ := r1
      exact .cons z t (ih _ r3)
def tJoinRev (K : PySem.W.Frag) (to : TE) (ta : TA) : TE := fun σ H Q => to σ H fun v H1 => (∃ a : Str, v = .str a) ∧ ta σ H1 fun vs H2 => ∃ (a : Str) (q : Addr) (ys : List Str), v = .str a ∧ vs = [.ref q] ∧ SqL K H2 q (ys.map V.str) ∧
  (ys.map (·.length)).sum + ys.length * a.length ≤ 16777216 ∧ Q (.str (Txt.join a ys.reverse)) H2
theorem pe_joinRev {X : Cx} {o e : Expr} {to : TE} {ta : TA} {apos pos p2 pos2 : Pos} (calm : X.calm = true) (ho : PE X o to) (hg : Gl X "reversed") (hm : X.mg "reversed" = none) (ha : PA X [e] ta) (hs : starEach [e] X.env = [(false, eval e X.env)] := by rfl)
    (hs1 : starEach [.Call (.Name "reversed" p2) [e] [] pos2] X.env = [(false, eval (.Call (.Name "reversed" p2) [e] [] pos2) X.env)] := by rfl) (hbase : attributeBase o "join" X.env (eval o X.env) = eval o X.env := by rfl) (hline : (apos.endLine == pos.line) = true := by rfl) :
    PE X (.Call (.Attribute o "join" apos) [.Call (.Name "reversed" p2) [e] [] pos2] [] pos) (tJoinRev X.K to ta) := by
  constructor
  intro pins s σ H Q I h
  refine PySem.Call_method1 hbase hs1 hline (thn (ho.run pins s σ H _ I h) fun v s1 z => ?_)
  obtain ⟨x, H1, I1, r1, ⟨a, rfl⟩, q1⟩ := z
  obtain ⟨t, rfl⟩ := _root_.id r1
  refine ⟨"str", _, F.plainAttrs_str, F.slot_str_join, F.type_str_join, typeIs_str _ _ _, (fun _ e => nomatch e), Calls.callWith_builtin rfl (Calls.evalArgs_plain (Calls.spliced_cons ?_))⟩
  refine Call_ (ld_blt I1 hg hm PyProof.Rows.boot_reversed (PyProof.Rows.callWith_type1 (thn (ha.run pos2 pins s1 σ H1 _ I1 q1) fun us s2 z => ?_) hs rfl))
  obtain ⟨vs, H2, I2, r2, a', q, ys, ea, ev, hq, hz, q2⟩ := z
  cases ea
  subst ev
  obtain ⟨u, rfl, ru⟩ := vals1 r2
  cases (show u = Value.ref q from ru)
  obtain ⟨its, rv, p', hl⟩ := I2.list hq
  refine call_reversed_list p'.isList (Calls.spliced_nil ?_)
  have hol : q < s2.heap.objs.size := by obtain ⟨o, z, _⟩ := p'.isList; exact Heap.lt_size z
  have k0 : ∀ b o, s2.heap.get? b = some o → (s2.heap.push (revObj q ((its.toArray.size : Int) - 1))).get? b = some o := fun b o z => Heap.get?_push_of_some _ z
  have J : Inv X pins σ H2 { s2 with heap := s2.heap.push (revObj q ((its.toArray.size : Int) - 1)) } := I2.kept (t' := s2.toks) k0
  obtain ⟨f0, f1, f2, f3, f4, f5⟩ := I2.fpOk (H' := H2) (b := s2.heap.objs.size) (Nat.le_refl _) (I2.hok.fresh (Nat.le_refl _))
  refine join_rev (s := { s2 with heap := s2.heap.push (revObj q ((its.toArray.size : Int) - 1)) }) (ys := ys.reverse) (I2.ok.hd calm) ⟨_, Heap.get?_push_size _ rfl, rfl, rfl⟩ (p'.isList.push _) (Nat.ne_of_lt hol) ?_ (fun acc hi => strs_rev rv hi) ?_ fun h' tk t' kp => ?_
  · rw [List.size_toArray, ← rv.length]; exact hl
  · rw [List.map_reverse, List.sum_reverse, List.length_reverse]; exact hz
  · exact ⟨.str _, H2, J.turned (t' := tk) (fun b o hb z => kp b o hb z) f0 f1 f3 f4 f5, ⟨t', rfl⟩, q2⟩
section
variable {X : Cx} (K : PySem.W.Frag) (hK : X.K = K := by rfl)
include hK
theorem kJr {e : Expr} {to : TE} {ta : TA} (h : PE X e (tJoinRev X.K to ta)) : PE X e (tJoinRev K to ta) := hK ▸ h
end
section
variable {σ : L2.St} {H : Hp} {Q : VK} {D : Ends} {t : TA} {to : TE} {ta : TA} {nm : Nat → Nat → Str} {Ps : List Addr} {P : Addr} {i : Nat} {mk : Addr → NdefX.NF} {X : Cx} {sp : Sp} {R : It → Hp → Prop}
theorem rd_ndf (T : Tbs nm Ps H) (h : ∀ (f c' : Addr) (H1 : Hp), Kp [P] H H1 → Tbs nm Ps H1 → H f = none → H1 f = some (NdefX.FnO f (mk c')) → H1 c' = some (LamX.CodeO c' (mk c').qual) → D.nx (σ.set i (some (.ref f))) H1) : tNdf nm Ps P i mk D σ H := ⟨T, h⟩
theorem rd_callZ (h : t σ H fun vs H1 => ∀ O, OwnC X σ O H1 → sp vs (fz (ca X) O H1) (fun v H2 => Q v (hid (ca X) H2)) L2.E0) : tCallZ X sp t σ H Q := h
theorem rd_enS (h : ta σ H fun vs H1 => ∃ x, vs = [.str x] ∧ R (ItEs x) H1) : iEnumS ta σ H R := h
end
section
variable {X : Cx}
/-- t.index(True), t a tuple of truth values -/
def rIdxB (K : PySem.W.Frag) : V → List V → Hp → VK → Prop := fun x xs H Q => ∃ (p : Addr) (bs : List Bool) (j : Nat), x = .ref p ∧ xs = [.bl true] ∧ SqT K H p (bs.map V.bl) ∧ bs[j]? = some true ∧ (∀ m, m < j → bs[m]? ≠ some true) ∧ Q (.int (j : Nat)) H
theorem flat_bls : ∀ bs : List Bool, (bs.map V.bl).all flatV = true
  | [] => rfl
  | _ :: bs => flat_bls bs
theorem mt_tupIdxB : MtR X "tuple.index" (rIdxB X.K) := by
  intro pins s σ H x xs v us Q I rx rs h
  obtain ⟨p, bs, j, rfl, rfl, hq, hj, no, q⟩ := h
  cases rx
  obtain ⟨u, rfl, ru⟩ := vals1 rs
  cases (show u = Value.bool true from ru)
  obtain ⟨its, r, ⟨⟨cls, dd, dt, sl⟩, ho, hc, n, hd⟩, hz⟩ := I.tuple hq
  simp only at hc hd
  subst hc hd
  have len : its.toArray.size = bs.length := by
    have := r.length
    rw [List.length_map] at this
    rw [List.size_toArray]; exact this.symm
  have jl : j < its.toArray.size := by rw [len]; exact (List.getElem?_eq_some_iff.mp hj).1
  have here : ∀ (m : Nat) (hm : m < its.toArray.size), ∃ b, bs[m]? = some b ∧ its.toArray[m] = Value.bool b := fun m hm => by
    have hm' : m < bs.length := len ▸ hm
    obtain ⟨z, hz1, hz2⟩ := r.get (i := m) (x := .bl bs[m]) (by simp [hm'])
    refine ⟨bs[m], List.getElem?_eq_getElem hm', ?_⟩
    cases (show z = Value.bool bs[m] from hz2)
    simpa using (List.getElem?_eq_some_iff.mp hz1).2
  refine call_meets PySem.F.slot_tuple_index ⟨_, ho, rfl⟩ PySem.F.entry_tuple_index (PySem.F.args_tuple_index_2 _ _) (TI.tuple_indexAt p its.toArray n dd sl (.bool true) (eqU (.bl true)) j jl ?_ ?_) ⟨ho, fun z hz => mem_eqAt (x := .bl true) rfl rfl r (flat_bls bs) z (by simpa using hz), ⟨.int (j : Nat), H, I.tok _, ⟨_, rfl⟩, q⟩⟩
  · obtain ⟨b, h1, h2⟩ := here j jl
    rw [hj] at h1
    cases h1
    rw [h2]
    rfl
  · intro m hm hmj
    obtain ⟨b, h1, h2⟩ := here m hm
    rw [h2]
    cases b with
    | true => exact absurd h1 (no m hmj)
    | false => rfl
end
section
variable {X : Cx} (K : PySem.W.Frag) (hK : X.K = K := by rfl)
include hK
theorem kIdxB : MtR X "tuple.index" (rIdxB K) := hK ▸ mt_tupIdxB
end
theorem PE.or {X : Cx} {e : Expr} {t t' : TE} (h : PE X e t) (h' : PE X e t') : PE X e (fun σ H Q => t σ H Q ∨ t' σ H Q) := by
  constructor
  intro pins s σ H Q I q
  exact q.elim (h.run pins s σ H Q I) (h'.run pins s σ H Q I)
/-! ### what stands still hides no data -/
section
variable {K : PySem.W.Frag} {S : List Addr} {H H' : Hp}
theorem rz_hid : rz S H (hid S H) = H := by
  funext b
  by_cases hb : b ∈ S
  · rw [rz_in hb]
  · rw [rz_at hb, hid_at hb]
/-- all of S are things that no data leans on -/
def NoD (S : List Addr) (H : Hp) : Prop := ∀ b ∈ S, ∀ o, H b = some o → (∀ xs, o ≠ .lst xs) ∧ (∀ xs, o ≠ .tup xs) ∧ (∀ u xs, o ≠ .frz u (.lst xs)) ∧ ∀ u xs, o ≠ .frz u (.tup xs)
theorem NoD.of_fr (W : ∀ b ∈ S, ∃ o, H b = some (frC b o)) : NoD S H := fun b hb o e => by
  obtain ⟨u, z⟩ := W b hb
  rw [z] at e
  cases e
  exact ⟨fun xs z => (nomatch z), fun xs z => (nomatch z), (fun u xs z => by cases z), (fun u xs z => by cases z)⟩
theorem sqt_noD (h : NoD S H) {a : Addr} {vs : List V} (q : SqT K H a vs) : SqT K (hid S H) a vs := by
  rcases q with (q | ⟨o, q⟩) | q
  · exact .inl (.inl (by rw [hid_at fun hb => (h a hb _ q).2.1 _ rfl]; exact q))
  · exact .inl (.inr ⟨o, by rw [hid_at fun hb => (h a hb _ q).2.2.2 _ _ rfl]; exact q⟩)
  · exact .inr q
theorem sql_noD (h : NoD S H) {a : Addr} {vs : List V} (q : SqL K H a vs) : SqL K (hid S H) a vs := by
  rcases q with (q | ⟨o, q⟩) | q
  · exact .inl (.inl (by rw [hid_at fun hb => (h a hb _ q).1 _ rfl]; exact q))
  · exact .inl (.inr ⟨o, by rw [hid_at fun hb => (h a hb _ q).2.2.1 _ _ rfl]; exact q⟩)
  · exact .inr q
mutual
theorem Dp.hidF (h : NoD S H) : ∀ (d : PyData) {v : V}, Dp K H v d → Dp K (hid S H) v d
  | .none, _, q => by cases q; exact .non
  | .bool b, _, q => by cases q; exact .bl b
  | .int i, _, q => by cases q; exact .int i
  | .str x, _, q => by cases q; exact .str x
  | .list ds, _, q => by
    cases q with
    | lst hs ha => exact .lst (sql_noD h hs) (DpAll.hidF h ds ha)
  | .tuple ds, _, q => by
    cases q with
    | tup hs ha => exact .tup (sqt_noD h hs) (DpAll.hidF h ds ha)
  | .dict _, _, q => by cases q
theorem DpAll.hidF (h : NoD S H) : ∀ (ds : List PyData) {vs : List V}, DpAll K H vs ds → DpAll K (hid S H) vs ds
  | [], _, q => by cases q; exact .nil
  | d :: ds, _, q => by
    cases q with
    | cons h1 h2 => exact .cons (Dp.hidF h d h1) (DpAll.hidF h ds h2)
end
end
section
variable {nm : Nat → Nat → Str} {Ps S : List Addr} {H H' : Hp}
/-- the tables are no data -/
theorem Tbs.noD (t : Tbs nm Ps H) : NoD Ps H := fun b hb o e => by
  obtain ⟨ps, z⟩ := TabN.isT (t b hb)
  rw [z] at e
  cases e
  exact ⟨fun xs z => (nomatch z), fun xs z => (nomatch z), fun u xs z => (nomatch z), fun u xs z => (nomatch z)⟩
theorem kp_one {P : Addr} (hP : P ∈ Ps) (k : Kp [P] H H') : Kp Ps H H' := k.sub fun b hb => by rw [List.mem_singleton.mp hb]; exact hP
end
/-! ### made functions, for those who get them -/
section
open LamX NdefX
/-- the promise, the function's cells out of sight -/
def spC (as : List Addr) (sp : Sp) : List V → Hp → VK → Prop := fun vs H Q => (∀ b ∈ as, ∃ o, H b = some (frC b o)) → sp vs (hid as H) (fun v H' => (∀ b ∈ as, H' b = none) → Q v (rz as H H')) L2.E0
theorem FV.weak {P : Program} {w : World} {K : PySem.W.Frag} {mg : Str → Option Value} {base : Heap} {k : Nat} {f : Addr} {G : Hp → Prop} {sp sp' : List V → Hp → VK → Prop} (F : FV P w K mg base k f G sp) (h : ∀ vs H Q, G H → sp' vs H Q → sp vs H Q) : FV P w K mg base k f G sp' :=
  ⟨F.fn, F.st, fun A outer s H us vs Q hr e0 g r q => F.run A outer s H us vs Q hr e0 g r (h vs H Q g q)⟩
variable {X : Cx} {σ : L2.St} {O : Addr → Obj} {H : Hp} {f c : Addr} {name q : Str} {params : Arguments} {scope : Scope} {N ps fr : List Str} {js : List Nat} {k : Nat} {sp : List (Option V) → Sp}
theorem lam_made {body : Expr} (ow : OwnC X σ O H) (hf : H f = some (FnE f ⟨name, q, params, [], scope, cloFrom X.env.cells scope.names [], c⟩ body)) (hc : H c = some (CodeO c q)) (js : List Nat) (hb : ndefB X.env.scope scope fr = true) (hjs : js.map (fun j => X.N[j]?) = fr.map some) (S : NScope N ps fr scope)
    (hbind : ∀ (cl : List (Str × Addr)) (pm ctv : Value) (us : List Value), us.length = ps.length → bindArgs (PySem.W.kla_fn name q params body scope cl pm (.ref c) ctv) ⟨us, []⟩ = pure (ps.zip us)) (len : ∀ ws vs H Q E, sp ws vs H Q E → vs.length = ps.length)
    (hbody : ∀ (cl : List (Str × Addr)) (A : Around) (outer : List Env) (s : Shared) (H : Hp) (vs : List V) (ws : List (Option V)) (Q : VK), Room k (A.deeper (envF ⟨name, q, params, [], scope, cl, c⟩ f s.heap.objs.size)) → ws.length = fr.length → sp ws vs H Q L2.E0 →
      ∃ t, PE (ncx L2.CX0 X.prog X.w X.K X.mg X.base N ⟨name, q, params, [], scope, cl, c⟩ f A outer s H L2.E0) body t ∧ t (startF N vs ws) H Q) :
    ∃ (G : Hp → Prop) (as : List Addr), FV X.prog X.w X.K X.mg X.base (k + 1) f G (spC as (sp (js.map (slotAt σ)))) ∧ G (fz (ca X) O H) := by
  have F := FV.of_lam (P := X.prog) (w := X.w) (K := X.K) (mg := X.mg) (base := X.base) (f := f) (F := ⟨name, q, params, [], scope, cloFrom X.env.cells scope.names [], c⟩) (body := body) (ws := js.map (slotAt σ)) (sp := sp) S (hbind _) len fun A outer s H vs Q hr hl h => hbody _ A outer s H vs _ Q hr hl h
  exact ⟨_, _, F.weak fun vs H' Q g h => h fun b hb => let ⟨u, e, _⟩ := g.cel b hb; ⟨u, e⟩, clo_made ow hf hc hb hjs⟩
theorem ndf_made {body : List Stmt} (ow : OwnC X σ O H) (hf : H f = some (FnO f ⟨name, q, params, body, scope, cloFrom X.env.cells scope.names [], c⟩)) (hc : H c = some (CodeO c q)) (js : List Nat) (hb : ndefB X.env.scope scope fr = true) (hjs : js.map (fun j => X.N[j]?) = fr.map some)
    (Nk : ∀ cl, NOk X.prog X.w X.K X.mg X.base L2.CX0 k f ⟨name, q, params, body, scope, cl, c⟩ ps fr sp) :
    ∃ (G : Hp → Prop) (as : List Addr), FV X.prog X.w X.K X.mg X.base k f G (spC as (sp (js.map (slotAt σ)))) ∧ G (fz (ca X) O H) := by
  have F := FV.of_nok (ws := js.map (slotAt σ)) (Nk (cloFrom X.env.cells scope.names []))
  exact ⟨_, _, F.weak fun vs H' Q g h => h fun b hb => let ⟨u, e, _⟩ := g.cel b hb; ⟨u, e⟩, clo_made ow hf hc hb hjs⟩
end
theorem Tbs.kpX {nm : Nat → Nat → Str} {Ps : List Addr} {P : Addr} {H H' : Hp} (t : Tbs nm Ps H) (hP : P ∈ Ps) (k : Kp [P] H H') {b : Addr} {o : HO} (e : H b = some o) (x : isX o) : H' b = some o := by
  obtain ⟨ps, z⟩ := TabN.isT (t P hP)
  refine k b o (fun m => ?_) e
  rw [List.mem_singleton.mp m, z] at e
  cases e
  exact x
/-- the data that stands while a table grows -/
theorem Tbs.kpD {nm : Nat → Nat → Str} {Ps : List Addr} {P : Addr} {H H' : Hp} (t : Tbs nm Ps H) (hP : P ∈ Ps) (k : Kp [P] H H') {b : Addr} {o : HO} (e : H b = some o) (x : ∀ ps, o ≠ .tbl ps) : H' b = some o := by
  obtain ⟨ps, z⟩ := TabN.isT (t P hP)
  refine k b o (fun m => ?_) e
  rw [List.mem_singleton.mp m, z] at e
  cases e
  exact absurd rfl (x ps)
/-- out of the callee's heap, the cells left behind -/
theorem fz_out {as : List Addr} {O : Addr → Obj} {H H' : Hp} (n : ∀ c ∈ as, H c = none) (e : Ex (fz as O H) H') : Ex H (hid as H') := fun b o z => by
  have nb : b ∉ as := fun m => by rw [n b m] at z; cases z
  rw [hid_at nb]
  exact e b o (by rw [fz_at nb]; exact z)
section
open LamX NdefX
/-- what stands but for the cells -/
def StE (H H' : Hp) : Prop := ∀ b φ, H b = some (.ext φ) → H' b = some (.ext φ)
theorem StE.hid {S : List Addr} {H : Hp} (W : ∀ b ∈ S, ∃ o, H b = some (frC b o)) : StE H (hid S H) := fun b φ e => by
  rw [hid_at fun m => by obtain ⟨o, z⟩ := W b m; rw [z] at e; cases e]
  exact e
theorem StE.of_ex {H H' : Hp} (e : Ex H H') : StE H H' := fun b φ z => e b _ z
theorem StE.trans {H H1 H2 : Hp} (a : StE H H1) (b : StE H1 H2) : StE H H2 := fun x φ z => b x φ (a x φ z)
/-- a lambda that captured nothing -/
theorem lam_free {P : Program} {w : World} {K : PySem.W.Frag} {mg : Str → Option Value} {base : Heap} {f c : Addr} {name q : Str} {params : Arguments} {scope : Scope} {N ps : List Str} {k : Nat} {sp : Sp} {body : Expr} {H : Hp} {cl : List (Str × Addr)} (hf : H f = some (FnE f ⟨name, q, params, [], scope, cl, c⟩ body)) (hc : H c = some (CodeO c q)) (hcl : cl = [])
    (S : NScope N ps [] scope) (hbind : ∀ (pm ctv : Value) (us : List Value), us.length = ps.length → bindArgs (PySem.W.kla_fn name q params body scope [] pm (.ref c) ctv) ⟨us, []⟩ = pure (ps.zip us)) (len : ∀ vs H Q E, sp vs H Q E → vs.length = ps.length)
    (hbody : ∀ (A : Around) (outer : List Env) (s : Shared) (H : Hp) (vs : List V) (Q : VK), Room k (A.deeper (envF ⟨name, q, params, [], scope, [], c⟩ f s.heap.objs.size)) → sp vs H Q L2.E0 →
      ∃ t, PE (ncx L2.CX0 P w K mg base N ⟨name, q, params, [], scope, [], c⟩ f A outer s H L2.E0) body t ∧ t (startF N vs []) H Q) :
    ∃ G : Hp → Prop, FV P w K mg base (k + 1) f G (fun vs H Q => sp vs H Q L2.E0) ∧ G H ∧ ∀ H H', StE H H' → G H → G H' := by
  subst hcl
  have F := FV.of_lam (P := P) (w := w) (K := K) (mg := mg) (base := base) (f := f) (F := ⟨name, q, params, [], scope, [], c⟩) (body := body) (fr := []) (ws := []) (sp := fun _ => sp) S hbind (fun _ => len) fun A outer s H vs Q hr _ h => hbody A outer s H vs Q hr h
  have all : ∀ H, H f = some (FnE f ⟨name, q, params, [], scope, [], c⟩ body) ∧ H c = some (CodeO c q) → Clo H f (FnE f ⟨name, q, params, [], scope, [], c⟩ body) c q [] [] [] := fun H h =>
    ⟨h.1, h.2, (fun a ha => nomatch ha), (fun x y a e => nomatch e), rfl, fun i y e => by rw [List.getElem?_nil] at e; cases e⟩
  refine ⟨fun H => H f = some (FnE f ⟨name, q, params, [], scope, [], c⟩ body) ∧ H c = some (CodeO c q), ⟨fun H h ok g => F.fn H h ok (all H g), fun H H' st g => ⟨st _ _ g.1 True.intro, st _ _ g.2 True.intro⟩, fun A outer s H us vs Q hr e0 g r q => F.run A outer s H us vs Q hr e0 (all H g) r ?_⟩, ⟨hf, hc⟩, fun H H' st g => ⟨st _ _ g.1, st _ _ g.2⟩⟩
  show sp vs (hid [] H) (fun v H' => (∀ b ∈ ([] : List Addr), H' b = none) → Q v (rz [] H H')) L2.E0
  have e1 : (fun (v : V) (H' : Hp) => (∀ b ∈ ([] : List Addr), H' b = none) → Q v (rz [] H H')) = Q := by
    funext v H'
    have e2 : rz [] H H' = H' := by
      funext b
      exact rz_at (by simp)
    rw [e2]
    exact propext ⟨fun h => h fun b hb => (nomatch hb), fun h _ => h⟩
  rw [hid_nil, e1]
  exact q
end
theorem Tbs.hidC {nm : Nat → Nat → Str} {Ps as : List Addr} {H : Hp} (t : Tbs nm Ps H) (W : ∀ b ∈ as, ∃ o, H b = some (frC b o)) : Tbs nm Ps (hid as H) := fun P hP => by
  obtain ⟨ps, e, h1, h2⟩ := t P hP
  refine ⟨ps, by rw [hid_at fun m => by obtain ⟨o, z⟩ := W P m; rw [e] at z; cases z]; exact e, h1, fun pos cv hc => ?_⟩
  obtain ⟨c, e1, e2⟩ := h2 pos cv hc
  exact ⟨c, e1, by rw [hid_at fun m => by obtain ⟨o, z⟩ := W c m; rw [e2] at z; cases z]; exact e2⟩
/-- back from a callee that may make functions -/
theorem out_T {nm : Nat → Nat → Str} {Ps as : List Addr} {O : Addr → Obj} {H H' : Hp} (n : ∀ c ∈ as, H c = none) (t : Tbs nm Ps H) (k : Kp Ps (fz as O H) H') (t' : Tbs nm Ps H') : Kp Ps H (hid as H') ∧ Tbs nm Ps (hid as H') := by
  have np : ∀ b ∈ as, b ∉ Ps := fun b hb hP => by
    obtain ⟨ps, z⟩ := TabN.isT (t b hP)
    rw [n b hb] at z; cases z
  refine ⟨fun b o hb e => ?_, t'.hidC fun b hb => ⟨O b, k b _ (np b hb) (fz_in hb)⟩⟩
  have nb : b ∉ as := fun m => by rw [n b m] at e; cases e
  rw [hid_at nb]
  exact k b o hb (by rw [fz_at nb]; exact e)
theorem rd_neB {K : PySem.W.Frag} {x y : Bool} {H : Hp} {Q : VK} (h : Q (.bl (x != y)) H) : oNe K (.bl x) (.bl y) H Q := .inl ⟨rfl, by
  have e : (!decide (V.bl x = V.bl y)) = (x != y) := by cases x <;> cases y <;> rfl
  rw [e]; exact h⟩
theorem rd_eqB {K : PySem.W.Frag} {x y : Bool} {H : Hp} {Q : VK} (h : Q (.bl (x == y)) H) : oEq K (.bl x) (.bl y) H Q := .inl ⟨rfl, by
  have e : decide (V.bl x = V.bl y) = (x == y) := by cases x <;> cases y <;> rfl
  rw [e]; exact h⟩
/-! ### tuples that are known to the object: their methods -/
/-- a tuple with no dict of its own -/
def TupF (H : Hp) (p : Addr) (xs : List V) : Prop := ∃ o : Obj, H p = some (.frz o (.tup xs)) ∧ o.cls = .type "tuple" ∧ o.dict = none
theorem TupF.sq {K : PySem.W.Frag} {H : Hp} {p : Addr} {xs : List V} (h : TupF H p xs) : SqT K H p xs := let ⟨o, e, _⟩ := h; .inl (.inr ⟨o, e⟩)
theorem TupF.ex {H H' : Hp} {p : Addr} {xs : List V} (h : TupF H p xs) (e : Ex H H') : TupF H' p xs := let ⟨o, z, r⟩ := h; ⟨o, e _ _ z, r⟩
/-- tuple(a list): the new tuple, known to the object -/
def cTupF (K : PySem.W.Frag) : List V → Hp → VK → Prop := fun xs H Q => ∃ p ys, xs = [.ref p] ∧ SqL K H p ys ∧ ∀ l o, H l = none → o.cls = .type "tuple" → o.dict = none → Q (.ref l) (upd H l (.frz o (.tup ys)))
theorem call_tupF {X : Cx} : CallR X (.type "tuple") (cTupF X.K) := by
  intro pins s σ H xs us Q I r h
  obtain ⟨p, ys, rfl, hq, q⟩ := h
  obtain ⟨u, rfl, ru⟩ := vals1 r
  cases (show u = Value.ref p from ru)
  obtain ⟨its, rv, pl, hz⟩ := I.list hq
  have len := rv.length
  refine call_tuple_list pl.isList (fun h' kp => ?_) (by rw [List.size_toArray]; omega)
  have J : Inv X pins σ H { s with heap := h' } := I.kept (t' := s.toks) kp
  have got : (h'.push { cls := .type "tuple", data := .seq its.toArray }).get? h'.objs.size = some { cls := .type "tuple", data := .seq its.toArray } := Heap.get?_push_size _ rfl
  refine ⟨.ref h'.objs.size, _, J.laid (t' := s.toks) (o := .frz { cls := .type "tuple", data := .seq its.toArray } (.tup ys)) (fun b o e => Heap.get?_push_of_some _ e) (Nat.le_refl _) ⟨got, hz, its, rv, IsTup.new _ _⟩, rfl, q _ _ (J.hok.fresh (Nat.le_refl _)) rfl rfl⟩
/-- o.m(..), o a tuple that is known to the object -/
def tBMF (r : V → List V → Hp → VK → Prop) (to : TE) (t : TA) : TE := fun σ H Q => to σ H fun x H1 => (∃ p xs, x = .ref p ∧ TupF H1 p xs) ∧ t σ H1 fun vs H2 => r x vs H2 Q
theorem pe_bmF {X : Cx} {o e : Expr} {es : List Expr} {name : Str} {id : String} {r : V → List V → Hp → VK → Prop} {to : TE} {t : TA} {apos cpos : Pos} (pa : PlainAttrs "tuple") (slot : Slot "tuple" name id) (hty : typeOf (.builtin id) = pure (.type "method_descriptor")) (hm : MtR X id r) (ho : PE X o to) (ha : PA X (e :: es) t)
    (hbase : attributeBase o name X.env (eval o X.env) = eval o X.env := by rfl)
    (hfew : ((backTo cpos (starEach (e :: es) X.env)).all (fun x => !x.1) && (backToKw cpos (keywordEach [] X.env)).all (fun x => x.1.isSome) && decide ((e :: es).length + ([] : List Keyword).length + (if ([] : List Keyword).isEmpty then 0 else 1) < 30)) = true := by rfl)
    (hline : (apos.endLine == cpos.line) = true := by rfl) (hs : starEach (e :: es) X.env = (false, eval e X.env) :: starEach es X.env := by rfl) (hpl : (backTo cpos (starEach es X.env)).any (·.1) = false := by rfl) :
    PE X (.Call (.Attribute o name apos) (e :: es) [] cpos) (tBMF r to t) := by
  constructor
  intro pins s σ H Q I h
  refine wpAny_Call_method_late hbase hfew hline rfl (thn (ho.run pins s σ H _ I h) fun v s1 z => ?_)
  obtain ⟨x, H1, I1, r1, ⟨p, xs, rfl, u, hp, hc, hd⟩, q1⟩ := z
  have hv : v = Value.ref p := r1
  obtain ⟨got, _⟩ := I1.hok p _ hp
  refine ⟨"tuple", id, pa, slot, hty, by rw [hv]; exact ⟨u, got, hc⟩, fun a e => ?_, ?_⟩
  · rw [hv] at e
    cases e
    exact ⟨u, got, hd⟩
  have hA := ha.run cpos pins s1 σ H1 _ I1 q1
  rw [hs] at hA ⊢
  refine Calls.callWith_builtin (by show (false || (backTo cpos (starEach es X.env)).any (·.1)) = false; rw [hpl]; rfl) (Calls.evalArgs_plain ?_)
  exact thn hA fun us s2 z => by
    obtain ⟨vs, H2, I2, r2, q2⟩ := z
    exact hm pins s2 σ H2 _ vs v us Q I2 r1 r2 q2
section
variable {X : Cx} (K : PySem.W.Frag) (hK : X.K = K := by rfl)
include hK
theorem kTupF : CallR X (.type "tuple") (cTupF K) := hK ▸ call_tupF
end
theorem rd_bmF {r : V → List V → Hp → VK → Prop} {to : TE} {t : TA} {σ : L2.St} {H : Hp} {Q : VK} (h : to σ H fun x H1 => (∃ p xs, x = .ref p ∧ TupF H1 p xs) ∧ t σ H1 fun vs H2 => r x vs H2 Q) : tBMF r to t σ H Q := h
end AT

set_option Elab.async false
set_option linter.all false
set_option maxRecDepth 100000
set_option maxHeartbeats 4000000
/-! own words, eleventh part: calls of function values within comprehensions -/
namespace AT
open PySem PySem.Spec PyProof.Rows L2
section
variable {X : Cx} {k i : Nat} {x : Str} {p pos : Pos} {e : Expr} {es : List Expr} {t : TA} {P : Program} {w : World} {K : PySem.W.Frag} {mg : Str → Option Value} {base : Heap}
/-- x(..), x a name that holds a function, its parts named -/
theorem pe_callQB (h1 : X.prog = P) (h2 : X.w = w) (h3 : X.K = K) (h4 : X.mg = mg) (h5 : X.base = base) (hr : Room k X.A) (hN : X.N[i]? = some x) (hv : Vis X.env.scope x) (ha : PA X (e :: es) t) (hd : (x == ("__debug__" : Str)) = false := by decide) (hcd : (x == ("__classdict__" : Str)) = false := by decide)
    (he : starEach (e :: es) X.env = (false, eval e X.env) :: starEach es X.env := by rfl) (hpl : (backTo pos (starEach es X.env)).any (·.1) = false := by rfl) : PE X (.Call (.Name x p) (e :: es) [] pos) (tCallQ P w K mg base k i t) := by
  subst h1 h2 h3 h4 h5
  exact pe_callQ hr hN hv ha hd hcd he hpl
end
/-- o[i] of a tracked list, from its start, as `o[i] += ..` reads it -/
def gGetL : V → V → Hp → VK → Prop := fun x y H Q => ∃ p xs i v, x = .ref p ∧ y = .int i ∧ H p = some (.lst xs) ∧ 0 ≤ i ∧ xs[i.toNat]? = some v ∧ Q v H
theorem pget_list {X : Cx} : PGet X gGetL := by
  intro pins s σ H x y v u Q I rx ry h
  obtain ⟨p, xs, i, z, rfl, rfl, hq, h0, he, q⟩ := h
  cases rx
  obtain ⟨t, rfl⟩ := ry
  obtain ⟨its, r, pl, hz⟩ := I.list (.inl (.inl hq))
  obtain ⟨w, ew, rw'⟩ := r.get he
  have hl := r.length
  have hn := line63
  have hi : i.toNat < xs.length := (List.getElem?_eq_some_iff.mp he).1
  exact wpAny_mono (wpAny_getItem_list (Q := fun r s' => r = w ∧ s' = s) pl.isList h0 (by omega) (by simpa using ew) ⟨rfl, rfl⟩) (fun r s' e => by obtain ⟨rfl, rfl⟩ := e; exact ⟨z, H, I, rw', q⟩) fun _ _ z => z
theorem rd_augS {to ti te : TE} {tget : V → V → Hp → VK → Prop} {tip : TIp} {tset : TSet} {D : Ends} {σ : L2.St} {H : Hp} (h : to σ H fun o H1 => ti σ H1 fun i H2 => tget o i H2 fun x H3 => te σ H3 fun y H4 => tip x y H4 fun z H5 => tset o i z H5 fun H6 => D.nx σ H6) : tAugS to ti te tget tip tset D σ H := h
/-- d.setdefault(k, v), its reading -/
theorem rd_dsetd {td ty tx : TE} {σ : L2.St} {H : Hp} {Q : VK} (h : td σ H fun x H1 => ∃ a, x = .ref a ∧ IsD H1 a ∧ ty σ H1 fun y H2 => tx σ H2 fun z H3 => ∃ (kvs : List (L2.Key × V)) (k : L2.Key), H3 a = some (.dK kvs) ∧ y = kV k ∧ kvs.length < sizeLine ∧
  (∀ v, valV kvs k = some v → Q v H3) ∧ (valV kvs k = none → Q z (upd H3 a (.dK (putK kvs k z))))) : tDSetd td ty tx σ H Q := h
end AT

set_option Elab.async false
set_option linter.all false
set_option maxRecDepth 100000
set_option maxHeartbeats 4000000
/-! own words, twelfth part: dicts whose keys are truth values; setdefault -/
namespace AT
open PySem PySem.Spec PyProof.Rows L2
/-- a dict whose keys are truth values -/
def dB (P : Program) (w : World) (a : Addr) (kvs : List (Bool × V)) : HO := .ext fun h => kvs.length ≤ sizeLine ∧ (a == sysModules) = false ∧ ∃ vs, KV kvs vs ∧ h.DictOf (PpSet.boolK P w) a vs
section
variable {P : Program} {w : World} {H : Hp} {h : Heap} {a : Addr} {kvs : List (Bool × V)}
theorem dB_ok {vs : List (Bool × Value)} (z : kvs.length ≤ sizeLine) (hd : (a == sysModules) = false) (rel : KV kvs vs) (dd : h.DictOf (PpSet.boolK P w) a vs) : ObjOk P w H h a (dB P w a kvs) := by
  have he : ∃ q, h.get? a = some q := let ⟨q, _, _, hq, _⟩ := dd; ⟨q, hq⟩
  exact ⟨⟨z, hd, vs, rel, dd⟩, he, fun h1 h2 x k => by
    obtain ⟨z, y, vs, r, ob, es, ep, e, c⟩ := x
    exact ⟨z, y, vs, r, ob, es, ep, k _ e, c⟩⟩
theorem dB_rd (ok : HOk P w H h) (e : Rd H a (dB P w a kvs)) : kvs.length ≤ sizeLine ∧ (a == sysModules) = false ∧ ∃ vs, KV kvs vs ∧ h.DictOf (PpSet.boolK P w) a vs :=
  (show ObjOk P w H h a (dB P w a kvs) from rd_of ok e).1
theorem dB_of (ok : HOk P w H h) (e : H a = some (dB P w a kvs)) : kvs.length ≤ sizeLine ∧ (a == sysModules) = false ∧ ∃ vs, KV kvs vs ∧ h.DictOf (PpSet.boolK P w) a vs := dB_rd ok (.inl e)
theorem bl_is {k : Bool} {u : Value} (r : RelV (.bl k) u) : (PpSet.boolK P w).is k u = true := by
  obtain rfl : u = Value.bool k := r
  exact PpSet.boolK_is P w k
end
section
variable {X : Cx} {pins : List (Addr × Obj)} {σ : L2.St} {H : Hp} {s : Shared} {a : Addr} {u r : Value} {d : V} {k : Bool} {A : Around} {E : Value → Shared → Prop}
theorem d_setdB {kvs : List (Bool × V)} {Q : Value → Shared → Prop} (I : Inv X pins σ H s) (e : H a = some (dB X.prog X.w a kvs)) (ry : RelV (.bl k) u) (rd : RelV d r) (hl : kvs.length < sizeLine)
    (h1 : ∀ v, valV kvs k = some v → ∀ (w' : Value) (s' : Shared), Inv X pins σ H s' → RelV v w' → Q w' s') (h2 : valV kvs k = none → ∀ (w' : Value) (s' : Shared), Inv X pins σ (upd H a (dB X.prog X.w a (putK kvs k d))) s' → RelV d w' → Q w' s') :
    wpAny (model X.prog X.w) A (call (.builtin "dict.setdefault") [.ref a, u, r]) Q E s := by
  obtain ⟨z, hd, vs, rel, dd⟩ := dB_of I.hok e
  have hz : vs.length ≤ sizeLine := by
    rw [← rel.length]
    exact z
  refine call_meetsIn PySem.F.slot_dict_setdefault dd.typeIs PySem.F.entry_dict_setdefault (PySem.F.args_dict_setdefault_3 _ _ _) (kt_meets_setdefault (PpSet.boolK X.prog X.w) a (bl_is ry) hd r) ⟨vs, dd, hz, fun v hv => ?_, fun hn h' dd' hs => ?_⟩
  · have q := rel.val k
    rw [hv] at q
    cases q0 : valV kvs k with
    | none =>
      rw [q0] at q
      exact (show False from q).elim
    | some v0 =>
      rw [q0] at q
      exact h1 v0 q0 _ _ (I.tok _) q
  · have q := rel.val k
    rw [hn] at q
    cases q0 : valV kvs k with
    | some v0 =>
      rw [q0] at q
      exact (show False from q).elim
    | none =>
      have hl2 : (putK kvs k d).length ≤ sizeLine := by
        have := length_putK kvs k d
        omega
      have he : ∃ q, h'.get? a = some q := let ⟨q, _, _, hq, _⟩ := dd'; ⟨q, hq⟩
      exact h2 q0 _ _ (d_write (t' := s.toks + 1) I (by rw [e]; exact True.intro) hs he (dB_ok hl2 hd (rel.put k rd) dd')) rd
end
def tDNewB (P : Program) (w : World) : TE := fun _ H Q => ∀ p, H p = none → Q (.ref p) (upd H p (dB P w p []))
def tDSetdB (P : Program) (w : World) (td ty tx : TE) : TE := fun σ H Q => td σ H fun x H1 => (∃ a kvs, x = .ref a ∧ H1 a = some (dB P w a kvs)) ∧ ty σ H1 fun y H2 => tx σ H2 fun z H3 => ∃ (a : Addr) (kvs : List (Bool × V)) (k : Bool), x = .ref a ∧ H3 a = some (dB P w a kvs) ∧ y = .bl k ∧ kvs.length < sizeLine ∧
  (∀ v, valV kvs k = some v → Q v H3) ∧ (valV kvs k = none → Q z (upd H3 a (dB P w a (putK kvs k z))))
def tDGetB (P : Program) (w : World) (td ty : TE) : TE := fun σ H Q => td σ H fun x H1 => ty σ H1 fun y H2 => ∃ (a : Addr) (kvs : List (Bool × V)) (k : Bool) (v : V), x = .ref a ∧ Rd H2 a (dB P w a kvs) ∧ y = .bl k ∧ valV kvs k = some v ∧ Q v H2
section
variable {X : Cx} {o e f i : Expr} {td ty tx : TE} {apos cpos pos : Pos} (P : Program) (w : World) (hP : X.prog = P := by rfl) (hw : X.w = w := by rfl)
include hP hw
theorem pe_dnewB : PE X (.Dict [] [] pos) (tDNewB P w) := by
  subst hP hw
  exact ⟨fun pins s σ H Q I h =>
    wpAny_Dict_empty ⟨.ref s.heap.objs.size, _, I.laid (a := s.heap.objs.size) (o := dB X.prog X.w s.heap.objs.size []) (t' := s.toks) (fun _ _ q => Heap.get?_push_of_some _ q) (Nat.le_refl _)
      (dB_ok (Nat.zero_le _) (beq_eq_false_iff_ne.mpr (Ne.symm (Nat.ne_of_lt I.big))) .nil (Heap.DictOf.new s.heap)), rfl, h _ (I.hok.fresh (Nat.le_refl _))⟩⟩
theorem pe_dsetdB (ho : PE X o td) (he : PE X e ty) (hf : PE X f tx) (m : M2 X o "setdefault" apos e f cpos) : PE X (.Call (.Attribute o "setdefault" apos) [e, f] [] cpos) (tDSetdB P w td ty tx) := by
  subst hP hw
  refine ⟨fun pins s σ H Q I h => ?_⟩
  refine wpAny_Call_method m.base m.few m.line PySem.F.plainAttrs_dict PySem.F.slot_dict_setdefault PySem.F.type_dict_setdefault (thn (ho.run pins s σ H _ I h) fun u s1 ⟨x, H1, I1, rx, ⟨a, kvs0, ex, ea0⟩, q1⟩ => ?_)
  subst ex
  obtain rfl : u = Value.ref a := rx
  obtain ⟨_, _, vs, _, dd⟩ := dB_of I1.hok ea0
  refine ⟨dd.typeIs, dd.mapOf.noDict, ?_⟩
  rw [m.trees]
  refine Calls.callWith_builtin rfl (Calls.evalArgs_plain (Calls.spliced_cons (thn (he.run pins s1 σ H1 _ I1 q1) fun iv s2 ⟨y, H2, I2, ry, q2⟩ =>
    Calls.spliced_cons (thn (hf.run pins s2 σ H2 _ I2 q2) fun fv s3 ⟨z, H3, I3, rz, a', kvs, k, ex2, ea, ey, hl, q3, q4⟩ => Calls.spliced_nil ?_))))
  cases ex2
  subst ey
  exact d_setdB I3 ea ry rz hl (fun v hv w' s4 I4 rw' => ⟨v, _, I4, rw', q3 v hv⟩) fun hn w' s4 I4 rw' => ⟨z, _, I4, rw', q4 hn⟩
theorem pe_dgetB (ho : PE X o td) (hi : PE X i ty) (hs : NoSl i) : PE X (.Subscript o i pos) (tDGetB P w td ty) := by
  subst hP hw
  refine ⟨fun pins s σ H Q I h => ?_⟩
  refine subD_of PySem.F.slot_dict_getitem.lookup hs (thn (ho.run pins s σ H _ I h) fun u s1 ⟨x, H1, I1, rx, q1⟩ => thn (hi.run pins s1 σ H1 _ I1 q1) fun iv s2 ⟨y, H2, I2, ry, a, kvs, k, v, ex, g, ey, hv, q2⟩ => ?_)
  subst ex ey
  obtain rfl : u = Value.ref a := rx
  obtain ⟨z, hd, vs, rel, dd⟩ := dB_rd I2.hok g
  obtain ⟨w', hw, rw'⟩ := RelO.some_of (v := v) (o := valueAt vs k) (by rw [← hv]; exact rel.val k)
  exact ⟨dd.typeIs, wpAny_getItem_of (bl_is ry) dd.mapOf hw ⟨v, H2, I2.tok _, rw', q2⟩⟩
end
/-! the keys of a locked dict -/
section
variable {X : Cx} {pins : List (Addr × Obj)} {σ : L2.St} {H : Hp} {s : Shared} {d : Addr} {o : Obj}
theorem frzB {kvs : List (Bool × V)} (I : Inv X pins σ H s) (h : H d = some (.frz o (dB X.prog X.w d kvs))) :
    (d == sysModules) = false ∧ s.heap.get? d = some o ∧ o.ExactDict ∧ ∃ (es : Array DictEntry) (ep : Nat) (vs : List (Bool × Value)), o.data = .dict es ep ∧ es.size = kvs.length ∧ KV kvs vs ∧ s.heap.DictAt (PpSet.boolK X.prog X.w) d vs ep := by
  obtain ⟨hd, ⟨z, hs, vs, kv, o', es, ep, ho, hx, hdt, r⟩, _⟩ := I.hok d _ h
  rw [hd] at ho
  cases ho
  refine ⟨hs, hd, hx, es, ep, vs, hdt, ?_, kv, o, es, hd, hx, hdt, r⟩
  have l1 := r.2.1.length
  have l2 : kvs.length = vs.length := Paired.length kv
  rw [Array.length_toList] at l1
  omega
end
def Itb (P : Program) (w : World) (d : Addr) (o : Obj) (kvs : List (Bool × V)) : It :=
  ⟨fun i H => H d = some (.frz o (dB P w d kvs)) ∧ i < kvs.length, fun i H x H' => H' = H ∧ ∃ k v, kvs[i]? = some (k, v) ∧ x = .bl k, fun i H => H d = some (.frz o (dB P w d kvs)) ∧ kvs.length ≤ i⟩
theorem kvB_get {kvs : List (Bool × V)} {vs : List (Bool × Value)} (r : KV kvs vs) {i : Nat} {k : Bool} {v : V} (h : kvs[i]? = some (k, v)) : ∃ u, vs[i]? = some (k, u) ∧ RelV v u := by
  unfold KV at r
  induction r generalizing i with
  | nil => simp at h
  | @cons p q ps qs h1 t ih =>
    cases i with
    | zero =>
      simp only [List.getElem?_cons_zero, Option.some.injEq] at h
      subst h
      obtain ⟨h1, h2⟩ := h1
      exact ⟨q.2, by simp only [List.getElem?_cons_zero, Option.some.injEq]; exact Prod.ext h1.symm rfl, h2⟩
    | succ i =>
      simp only [List.getElem?_cons_succ] at h ⊢
      exact ih h
section
variable {P : Program} {w : World} {K : PySem.W.Frag} {tg : Expr} {d : Addr} {o : Obj} {es : Array DictEntry} {ep : Nat}
theorem turn_keysB {kvs : List (Bool × V)} (it : Addr) (hod : o.data = .dict es ep) : Turn P w K tg (Itb P w d o kvs) [it] it (fun i h => h.IsKeyIter it d i kvs.length ep) where
  mem := by simp
  obj := fun i h st b hb => by
    have e : b = it := by simpa using hb
    subst e
    obtain ⟨oi, e, c, dd⟩ := st
    exact ⟨oi, e, fun v z => by rw [dd] at z; cases z⟩
  keep := fun i h h' st k => st.at fun oi e => k it (by simp) oi e
  item := by
    intro X hP hw hK hc i pins s σ H E I hf st hg
    subst hP hw hK
    obtain ⟨hd, hi⟩ := hg
    obtain ⟨f0, f1, f2, f3, f4, f5⟩ := hf it (by simp)
    obtain ⟨hs, hgd, hx, es', ep', vs, hdt, hsz, kv, hm⟩ := frzB I hd
    obtain ⟨rfl, rfl⟩ := dict_ep hod hdt
    obtain ⟨⟨k, v⟩, hkv⟩ : ∃ p, kvs[i]? = some p := ⟨kvs[i], List.getElem?_eq_getElem hi⟩
    obtain ⟨u, hu, ru⟩ := kvB_get kv hkv
    have hl : kvs.length = vs.length := Paired.length kv
    rw [hl] at st
    refine wpAny_pyNext_dict_item st hm hu fun key h' hkey st' sb => ?_
    have I1 : Inv X pins σ H { s with heap := h' } := I.turned (t' := s.toks) (fun b ob hb e => (sb.2 b hb).trans e) f0 f1 f3 f4 f5
    obtain ⟨oi, e, c, dd⟩ := id st'
    refine ⟨key, rfl, go_of (s := { s with heap := h' }) e c dd (by decide) ⟨.bl k, H, I1, PpSet.isB_shape hkey, ⟨rfl, k, v, hkv, rfl⟩, ?_, fun b hb => (hf b hb).1⟩⟩
    show h'.IsKeyIter it d (i + 1) kvs.length _
    rw [hl]
    exact st'
  done := by
    intro X hP hw hK hc i pins s σ H E I hf st hg
    subst hP hw hK
    obtain ⟨hd, hi⟩ := hg
    obtain ⟨f0, f1, f2, f3, f4, f5⟩ := hf it (by simp)
    obtain ⟨hs, hgd, hx, es', ep', vs, hdt, hsz, kv, hm⟩ := frzB I hd
    obtain ⟨rfl, rfl⟩ := dict_ep hod hdt
    exact next_key_end (I.ok.hd hc) st hgd hdt hsz hi fun h' eb => ⟨rfl, I.turned (t' := s.toks) (fun b ob hb e => eb b ob hb e) f0 f1 f3 f4 f5⟩
  self := fun A i s Q E st h => wpAny_pyIter_keyiter st h
end
def iKeysB (P : Program) (w : World) (td : TE) : TI := fun σ H R => td σ H fun x H1 => ∃ d o kvs, x = .ref d ∧ H1 d = some (.frz o (dB P w d kvs)) ∧ R (Itb P w d o kvs) H1
theorem pi_keysB {X : Cx} {tg e : Expr} {td : TE} (P : Program) (w : World) (hP : X.prog = P) (hw : X.w = w) (he : PE X e td) : PI X tg e (iKeysB P w td) := by
  subst hP hw
  refine ⟨fun pins s σ H R I h => ?_⟩
  refine thn (he.run pins s σ H _ I h) fun u s1 ⟨x, H1, I1, rx, d, o, kvs, ex, hd, q⟩ => ?_
  subst ex
  obtain rfl : u = Value.ref d := rx
  obtain ⟨hs, hgd, hx, es, ep, vs, hdt, hsz, kv, hm⟩ := frzB I1 hd
  refine iter_keys hs hgd hx hdt (pi_one (tk := s1.toks) I1 _ (turn_keysB _ hdt) ⟨_, Heap.get?_push_size _ rfl, rfl, ?_⟩ q)
  rw [hsz] <;> rfl
theorem walk_keysB {P : Program} {w : World} {d : Addr} {o : Obj} {kvs : List (Bool × V)} : Walk (Itb P w d o kvs) kvs.length (fun H => H d = some (.frz o (dB P w d kvs))) (fun i H x H' => H' = H ∧ ∃ k v, kvs[i]? = some (k, v) ∧ x = .bl k) :=
  ⟨fun _ _ hi q => ⟨q, hi⟩, fun _ q => ⟨q, Nat.le_refl _⟩, fun _ _ _ _ _ _ y => y⟩
/-! reading -/
section
variable {K : PySem.W.Frag} {σ : L2.St} {H : Hp} {Q : VK} {td ty tx : TE} {P : Program} {w : World}
theorem rd_dsetdB (h : td σ H fun x H1 => (∃ a kvs, x = .ref a ∧ H1 a = some (dB P w a kvs)) ∧ ty σ H1 fun y H2 => tx σ H2 fun z H3 => ∃ (a : Addr) (kvs : List (Bool × V)) (k : Bool), x = .ref a ∧ H3 a = some (dB P w a kvs) ∧ y = .bl k ∧ kvs.length < sizeLine ∧
  (∀ v, valV kvs k = some v → Q v H3) ∧ (valV kvs k = none → Q z (upd H3 a (dB P w a (putK kvs k z))))) : tDSetdB P w td ty tx σ H Q := h
theorem rd_dgetB (h : td σ H fun x H1 => ty σ H1 fun y H2 => ∃ (a : Addr) (kvs : List (Bool × V)) (k : Bool) (v : V), x = .ref a ∧ Rd H2 a (dB P w a kvs) ∧ y = .bl k ∧ valV kvs k = some v ∧ Q v H2) : tDGetB P w td ty σ H Q := h
theorem rd_dnB (h : ∀ p, H p = none → Q (.ref p) (upd H p (dB P w p []))) : tDNewB P w σ H Q := h
end
end AT

set_option Elab.async false
set_option linter.all false
set_option maxRecDepth 100000
set_option maxHeartbeats 4000000
/-! own words, thirteenth part: a tuple, several times or once; sorted ints; list of a dict -/
namespace AT
open PySem PySem.Spec PyProof.Rows L2
theorem tuple_mul1 (l : Addr) (items : Array Value) (n : Nat) (dd : Option Addr) (sl : Array (Option Value)) (u : Tok) (c1 : items.isEmpty = false) :
    Meets (Builtin.«tuple.__mul__» ⟨[.ref l, .int 1 u], []⟩) (fun _ R s => s.heap.get? l = some { cls := .type "tuple", dict := dd, data := .seq items n, slots := sl } ∧ R (.ok (.ret (Value.ref l))) s) :=
  .of_wp fun prog w A R s h => by
    obtain ⟨hp, g, d, tk, os⟩ := s
    obtain ⟨hl, h⟩ := h
    have f1 := AutoSeq1.idx_int
    have c0 : (decide ((1 : Int) < -(2 ^ 63)) || decide ((1 : Int) ≥ 2 ^ 63)) = false := by decide
    have c2 : (items.isEmpty || (1 : Int) == 1) = true := by rw [c1]; rfl
    wp_walk using wpAny_loadPart' hl
    exact ⟨_, rfl, h⟩
/-- a tuple, once -/
def rRepT1 (K : PySem.W.Frag) : R2 := fun x y H Q => ∃ l xs, x = .ref l ∧ y = .int 1 ∧ SqT K H l xs ∧ xs ≠ [] ∧ Q (.ref l) H
section
variable {X : Cx}
theorem op_repT1 : OpR X (binaryOp .Mult) (rRepT1 X.K) := by
  intro pins s σ H x y v u Q I rx ry h
  obtain ⟨l, xs, rfl, rfl, hT, hne, q⟩ := h
  cases rx
  obtain ⟨t, rfl⟩ := ry
  obtain ⟨its, r, ⟨⟨cls, dd, data, sl⟩, ho, hc, n, hd⟩, hs⟩ := I.tuple hT
  simp only at hc hd
  subst hc hd
  have hle : its.length = xs.length := r.length.symm
  have hn : its ≠ [] := fun e => hne (by
    rw [e] at hle
    exact List.eq_nil_of_length_eq_zero hle.symm)
  have hi : its.toArray.isEmpty = false := by
    cases its with
    | nil => exact absurd rfl hn
    | cons a b => rfl
  refine wpAny_binaryOp_repeat_ref (T := "tuple") (U := "int") (by decide) ⟨_, ho, rfl⟩ (fun s' => typeIs_int s' 1 t) noFill_tuple_mul F.fills_int_mul F.slot_int_rmul repeat_tuple F.slot_int_index.lookup
    (call_meets F.slot_int_rmul (typeIs_int s 1 t) F.entry_int_rmul (F.args_int_rmul_2 _ _) (int_rmul_tuple 1 t l its.toArray n dd sl)
      ⟨ho, rfl, ⟨_, ho, rfl⟩, call_meets F.slot_tuple_mul ⟨_, ho, rfl⟩ F.entry_tuple_mul (F.args_tuple_mul_2 _ _) (tuple_mul1 l its.toArray n dd sl t hi) ⟨ho, ?_⟩⟩)
  exact ⟨.ref l, H, I, rfl, q⟩
end
/-- a tuple, several times or once -/
def oMulT (K : PySem.W.Frag) : R2 := fun x y H Q => rRepT K x y H Q ∨ rRepT1 K x y H Q
section
variable {X : Cx} (K : PySem.W.Frag) (hK : X.K = K := by rfl)
include hK
theorem kMulT : OpR X (binaryOp .Mult) (oMulT K) := hK ▸ OpR.or op_repT op_repT1
theorem kIndex : MtR X "list.index" (rIndex K) := hK ▸ mt_index
theorem kIsi : CallR X (.builtin "isinstance") (rIsi K) := hK ▸ call_isi
theorem kSortI : CallR X (.builtin "sorted") (rSortedI K) := hK ▸ cr_sortedI
end
section
variable {K : PySem.W.Frag} {H : Hp} {Q : VK}
theorem rd_isiL {a : Addr} {xs : List V} (h : H a = some (.lst xs)) (q : Q (.bl true) H) : rIsi K [.ref a, .ty "list"] H Q := ⟨_, _, _, _, true, rfl, .ty _, .base (.lst h), kit_ty (by decide +kernel), q⟩
theorem rd_lidx {a : Addr} {l : List Nat} {x : Nat} (h : SqL K H a (l.map fun n : Nat => V.int (n : Int))) (hx : x ∈ l) (q : Q (.int ((l.idxOf x : Nat) : Int)) H) : rIndex K (.ref a) [.int (x : Int)] H Q := by
  have hlt := List.idxOf_lt_length_iff.mpr hx
  have hg : l[l.idxOf x]? = some x := by rw [List.getElem?_eq_getElem hlt, List.getElem_idxOf hlt]
  refine ⟨a, _, .int (x : Int), l.idxOf x, .int (x : Int), rfl, rfl, h, rfl, List.all_eq_true.mpr fun y hy => ?_, by rw [List.getElem?_map, hg]; rfl, beq_self_eq_true _, fun m z' hm hz => ?_, q⟩
  · obtain ⟨n, _, rfl⟩ := List.mem_map.mp hy
    rfl
  · rw [List.getElem?_map] at hz
    obtain ⟨n, hn, rfl⟩ := Option.map_eq_some_iff.mp hz
    show (((n : Nat) : Int) == ((x : Nat) : Int)) = false
    refine beq_eq_false_iff_ne.mpr fun e => ?_
    have e : n = x := by omega
    have := List.not_of_lt_findIdx (p := (· == x)) (xs := l) hm
    obtain ⟨h1, h2⟩ := List.getElem?_eq_some_iff.mp hn
    rw [h2, e] at this
    simp at this
/-- (v,) * k -/
theorem rd_tupk {l : Addr} {v : V} {k : Nat} (h : H l = some (.tup [v])) (k0 : 0 < k) (k1 : k ≤ 1000) (q : ∀ p H', Ex H H' → H' p = some (.tup (List.replicate k v)) → (H p = none ∨ p = l) → Q (.ref p) H') : oMulT K (.ref l) (.int (k : Int)) H Q := by
  rcases Nat.lt_or_ge 1 k with z | z
  · refine .inl ⟨l, (k : Int), [v], rfl, rfl, Evl.st_of h, (fun z => nomatch z), by omega, by omega, by show 1 ≤ 1000; decide, fun p hp => ?_⟩
    have e : (List.replicate ((k : Int)).toNat [v]).flatten = List.replicate k v := by
      rw [Int.toNat_natCast, List.flatten_replicate_singleton]
    rw [e]
    exact q p _ (Evl.Ex.new hp) upd_same (.inl hp)
  · obtain rfl : k = 1 := by omega
    exact .inr ⟨l, [v], rfl, rfl, Evl.st_of h, (fun z => nomatch z), q l H (Evl.Ex.refl H) h (.inr rfl)⟩
theorem rd_catT {l m : Addr} {xs : List V} {v : V} (h1 : H l = some (.tup xs)) (h2 : H m = some (.tup [v])) (hx : xs ≠ []) (c : xs.length + 1 ≤ sizeLine) (h : ∀ p, H p = none → Q (.ref p) (upd H p (.tup (xs ++ [v])))) : oAdd K (.ref l) (.ref m) H Q :=
  .inr (.inr (.inr ⟨l, m, xs, [v], rfl, rfl, Evl.st_of h1, Evl.st_of h2, hx, c, fun z => (nomatch z), fun _ => h⟩))
end
end AT

set_option Elab.async false
set_option linter.all false
set_option maxRecDepth 100000
set_option maxHeartbeats 4000000
/-! own words, fourteenth part: dicts whose keys are tuples that may hold tuples -/
namespace AT
open PySem PySem.Spec PyProof.Rows L2
mutual
/-- v is this key, by what is tracked -/
inductive NV : Hp → NestedKey → V → Prop
  | non {H : Hp} : NV H .none .non
  | int {H : Hp} (i : Int) : NV H (.num i) (.int i)
  | str {H : Hp} (x : Str) : NV H (.text x) (.str x)
  | tup {H : Hp} {b : Addr} {vs : List V} {ks : List NestedKey} : H b = some (.tup vs) → NVs H ks vs → NV H (.tup ks) (.ref b)
inductive NVs : Hp → List NestedKey → List V → Prop
  | nil {H : Hp} : NVs H [] []
  | cons {H : Hp} {k : NestedKey} {v : V} {ks : List NestedKey} {vs : List V} : NV H k v → NVs H ks vs → NVs H (k :: ks) (v :: vs)
end
mutual
theorem NV.ex {H H' : Hp} (e : ∀ b xs, H b = some (.tup xs) → H' b = some (.tup xs)) {k : NestedKey} {v : V} : NV H k v → NV H' k v
  | .non => .non
  | .int i => .int i
  | .str x => .str x
  | .tup h r => .tup (e _ _ h) (NVs.ex e r)
theorem NVs.ex {H H' : Hp} (e : ∀ b xs, H b = some (.tup xs) → H' b = some (.tup xs)) {ks : List NestedKey} {vs : List V} : NVs H ks vs → NVs H' ks vs
  | .nil => .nil
  | .cons h r => .cons (NV.ex e h) (NVs.ex e r)
end
mutual
theorem NV.is {P : Program} {w : World} {H : Hp} {h : Heap} (ok : HOk P w H h) {k : NestedKey} {v : V} {u : Value} : NV H k v → RelV v u → NestedIs h k u
  | .non, r => by
    obtain rfl : u = Value.none := r
    exact .none
  | .int i, r => by
    obtain ⟨t, rfl⟩ : ∃ t, u = Value.int i t := r
    exact .int i t
  | .str x, r => by
    obtain ⟨t, rfl⟩ : ∃ t, u = Value.str x t := r
    exact .text x t
  | .tup (b := b) (vs := vs) hb q, r => by
    obtain rfl : u = Value.ref b := r
    obtain ⟨_, its, rel, o, h1, h2, n, h3⟩ := (show ObjOk P w H h b (.tup vs) from ok b _ hb)
    exact .tup h1 h2 h3 (by rw [List.toList_toArray]; exact NVs.is ok q rel)
theorem NVs.is {P : Program} {w : World} {H : Hp} {h : Heap} (ok : HOk P w H h) {ks : List NestedKey} {vs : List V} {us : List Value} : NVs H ks vs → Vals vs us → NestedAll h ks us
  | .nil, r => by
    cases r
    exact .nil
  | .cons q qs, r => by
    cases r with
    | cons r1 r2 => exact .cons (NV.is ok q r1) (NVs.is ok qs r2)
end
section
variable {X : Cx}
theorem PC.or {op : CmpOp} {a b : Expr} {t t' : TE} (h : PC X op a b t) (h' : PC X op a b t') : PC X op a b fun σ H Q => t σ H Q ∨ t' σ H Q :=
  ⟨fun pins s σ H Q I q => q.elim (h.run pins s σ H Q I) (h'.run pins s σ H Q I)⟩
theorem PS.or {st : Stmt} {t t' : TS} (h : PS X st t) (h' : PS X st t') : PS X st fun D σ H => t D σ H ∨ t' D σ H :=
  ⟨fun pins s σ H D I q => q.elim (h.run pins s σ H D I) (h'.run pins s σ H D I)⟩
end
end AT

set_option Elab.async false
set_option linter.all false
set_option maxRecDepth 100000
set_option maxHeartbeats 4000000
/-! own words, fifteenth part: dicts whose keys are None, numbers and tuples together -/
namespace AT
open PySem PySem.Spec PyProof.Rows L2
abbrev KVV := List (NestedKey × Value × Value)
def entV (w : World) (x : NestedKey × Value × Value) : DictEntry := { hash := NestedKey.hash w x.1, key := x.2.1, val := x.2.2 }
/-- no text: the finding of texts goes another way -/
def NoStr (v : Value) : Prop := ∀ x t, v ≠ .str x t
structure KeyVl (h : Heap) (k : NestedKey) (v : Value) : Prop where
  is : NestedIs h k v
  d : k.depth ≤ 8
  n : NoStr v
def DictV (w : World) (h : Heap) (d : Addr) (xs : KVV) : Prop := ∃ o es ep, h.get? d = some o ∧ o.ExactDict ∧ o.data = .dict es ep ∧ es.toList = xs.map (entV w) ∧ (xs.map (·.1)).Nodup
section
variable {P : Program} {w : World} {A : Around} {E : Value → Shared → Prop} {s : Shared}
theorem entV_at {es : Array DictEntry} {xs : KVV} (he : es.toList = xs.map (entV w)) (j : Nat) : es[j]? = xs[j]?.map (entV w) := by
  rw [← Array.getElem?_toList, he, List.getElem?_map]
theorem idV_unique {xs : KVV} (hn : (xs.map (·.1)).Nodup) {i j : Nat} {k : NestedKey} {p q : Value × Value} (hi : xs[i]? = some (k, p)) (hj : xs[j]? = some (k, q)) : i = j := by
  have l1 := (List.getElem?_eq_some_iff.mp hi).1
  refine (List.getElem?_inj (l := xs.map (·.1)) (by rw [List.length_map]; exact l1) hn).mp ?_
  rw [List.getElem?_map, List.getElem?_map, hi, hj]
  rfl
theorem eqV {x y : NestedKey} {a b : Value} {Q : Bool → Shared → Prop} (hx : KeyVl s.heap x a) (hy : KeyVl s.heap y b) (hu : A.units + 8 < cLine) (q : Q (decide (x = y)) s) : wpAny (model P w) A (eqBool a b) Q E s := by
  have h1 := hx.d
  have h2 := hy.d
  exact eqAt_key x y A s _ _ hx.is hy.is (by omega) _ _ _ _ (by rw [← NestedKey.decide_eq]; exact q)
theorem tellV {k : NestedKey} {key : Value} {stored : List Value} {Q : Bool → Shared → Prop} (hk : KeyVl s.heap k key) (hst : ∀ v ∈ stored, ∃ k', KeyVl s.heap k' v) (q : Q false s) : wpAny (model P w) A (tableMayTell key stored) Q E s := by
  unfold tableMayTell
  split
  · exact wpAny_pure q
  · refine wpAny_bind (quiet_key k key 8 s hk.is hk.d A E _ ?_)
    simp only [Bool.not_true, Bool.false_eq_true, if_false]
    refine wpAny_bind ?_
    refine wpAny_forIn_list _ (fun rest r s' => s' = s ∧ r = (none, ()) ∧ ∀ v ∈ rest, ∃ k', KeyVl s.heap k' v) _ ?_ ?_ _ _ ⟨rfl, rfl, hst⟩
    · rintro x rest r s' ⟨rfl, rfl, hr⟩
      obtain ⟨k', hb⟩ := hr x List.mem_cons_self
      refine wpAny_bind (quiet_key k' x 8 s' hb.is hb.d A E _ ?_)
      simp only [Bool.not_true, Bool.false_eq_true, if_false]
      exact wpAny_pure ⟨rfl, rfl, fun v hv => hr v (List.mem_cons_of_mem _ hv)⟩
    · rintro r s' ⟨rfl, rfl, _⟩
      exact wpAny_pure q
/-- found so far -/
def FndV (xs : KVV) (k : NestedKey) (i : Nat) (hit : Option Nat) : Prop := (hit = none ∧ ∀ (j : Nat) p, j < i → xs[j]? ≠ some (k, p)) ∨ ∃ (j : Nat) (p : Value × Value), hit = some j ∧ j < i ∧ xs[j]? = some (k, p)
section
variable {d : Addr} {o : Obj} {es : Array DictEntry} {ep : Nat} {xs : KVV} {k : NestedKey} {key : Value} {Q : Option Nat → Shared → Prop}
abbrev plV (w : World) (es : Array DictEntry) (k : NestedKey) (i : Nat) : List Nat := (List.range' i (es.size - i)).filter fun i => (es[i]?.map (·.hash)) == some (NestedKey.hash w k)
theorem hasV (he : es.toList = xs.map (entV w)) {j : Nat} {p : Value × Value} (hj : xs[j]? = some (k, p)) : ((es[j]?.map (·.hash)) == some (NestedKey.hash w k)) = true := by
  rw [entV_at he j, hj]
  simp [entV]
/-- the next place of this hash -/
theorem nextV (he : es.toList = xs.map (entV w)) {i x : Nat} {rest : List Nat} {hit : Option Nat} (hr : x :: rest = plV w es k i) (hi : i ≤ es.size) (F : FndV xs k i hit) :
    x < es.size ∧ rest = plV w es k (x + 1) ∧ FndV xs k x hit ∧ ∃ k' u v, xs[x]? = some (k', u, v) ∧ es[x]? = some ⟨NestedKey.hash w k', u, v⟩ ∧ (k' ≠ k → FndV xs k (x + 1) hit) := by
  obtain ⟨hix, hxn, hpx, hskip, hrest⟩ := filter_range'_cons _ _ _ _ _ hr.symm
  have hlt : x < es.size := by omega
  have hsz : es.size = xs.length := by rw [← Array.length_toList, he, List.length_map]
  obtain ⟨⟨k', u, v⟩, hkv⟩ : ∃ y, xs[x]? = some y := ⟨xs[x]'(by rw [← hsz]; exact hlt), List.getElem?_eq_getElem _⟩
  have Fx : FndV xs k x hit := by
    rcases F with ⟨h0, hno⟩ | ⟨j, p, h1, hji, hj⟩
    · refine .inl ⟨h0, fun j p hjx hj => ?_⟩
      rcases Nat.lt_or_ge j i with h | h
      · exact hno j p h hj
      · have := hskip j h hjx
        rw [hasV he hj] at this
        cases this
    · exact .inr ⟨j, p, h1, by omega, hj⟩
  refine ⟨hlt, by rw [hrest]; show _ = List.filter _ _; congr 2; omega, Fx, k', u, v, hkv, by rw [entV_at he x, hkv]; rfl, fun ne => ?_⟩
  rcases Fx with ⟨h0, hno⟩ | ⟨j, p, h1, hjx, hj⟩
  · refine .inl ⟨h0, fun j p hjx hj => ?_⟩
    rcases Nat.lt_or_ge j x with h | h
    · exact hno j p h hj
    · obtain rfl : j = x := by omega
      rw [hkv] at hj
      exact ne (congrArg (fun z : NestedKey × Value × Value => z.1) (Option.some.inj hj))
  · exact .inr ⟨j, p, h1, by omega, hj⟩
theorem doneV (he : es.toList = xs.map (entV w)) {i : Nat} {hit : Option Nat} (hr : [] = plV w es k i) (F : FndV xs k i hit)
    (hnone : (∀ (j : Nat) p, xs[j]? ≠ some (k, p)) → Q none s) (hsome : ∀ (j : Nat) p, xs[j]? = some (k, p) → Q (some j) s) : Q hit s := by
  have hsz : es.size = xs.length := by rw [← Array.length_toList, he, List.length_map]
  rcases F with ⟨rfl, hno⟩ | ⟨j, p, rfl, _, hj⟩
  · refine hnone fun j p hj => ?_
    rcases Nat.lt_or_ge j i with h | h
    · exact hno j p h hj
    · have hl := (List.getElem?_eq_some_iff.mp hj).1
      have := List.filter_eq_nil_iff.mp hr.symm j (List.mem_range'_1.mpr ⟨h, by omega⟩)
      exact this (hasV he hj)
  · exact hsome j p hj
theorem walkV (hu : A.units + 8 < cLine) (hkey : KeyVl s.heap k key) (ho : s.heap.get? d = some o) (hd : o.data = .dict es ep) (he : es.toList = xs.map (entV w)) (his : ∀ x ∈ xs, KeyVl s.heap x.1 x.2.1) (hn : (xs.map (·.1)).Nodup)
    (hnone : (∀ (j : Nat) p, xs[j]? ≠ some (k, p)) → Q none s) (hsome : ∀ (j : Nat) p, xs[j]? = some (k, p) → Q (some j) s) :
    wpAny (model P w) A (dictWalkPlain d key (NestedKey.hash w k) es (placesWithHash es.size (fun i => es[i]?.map (·.hash)) (NestedKey.hash w k))) Q E s := by
  unfold dictWalkPlain
  refine wpAny_bind ?_
  refine wpAny_forIn_list _ (fun rest b s' => s' = s ∧ b = (none, ()) ∧ ∃ i, rest = plV w es k i ∧ i ≤ es.size ∧ FndV xs k i none) _ ?_ ?_ _ _
    ⟨rfl, rfl, 0, by rw [placesWithHash, List.range_eq_range', plV, Nat.sub_zero], Nat.zero_le _, .inl ⟨rfl, fun _ _ h => absurd h (Nat.not_lt_zero _)⟩⟩
  · rintro x rest b s' ⟨rfl, rfl, i, hr, hi, F⟩
    obtain ⟨hlt, hrest, Fx, k', u, v, hkv, hex, hstay⟩ := nextV he hr hi F
    have hib := his _ (List.mem_of_getElem? hkv)
    rw [hex]
    dsimp only
    by_cases hh : (NestedKey.hash w k' == NestedKey.hash w k) = true
    · rw [if_pos hh]
      refine wpAny_bind (wpAny_dictEpoch ho hd (wpAny_bind (eqV (x := k') (y := k) hib hkey hu (wpAny_bind (wpAny_dictEpoch ho hd ?_)))))
      show wpAny _ _ (if (ep != ep) = true then _ else _) _ E _
      rw [if_neg (by simp)]
      by_cases hkk : k' = k
      · rw [decide_eq_true hkk]
        subst hkk
        show wpAny _ _ (if true = true then _ else _) _ E _
        rw [if_pos rfl]
        exact wpAny_bind (wpAny_rule (wpAny_pure (wpAny_pure (hsome x _ hkv))))
      · rw [decide_eq_false hkk]
        show wpAny _ _ (if false = true then _ else _) _ E _
        rw [if_neg (by decide)]
        exact wpAny_bind (wpAny_rule (wpAny_pure ⟨rfl, rfl, x + 1, hrest, hlt, hstay hkk⟩))
    · rw [if_neg hh]
      refine wpAny_pure ⟨rfl, rfl, x + 1, hrest, hlt, hstay fun e => ?_⟩
      rw [e] at hh; simp at hh
  · rintro b s' ⟨rfl, rfl, i, hr, hi, F⟩
    exact wpAny_pure (doneV he hr F hnone hsome)
theorem wpIte {α : Type} {M : Model} {c : Prop} [Decidable c] {a b : Sem α} {Q : α → Shared → Prop} (h1 : c → wpAny M A a Q E s) (h2 : ¬ c → wpAny M A b Q E s) : wpAny M A (if c then a else b) Q E s := by
  by_cases h : c
  · rw [if_pos h]; exact h1 h
  · rw [if_neg h]; exact h2 h
theorem findV (hu : A.units + 8 < cLine) (hkey : KeyVl s.heap k key) (ho : s.heap.get? d = some o) (hd : o.data = .dict es ep) (he : es.toList = xs.map (entV w)) (his : ∀ x ∈ xs, KeyVl s.heap x.1 x.2.1) (hn : (xs.map (·.1)).Nodup)
    (hnone : (∀ (j : Nat) p, xs[j]? ≠ some (k, p)) → Q none s) (hsome : ∀ (j : Nat) p, xs[j]? = some (k, p) → Q (some j) s) :
    wpAny (model P w) A (dictFind d key (NestedKey.hash w k)) Q E s := by
  have hmem : ∀ e ∈ es, ∃ x ∈ xs, e = entV w x := by
    intro e hin
    have : e ∈ xs.map (entV w) := he ▸ Array.mem_toList_iff.mpr hin
    obtain ⟨x, hx, rfl⟩ := List.mem_map.mp this
    exact ⟨x, hx, rfl⟩
  have hany : ∀ a, key = .ref a → ¬ (es.any fun e => e.key == Value.ref a && e.hash != NestedKey.hash w k) = true := by
    rintro a rfl
    rw [← Array.any_toList, List.any_eq_true]
    rintro ⟨e, hin, hc⟩
    obtain ⟨x, hx, rfl⟩ := hmem e (Array.mem_toList_iff.mp hin)
    simp only [entV, Bool.and_eq_true, beq_iff_eq, bne_iff_ne, ne_eq] at hc
    obtain ⟨hxa, hne⟩ := hc
    have := (his x hx).is
    rw [hxa] at this
    exact hne (by rw [NestedIs.inj _ _ _ this hkey.is])
  have hst : ∀ v ∈ (placesWithHash es.size (fun i => es[i]?.map (·.hash)) (NestedKey.hash w k)).filterMap (fun i => es[i]?.map (·.key)), ∃ k', KeyVl s.heap k' v := by
    intro v hv
    obtain ⟨i, _, hi⟩ := List.mem_filterMap.mp hv
    cases hei : es[i]? with
    | none => rw [hei] at hi; cases hi
    | some e =>
      rw [hei] at hi
      obtain rfl : e.key = v := by simpa using hi
      obtain ⟨x, hx, rfl⟩ := hmem e (Array.mem_of_getElem? hei)
      exact ⟨x.1, his x hx⟩
  have hW := walkV (P := P) (E := E) (Q := Q) hu hkey ho hd he his hn hnone hsome
  by_cases hr : ∃ a, key = .ref a
  · obtain ⟨a, rfl⟩ := hr
    unfold dictFind
    try with_reducible refine wpAny_holding ?_
    refine wpAny_bind (wpAny_dictEntries ho hd ?_)
    dsimp only
    rw [if_neg (show ¬ ((Value.ref a :: (placesWithHash es.size (fun i => es[i]?.map (·.hash)) (NestedKey.hash w k)).filterMap (fun i => es[i]?.map (·.key))).all carriedByValue) = true by simp [carriedByValue])]
    rw [if_neg (hany a rfl)]
    clear hW
    by_cases hone : (((placesWithHash es.size (fun i => es[i]?.map (·.hash)) (NestedKey.hash w k)).filterMap (fun i => es[i]?.map (·.key))) == [Value.ref a]) = true <;>
    (first | rw [if_pos hone] | rw [if_neg hone]) <;> (first | refine wpAny_bind (wpAny_pure ?_) | refine wpAny_bind (tellV hkey hst ?_)) <;> (
    rw [if_neg (by simp)]
    refine wpAny_bind ?_
    refine wpAny_forIn_list _ (fun rest b s' => s' = s ∧ ∃ i hit, b = (none, hit) ∧ rest = plV w es k i ∧ i ≤ es.size ∧ FndV xs k i hit) _ ?_ ?_ _ _
      ⟨rfl, 0, none, rfl, by rw [placesWithHash, List.range_eq_range', plV, Nat.sub_zero], Nat.zero_le _, .inl ⟨rfl, fun _ _ h => absurd h (Nat.not_lt_zero _)⟩⟩
    · rintro x rest b s' ⟨rfl, i, hit, rfl, hr, hi, F⟩
      obtain ⟨hlt, hrest, Fx, k', u, v, hkv, hex, hstay⟩ := nextV he hr hi F
      have hib := his _ (List.mem_of_getElem? hkv)
      rw [hex]
      dsimp only
      by_cases hh : (NestedKey.hash w k' == NestedKey.hash w k) = true
      · rw [if_pos hh]
        refine wpAny_bind (wpAny_dictEpoch ho hd (wpAny_bind (eqV (x := k') (y := k) hib hkey hu (wpAny_bind (wpAny_dictEpoch ho hd ?_)))))
        show wpAny _ _ (if (ep != ep) = true then _ else _) _ E _
        rw [if_neg (by simp)]
        by_cases hkk : k' = k
        · rw [decide_eq_true hkk]
          subst hkk
          rcases Fx with ⟨rfl, _⟩ | ⟨j, p, _, hjx, hj⟩
          · first | rw [if_pos rfl] | skip
            simp only [Option.isSome_none, Bool.false_eq_true, if_false]
            first | refine wpAny_bind (wpAny_pure ?_) | skip
            refine wpAny_bind (wpAny_rule ?_)
            split
            · exact wpAny_pure (wpAny_pure (hsome x _ hkv))
            · exact wpAny_pure ⟨rfl, x + 1, some x, rfl, hrest, hlt, .inr ⟨x, _, rfl, Nat.lt_succ_self x, hkv⟩⟩
          · exact absurd (idV_unique hn hj hkv) (by omega)
        · rw [decide_eq_false hkk]
          simp only [Bool.false_eq_true, if_false]
          refine wpAny_bind (wpAny_rule ?_)
          first | rw [if_neg (by simp)] | skip
          first
            | exact wpAny_pure ⟨rfl, x + 1, hit, rfl, hrest, hlt, hstay hkk⟩
            | exact wpAny_bind (wpAny_pure (wpAny_pure ⟨rfl, x + 1, hit, rfl, hrest, hlt, hstay hkk⟩))
      · rw [if_neg hh]
        refine wpAny_pure ⟨rfl, x + 1, hit, rfl, hrest, hlt, hstay fun e => ?_⟩
        rw [e] at hh; simp at hh
    · rintro b s' ⟨rfl, i, hit, rfl, hr, hi, F⟩
      exact wpAny_pure (doneV he hr F hnone hsome))
  · by_cases hall : ((key :: (placesWithHash es.size (fun i => es[i]?.map (·.hash)) (NestedKey.hash w k)).filterMap (fun i => es[i]?.map (·.key))).all carriedByValue) = true
    · unfold dictFind
      try with_reducible refine wpAny_holding ?_
      refine wpAny_bind (wpAny_dictEntries ho hd ?_)
      cases key with
      | str x t => exact absurd rfl (hkey.n x t)
      | ref a => exact absurd ⟨a, rfl⟩ hr
      | _ =>
        dsimp only
        rw [if_pos hall]
        exact hW
    · clear hW
      unfold dictFind
      try with_reducible refine wpAny_holding ?_
      refine wpAny_bind (wpAny_dictEntries ho hd ?_)
      cases key with
      | str x t => exact absurd rfl (hkey.n x t)
      | ref a => exact absurd ⟨a, rfl⟩ hr
      | _ =>
        dsimp only
        rw [if_neg hall]
        refine wpIte (fun _ => wpAny_bind (wpAny_pure ?_)) (fun _ => wpAny_bind (tellV hkey hst ?_)) <;> (
    rw [if_neg (by simp)]
    refine wpAny_bind ?_
    refine wpAny_forIn_list _ (fun rest b s' => s' = s ∧ ∃ i hit, b = (none, hit) ∧ rest = plV w es k i ∧ i ≤ es.size ∧ FndV xs k i hit) _ ?_ ?_ _ _
      ⟨rfl, 0, none, rfl, by rw [placesWithHash, List.range_eq_range', plV, Nat.sub_zero], Nat.zero_le _, .inl ⟨rfl, fun _ _ h => absurd h (Nat.not_lt_zero _)⟩⟩
    · rintro x rest b s' ⟨rfl, i, hit, rfl, hr, hi, F⟩
      obtain ⟨hlt, hrest, Fx, k', u, v, hkv, hex, hstay⟩ := nextV he hr hi F
      have hib := his _ (List.mem_of_getElem? hkv)
      rw [hex]
      dsimp only
      by_cases hh : (NestedKey.hash w k' == NestedKey.hash w k) = true
      · rw [if_pos hh]
        refine wpAny_bind (wpAny_dictEpoch ho hd (wpAny_bind (eqV (x := k') (y := k) hib hkey hu (wpAny_bind (wpAny_dictEpoch ho hd ?_)))))
        show wpAny _ _ (if (ep != ep) = true then _ else _) _ E _
        rw [if_neg (by simp)]
        by_cases hkk : k' = k
        · rw [decide_eq_true hkk]
          subst hkk
          rcases Fx with ⟨rfl, _⟩ | ⟨j, p, _, hjx, hj⟩
          · first | rw [if_pos rfl] | skip
            simp only [Option.isSome_none, Bool.false_eq_true, if_false]
            first | refine wpAny_bind (wpAny_pure ?_) | skip
            refine wpAny_bind (wpAny_rule ?_)
            split
            · exact wpAny_pure (wpAny_pure (hsome x _ hkv))
            · exact wpAny_pure ⟨rfl, x + 1, some x, rfl, hrest, hlt, .inr ⟨x, _, rfl, Nat.lt_succ_self x, hkv⟩⟩
          · exact absurd (idV_unique hn hj hkv) (by omega)
        · rw [decide_eq_false hkk]
          simp only [Bool.false_eq_true, if_false]
          refine wpAny_bind (wpAny_rule ?_)
          first | rw [if_neg (by simp)] | skip
          first
            | exact wpAny_pure ⟨rfl, x + 1, hit, rfl, hrest, hlt, hstay hkk⟩
            | exact wpAny_bind (wpAny_pure (wpAny_pure ⟨rfl, x + 1, hit, rfl, hrest, hlt, hstay hkk⟩))
      · rw [if_neg hh]
        refine wpAny_pure ⟨rfl, x + 1, hit, rfl, hrest, hlt, hstay fun e => ?_⟩
        rw [e] at hh; simp at hh
    · rintro b s' ⟨rfl, i, hit, rfl, hr, hi, F⟩
      exact wpAny_pure (doneV he hr F hnone hsome))
end
end
section
variable {P : Program} {w : World} {A : Around} {E : Value → Shared → Prop} {s : Shared} {d : Addr} {xs : KVV} {k : NestedKey} {key : Value}
def atV (xs : KVV) (k : NestedKey) : Option (Value × Value) := (xs.find? fun x => decide (x.1 = k)).map (·.2)
theorem atV_none (h : ∀ (j : Nat) p, xs[j]? ≠ some (k, p)) : atV xs k = none := by
  have : (xs.find? fun x => decide (x.1 = k)) = none := by
    rw [List.find?_eq_none]
    intro x hx hk
    obtain ⟨j, hj⟩ := List.mem_iff_getElem?.mp hx
    exact h j x.2 (by rw [hj, ← of_decide_eq_true hk])
  rw [atV, this]; rfl
theorem atV_some (hn : (xs.map (·.1)).Nodup) {j : Nat} {p : Value × Value} (h : xs[j]? = some (k, p)) : atV xs k = some p := by
  obtain ⟨x, hx⟩ : ∃ x, (xs.find? fun x => decide (x.1 = k)) = some x := by
    cases e : xs.find? fun x => decide (x.1 = k) with
    | some x => exact ⟨x, rfl⟩
    | none => exact absurd (decide_eq_true rfl) (List.find?_eq_none.mp e _ (List.mem_of_getElem? h))
  have h0 := List.find?_some hx
  have h1 : x.1 = k := of_decide_eq_true h0
  obtain ⟨i, hi⟩ := List.mem_iff_getElem?.mp (List.mem_of_find?_eq_some hx)
  obtain ⟨x1, x2⟩ := x
  obtain rfl : x1 = k := h1
  have e := idV_unique hn hi h
  rw [e, h] at hi
  rw [atV, hx]
  exact congrArg (fun z : NestedKey × Value × Value => some z.2) (Option.some.inj hi).symm
theorem atV_out (h : atV xs k = none) : ∀ (j : Nat) p, xs[j]? ≠ some (k, p) := fun j p hj => by
  have h' : (xs.find? fun x => decide (x.1 = k)) = none := by
    cases e : xs.find? fun x => decide (x.1 = k) with
    | none => rfl
    | some x => rw [atV, e] at h; cases h
  exact List.find?_eq_none.mp h' _ (List.mem_of_getElem? hj) (decide_eq_true rfl)
theorem DictV.typeIs (hm : DictV w s.heap d xs) : s.TypeIs (.ref d) "dict" := let ⟨o, _, _, ho, hc, _⟩ := hm; ⟨o, ho, hc.1⟩
theorem getV_ {Q : Option Value → Shared → Prop} (hu : A.units + 8 < cLine) (hkey : KeyVl s.heap k key) (hm : DictV w s.heap d xs) (his : ∀ x ∈ xs, KeyVl s.heap x.1 x.2.1)
    (h : Q ((atV xs k).map (·.2)) { s with toks := s.toks + k.draws }) : wpAny (model P w) A (dictGet d key) Q E s := by
  obtain ⟨o, es, ep, ho, _, hd, he, hn⟩ := hm
  have hdp := hkey.d
  unfold dictGet
  try with_reducible refine wpAny_holding ?_
  refine wpAny_bind (pyHash_key k key A s _ hkey.is (by omega) (wpAny_bind (findV (s := { s with toks := s.toks + k.draws }) hu hkey ho hd he his hn ?_ ?_)))
  · intro hno
    rw [atV_none hno] at h
    exact wpAny_pure h
  · intro j p hj
    rw [atV_some hn hj] at h
    refine wpAny_bind (wpAny_dictEntries (s := { s with toks := s.toks + k.draws }) ho hd ?_)
    rw [entV_at he j, hj]
    exact wpAny_pure h
/-- d[k] = v, k new -/
theorem setV_ {v : Value} {Q : Unit → Shared → Prop} (hu : A.units + 8 < cLine) (hkey : KeyVl s.heap k key) (hm : DictV w s.heap d xs) (his : ∀ x ∈ xs, KeyVl s.heap x.1 x.2.1) (hno : atV xs k = none)
    (hQ : ∀ h', DictV w h' d (xs ++ [(k, key, v)]) → Heap.SameBut d s.heap h' → Q () { s with heap := h', toks := s.toks + k.draws })
    (hsz : xs.length ≤ sizeLine) : wpAny (model P w) A (dictSet d key v) Q E s := by
  obtain ⟨o, es, ep, ho, hc, hd, he, hn⟩ := hm
  have hdp := hkey.d
  have hsize : es.size = xs.length := by rw [← Array.length_toList, he, List.length_map]
  have hno := atV_out hno
  unfold dictSet
  try with_reducible refine wpAny_holding ?_
  refine wpAny_bind (pyHash_key k key A s _ hkey.is (by omega) ?_)
  unfold dictSetHashed
  try with_reducible refine wpAny_holding ?_
  refine wpAny_bind (findV (s := { s with toks := s.toks + k.draws }) hu hkey ho hd he his hn ?_ ?_)
  · intro _
    refine wpAny_bind (wpAny_rule (wpAny_updateDictKeys (hz := by omega) (s := { s with toks := s.toks + k.draws }) ho hd (hQ _ ⟨_, _, ep + 1, Heap.get?_update_self _ ho (Obj.isFreed_of_dict (Obj.data_mapDictKeys hd _)),
      hc.mapDictKeys _, Obj.data_mapDictKeys hd _, ?_, ?_⟩ (Heap.SameBut.update ..))))
    · simp [he, entV]
    · rw [List.map_append, List.nodup_append]
      refine ⟨hn, by simp, ?_⟩
      intro x hx y hy
      simp only [List.map_cons, List.map_nil, List.mem_singleton] at hy
      subst hy
      rintro rfl
      obtain ⟨p, hp, rfl⟩ := List.mem_map.mp hx
      obtain ⟨j, hj⟩ := List.mem_iff_getElem?.mp hp
      exact hno j p.2 (by rw [hj])
  · intro j p hj
    exact absurd hj (hno j p)
theorem getItemV {v : Value} {Q : Value → Shared → Prop} (hu : A.units + 9 < cLine) (hkey : KeyVl s.heap k key) (hm : DictV w s.heap d xs) (his : ∀ x ∈ xs, KeyVl s.heap x.1 x.2.1) (hp : (atV xs k).map (·.2) = some v)
    (h : Q v { s with toks := s.toks + k.draws }) : wpAny (model P w) A (getItem (.ref d) key) Q E s := by
  have hu1 : A.in1.units + 8 < cLine := by show A.units + 1 + 8 < cLine; omega
  unfold getItem
  try with_reducible refine wpAny_holding ?_
  refine wpAny_bind (wpAny_sequenceKey hm.typeIs (by decide) ?_)
  refine wpAny_bind (wpAny_callSpecial?_slot (name := Str.ofString "__getitem__") hm.typeIs slot_dict_getitem
    (wpAny_call_entry slot_dict_getitem hm.typeIs entry_dict_getitem ?_ (args_dict_getitem _ _)))
  show wpAny _ _ (dictGet d key >>= _) _ _ s
  refine wpAny_bind (getV_ hu1 hkey hm his ?_)
  rw [hp]
  exact wpAny_pure ⟨v, rfl, wpAny_pure h⟩
theorem containsV {Q : Bool → Shared → Prop} (hu : A.units + 9 < cLine) (hkey : KeyVl s.heap k key) (hd : (d == sysModules) = false) (hm : DictV w s.heap d xs) (his : ∀ x ∈ xs, KeyVl s.heap x.1 x.2.1)
    (h : Q (atV xs k).isSome { s with toks := s.toks + k.draws }) : wpAny (model P w) A (contains (.ref d) key) Q E s := by
  have hu1 : A.in1.units + 8 < cLine := by show A.units + 1 + 8 < cLine; omega
  unfold contains
  try with_reducible refine wpAny_holding ?_
  refine wpAny_bind (wpAny_specialOf hm.typeIs slot_dict_contains.lookup ?_)
  show wpAny _ _ (if (some (Value.builtin "dict.__contains__") == some Value.none) = true then _ else _) _ E s
  rw [if_neg (by rw [beq_builtin_none]; exact Bool.false_ne_true)]
  refine wpAny_bind (wpAny_callSpecialUnlessNone?_slot (name := Str.ofString "__contains__") hm.typeIs slot_dict_contains
    (wpAny_call_entry slot_dict_contains hm.typeIs entry_dict_contains ?_ (args_dict_contains _ _)))
  show wpAny _ _ (dictGet d key >>= _) _ _ s
  refine wpAny_bind (getV_ hu1 hkey hm his ?_)
  cases hf : atV xs k with
  | some p =>
    rw [hf] at h
    show wpAny _ _ (ret (.bool true)) _ _ _
    exact wpAny_pure ⟨_, rfl, wpAny_truthy_bool h⟩
  | none =>
    rw [hf] at h
    show wpAny _ _ (Builtin.Dict.pendingKey? d key >>= _) _ _ _
    exact wpAny_bind (wpAny_pendingKey_other hd (wpAny_pure ⟨_, rfl, wpAny_truthy_bool h⟩))
theorem notInV {Q : Value → Shared → Prop} (hu : A.units + 9 < cLine) (hkey : KeyVl s.heap k key) (hd : (d == sysModules) = false) (hm : DictV w s.heap d xs) (his : ∀ x ∈ xs, KeyVl s.heap x.1 x.2.1)
    (h : Q (.bool (!(atV xs k).isSome)) { s with toks := s.toks + k.draws }) : wpAny (model P w) A (compareOp .NotIn key (.ref d)) Q E s := by
  show wpAny _ _ (do return .bool (!(← contains (.ref d) key))) Q E s
  exact wpAny_bind (containsV hu hkey hd hm his (wpAny_pure h))
theorem setItemV {v : Value} {Q : Unit → Shared → Prop} (hu : A.units + 9 < cLine) (hkey : KeyVl s.heap k key) (hm : DictV w s.heap d xs) (his : ∀ x ∈ xs, KeyVl s.heap x.1 x.2.1) (hno : atV xs k = none)
    (hQ : ∀ h', DictV w h' d (xs ++ [(k, key, v)]) → Heap.SameBut d s.heap h' → Q () { s with heap := h', toks := s.toks + k.draws }) (hsz : xs.length ≤ sizeLine) :
    wpAny (model P w) A (setItem (.ref d) key v) Q E s := by
  have hu1 : A.in1.units + 8 < cLine := by show A.units + 1 + 8 < cLine; omega
  unfold setItem
  try with_reducible refine wpAny_holding ?_
  refine wpAny_bind (wpAny_sequenceKey hm.typeIs (by decide) ?_)
  refine wpAny_bind (wpAny_callSpecial?_slot (name := Str.ofString "__setitem__") hm.typeIs slot_dict_setitem
    (wpAny_call_entry slot_dict_setitem hm.typeIs entry_dict_setitem ?_ (args_dict_setitem _ _ _)))
  show wpAny _ _ (Builtin.Dict.notOrdered "__setitem__" ⟨[.ref d, key, v], []⟩ >>= _) _ _ s
  refine wpAny_bind (wpAny_notOrdered_dict hm.typeIs ?_)
  show wpAny _ _ (dictSet d key v >>= _) _ _ s
  exact wpAny_bind (setV_ hu1 hkey hm his hno (fun h' hm' hs' => wpAny_pure ⟨.none, rfl, wpAny_pure (hQ h' hm' hs')⟩) hsz)
end
/-! the object, by what is tracked -/
/-- v is the key k -/
structure KyN (H : Hp) (k : NestedKey) (v : V) : Prop where
  nv : NV H k v
  d : k.depth ≤ 8
  n : ∀ x, v ≠ .str x
theorem KyN.ex {H H' : Hp} {k : NestedKey} {v : V} (h : KyN H k v) (e : ∀ b xs, H b = some (.tup xs) → H' b = some (.tup xs)) : KyN H' k v := ⟨h.nv.ex e, h.d, h.n⟩
theorem KyN.is {P : Program} {w : World} {H : Hp} {h : Heap} {k : NestedKey} {v : V} {u : Value} (q : KyN H k v) (ok : HOk P w H h) (r : RelV v u) : KeyVl h k u := by
  refine ⟨q.nv.is ok r, q.d, fun x t e => ?_⟩
  subst e
  have hv := q.nv
  have hn := q.n
  cases hv with
  | non => cases (show Value.str x t = Value.none from r)
  | int i =>
    obtain ⟨t', e⟩ : ∃ t', Value.str x t = Value.int i t' := r
    cases e
  | str y => exact hn y rfl
  | tup h1 h2 => cases (show Value.str x t = Value.ref _ from r)
abbrev KA := List (NestedKey × V × V)
def KX (kvs : KA) (xs : KVV) : Prop := Paired (fun p q => p.1 = q.1 ∧ RelV p.2.1 q.2.1 ∧ RelV p.2.2 q.2.2) kvs xs
/-- a dict whose keys are None, numbers, tuples that may hold tuples -/
def dN (w : World) (a : Addr) (kvs : KA) : HO := .ext fun h => kvs.length ≤ sizeLine ∧ (a == sysModules) = false ∧ ∃ xs, KX kvs xs ∧ DictV w h a xs
def KsN (H : Hp) (kvs : KA) : Prop := ∀ p ∈ kvs, KyN H p.1 p.2.1
theorem KsN.ex {H H' : Hp} {kvs : KA} (h : KsN H kvs) (e : ∀ b xs, H b = some (.tup xs) → H' b = some (.tup xs)) : KsN H' kvs := fun p hp => (h p hp).ex e
def valN : KA → NestedKey → Option V
  | [], _ => none
  | p :: kvs, k => if p.1 = k then some p.2.2 else valN kvs k
section
variable {P : Program} {w : World} {H : Hp} {h : Heap} {a : Addr} {kvs : KA}
theorem KX.val {xs : KVV} (r : KX kvs xs) (k : NestedKey) : RelO (valN kvs k) ((atV xs k).map (·.2)) := by
  induction r with
  | nil => exact True.intro
  | @cons p q ps qs hq t ih =>
    obtain ⟨h1, h2, h3⟩ := hq
    unfold valN
    by_cases e : p.1 = k
    · rw [if_pos e]
      have e2 : q.1 = k := by rw [← h1]; exact e
      have : atV (q :: qs) k = some q.2 := by simp [atV, e2]
      rw [this]
      exact h3
    · rw [if_neg e]
      have e2 : ¬ q.1 = k := by rw [← h1]; exact e
      have : atV (q :: qs) k = atV qs k := by simp [atV, e2]
      rw [this]
      exact ih
theorem KX.mem {xs : KVV} (r : KX kvs xs) (ks : KsN H kvs) (ok : HOk P w H h) : ∀ x ∈ xs, KeyVl h x.1 x.2.1 := by
  unfold KsN at ks
  induction r with
  | nil => intro x hx; cases hx
  | @cons p q ps qs hq t ih =>
    intro x hx
    rcases List.mem_cons.mp hx with e | hx
    · rw [e, ← hq.1]
      exact (ks p List.mem_cons_self).is ok hq.2.1
    · exact ih (fun y hy => ks y (List.mem_cons_of_mem _ hy)) x hx
theorem dN_of (ok : HOk P w H h) (e : H a = some (dN w a kvs)) (ks : KsN H kvs) : kvs.length ≤ sizeLine ∧ (a == sysModules) = false ∧ ∃ xs, KX kvs xs ∧ DictV w h a xs ∧ ∀ x ∈ xs, KeyVl h x.1 x.2.1 := by
  obtain ⟨z, y, xs, r, dd⟩ := (show ObjOk P w H h a (dN w a kvs) from ok a _ e).1
  exact ⟨z, y, xs, r, dd, r.mem ks ok⟩
theorem dN_ok {xs : KVV} (z : kvs.length ≤ sizeLine) (hd : (a == sysModules) = false) (r : KX kvs xs) (dd : DictV w h a xs) : ObjOk P w H h a (dN w a kvs) := by
  refine ⟨⟨z, hd, xs, r, dd⟩, let ⟨o, _, _, h1, _⟩ := dd; ⟨o, h1⟩, fun g1 g2 x k => ?_⟩
  obtain ⟨z, y, xs, r, o, es, ep, h1, h2, h3, h4, h5⟩ := x
  exact ⟨z, y, xs, r, o, es, ep, k _ h1, h2, h3, h4, h5⟩
theorem dN_new {h : Heap} (hb : sysModules < h.objs.size) : ObjOk P w H (h.push { cls := .type "dict", data := .dict #[] }) h.objs.size (dN w h.objs.size []) := by
  obtain ⟨o, es, ep, h1, h2, h3, h4, _, h5⟩ := Heap.DictOfH.new (knd := nestedKind P w) h
  exact dN_ok (Nat.zero_le _) (beq_eq_false_iff_ne.mpr (Ne.symm (Nat.ne_of_lt hb))) .nil ⟨o, es, ep, h1, h2, h3, by rw [h4]; rfl, h5⟩
end
/-- what is asked of the dict and of the key -/
def AtN (w : World) (H : Hp) (a : Addr) (kvs : KA) (y : V) (k : NestedKey) : Prop := H a = some (dN w a kvs) ∧ KsN H kvs ∧ KyN H k y
/-- in a dict of ints, texts, flat tuples, or of keys of any kind -/
def DGX (w : World) (H : Hp) (a : Addr) (y : V) (r : Option V) : Prop := DGet H a y r ∨ ∃ kvs k, AtN w H a kvs y k ∧ r = valN kvs k
def DPX (w : World) (H : Hp) (a : Addr) (y v : V) (H' : Hp) : Prop := DPut H a y v H' ∨ ∃ kvs k, AtN w H a kvs y k ∧ valN kvs k = none ∧ kvs.length < sizeLine ∧ H' = upd H a (dN w a (kvs ++ [(k, y, v)]))
def tDGetX (w : World) (td ty : TE) : TE := fun σ H Q => td σ H fun x H1 => ty σ H1 fun y H2 => ∃ a v, x = .ref a ∧ DGX w H2 a y (some v) ∧ Q v H2
def tDNotInX (w : World) (ty td : TE) : TE := fun σ H Q => ty σ H fun y H1 => td σ H1 fun x H2 => ∃ a o, x = .ref a ∧ DGX w H2 a y o ∧ Q (.bl (!o.isSome)) H2
def sDPutX (w : World) (td ty tv : TE) : TS := fun D σ H => tv σ H fun v H1 => td σ H1 fun x H2 => ty σ H2 fun y H3 => ∃ a H4, x = .ref a ∧ DPX w H3 a y v H4 ∧ D.nx σ H4
/-- {k: v}, k a tuple -/
def tDisp1N (w : World) (tk tv : TE) : TE := fun σ H Q => ∀ p, H p = none → tk σ (upd H p (dN w p [])) fun x H1 => tv σ H1 fun y H2 => H2 p = some (dN w p []) ∧ ∃ (b : Addr) (k : NestedKey), x = .ref b ∧ KyN H2 k (.ref b) ∧ Q (.ref p) (upd H2 p (dN w p [(k, .ref b, y)]))
def tDNewN (w : World) : TE := fun _ H Q => ∀ p, H p = none → Q (.ref p) (upd H p (dN w p []))
section
variable {X : Cx} {i o e value k v : Expr} {pos pos' : Pos} {td ty tv tk : TE} (w : World) (hw : X.w = w := by rfl)
include hw
theorem pe_dgetX (hu : X.A.units + 40 < cLine) (ho : PE X o td) (hi : PE X i ty) (hs : NoSl i) : PE X (.Subscript o i pos) (tDGetX w td ty) := by
  subst hw
  refine ⟨fun pins s σ H Q I h => ?_⟩
  refine subD_of PySem.F.slot_dict_getitem.lookup hs (thn (ho.run pins s σ H _ I h) fun u s1 ⟨x, H1, I1, rx, q1⟩ => thn (hi.run pins s1 σ H1 _ I1 q1) fun iv s2 ⟨y, H2, I2, ry, a, v, ex, g, q2⟩ => ?_)
  subst ex
  obtain rfl : u = Value.ref a := rx
  rcases g with g | ⟨kvs, k, ⟨e, ks, kb⟩, hv⟩
  · exact ⟨dict_typeIs I2 g, d_getItem (by omega) I2 g ry fun w' s3 I3 rw' => ⟨v, H2, I3, rw', q2⟩⟩
  obtain ⟨z, hd, xs, rel, dd, his⟩ := dN_of I2.hok e ks
  obtain ⟨w', hw, rw'⟩ := RelO.some_of (v := v) (o := (atV xs k).map (·.2)) (by rw [hv]; exact rel.val k)
  exact ⟨dd.typeIs, getItemV (by omega) (kb.is I2.hok ry) dd his hw ⟨v, H2, I2.tok _, rw', q2⟩⟩
theorem pc_dnotinX (hu : X.A.units + 40 < cLine) (hi : PE X i ty) (ho : PE X o td) : PC X .NotIn i o (tDNotInX w ty td) := by
  subst hw
  refine ⟨fun pins s σ H Q I h => ?_⟩
  refine thn (hi.run pins s σ H _ I h) fun iv s1 ⟨y, H1, I1, ry, q1⟩ => thn (ho.run pins s1 σ H1 _ I1 q1) fun u s2 ⟨x, H2, I2, rx, a, ov, ex, g, q2⟩ => ?_
  subst ex
  obtain rfl : u = Value.ref a := rx
  rcases g with g | ⟨kvs, k, ⟨e, ks, kb⟩, hv⟩
  · exact d_notIn (by omega) I2 g ry fun s3 I3 => ⟨.bl (!ov.isSome), H2, I3, rfl, q2⟩
  obtain ⟨z, hd, xs, rel, dd, his⟩ := dN_of I2.hok e ks
  refine notInV (by omega) (kb.is I2.hok ry) hd dd his ?_
  have q := (rel.val k).isSome_eq
  rw [Option.isSome_map, ← hv] at q
  rw [← q]
  exact ⟨.bl (!ov.isSome), H2, I2.tok _, rfl, q2⟩
theorem ps_dputX (hu : X.A.units + 40 < cLine) (ho : PE X o td) (hi : PE X i ty) (hv : PE X value tv) (hs : swapsWith value (some (.Subscript o i pos')) pos.line X.env = pure false) :
    PS X (.Assign [.Subscript o i pos'] value pos) (sDPutX w td ty tv) := by
  subst hw
  refine ⟨fun pins s σ H D I h => ?_⟩
  refine wpAny_Assign_Subscript (thn (hv.run pins s σ H _ I h) fun r s1 ⟨v, H1, I1, rv, q1⟩ => thn (ho.run pins s1 σ H1 _ I1 q1) fun u s2 ⟨x, H2, I2, rx, q2⟩ => thn (hi.run pins s2 σ H2 _ I2 q2) fun iv s3 ⟨y, H3, I3, ry, a, H4, ex, g, q3⟩ => ?_) hs
  subst ex
  obtain rfl : u = Value.ref a := rx
  rcases g with g | ⟨kvs, k, ⟨e, ks, kb⟩, hn, hl, rfl⟩
  · exact d_setItem (by omega) I3 g ry rv fun s4 I4 => ⟨σ, H4, I4, q3⟩
  obtain ⟨z, hd, xs, rel, dd, his⟩ := dN_of I3.hok e ks
  have hz : xs.length ≤ sizeLine := by rw [← Paired.length rel]; exact z
  have hl2 : (kvs ++ [(k, y, v)]).length ≤ sizeLine := by rw [List.length_append, List.length_singleton]; omega
  have q := (rel.val k).isSome_eq
  rw [hn, Option.isSome_map] at q
  have hno : atV xs k = none := by
    cases e : atV xs k with
    | none => rfl
    | some p => rw [e] at q; cases q
  refine setItemV (by omega) (kb.is I3.hok ry) dd his hno (fun h' dd' hs => ?_) hz
  have he : ∃ q, h'.get? a = some q := let ⟨q, _, _, hq, _⟩ := dd'; ⟨q, hq⟩
  exact ⟨σ, _, d_write I3 (by rw [e]; exact True.intro) hs he (dN_ok hl2 hd (Paired.snoc rel ⟨rfl, ry, rv⟩) dd'), q3⟩
theorem pe_dnewN : PE X (.Dict [] [] pos) (tDNewN w) := by
  subst hw
  exact ⟨fun pins s σ H Q I h =>
    wpAny_Dict_empty ⟨.ref s.heap.objs.size, _, I.laid (a := s.heap.objs.size) (o := dN X.w s.heap.objs.size []) (t' := s.toks) (fun _ _ q => Heap.get?_push_of_some _ q) (Nat.le_refl _) (dN_new I.big), rfl, h _ (I.hok.fresh (Nat.le_refl _))⟩⟩
theorem pe_disp1N (hu : X.A.units + 40 < cLine) (hk : PE X k tk) (hv : PE X v tv) : PE X (.Dict [some k] [v] pos) (tDisp1N w tk tv) := by
  subst hw
  refine ⟨fun pins s σ H Q I q => ?_⟩
  have hn := I.hok.fresh (Nat.le_refl s.heap.objs.size)
  have I1 := I.laid (a := s.heap.objs.size) (o := dN X.w s.heap.objs.size []) (t' := s.toks) (fun _ _ z => Heap.get?_push_of_some _ z) (Nat.le_refl _) (dN_new I.big)
  have hz := zip_pairTrees [some k] [v] X.env pos rfl rfl
  have hl : (pairTrees [some k] [v] X.env pos).length = 1 := pairTrees_length [some k] [v] X.env pos rfl rfl
  have hne : pairTrees [some k] [v] X.env pos ≠ [] := fun z => by rw [z] at hl; cases hl
  have room : (nestedKind X.prog X.w).room X.A := by show X.A.units + 8 < cLine; omega
  rw [arm_eval_Dict, hz, dictDisplay_pairs _ hne (by rw [hl]; decide)]
  refine wpAny_bind (wpAny_standAt (wpAny_bind ?_))
  refine wpAny_subDictH (knd := nestedKind X.prog X.w) room (by rw [hl]; decide) ?_
  refine pairTrees_cons_walk (thn (hk.run pins _ σ _ _ I1 (q _ hn)) fun u s1 ⟨x, H1, I1', rx, q1⟩ => thn (hv.run pins s1 σ H1 _ I1' q1) fun w2 s2 ⟨y, H2, I2, ry, q2⟩ => pairTrees_nil_walk ?_)
  obtain ⟨e, b, ks, rfl, kb, q3⟩ := q2
  cases (show u = Value.ref b from rx)
  obtain ⟨z, hd, xs0, r0, dd, _⟩ := dN_of I2.hok e (fun p hp => nomatch hp)
  cases r0
  have kb2 := kb.is I2.hok (u := .ref b) rfl
  obtain ⟨o0, es0, ep0, d1, d2, d3, d4, d5⟩ := dd
  refine ⟨[(ks, b, w2)], ⟨rfl, rfl, ⟨kb2.is, kb2.d⟩, True.intro⟩, ⟨o0, es0, ep0, d1, d2, d3, by rw [d4]; rfl, (fun x hx => nomatch hx), List.nodup_nil⟩, fun h' tk dd' hs => wpAny_pure ⟨.ref s.heap.objs.size, _, ?_, rfl, q3⟩⟩
  have e1 : storedAllH [] [(ks, b, w2)] = [(ks, b, w2)] := rfl
  rw [e1] at dd'
  obtain ⟨o, es, ep, ho, h2, h3, h4, h5, h6⟩ := dd'
  exact d_write I2 (by rw [e]; exact True.intro) hs ⟨o, ho⟩ (dN_ok (xs := [(ks, .ref b, w2)]) (by show 1 ≤ sizeLine; decide) hd (.cons ⟨rfl, (rfl : Value.ref b = Value.ref b), ry⟩ .nil) ⟨o, es, ep, ho, h2, h3, by rw [h4]; rfl, h6⟩)
end
section
variable {w : World} {σ : L2.St} {H : Hp} {Q : VK} {td ty tv tk : TE} {D : Ends}
theorem rd_dgetX (h : td σ H fun x H1 => ty σ H1 fun y H2 => ∃ a v, x = .ref a ∧ DGX w H2 a y (some v) ∧ Q v H2) : tDGetX w td ty σ H Q := h
theorem rd_dninX (h : ty σ H fun y H1 => td σ H1 fun x H2 => ∃ a o, x = .ref a ∧ DGX w H2 a y o ∧ Q (.bl (!o.isSome)) H2) : tDNotInX w ty td σ H Q := h
theorem rd_dputX (h : tv σ H fun v H1 => td σ H1 fun x H2 => ty σ H2 fun y H3 => ∃ a H4, x = .ref a ∧ DPX w H3 a y v H4 ∧ D.nx σ H4) : sDPutX w td ty tv D σ H := h
theorem rd_disp1N (h : ∀ p, H p = none → tk σ (upd H p (dN w p [])) fun x H1 => tv σ H1 fun y H2 => H2 p = some (dN w p []) ∧ ∃ (b : Addr) (k : NestedKey), x = .ref b ∧ KyN H2 k (.ref b) ∧ Q (.ref p) (upd H2 p (dN w p [(k, .ref b, y)]))) : tDisp1N w tk tv σ H Q := h
end
theorem hu40 {k : Nat} {A : Around} (r : Room k A) : A.units + 40 < cLine := by have := r.un; omega
end AT

set_option Elab.async false
set_option linter.all false
set_option maxRecDepth 100000
set_option maxHeartbeats 4000000
/-! own words, sixteenth part: nested defs with cells of their own; sets made of lists of numbers -/
namespace AT
open PySem PySem.Spec PyProof.Rows L2 LamX NdefX
/-! ### a def within a def, some of whose parameters are captured in their turn -/
theorem cellsFrom_acc (cl : List (Str × Addr)) : ∀ (names : List (Str × NameKind)) (n : Nat) (a : List (Str × Addr)), cellsFrom n names (a ++ cl) = cellsFrom n names a ++ cl
  | [], _, _ => rfl
  | (x, k) :: r, n, a => by
    unfold cellsFrom
    split
    · exact cellsFrom_acc cl r (n + 1) ((x, n) :: a)
    · exact cellsFrom_acc cl r n a
theorem cellsFrom_cl (cl : List (Str × Addr)) (names : List (Str × NameKind)) (n : Nat) : cellsFrom n names cl = cellsFrom n names [] ++ cl := cellsFrom_acc cl names n []
theorem cellsFrom_mem' : ∀ {names : List (Str × NameKind)} {n : Nat} {a : List (Str × Addr)} {p : Str × Addr}, p ∈ cellsFrom n names a → p ∈ a ∨ (p.1, NameKind.cell) ∈ names
  | [], _, _, _, h => .inl h
  | (x, k) :: r, n, a, p, h => by
    unfold cellsFrom at h
    split at h
    · rename_i hk
      rcases cellsFrom_mem' h with z | z
      · rcases List.mem_cons.mp z with z | z
        · right
          rw [z, show k = .cell from eq_of_beq hk]
          exact List.mem_cons_self
        · exact .inl z
      · exact .inr (List.mem_cons_of_mem _ z)
    · rcases cellsFrom_mem' h with z | z
      · exact .inl z
      · exact .inr (List.mem_cons_of_mem _ z)
section
variable {M : Model} {A : Around} {E : Value → Shared → Prop} {s₀ s : Shared} {m cm : Str → Option Value} {env : Env} {cs : List (Str × Addr)}
/-- a parameter stored: an own local, or a cell of cs -/
theorem st_par (x : InCallC s₀ env.locals m cs cm s) (hk : env.scope.kind = .function) {n : Str} {v : Value} {Q : Unit → Shared → Prop} (hl : env.kindOf n = some .local ∨ (env.kindOf n = some .cell ∧ ∃ c, env.cells.lookup n = some c ∧ cs.lookup n = some c))
    (h : ∀ s', InCallC s₀ env.locals (if env.kindOf n = some .local then fun y => if y = n then some v else m y else m) cs (if env.kindOf n = some .local then cm else fun y => if y = n then some v else cm y) s' → Q () s') : wpAny M A (storeName env n v) Q E s := by
  obtain ⟨x1, x2, x3, x4⟩ := id x
  rcases hl with hl | ⟨hl, c, hc, hc2⟩
  · rw [if_pos hl, if_pos hl] at h
    refine wpAny_storeName_local hl x1.ns (fun h1 hn hb => h _ ⟨⟨?_, hn, fun b o e => ?_, x1.fresh⟩, fun k a ha => ?_, x3, x4⟩) (by rw [hk]; rfl)
    · obtain ⟨g, tk, rfl⟩ := x1.same
      exact ⟨h1, _, rfl⟩
    · have hlt := Nat.lt_of_lt_of_le (Heap.lt_size e) x1.fresh
      exact hb.extBut b o (Nat.ne_of_lt hlt) (x1.keep b o e)
    · have hlt := x4 k a (PySem.mem_of_lookup ha)
      exact (x2 k a ha).sameBut hb (Nat.ne_of_gt hlt)
  · have nl : ¬ env.kindOf n = some .local := by rw [hl]; decide
    rw [if_neg nl, if_neg nl] at h
    have hlt := x4 n c (PySem.mem_of_lookup hc2)
    refine wpAny_storeName_cell hk hl hc (x2 n c hc2) fun h1 hn hb => h _ ⟨⟨?_, x1.ns.sameBut hb (Nat.ne_of_lt hlt), fun b o e => ?_, x1.fresh⟩, fun k a ha => ?_, x3, x4⟩
    · obtain ⟨g, tk, rfl⟩ := x1.same
      exact ⟨h1, _, rfl⟩
    · have hl2 := Nat.lt_trans (Nat.lt_of_lt_of_le (Heap.lt_size e) x1.fresh) hlt
      exact hb.extBut b o (Nat.ne_of_lt hl2) (x1.keep b o e)
    · by_cases ek : k = n
      · rw [ek, hc2] at ha
        cases ha
        rw [ek, if_pos rfl]
        exact hn
      · rw [if_neg ek]
        refine (x2 k a ha).sameBut hb fun e => ek (name_of_addr x3 (PySem.mem_of_lookup ha) ?_)
        rw [e]
        exact PySem.mem_of_lookup hc2
theorem st_pars (f : Str × Value → PUnit → Sem (ForInStep PUnit)) (hf : ∀ n v u, f (n, v) u = (do storeName env n v; pure (.yield ⟨⟩))) (hk : env.scope.kind = .function) :
    ∀ (bs : List (Str × Value)) (m cm : Str → Option Value) (s : Shared) (Q : PUnit → Shared → Prop), InCallC s₀ env.locals m cs cm s → (∀ x ∈ bs, env.kindOf x.1 = some .local ∨ (env.kindOf x.1 = some .cell ∧ ∃ c, env.cells.lookup x.1 = some c ∧ cs.lookup x.1 = some c)) →
      (∀ s', InCallC s₀ env.locals (bindL env.kindOf bs m) cs (bindC env.kindOf bs cm) s' → Q ⟨⟩ s') → wpAny M A (forIn bs ⟨⟩ f) Q E s
  | [], m, cm, s, Q, x, _, h => by
    rw [List.forIn_nil]
    exact wpAny_pure (h s x)
  | (n, v) :: r, m, cm, s, Q, x, hl, h => by
    rw [List.forIn_cons, hf]
    refine wpAny_bind (wpAny_bind (st_par x hk (hl _ List.mem_cons_self) fun s1 x1 => wpAny_pure ?_))
    refine st_pars f hf hk r _ _ s1 Q x1 (fun y hy => hl y (List.mem_cons_of_mem _ hy)) fun s2 x2 => h s2 ?_
    unfold bindL bindC
    exact x2
end
section
variable {M : Model} {A : Around} {E : Value → Shared → Prop} {s : Shared}
theorem new_env_cl {scope : Scope} {globals : Addr} {cl : List (Str × Addr)} {bs : List (Str × Value)} {qual : Str} {func : Option Addr} {code : Value} {builtins : Addr} {Q : Env → Shared → Prop} (hk : scope.kind = .function)
    (hl : ∀ x ∈ bs, scope.names.lookup x.1 = some .local ∨ (scope.names.lookup x.1 = some .cell ∧ ∃ c, (cellsFrom (s.heap.objs.size + 1) scope.names []).lookup x.1 = some c))
    (hQ : ∀ s', InCallC s s.heap.objs.size (bindL (fun y => scope.names.lookup y) bs fun _ => none) (cellsFrom (s.heap.objs.size + 1) scope.names []) (bindC (fun y => scope.names.lookup y) bs fun _ => none) s' → Q (newEnv scope s.heap.objs.size globals (cellsFrom (s.heap.objs.size + 1) scope.names cl) qual func code none builtins) s') :
    wpAny M A (newFunctionEnv scope globals cl bs qual func code none builtins) Q E s := by
  simp only [newFunctionEnv, Option.isSome_none, Bool.false_eq_true, if_false]
  refine wpAny_bind (wpAny_alloc ?_)
  refine wpAny_bind (wpAny_layCells _ (fun name kind cells => by cases e : kind == NameKind.cell <;> simp [e]) _ _ _ _ ?_)
  have ez : ∀ o : Obj, ({ s with heap := s.heap.push o } : Shared).heap.objs.size = s.heap.objs.size + 1 := fun o => Heap.size_push ..
  have ok := cellsFrom_ok scope.names (s.heap.push { cls := .type "frame", data := .dict #[] }) (s.heap.objs.size + 1) [] ⟨fun _ _ z => (nomatch z), List.Pairwise.nil⟩ (Nat.le_of_eq (ez _).symm)
  rw [show (s.heap.push { cls := .type "frame", data := .dict #[] }).objs.size = s.heap.objs.size + 1 from ez _] at ok
  rw [ez]
  refine wpAny_bind (st_pars (s₀ := s) (cs := cellsFrom (s.heap.objs.size + 1) scope.names []) (env := newEnv scope s.heap.objs.size globals (cellsFrom (s.heap.objs.size + 1) scope.names cl) qual func code none builtins) _ (fun _ _ _ => rfl) hk bs (fun _ => none) (fun _ => none) _ _
    ⟨⟨⟨_, _, rfl⟩, (Heap.Ns.new s.heap (.type "frame")).keeps (pushCells_keeps _ _), fun b o e => pushCells_keeps _ _ b o (Heap.get?_push_of_some _ e), Nat.le_refl _⟩, fun n c hc => (ok.empty n c (PySem.mem_of_lookup hc)).1, ok.apart, fun n c z => (ok.empty n c z).2⟩
    (fun x hx => ?_) fun s' x => wpAny_pure (hQ s' x))
  rcases hl x hx with z | ⟨z, c, hc⟩
  · exact .inl z
  · refine .inr ⟨z, c, ?_, hc⟩
    show (cellsFrom (s.heap.objs.size + 1) scope.names cl).lookup x.1 = some c
    rw [cellsFrom_cl, List.lookup_append, hc]
    rfl
end
/-- its names: the parameters, then the captured ones, then its locals; some parameters are cells -/
structure NScopeC (N ps fr : List Str) (sc : Scope) : Prop where
  kind : sc.kind = .function
  co : sc.isCoroutine = false
  gen : sc.isGenerator = false
  nd : N.Nodup
  pre : N.take (ps.length + fr.length) = ps ++ fr
  par : ∀ x ∈ ps, sc.names.lookup x = some .local ∨ sc.names.lookup x = some .cell
  own : ∀ y ∈ sc.names, y.2 = .cell → y.1 ∈ ps
  free : ∀ y ∈ sc.names, y.2 = .free → y.1 ∈ fr
  frk : ∀ x ∈ fr, sc.names.lookup x = some .free
def nscCB (N ps fr : List Str) (sc : Scope) : Bool :=
  decide (sc.kind = .function) && (!sc.isCoroutine && (!sc.isGenerator && (decide N.Nodup && (decide (N.take (ps.length + fr.length) = ps ++ fr) && (ps.all (fun x => decide (sc.names.lookup x = some .local) || decide (sc.names.lookup x = some .cell)) &&
    (sc.names.all (fun y => !decide (y.2 = .cell) || decide (y.1 ∈ ps)) && (sc.names.all (fun y => !decide (y.2 = .free) || decide (y.1 ∈ fr)) && fr.all (fun x => decide (sc.names.lookup x = some .free)))))))))
theorem nscopeC_by {N ps fr : List Str} {sc : Scope} (h : nscCB N ps fr sc = true) : NScopeC N ps fr sc := by
  unfold nscCB at h
  simp only [Bool.and_eq_true, Bool.not_eq_true', decide_eq_true_eq, List.all_eq_true, Bool.or_eq_true, decide_eq_false_iff_not] at h
  obtain ⟨h1, h2, h3, h4, h5, h6, h7, h8, h9⟩ := h
  exact ⟨h1, h2, h3, h4, h5, h6, fun y hy e => (h7 y hy).elim (fun z => absurd e z) id, fun y hy e => (h8 y hy).elim (fun z => absurd e z) id, h9⟩
abbrev envFC (F : NF) (f L : Addr) : Env := PySem.W.envX F.qual F.scope L f (.ref F.c) (cellsFrom (L + 1) F.scope.names F.cl)
def ncxC (CX : CXT) (P : Program) (w : World) (K : PySem.W.Frag) (mg : Str → Option Value) (base : Heap) (N : List Str) (F : NF) (f : Addr) (A : Around) (outer : List Env) (s : Shared) (H : Hp) (E : XK) : Cx :=
  { ncx CX P w K mg base N F f A outer s H E with
    A := A.deeper (envFC F f s.heap.objs.size), env := envFC F f s.heap.objs.size, stack := envFC F f s.heap.objs.size :: outer,
    xe := fun e s' => wpAny (model P w) (A.deeper (envFC F f s.heap.objs.size)) (leaving (envFC F f s.heap.objs.size) e) (fun _ s'' => CX outer H s E e s'') (fun e' s'' => CX outer H s E e' s'') s' }
section
variable {CX : CXT} {P : Program} {w : World} {K : PySem.W.Frag} {mg : Str → Option Value} {base : Heap} {N ps fr : List Str} {F : NF} {f : Addr} {A : Around} {outer : List Env} {s s1 : Shared} {H : Hp} {E : XK} {us : List Value} {vs : List V} {ws : List (Option V)}
theorem inv_startC (S : NScopeC N ps fr F.scope) (hd : A.handled = none) (e0 : Env0 P w K mg base A outer s H) (hl : vs.length = ps.length) (r : Vals vs us) (C : CellsAt F.cl fr ws s.heap H)
    (x : InCallC s s.heap.objs.size (bindL (fun y => F.scope.names.lookup y) (ps.zip us) fun _ => none) (cellsFrom (s.heap.objs.size + 1) F.scope.names []) (bindC (fun y => F.scope.names.lookup y) (ps.zip us) fun _ => none) s1) :
    Inv (ncxC CX P w K mg base N F f A outer s H E) [] (startF N vs ws) H s1 := by
  obtain ⟨h₁, tk, rfl, kp⟩ := x.done
  have hpl : ps.length + fr.length ≤ N.length := by
    have q := congrArg List.length S.pre
    rw [List.length_take, List.length_append] at q
    omega
  have noA : ∀ b : Addr, b ∉ (ncxC CX P w K mg base N F f A outer s H E).ex := fun b z => absurd (show b ∈ ([] : List Addr) from z) (by simp)
  have cellK : ∀ {c : Addr} {v : Option Value}, s.heap.IsCell c v → h₁.IsCell c v := fun {c v} ⟨o, ho, hd⟩ => ⟨o, kp _ _ ho, hd⟩
  have look : ∀ y, (cellsFrom (s.heap.objs.size + 1) F.scope.names F.cl).lookup y = ((cellsFrom (s.heap.objs.size + 1) F.scope.names []).lookup y).or (F.cl.lookup y) := fun y => by rw [cellsFrom_cl, List.lookup_append]
  have cut : ∀ {y c}, (cellsFrom (s.heap.objs.size + 1) F.scope.names F.cl).lookup y = some c → (cellsFrom (s.heap.objs.size + 1) F.scope.names []).lookup y = some c ∨ (F.cl.lookup y = some c) := fun {y c} e => by
    rw [look] at e
    cases z : (cellsFrom (s.heap.objs.size + 1) F.scope.names []).lookup y with
    | none => rw [z] at e; exact .inr e
    | some c' => rw [z] at e; exact .inl e
  have hi : ∀ {y c}, (cellsFrom (s.heap.objs.size + 1) F.scope.names []).lookup y = some c → s.heap.objs.size < c := fun e => x.above _ _ (PySem.mem_of_lookup e)
  have lo : ∀ {y c}, F.cl.lookup y = some c → c < s.heap.objs.size := fun e => by
    obtain ⟨_, v, o, ho, _⟩ := C.all _ _ e
    exact Heap.lt_size ho
  have ndA : (ps ++ fr).Nodup := by
    rw [← S.pre]
    exact S.nd.sublist (List.take_sublist _ _)
  have frn : ∀ {y}, y ∈ fr → (cellsFrom (s.heap.objs.size + 1) F.scope.names []).lookup y = none := fun {y} hy => by
    cases z : (cellsFrom (s.heap.objs.size + 1) F.scope.names []).lookup y with
    | none => rfl
    | some c =>
      rcases cellsFrom_mem' (PySem.mem_of_lookup z) with q | q
      · cases q
      · exact absurd (rfl : y = y) ((List.nodup_append.mp ndA).2.2 y (S.own _ q rfl) y hy)
  refine ⟨⟨e0.mod, S.kind, rfl, rfl, Nat.le_refl _, fun y z c h1 h2 => ?_, fun y hy => ?_, fun y c z _ => ?_, fun _ => hd, Around.frames_deeper e0.frames, .inr ⟨rfl, rfl⟩, fun b z => absurd z (noA b), e0.bs, e0.bsz, fun b _ _ => noA b,
      fun b z => absurd z (noA b), e0.funs, e0.frf⟩,
    rfl, e0.bare, Un.kept kp, ⟨_, x.toInCall.ns, fun i y v e1 e2 e3 => ?_⟩, fun y c e => ?_, e0.hok.fresh (Nat.le_refl _), fun y c e => ?_, fun q hq => absurd (show q ∈ ([] : List (Addr × Obj)) ++ [] from hq) (by simp), e0.hok.kept kp, ?_⟩
  · rcases cut h1 with a | a <;> rcases cut h2 with b | b
    · exact name_of_addr x.apart (PySem.mem_of_lookup a) (PySem.mem_of_lookup b)
    · exact absurd (Nat.lt_trans (hi a) (lo b)) (Nat.lt_irrefl _)
    · exact absurd (Nat.lt_trans (hi b) (lo a)) (Nat.lt_irrefl _)
    · exact C.inj y z c a b
  · have hy : F.scope.names.lookup y = some .cell ∨ F.scope.names.lookup y = some .free := hy
    rcases hy with hy | hy
    · obtain ⟨c, hc⟩ := cell_has (n := s.heap.objs.size + 1) hy
      exact ⟨c, by show (cellsFrom _ _ _).lookup y = _; rw [look, hc]; rfl⟩
    · have hf := S.free _ (PySem.mem_of_lookup hy) rfl
      obtain ⟨i, hi⟩ := List.mem_iff_getElem?.mp hf
      obtain ⟨c, hc, _⟩ := C.has i y hi
      exact ⟨c, by show (cellsFrom _ _ _).lookup y = _; rw [look, frn hf, hc]; rfl⟩
  · have z : false = true := z
    cases z
  · have e1 : N[i]? = some y := e1
    have clen := C.len
    unfold startF at e2
    by_cases h1 : i < ps.length
    · have hq : (ps ++ fr)[i]? = some y := by
        rw [← S.pre, List.getElem?_take_of_lt (by omega)]
        exact e1
      rw [List.getElem?_append_left h1] at hq
      rw [List.getElem?_append_left (by rw [List.length_map]; omega), List.getElem?_map] at e2
      have ha : vs[i]? = some v := by
        cases e : vs[i]? with
        | none => rw [e] at e2; cases e2
        | some a => rw [e] at e2; cases e2; rfl
      obtain ⟨u, hu, rv⟩ := r.get ha
      have ndP : ps.Nodup := (List.nodup_append.mp ndA).1
      refine ⟨u, rv, ?_⟩
      rcases S.par y (List.mem_of_getElem? hq) with k | k
      · exact .inl ⟨k, bindL_get ndP hq hu k⟩
      · obtain ⟨c, e⟩ := cell_has (n := s.heap.objs.size + 1) k
        refine .inr ⟨.inl k, c, by show (cellsFrom _ _ _).lookup y = _; rw [look, e]; rfl, ?_⟩
        have q := x.cell y c e
        rw [bindC_get ndP hq hu (by rw [k]; decide)] at q
        exact q
    · rw [List.getElem?_append_right (by rw [List.length_map]; omega), List.length_map] at e2
      by_cases h2 : i < ps.length + fr.length
      · have hq : (ps ++ fr)[i]? = some y := by
          rw [← S.pre, List.getElem?_take_of_lt (by omega)]
          exact e1
        rw [List.getElem?_append_right (by omega)] at hq
        rw [List.getElem?_append_left (by omega), hl] at e2
        obtain ⟨c, hc, hv⟩ := C.has (i - ps.length) y hq
        obtain ⟨u, ru, hu⟩ := hv v e2
        have hf := List.mem_of_getElem? hq
        exact ⟨u, ru, .inr ⟨.inr (S.frk y hf), c, by show (cellsFrom _ _ _).lookup y = _; rw [look, frn hf, hc]; rfl, cellK hu⟩⟩
      · rw [List.getElem?_append_right (by omega), List.getElem?_replicate] at e2
        split at e2 <;> cases e2
  · rcases cut e with z | z
    · exact ⟨_, x.cell y c z⟩
    · obtain ⟨v, q⟩ := (C.all y c z).2
      exact ⟨v, cellK q⟩
  · rcases cut e with z | z
    · exact e0.hok.fresh (Nat.le_of_lt (hi z))
    · exact (C.all y c z).1
  · have clen := C.len
    unfold startF
    show _ = N.length
    rw [List.length_append, List.length_append, List.length_map, List.length_replicate]
    omega
theorem nokC_of {k : Nat} {sp : List (Option V) → Sp} (S : NScopeC N ps fr F.scope) (hb : ∀ (doc pm ctv : Value) (us : List Value), us.length = ps.length → bindArgs (F.fd doc pm ctv) ⟨us, []⟩ = pure (ps.zip us)) (len : ∀ ws vs H Q E, sp ws vs H Q E → vs.length = ps.length)
    (hbody : ∀ (A : Around) (outer : List Env) (s : Shared) (H : Hp) (vs : List V) (ws : List (Option V)) (Q : VK) (E : XK), Room k (A.deeper (envFC F f s.heap.objs.size)) → ws.length = fr.length → sp ws vs H Q E →
      ∃ t, PSs (ncxC CX P w K mg base N F f A outer s H E).nox F.body t ∧ t { nx := fun _ H' => Q .non H', rt := Q } (startF N vs ws) H) :
    NOk P w K mg base CX (k + 1) f F ps fr sp := by
  refine ⟨len, fun A outer s H us vs ws Q E hr e0 hf hc C r hsp => ?_⟩
  have hl := len _ _ _ _ _ hsp
  have lim : s.heap.NoLimit := e0.mod.nolimit.keeps fun b o e => (e0.bs b o e).1
  obtain ⟨od, sl, doc, pm, ctv, ho⟩ := fnO_at e0.hok hf
  have hul : us.length = ps.length := by rw [← r.length]; exact hl
  refine codeAny_call_function hr.depth ho rfl S.co S.gen rfl (codeO_at e0.hok hc) ?_
  rw [hb doc pm ctv us hul]
  refine wpAny_pure (new_env_cl S.kind (fun ⟨n, v⟩ hy => ?_) fun s1 x => ⟨lim.keeps x.toInCall.keep, ?_⟩)
  · rcases S.par n (List.of_mem_zip hy).1 with q | q
    · exact .inl q
    · exact .inr ⟨q, cell_has q⟩
  show codeAny _ _ (.func F.body (envFC F f s.heap.objs.size)) _ _
  refine codeAny_func ?_
  obtain ⟨t, ht, hq⟩ := hbody A outer s H vs ws Q E (hr.deeper _) C.len hsp
  have I := inv_startC (CX := CX) (E := E) (f := f) (N := N) S hr.hd e0 hl r C x
  have ht := PSs.nox ht
  refine wpAny_mono (ht.run [] _ (startF N vs ws) H _ I hq) (fun fl s' hs => ?_) fun e s' hs => hs
  have fin : ∀ {σ' : L2.St} {H' : Hp} {v : V} {u : Value}, Inv (ncxC CX P w K mg base N F f A outer s H E) [] σ' H' s' → L2.RelV v u → Q v H' → CE outer P w H s Q u s' :=
    fun {σ' H' v u} J rv q => ⟨v, H', J.os, J.bare, J.base, J.hok, rv, q⟩
  cases fl with
  | ret u =>
    obtain ⟨v, σ', H', J, rv, q⟩ := hs
    exact fin J rv q
  | next =>
    obtain ⟨σ', H', J, q⟩ := hs
    exact fin (v := V.non) (u := Value.none) J rfl q
  | brk =>
    obtain ⟨_, _, _, q⟩ := hs
    exact q.elim
  | cont =>
    obtain ⟨_, _, _, q⟩ := hs
    exact q.elim
end
end AT

set_option Elab.async false
set_option linter.all false
set_option maxRecDepth 100000
set_option maxHeartbeats 4000000
/-! own words, seventeenth part: sorted(set(a list of numbers)) -/
namespace AT
open PySem PySem.Spec PyProof.Rows L2
/-- the set that is just made -/
abbrev eSet (w : World) : Obj := { cls := .type "set", dict := none, data := .set #[] 0 (.fresh 0 0 (!w.params.followText "set-order")) }
section
variable {P : Program} {w : World} {A : Around} {E : Value → Shared → Prop} {s : Shared}
set_option maxHeartbeats 6400000 in
theorem call_setL {l : Addr} {its : Array Value} (ns : List Int) {Q : Value → Shared → Prop} (calm : A.handled = none) (hl : s.heap.IsList l its) (hi : IntsAre its.toList ns) (few : ns.length + 1 < scanBound)
    (q : ∀ (h' : Heap) (tk c : Nat), SetR w h' s.heap.objs.size (fun j => decide (j ∈ ns)) c → c ≤ ns.length → (∀ b o, s.heap.get? b = some o → h'.get? b = some o) → Q (.ref s.heap.objs.size) { s with heap := h', toks := tk }) :
    wpAny (model P w) A (call (.type "set") [.ref l]) Q E s := by
  have sz : its.size = ns.length := by have e := IntsAre.length hi; rwa [Array.length_toList] at e
  have hC := F.called_set
  obtain ⟨c0, tl0, mro0⟩ := hC.mro
  have a1 := hC.made
  have a2 := hC.sub
  have a3 := hC.notType
  have a4 := hC.canCreate
  have a5 := F.typeCall_set_1 (.ref l)
  refine wpAny_call (codeAny_of_tree ?_)
  show wpAny _ _ (callAny (.type "set") _) _ _ _
  refine wpAny_pure ⟨Code.quiet_builtin _ (by decide +kernel), codeAny_builtin F.entry_type_call ?_⟩
  rw [Around.under_plain (weight_type_call_type "set" [.ref l] []) rfl]
  repeat (any_goals (first | assumption | wp_step))
  refine codeAny_mono (code_set_led1 (.ref l) (E := E) (Q₁ := fun v s1 => v = .ref s.heap.objs.size ∧ s1 = { s with heap := s.heap.push (eSet w) }) ⟨rfl, rfl⟩) fun r1 s1 z1 => ?_
  rcases r1 with e1 | f1
  · exact z1
  cases f1 with
  | next => exact z1.elim
  | brk => exact z1.elim
  | cont => exact z1.elim
  | ret v1 =>
    obtain ⟨rfl, rfl⟩ := z1
    have gS : (s.heap.push (eSet w)).get? s.heap.objs.size = some (eSet w) := Heap.get?_push_size _ rfl
    have tS : Shared.TypeIs { s with heap := s.heap.push (eSet w) } (.ref s.heap.objs.size) "set" := ⟨_, gS, rfl⟩
    have b1 := hC.init.lookup
    have b2 := hC.init.bind (.ref s.heap.objs.size)
    repeat (any_goals (first | assumption | wp_step))
    refine codeAny_mono (codeAny_call_builtin (R := wants (fun v s2 => v = .none ∧ ∃ g tk c, s2 = { s with heap := g, toks := tk } ∧ SetR w g s.heap.objs.size (fun j => decide (j ∈ ns)) c ∧ c ≤ ns.length ∧ (∀ b o, s.heap.get? b = some o → g.get? b = some o)) E)
      hC.init.plain F.entry_set_init (check_set_init_1 tS ?_)) fun r2 s2 z2 => ?_
    · obtain ⟨⟨oc, od, odt, osl⟩, ho, e1, n1, e2⟩ := hl
      simp only at e1 e2
      subst e1
      subst e2
      have ho1 : (s.heap.push (eSet w)).get? l = some { cls := .type "list", dict := od, data := .seq its n1, slots := osl } := Heap.get?_push_of_some _ ho
      have c1 := F.sub_list_set
      have c2 := F.sub_list_frozenset
      have c3 : (Value.type "list" == Value.type "dict") = false := by decide
      have isl : (s.heap.push (eSet w)).IsList l its := ⟨_, ho1, rfl, n1, rfl⟩
      unfold Builtin.«set.__init__» noKeywords Builtin.Frozenset.updateFrom
      generalize eI : pyIter = it0
      wp_walk
      subst eI
      refine wpAny_pyIter_list isl (wpAny_bind (wpAny_runValue ?_))
      have l1 : l < s.heap.objs.size := Heap.lt_size ho
      have zz : (s.heap.push (eSet w)).objs.size = s.heap.objs.size + 1 := Heap.size_push ..
      have calm3 : A.in1.in1.in1.handled = none := by simp [calm]
      have n2 : l ≠ (s.heap.push (eSet w)).objs.size := by rw [zz]; exact Nat.ne_of_lt (Nat.lt_succ_of_lt l1)
      have n3 : s.heap.objs.size ∉ [(s.heap.push (eSet w)).objs.size, l] := by
        rw [zz]
        simp only [List.mem_cons, List.not_mem_nil, or_false, not_or]
        exact ⟨Nat.ne_of_lt (Nat.lt_succ_self _), Nat.ne_of_gt l1⟩
      have vals : ∀ (i : Nat) (v : Value), its[i]? = some v → ∃ k t, ns[i]? = some k ∧ v = .int k t := fun i v hv => by
        have hlt : i < ns.length := by rw [← sz]; exact (Array.getElem?_eq_some_iff.mp hv).1
        obtain ⟨t, e⟩ := PyProof.Rows.IntsAre.int_at hi i v (by rw [Array.getElem?_toList]; exact hv)
        have e3 : ns[i]? = some ns[i] := List.getElem?_eq_getElem hlt
        exact ⟨ns[i], t, e3, by rw [e, List.getD_eq_getElem?_getD, e3]; rfl⟩
      refine set_update_ints ((Walks.list calm3 _ l n2 its).toS) s.heap.objs.size n3 ns sz few vals (its.size - 0) 0 _ (by omega) (Nat.zero_le _) ⟨⟨_, Heap.get?_push_size _ rfl, rfl, rfl⟩, isl.push _⟩ ⟨0, Nat.le_refl 0, setR_new_at (Heap.get?_push_of_some _ gS)⟩ fun s3 c hm hc hS => ?_
      obtain ⟨g, g2, d, tk, os⟩ := s3
      obtain rfl : g2 = s.gens := hm.gens
      obtain rfl : d = s.drawn := hm.drawn
      obtain rfl : os = s.os := hm.os
      show wpAny _ _ _ _ _ _
      refine wpAny_pure ?_
      show wpAny _ _ (ret Value.none) _ _ _
      rw [sz] at hc
      refine wpAny_pure ⟨rfl, g, tk, c, rfl, hS, hc, fun b o e => hm.heap b o ?_ (Heap.get?_push_of_some _ (Heap.get?_push_of_some _ e))⟩
      have lb : b < s.heap.objs.size := Heap.lt_size e
      rw [zz]
      simp only [List.mem_cons, List.not_mem_nil, or_false, not_or]
      exact ⟨Nat.ne_of_lt lb, Nat.ne_of_lt (Nat.lt_succ_of_lt lb)⟩
    · rcases r2 with e2 | f2
      · exact z2
      cases f2 with
      | ret v2 =>
        obtain ⟨rfl, g, tk, c, rfl, hS, hc, hk⟩ := z2
        repeat (any_goals (first | assumption | wp_step))
        exact q g tk c hS hc hk
      | next => exact z2.elim
      | brk => exact z2.elim
      | cont => exact z2.elim
end
/-- set(a list of numbers) -/
def rSetOfL (K : PySem.W.Frag) (w : World) : List V → Hp → VK → Prop := fun vs H Q => ∃ (l : Addr) (ns : List Int), vs = [.ref l] ∧ SqL K H l (ns.map V.int) ∧ ns.length ≤ 1000 ∧ ∀ (a : Addr) (c : Nat), H a = none → c ≤ ns.length → Q (.ref a) (upd H a (SetO w a (fun j => decide (j ∈ ns)) c))
theorem cr_setL {X : Cx} (hc : X.calm = true) : CallR X (.type "set") (rSetOfL X.K X.w) := by
  intro pins s σ H vs us Q I r h
  obtain ⟨l, ns, rfl, hs, hn, q⟩ := h
  rw [Vals.ref1 r]
  obtain ⟨its, rv, pl, hz⟩ := I.list hs
  refine call_setL ns (I.ok.hd hc) pl.isList (by rw [List.toList_toArray]; exact ints_of_vals rv) (by unfold scanBound; omega) fun h' tk c hS hl hk => ?_
  exact ⟨.ref _, _, I.laid (t' := tk) hk (Nat.le_refl _) (setO_new hS), rfl, q _ c (I.hok.fresh (Nat.le_refl _)) hl⟩
section
variable {X : Cx} (K : PySem.W.Frag) (w : World) (hK : X.K = K := by rfl) (hw : X.w = w := by rfl) (hc : X.calm = true := by rfl)
include hK hw hc
theorem kSetL : CallR X (.type "set") (rSetOfL K w) := hK ▸ hw ▸ cr_setL hc
omit hK in
theorem kSortSet : CallR X (.builtin "sorted") (rSortedSet w) := hw ▸ cr_sortedSet hc
end
/-- the places below n that are in xs -/
def lotN (n : Nat) (p : Nat → Bool) : List Nat := (List.range n).filter p
theorem mem_lotN {n : Nat} {p : Nat → Bool} {i : Nat} : i ∈ lotN n p ↔ i < n ∧ p i = true := by
  unfold lotN
  rw [List.mem_filter, List.mem_range]
theorem pw_ext : ∀ {a b : List Int}, a.Pairwise (· < ·) → b.Pairwise (· < ·) → (∀ k, k ∈ a ↔ k ∈ b) → a = b
  | [], [], _, _, _ => rfl
  | [], y :: _, _, _, h => absurd ((h y).mpr List.mem_cons_self) (by simp)
  | x :: _, [], _, _, h => absurd ((h x).mp List.mem_cons_self) (by simp)
  | x :: a, y :: b, ha, hb, h => by
    obtain ⟨a1, a2⟩ := List.pairwise_cons.mp ha
    obtain ⟨b1, b2⟩ := List.pairwise_cons.mp hb
    have e : x = y := by
      rcases List.mem_cons.mp ((h x).mp List.mem_cons_self) with z | z
      · exact z
      · rcases List.mem_cons.mp ((h y).mpr List.mem_cons_self) with z2 | z2
        · exact z2.symm
        · have := a1 _ z2
          have := b1 _ z
          omega
    subst e
    rw [pw_ext a2 b2 fun k => ⟨fun hk => ?_, fun hk => ?_⟩]
    · rcases List.mem_cons.mp ((h k).mp (List.mem_cons_of_mem _ hk)) with z | z
      · have := a1 _ hk; omega
      · exact z
    · rcases List.mem_cons.mp ((h k).mpr (List.mem_cons_of_mem _ hk)) with z | z
      · have := b1 _ hk; omega
      · exact z
theorem lotN_pw (n : Nat) (p : Nat → Bool) : ((lotN n p).map fun i : Nat => (i : Int)).Pairwise (· < ·) := by
  rw [List.pairwise_map]
  refine (List.pairwise_lt_range (n := n)).sublist List.filter_sublist |>.imp fun h => ?_
  exact Int.ofNat_lt.mpr h
/-- tuple(sorted(set(xs))) -/
theorem rd_sortSet {K : PySem.W.Frag} {w : World} {n : Nat} {xs : List Nat} {l : Addr} {H : Hp} {Q : VK} (hl : SqL K H l (xs.map fun i : Nat => V.int (i : Int))) (hn : xs.length < 64) (hb : ∀ x ∈ xs, x < n)
    (q : ∀ (p : Addr) (H' : Hp), Ex H H' → H' p = some (.lst ((lotN n fun i => decide (i ∈ xs)).map fun i : Nat => V.int (i : Int))) → Q (.ref p) H') : rSetOfL K w [.ref l] H fun v H1 => rSortedSet w [v] H1 Q := by
  refine ⟨l, xs.map fun i : Nat => (i : Int), rfl, by rw [List.map_map]; exact hl, by rw [List.length_map]; omega, fun a c ha hc => ?_⟩
  rw [List.length_map] at hc
  refine ⟨a, _, c, rfl, upd_same, by omega, fun ns p h1 h2 h3 hp => ?_⟩
  have e : ns = (lotN n fun i => decide (i ∈ xs)).map fun i : Nat => (i : Int) := pw_ext h1 (lotN_pw _ _) fun k => by
    rw [h2 k, decide_eq_true_eq, List.mem_map, List.mem_map]
    exact ⟨fun ⟨i, hi, e⟩ => ⟨i, mem_lotN.mpr ⟨hb i hi, decide_eq_true hi⟩, e⟩, fun ⟨i, hi, e⟩ => ⟨i, of_decide_eq_true (mem_lotN.mp hi).2, e⟩⟩
  refine q p _ ((Evl.Ex.new ha).trans (Evl.Ex.new hp)) ?_
  rw [upd_same, e, List.map_map]
  rfl
end AT

set_option Elab.async false
set_option linter.all false
set_option maxRecDepth 100000
set_option maxHeartbeats 4000000
/-! own words, eighteenth part: x or y of a tuple -/
namespace AT
open PySem PySem.Spec PyProof.Rows L2
theorem kOrT {X : Cx} (K : PySem.W.Frag) (hK : X.K = K) {a : Expr} {ta tb : TE} (h : PE X a (tOrT X.K ta tb)) : PE X a (tOrT K ta tb) := hK ▸ h
theorem rd_orT {K : PySem.W.Frag} {ta tb : TE} {σ : L2.St} {H : Hp} {Q : VK} (h : ta σ H fun x H1 => ∃ k, TruV K x H1 k ∧ if k = true then Q x H1 else tb σ H1 Q) : tOrT K ta tb σ H Q := h
end AT

set_option Elab.async false
set_option linter.all false
set_option maxRecDepth 100000
set_option maxHeartbeats 4000000
/-! own words, nineteenth part: a text turned round -/
namespace AT
open PySem PySem.Spec PyProof.Rows L2
/-- z[::-1] -/
def revS (z : Str) : Str := ⟨z.cps.toList.reverse.toArray⟩
theorem pick_rev (z : Str) : (Builtin.Str.strSliceIndices none none (-1) z.length).filterMap (z.cps[·]?) = z.cps.toList.reverse := by
  show (sliceRange ((z.cps.size : Int) - 1) (-1) (-1)).filterMap (z.cps[·]?) = _
  rw [PySem.W.krv_sliceRange, PySem.W.krv_range, List.filterMap_reverse, PySem.W.krv_all]
def tRevS (te : TE) : TE := fun σ H Q => te σ H fun x H1 => ∃ z : Str, x = .str z ∧ z.length ≤ sizeLine ∧ Q (.str (revS z)) H1
theorem pe_revS {X : Cx} {e : Expr} {te : TE} {k : Nat} {p1 p2 p3 pos : Pos} (he : PE X e te) : PE X (.Subscript e (.Slice none none (some (.UnaryOp .USub (.Constant (.int 1) k p1) p2)) p3) pos) (tRevS te) := by
  constructor
  intro pins s σ H Q I q
  refine Subscript_ (thn (he.run pins s σ H _ I q) fun v s1 ⟨x, H1, I1, rx, z, ex, hz, q1⟩ => ?_)
  subst ex
  obtain ⟨t, rfl⟩ : ∃ t, v = Value.str z t := rx
  have step : PO X (some (.UnaryOp .USub (.Constant (.int 1) k p1) p2)) (tPart (tUn (rU fun i => .int (-i)) (tC (.int 1)))) := po_some (pe_un un_neg pe_int)
  refine wpAny_Slice (thn (po_none.run pins s1 σ H1 (fun o H2 => o = none ∧ H2 = H1) I1 ⟨rfl, rfl⟩) fun va s2 ⟨a, H2, I2, pa, ea, e2⟩ => ?_)
  subst ea e2
  refine thn (po_none.run pins s2 σ H2 (fun o H3 => o = none ∧ H3 = H2) I2 ⟨rfl, rfl⟩) fun vb s3 ⟨b, H3, I3, pb, eb, e3⟩ => ?_
  subst eb e3
  refine thn (step.run pins s3 σ H3 (fun o H4 => o = some (-1) ∧ H4 = H3) I3 ⟨1, rfl, -1, rfl, rfl, rfl⟩) fun vc s4 ⟨c, H4, I4, pc, ec, e4⟩ => ?_
  subst ec e4
  obtain ⟨la, rfl, ha⟩ := IsPart.raw pa
  obtain ⟨lb, rfl, hb⟩ := IsPart.raw pb
  obtain ⟨lc, rfl, hc⟩ := IsPart.raw pc
  have I5 : Inv X pins σ H4 { s4 with heap := s4.heap.push { cls := .type "slice", data := .fields #[partValue la, partValue lb, partValue lc] } } := I4.kept (t' := s4.toks) fun b ob q => Heap.get?_push_of_some _ q
  have made : (slicePicked z la lb lc).filterMap (z.cps[·]?) = z.cps.toList.reverse := by
    unfold slicePicked
    rw [ha, hb, hc]
    exact pick_rev z
  refine tail_any (ops := [.ref s4.heap.objs.size, .str z t]) (typeIs_str _ _ _) (F.slot_str_getitem.lookup) ?_ (by with_unfolding_all rfl)
  refine wpAny_getItem_str_slice (l := la) (u := lb) (st := lc) ⟨_, Heap.get?_push_size _ rfl, rfl, rfl⟩ (by rw [hc]; rfl) ?_
  have em : sliceMade z t la lb lc = .str (revS z) := by
    unfold sliceMade
    rw [made, hc]
    rfl
  rw [em]
  refine ⟨?_, .str _, H4, I5.tok _, ⟨_, rfl⟩, q1⟩
  show (z.cps.toList.reverse.toArray).size ≤ sizeLine
  rw [List.size_toArray, List.length_reverse, Array.length_toList]
  exact hz
theorem rd_revS {te : TE} {σ : L2.St} {H : Hp} {Q : VK} (h : te σ H fun x H1 => ∃ z : Str, x = .str z ∧ z.length ≤ sizeLine ∧ Q (.str (revS z)) H1) : tRevS te σ H Q := h
end AT

set_option Elab.async false
set_option linter.all false
set_option maxRecDepth 100000
set_option maxHeartbeats 4000000
/-! own words: text += text, on a name -/
namespace AT
open PySem L2
theorem ip_addS {X : Cx} : PIp X .Add rAddS := fun pins s σ H x y u v Q I rx ry h => in_addS pins s σ H x y u v Q I rx ry h
theorem rd_aug {i : Nat} {te : TE} {ti : TIp} {D : Ends} {σ : L2.St} {H : Hp} {x : V} (e : σ[i]? = some (some x)) (h : te σ H fun y H1 => ti x y H1 fun z H2 => D.nx (σ.set i (some z)) H2) : tAug i te ti D σ H := ⟨x, e, h⟩
theorem rd_augAS {x y : Str} {H : Hp} {Q : VK} (c : x.length + y.length ≤ sizeLine) (q : Q (.str (x ++ y)) H) : rAddS (.str x) (.str y) H Q := ⟨x, y, rfl, rfl, c, q⟩
end AT

set_option Elab.async false
set_option linter.all false
set_option maxRecDepth 100000
set_option maxHeartbeats 4000000
/-! own words: try, with several clauses that name the exception -/
namespace AT
open PySem PySem.Spec PyProof.Rows L2
abbrev Clz := List (Value × Nat × (Addr → Value → Option Addr → TS))
abbrev EndsN (D : Ends) (i : Nat) : Ends := { nx := fun t G => D.nx (t.set i none) G, rt := D.rt, bk := fun t G => D.bk (t.set i none) G, ct := fun t G => D.ct (t.set i none) G }
/-- what the clauses ask of what is raised, one behind another; each has the slot of its name -/
def wAll (F : PySem.W.Frag) (out : WX) (D : Ends) : Clz → WX
  | [] => out
  | (k, i, t) :: more => fun cl dd st G => ∃ yes, PySem.W.exmOne F cl k = some yes ∧ (yes = true → ∀ a, G a = none → t a cl dd (EndsN D i) (st.set i (some (.ref a))) G) ∧ (yes = false → wAll F out D more cl dd st G)
inductive ClsOk (X : Cx) : List ExceptHandler → Clz → Prop
  | nil : ClsOk X [] []
  | cons {y m : Str} {k : Value} {i : Nat} {t : Addr → Value → Option Addr → TS} {s₀ : Stmt} {ss : List Stmt} {p1 p2 : Pos} {hs : List ExceptHandler} {l : Clz} (hi : X.N[i]? = some m) (hm : X.env.kindOf m = some .local) (hk : Names X y k)
      (hS : ∀ (a : Addr) (ob : Obj) (cl : Value) (dd : Option Addr) (ps : List (Addr × Obj)), Zc cl dd ob → (∃ fs, ob.data = .fields fs) → PSs (X.suite a ((a, ob) :: ps)) (s₀ :: ss) (t a cl dd)) (rest : ClsOk X hs l) :
      ClsOk X (.ExceptHandler (some (.Name y p1)) (some m) (s₀ :: ss) p2 :: hs) ((k, i, t) :: l)
section
variable {X : Cx} {body : List Stmt} {h₀ : ExceptHandler} {hds : List ExceptHandler} {l : Clz} {pos : Pos} {tb : WX → TS} {out : WX}
theorem ps_try_names (hN : X.N.Nodup) (e1 : X.stack = X.env :: X.outer) (e2 : X.env.frame = some X.env.locals) (tk : Takes X out)
    (hB : ∀ (W : WX) (ps : List (Addr × Obj)) (xe : Value → Shared → Prop), Takes (X.tr ps xe) W → PassesOwn (model X.prog X.w) X.A X.env xe → PSs (X.tr ps xe) body (tb W))
    (hC : ClsOk X (h₀ :: hds) l) : PS X (.Try body (h₀ :: hds) [] [] pos) (fun D st G => tb (wAll X.K out D l) D st G) := by
  refine ⟨fun pz s₁ st G D J h => ?_⟩
  have jok := J.ok
  have fr : X.A.frames = some (X.env :: X.outer) := by rw [jok.frames, e1]
  let catch_ : Value → Shared → Prop := fun ev t₁ => wpAny (model X.prog X.w) X.A (noteFrame ev X.env) (fun _ t₂ => wpAny (model X.prog X.w) X.A (setFlight ev none) (fun _ t₃ =>
    wpAny (model X.prog X.w) X.A (handleBy ev X.env (h₀ :: hds)) (SP X pz D) X.xe t₃) X.xe t₂) X.xe t₁
  have body_ := (hB (wAll X.K out D l) (X.pn ++ pz) catch_ (fun ev t₁ z => ?tk) PassesOwn.looking).run [] s₁ st G D (J.toTry _) h
  case tk =>
    obtain ⟨a, B, sB, _, st1, G1, cl, dd, rfl, JB, nb, up, sky, na, os, ag, asked⟩ := z
    have J1 : Inv X pz st1 G1 sB := JB.ofTry jok
    rw [e1] at sky
    refine Sky.land Zc.steady fr e2 sky fun g3 f3 u3 => ?_
    have J3 : Inv X pz st1 G1 { t₁ with heap := g3 } := J1.landed nb f3.1 (up.trans u3) os ag
    obtain ⟨ob3, fs3, at3, zc3, da3⟩ := f3.there
    have out3 : a ∉ frs (X.env :: X.outer) := fun hm => by
      obtain ⟨_, o', eo, none'⟩ := f3.2.2.1.mem hm
      rw [at3] at eo
      cases eo
      exact none' _ da3
    have aL : a ≠ X.env.locals := fun z => out3 (List.mem_filterMap.mpr ⟨X.env, List.mem_cons_self, by rw [e2, z]⟩)
    have aF : a ∉ X.fs := fun hm => by
      obtain ⟨en, hen, q⟩ := List.mem_filterMap.mp hm
      exact out3 (List.mem_filterMap.mpr ⟨en, List.mem_cons_of_mem _ hen, q⟩)
    have S3 := J3.suite at3 da3 na aL aF
    have through : ∀ {hs : List ExceptHandler} {l' : Clz}, ClsOk X hs l' → wAll X.K out D l' cl dd st1 G1 → wpAny (model X.prog X.w) X.A (handleBy (.ref a) X.env hs) (SP X pz D) X.xe { t₁ with heap := g3 } := by
      intro hs l' hl
      induction hl with
      | nil =>
        intro asked
        refine wpAny_handleBy_nil ?_
        obtain ⟨_, _, _, ob, fs, T, oT, tt, eo, _, ed, hT, _⟩ := id f3
        unfold PySem.passOn
        refine wpAny_bind (wpAny_field eo ed hT ?_)
        have nT : ¬ ((Value.ref T == Value.none) = true) := by simp
        rw [if_neg nT]
        have go : wpAny (model X.prog X.w) X.A (setFlight (.ref a) X.env.frame) (fun _ t₄ => wpAny (model X.prog X.w) X.A (throw (.ref a) : Sem Flow) (SP X pz D) X.xe t₄) X.xe { t₁ with heap := g3 } := by
          rw [e2]
          refine HandSPX.setFlight_upZ f3 fun g4 sk4 u4 => wpAny_throw (tk _ _ ?_)
          refine ⟨a, B, sB, pz, st1, G1, cl, dd, rfl, J1, nb, (up.trans u3).trans u4, .inr (.inr ?_), na, os, ag, asked⟩
          rw [e1]
          exact sk4
        first | exact wpAny_bind (wpAny_pure (wpAny_bind go)) | exact wpAny_bind go
      | @cons y m k i t s₀ ss p1 p2 hs2 l2 hi hm hk hS rest ih =>
        intro asked
        obtain ⟨yes, hb, on, off⟩ := asked
        refine wpAny_handleBy_cons (codeAny_handlers_test ?_) (by intro z; cases z)
        have look : PySem.W.Looks (model X.prog X.w) g3 (typeOf (.ref a)) cl := fun A Q E t c q => wpAny_typeOf_ref (c _ _ at3) (by rw [zc3.1]; exact q)
        have one := PySem.W.exm_one (M := model X.prog X.w) (J3.kIn) look hb
        have named : ∀ {Q E : Value → Shared → Prop}, Q k { t₁ with heap := g3 } → wpAny (model X.prog X.w) (X.A.mark (some (.ref a))) (eval (.Name y p1) X.env) Q E { t₁ with heap := g3 } := fun {Q E} q => by
          obtain ⟨gl, dbg, own | ⟨no, blt, nn⟩⟩ := hk
          · exact ld_glob (X := X.suite a ((a, ob3) :: (X.pn ++ pz))) S3 gl own q dbg
          · exact ld_blt (X := X.suite a ((a, ob3) :: (X.pn ++ pz))) S3 gl no blt q nn dbg
        refine named (one.here ?_)
        cases yes with
        | true =>
          refine codeAny_handlers_suite_as ?_
          refine HandSPX.lands_againZ f3 fun g4 f4 u4 => ?_
          have J4 : Inv X pz st1 G1 { t₁ with heap := g4 } := J1.landed nb f4.1 ((up.trans u3).trans u4) os ag
          obtain ⟨ob4, fs4, at4, zc4, da4⟩ := f4.there
          have S4 := J4.suite at4 da4 na aL aF
          refine store_ok (X := X.suite a ((a, ob4) :: (X.pn ++ pz))) (v := .ref a) S4 hN hi (.inl hm) rfl (fun t₅ S5 => ?_) (.inr hm)
          have gone : ∀ {st6 : L2.St} {G6 : Hp} {t₆ : Shared} {Q : Shared → Prop}, Inv (X.suite a ((a, ob4) :: (X.pn ++ pz))) [] st6 G6 t₆ → (∀ t₇, Inv X pz (st6.set i none) G6 t₇ → Q t₇) → wpAny (model X.prog X.w) X.A (do bindName X.env m .none; unbindBehindTheSuite X.env m p2) (fun _ t₇ => Q t₇) X.xe t₆ :=
            fun S6 q => gone_ok (S6.unsuite jok) hN hi hm q
          refine wpAny_mono ((hS a ob4 cl dd (X.pn ++ pz) zc4 ⟨_, da4⟩).run [] t₅ _ G1 _ S5 (on rfl a na)) (fun flow t₆ fin => ?_) (fun _ _ z => z.elim)
          cases flow with
          | next => obtain ⟨_, _, S6, q6⟩ := fin; exact gone S6 fun t₇ J7 => ⟨_, _, J7, q6⟩
          | brk => obtain ⟨_, _, S6, q6⟩ := fin; exact gone S6 fun t₇ J7 => ⟨_, _, J7, q6⟩
          | cont => obtain ⟨_, _, S6, q6⟩ := fin; exact gone S6 fun t₇ J7 => ⟨_, _, J7, q6⟩
          | ret u => obtain ⟨_, _, _, S6, r6, q6⟩ := fin; exact gone S6 fun t₇ J7 => ⟨_, _, _, J7, r6, q6⟩
        | false =>
          show wpAny _ X.A (handleBy (.ref a) X.env hs2) _ _ _
          exact ih (off rfl)
    exact through hC asked
  refine wpAny_Try_except (wpAny_mono body_ (fun flow t₁ fin => ?_) fun ev t₁ q => q)
  cases flow with
  | next => obtain ⟨_, _, J1, q⟩ := fin; exact wpAny_execs_nil ⟨_, _, J1.ofTry jok, q⟩
  | brk => obtain ⟨_, _, J1, q⟩ := fin; exact ⟨_, _, J1.ofTry jok, q⟩
  | cont => obtain ⟨_, _, J1, q⟩ := fin; exact ⟨_, _, J1.ofTry jok, q⟩
  | ret u => obtain ⟨_, _, _, J1, r, q⟩ := fin; exact ⟨_, _, _, J1.ofTry jok, r, q⟩
end
end AT

set_option Elab.async false
set_option linter.all false
set_option maxRecDepth 100000
set_option maxHeartbeats 4000000
/-! own words: del xs[i:] -/
namespace AT
open PySem PySem.Spec PyProof.Rows L2
def selOwn (start stop step : Int) (i : Nat) : Bool :=
  if step > 0 then start ≤ i && i < stop && (i - start) % step == 0
  else stop < i && i ≤ start && (start - i) % (-step) == 0
theorem sel_one (a n i : Nat) : selOwn (a : Int) (n : Int) 1 i = decide (a ≤ i ∧ i < n) := by
  have h1 : (1 : Int) > 0 := by decide
  unfold selOwn
  rw [if_pos h1, Int.emod_one, Bool.eq_iff_iff]
  simp
theorem keep_take {α : Type} (a : Nat) : ∀ (xs : List α) (k n : Nat), n = k + xs.length → ((xs.zipIdx k).filterMap fun p => if selOwn (a : Int) (n : Int) 1 p.2 then none else some p.1) = xs.take (a - k)
  | [], k, n, _ => by simp
  | x :: xs, k, n, hn => by
    have hn' : n = k + 1 + xs.length := by rw [hn, List.length_cons]; omega
    rw [List.zipIdx_cons, List.filterMap_cons]
    by_cases h : a ≤ k
    · have e : selOwn (a : Int) (n : Int) 1 k = true := by rw [sel_one]; exact decide_eq_true ⟨h, by rw [hn, List.length_cons]; omega⟩
      have ih := keep_take a xs (k + 1) n hn'
      have z1 : a - (k + 1) = 0 := by omega
      have z2 : a - k = 0 := by omega
      rw [z1, List.take_zero] at ih
      rw [z2, List.take_zero]
      simp only [e, if_true]
      exact ih
    · have e : selOwn (a : Int) (n : Int) 1 k = false := by rw [sel_one]; exact decide_eq_false fun z => h z.1
      have ih := keep_take a xs (k + 1) n hn'
      have z : a - k = (a - (k + 1)) + 1 := by omega
      rw [z, List.take_succ_cons]
      simp only [e]
      rw [← ih]
      rfl
section
variable {prog : Program} {w : World} {A : Around} {E : Value → Shared → Prop} {s : Shared}
theorem tail_bounds {a n : Nat} (h : a ≤ n) : sliceBounds (some (a : Int)) none none n = ((a : Int), (n : Int), 1) := by
  have h1 : ¬ ((a : Int) < 0) := by omega
  have h2 : (1 : Int) > 0 := by decide
  simp only [sliceBounds, Option.getD_none, h1, if_false, h2, if_true]
  congr 1
  omega
theorem del_tail {l sl : Addr} {items : Array Value} {n a : Nat} {vl : Value} {Q : Unit → Shared → Prop} (e : s.heap.get? l = some { cls := .type "list", data := .seq items n }) (hs : s.heap.IsSliceOf sl vl .none .none) (pl : IsPart vl (some (a : Int))) (ha : a ≤ items.size) (hz : items.size ≤ sizeLine)
    (h : ∀ f : Array Value → Array Value, f items = (items.toList.take a).toArray → Q () { s with heap := s.heap.update l (Obj.mapSeq f) }) : wpAny (model prog w) A (delItem (.ref l) (.ref sl)) Q E s := by
  have lst : s.heap.IsList l items := PySem.IsL.isList e
  obtain ⟨so, gs, cs, ds⟩ := id hs
  have isS : s.TypeIs (.ref sl) "slice" := ⟨so, gs, cs⟩
  have st0 : ¬ ((rawPart none == rawInt 0) = true) := Bool.false_ne_true
  unfold delItem
  try with_reducible refine wpAny_holding ?_
  first | refine wpAny_bind (wpAny_pure ?_) | skip
  refine wpAny_bind (wpAny_sequenceKey lst.typeIs (by decide) ?_)
  have entry := wpAny_call_entry (prog := prog) (w := w) (A := A) (E := E) F.slot_list_delitem lst.typeIs F.entry_list_delitem (Q := fun _ t => Q () t) ?k (F.args_list_delitem_2 (.ref l) (.ref sl))
  · refine wpAny_bind (wpAny_callSpecial?_slot (name := Str.ofString "__delitem__") lst.typeIs F.slot_list_delitem ?_)
    exact wpAny_mono entry (fun _ _ q => wpAny_pure q) fun _ _ q => q
  case k =>
    show wpAny _ _ (Builtin.List.listSubscript? (.ref sl) >>= _) _ _ s
    refine wpAny_bind ?_
    unfold Builtin.List.listSubscript?
    refine wpAny_bind (wpAny_specialOf isS slice_no_index ?_)
    simp only [Option.isNone_none, if_true]
    refine wpAny_pure ?_
    show wpAny _ _ (typeOf (.ref sl) >>= _) _ _ s
    refine wpAny_bind (wpAny_typeOf isS ?_)
    first | rw [if_neg (by decide)] | refine PySem.W.KFB.if_not (by decide) ?_
    rw [listSliceParts_eq]
    refine wpAny_bind (wpAny_bind (wpAny_field gs ds (x := .none) rfl (wpAny_bind (wpAny_listPart .none ?_))))
    rw [if_neg st0]
    refine wpAny_bind (wpAny_field gs ds (x := vl) rfl (wpAny_bind (wpAny_listPart pl ?_)))
    refine wpAny_bind (wpAny_field gs ds (x := .none) rfl (wpAny_bind (wpAny_listPart .none (wpAny_pure ?_))))
    unfold Builtin.List.listItems
    refine wpAny_bind (wpAny_bind (wpAny_seqItems e rfl (wpAny_pure ?_)))
    refine wpAny_bind (wpAny_of_eq ((sliceIndices_raw (some (a : Int)) none none items.size (by simp)).trans (congrArg (pure : Int × Int × Int → Sem (Int × Int × Int)) (tail_bounds ha))) ?_)
    refine wpAny_bind (wpAny_rule ?_)
    have ef : (fun xs : Array Value => (xs.toList.zipIdx.filterMap fun p => if selOwn (a : Int) (items.size : Int) 1 p.2 then none else some p.1).toArray) items = (items.toList.take a).toArray := by
      have := keep_take a items.toList 0 items.size (by simp)
      rw [Nat.sub_zero] at this
      exact congrArg List.toArray this
    show wpAny _ _ (updateSeq l (fun xs : Array Value => (xs.toList.zipIdx.filterMap fun p => if selOwn (a : Int) (items.size : Int) 1 p.2 then none else some p.1).toArray) >>= _) _ _ s
    have hz2 : ((fun xs : Array Value => (xs.toList.zipIdx.filterMap fun p => if selOwn (a : Int) (items.size : Int) 1 p.2 then none else some p.1).toArray) items).size ≤ sizeLine + 1 := by
      rw [ef, List.size_toArray, List.length_take]
      have := items.length_toList
      omega
    refine wpAny_bind (wpAny_updateSeq (hz := hz) (_hz' := hz2) e rfl ?_)
    refine wpAny_bind (wpAny_letGo ?_)
    first
      | exact wpAny_bind (wpAny_pure (wpAny_pure ⟨.none, rfl, h _ ef⟩))
      | exact wpAny_pure ⟨.none, rfl, h _ ef⟩
end
section
variable {X : Cx}
/-- del o[lo:] of a list -/
def tDelTl (to ti : TE) : TS := fun D σ H => to σ H fun x H1 => ti σ H1 fun y H2 => ∃ (l : Addr) (xs : List V) (a : Nat), x = .ref l ∧ y = .int (a : Int) ∧ H2 l = some (.lst xs) ∧ a ≤ xs.length ∧ D.nx σ (upd H2 l (.lst (xs.take a)))
theorem ps_delTl {o i : Expr} {to ti : TE} {pos tpos ip : Pos} (ho : PE X o to) (hi : PE X i ti) : PS X (.Delete [.Subscript o (.Slice (some i) none none ip) tpos] pos) (tDelTl to ti) := by
  refine ⟨fun pins s σ H D I h => ?_⟩
  refine wpAny_Delete (wpAny_deleteEach_cons (wpAny_delete_Subscript (thn (ho.run pins s σ H _ I h) fun u s1 ⟨x, H1, I1, rx, q1⟩ => ?_)))
  refine wpAny_Slice (thn (hi.run pins s1 σ H1 _ I1 q1) fun iv s2 ⟨y, H2, I2, ry, q2⟩ => ?_)
  rw [evalPart_none]
  refine wpAny_pure (wpAny_pure ?_)
  obtain ⟨l, xs, a, ex, ey, hH, ha, q2⟩ := q2
  subst ex
  subst ey
  cases (show u = Value.ref l from rx)
  obtain ⟨t, rfl⟩ := (show ∃ t, iv = Value.int (a : Int) t from ry)
  have I3 : Inv X pins σ H2 { s2 with heap := s2.heap.push { cls := .type "slice", data := .fields #[.int (a : Int) t, .none, .none] } } := I2.kept (t' := s2.toks) fun b u k => Heap.get?_push_of_some _ k
  obtain ⟨z, its, n, r, hl, e⟩ := I3.lstM hH
  refine del_tail (a := a) e (Heap.IsSliceOf.new ..) (.int _ t) (by rw [List.size_toArray, ← hl]; exact ha) (by rw [List.size_toArray]; omega) fun f hf => wpAny_deleteEach_nil ⟨σ, _, ?_, q2⟩
  refine I3.lset (its' := its.take a) (t' := s2.toks) hH e hf (r.take a) ?_
  rw [List.length_take]
  omega
theorem rd_delTl {to ti : TE} {D : Ends} {σ : L2.St} {H : Hp} (h : to σ H fun x H1 => ti σ H1 fun y H2 => ∃ (l : Addr) (xs : List V) (a : Nat), x = .ref l ∧ y = .int (a : Int) ∧ H2 l = some (.lst xs) ∧ a ≤ xs.length ∧ D.nx σ (upd H2 l (.lst (xs.take a)))) : tDelTl to ti D σ H := h
end
end AT

set_option Elab.async false
set_option linter.all false
set_option maxRecDepth 100000
set_option maxHeartbeats 4000000
/-! own words: setdefault, len, list of a dict whose keys are tuples of any kind -/
namespace AT
open PySem PySem.Spec PyProof.Rows L2
section
variable {P : Program} {w : World} {A : Around} {E : Value → Shared → Prop} {s : Shared} {d : Addr} {xs : KVV} {k : NestedKey} {key : Value}
theorem setDefV {dv : Value} {Q : Value → Shared → Prop} (hu : A.units + 8 < cLine) (hkey : KeyVl s.heap k key) (hm : DictV w s.heap d xs) (his : ∀ x ∈ xs, KeyVl s.heap x.1 x.2.1) (hsz : xs.length ≤ sizeLine)
    (h1 : ∀ v, (atV xs k).map (·.2) = some v → Q v { s with toks := s.toks + k.draws })
    (h2 : atV xs k = none → ∀ h', DictV w h' d (xs ++ [(k, key, dv)]) → Heap.SameBut d s.heap h' → Q dv { s with heap := h', toks := s.toks + k.draws }) : wpAny (model P w) A (dictSetDefault d key dv) Q E s := by
  obtain ⟨o, es, ep, ho, hc, hd, he, hn⟩ := hm
  have deep := hkey.d
  have many : es.size = xs.length := by rw [← Array.length_toList, he, List.length_map]
  unfold dictSetDefault
  try with_reducible refine wpAny_holding ?_
  refine wpAny_bind (pyHash_key k key A s _ hkey.is (by omega) (wpAny_bind (findV (s := { s with toks := s.toks + k.draws }) hu hkey ho hd he his hn ?_ ?_)))
  · intro out
    have none' := atV_none out
    refine wpAny_bind (wpAny_rule (wpAny_bind (wpAny_updateDictKeys (hz := by omega) (s := { s with toks := s.toks + k.draws }) ho hd (wpAny_pure (h2 none' _ ⟨_, _, ep + 1, Heap.get?_update_self _ ho (Obj.isFreed_of_dict (Obj.data_mapDictKeys hd _)),
      hc.mapDictKeys _, Obj.data_mapDictKeys hd _, ?_, ?_⟩ (Heap.SameBut.update ..))))))
    · simp [he, entV]
    · rw [List.map_append, List.nodup_append]
      refine ⟨hn, by simp, fun x hx y hy => ?_⟩
      have ey : y = k := by simpa using hy
      rw [ey]
      intro ex
      obtain ⟨q, hq, eq⟩ := List.mem_map.mp hx
      obtain ⟨j, hj⟩ := List.mem_iff_getElem?.mp hq
      exact out j q.2 (by rw [hj, ← ex, ← eq])
  · intro j p hj
    have there := atV_some hn hj
    refine wpAny_bind (wpAny_dictEntries (s := { s with toks := s.toks + k.draws }) ho hd ?_)
    rw [entV_at he j, hj]
    exact wpAny_bind (wpAny_rule (wpAny_pure (h1 p.2 (by rw [there]; rfl))))
theorem callSetDefV {dv : Value} {Q : Value → Shared → Prop} (hu : A.units + 9 < cLine) (hkey : KeyVl s.heap k key) (lo : (d == sysModules) = false) (hm : DictV w s.heap d xs) (his : ∀ x ∈ xs, KeyVl s.heap x.1 x.2.1) (hsz : xs.length ≤ sizeLine)
    (h1 : ∀ v, (atV xs k).map (·.2) = some v → Q v { s with toks := s.toks + k.draws })
    (h2 : atV xs k = none → ∀ h', DictV w h' d (xs ++ [(k, key, dv)]) → Heap.SameBut d s.heap h' → Q dv { s with heap := h', toks := s.toks + k.draws }) : wpAny (model P w) A (call (.builtin "dict.setdefault") [.ref d, key, dv]) Q E s := by
  have hu1 : A.in1.units + 8 < cLine := by show A.units + 1 + 8 < cLine; omega
  refine wpAny_call_entry PySem.F.slot_dict_setdefault hm.typeIs PySem.F.entry_dict_setdefault ?_ (PySem.F.args_dict_setdefault_3 _ _ _)
  unfold Builtin.«dict.setdefault»
  refine wpAny_bind ?_
  unfold Builtin.Dict.keyAndDefault
  refine wpAny_bind (wpAny_notOrdered_dict hm.typeIs ?_)
  show wpAny _ _ (pure (d, key, some dv)) _ _ s
  refine wpAny_pure ?_
  show wpAny _ _ (if (d == sysModules) = true then _ else (dictSetDefault d key dv >>= _)) _ _ s
  rw [if_neg (by rw [lo]; exact Bool.false_ne_true)]
  exact wpAny_bind (setDefV hu1 hkey hm his hsz (fun v hv => wpAny_pure ⟨v, rfl, h1 v hv⟩) fun hn h' dd hs => wpAny_pure ⟨dv, rfl, h2 hn h' dd hs⟩)
theorem paired_at {α β : Type} {F : α → β → Prop} {l₁ : List α} {l₂ : List β} (h : Paired F l₁ l₂) {i : Nat} {a : α} {b : β} (ha : l₁[i]? = some a) (hb : l₂[i]? = some b) : F a b := by
  induction h generalizing i with
  | nil => simp at ha
  | cons f _ ih =>
    cases i with
    | zero =>
      simp at ha hb
      rw [← ha, ← hb]
      exact f
    | succ i => exact ih (i := i) (by simpa using ha) (by simpa using hb)
/-- a dict of so many entries, whatever its keys -/
def RawD (h : Heap) (d : Addr) (es : Array DictEntry) (ep : Nat) : Prop := ∃ o, h.get? d = some o ∧ o.ExactDict ∧ o.data = .dict es ep
theorem RawD.type {es : Array DictEntry} {ep : Nat} (h : RawD s.heap d es ep) : s.TypeIs (.ref d) "dict" := let ⟨o, e, c, _⟩ := h; ⟨o, e, c.1⟩
theorem raw_len_meets (d : Addr) (lo : (d == sysModules) = false) :
    MeetsIn P w (Builtin.«dict.__len__» ⟨[.ref d], []⟩) (fun _ R t => ∃ es ep, RawD t.heap d es ep ∧ R (.ok (.ret (.int es.size t.toks))) { t with toks := t.toks + 1 }) :=
  .of_wp fun A R t ⟨es, ep, ⟨o, ho, hc, hd⟩, q⟩ => by
    show wpAny _ _ (dictSize d >>= _) _ _ t
    unfold dictSize
    refine wpAny_bind (wpAny_bind (wpAny_dictEntries ho hd (wpAny_pure ?_)))
    show wpAny _ _ (Builtin.Dict.pendingCount d >>= _) _ _ t
    refine wpAny_bind (wpAny_pendingCount_other lo ?_)
    refine wpAny_ret_mkInt ?_
    rw [Nat.add_zero]
    exact q
theorem call_raw_len {es : Array DictEntry} {ep : Nat} {Q : Value → Shared → Prop} (lo : (d == sysModules) = false) (hm : RawD s.heap d es ep) (fit : (es.size : Int) < 2 ^ 63)
    (h : Q (.int es.size (s.toks + 1)) { s with toks := s.toks + 1 + 1 }) : wpAny (model P w) A (call (.builtin "len") [.ref d]) Q E s := by
  refine Calls.call_function_entry kind_len plain_len entry_len (args_len1 _) ?_
  unfold Builtin.«len»
  refine wpAny_bind (m := oneArg "len" _) (wpAny_pure ?_)
  have meets := raw_len_meets (P := P) (w := w) d lo
  refine wpAny_bind (m := callSpecial? (.ref d) (Str.ofString "__len__")) (wpAny_callSpecial?_slot (name := Str.ofString "__len__") hm.type F.slot_dict_len
    (call_meetsIn F.slot_dict_len hm.type F.entry_dict_len (F.args_dict_len_1 _) meets ⟨es, ep, hm, ?_⟩))
  show wpAny _ _ _ _ _ { s with toks := s.toks + 1 }
  refine wpAny_bind (wpAny_holding (wpAny_pure ?_))
  refine wpAny_bind (wpAny_letGo ?_)
  have n0 : ¬ ((es.size : Nat) : Int) < 0 := by omega
  have n1 : ¬ ((es.size : Nat) : Int) ≥ 2 ^ 63 := by omega
  show wpAny _ _ (if ((es.size : Nat) : Int) < 0 then _ else _) _ _ _
  rw [if_neg n0]
  show wpAny _ _ (if ((es.size : Nat) : Int) ≥ 2 ^ 63 then _ else _) _ _ _
  rw [if_neg n1]
  exact wpAny_bind (wpAny_mkInt (wpAny_pure ⟨_, rfl, h⟩))
theorem raw_src {es : Array DictEntry} {ep : Nat} (lo : (d == sysModules) = false) : PySem.W.KdlSrc P w "dict" d d es.size (fun i v => ∃ en, es[i]? = some en ∧ v = en.key) (fun h => RawD h d es ep) where
  type := fun _ hm => hm.type
  there := fun _ hm => let ⟨_, e, _⟩ := hm; ⟨Heap.lt_size e, Heap.lt_size e⟩
  keep := fun _ _ hm hk => let ⟨o, e, x⟩ := hm; ⟨o, hk d (.inl rfl) o e, x⟩
  notList := by decide
  notTuple := by decide
  hint := fun _ _ _ _ hm hq => PySem.W.kdl_hint_dict hm.type hq
  iter := fun B t hh hm => by
    obtain ⟨o, ho, hc, hd⟩ := id hm
    have ne : d ≠ t.heap.objs.size := Nat.ne_of_lt (Heap.lt_size ho)
    refine ⟨_, fun i h => h.IsKeyIter t.heap.objs.size d i es.size ep ∧ RawD h d es ep, fun E Q q => iter_keys lo ho hc hd q, ?_, ⟨_, Heap.get?_push_size _ rfl, rfl, rfl⟩, ⟨o, Heap.get?_push_of_some _ ho, hc, hd⟩⟩
    exact {
      sub := fun b hb => by simp at hb; simp [hb]
      frame := fun i h h' st k => ⟨st.1.at fun u e => k t.heap.objs.size (by simp) u e, let ⟨u, e, x⟩ := st.2; ⟨u, k d (by simp) u e, x⟩⟩
      item := fun i t' Q E hi st q => by
        obtain ⟨it, u, e, c, x⟩ := st
        have hx : es[i]? = some es[i] := Array.getElem?_eq_getElem hi
        refine next_key_item it e x rfl hx fun h' it' sb => ?_
        refine q _ h' t'.toks ⟨_, hx, rfl⟩ ⟨it', u, (sb.2 d ne).trans e, c, x⟩ fun b ob hb eb => (sb.2 b fun z => hb (by simp [z])).trans eb
      done := fun t' Q E st q => by
        obtain ⟨it, u, e, c, x⟩ := st
        exact next_key_end hh it e x rfl (Nat.le_refl _) fun h' eb => q h' t'.toks fun b ob hb z => eb b ob (fun y => hb (by simp [y])) z
      self := fun i t' Q E st q => wpAny_pyIter_keyiter st.1 q }
end
section
variable {X : Cx} (w : World) (hw : X.w = w := by rfl)
include hw
/-- len(d) -/
def rLenN (w : World) : List V → Hp → VK → Prop := fun xs H Q => ∃ (p : Addr) (kvs : KA), xs = [.ref p] ∧ H p = some (dN w p kvs) ∧ KsN H kvs ∧ Q (.int ((kvs.length : Nat) : Int)) H
theorem dictV_raw {h : Heap} {d : Addr} {xs : KVV} (hm : DictV w h d xs) : ∃ es ep, RawD h d es ep ∧ es.size = xs.length ∧ es.toList = xs.map (entV w) := by
  obtain ⟨o, es, ep, ho, hc, hd, he, _⟩ := hm
  exact ⟨es, ep, ⟨o, ho, hc, hd⟩, by rw [← Array.length_toList, he, List.length_map], he⟩
theorem call_len_dN : CallR X (.builtin "len") (rLenN w) := by
  subst hw
  intro pins s σ H xs us Q I r h
  obtain ⟨p, kvs, rfl, hp, ks, q⟩ := h
  obtain ⟨u, rfl, rx⟩ := vals1 r
  obtain rfl : u = .ref p := rx
  obtain ⟨z, lo, ys, rel, dd, _⟩ := dN_of I.hok hp ks
  have hl : kvs.length = ys.length := Paired.length rel
  obtain ⟨es, ep, rd, sz, _⟩ := dictV_raw X.w rfl dd
  refine call_raw_len lo rd (by rw [sz, ← hl]; rw [sizeLine_eq] at z; omega) ?_
  rw [sz, ← hl]
  exact ⟨.int _, H, (I.tok _), ⟨_, rfl⟩, q⟩
/-- list(d): its keys -/
def rListN (w : World) : List V → Hp → VK → Prop := fun xs H Q => ∃ p kvs, xs = [.ref p] ∧ H p = some (dN w p kvs) ∧ KsN H kvs ∧ ∀ q, H q = none → Q (.ref q) (upd H q (.lst (kvs.map fun kv => kv.2.1)))
theorem call_list_dN (hc : X.calm = true) : CallR X (.type "list") (rListN w) := by
  subst hw
  intro pins s σ H xs us Q I r h
  obtain ⟨p, kvs, e, hk, ks, q⟩ := h
  subst e
  obtain ⟨u, eu, rx⟩ := vals1 r
  subst eu
  obtain rfl : u = Value.ref p := rx
  obtain ⟨z, lo, ys, rel, dd, _⟩ := dN_of I.hok hk ks
  have hl : kvs.length = ys.length := Paired.length rel
  obtain ⟨es, ep, rd, sz, he⟩ := dictV_raw X.w rfl dd
  refine PySem.W.kdl_call (raw_src (P := X.prog) (w := X.w) (ep := ep) lo) (I.ok.hd hc) rd (by rw [sz, ← hl]; exact z) fun h' tk acc c' keep hS items => ?_
  refine ⟨.ref s.heap.objs.size, upd H s.heap.objs.size (.lst (kvs.map fun kv => kv.2.1)), I.laid keep (Nat.le_refl _) (show ObjOk X.prog X.w _ _ _ (.lst (kvs.map fun kv => kv.2.1)) from ⟨?_, acc.toList, c', ?_, ?_⟩), rfl, q _ (I.hok.fresh (Nat.le_refl _))⟩
  · rw [List.length_map]; exact z
  · have el : acc.toList.length = acc.size := by simp
    refine vals_of_at (by rw [List.length_map, el, items.1, sz, hl]) fun j x v h1 h2 => ?_
    obtain ⟨en, hen, rfl⟩ := items.2 j v (by rw [← Array.getElem?_toList]; exact h2)
    rw [List.getElem?_map] at h1
    cases h3 : kvs[j]? with
    | none => rw [h3] at h1; cases h1
    | some kv =>
      rw [h3] at h1
      cases h1
      obtain ⟨y, hy, hyr⟩ : ∃ y, ys[j]? = some y ∧ RelV kv.2.1 y.2.1 := by
        have hj : j < ys.length := by rw [← hl]; exact (List.getElem?_eq_some_iff.mp h3).1
        refine ⟨ys[j], List.getElem?_eq_getElem hj, ?_⟩
        exact (paired_at rel h3 (List.getElem?_eq_getElem hj)).2.1
      have : es[j]? = some (entV X.w y) := by rw [← Array.getElem?_toList, he, List.getElem?_map, hy]; rfl
      rw [hen] at this
      cases this
      exact hyr
  · rw [Array.toArray_toList]; exact hS
end
/-- d.setdefault(y, z) -/
def tDSetdX (w : World) (td ty tx : TE) : TE := fun σ H Q => td σ H fun x H1 => (∃ a kvs, x = .ref a ∧ H1 a = some (dN w a kvs) ∧ KsN H1 kvs) ∧ ty σ H1 fun y H2 => tx σ H2 fun z H3 => ∃ (a : Addr) (kvs : KA) (k : NestedKey), x = .ref a ∧ AtN w H3 a kvs y k ∧ kvs.length < sizeLine ∧
  (∀ v, valN kvs k = some v → Q v H3) ∧ (valN kvs k = none → Q z (upd H3 a (dN w a (kvs ++ [(k, y, z)]))))
section
variable {X : Cx} {o e f : Expr} {td ty tx : TE} {apos cpos : Pos} (w : World) (hw : X.w = w := by rfl)
include hw
theorem pe_dsetdX (hu : X.A.units + 40 < cLine) (ho : PE X o td) (he : PE X e ty) (hf : PE X f tx) (m : M2 X o "setdefault" apos e f cpos) : PE X (.Call (.Attribute o "setdefault" apos) [e, f] [] cpos) (tDSetdX w td ty tx) := by
  subst hw
  refine ⟨fun pins s σ H Q I h => ?_⟩
  refine wpAny_Call_method m.base m.few m.line PySem.F.plainAttrs_dict PySem.F.slot_dict_setdefault PySem.F.type_dict_setdefault (thn (ho.run pins s σ H _ I h) fun u s1 ⟨x, H1, I1, rx, ⟨a, kvs0, ex, ea0, ks0⟩, q1⟩ => ?_)
  subst ex
  obtain rfl : u = Value.ref a := rx
  obtain ⟨_, _, _, _, dd, _⟩ := dN_of I1.hok ea0 ks0
  refine ⟨dd.typeIs, ?_, ?_⟩
  · obtain ⟨ob, _, _, h1, h2, _⟩ := dd
    intro a1 ea1
    cases ea1
    exact ⟨ob, h1, h2.2.1⟩
  rw [m.trees]
  refine Calls.callWith_builtin rfl (Calls.evalArgs_plain (Calls.spliced_cons (thn (he.run pins s1 σ H1 _ I1 q1) fun iv s2 ⟨y, H2, I2, ry, q2⟩ =>
    Calls.spliced_cons (thn (hf.run pins s2 σ H2 _ I2 q2) fun fv s3 ⟨z, H3, I3, rz, a', kvs, k, ex2, ⟨ea, ks, kb⟩, hl, q3, q4⟩ => Calls.spliced_nil ?_))))
  cases ex2
  obtain ⟨z', lo, xs, rel, dd, his⟩ := dN_of I3.hok ea ks
  have hz : xs.length ≤ sizeLine := by rw [← Paired.length rel]; exact z'
  refine callSetDefV (by omega) (kb.is I3.hok ry) lo dd his hz (fun v hv => ?_) fun hn h' dd' hs => ?_
  · have q := rel.val k
    rw [hv] at q
    cases q0 : valN kvs k with
    | none => rw [q0] at q; exact (show False from q).elim
    | some v0 =>
      rw [q0] at q
      exact ⟨v0, H3, I3.tok _, q, q3 v0 q0⟩
  · have q := (rel.val k).isSome_eq
    rw [hn] at q
    have q0 : valN kvs k = none := by
      cases e0 : valN kvs k with
      | none => rfl
      | some v => rw [e0] at q; cases q
    have hl2 : (kvs ++ [(k, y, z)]).length ≤ sizeLine := by rw [List.length_append, List.length_singleton]; omega
    have he : ∃ q, h'.get? a = some q := let ⟨q, _, _, hq, _⟩ := dd'; ⟨q, hq⟩
    exact ⟨z, _, d_write I3 (by rw [ea]; exact True.intro) hs he (dN_ok hl2 lo (Paired.snoc rel ⟨rfl, ry, rz⟩) dd'), rz, q4 q0⟩
end
theorem rd_dsetdX {w : World} {td ty tx : TE} {σ : L2.St} {H : Hp} {Q : VK} (h : td σ H fun x H1 => (∃ a kvs, x = .ref a ∧ H1 a = some (dN w a kvs) ∧ KsN H1 kvs) ∧ ty σ H1 fun y H2 => tx σ H2 fun z H3 => ∃ (a : Addr) (kvs : KA) (k : NestedKey), x = .ref a ∧ AtN w H3 a kvs y k ∧ kvs.length < sizeLine ∧
  (∀ v, valN kvs k = some v → Q v H3) ∧ (valN kvs k = none → Q z (upd H3 a (dN w a (kvs ++ [(k, y, z)]))))) : tDSetdX w td ty tx σ H Q := h
end AT

set_option Elab.async false
set_option linter.all false
set_option maxRecDepth 100000
set_option maxHeartbeats 4000000
/-! own words: a dict of the module: d.get(key, other), d[key] -/
namespace AT
open PySem PySem.Spec PyProof.Rows L2
def tKGet2 (K : PySem.W.Frag) (w : World) (td ty tx : TE) : TE := fun σ H Q => td σ H fun x H1 => ∃ (d : Addr), x = .ref d ∧ (∃ es n, K.lookup d = some ⟨.type "dict", none, .dict es n, #[]⟩ ∧ PySem.W.KeysLit w.params es.toList) ∧ ty σ H1 fun y H2 => tx σ H2 fun z H3 => ∃ (s : Str), y = .str s ∧ (d == sysModules) = false ∧
  ((∃ v, KDct K w d s v ∧ Q v H3) ∨ (KMiss K w d s ∧ Q z H3))
section
variable {X : Cx} {o e f : Expr} {td ty tx : TE} {apos cpos : Pos} (K : PySem.W.Frag) (w : World) (hK : X.K = K := by rfl) (hw : X.w = w := by rfl)
include hK hw
theorem pe_kget2 (ho : PE X o td) (he : PE X e ty) (hf : PE X f tx) (m : M2 X o "get" apos e f cpos) : PE X (.Call (.Attribute o "get" apos) [e, f] [] cpos) (tKGet2 K w td ty tx) := by
  subst hK hw
  refine ⟨fun pins s σ H Q I h => ?_⟩
  refine wpAny_Call_method m.base m.few m.line PySem.F.plainAttrs_dict PySem.F.slot_dict_get PySem.F.type_dict_get (thn (ho.run pins s σ H _ I h) fun u s1 ⟨x, H1, I1, rx, d, ex, ⟨es, n, hl, hk⟩, q1⟩ => ?_)
  subst ex
  obtain rfl : u = Value.ref d := rx
  have mp := PySem.W.mapOf_K (prog := X.prog) (w := X.w) I1.kIn hl hk
  refine ⟨mp.typeIs, ?_, ?_⟩
  · obtain ⟨ob, _, _, h1, h2, _⟩ := mp
    intro a1 ea1
    cases ea1
    exact ⟨ob, h1, h2.2.1⟩
  rw [m.trees]
  refine Calls.callWith_builtin rfl (Calls.evalArgs_plain (Calls.spliced_cons (thn (he.run pins s1 σ H1 _ I1 q1) fun iv s2 ⟨y, H2, I2, ry, q2⟩ =>
    Calls.spliced_cons (thn (hf.run pins s2 σ H2 _ I2 q2) fun fv s3 ⟨z, H3, I3, rz, t, ey, lo, q3⟩ => Calls.spliced_nil ?_))))
  subst ey
  obtain ⟨tk, rfl⟩ := (show ∃ tk, iv = Value.str t tk from ry)
  have mp3 := PySem.W.mapOf_K (prog := X.prog) (w := X.w) I3.kIn hl hk
  have meets := meets_dict_get_default (strKind X.prog X.w) d (strKind_is X.prog X.w t tk) lo fv
  refine call_meetsIn PySem.F.slot_dict_get mp3.typeIs PySem.F.entry_dict_get (PySem.F.args_dict_get_3 _ _ _) meets ⟨_, mp3, ?_⟩
  rcases q3 with ⟨v, ⟨_, _, u0, _, _, e, ru⟩, q⟩ | ⟨⟨_, _, _, _, _, e⟩, q⟩
  · have fe := PySem.W.find_K hl e
    rw [fe]
    exact ⟨v, H3, I3.tok _, ru, q⟩
  · have fe := PySem.W.find_K hl e
    rw [fe]
    exact ⟨z, H3, I3.tok _, rz, q⟩
theorem kIxD : IxR X (rIxD K w) := by
  subst hK hw
  exact ix_kdict
end
theorem rd_kget2 {K : PySem.W.Frag} {w : World} {td ty tx : TE} {σ : L2.St} {H : Hp} {Q : VK} (h : td σ H fun x H1 => ∃ (d : Addr), x = .ref d ∧ (∃ es n, K.lookup d = some ⟨.type "dict", none, .dict es n, #[]⟩ ∧ PySem.W.KeysLit w.params es.toList) ∧ ty σ H1 fun y H2 => tx σ H2 fun z H3 => ∃ (s : Str), y = .str s ∧ (d == sysModules) = false ∧
  ((∃ v, KDct K w d s v ∧ Q v H3) ∨ (KMiss K w d s ∧ Q z H3))) : tKGet2 K w td ty tx σ H Q := h
end AT
namespace AT
open PySem L2
theorem kRevA (K : PySem.W.Frag) {X : Cx} (hK : X.K = K := by rfl) {tg e : Expr} {p pos : Pos} {te : TE} (hg : Gl X "reversed") (hm : X.mg "reversed" = none) (he : PE X e te) (hs : PySem.starEach [e] X.env = (false, PySem.eval e X.env) :: PySem.starEach [] X.env := by rfl) : PI X tg (.Call (.Name "reversed" p) [e] [] pos) (RT.iRevA K te) := by
  subst hK
  exact RT.pi_revA hg hm he hs
end AT

set_option Elab.async false
set_option linter.all false
set_option maxRecDepth 100000
set_option maxHeartbeats 4000000
/-! own words: xs.extend(a tuple) -/
namespace AT
open PySem PySem.Spec PyProof.Rows L2
section

theorem meets_ext_tup (l : Addr) (items : Array Value) (n : Nat) (b : Addr) (items2 : Array Value) (hs0 : ¬(!items.isEmpty && Builtin.List.listTooLong (items.size + items2.size)) = true) (hs1 : items.size ≤ sizeLine) (hs2 : items.size + items2.size ≤ sizeLine + 1) :
    Meets (Builtin.«list.extend» ⟨[.ref l, .ref b], []⟩) (fun _ R s => s.heap.get? l = some { cls := .type "list", dict := none, data := .seq items n, slots := #[] } ∧ IsTup s.heap b items2 ∧ R (.ok (.ret Value.none)) { s with heap := s.heap.update l (Obj.mapSeq fun x => x ++ items2), toks := s.toks }) :=
  .of_wp fun prog w A R s h => by
    obtain ⟨hp, g, d, tk, os⟩ := s
    obtain ⟨hl, ⟨⟨oc, od, oz, os2⟩, hb, hc, n2, hd⟩, h⟩ := h
    cases hc
    cases hd
    have f1 := AutoSeq1.idx_int
    have f2 := AutoSeq1.sub_tuple_tuple
    have f3 := AutoSeq1.sub_list_list
    have f4 := AutoSeq1.sub_tuple_list
    have f5 := AutoSeq1.sub_list_tuple
    have hz' : (items ++ items2).size ≤ sizeLine + 1 := by rw [Array.size_append]; exact hs2
    wp_walk using (wpAny_updateSeq hl rfl (hz := hs1) (_hz' := hz')), wpAny_loadPart' hl, wpAny_loadPart' hb
    exact ⟨_, rfl, h⟩
end
def rExtendT (K : PySem.W.Frag) : V → List V → Hp → VK → Prop := fun x vs H Q => ∃ l b xs zs, x = .ref l ∧ vs = [.ref b] ∧ H l = some (.lst xs) ∧ SqT K H b zs ∧ xs.length + zs.length ≤ sizeLine ∧ Q .non (upd H l (.lst (xs ++ zs)))
section
variable {X : Cx}
theorem mt_extendT (K : PySem.W.Frag) (hK : X.K = K := by rfl) : MtM X "list.extend" (rExtendT K) := by
  subst hK
  intro pins s σ H x vs v us Q I rx rv h
  obtain ⟨l, b, xs, zs, rfl, rfl, hH, hB, hz, q⟩ := h
  cases rx
  obtain ⟨u, rfl, ru⟩ := rv.one
  cases ru
  obtain ⟨z, its, n, r, hl, e⟩ := I.lstM hH
  obtain ⟨its2, r2, p2, _⟩ := I.tuple hB
  have hl2 := r2.length
  have hsz : its.toArray.size + its2.toArray.size ≤ sizeLine := by rw [List.size_toArray, List.size_toArray]; omega
  have hlong : ¬ (!its.toArray.isEmpty && Builtin.List.listTooLong (its.toArray.size + its2.toArray.size)) = true := by
    rw [notLongL hsz, Bool.and_false]
    exact Bool.false_ne_true
  refine call_meets PySem.F.slot_list_extend ⟨_, e, rfl⟩ PySem.F.entry_list_extend (PySem.F.args_list_extend_2 _ _)
    (meets_ext_tup l its.toArray n b its2.toArray hlong (by rw [List.size_toArray]; omega) (by omega)) ⟨e, p2, ?_⟩
  refine ⟨.non, _, I.lset (its' := its ++ its2) hH e (by simp) (r.append r2) ?_, rfl, q⟩
  rw [List.length_append]
  omega
end
end AT

set_option Elab.async false
set_option linter.all false
set_option maxRecDepth 100000
set_option maxHeartbeats 4000000
/-! own words: range(n) as a value, walked later -/
namespace AT
open PySem PySem.Spec PyProof.Rows L2
section
variable {X : Cx} {tg : Expr}
def rRng1 : List V → Hp → VK → Prop := fun vs H Q => ∃ j : Int, vs = [.int j] ∧ ∀ p, H p = none → Q (.ref p) (upd H p (.rng 0 j))
theorem cr_range1 : CallR X (.type "range") rRng1 := by
  intro pins s σ H vs us Q I r h
  obtain ⟨j, rfl, q⟩ := h
  obtain ⟨u1, rfl, rj⟩ := vals1 r
  obtain ⟨u, rfl⟩ := rj
  refine call_range_1 ⟨.ref s.heap.objs.size, upd H s.heap.objs.size (.rng 0 j), I.laid (t' := s.toks + 1 + 1) (fun b o e => Heap.get?_push_of_some _ e) (Nat.le_refl _) ?_, rfl, q _ (I.hok.fresh (Nat.le_refl _))⟩
  exact ⟨s.toks, u, s.toks + 1, Heap.get?_push_size _ rfl⟩
def iRngV (te : TE) : TI := fun σ H R => te σ H fun x H1 => ∃ (p : Addr) (lo hi : Int), x = .ref p ∧ H1 p = some (.rng lo hi) ∧ -(2 ^ 62) ≤ lo ∧ lo < 2 ^ 62 ∧ -(2 ^ 62) ≤ hi ∧ hi < 2 ^ 62 ∧ R (Itr lo (hi - lo).toNat) H1
theorem pi_rngV {e : Expr} {te : TE} (he : PE X e te) : PI X tg e (iRngV te) := by
  refine ⟨fun pins s σ H R I h => ?_⟩
  refine thn (he.run pins s σ H _ I h) fun v s1 ⟨x, H1, I1, r1, q1⟩ => ?_
  obtain ⟨p, lo, hi, e, hp, h1, h2, h3, h4, q⟩ := q1
  subst e
  cases r1
  obtain ⟨t, u, v, hr⟩ := I1.hok p _ hp
  refine wpAny_pyIter_range (a := lo) (b := hi) (c := 1) (t := t) (u := u) (v := v) hr (small_one h1 h2 h3 h4) ?_
  refine ⟨s1.heap.objs.size, [s1.heap.objs.size], _, _, H1, rfl, I1.kept (t' := s1.toks) fun b o e => Heap.get?_push_of_some _ e, turn_range _ lo (hi - lo).toNat, ?_, fun b hb => ?_, q⟩
  · have e1 : lo + ((0 : Nat) : Int) * 1 = lo := by simp
    have e2 : (((hi - lo).toNat : Nat) : Int) - ((0 : Nat) : Int) = Builtin.Range.rangeSize lo hi 1 := by rw [rangeSize_one]; split <;> omega
    show IsRangeIter _ _ (lo + ((0 : Nat) : Int) * 1) ((((hi - lo).toNat : Nat) : Int) - ((0 : Nat) : Int)) 1
    rw [e1, e2]
    exact Heap.get?_push_size _ rfl
  · have e : b = s1.heap.objs.size := by simpa using hb
    subst e
    exact I1.fpOk (Nat.le_refl _) (I1.hok.fresh (Nat.le_refl _))
theorem rd_rng1v {j : Int} {H : Hp} {Q : VK} (h : ∀ p, H p = none → Q (.ref p) (upd H p (.rng 0 j))) : rRng1 [.int j] H Q := ⟨j, rfl, h⟩
theorem rd_rngV {te : TE} {σ : L2.St} {H : Hp} {R : It → Hp → Prop} (h : te σ H fun x H1 => ∃ (p : Addr) (lo hi : Int), x = .ref p ∧ H1 p = some (.rng lo hi) ∧ -(2 ^ 62) ≤ lo ∧ lo < 2 ^ 62 ∧ -(2 ^ 62) ≤ hi ∧ hi < 2 ^ 62 ∧ R (Itr lo (hi - lo).toNat) H1) : iRngV te σ H R := h
theorem ip_bitor : PIp X .BitOr (ipI fun i j => Builtin.bitOr i j) := fun pins s σ H x y u v Q I rx ry ⟨i, j, e1, e2, q⟩ => iop_or pins s σ H x y u v Q I rx ry ⟨i, j, e1, e2, q⟩
end
end AT

set_option Elab.async false
set_option linter.all false
set_option maxRecDepth 100000
set_option maxHeartbeats 4000000
/-! own words: list(a text) -/
namespace AT
open PySem PySem.Spec PyProof.Rows L2
def rListS : List V → Hp → VK → Prop := fun xs H Q => ∃ z : Str, xs = [.str z] ∧ z.length ≤ sizeLine ∧ ∀ l, H l = none → Q (.ref l) (upd H l (.lst ((z.cps.toList.map fun c => (⟨#[c]⟩ : Str)).map V.str)))
theorem call_list_S {X : Cx} (hc : X.calm = true) : CallR X (.type "list") rListS := by
  intro pins s σ H xs us Q I r h
  obtain ⟨z, rfl, hz, q⟩ := h
  obtain ⟨u, rfl, rx⟩ := vals1 r
  obtain ⟨t, rfl⟩ := rx
  refine PySem.call_list_str (I.ok.hd hc) z t (fun h' tk acc c' kp hS hacc => ?_) hz
  have hsz : acc.size = z.cps.size := hacc.1
  refine ⟨.ref s.heap.objs.size, upd H s.heap.objs.size (.lst ((z.cps.toList.map fun c => (⟨#[c]⟩ : Str)).map V.str)), I.laid kp (Nat.le_refl _) (show ObjOk X.prog X.w _ _ _ (.lst ((z.cps.toList.map fun c => (⟨#[c]⟩ : Str)).map V.str)) from ⟨?_, acc.toList, c', ?_, ?_⟩), rfl, q _ (I.hok.fresh (Nat.le_refl _))⟩
  · rw [List.length_map, List.length_map]; exact hz
  · refine vals_of_at (by rw [List.length_map, List.length_map, Array.length_toList, Array.length_toList]; exact hsz.symm) fun j x v h1 h2 => ?_
    obtain ⟨c, t', hc', rfl⟩ := hacc.2 j v (by rw [← Array.getElem?_toList]; exact h2)
    rw [List.getElem?_map, List.getElem?_map, Array.getElem?_toList, hc'] at h1
    cases h1
    exact ⟨t', rfl⟩
  · rw [Array.toArray_toList]; exact hS
end AT

set_option Elab.async false
set_option linter.all false
set_option maxRecDepth 100000
set_option maxHeartbeats 4000000
local macro_rules | `(tactic| walk_at "rd1") => `(tactic| with_reducible first
  | refine AT.rd_seq ?_ | refine AT.rd_is ?_ | refine AT.rd_asg ?_ | refine AT.rd_name ?_ | refine AT.rd_var (by with_unfolding_all rfl) ?_ | refine AT.rd_c ?_ | refine AT.rd_op ?_ | refine AT.rd_ret ?_ | refine AT.rd_retN ?_ | refine AT.rd_if ?_ | refine AT.rd_ife ?_ | refine AT.rd_next ?_ | refine AT.rd_drop ?_
  | refine AT.rd_test ?_ | refine AT.rd_tB ?_ | refine AT.rd_bl ?_ | refine AT.rd_not ?_ | refine AT.rd_and ?_ | refine AT.rd_or ?_ | refine AT.rd_nil ?_ | refine AT.rd_cons ?_ | refine AT.rd_lst ?_ | refine AT.rd_tup ?_ | refine AT.rd_cb ?_ | refine AT.rd_chain ?_
  | refine AT.rd_called ?_ | refine AT.rd_calledR ?_ | refine AT.rd_raised ?_ | refine AT.rd_iteT ?_ | refine AT.rd_iteF ?_ | refine AT.rd_iteNF ?_ | refine AT.rd_iteNT ?_ | refine AT.rd_addI ?_ | refine AT.rd_subI ?_ | refine AT.rd_lt ?_ | refine AT.rd_le ?_ | refine AT.rd_gt ?_ | refine AT.rd_ge ?_ | refine AT.rd_eqI ?_ | refine AT.rd_neI ?_ | refine AT.rd_eqS ?_ | refine AT.rd_neS ?_
  | refine AT.rd_int ?_ | refine AT.rd_abs ?_ | refine AT.rd_inS ?_ | refine AT.rd_niS ?_ | refine AT.rd_rng1 ?_ | refine AT.rd_rng2 ?_ | refine AT.rd_bm ?_ | refine AT.rd_fld ?_ | refine AT.rd_sfld ?_ | refine AT.rd_makeR ?_ | refine AT.rd_methR ?_ | refine AT.rd_meth ?_ | refine AT.rd_notV ?_ | refine AT.rd_xf ?_ | refine AT.rd_andV ?_ | refine AT.rd_orV ?_ | refine AT.rd_sl ?_ | refine AT.rd_noPart ?_ | refine AT.rd_part ?_ | refine AT.rd_intv ?_ | refine AT.rd_raised1 ?_ | refine AT.rd_gsub ?_ | refine AT.rd_gN ?_ | refine AT.rd_par3 ?_ | refine AT.rd_dget ?_ | refine AT.rd_din ?_ | refine AT.rd_dnin ?_ | refine AT.rd_dput ?_ | refine AT.rd_disp1T ?_ | refine AT.rd_dnK ?_ | refine AT.rd_dnT ?_ | refine AT.rd_v3 ?_ | refine AT.rd_gE ?_ | refine AT.rd_for ?_ | refine AT.rd_lc ?_ | refine AT.rd_lenL (by assumption) ?_ | refine AT.rd_dsetd ?_ | refine AT.rd_dgetX ?_ | refine AT.rd_dninX ?_ | refine AT.rd_dputX ?_ | refine AT.rd_dsetdB ?_ | refine AT.rd_dgetB ?_ | refine AT.rd_dnB ?_ | refine AT.rd_lenT (by assumption) ?_)
local macro_rules | `(tactic| walk_at "rd") => `(tactic| (repeat walk_at "rd1"))
local macro_rules | `(tactic| walk_at "rc1") => `(tactic| with_reducible first
  | refine AT.rd_seqA ?_ | refine AT.rd_is ?_ | refine AT.rd_seqD ?_ | refine AT.rd_asg ?_ | refine AT.rd_name ?_ | refine AT.rd_var (by with_unfolding_all rfl) ?_ | refine AT.rd_c ?_ | refine AT.rd_op ?_ | refine AT.rd_ret ?_ | refine AT.rd_retN ?_ | refine AT.rd_if ?_ | refine AT.rd_next ?_ | refine AT.rd_drop ?_
  | refine AT.rd_test ?_ | refine AT.rd_tB ?_ | refine AT.rd_bl ?_ | refine AT.rd_not ?_ | refine AT.rd_and ?_ | refine AT.rd_or ?_ | refine AT.rd_nil ?_ | refine AT.rd_cons ?_ | refine AT.rd_lst ?_ | refine AT.rd_tup ?_ | refine AT.rd_cb ?_ | refine AT.rd_chain ?_
  | refine AT.rd_called ?_ | refine AT.rd_calledR ?_ | refine AT.rd_raised ?_ | refine AT.rd_iteT ?_ | refine AT.rd_iteF ?_ | refine AT.rd_iteNF ?_ | refine AT.rd_iteNT ?_ | refine AT.rd_addI ?_ | refine AT.rd_subI ?_ | refine AT.rd_lt ?_ | refine AT.rd_le ?_ | refine AT.rd_gt ?_ | refine AT.rd_ge ?_ | refine AT.rd_eqI ?_ | refine AT.rd_neI ?_ | refine AT.rd_eqS ?_ | refine AT.rd_neS ?_
  | refine AT.rd_int ?_ | refine AT.rd_abs ?_ | refine AT.rd_inS ?_ | refine AT.rd_niS ?_ | refine AT.rd_rng1 ?_ | refine AT.rd_rng2 ?_ | refine AT.rd_bm ?_ | refine AT.rd_fld ?_ | refine AT.rd_sfld ?_ | refine AT.rd_makeR ?_ | refine AT.rd_methR ?_ | refine AT.rd_meth ?_ | refine AT.rd_notV ?_ | refine AT.rd_xf ?_ | refine AT.rd_sl ?_ | refine AT.rd_noPart ?_ | refine AT.rd_part ?_ | refine AT.rd_intv ?_ | refine AT.rd_raised1 ?_ | refine AT.rd_gsub ?_ | refine AT.rd_gN ?_ | refine AT.rd_par3 ?_ | refine AT.rd_dget ?_ | refine AT.rd_din ?_ | refine AT.rd_dnin ?_ | refine AT.rd_dput ?_ | refine AT.rd_disp1T ?_ | refine AT.rd_dnK ?_ | refine AT.rd_dnT ?_ | refine AT.rd_v3 ?_ | refine AT.rd_gE ?_ | refine AT.rd_for ?_ | refine AT.rd_lc ?_ | refine AT.rd_lenL (by assumption) ?_ | refine AT.rd_dsetd ?_ | refine AT.rd_dgetX ?_ | refine AT.rd_dninX ?_ | refine AT.rd_dputX ?_ | refine AT.rd_dsetdB ?_ | refine AT.rd_dgetB ?_ | refine AT.rd_dnB ?_ | refine AT.rd_lenT (by assumption) ?_)
local macro_rules | `(tactic| walk_at "rc") => `(tactic| ((repeat walk_at "rc1"); (try with_reducible refine AT.rd_idS ?_)))
local macro_rules | `(tactic| walk_at "rs") => `(tactic| with_reducible refine AT.rd_seq ?_)

namespace AT
open PySem L2
def top (i : Nat) : Stmt := PySem.Challenge.pw_anytext_k06_meaning_of_patterns.main.body.getD i (.Pass ⟨0, 0, 0, 0⟩)
abbrev s_parts_of : Stmt := top 2
theorem sc_parts_of : FnScope ["term"] ["term"] (defScope s_parts_of) := ⟨rfl, rfl, rfl, by decide +kernel, rfl, by decide +kernel, by decide +kernel⟩
abbrev s_flat_terms : Stmt := top 3
theorem sc_flat_terms : FnScope ["pattern", "numbers", "done", "waiting", "term", "has_parts", "parts", "part", "first", "flat"] ["pattern"] (defScope s_flat_terms) := ⟨rfl, rfl, rfl, by decide +kernel, rfl, by decide +kernel, by decide +kernel⟩
abbrev s_belongs : Stmt := top 5
theorem sc_belongs : FnScope ["pattern", "text", "known", "term"] ["pattern", "text"] (defScope s_belongs) := ⟨rfl, rfl, rfl, by decide +kernel, rfl, by decide +kernel, by decide +kernel⟩
abbrev s__ends_of : Stmt := top 6
theorem sc__ends_of : FnScope ["term", "known", "text", "behind_all", "starts", "kind", "_", "start", "first", "second"] ["term", "known", "text"] (defScope s__ends_of) := ⟨rfl, rfl, rfl, by decide +kernel, rfl, by decide +kernel, by decide +kernel⟩
abbrev s__letter_ends : Stmt := top 7
theorem sc__letter_ends : FnScope ["kept", "text", "place", "letter"] ["kept", "text"] (defScope s__letter_ends) := ⟨rfl, rfl, rfl, by decide +kernel, rfl, by decide +kernel, by decide +kernel⟩
abbrev s__star_ends : Stmt := top 8
theorem sc__star_ends : FnScope ["part", "ends", "start", "here"] ["part"] (defScope s__star_ends) := ⟨rfl, rfl, rfl, by decide +kernel, rfl, by decide +kernel, by decide +kernel⟩
abbrev s__ends_behind : Stmt := top 9
theorem sc__ends_behind : FnScope ["places", "ends", "found", "place"] ["places", "ends"] (defScope s__ends_behind) := ⟨rfl, rfl, rfl, by decide +kernel, rfl, by decide +kernel, by decide +kernel⟩
abbrev s_cell : Stmt := top 11
theorem sc_cell : FnScope ["script", "k"] ["script", "k"] (defScope s_cell) := ⟨rfl, rfl, rfl, by decide +kernel, rfl, by decide +kernel, by decide +kernel⟩
abbrev s_numbers : Stmt := top 12
theorem sc_numbers : FnScope ["cell", "many", "rest", "whole", "numbers", "k", "mixed"] ["cell", "many"] (defScope s_numbers) := ⟨rfl, rfl, rfl, by decide +kernel, rfl, by decide +kernel, by decide +kernel⟩
abbrev s_state : Stmt := top 13
theorem sc_state : FnScope ["script", "start", "many", "numbers", "k", "cell"] ["script", "start", "many"] (defScope s_state) := ⟨rfl, rfl, rfl, by decide +kernel, rfl, by decide +kernel, by decide +kernel⟩
abbrev s_next : Stmt := top 14
theorem sc_next : FnScope ["state", "many", "numbers", "place"] ["state", "many"] (defScope s_next) := ⟨rfl, rfl, rfl, by decide +kernel, rfl, by decide +kernel, by decide +kernel⟩
abbrev s_letters : Stmt := top 15
theorem sc_letters : FnScope ["state", "most", "pool", "letters", "k", "letter"] ["state", "most"] (defScope s_letters) := ⟨rfl, rfl, rfl, by decide +kernel, rfl, by decide +kernel, by decide +kernel⟩
abbrev s_texts : Stmt := top 16
theorem sc_texts : FnScope ["letters", "most", "last", "rows", "k", "longer", "text", "letter"] ["letters", "most"] (defScope s_texts) := ⟨rfl, rfl, rfl, by decide +kernel, rfl, by decide +kernel, by decide +kernel⟩
abbrev s_pattern : Stmt := top 17
theorem sc_pattern : FnScope ["letters", "state", "deep", "kind", "pick", "bits", "kept", "k", "first", "word"] ["letters", "state", "deep"] (defScope s_pattern) := ⟨rfl, rfl, rfl, by decide +kernel, rfl, by decide +kernel, by decide +kernel⟩
abbrev s_marked : Stmt := top 18
theorem sc_marked : FnScope ["rows", "found", "text"] ["rows"] (defScope s_marked) := ⟨rfl, rfl, rfl, by decide +kernel, rfl, by decide +kernel, by decide +kernel⟩
abbrev s_joinings : Stmt := top 19
theorem sc_joinings : FnScope ["first", "second", "most", "found", "a", "b"] ["first", "second", "most"] (defScope s_joinings) := ⟨rfl, rfl, rfl, by decide +kernel, rfl, by decide +kernel, by decide +kernel⟩
abbrev s_repeated : Stmt := top 20
theorem sc_repeated : FnScope ["first", "most", "found", "last", "longer", "text"] ["first", "most"] (defScope s_repeated) := ⟨rfl, rfl, rfl, by decide +kernel, rfl, by decide +kernel, by decide +kernel⟩
abbrev s_meaning : Stmt := top 21
theorem sc_meaning : FnScope ["letters", "pattern", "most", "word", "first", "text", "second"] ["letters", "pattern", "most"] (defScope s_meaning) := ⟨rfl, rfl, rfl, by decide +kernel, rfl, by decide +kernel, by decide +kernel⟩
abbrev s_long : Stmt := top 22
theorem sc_long : FnScope ["letters", "state", "one", "step", "more", "row", "k", "tail", "pattern", "length", "due"] ["letters", "state"] (defScope s_long) := ⟨rfl, rfl, rfl, by decide +kernel, rfl, by decide +kernel, by decide +kernel⟩
abbrev s_lengths : Stmt := top 23
theorem sc_lengths : FnScope ["letter", "pattern", "most", "word", "k", "first", "each", "found", "j", "second"] ["letter", "pattern", "most"] (defScope s_lengths) := ⟨rfl, rfl, rfl, by decide +kernel, rfl, by decide +kernel, by decide +kernel⟩
abbrev s_law : Stmt := top 24
theorem sc_law : FnScope ["script", "state", "letters", "most", "k", "pattern", "due", "text", "letter"] ["script"] (defScope s_law) := ⟨rfl, rfl, rfl, by decide +kernel, rfl, by decide +kernel, by decide +kernel⟩
structure Txt (K : PySem.W.Frag) (mg : Str → Option Value) where
  a_parts_of : Addr
  d_parts_of : FuncData
  f_parts_of : Fun K "parts_of" "parts_of" s_parts_of a_parts_of d_parts_of
  o_parts_of : Own K mg "parts_of" a_parts_of d_parts_of ["term"]
  a_flat_terms : Addr
  d_flat_terms : FuncData
  f_flat_terms : Fun K "flat_terms" "flat_terms" s_flat_terms a_flat_terms d_flat_terms
  o_flat_terms : Own K mg "flat_terms" a_flat_terms d_flat_terms ["pattern"]
  a_belongs : Addr
  d_belongs : FuncData
  f_belongs : Fun K "belongs" "belongs" s_belongs a_belongs d_belongs
  o_belongs : Own K mg "belongs" a_belongs d_belongs ["pattern", "text"]
  a__ends_of : Addr
  d__ends_of : FuncData
  f__ends_of : Fun K "_ends_of" "_ends_of" s__ends_of a__ends_of d__ends_of
  o__ends_of : Own K mg "_ends_of" a__ends_of d__ends_of ["term", "known", "text"]
  a__letter_ends : Addr
  d__letter_ends : FuncData
  f__letter_ends : Fun K "_letter_ends" "_letter_ends" s__letter_ends a__letter_ends d__letter_ends
  o__letter_ends : Own K mg "_letter_ends" a__letter_ends d__letter_ends ["kept", "text"]
  a__star_ends : Addr
  d__star_ends : FuncData
  f__star_ends : Fun K "_star_ends" "_star_ends" s__star_ends a__star_ends d__star_ends
  o__star_ends : Own K mg "_star_ends" a__star_ends d__star_ends ["part"]
  a__ends_behind : Addr
  d__ends_behind : FuncData
  f__ends_behind : Fun K "_ends_behind" "_ends_behind" s__ends_behind a__ends_behind d__ends_behind
  o__ends_behind : Own K mg "_ends_behind" a__ends_behind d__ends_behind ["places", "ends"]
  a_cell : Addr
  d_cell : FuncData
  f_cell : Fun K "_law_cell" "_law_cell" s_cell a_cell d_cell
  o_cell : Own K mg "_law_cell" a_cell d_cell ["script", "k"]
  a_numbers : Addr
  d_numbers : FuncData
  f_numbers : Fun K "_law_numbers" "_law_numbers" s_numbers a_numbers d_numbers
  o_numbers : Own K mg "_law_numbers" a_numbers d_numbers ["cell", "many"]
  a_state : Addr
  d_state : FuncData
  f_state : Fun K "_law_state" "_law_state" s_state a_state d_state
  o_state : Own K mg "_law_state" a_state d_state ["script", "start", "many"]
  a_next : Addr
  d_next : FuncData
  f_next : Fun K "_law_next" "_law_next" s_next a_next d_next
  o_next : Own K mg "_law_next" a_next d_next ["state", "many"]
  a_letters : Addr
  d_letters : FuncData
  f_letters : Fun K "_law_letters" "_law_letters" s_letters a_letters d_letters
  o_letters : Own K mg "_law_letters" a_letters d_letters ["state", "most"]
  a_texts : Addr
  d_texts : FuncData
  f_texts : Fun K "_law_texts" "_law_texts" s_texts a_texts d_texts
  o_texts : Own K mg "_law_texts" a_texts d_texts ["letters", "most"]
  a_pattern : Addr
  d_pattern : FuncData
  f_pattern : Fun K "_law_pattern" "_law_pattern" s_pattern a_pattern d_pattern
  o_pattern : Own K mg "_law_pattern" a_pattern d_pattern ["letters", "state", "deep"]
  a_marked : Addr
  d_marked : FuncData
  f_marked : Fun K "_law_marked" "_law_marked" s_marked a_marked d_marked
  o_marked : Own K mg "_law_marked" a_marked d_marked ["rows"]
  a_joinings : Addr
  d_joinings : FuncData
  f_joinings : Fun K "_law_joinings" "_law_joinings" s_joinings a_joinings d_joinings
  o_joinings : Own K mg "_law_joinings" a_joinings d_joinings ["first", "second", "most"]
  a_repeated : Addr
  d_repeated : FuncData
  f_repeated : Fun K "_law_repeated" "_law_repeated" s_repeated a_repeated d_repeated
  o_repeated : Own K mg "_law_repeated" a_repeated d_repeated ["first", "most"]
  a_meaning : Addr
  d_meaning : FuncData
  f_meaning : Fun K "_law_meaning" "_law_meaning" s_meaning a_meaning d_meaning
  o_meaning : Own K mg "_law_meaning" a_meaning d_meaning ["letters", "pattern", "most"]
  a_long : Addr
  d_long : FuncData
  f_long : Fun K "_law_long" "_law_long" s_long a_long d_long
  o_long : Own K mg "_law_long" a_long d_long ["letters", "state"]
  a_lengths : Addr
  d_lengths : FuncData
  f_lengths : Fun K "_law_lengths" "_law_lengths" s_lengths a_lengths d_lengths
  o_lengths : Own K mg "_law_lengths" a_lengths d_lengths ["letter", "pattern", "most"]
  a_law : Addr
  d_law : FuncData
  f_law : Fun K "law" "law" s_law a_law d_law
  o_law : Own K mg "law" a_law d_law ["script"]
  nb_abs : mg "abs" = none
  nb_enumerate : mg "enumerate" = none
  nb_int : mg "int" = none
  nb_len : mg "len" = none
  nb_list : mg "list" = none
  nb_range : mg "range" = none
  nb_repr : mg "repr" = none
  nb_reversed : mg "reversed" = none
  nb_tuple : mg "tuple" = none
  a_LEAVES : Addr
  c_LEAVES : mg "LEAVES" = some (.ref a_LEAVES)
  v_LEAVES : ∀ H, Dp K H (.ref a_LEAVES) (.tuple [.str "none", .str "empty", .str "one"])
section
variable {P : Program} {w : World} {K : PySem.W.Frag} {mg : Str → Option Value} {base : Heap}
/-! ### the helpers that all laws have: cells of the script, numbers, a state, the next drawn number -/
def spCell (K : PySem.W.Frag) : Sp := fun vs H Q _ => ∃ (l : Addr) (ns : List Int) (k : Int), vs = [.ref l, .int k] ∧ SqL K H l (ns.map V.int) ∧ 0 ≤ k ∧ ∀ z, Q (.int z) H
theorem ok_cell (T : Txt K mg) : FnOk P w K mg base CX0 1 T.a_cell T.d_cell ["script", "k"] (spCell K) := by
  refine T.f_cell.ok sc_cell (fun vs H Q E h => ?_) (fun cdv A outer s H vs Q E hr h => ?_)
  · obtain ⟨_, _, _, rfl, _⟩ := h; rfl
  · obtain ⟨l, ns, k, rfl, hs, h0, q⟩ := h
    refine ⟨_, (pss_cons (ps_if (pt_cmpR op_ltP (pv 1) (pe_callB (kLen K) (by rfl) T.nb_len (by decide +kernel) (pa_cons (pv 0) pa_nil)) (by first | rfl | exact nomark _))
    (pss_one (ps_ret (pe_ix (kIx K) (pv 0) (pv 1) (fun _ _ => rfl))))
    pss_nil)
  (pss_one (ps_ret pe_int))), ?_⟩
    walk_at "rd"
    refine rd_iteD (fun h1 => ?_) (fun h1 => ?_)
    · walk_at "rd"
      rw [List.length_map] at h1
      refine rd_ixL (v := .int (ns.getD k.toNat 0)) hs ?_ (q _)
      have e : k = (k.toNat : Int) := (Int.toNat_of_nonneg h0).symm
      rw [e]
      refine atI_nat ?_
      rw [List.getElem?_map, Int.toNat_natCast, List.getD_eq_getElem?_getD, List.getElem?_eq_getElem (show k.toNat < ns.length by omega)]
      rfl
    · walk_at "rd"
      exact q 0
/-- numbers from 0 to 999 -/
def Small (ns : List Int) : Prop := ∀ x ∈ ns, 0 ≤ x ∧ x < 1000
theorem Small.more {ns : List Int} {x : Int} (h : Small ns) (h0 : 0 ≤ x) (h1 : x < 1000) : Small (ns ++ [x]) := fun y hy => by
  rcases List.mem_append.mp hy with hy | hy
  · exact h y hy
  · rw [List.mem_singleton.mp hy]; exact ⟨h0, h1⟩
theorem Small.app {ns ms : List Int} (h : Small ns) (k : Small ms) : Small (ns ++ ms) := fun y hy => (List.mem_append.mp hy).elim (h y) (k y)
theorem fmod_small {a m : Int} (h : 0 < m) : 0 ≤ a.fmod m ∧ a.fmod m < m := by
  rw [Int.fmod_eq_emod_of_nonneg _ (Int.le_of_lt h)]
  exact ⟨Int.emod_nonneg _ (by omega), Int.emod_lt_of_pos _ h⟩
/-- a new list of small numbers -/
def spNumbers : Sp := fun vs H Q _ => ∃ (c m : Int), vs = [.int c, .int m] ∧ 0 ≤ m ∧ m ≤ 1000 ∧ ∀ (p : Addr) (ns : List Int) (H' : Hp), H p = none → Ex H H' → H' p = some (.lst (ns.map V.int)) → (ns.length : Int) = m → Small ns → Q (.ref p) H'
theorem append_int {H' : Hp} {p : Addr} {ns : List Int} {D : VK} {K : PySem.W.Frag} {i : Nat} {x : Int} (hp : H' p = some (.lst (ns.map V.int))) (hi : ns.length = i) (hl : i < 100000) (q : D .non (upd H' p (.lst ((ns ++ [x]).map V.int)))) :
    rAppend (.ref p) [.int x] H' D := ⟨p, ns.map V.int, .int x, rfl, rfl, hp, Nat.lt_of_lt_of_le (by rw [List.length_map, hi]; exact hl) (by decide), by rw [List.map_append] at q; exact q⟩
theorem ok_numbers (T : Txt K mg) : FnOk P w K mg base CX0 1 T.a_numbers T.d_numbers ["cell", "many"] spNumbers := by
  refine T.f_numbers.ok sc_numbers (fun vs H Q E h => ?_) (fun cdv A outer s H vs Q E hr h => ?_)
  · obtain ⟨_, _, rfl, _⟩ := h; rfl
  · obtain ⟨c, m, rfl, h0, h1, q⟩ := h
    refine ⟨_, (pss_cons (ps_set (i := 2) sc_numbers.nd rfl (by first | exact Or.inl rfl | exact Or.inr rfl) (pe_callB call_absP (by rfl) T.nb_abs (by decide +kernel) (pa_cons (pv 0) pa_nil)))
  (pss_cons (ps_set (i := 3) sc_numbers.nd rfl (by first | exact Or.inl rfl | exact Or.inr rfl) (pv 2))
  (pss_cons (ps_set (i := 4) sc_numbers.nd rfl (by first | exact Or.inl rfl | exact Or.inr rfl) (pe_lst pa_nil))
  (pss_cons (ps_for PassesOwn.never rfl (pi_range1 (by rfl) T.nb_range (pa_cons (pv 1) pa_nil)) (pg_name (i := 5) sc_numbers.nd rfl (by first | exact Or.inl rfl | exact Or.inr rfl))
    (pss_one (ps_if (PW.pt (pw_and (pt_cmpR op_geP (pv 3) (pe_op op_powP pe_int pe_int) (by first | rfl | exact nomark _)) (pw_and1 (pt_cmpR op_gtP (pv 2) pe_int (by first | rfl | exact nomark _)))))
    (pss_cons (ps_expr (kBm K rfl (pe_bm PySem.F.plainAttrs_list PySem.F.slot_list_append PySem.F.type_list_append mt_append (pv 4) (pa_cons (pe_op op_modP (pe_callTy call_intP (by rfl) T.nb_int (by decide +kernel) (pa_cons (pv 2) pa_nil)) pe_int) pa_nil))))
  (pss_one (ps_set (i := 2) sc_numbers.nd rfl (by first | exact Or.inl rfl | exact Or.inr rfl) (pe_op op_divP (pv 2) pe_int))))
    (pss_cons (ps_set (i := 6) sc_numbers.nd rfl (by first | exact Or.inl rfl | exact Or.inr rfl) (pe_op op_modP (pe_callTy call_intP (by rfl) T.nb_int (by decide +kernel) (pa_cons (pe_op (kAdd K) (pe_op (kAdd K) (pe_op op_mulPP (pv 3) pe_int) (pe_op op_mulPP (pv 5) pe_int)) pe_int) pa_nil)) pe_int))
  (pss_cons (ps_set (i := 6) sc_numbers.nd rfl (by first | exact Or.inl rfl | exact Or.inr rfl) (pe_op op_modP (pe_callTy call_intP (by rfl) T.nb_int (by decide +kernel) (pa_cons (pe_op (kAdd K) (pe_op (kAdd K) (pe_op op_mulPP (pv 6) (pv 6)) (pe_op op_mulPP pe_int (pv 5))) pe_int) pa_nil)) pe_int))
  (pss_one (ps_expr (kBm K rfl (pe_bm PySem.F.plainAttrs_list PySem.F.slot_list_append PySem.F.type_list_append mt_append (pv 4) (pa_cons (pe_op op_modP (pe_callTy call_intP (by rfl) T.nb_int (by decide +kernel) (pa_cons (pe_op op_divP (pv 6) pe_int) pa_nil)) pe_int) pa_nil))))))))))
  (pss_one (ps_ret (pv 4))))))), ?_⟩
    walk_at "rd"
    refine ⟨by decide, fun p hp => ?_⟩
    walk_at "rd"
    refine ⟨_, rfl, by omega, by omega, fo_range (n := m.toNat) (fun i σ H' => ∃ (r : Int) (ns : List Int) (kk mm : Option V), σ = [some (.int c), some (.int m), some (.int r), some (.int (if c < 0 then -c else c)), some (.ref p), kk, mm] ∧ Ex H H' ∧ H' p = some (.lst (ns.map V.int)) ∧ ns.length = i ∧ Small ns)
      ⟨_, [], none, none, rfl, Evl.Ex.new hp, upd_same, rfl, fun x hx => by cases hx⟩ ?_ ?_⟩
    · rintro i σ H' hi ⟨r, ns, kk, mm, rfl, e, hl, hn, sm⟩
      have tl : tyV K "list" (.ref p) H' := .inl ⟨rfl, _, SqL.of hl⟩
      walk_at "rd"
      refine rd_powI ⟨by decide, by decide, by decide⟩ ?_
      walk_at "rd"
      refine rd_ite (fun h2 => ?_) (fun h2 => ?_)
      · walk_at "rd"
        refine rd_ite (fun h3 => ?_) (fun h3 => ?_)
        · walk_at "rd"
          refine ⟨tl, ?_⟩
          walk_at "rd"
          refine rd_modI (by decide) ?_
          walk_at "rd"
          refine append_int (K := K) hl hn (by omega) ?_
          walk_at "rd"
          refine rd_divI ⟨by decide, by decide⟩ ?_
          walk_at "rd"
          have fm := fmod_small (a := r) (m := 1000) (by decide)
          exact ⟨_, ns ++ [_], _, _, rfl, Evl.Ex.mut e hp, upd_same, by rw [List.length_append, hn]; rfl, sm.more fm.1 fm.2⟩
        · walk_at "rd"
          refine rd_mulN (.inr ⟨by decide, by decide⟩) ?_
          walk_at "rd"
          refine rd_mulN (.inr ⟨by decide, by decide⟩) ?_
          walk_at "rd"
          refine rd_modI (by decide) ?_
          walk_at "rd"
          have fa := fmod_small (a := (if c < 0 then -c else c) * 48271 + (i : Int) * 69621 + 11) (m := 2147483647) (by decide)
          refine rd_mulN (.inl ⟨by omega, by omega⟩) ?_
          walk_at "rd"
          refine rd_mulN (.inl ⟨by decide, by decide⟩) ?_
          walk_at "rd"
          refine rd_modI (by decide) ?_
          walk_at "rd"
          refine ⟨tl, ?_⟩
          walk_at "rd"
          refine rd_divI ⟨by decide, by decide⟩ ?_
          walk_at "rd"
          refine rd_modI (by decide) ?_
          walk_at "rd"
          refine append_int (K := K) hl hn (by omega) ?_
          have fm := fun a : Int => fmod_small (a := a) (m := 1000) (by decide)
          exact ⟨_, ns ++ [_], _, _, rfl, Evl.Ex.mut e hp, upd_same, by rw [List.length_append, hn]; rfl, sm.more (fm _).1 (fm _).2⟩
      · walk_at "rd"
        refine rd_mulN (.inr ⟨by decide, by decide⟩) ?_
        walk_at "rd"
        refine rd_mulN (.inr ⟨by decide, by decide⟩) ?_
        walk_at "rd"
        refine rd_modI (by decide) ?_
        walk_at "rd"
        have fa := fmod_small (a := (if c < 0 then -c else c) * 48271 + (i : Int) * 69621 + 11) (m := 2147483647) (by decide)
        refine rd_mulN (.inl ⟨by omega, by omega⟩) ?_
        walk_at "rd"
        refine rd_mulN (.inl ⟨by decide, by decide⟩) ?_
        walk_at "rd"
        refine rd_modI (by decide) ?_
        walk_at "rd"
        refine ⟨tl, ?_⟩
        walk_at "rd"
        refine rd_divI ⟨by decide, by decide⟩ ?_
        walk_at "rd"
        refine rd_modI (by decide) ?_
        walk_at "rd"
        refine append_int (K := K) hl hn (by omega) ?_
        have fm := fun a : Int => fmod_small (a := a) (m := 1000) (by decide)
        exact ⟨_, ns ++ [_], _, _, rfl, Evl.Ex.mut e hp, upd_same, by rw [List.length_append, hn]; rfl, sm.more (fm _).1 (fm _).2⟩
    · rintro σ H' ⟨r, ns, kk, mm, rfl, e, hl, hn, sm⟩
      walk_at "rd"
      exact q p ns H' hp e hl (by omega) sm
/-- a state: the numbers, the place -/
def StAt (H : Hp) (p : Addr) : Prop := ∃ (l : Addr) (ns : List Int) (place : Int), H p = some (.lst [.ref l, .int place]) ∧ H l = some (.lst (ns.map V.int)) ∧ Small ns ∧ 0 < ns.length ∧ ns.length ≤ 100000 ∧ 0 ≤ place
theorem StAt.ex {H H' : Hp} {p : Addr} (h : StAt H p) (e : Ex H H') : StAt H' p := by
  obtain ⟨l, ns, pl, h1, h2, h3⟩ := h
  exact ⟨l, ns, pl, e _ _ h1, e _ _ h2, h3⟩
def spState (K : PySem.W.Frag) : Sp := fun vs H Q _ => ∃ (l : Addr) (ns : List Int) (st many : Int), vs = [.ref l, .int st, .int many] ∧ SqL K H l (ns.map V.int) ∧ 0 ≤ st ∧ st ≤ 1000 ∧ 0 < many ∧ many ≤ 1000 ∧
  ∀ (p : Addr) (H' : Hp), H p = none → Ex H H' → StAt H' p → Q (.ref p) H'
theorem ok_state (T : Txt K mg) : FnOk P w K mg base CX0 2 T.a_state T.d_state ["script", "start", "many"] (spState K) := by
  refine T.f_state.ok sc_state (fun vs H Q E h => ?_) (fun cdv A outer s H vs Q E hr h => ?_)
  · obtain ⟨_, _, _, _, rfl, _⟩ := h; rfl
  · obtain ⟨l, ns, st, many, rfl, hs, h0, h1, h2, h3, q⟩ := h
    refine ⟨_, (pss_cons (ps_set (i := 3) sc_state.nd rfl (by first | exact Or.inl rfl | exact Or.inr rfl) (pe_lst pa_nil))
  (pss_cons (ps_for PassesOwn.never rfl (pi_range2 (by rfl) T.nb_range (pa_cons (pv 1) (pa_cons (pe_op (kAdd K) (pv 1) (pv 2)) pa_nil))) (pg_name (i := 4) sc_state.nd rfl (by first | exact Or.inl rfl | exact Or.inr rfl))
    (pss_cons (ps_set (i := 5) sc_state.nd rfl (by first | exact Or.inl rfl | exact Or.inr rfl) (pe_callE (ok_cell T) (hr.mono (by decide)) T.o_cell (pa_cons (pv 0) (pa_cons (pv 4) pa_nil))))
  (pss_cons (ps_if (pt_cmpR op_ltP (pe_callB call_absP (by rfl) T.nb_abs (by decide +kernel) (pa_cons (pv 5) pa_nil)) (pe_op op_powP pe_int pe_int) (by first | rfl | exact nomark _))
    (pss_one (ps_set (i := 5) sc_state.nd rfl (by first | exact Or.inl rfl | exact Or.inr rfl) (pe_op (kAdd K) (pe_op op_mulPP (pv 5) pe_int) (pv 4))))
    pss_nil)
  (pss_one (ps_set (i := 3) sc_state.nd rfl (by first | exact Or.inl rfl | exact Or.inr rfl) (pe_op (kAdd K) (pv 3) (pe_callE (ok_numbers T) (hr.mono (by decide)) T.o_numbers (pa_cons (pv 5) (pa_cons pe_int pa_nil)))))))))
  (pss_one (ps_ret (pe_lst (pa_cons (pv 3) (pa_cons pe_int pa_nil))))))), ?_⟩
    walk_at "rd"
    refine ⟨by decide, fun p hp => ?_⟩
    walk_at "rd"
    refine ⟨_, _, rfl, ⟨by omega, by omega, by omega, by omega⟩, fo_range2 (lo := st) (n := (st + many - st).toNat) (fun i σ H' => ∃ (p2 : Addr) (ms : List Int) (kk cc : Option V), σ = [some (.ref l), some (.int st), some (.int many), some (.ref p2), kk, cc] ∧ Ex H H' ∧ H p2 = none ∧ H' p2 = some (.lst (ms.map V.int)) ∧ ms.length = i * 20 ∧ Small ms)
      ⟨p, [], none, none, rfl, Evl.Ex.new hp, hp, upd_same, rfl, fun x hx => by cases hx⟩ ?_ ?_⟩
    · rintro i σ H' hi ⟨p2, ms, kk, cc, rfl, e, hp2, hl, hn, sm⟩
      walk_at "rd"
      refine ⟨l, ns, _, rfl, Evl.ex_l e hs, by omega, fun z => ?_⟩
      walk_at "rd"
      refine rd_powI ⟨by decide, by decide, by decide⟩ ?_
      walk_at "rd"
      have hi2 : i < 1000 := by omega
      have fin : ∀ (z2 : Int) (cc : Option V), cc = some (.int z2) → tAsg (tOp (oAdd K) (tVar 3) (tCalled spNumbers (tCons (tVar 5) (tCons (tC (.int 20)) tNil)))) (gName 3)
          { nx := fun σ H' => ∃ (p2 : Addr) (ms : List Int) (kk cc : Option V), σ = [some (.ref l), some (.int st), some (.int many), some (.ref p2), kk, cc] ∧ Ex H H' ∧ H p2 = none ∧ H' p2 = some (.lst (ms.map V.int)) ∧ ms.length = (i + 1) * 20 ∧ Small ms, rt := Q } [some (.ref l), some (.int st), some (.int many), some (.ref p2), some (.int (st + (i : Int))), cc] H' := by
        rintro z2 cc rfl
        walk_at "rd"
        refine ⟨z2, 20, rfl, by decide, by decide, fun p3 ns3 H3 hp3 e3 hl3 hn3 sm3 => ?_⟩
        refine rd_cat (e3 _ _ hl) hl3 ?_ fun p4 hp4 => ?_
        · rw [List.length_map, List.length_map, hn]
          refine Nat.le_trans (show i * 20 + ns3.length ≤ 100000 by omega) (by decide)
        · walk_at "rd"
          refine ⟨p4, ms ++ ns3, _, _, rfl, ex_upd (e.trans e3) hp4, Evl.fresh_back (e.trans e3) hp4, ?_, ?_, sm.app sm3⟩
          · rw [upd_same, List.map_append]
          · rw [List.length_append, hn]; omega
      refine rd_ite (fun h4 => ?_) (fun h4 => ?_)
      · walk_at "rd"
        refine rd_mulN (.inr ⟨by decide, by decide⟩) ?_
        walk_at "rd1"
        walk_at "rd1"
        walk_at "rd1"
        walk_at "rd1"
        exact fin _ _ rfl
      · exact fin _ _ rfl
    · rintro σ H' ⟨p2, ms, kk, cc, rfl, e, hp2, hl, hn, sm⟩
      walk_at "rd"
      refine ⟨by show 2 ≤ sizeLine; decide, fun p3 hp3 => ?_⟩
      refine q p3 _ (Evl.fresh_back e hp3) (ex_upd e hp3) ⟨p2, ms, 0, upd_same, ?_, sm, by omega, by omega, by decide⟩
      rw [upd_ne (ne_of_none hl hp3)]
      exact hl
/-- the same list within -/
def SameIn (p : Addr) (H H' : Hp) : Prop := ∀ (l : Addr) (n : V), H p = some (.lst [.ref l, n]) → ∃ n', H' p = some (.lst [.ref l, n'])
theorem SameIn.trans {p : Addr} {H H1 H2 : Hp} (a : SameIn p H H1) (b : SameIn p H1 H2) : SameIn p H H2 := fun l n e => by
  obtain ⟨n1, e1⟩ := a l n e
  exact b l n1 e1
theorem SameIn.ex {p : Addr} {H H1 H2 : Hp} (a : SameIn p H H1) (b : Ex H1 H2) : SameIn p H H2 := fun l n e => by
  obtain ⟨n1, e1⟩ := a l n e
  exact ⟨n1, b _ _ e1⟩
/-- the next number below many: any -/
def spNext : Sp := fun vs H Q _ => ∃ (p : Addr) (many : Int), vs = [.ref p, .int many] ∧ 0 < many ∧ StAt H p ∧ ∀ (r : Int) (H' : Hp), 0 ≤ r → r < many → StAt H' p → (∀ b o, b ≠ p → H b = some o → H' b = some o) → ((∀ b, H b = none → H' b = none) ∧ SameIn p H H') → Q (.int r) H'
theorem ok_next (T : Txt K mg) : FnOk P w K mg base CX0 1 T.a_next T.d_next ["state", "many"] spNext := by
  refine T.f_next.ok sc_next (fun vs H Q E h => ?_) (fun cdv A outer s H vs Q E hr h => ?_)
  · obtain ⟨_, _, rfl, _⟩ := h; rfl
  · obtain ⟨p, many, rfl, hm, ⟨l, ns, place, h1, h2, sm, l0, l1, p0⟩, q⟩ := h
    have lp : l ≠ p := fun z => by
      rw [z, h1] at h2
      have y := HO.lst.inj (Option.some.inj h2)
      cases ns with
      | nil => cases l0
      | cons a r => cases y
    refine ⟨_, (pss_cons (ps_set (i := 2) sc_next.nd rfl (by first | exact Or.inl rfl | exact Or.inr rfl) (pe_ix (kIx K) (pv 0) pe_int (fun _ _ => rfl)))
  (pss_cons (ps_set (i := 3) sc_next.nd rfl (by first | exact Or.inl rfl | exact Or.inr rfl) (pe_ix (kIx K) (pv 0) pe_int (fun _ _ => rfl)))
  (pss_cons (ps_asg (pe_op (kAdd K) (pv 3) pe_int) (pg_sub (pv 0) pe_int set_list))
  (pss_one (ps_ret (pe_op op_modP (pe_callTy call_intP (by rfl) T.nb_int (by decide +kernel) (pa_cons (pe_op (kAdd K) (pe_ix (kIx K) (pv 2) (pe_op op_modP (pv 3) (pe_callB (kLen K) (by rfl) T.nb_len (by decide +kernel) (pa_cons (pv 2) pa_nil))) (fun _ _ => rfl)) (pe_op op_mulPP (pe_op op_divP (pv 3) (pe_callB (kLen K) (by rfl) T.nb_len (by decide +kernel) (pa_cons (pv 2) pa_nil))) pe_int)) pa_nil)) (pv 1))))))), ?_⟩
    walk_at "rd"
    refine rd_ixL (v := .ref l) (SqL.of h1) (atI_nat (j := 0) rfl) ?_
    walk_at "rd"
    refine rd_ixL (v := .int place) (SqL.of h1) (atI_nat (j := 1) rfl) ?_
    walk_at "rd"
    refine ⟨p, _, 1, 1, rfl, rfl, h1, rfl, ?_⟩
    have h2' : upd H p (.lst (([.ref l, .int place] : List V).set 1 (.int (place + 1)))) l = some (.lst (ns.map V.int)) := by rw [upd_ne lp]; exact h2
    have hq : SqL K (upd H p (.lst (([.ref l, .int place] : List V).set 1 (.int (place + 1))))) l (ns.map V.int) := SqL.of h2'
    walk_at "rd"
    have lz : ((ns.map V.int).length : Int) = ns.length := by rw [List.length_map]
    refine rd_modI (by rw [lz]; omega) ?_
    rw [lz]
    have fm := fmod_small (a := place) (m := (ns.length : Int)) (by omega)
    have e : place.fmod (ns.length : Int) = ((place.fmod (ns.length : Int)).toNat : Int) := (Int.toNat_of_nonneg fm.1).symm
    refine rd_ixL (v := .int (ns.getD (place.fmod (ns.length : Int)).toNat 0)) hq ?_ ?_
    · rw [e]
      refine atI_nat ?_
      rw [List.getElem?_map, Int.toNat_natCast, List.getD_eq_getElem?_getD, List.getElem?_eq_getElem (show (place.fmod (ns.length : Int)).toNat < ns.length by omega)]
      rfl
    · walk_at "rd"
      refine rd_divI ⟨by rw [lz]; omega, by rw [lz]; omega⟩ ?_
      walk_at "rd"
      refine rd_mulN (.inr ⟨by decide, by decide⟩) ?_
      walk_at "rd"
      refine rd_modI (by omega) ?_
      have fr := fun a : Int => fmod_small (a := a) (m := many) hm
      refine q _ _ (fr _).1 (fr _).2 ⟨l, ns, place + 1, upd_same, h2', sm, l0, l1, by omega⟩ (fun b o hb ho => ?_) ⟨fun b hb => ?_, fun l' n' e => ⟨.int (place + 1), ?_⟩⟩
      · rw [upd_ne hb]; exact ho
      · rw [upd_ne (fun z => by rw [z, h1] at hb; cases hb)]; exact hb
      · rw [h1] at e
        have e2 := HO.lst.inj (Option.some.inj e)
        rw [upd_same, ← (List.cons.inj e2).1]
        rfl
/-! ### drawn letters -/
/-- the state at p goes on; what stood stands -/
structure Dr (p : Addr) (H H' : Hp) : Prop where
  st : StAt H' p
  old : ∀ b o, b ≠ p → H b = some o → H' b = some o
  inn : SameIn p H H'
theorem Dr.trans {p : Addr} {H H1 H2 : Hp} (a : Dr p H H1) (b : Dr p H1 H2) : Dr p H H2 := ⟨b.st, fun c o hc q => b.old c o hc (a.old c o hc q), a.inn.trans b.inn⟩
theorem Dr.ex {p : Addr} {H H1 H2 : Hp} (a : Dr p H H1) (e : Ex H1 H2) : Dr p H H2 := ⟨a.st.ex e, fun c o hc q => e c o (a.old c o hc q), a.inn.ex e⟩
theorem Dr.refl {p : Addr} {H : Hp} (h : StAt H p) : Dr p H H := ⟨h, fun _ _ _ q => q, fun _ n e => ⟨n, e⟩⟩
theorem StAt.some {H : Hp} {p : Addr} (h : StAt H p) : ∃ o, H p = some o := by
  obtain ⟨l, ns, pl, h1, _⟩ := h
  exact ⟨_, h1⟩
/-- new since H0: all of H0 stands -/
theorem Dr.from {p : Addr} {H0 H H' : Hp} (e : Ex H0 H) (hp : H0 p = none) (d : Dr p H H') : Ex H0 H' := fun b o q => d.old b o (ne_of_none q hp) (e b o q)
abbrev PL : Str := "abcdefghijklmnopqrstuvwxyzABCDEFGHIJKLMNOPQRSTUVWXYZ0123456789<>=:_@#"
theorem okS_PL : okS PL := by unfold okS; decide +kernel
theorem pl_len : PL.length = 69 := by decide +kernel
theorem okS_nil : okS "" := by unfold okS; decide +kernel
theorem str_len (x y : Str) : (x ++ y).length = x.length + y.length := by
  rw [TL.len_tl, TL.len_tl, TL.len_tl, TL.tl_append, List.length_append]
theorem at_str {z : Str} {r : Int} (h0 : 0 ≤ r) (h : r < z.length) : ∃ c, atI z.cps.toList r = some c ∧ c ∈ z.cps.toList := by
  obtain ⟨n, rfl⟩ := Int.eq_ofNat_of_zero_le h0
  have hl : n < z.cps.toList.length := by
    have : z.cps.toList.length = z.length := rfl
    omega
  exact ⟨z.cps.toList[n], atI_nat (List.getElem?_eq_getElem hl), List.getElem_mem hl⟩
/-- an alphabet of at most so many letters -/
structure Alpha (z : Str) (most : Nat) : Prop where
  l0 : 0 < z.length
  l1 : z.length ≤ most
  ok : okS z
  nd : z.cps.toList.Nodup
  pl : ∀ c ∈ z.cps.toList, c ∈ PL.cps.toList
def spLetters : Sp := fun vs H Q _ => ∃ (p : Addr) (most : Nat), vs = [.ref p, .int (most : Int)] ∧ 0 < most ∧ most ≤ 100 ∧ StAt H p ∧ ∀ (z : Str) (H' : Hp), Alpha z most → Dr p H H' → Q (.str z) H'
theorem ok_letters (T : Txt K mg) : FnOk P w K mg base CX0 2 T.a_letters T.d_letters ["state", "most"] spLetters := by
  refine T.f_letters.ok sc_letters (fun vs H Q E h => ?_) (fun cdv A outer s H vs Q E hr h => ?_)
  · obtain ⟨_, _, rfl, _⟩ := h; rfl
  · obtain ⟨p, most, rfl, h0, h1, hS, q⟩ := h
    refine ⟨_, (pss_cons (ps_set (i := 2) sc_letters.nd rfl (by first | exact Or.inl rfl | exact Or.inr rfl) pe_str)
  (pss_cons (ps_set (i := 3) sc_letters.nd rfl (by first | exact Or.inl rfl | exact Or.inr rfl) pe_str)
  (pss_cons (ps_for PassesOwn.never rfl (pi_range1 (by rfl) T.nb_range (pa_cons (pe_op (kAdd K) pe_int (pe_callE (ok_next T) (hr.mono (by decide)) T.o_next (pa_cons (pv 0) (pa_cons (pv 1) pa_nil)))) pa_nil)) (pg_name (i := 4) sc_letters.nd rfl (by first | exact Or.inl rfl | exact Or.inr rfl))
    (pss_cons (ps_set (i := 5) sc_letters.nd rfl (by first | exact Or.inl rfl | exact Or.inr rfl) (pe_ix (kIx K) (pv 2) (pe_callE (ok_next T) (hr.mono (by decide)) T.o_next (pa_cons (pv 0) (pa_cons pe_int pa_nil))) (fun _ _ => rfl)))
  (pss_one (ps_if (pt_cmpR (kNotIn K) (pv 5) (pv 3) (by first | rfl | exact nomark _))
    (pss_one (ps_set (i := 3) sc_letters.nd rfl (by first | exact Or.inl rfl | exact Or.inr rfl) (pe_op (kAdd K) (pv 3) (pv 5))))
    pss_nil))))
  (pss_one (ps_ret (pv 3)))))), ?_⟩
    walk_at "rc"
    walk_at "rs"
    walk_at "rc"
    refine ⟨p, most, rfl, by omega, hS, fun r H1 r0 r1 S1 k1 i1 => ?_⟩
    walk_at "rc"
    refine ⟨1 + r, rfl, by omega, by omega, fo_range (n := (1 + r).toNat) (fun i σ H' => ∃ (z : Str) (kk ll : Option V), σ = [some (.ref p), some (.int (most : Int)), some (.str PL), some (.str z), kk, ll] ∧ (0 < i → 0 < z.length) ∧ z.length ≤ i ∧ okS z ∧ z.cps.toList.Nodup ∧ (∀ c ∈ z.cps.toList, c ∈ PL.cps.toList) ∧ Dr p H H')
      ⟨"", none, none, rfl, fun z => absurd z (Nat.lt_irrefl 0), Nat.le_refl 0, okS_nil, List.nodup_nil, (fun c hc => nomatch hc), ⟨S1, k1, i1.2⟩⟩ ?_ ?_⟩
    · rintro i σ H' hi ⟨z, kk, ll, rfl, g0, g1, g2, g3, g4, g5⟩
      walk_at "rc"
      refine ⟨p, 69, rfl, by decide, g5.st, fun r2 H2 r20 r21 S2 k2 i2 => ?_⟩
      obtain ⟨c, hc, cm⟩ := at_str (z := PL) r20 (by rw [pl_len]; exact r21)
      refine rd_ixS (by rw [pl_len]; decide) hc ?_
      walk_at "rc"
      have d2 : Dr p H H2 := g5.trans ⟨S2, k2, i2.2⟩
      refine rd_iteN (fun h3 => ?_) (fun h3 => ?_)
      · walk_at "rc"
        refine rd_addS (Nat.le_trans (show z.length + 1 ≤ 1000 by omega) (by decide)) ?_
        walk_at "rc"
        have e : (z ++ (⟨#[c]⟩ : Str)).cps.toList = z.cps.toList ++ [c] := TL.tl_append z ⟨#[c]⟩
        refine ⟨_, _, _, rfl, fun _ => by rw [str_len]; exact Nat.succ_pos _, by rw [str_len]; exact Nat.succ_le_succ g1, okS_app g2 (okS_one okS_PL cm), ?_, fun d hd => ?_, d2⟩
        · rw [e]
          exact List.nodup_append.mpr ⟨g3, List.nodup_cons.mpr ⟨List.not_mem_nil, List.nodup_nil⟩, fun a ha b hb q => by
            rw [List.mem_singleton.mp hb] at q
            rw [q] at ha
            exact h3 ha⟩
        · rw [e] at hd
          rcases List.mem_append.mp hd with y | y
          · exact g4 d y
          · rw [List.mem_singleton.mp y]; exact cm
      · walk_at "rc"
        refine ⟨_, _, _, rfl, fun _ => ?_, Nat.le_succ_of_le g1, g2, g3, g4, d2⟩
        cases e : z.cps.toList with
        | nil => rw [e] at h3; cases h3
        | cons a l =>
          have e2 : z.length = z.cps.toList.length := rfl
          rw [e2, e]
          exact Nat.succ_pos _
    · rintro σ H' ⟨z, kk, ll, rfl, g0, g1, g2, g3, g4, g5⟩
      walk_at "rc"
      exact q z H' ⟨g0 (by omega), by omega, g2, g3, g4⟩ g5
/-! ### drawing, with data -/
/-- a list that was not there may change -/
theorem Dr.put {p r : Addr} {H H' : Hp} {o : HO} (hS : StAt H p) (d : Dr p H H') (hr : H r = none) : Dr p H (upd H' r o) := by
  obtain ⟨l, ns, pl, h1, h2, _⟩ := hS
  have nS : ∀ b u, b ≠ r → H' b = some u → upd H' r o b = some u := fun b u hb z => by rw [upd_ne hb]; exact z
  have rp : p ≠ r := ne_of_none h1 hr
  obtain ⟨n1, e1⟩ := d.inn l _ h1
  refine ⟨?_, fun b u hb z => nS _ _ (ne_of_none z hr) (d.old b u hb z), fun l2 n2 e2 => ?_⟩
  · obtain ⟨l3, ns3, pl3, g1, g2, g3⟩ := d.st
    rw [e1] at g1
    have e4 := (List.cons.inj (HO.lst.inj (Option.some.inj g1))).1
    have e5 : l = l3 := by cases e4; rfl
    subst e5
    refine ⟨l, ns3, pl3, nS _ _ rp ?_, nS _ _ (ne_of_none h2 hr) g2, g3⟩
    rw [e1, g1]
  · obtain ⟨n3, e3⟩ := d.inn l2 n2 e2
    exact ⟨n3, nS _ _ rp e3⟩
theorem Dr.back {p r : Addr} {H H' : Hp} (hS : StAt H p) (d : Dr p H H') (h : H' r = none) : H r = none := by
  cases q : H r with
  | none => rfl
  | some o =>
    by_cases e : r = p
    · subst e
      obtain ⟨o2, h2⟩ := d.st.some
      rw [h] at h2; cases h2
    · rw [d.old r o e q] at h; cases h
theorem Dr.kp {p : Addr} {S : List Addr} {H H' : Hp} (d : Dr p H H') (hp : p ∈ S) : Kp S H H' := fun b o hb q => d.old b o (fun z => hb (z ▸ hp)) q
theorem Dr.st' {p c : Addr} {H H' : Hp} (d : Dr p H H') (h : ∃ o, H c = some o) : ∃ o, H' c = some o := by
  obtain ⟨o, h⟩ := h
  by_cases e : c = p
  · rw [e]; exact d.st.some
  · exact ⟨o, d.old c o e h⟩
theorem tr_dr {p : Addr} {S : List Addr} {H : Hp} (hS : StAt H p) (hp : p ∈ S) : Tr S H (Dr p) :=
  ⟨Dr.refl hS, fun d => Dr.refl d.st, fun d h => d.st' h, fun a b => a.trans b, fun h d => d.put hS h, fun d => d.kp hp⟩
theorem map_ofD {α : Type} {f : α → PyData} {S : α → Prop} : ∀ (vs : List PyData), (∀ (i : Nat) v, vs[i]? = some v → ∃ a, v = f a ∧ S a) → ∃ as : List α, vs = as.map f ∧ ∀ a ∈ as, S a
  | [], _ => ⟨[], rfl, fun a h => by cases h⟩
  | v :: vs, h => by
    obtain ⟨a, e, s⟩ := h 0 v rfl
    obtain ⟨as, e2, s2⟩ := map_ofD vs fun i v hv => h (i + 1) v (by simpa using hv)
    exact ⟨a :: as, by rw [e, e2]; rfl, fun b hb => by
      rcases List.mem_cons.mp hb with z | z
      · rw [z]; exact s
      · exact s2 b z⟩
theorem rng_Y {n : Nat} : ∀ (i : Nat) (H : Hp) (x : V) (H' : Hp), i < n → (H' = H ∧ x = V.int (i : Nat)) → H' = H ∧ (x = V.int (i : Nat)) := fun _ _ _ _ _ y => y
section
/-! ### words and their order: the code of a word is its place among all words -/
def cd (w : Nat) (u : List Nat) : Nat := u.foldl (fun a j => w * a + j + 1) 0
theorem cd_nil {w : Nat} : cd w [] = 0 := rfl
theorem cd_snoc (w : Nat) (u : List Nat) (j : Nat) : cd w (u ++ [j]) = w * cd w u + j + 1 := by unfold cd; rw [List.foldl_append]; rfl
def Lw (w : Nat) (u : List Nat) : Prop := ∀ j ∈ u, j < w
theorem Lw.nil {w : Nat} : Lw w [] := fun _ h => nomatch h
theorem Lw.snoc {w : Nat} {u : List Nat} {j : Nat} (h : Lw w u) (hj : j < w) : Lw w (u ++ [j]) := fun x hx => by
  rcases List.mem_append.mp hx with z | z
  · exact h x z
  · rw [List.mem_singleton.mp z]; exact hj
theorem Lw.init {w : Nat} {u : List Nat} {j : Nat} (h : Lw w (u ++ [j])) : Lw w u ∧ j < w := ⟨fun x hx => h x (List.mem_append.mpr (.inl hx)), h j (List.mem_append.mpr (.inr List.mem_cons_self))⟩
theorem mul_lt_of {w a b i : Nat} (h : w * a + i + 1 ≤ w * b) : a < b := by
  rcases Nat.lt_or_ge a b with z | z
  · exact z
  · exact absurd (Nat.mul_le_mul_left w z) (by omega)
/-- words of the same letters by their last letters -/
theorem cd_cmp {w a b i j : Nat} (hi : i < w) (hj : j < w) (h : w * a + i + 1 ≤ w * b + j + 1) : a < b ∨ (a = b ∧ i ≤ j) := by
  rcases Nat.lt_trichotomy a b with z | z | z
  · exact .inl z
  · subst z; exact .inr ⟨rfl, by omega⟩
  · have := Nat.mul_le_mul_left w (show b + 1 ≤ a from z)
    rw [Nat.mul_succ] at this
    omega
theorem snoc_ind {P : List Nat → Prop} (h0 : P []) (hs : ∀ u j, P u → P (u ++ [j])) : ∀ u, P u := by
  intro u
  rw [← List.reverse_reverse u]
  induction u.reverse with
  | nil => exact h0
  | cons x l ih => rw [List.reverse_cons]; exact hs _ x ih
theorem cd_inj {w : Nat} : ∀ {u v : List Nat}, Lw w u → Lw w v → cd w u = cd w v → u = v := by
  intro u
  refine snoc_ind (P := fun u => ∀ {v : List Nat}, Lw w u → Lw w v → cd w u = cd w v → u = v) ?_ ?_ u
  · intro v _ _ e
    rcases List.eq_nil_or_concat v with z | ⟨y, j, z⟩
    · rw [z]
    · rw [z, List.concat_eq_append, cd_snoc] at e
      cases (show (0 : Nat) = _ from e)
  · intro x i ih v hu hv e
    rcases List.eq_nil_or_concat v with z | ⟨y, j, z⟩
    · rw [z, cd_snoc] at e
      cases (show _ = (0 : Nat) from e)
    · rw [List.concat_eq_append] at z
      subst z
      rw [cd_snoc, cd_snoc] at e
      rcases cd_cmp hu.init.2 hv.init.2 (Nat.le_of_eq e) with a | ⟨a, _⟩
      · rcases cd_cmp hv.init.2 hu.init.2 (Nat.le_of_eq e.symm) with b | ⟨b, _⟩ <;> omega
      · rw [a] at e
        rw [ih hu.init.1 hv.init.1 a, show i = j by omega]
/-- a shorter word has a smaller code -/
theorem cd_len {w : Nat} : ∀ {u v : List Nat}, Lw w u → Lw w v → u.length < v.length → cd w u < cd w v := by
  intro u
  refine snoc_ind (P := fun u => ∀ {v : List Nat}, Lw w u → Lw w v → u.length < v.length → cd w u < cd w v) ?_ ?_ u
  · intro v _ _ e
    rcases List.eq_nil_or_concat v with z | ⟨y, j, z⟩
    · rw [z] at e; cases e
    · rw [z, List.concat_eq_append, cd_snoc]; exact Nat.succ_pos _
  · intro x i ih v hu hv e
    rcases List.eq_nil_or_concat v with z | ⟨y, j, z⟩
    · rw [z] at e; cases e
    · rw [List.concat_eq_append] at z
      subst z
      rw [List.length_append, List.length_append] at e
      have h := ih hu.init.1 hv.init.1 (by simpa using e)
      rw [cd_snoc, cd_snoc]
      have := Nat.mul_le_mul_left w (show cd w x + 1 ≤ cd w y from h)
      rw [Nat.mul_succ] at this
      have := hu.init.2
      omega
/-! ### going through all keys in the order of their least words -/
section
variable {κ : Type} {w : Nat} {nx : κ → Nat → κ} {st : κ} {ks : List κ} {ws : List (List Nat)}
structure Bf (w : Nat) (nx : κ → Nat → κ) (st : κ) (ks : List κ) (ws : List (List Nat)) : Prop where
  len : ws.length = ks.length
  hw : ws[0]? = some []
  nd : ks.Nodup
  run : ∀ (i : Nat) u k, ws[i]? = some u → ks[i]? = some k → u.foldl nx st = k
  lw : ∀ (i : Nat) u, ws[i]? = some u → Lw w u
  inc : ∀ (i j : Nat) u v, i < j → ws[i]? = some u → ws[j]? = some v → cd w u < cd w v
  ln : ∀ (i : Nat) u, ws[i]? = some u → u.length ≤ i
/-- every word below B leads to a known key, whose word is not larger -/
def Sn (w : Nat) (nx : κ → Nat → κ) (st : κ) (ks : List κ) (ws : List (List Nat)) (B : Nat) : Prop := ∀ u, Lw w u → cd w u < B → ∃ (i : Nat) (v : List Nat) (k : κ), ws[i]? = some v ∧ ks[i]? = some k ∧ u.foldl nx st = k ∧ cd w v ≤ cd w u
/-- the n-th key is at work, j of its letters are done -/
structure Pg (w : Nat) (nx : κ → Nat → κ) (st : κ) (ks : List κ) (ws : List (List Nat)) (n j : Nat) (u0 : List Nat) (k0 : κ) : Prop where
  b : Bf w nx st ks ws
  hu : ws[n]? = some u0
  hk : ks[n]? = some k0
  top : ∀ (i : Nat) v, ws[i]? = some v → cd w v < w * cd w u0 + j + 1
  sn : Sn w nx st ks ws (w * cd w u0 + j + 1)
theorem getQ {α : Type} {l : List α} {i : Nat} (h : i < l.length) : ∃ a, l[i]? = some a := ⟨l[i], List.getElem?_eq_getElem h⟩
theorem ltQ {α : Type} {l : List α} {i : Nat} {a : α} (h : l[i]? = some a) : i < l.length := (List.getElem?_eq_some_iff.mp h).1
theorem Bf.word (h : Bf w nx st ks ws) {i : Nat} {k : κ} (e : ks[i]? = some k) : ∃ u, ws[i]? = some u := getQ (by rw [h.len]; exact ltQ e)
theorem Bf.init : Bf w nx st [st] [[]] := by
  refine ⟨rfl, rfl, List.nodup_cons.mpr ⟨(fun h => nomatch h), List.nodup_nil⟩, fun i u k h1 h2 => ?_, fun i u h => ?_, fun i j u v hij h1 h2 => ?_, fun i u h => ?_⟩
  · have := ltQ h1
    obtain rfl : i = 0 := by simpa using this
    cases h1; cases h2; rfl
  · have := ltQ h
    obtain rfl : i = 0 := by simpa using this
    cases h; exact Lw.nil
  · have := ltQ h2
    have : j < 1 := this
    omega
  · have := ltQ h
    obtain rfl : i = 0 := by simpa using this
    cases h; exact Nat.le_refl 0
theorem Pg.init : Pg w nx st [st] [[]] 0 0 [] st := by
  refine ⟨Bf.init, rfl, rfl, fun i v h => ?_, fun u hu hc => ?_⟩
  · have := ltQ h
    obtain rfl : i = 0 := by simpa using this
    cases h; exact Nat.succ_pos _
  · have e : cd w u = cd w [] := by rw [cd_nil] at hc ⊢; omega
    have := cd_inj hu Lw.nil e
    subst this
    exact ⟨0, [], st, rfl, rfl, rfl, Nat.le_refl _⟩
theorem run_snoc (u : List Nat) (j : Nat) : (u ++ [j]).foldl nx st = nx (u.foldl nx st) j := by rw [List.foldl_append]; rfl
/-- the key behind the letter is known -/
theorem Pg.old {n j i : Nat} {u0 : List Nat} {k0 : κ} (h : Pg w nx st ks ws n j u0 k0) (hj : j < w) (hi : ks[i]? = some (nx k0 j)) : Pg w nx st ks ws n (j + 1) u0 k0 := by
  refine ⟨h.b, h.hu, h.hk, fun i v e => Nat.lt_succ_of_lt (h.top i v e), fun u hu hc => ?_⟩
  rcases Nat.lt_or_ge (cd w u) (w * cd w u0 + j + 1) with z | z
  · exact h.sn u hu z
  · have e : cd w u = cd w (u0 ++ [j]) := by rw [cd_snoc]; omega
    have eu := cd_inj hu ((h.b.lw n u0 h.hu).snoc hj) e
    subst eu
    obtain ⟨v, hv⟩ := h.b.word hi
    refine ⟨i, v, _, hv, hi, ?_, ?_⟩
    · rw [run_snoc, h.b.run n u0 k0 h.hu h.hk]
    · have := h.top i v hv
      rw [cd_snoc]; omega
theorem app_at {α : Type} {l : List α} {a b : α} {i : Nat} (h : (l ++ [a])[i]? = some b) : l[i]? = some b ∨ (i = l.length ∧ a = b) := by
  rcases Nat.lt_or_ge i l.length with z | z
  · rw [List.getElem?_append_left z] at h; exact .inl h
  · have := ltQ h
    rw [List.length_append, List.length_singleton] at this
    have e : i = l.length := by omega
    subst e
    rw [List.getElem?_append_right (Nat.le_refl _), Nat.sub_self] at h
    exact .inr ⟨rfl, Option.some.inj h⟩
theorem app_l {α : Type} {l : List α} {a b : α} {i : Nat} (h : l[i]? = some b) : (l ++ [a])[i]? = some b := by rw [List.getElem?_append_left (ltQ h)]; exact h
theorem app_r {α : Type} {l : List α} {a : α} : (l ++ [a])[l.length]? = some a := by rw [List.getElem?_append_right (Nat.le_refl _), Nat.sub_self]; rfl
/-- it is new -/
theorem Pg.new {n j : Nat} {u0 : List Nat} {k0 : κ} (h : Pg w nx st ks ws n j u0 k0) (hj : j < w) (hi : nx k0 j ∉ ks) : Pg w nx st (ks ++ [nx k0 j]) (ws ++ [u0 ++ [j]]) n (j + 1) u0 k0 := by
  have hc := cd_snoc w u0 j
  have l0 := (h.b.lw n u0 h.hu).snoc hj
  have r0 : (u0 ++ [j]).foldl nx st = nx k0 j := by rw [run_snoc, h.b.run n u0 k0 h.hu h.hk]
  have b : Bf w nx st (ks ++ [nx k0 j]) (ws ++ [u0 ++ [j]]) := by
    refine ⟨by simp [h.b.len], app_l h.b.hw, List.nodup_append.mpr ⟨h.b.nd, List.nodup_cons.mpr ⟨(fun h => nomatch h), List.nodup_nil⟩, fun a ha b hb e => hi (by rw [← List.mem_singleton.mp hb, ← e]; exact ha)⟩, fun i u k h1 h2 => ?_, fun i u h1 => ?_, fun i i' u v hii h1 h2 => ?_, fun i u h1 => ?_⟩
    · rcases app_at h1 with a | ⟨a, a'⟩
      · rcases app_at h2 with c | ⟨c, _⟩
        · exact h.b.run i u k a c
        · have := ltQ a; rw [h.b.len] at this; omega
      · rcases app_at h2 with c | ⟨_, c⟩
        · have := ltQ c; rw [← h.b.len] at this; omega
        · rw [← a', ← c]; exact r0
    · rcases app_at h1 with a | ⟨_, a⟩
      · exact h.b.lw i u a
      · rw [← a]; exact l0
    · rcases app_at h2 with c | ⟨c, c'⟩
      · rcases app_at h1 with a | ⟨a, _⟩
        · exact h.b.inc i i' u v hii a c
        · have := ltQ c; omega
      · rcases app_at h1 with a | ⟨a, _⟩
        · have := h.top i u a
          rw [← c', hc]; exact this
        · omega
    · rcases app_at h1 with a | ⟨a, a'⟩
      · exact h.b.ln i u a
      · have := h.b.ln n u0 h.hu
        have := ltQ h.hu
        rw [← a', List.length_append, List.length_singleton]; omega
  refine ⟨b, app_l h.hu, app_l h.hk, fun i v e => ?_, fun u hu hcu => ?_⟩
  · rcases app_at e with a | ⟨_, a⟩
    · exact Nat.lt_succ_of_lt (h.top i v a)
    · rw [← a, hc]; omega
  · rcases Nat.lt_or_ge (cd w u) (w * cd w u0 + j + 1) with z | z
    · obtain ⟨i, v, k, h1, h2, h3, h4⟩ := h.sn u hu z
      exact ⟨i, v, k, app_l h1, app_l h2, h3, h4⟩
    · have eu := cd_inj hu l0 (by rw [hc]; omega)
      subst eu
      exact ⟨ws.length, _, _, app_r, by rw [h.b.len]; exact app_r, r0, Nat.le_refl _⟩
/-- what is known once all letters of the n-th key are done: all words below the next key's -/
theorem Pg.all {n : Nat} {u0 : List Nat} {k0 : κ} (h : Pg w nx st ks ws n w u0 k0) (w0 : 0 < w) {c : Nat} (hc : ∀ (i : Nat) v, n < i → ws[i]? = some v → c ≤ cd w v) : Sn w nx st ks ws (w * c + 1) := by
  intro u
  refine snoc_ind (P := fun u => Lw w u → cd w u < w * c + 1 → ∃ (i : Nat) (v : List Nat) (k : κ), ws[i]? = some v ∧ ks[i]? = some k ∧ u.foldl nx st = k ∧ cd w v ≤ cd w u) ?_ ?_ u
  · intro hl _
    obtain ⟨k, hk⟩ := getQ (l := ks) (i := 0) (by rw [← h.b.len]; exact ltQ h.b.hw)
    exact ⟨0, [], k, h.b.hw, hk, h.b.run 0 [] k h.b.hw hk, Nat.le_refl _⟩
  · intro x j ih hl hcu
    obtain ⟨hx, hj⟩ := hl.init
    rw [cd_snoc] at hcu ⊢
    have xc : cd w x < c := mul_lt_of (i := j) (w := w) (by omega)
    have xw : c ≤ w * c := Nat.le_mul_of_pos_left c w0
    obtain ⟨i, v, k, h1, h2, h3, h4⟩ := ih hx (by omega)
    have hin : i ≤ n := by
      rcases Nat.lt_or_ge n i with z | z
      · have := hc i v z h1; omega
      · exact z
    have hv0 : cd w v ≤ cd w u0 := by
      rcases Nat.lt_or_ge i n with z | z
      · exact Nat.le_of_lt (h.b.inc i n v u0 z h1 h.hu)
      · have e : i = n := by omega
        subst e
        rw [h.hu] at h1; cases h1; exact Nat.le_refl _
    have m1 := Nat.mul_le_mul_left w hv0
    have m2 := Nat.mul_le_mul_left w h4
    obtain ⟨i', v', k', g1, g2, g3, g4⟩ := h.sn (v ++ [j]) ((h.b.lw i v h1).snoc hj) (by rw [cd_snoc]; omega)
    refine ⟨i', v', k', g1, g2, ?_, ?_⟩
    · rw [run_snoc, h3, ← g3, run_snoc, h.b.run i v k h1 h2]
    · rw [cd_snoc] at g4; omega
theorem Pg.next {n : Nat} {u0 : List Nat} {k0 : κ} (h : Pg w nx st ks ws n w u0 k0) (w0 : 0 < w) {k1 : κ} (hk : ks[n + 1]? = some k1) : ∃ u1, Pg w nx st ks ws (n + 1) 0 u1 k1 := by
  obtain ⟨u1, hu⟩ := h.b.word hk
  have i01 := h.b.inc n (n + 1) u0 u1 (Nat.lt_succ_self n) h.hu hu
  refine ⟨u1, h.b, hu, hk, fun i v e => ?_, ?_⟩
  · have := h.top i v e
    have := Nat.mul_le_mul_left w (show cd w u0 + 1 ≤ cd w u1 from i01)
    rw [Nat.mul_succ] at this
    omega
  · refine h.all w0 fun i v hi hv => ?_
    rcases Nat.lt_or_ge (n + 1) i with z | z
    · exact Nat.le_of_lt (h.b.inc (n + 1) i u1 v z hu hv)
    · have e : i = n + 1 := by omega
      subst e
      rw [hu] at hv; cases hv; exact Nat.le_refl _
/-- the least word that leads to an accepting key, below a bound of its length -/
def Lst (w : Nat) (nx : κ → Nat → κ) (st : κ) (acc : κ → Bool) (m : Nat) : Option (List Nat) → Prop
  | none => ∀ u, Lw w u → acc (u.foldl nx st) = false
  | some u => Lw w u ∧ acc (u.foldl nx st) = true ∧ u.length < m ∧ ∀ v, Lw w v → cd w v < cd w u → acc (v.foldl nx st) = false
theorem Pg.found {n m : Nat} {u0 : List Nat} {k0 : κ} {acc : κ → Bool} (h : Pg w nx st ks ws n 0 u0 k0) (w0 : 0 < w) (hm : ks.length ≤ m) (no : ∀ (i : Nat) k, i < n → ks[i]? = some k → acc k = false) (yes : acc k0 = true) : Lst w nx st acc m (some u0) := by
  refine ⟨h.b.lw n u0 h.hu, by rw [h.b.run n u0 k0 h.hu h.hk]; exact yes, ?_, fun v hv hc => ?_⟩
  · have := h.b.ln n u0 h.hu
    have := ltQ h.hk
    omega
  · have : cd w u0 ≤ w * cd w u0 := Nat.le_mul_of_pos_left _ w0
    obtain ⟨i, x, k, h1, h2, h3, h4⟩ := h.sn v hv (by omega)
    rw [h3]
    refine no i k ?_ h2
    rcases Nat.lt_or_ge i n with z | z
    · exact z
    · rcases Nat.lt_or_ge n i with y | y
      · have := h.b.inc n i u0 x y h.hu h1; omega
      · have e : i = n := by omega
        subst e
        rw [h.hu] at h1; cases h1; omega
theorem Pg.none {n m : Nat} {u0 : List Nat} {k0 : κ} {acc : κ → Bool} (h : Pg w nx st ks ws n w u0 k0) (w0 : 0 < w) (hn : n + 1 = ks.length) (no : ∀ (i : Nat) k, i < n + 1 → ks[i]? = some k → acc k = false) : Lst w nx st acc m none := by
  intro u hu
  have hs := h.all w0 (c := cd w u + 1) fun i v hi hv => by
    have := ltQ hv
    rw [h.b.len] at this; omega
  have : cd w u + 1 ≤ w * (cd w u + 1) := Nat.le_mul_of_pos_left _ w0
  obtain ⟨i, v, k, h1, h2, h3, _⟩ := hs u hu (by omega)
  rw [h3]
  exact no i k (by rw [hn]; exact ltQ h2) h2
/-- the keys lie in a finite set -/
theorem nodup_leK {α : Type} [BEq α] [LawfulBEq α] : ∀ (l m : List α), l.Nodup → (∀ c ∈ l, c ∈ m) → l.length ≤ m.length
  | [], _, _, _ => Nat.zero_le _
  | x :: l, m, nd, h => by
    have hx := h x List.mem_cons_self
    have nd' := List.nodup_cons.mp nd
    have := nodup_leK l (m.erase x) nd'.2 fun c hc => (List.mem_erase_of_ne fun (e : c = x) => nd'.1 (by rw [← e]; exact hc)).mpr (h c (List.mem_cons_of_mem _ hc))
    rw [List.length_erase_of_mem hx] at this
    have := List.length_pos_of_mem hx
    rw [List.length_cons]; omega
end
/-! ### all words of few letters, in order -/
def lvW (w : Nat) : Nat → List (List Nat)
  | 0 => [[]]
  | n + 1 => (lvW w n).flatMap fun u => (List.range w).map fun j => u ++ [j]
def rowsW (w : Nat) : Nat → List (List Nat)
  | 0 => [[]]
  | n + 1 => rowsW w n ++ lvW w (n + 1)
theorem mem_lvW {w : Nat} : ∀ {n : Nat} {u : List Nat}, u ∈ lvW w n ↔ Lw w u ∧ u.length = n
  | 0, u => by
    show u ∈ [[]] ↔ _
    rw [List.mem_singleton]
    exact ⟨fun e => by subst e; exact ⟨Lw.nil, rfl⟩, fun h => List.eq_nil_of_length_eq_zero h.2⟩
  | n + 1, u => by
    show u ∈ (lvW w n).flatMap _ ↔ _
    rw [List.mem_flatMap]
    constructor
    · rintro ⟨x, hx, hu⟩
      obtain ⟨j, hj, rfl⟩ := List.mem_map.mp hu
      obtain ⟨h1, h2⟩ := mem_lvW.mp hx
      exact ⟨h1.snoc (List.mem_range.mp hj), by rw [List.length_append, h2]; rfl⟩
    · rintro ⟨h1, h2⟩
      rcases List.eq_nil_or_concat u with z | ⟨y, j, z⟩
      · rw [z] at h2; cases h2
      · rw [List.concat_eq_append] at z
        subst z
        rw [List.length_append] at h2
        exact ⟨y, mem_lvW.mpr ⟨h1.init.1, by simpa using h2⟩, List.mem_map.mpr ⟨j, List.mem_range.mpr h1.init.2, rfl⟩⟩
theorem mem_rowsW {w : Nat} : ∀ {n : Nat} {u : List Nat}, u ∈ rowsW w n ↔ Lw w u ∧ u.length ≤ n
  | 0, u => by
    show u ∈ lvW w 0 ↔ _
    rw [mem_lvW]
    exact ⟨fun h => ⟨h.1, Nat.le_of_eq h.2⟩, fun h => ⟨h.1, Nat.le_zero.mp h.2⟩⟩
  | n + 1, u => by
    show u ∈ rowsW w n ++ lvW w (n + 1) ↔ _
    rw [List.mem_append, mem_rowsW, mem_lvW]
    constructor
    · rintro (h | h)
      · exact ⟨h.1, Nat.le_succ_of_le h.2⟩
      · exact ⟨h.1, Nat.le_of_eq h.2⟩
    · rintro ⟨h1, h2⟩
      rcases Nat.lt_or_ge u.length (n + 1) with z | z
      · exact .inl ⟨h1, Nat.le_of_lt_succ z⟩
      · exact .inr ⟨h1, Nat.le_antisymm h2 z⟩
theorem pw_flat {α : Type} {R : List Nat → List Nat → Prop} {f : α → List (List Nat)} : ∀ {l : List α}, (∀ a ∈ l, (f a).Pairwise R) → l.Pairwise (fun a b => ∀ x ∈ f a, ∀ y ∈ f b, R x y) → (l.flatMap f).Pairwise R
  | [], _, _ => List.Pairwise.nil
  | a :: l, h1, h2 => by
    rw [List.flatMap_cons]
    obtain ⟨p1, p2⟩ := List.pairwise_cons.mp h2
    refine List.pairwise_append.mpr ⟨h1 a List.mem_cons_self, pw_flat (fun b hb => h1 b (List.mem_cons_of_mem _ hb)) p2, fun x hx y hy => ?_⟩
    obtain ⟨b, hb, hyb⟩ := List.mem_flatMap.mp hy
    exact p1 b hb x hx y hyb
theorem pw_lvW {w : Nat} : ∀ n : Nat, (lvW w n).Pairwise fun u v => cd w u < cd w v
  | 0 => List.pairwise_singleton _ _
  | n + 1 => by
    refine pw_flat (fun a ha => ?_) ?_
    · rw [List.pairwise_map]
      refine List.Pairwise.imp (fun {i j} h => ?_) List.pairwise_lt_range
      rw [cd_snoc, cd_snoc]; omega
    · refine List.Pairwise.imp (fun {a b} h x hx y hy => ?_) (pw_lvW n)
      obtain ⟨i, hi, rfl⟩ := List.mem_map.mp hx
      obtain ⟨j, hj, rfl⟩ := List.mem_map.mp hy
      rw [cd_snoc, cd_snoc]
      have := Nat.mul_le_mul_left w (show cd w a + 1 ≤ cd w b from h)
      rw [Nat.mul_succ] at this
      have := List.mem_range.mp hi
      omega
theorem pw_rowsW {w : Nat} : ∀ n : Nat, (rowsW w n).Pairwise fun u v => cd w u < cd w v
  | 0 => List.pairwise_singleton _ _
  | n + 1 => List.pairwise_append.mpr ⟨pw_rowsW n, pw_lvW (n + 1), fun u hu v hv => by
    obtain ⟨h1, h2⟩ := mem_rowsW.mp hu
    obtain ⟨h3, h4⟩ := mem_lvW.mp hv
    exact cd_len h1 h3 (by omega)⟩
/-- the first one of an ordered list that has a property -/
theorem find_least {α : Type} {R : α → α → Prop} {p : α → Bool} {a : α} : ∀ {l : List α}, l.Pairwise R → a ∈ l → p a = true → (∀ b, R b a → p b = false) → l.find? p = some a
  | b :: l, h, ha, hp, hn => by
    obtain ⟨h1, h2⟩ := List.pairwise_cons.mp h
    rcases List.mem_cons.mp ha with e | hm
    · subst e
      exact List.find?_cons_of_pos hp
    · rw [List.find?_cons_of_neg (by rw [hn b (h1 a hm)]; exact Bool.false_ne_true)]
      exact find_least h2 hm hp hn
theorem Lst.find {κ : Type} {w : Nat} {nx : κ → Nat → κ} {st : κ} {acc : κ → Bool} {m n : Nat} {r : Option (List Nat)} (h : Lst w nx st acc m r) (hm : m ≤ n + 1) : (rowsW w n).find? (fun u => acc (u.foldl nx st)) = r := by
  cases r with
  | none => exact List.find?_eq_none.mpr fun u hu => by rw [h u (mem_rowsW.mp hu).1]; exact Bool.false_ne_true
  | some u =>
    obtain ⟨h1, h2, h3, h4⟩ := h
    refine find_least_w h1 h2 h3 h4 hm
where
  find_least_w {κ : Type} {w : Nat} {nx : κ → Nat → κ} {st : κ} {acc : κ → Bool} {m n : Nat} {u : List Nat} (h1 : Lw w u) (h2 : acc (u.foldl nx st) = true) (h3 : u.length < m) (h4 : ∀ v, Lw w v → cd w v < cd w u → acc (v.foldl nx st) = false) (hm : m ≤ n + 1) : (rowsW w n).find? (fun u => acc (u.foldl nx st)) = some u := by
    refine find_least (R := fun a b => cd w a < cd w b ∧ Lw w a) ?_ (mem_rowsW.mpr ⟨h1, by omega⟩) h2 fun b hb => h4 b hb.2 hb.1
    have := pw_rowsW (w := w) n
    refine List.Pairwise.imp_of_mem (fun {a b} ha hb h => ⟨h, (mem_rowsW.mp ha).1⟩) this
end
section
/-! ### the text of a word -/
def tx (ls : Str) (u : List Nat) : Str := ⟨(u.map fun j => ls.cps.toList.getD j 0).toArray⟩
theorem tx_list (ls : Str) (u : List Nat) : (tx ls u).cps.toList = u.map fun j => ls.cps.toList.getD j 0 := by
  show (u.map _).toArray.toList = _
  rw [List.toList_toArray]
theorem str_ext {a b : Str} (h : a.cps.toList = b.cps.toList) : a = b := by
  obtain ⟨a⟩ := a
  obtain ⟨b⟩ := b
  have h : a.toList = b.toList := h
  rw [Array.toList_inj.mp h]
theorem tx_snoc (ls : Str) (u : List Nat) (j : Nat) : tx ls (u ++ [j]) = tx ls u ++ (⟨#[ls.cps.toList.getD j 0]⟩ : Str) := by
  refine str_ext ?_
  have e := TL.tl_append (tx ls u) (⟨#[ls.cps.toList.getD j 0]⟩ : Str)
  have e2 : TL.tl (tx ls u) = u.map fun j => ls.cps.toList.getD j 0 := tx_list ls u
  rw [e2] at e
  rw [tx_list, List.map_append]
  exact e.symm
theorem tx_len (ls : Str) (u : List Nat) : (tx ls u).length = u.length := by
  rw [TL.len_tl]
  show (tx ls u).cps.toList.length = _
  rw [tx_list, List.length_map]
end
section
/-! ### the law's own reading of a machine -/
theorem tx_at {ls : Str} {u : List Nat} {i c : Nat} (h : (tx ls u).cps.toList[i]? = some c) : ∃ j, u[i]? = some j ∧ c = ls.cps.toList.getD j 0 := by
  rw [tx_list, List.getElem?_map] at h
  obtain ⟨j, hj, e⟩ := Option.map_eq_some_iff.mp h
  exact ⟨j, hj, e.symm⟩
theorem idx_of {l : List Nat} (nd : l.Nodup) {j : Nat} (hj : j < l.length) : l.getD j 0 ∈ l ∧ l.idxOf (l.getD j 0) = j := by
  have e : l.getD j 0 = l[j] := by rw [List.getD_eq_getElem?_getD, List.getElem?_eq_getElem hj]; rfl
  rw [e]
  refine ⟨List.getElem_mem hj, ?_⟩
  exact List.Nodup.idxOf_getElem nd j hj
theorem Lw.take {w : Nat} {u : List Nat} (h : Lw w u) (i : Nat) : Lw w (u.take i) := fun x hx => h x (List.mem_of_mem_take hx)
end
section
/-! ### the law's own reading of machines made -/
theorem tx_ok {ls : Str} {u : List Nat} (ok : okS ls) (h : Lw ls.length u) : okS (tx ls u) := okS_sub ok fun c hc => by
  rw [tx_list] at hc
  obtain ⟨j, hj, rfl⟩ := List.mem_map.mp hc
  have hl : j < ls.cps.toList.length := h j hj
  rw [List.getD_eq_getElem?_getD, List.getElem?_eq_getElem hl]
  exact List.getElem_mem hl
theorem tx_inj {ls : Str} (nd : ls.cps.toList.Nodup) : ∀ {u v : List Nat}, Lw ls.length u → Lw ls.length v → tx ls u = tx ls v → u = v := by
  have key : ∀ {u v : List Nat}, Lw ls.length u → Lw ls.length v → (u.map fun j => ls.cps.toList.getD j 0) = (v.map fun j => ls.cps.toList.getD j 0) → u = v := by
    intro u
    induction u with
    | nil => intro v _ _ e; cases v with
      | nil => rfl
      | cons => cases e
    | cons j u ih =>
      intro v hu hv e
      cases v with
      | nil => cases e
      | cons k v =>
        have e1 : ls.cps.toList.getD j 0 = ls.cps.toList.getD k 0 := (List.cons.inj e).1
        have e2 := (List.cons.inj e).2
        have hj := hu j List.mem_cons_self
        have hk := hv k List.mem_cons_self
        have i1 := (idx_of nd (j := j) hj).2
        have i2 := (idx_of nd (j := k) hk).2
        rw [e1, i2] at i1
        rw [i1, ih (fun x hx => hu x (List.mem_cons_of_mem _ hx)) (fun x hx => hv x (List.mem_cons_of_mem _ hx)) e2]
  intro u v hu hv e
  have : (tx ls u).cps.toList = (tx ls v).cps.toList := by rw [e]
  rw [tx_list, tx_list] at this
  exact key hu hv this
theorem tx_of {ls : Str} : ∀ (cs : List Nat), (∀ c ∈ cs, c ∈ ls.cps.toList) → ∃ u, Lw ls.length u ∧ u.length = cs.length ∧ cs = u.map fun j => ls.cps.toList.getD j 0
  | [], _ => ⟨[], Lw.nil, rfl, rfl⟩
  | c :: cs, h => by
    obtain ⟨u, h1, h2, h3⟩ := tx_of cs fun x hx => h x (List.mem_cons_of_mem _ hx)
    obtain ⟨j, hj⟩ := List.getElem?_of_mem (h c List.mem_cons_self)
    refine ⟨j :: u, fun x hx => (List.mem_cons.mp hx).elim (fun e => by rw [e]; exact ltQ hj) (h1 x), by rw [List.length_cons, List.length_cons, h2], ?_⟩
    rw [List.map_cons, ← h3, List.getD_eq_getElem?_getD, hj]; rfl
/-- texts of words, as data -/
def txD (ls : Str) (R : List (List Nat)) : PyData := .list (R.map fun u => .str (tx ls u))
theorem txD_ly {ls : Str} {R : List (List Nat)} (ok : okS ls) (h : ∀ u ∈ R, Lw ls.length u) : Lay (txD ls R) := by
  refine Ly.lay (Ly.list (n := 0) fun d hd => ?_) (by decide)
  obtain ⟨u, hu, rfl⟩ := List.mem_map.mp hd
  exact Ly.str (tx_ok ok (h u hu))
end
section
def keptS (L : Str) (named : List Nat) (o : Bool) : Str := ⟨(L.cps.toList.filter fun c => decide (c ∈ named) != o).toArray⟩
theorem toL_ext {a b : Str} (h : a.cps.toList = b.cps.toList) : a = b := by
  obtain ⟨x⟩ := a
  obtain ⟨y⟩ := b
  exact congrArg Str.mk (Array.toList_inj.mp h)
end
section
/-- a pattern, as terms of terms -/
inductive Pt
  | nul (k : Str)
  | one (s : Str)
  | un (k : Str) (a : Pt)
  | bi (k : Str) (a b : Pt)
def Pt.kind : Pt → Str
  | .nul k => k
  | .one _ => "one"
  | .un k _ => k
  | .bi k _ _ => k
def Pt.parts : Pt → List Pt
  | .nul _ => []
  | .one _ => []
  | .un _ a => [a]
  | .bi _ a b => [a, b]
def Pt.ok : Pt → Prop
  | .nul k => k = "none" ∨ k = "empty"
  | .one s => s.length ≤ 100
  | .un k a => (k = "not" ∨ k = "star") ∧ a.ok
  | .bi k a b => (k = "join" ∨ k = "either" ∨ k = "both") ∧ a.ok ∧ b.ok
def Pt.size : Pt → Nat
  | .nul _ => 1
  | .one _ => 1
  | .un _ a => a.size + 1
  | .bi _ a b => a.size + b.size + 1
def Pt.D : Pt → PyData
  | .nul k => .tuple [.str k]
  | .one s => .tuple [.str "one", .str s]
  | .un k a => .tuple [.str k, a.D]
  | .bi k a b => .tuple [.str k, a.D, b.D]
def PtV (H : Hp) : Pt → V → Prop
  | .nul k, v => ∃ a, v = .ref a ∧ H a = some (.tup [.str k])
  | .one s, v => ∃ a, v = .ref a ∧ H a = some (.tup [.str "one", .str s])
  | .un k t, v => ∃ a u, v = .ref a ∧ H a = some (.tup [.str k, u]) ∧ PtV H t u
  | .bi k t r, v => ∃ a u x, v = .ref a ∧ H a = some (.tup [.str k, u, x]) ∧ PtV H t u ∧ PtV H r x
def PtL (H : Hp) : List Pt → List V → Prop
  | [], [] => True
  | t :: ts, v :: vs => PtV H t v ∧ PtL H ts vs
  | _, _ => False
/-- the tuples stay -/
def KT (H H' : Hp) : Prop := ∀ b xs, H b = some (.tup xs) → H' b = some (.tup xs)
theorem KT.refl (H : Hp) : KT H H := fun _ _ h => h
theorem KT.trans {H H1 H2 : Hp} (a : KT H H1) (b : KT H1 H2) : KT H H2 := fun x o h => b x o (a x o h)
theorem KT.ex {H H' : Hp} (e : Ex H H') : KT H H' := fun b xs h => e b _ h
theorem KT.put {H : Hp} {p : Addr} {o : HO} (h : ∀ xs, H p ≠ some (.tup xs)) : KT H (upd H p o) := fun b xs e => by
  by_cases z : b = p
  · subst z
    exact absurd e (h xs)
  · rw [upd_ne z]
    exact e
theorem KT.putL {H : Hp} {p : Addr} {o : HO} {ys : List V} (h : H p = some (.lst ys)) : KT H (upd H p o) := .put fun xs e => by rw [h] at e; cases e
theorem KT.new {H : Hp} {p : Addr} {o : HO} (h : H p = none) : KT H (upd H p o) := .put fun xs e => by rw [h] at e; cases e
theorem PtV.kt {H H' : Hp} (e : KT H H') : ∀ (t : Pt) {v : V}, PtV H t v → PtV H' t v
  | .nul _, _, ⟨a, h1, h2⟩ => ⟨a, h1, e _ _ h2⟩
  | .one _, _, ⟨a, h1, h2⟩ => ⟨a, h1, e _ _ h2⟩
  | .un _ t, _, ⟨a, u, h1, h2, h3⟩ => ⟨a, u, h1, e _ _ h2, PtV.kt e t h3⟩
  | .bi _ t r, _, ⟨a, u, x, h1, h2, h3, h4⟩ => ⟨a, u, x, h1, e _ _ h2, PtV.kt e t h3, PtV.kt e r h4⟩
theorem PtL.kt {H H' : Hp} (e : KT H H') : ∀ {ts : List Pt} {vs : List V}, PtL H ts vs → PtL H' ts vs
  | [], [], _ => True.intro
  | _ :: _, _ :: _, ⟨h1, h2⟩ => ⟨PtV.kt e _ h1, PtL.kt e h2⟩
  | [], _ :: _, h => h
  | _ :: _, [], h => h
theorem PtV.dp {K : PySem.W.Frag} {H : Hp} : ∀ (t : Pt) {v : V}, PtV H t v → Dp K H v t.D
  | .nul _, _, ⟨a, h1, h2⟩ => h1 ▸ .tup (Evl.st_of h2) (.cons (.str _) .nil)
  | .one _, _, ⟨a, h1, h2⟩ => h1 ▸ .tup (Evl.st_of h2) (.cons (.str _) (.cons (.str _) .nil))
  | .un _ t, _, ⟨a, u, h1, h2, h3⟩ => h1 ▸ .tup (Evl.st_of h2) (.cons (.str _) (.cons (PtV.dp t h3) .nil))
  | .bi _ t r, _, ⟨a, u, x, h1, h2, h3, h4⟩ => h1 ▸ .tup (Evl.st_of h2) (.cons (.str _) (.cons (PtV.dp t h3) (.cons (PtV.dp r h4) .nil)))
theorem PtL.length {H : Hp} : ∀ {ts : List Pt} {vs : List V}, PtL H ts vs → ts.length = vs.length
  | [], [], _ => rfl
  | _ :: _, _ :: _, ⟨_, h⟩ => congrArg (· + 1) h.length
  | [], _ :: _, h => h.elim
  | _ :: _, [], h => h.elim
theorem PtL.app {H : Hp} : ∀ {ts us : List Pt} {vs ws : List V}, PtL H ts vs → PtL H us ws → PtL H (ts ++ us) (vs ++ ws)
  | [], _, [], _, _, g => g
  | _ :: _, _, _ :: _, _, ⟨h1, h2⟩, g => ⟨h1, PtL.app h2 g⟩
  | [], _, _ :: _, _, h, _ => h.elim
  | _ :: _, _, [], _, h, _ => h.elim
theorem PtL.snoc {H : Hp} {ts : List Pt} {t : Pt} : ∀ {vs : List V}, PtL H (ts ++ [t]) vs → ∃ ws v, vs = ws ++ [v] ∧ PtL H ts ws ∧ PtV H t v := by
  induction ts with
  | nil =>
    intro vs h
    match vs, h with
    | [v], h => exact ⟨[], v, rfl, True.intro, h.1⟩
    | [], h => exact h.elim
    | _ :: _ :: _, h => exact h.2.elim
  | cons t' ts ih =>
    intro vs h
    match vs, h with
    | [], h => exact h.elim
    | v' :: vs, h =>
      obtain ⟨ws, v, rfl, h1, h2⟩ := ih h.2
      exact ⟨v' :: ws, v, rfl, ⟨h.1, h1⟩, h2⟩
def sizes (ts : List Pt) : Nat := (ts.map Pt.size).sum
theorem sizes_app {ts us : List Pt} : sizes (ts ++ us) = sizes ts + sizes us := by unfold sizes; rw [List.map_append, List.sum_append]
theorem Pt.size_pos : ∀ t : Pt, 0 < t.size
  | .nul _ => Nat.one_pos
  | .one _ => Nat.one_pos
  | .un _ _ => Nat.succ_pos _
  | .bi _ _ _ => Nat.succ_pos _
theorem Pt.size_parts : ∀ t : Pt, t.size = sizes t.parts + 1
  | .nul _ => rfl
  | .one _ => rfl
  | .un _ _ => rfl
  | .bi _ _ _ => by show _ = _ + (_ + 0) + 1; rfl
theorem Pt.ok_parts : ∀ {t : Pt}, t.ok → ∀ p ∈ t.parts, p.ok
  | .nul _, _, p, hp => by cases hp
  | .one _, _, p, hp => by cases hp
  | .un _ a, h, p, hp => by rw [List.mem_singleton.mp hp]; exact h.2
  | .bi _ a b, h, p, hp => by
    rcases List.mem_cons.mp hp with e | hp
    · rw [e]; exact h.2.1
    · rw [List.mem_singleton.mp hp]; exact h.2.2
theorem sizes_len : ∀ ts : List Pt, ts.length ≤ sizes ts
  | [] => Nat.le_refl _
  | t :: ts => by
    have h := sizes_len ts
    have h2 := t.size_pos
    show ts.length + 1 ≤ t.size + sizes ts
    omega
/-- a term begins with its kind, its parts come next -/
theorem PtV.at {H : Hp} : ∀ {t : Pt} {v : V}, PtV H t v → ∃ a us, v = .ref a ∧ H a = some (.tup (.str t.kind :: us)) ∧ (t.parts ≠ [] → PtL H t.parts us)
  | .nul _, _, ⟨a, h1, h2⟩ => ⟨a, _, h1, h2, fun h => absurd rfl h⟩
  | .one _, _, ⟨a, h1, h2⟩ => ⟨a, _, h1, h2, fun h => absurd rfl h⟩
  | .un _ t, _, ⟨a, u, h1, h2, h3⟩ => ⟨a, _, h1, h2, fun _ => ⟨h3, True.intro⟩⟩
  | .bi _ t r, _, ⟨a, u, x, h1, h2, h3, h4⟩ => ⟨a, _, h1, h2, fun _ => ⟨h3, h4, True.intro⟩⟩
def Pt.leaf (t : Pt) : Bool := t.parts.isEmpty
theorem Pt.leaf_in : ∀ {t : Pt}, t.ok → inV (.str t.kind) (["none", "empty", "one"].map fun s : String => V.str s) = t.leaf
  | .nul k, h => by rcases h with h | h <;> (show inV (.str k) _ = true; rw [h]; decide +kernel)
  | .one _, _ => by show inV (.str "one") _ = true; decide +kernel
  | .un k _, h => by rcases h.1 with h | h <;> (show inV (.str k) _ = false; rw [h]; decide +kernel)
  | .bi k _ _, h => by rcases h.1 with h | h | h <;> (show inV (.str k) _ = false; rw [h]; decide +kernel)
end
section
def Pt.dep : Pt → Nat
  | .nul _ => 0
  | .one _ => 0
  | .un _ a => a.dep + 1
  | .bi _ a b => max a.dep b.dep + 1
end
section
variable (T : Txt K mg)
theorem rd_inDt {a : Addr} {x : Str} {ys : List Str} {b : Bool} {H : Hp} {Q : VK} (h : Dp K H (.ref a) (.tuple (ys.map PyData.str))) (hb : inV (.str x) (ys.map V.str) = b) (q : Q (.bl b) H) : oIn K (.str x) (.ref a) H Q := by
  obtain ⟨a', vs, e, hs, hd⟩ := Dp.tupv h
  cases e
  have hv : vs = ys.map V.str := by
    clear h hb q hs
    induction ys generalizing vs with
    | nil => cases hd; rfl
    | cons y ys ih =>
      cases hd with
      | cons h1 h2 => rw [Dp.str_iff h1, ih _ h2]; rfl
  subst hv
  refine .inr ⟨a, ys.map V.str, rfl, .inr hs, rfl, ?_, ?_⟩
  · rw [List.all_eq_true]
    intro v hv
    obtain ⟨x, _, rfl⟩ := List.mem_map.mp hv
    rfl
  · rw [if_neg (by decide), hb]
    exact q
theorem cut1 {x : V} {l : List V} : cutV (x :: l) (some 1) none = l := by
  show List.take (HT.sIx (x :: l).length (x :: l).length none - HT.sIx (x :: l).length 0 (some 1)) (List.drop (HT.sIx (x :: l).length 0 (some 1)) (x :: l)) = _
  have : HT.sIx (x :: l).length 0 (some 1) = 1 := by
    have := HT.sIx_nat (x :: l).length 0 1
    refine this.trans ?_
    rw [List.length_cons]; omega
  rw [this, HT.sIx_none, List.drop_succ_cons, List.drop_zero, List.length_cons, Nat.add_sub_cancel, List.take_length]
theorem rd_bm0 {K : PySem.W.Frag} {T : String} {r : V → List V → Hp → VK → Prop} {to : TE} {σ : L2.St} {H : Hp} {Q : VK} (h : to σ H fun x H1 => tyV K T x H1 ∧ r x [] H1 Q) : tBM0 K T r to σ H Q := h
def spParts : Sp := fun vs H Q _ => ∃ (t : Pt) (v : V), vs = [v] ∧ t.ok ∧ PtV H t v ∧ ∀ a us H', Ex H H' → H' a = some (.tup us) → PtL H' t.parts us → Q (.ref a) H'
theorem ok_parts_of : FnOk P w K mg base CX0 1 T.a_parts_of T.d_parts_of ["term"] spParts := by
  refine T.f_parts_of.ok sc_parts_of (fun vs H Q E h => ?_) (fun cdv A outer s H vs Q E hr h => ?_)
  · obtain ⟨_, _, rfl, _⟩ := h; rfl
  · obtain ⟨t, v, rfl, hk, hv, q⟩ := h
    obtain ⟨a, us, rfl, h1, h2⟩ := hv.at
    refine ⟨_, (pss_cons (ps_if (pt_cmpR (kIn K) (pe_ix (kIx K) (pv 0) pe_int (fun _ _ => rfl)) (pe_globR (by rfl) T.c_LEAVES) (by first | rfl | exact nomark _))
    (pss_one (ps_ret (pe_tup pa_nil)))
    pss_nil)
  (pss_one (ps_ret (pe_slice (kSl K) (pv 0) (po_some pe_int) po_none)))), ?_⟩
    walk_at "rc"
    walk_at "rs"
    walk_at "rc"
    refine rd_ixT (SqT.of h1) (atI_nat (j := 0) rfl) ?_
    walk_at "rc"
    refine rd_inDt (b := t.leaf) (ys := ["none", "empty", "one"].map fun s : String => (s : Str)) (T.v_LEAVES H) (by rw [List.map_map]; exact t.leaf_in hk) ?_
    walk_at "rc"
    cases hl : t.leaf with
    | true =>
      refine rd_iteT ?_
      walk_at "rc"
      refine ⟨Nat.zero_le _, fun p hp => ?_⟩
      walk_at "rc"
      have hz : t.parts = [] := List.isEmpty_iff.mp hl
      exact q p [] _ (Evl.Ex.new hp) upd_same (by rw [hz]; exact True.intro)
    | false =>
      refine rd_iteF ?_
      walk_at "rc"
      have hz : t.parts ≠ [] := fun e => by unfold Pt.leaf at hl; rw [e] at hl; cases hl
      refine .inr (.inr ⟨a, _, rfl, SqT.of h1, fun hw => ?_, fun _ p hp => ?_⟩)
      · have e1 := hw.1
        have e2 := HT.sIx_nat (.str t.kind :: us).length 0 1
        simp only [List.length_cons] at e1 e2
        have e3 : min 1 (us.length + 1) = 0 := e2.symm.trans e1
        omega
      · rw [cut1]
        exact q p us _ (Evl.Ex.new hp) upd_same (PtL.kt (.new hp) (h2 hz))
end
section
/-- a term, its parts as numbers -/
inductive Fl
  | nul (k : Str)
  | one (s : Str)
  | un (k : Str) (n : Nat)
  | bi (k : Str) (n m : Nat)
def Fl.vs : Fl → List V
  | .nul k => [.str k]
  | .one s => [.str "one", .str s]
  | .un k n => [.str k, .int (n : Int)]
  | .bi k n m => [.str k, .int (n : Int), .int (m : Int)]
def Fl.ks : Fl → List NestedKey
  | .nul k => [.text k]
  | .one s => [.text "one", .text s]
  | .un k n => [.text k, .num (n : Int)]
  | .bi k n m => [.text k, .num (n : Int), .num (m : Int)]
def Fl.key (f : Fl) : NestedKey := .tup f.ks
theorem Fl.nvs {H : Hp} : ∀ f : Fl, NVs H f.ks f.vs
  | .nul _ => .cons (.str _) .nil
  | .one _ => .cons (.str _) (.cons (.str _) .nil)
  | .un _ _ => .cons (.str _) (.cons (.int _) .nil)
  | .bi _ _ _ => .cons (.str _) (.cons (.int _) (.cons (.int _) .nil))
theorem Fl.kyn {H : Hp} {a : Addr} {f : Fl} (h : H a = some (.tup f.vs)) : KyN H f.key (.ref a) := ⟨.tup h f.nvs, by cases f <;> simp [Fl.key, Fl.ks, NestedKey.depth, NestedKey.depthAll], fun x z => by cases z⟩
theorem Fl.inj {f g : Fl} (h : f.key = g.key) : f = g := by
  have h2 : f.ks = g.ks := by
    unfold Fl.key at h
    injection h
  cases f <;> cases g <;> simp only [Fl.ks, List.cons.injEq, NestedKey.text.injEq, NestedKey.num.injEq, and_true, reduceCtorEq, and_false, false_and] at h2
  · rw [h2]
  · rw [h2.2]
  · obtain ⟨h1, h3⟩ := h2
    rw [h1, Int.ofNat.inj h3]
  · obtain ⟨h1, h3, h4⟩ := h2
    rw [h1, Int.ofNat.inj h3, Int.ofNat.inj h4]
def FlOf (E : List Pt) : Pt → Fl → Prop
  | .nul k, .nul k' => k = k'
  | .one s, .one s' => s = s'
  | .un k a, .un k' n => k = k' ∧ E[n]? = some a
  | .bi k a b, .bi k' n m => k = k' ∧ E[n]? = some a ∧ E[m]? = some b
  | _, _ => False
theorem FlOf.mono {E E' : List Pt} (e : ∀ (i : Nat) x, E[i]? = some x → E'[i]? = some x) : ∀ {t : Pt} {f : Fl}, FlOf E t f → FlOf E' t f
  | .nul _, .nul _, h => h
  | .one _, .one _, h => h
  | .un _ _, .un _ _, h => ⟨h.1, e _ _ h.2⟩
  | .bi _ _ _, .bi _ _ _, h => ⟨h.1, e _ _ h.2.1, e _ _ h.2.2⟩
theorem FlOf.inj {E : List Pt} : ∀ {t t' : Pt} {f : Fl}, FlOf E t f → FlOf E t' f → t = t'
  | .nul _, .nul _, .nul _, h, g => by rw [show _ = _ from h, show _ = _ from g]
  | .one _, .one _, .one _, h, g => by rw [show _ = _ from h, show _ = _ from g]
  | .un _ _, .un _ _, .un _ _, h, g => by
    have e := h.2.symm.trans g.2
    cases e
    rw [h.1, g.1]
  | .bi _ _ _, .bi _ _ _, .bi _ _ _, h, g => by
    have e := h.2.1.symm.trans g.2.1
    have e' := h.2.2.symm.trans g.2.2
    cases e
    cases e'
    rw [h.1, g.1]
structure Tab (E : List Pt) (F : List Fl) : Prop where
  n : E.length = F.length
  fl : ∀ (i : Nat) t f, E[i]? = some t → F[i]? = some f → FlOf (E.take i) t f
theorem take_at {α : Type} {E : List α} {i j : Nat} {x : α} (h : (E.take i)[j]? = some x) : E[j]? = some x := by
  rw [List.getElem?_take] at h
  split at h
  · exact h
  · cases h
theorem Tab.nil : Tab [] [] := ⟨rfl, fun i t f h => by simp at h⟩
theorem Tab.snoc {E : List Pt} {F : List Fl} {t : Pt} {f : Fl} (h : Tab E F) (g : FlOf E t f) : Tab (E ++ [t]) (F ++ [f]) := by
  refine ⟨by rw [List.length_append, List.length_append, h.n]; rfl, fun i t' f' e1 e2 => ?_⟩
  rcases Nat.lt_trichotomy i E.length with hi | hi | hi
  · rw [List.getElem?_append_left hi] at e1
    rw [List.getElem?_append_left (by rw [← h.n]; exact hi)] at e2
    rw [List.take_append_of_le_length (Nat.le_of_lt hi)]
    exact h.fl i t' f' e1 e2
  · subst hi
    rw [List.getElem?_append_right (Nat.le_refl _), Nat.sub_self] at e1
    rw [List.getElem?_append_right (by rw [h.n]; exact Nat.le_refl _), h.n, Nat.sub_self] at e2
    cases e1
    cases e2
    rw [List.take_left]
    exact g
  · rw [List.getElem?_eq_none (by rw [List.length_append, List.length_singleton]; omega)] at e1
    cases e1
/-- the dict of numbers -/
def KvF (H : Hp) : List Fl → KA → Nat → Prop
  | [], [], _ => True
  | f :: fs, kv :: kvs, i => (kv.1 = f.key ∧ kv.2.2 = .int (i : Int) ∧ ∃ a, kv.2.1 = .ref a ∧ H a = some (.tup f.vs)) ∧ KvF H fs kvs (i + 1)
  | _, _, _ => False
theorem KvF.kt {H H' : Hp} (e : KT H H') : ∀ {F : List Fl} {kvs : KA} {i : Nat}, KvF H F kvs i → KvF H' F kvs i
  | [], [], _, h => h
  | _ :: _, _ :: _, _, ⟨⟨h1, h2, a, h3, h4⟩, h5⟩ => ⟨⟨h1, h2, a, h3, e _ _ h4⟩, KvF.kt e h5⟩
  | [], _ :: _, _, h => h
  | _ :: _, [], _, h => h
theorem KvF.length {H : Hp} : ∀ {F : List Fl} {kvs : KA} {i : Nat}, KvF H F kvs i → F.length = kvs.length
  | [], [], _, _ => rfl
  | _ :: _, _ :: _, _, h => congrArg (· + 1) h.2.length
  | [], _ :: _, _, h => h.elim
  | _ :: _, [], _, h => h.elim
theorem KvF.ks {H : Hp} : ∀ {F : List Fl} {kvs : KA} {i : Nat}, KvF H F kvs i → KsN H kvs
  | [], [], _, _ => fun p hp => nomatch hp
  | f :: _, (k, v, x) :: _, _, ⟨⟨h1, _, a, h3, h4⟩, h5⟩ => fun p hp => by
    rcases List.mem_cons.mp hp with e | hp
    · rw [e]
      cases h1
      cases h3
      exact Fl.kyn h4
    · exact KvF.ks h5 p hp
  | [], _ :: _, _, h => h.elim
  | _ :: _, [], _, h => h.elim
theorem KvF.val {H : Hp} {f : Fl} {v : V} : ∀ {F : List Fl} {kvs : KA} {i : Nat}, KvF H F kvs i → valN kvs f.key = some v → ∃ j, F[j]? = some f ∧ v = .int ((i + j : Nat) : Int)
  | [], [], _, _, e => by cases e
  | f' :: F, (k, v', x) :: kvs, i, ⟨⟨h1, h2, _⟩, h5⟩, e => by
    unfold valN at e
    split at e
    · next z =>
      have z2 : f'.key = f.key := h1.symm.trans z
      exact ⟨0, by rw [Fl.inj z2]; rfl, by cases h2; exact (Option.some.inj e).symm⟩
    · obtain ⟨j, a, b⟩ := KvF.val h5 e
      exact ⟨j + 1, a, by rw [b]; congr 2; omega⟩
  | [], _ :: _, _, h, _ => h.elim
  | _ :: _, [], _, h, _ => h.elim
theorem KvF.snoc {H : Hp} {f : Fl} {a : Addr} (hf : H a = some (.tup f.vs)) : ∀ {F : List Fl} {kvs : KA} {i n : Nat}, KvF H F kvs i → n = i + kvs.length → KvF H (F ++ [f]) (kvs ++ [(f.key, .ref a, .int (n : Int))]) i
  | [], [], i, _, _, e => by subst e; exact ⟨⟨rfl, rfl, a, rfl, hf⟩, True.intro⟩
  | _ :: _, _ :: _, i, _, h, e => ⟨h.1, KvF.snoc hf h.2 (by rw [e, List.length_cons]; omega)⟩
  | [], _ :: _, _, _, h, _ => h.elim
  | _ :: _, [], _, _, h, _ => h.elim
/-- the terms of the dict, listed -/
def FlL (H : Hp) : List Fl → List V → Prop
  | [], [] => True
  | f :: fs, v :: vs => (∃ a, v = .ref a ∧ H a = some (.tup f.vs)) ∧ FlL H fs vs
  | _, _ => False
theorem KvF.fl {H : Hp} : ∀ {F : List Fl} {kvs : KA} {i : Nat}, KvF H F kvs i → FlL H F (kvs.map fun kv => kv.2.1)
  | [], [], _, _ => True.intro
  | _ :: _, _ :: _, _, h => ⟨h.1.2.2, KvF.fl h.2⟩
  | [], _ :: _, _, h => h.elim
  | _ :: _, [], _, h => h.elim
theorem FlL.kt {H H' : Hp} (e : KT H H') : ∀ {F : List Fl} {vs : List V}, FlL H F vs → FlL H' F vs
  | [], [], h => h
  | _ :: _, _ :: _, ⟨⟨a, h3, h4⟩, h5⟩ => ⟨⟨a, h3, e _ _ h4⟩, FlL.kt e h5⟩
  | [], _ :: _, h => h
  | _ :: _, [], h => h
theorem FlL.length {H : Hp} : ∀ {F : List Fl} {vs : List V}, FlL H F vs → F.length = vs.length
  | [], [], _ => rfl
  | _ :: _, _ :: _, h => congrArg (· + 1) h.2.length
  | [], _ :: _, h => h.elim
  | _ :: _, [], h => h.elim
theorem FlL.at {H : Hp} : ∀ {F : List Fl} {vs : List V} {i : Nat} {f : Fl}, FlL H F vs → F[i]? = some f → ∃ a, vs[i]? = some (.ref a) ∧ H a = some (.tup f.vs)
  | _ :: _, _ :: _, 0, f, h, e => by
    cases e
    obtain ⟨⟨a, h1, h2⟩, _⟩ := h
    exact ⟨a, by rw [h1]; rfl, h2⟩
  | _ :: F, _ :: vs, i + 1, f, h, e => FlL.at (F := F) (vs := vs) h.2 e
  | [], [], _, _, _, e => by cases e
  | [], _ :: _, _, _, h, _ => h.elim
  | _ :: _, [], _, _, h, _ => h.elim
/-- the numbers of the terms that are done -/
def DnE (E : List Pt) : List Nat → List Pt → Prop
  | [], [] => True
  | n :: ns, t :: ts => E[n]? = some t ∧ DnE E ns ts
  | _, _ => False
theorem DnE.mono {E E' : List Pt} (e : ∀ (i : Nat) x, E[i]? = some x → E'[i]? = some x) : ∀ {ds : List Nat} {es : List Pt}, DnE E ds es → DnE E' ds es
  | [], [], h => h
  | _ :: _, _ :: _, h => ⟨e _ _ h.1, DnE.mono e h.2⟩
  | [], _ :: _, h => h
  | _ :: _, [], h => h
theorem DnE.length {E : List Pt} : ∀ {ds : List Nat} {es : List Pt}, DnE E ds es → ds.length = es.length
  | [], [], _ => rfl
  | _ :: _, _ :: _, h => congrArg (· + 1) h.2.length
  | [], _ :: _, h => h.elim
  | _ :: _, [], h => h.elim
theorem DnE.app {E : List Pt} {t : Pt} {n : Nat} (g : E[n]? = some t) : ∀ {ds : List Nat} {es : List Pt}, DnE E ds es → DnE E (ds ++ [n]) (es ++ [t])
  | [], [], _ => ⟨g, True.intro⟩
  | _ :: _, _ :: _, h => ⟨h.1, DnE.app g h.2⟩
  | [], _ :: _, h => h.elim
  | _ :: _, [], h => h.elim
theorem DnE.split {E : List Pt} {ps : List Pt} : ∀ {es : List Pt} {ds : List Nat}, DnE E ds (es ++ ps) → ∃ d1 d2, ds = d1 ++ d2 ∧ DnE E d1 es ∧ DnE E d2 ps
  | [], ds, h => ⟨[], ds, rfl, True.intro, h⟩
  | _ :: _, d :: ds, h => by
    obtain ⟨d1, d2, e, a, b⟩ := DnE.split h.2
    exact ⟨d :: d1, d2, by rw [e]; rfl, ⟨h.1, a⟩, b⟩
  | _ :: _, [], h => h.elim
/-- what waits, topmost first: it makes p of what is done -/
inductive Good (p : Pt) : List (Pt × Bool) → List Pt → Prop
  | fin : Good p [] [p]
  | new {t : Pt} {ws : List (Pt × Bool)} {es : List Pt} : Good p ws (es ++ [t]) → Good p ((t, false) :: ws) es
  | old {t : Pt} {ws : List (Pt × Bool)} {es : List Pt} : Good p ws (es ++ [t]) → Good p ((t, true) :: ws) (es ++ t.parts)
def asNew (ps : List Pt) : List (Pt × Bool) := ps.map fun t => (t, false)
theorem Good.news {p : Pt} {ws : List (Pt × Bool)} : ∀ {ps es : List Pt}, Good p ws (es ++ ps) → Good p (asNew ps ++ ws) es
  | [], es, h => by rw [List.append_nil] at h; exact h
  | t :: ps, es, h => .new (Good.news (ps := ps) (es := es ++ [t]) (by rw [List.append_assoc]; exact h))
theorem Good.open {p t : Pt} {ws : List (Pt × Bool)} {es : List Pt} (h : Good p ((t, false) :: ws) es) : Good p (asNew t.parts ++ (t, true) :: ws) es := by
  cases h with
  | new h => exact .news (.old h)
theorem Good.done {p t : Pt} {b : Bool} {ws : List (Pt × Bool)} {es : List Pt} (h : Good p ((t, b) :: ws) es) (hb : b = false → t.parts = []) : ∃ es0, es = es0 ++ t.parts ∧ Good p ws (es0 ++ [t]) := by
  cases h with
  | new h => exact ⟨es, by rw [hb rfl, List.append_nil], h⟩
  | old h => exact ⟨_, rfl, h⟩
def wt1 (x : Pt × Bool) : Nat := if x.2 then 1 else 2 * x.1.size
def wt (ws : List (Pt × Bool)) : Nat := (ws.map wt1).sum
theorem wt_cons {x : Pt × Bool} {ws : List (Pt × Bool)} : wt (x :: ws) = wt1 x + wt ws := rfl
theorem wt_app {ws us : List (Pt × Bool)} : wt (ws ++ us) = wt ws + wt us := by unfold wt; rw [List.map_append, List.sum_append]
theorem wt_new : ∀ ps : List Pt, wt (asNew ps) = 2 * sizes ps
  | [] => rfl
  | t :: ps => by
    have h := wt_new ps
    show 2 * t.size + wt (asNew ps) = 2 * (t.size + sizes ps)
    omega
theorem wt_open {t : Pt} {ws : List (Pt × Bool)} : wt (asNew t.parts ++ (t, true) :: ws) + 1 = wt ((t, false) :: ws) := by
  have h := t.size_parts
  rw [wt_app, wt_new, wt_cons, wt_cons]
  show 2 * sizes t.parts + (1 + wt ws) + 1 = 2 * t.size + wt ws
  omega
theorem wt1_pos {x : Pt × Bool} : 0 < wt1 x := by
  have := x.1.size_pos
  unfold wt1
  split <;> omega
theorem wt_len : ∀ ws : List (Pt × Bool), ws.length ≤ wt ws
  | [] => Nat.le_refl _
  | x :: ws => by
    have h := wt_len ws
    have h2 := wt1_pos (x := x)
    rw [wt_cons, List.length_cons]
    omega
/-- p waits lowest, all that is numbered is smaller; or it is the last that was numbered -/
def Bot (p : Pt) (E : List Pt) (ws : List (Pt × Bool)) : Prop := (ws = [] ∧ E.getLast? = some p ∧ ∀ x ∈ E, x.size ≤ p.size) ∨ ∃ ws' b, ws = ws' ++ [(p, b)] ∧ (∀ x ∈ ws', x.1.size < p.size) ∧ ∀ t ∈ E, t.size < p.size
theorem size_mem : ∀ {ps : List Pt} {t : Pt}, t ∈ ps → t.size ≤ sizes ps
  | x :: ps, t, h => by
    show t.size ≤ x.size + sizes ps
    rcases List.mem_cons.mp h with e | h
    · rw [e]; omega
    · have := size_mem h; omega
theorem size_part {t x : Pt} (h : x ∈ t.parts) : x.size < t.size := by
  have h1 := size_mem h
  have h2 := t.size_parts
  omega
theorem mem_new {ps : List Pt} {x : Pt × Bool} (h : x ∈ asNew ps) : x.1 ∈ ps := by
  obtain ⟨t, ht, rfl⟩ := List.mem_map.mp h
  exact ht
theorem Bot.open {p t : Pt} {E : List Pt} {ws : List (Pt × Bool)} (h : Bot p E ((t, false) :: ws)) : Bot p E (asNew t.parts ++ (t, true) :: ws) := by
  rcases h with ⟨e, _⟩ | ⟨ws', b, e, h1, h2⟩
  · cases e
  · cases ws' with
    | nil =>
      cases e
      exact .inr ⟨asNew p.parts, true, rfl, fun x hx => size_part (mem_new hx), h2⟩
    | cons y ws' =>
      cases e
      have ht : t.size < p.size := h1 _ List.mem_cons_self
      refine .inr ⟨asNew t.parts ++ (t, true) :: ws', b, by rw [List.append_assoc]; rfl, fun x hx => ?_, h2⟩
      rcases List.mem_append.mp hx with hx | hx
      · exact Nat.lt_trans (size_part (mem_new hx)) ht
      · rcases List.mem_cons.mp hx with e | hx
        · rw [e]; exact ht
        · exact h1 _ (List.mem_cons_of_mem _ hx)
theorem Bot.new {p t : Pt} {b : Bool} {E : List Pt} {ws : List (Pt × Bool)} (h : Bot p E ((t, b) :: ws)) : Bot p (E ++ [t]) ws := by
  rcases h with ⟨e, _⟩ | ⟨ws', b', e, h1, h2⟩
  · cases e
  · cases ws' with
    | nil =>
      cases e
      refine .inl ⟨rfl, List.getLast?_concat, fun x hx => ?_⟩
      rcases List.mem_append.mp hx with hx | hx
      · exact Nat.le_of_lt (h2 x hx)
      · rw [List.mem_singleton.mp hx]
        exact Nat.le_refl _
    | cons y ws' =>
      cases e
      refine .inr ⟨ws', b', rfl, fun x hx => h1 _ (List.mem_cons_of_mem _ hx), fun x hx => ?_⟩
      rcases List.mem_append.mp hx with hx | hx
      · exact h2 x hx
      · rw [List.mem_singleton.mp hx]
        exact h1 _ List.mem_cons_self
theorem Bot.old {p t : Pt} {b : Bool} {E : List Pt} {ws : List (Pt × Bool)} (h : Bot p E ((t, b) :: ws)) (ht : t ∈ E) : Bot p E ws := by
  rcases h with ⟨e, _⟩ | ⟨ws', b', e, h1, h2⟩
  · cases e
  · cases ws' with
    | nil =>
      cases e
      exact absurd (h2 _ ht) (Nat.lt_irrefl _)
    | cons y ws' =>
      cases e
      exact .inr ⟨ws', b', rfl, fun x hx => h1 _ (List.mem_cons_of_mem _ hx), h2⟩
theorem Bot.fin {p : Pt} {E : List Pt} (h : Bot p E []) : E.getLast? = some p ∧ ∀ x ∈ E, x.size ≤ p.size := by
  rcases h with ⟨_, h⟩ | ⟨ws', b, e, _⟩
  · exact h
  · exact absurd e (by simp)
/-- what waits, in the heap, topmost first -/
def WsV (H : Hp) : List (Pt × Bool) → List V → Prop
  | [], [] => True
  | x :: ws, u :: us => (∃ a v, u = .ref a ∧ H a = some (.tup [v, .bl x.2]) ∧ PtV H x.1 v) ∧ WsV H ws us
  | _, _ => False
theorem WsV.kt {H H' : Hp} (e : KT H H') : ∀ {ws : List (Pt × Bool)} {us : List V}, WsV H ws us → WsV H' ws us
  | [], [], h => h
  | _ :: _, _ :: _, ⟨⟨a, v, h1, h2, h3⟩, h⟩ => ⟨⟨a, v, h1, e _ _ h2, PtV.kt e _ h3⟩, WsV.kt e h⟩
  | [], _ :: _, h => h
  | _ :: _, [], h => h
theorem WsV.length {H : Hp} : ∀ {ws : List (Pt × Bool)} {us : List V}, WsV H ws us → ws.length = us.length
  | [], [], _ => rfl
  | _ :: _, _ :: _, h => congrArg (· + 1) h.2.length
  | [], _ :: _, h => h.elim
  | _ :: _, [], h => h.elim
theorem WsV.app {H : Hp} {ws2 : List (Pt × Bool)} {us2 : List V} (g : WsV H ws2 us2) : ∀ {ws : List (Pt × Bool)} {us : List V}, WsV H ws us → WsV H (ws ++ ws2) (us ++ us2)
  | [], [], _ => g
  | _ :: _, _ :: _, h => ⟨h.1, WsV.app g h.2⟩
  | [], _ :: _, h => h.elim
  | _ :: _, [], h => h.elim
theorem WsV.cons {H : Hp} {x : Pt × Bool} {ws : List (Pt × Bool)} {us : List V} (h : WsV H (x :: ws) us) : ∃ a v us', us = .ref a :: us' ∧ H a = some (.tup [v, .bl x.2]) ∧ PtV H x.1 v ∧ WsV H ws us' :=
  match us, h with
  | _ :: us', ⟨⟨a, v, h1, h2, h3⟩, h⟩ => ⟨a, v, us', by rw [h1], h2, h3, h⟩
theorem PtL.at {H : Hp} : ∀ {ts : List Pt} {vs : List V} {i : Nat} {v : V}, PtL H ts vs → vs[i]? = some v → ∃ t, ts[i]? = some t ∧ PtV H t v
  | t :: _, _ :: _, 0, _, h, e => by cases e; exact ⟨t, rfl, h.1⟩
  | _ :: ts, _ :: vs, i + 1, _, h, e => PtL.at (ts := ts) (vs := vs) h.2 e
  | [], [], _, _, _, e => by cases e
  | [], _ :: _, _, _, h, _ => h.elim
  | _ :: _, [], _, _, h, _ => h.elim
end
section
variable (T : Txt K mg)
theorem walk_revT {a : Addr} {xs : List V} : Walk (RT.ItvT K a xs.length) xs.length (fun H => SqT K H a xs) (fun i H x H' => H' = H ∧ xs[xs.length - 1 - i]? = some x) :=
  ⟨fun i _ hi q => ⟨hi, xs, xs[xs.length - 1 - i]'(by omega), q, by simp [show xs.length - 1 - i < xs.length by omega]⟩, fun _ _ => Nat.le_refl _, fun _ _ _ _ _ q y => ⟨y.1, y.2 xs q⟩⟩
theorem lc_revw {ts : List Pt} {us : List V} {a : Addr} {j : Nat} {σ : L2.St} {H : Hp} {Q : VK} (hn : us.length < 1000) (hq : H a = some (.tup us)) (hp : PtL H ts us) (hw : ∀ v : V, wipe ((wipe σ [j]).set j (some v)) [j] = wipe σ [j]) (hj : ∀ v : V, ((wipe σ [j]).set j (some v))[j]? = some (some v))
    (h : ∀ L Hc zs, Ex H Hc → H L = none → Hc L = some (.lst zs.reverse) → WsV Hc (asNew ts) zs → Q (.ref L) Hc) : lcB (gName j) tYes (tTup (tCons (tVar j) (tCons (tC (.bl false)) tNil))) [j] σ Q (RT.ItvT K a us.length) H := by
  have hl := hp.length
  intro L hL
  refine lc_it walk_revT (fun i Hc => i ≤ us.length ∧ Ex H Hc ∧ ∃ rs, Hc L = some (.lst rs.reverse) ∧ WsV Hc (asNew (ts.drop (ts.length - i))) rs)
    ⟨Nat.zero_le _, Evl.Ex.new hL, [], upd_same, by rw [Nat.sub_zero, List.drop_length]; exact True.intro⟩ (fun i Hc _ z => SqT.of (z.2.1 _ _ hq)) (fun i x Hc H' hi z y => ?_) fun Hc z => ?_
  · obtain ⟨i1, e1, rs, h1, h2⟩ := z
    obtain ⟨rfl, hx⟩ := y
    obtain ⟨t, ht, hv⟩ := hp.at hx
    refine ⟨hw x, rd_yes ?_⟩
    refine rd_iteT ?_
    refine rd_tup ?_
    refine ⟨_, hj x, ?_⟩
    walk_at "rc"
    refine ⟨by show 2 ≤ sizeLine; decide, fun q hq' => ?_⟩
    have nq : q ≠ L := fun z => by rw [z, h1] at hq'; cases hq'
    have hr := h2.length
    have k1 : KT H' (upd H' q (.tup [x, .bl false])) := .new hq'
    have hlen : (asNew (ts.drop (ts.length - i))).length = i := by unfold asNew; rw [List.length_map, List.length_drop]; omega
    have hd : ts.drop (ts.length - (i + 1)) = t :: ts.drop (ts.length - i) := by
      have e : us.length - 1 - i = ts.length - (i + 1) := by omega
      rw [e] at ht
      have e2 : ts.length - i = ts.length - (i + 1) + 1 := by omega
      rw [e2]
      obtain ⟨h5, h6⟩ := List.getElem?_eq_some_iff.mp ht
      rw [List.drop_eq_getElem_cons h5, h6]
    refine ⟨rs.reverse, by rw [upd_ne (Ne.symm nq)]; exact h1, ?_, hi, Evl.Ex.mut (ex_upd e1 hq') hL, .ref q :: rs, by rw [upd_same, List.reverse_cons], ?_⟩
    · rw [List.length_reverse, ← hr, hlen]
      exact Nat.lt_of_lt_of_le (Nat.lt_trans hi hn) (by decide)
    · rw [hd]
      have k2 : KT (upd H' q (.tup [x, .bl false])) (upd (upd H' q (.tup [x, .bl false])) L (.lst (rs.reverse ++ [.ref q]))) := .putL (by rw [upd_ne (Ne.symm nq)]; exact h1)
      exact ⟨⟨q, x, rfl, k2 _ _ upd_same, PtV.kt (((KT.ex e1).trans k1).trans k2) t hv⟩, WsV.kt (k1.trans k2) h2⟩
  · obtain ⟨_, e1, rs, h1, h2⟩ := z
    rw [hl, Nat.sub_self, List.drop_zero] at h2
    exact h L Hc rs e1 hL h1 h2
theorem rd_gn {i : Nat} {x : V} {σ : L2.St} {H : Hp} {Q : L2.St → Hp → Prop} (h : Q (σ.set i (some x)) H) : gName i x σ H Q := h
theorem rd_itecut {te1 te2 : TE} {c : Bool} {σ : L2.St} {H : Hp} {Q : VK} (Pv : V → Hp → Prop) (h1 : ∀ Q' : VK, (∀ y H', Pv y H' → Q' y H') → if c = true then te1 σ H Q' else te2 σ H Q') (h2 : ∀ y H', Pv y H' → Q y H') : if c = true then te1 σ H Q else te2 σ H Q := h1 Q h2
theorem rd_vcut {te : TE} {σ : L2.St} {H : Hp} {Q : VK} (Pv : V → Hp → Prop) (h1 : ∀ Q' : VK, (∀ y H', Pv y H' → Q' y H') → te σ H Q') (h2 : ∀ y H', Pv y H' → Q y H') : te σ H Q := h1 Q h2
theorem rd_tcut {tt : TT} {σ : L2.St} {H : Hp} {Q : Bool → Hp → Prop} (b : Bool) (h1 : ∀ Q' : Bool → Hp → Prop, Q' b H → tt σ H Q') (h2 : Q b H) : tt σ H Q := h1 Q h2
theorem fl_leaf {E : List Pt} {H : Hp} {v : V} : ∀ {t : Pt}, t.parts = [] → PtV H t v → ∃ q f, v = .ref q ∧ H q = some (.tup f.vs) ∧ FlOf E t f
  | .nul k, _, ⟨a, h1, h2⟩ => ⟨a, .nul k, h1, h2, rfl⟩
  | .one s, _, ⟨a, h1, h2⟩ => ⟨a, .one s, h1, h2, rfl⟩
  | .un _ _, h, _ => by cases h
  | .bi _ _ _, h, _ => by cases h
theorem fl_made {E : List Pt} {ns : List Nat} : ∀ {t : Pt}, t.parts ≠ [] → DnE E ns t.parts → ∃ f, FlOf E t f ∧ f.vs = [.str t.kind] ++ ns.map fun n : Nat => V.int (n : Int)
  | .nul k, h, _ => absurd rfl h
  | .one s, h, _ => absurd rfl h
  | .un k a, _, g => by
    match ns, g with
    | [n], g => exact ⟨.un k n, ⟨rfl, g.1⟩, rfl⟩
    | [], g => exact g.elim
    | _ :: _ :: _, g => exact g.2.elim
  | .bi k a b, _, g => by
    match ns, g with
    | [n, m], g => exact ⟨.bi k n m, ⟨rfl, g.1, g.2.1⟩, rfl⟩
    | [], g => exact g.elim
    | [_], g => exact g.2.elim
    | _ :: _ :: _ :: _, g => exact g.2.2.elim
theorem cut_from {xs ys : List V} : cutV (xs ++ ys) (some (xs.length : Int)) none = ys := by
  have e1 := HT.sIx_nat (xs ++ ys).length 0 xs.length
  unfold cutV
  rw [e1, HT.sIx_none, List.length_append, Nat.min_eq_left (Nat.le_add_right _ _), List.drop_left, Nat.add_sub_cancel_left, List.take_length]
theorem Pt.parts_len : ∀ t : Pt, t.parts.length ≤ 2
  | .nul _ => Nat.zero_le _
  | .one _ => Nat.zero_le _
  | .un _ _ => by show 1 ≤ 2; decide
  | .bi _ _ _ => Nat.le_refl _
structure FlI (w : World) (t : Pt) (nm d l : Addr) (H H' : Hp) (E : List Pt) (F : List Fl) (ds : List Nat) (es : List Pt) (ws : List (Pt × Bool)) (us : List V) (kvs : KA) : Prop where
  ex : Ex H H'
  hn : H' nm = some (dN w nm kvs)
  hd : H' d = some (.lst (ds.map fun n : Nat => V.int (n : Int)))
  hl : H' l = some (.lst us.reverse)
  wv : WsV H' ws us
  gd : Good t ws es
  dn : DnE E ds es
  tb : Tab E F
  kv : KvF H' F kvs 0
  bt : Bot t E ws
  oe : ∀ x ∈ E, x.ok
  ow : ∀ x ∈ ws, x.1.ok
  be : E.length + wt ws ≤ 2 * t.size
  bd : ds.length + wt ws ≤ 2 * t.size
/-- the terms in the order of their making, their parts as numbers -/
def spFlat : Sp := fun vs H Q _ => ∃ (t : Pt) (v : V), vs = [v] ∧ t.ok ∧ PtV H t v ∧ t.size ≤ 10000 ∧ ∀ l us E F H', Ex H H' → H' l = some (.lst us) → FlL H' F us → Tab E F → (∀ x ∈ E, x.ok ∧ x.size ≤ t.size) → E.getLast? = some t → E.length ≤ 2 * t.size → Q (.ref l) H'
theorem ok_flat_terms : FnOk P w K mg base CX0 2 T.a_flat_terms T.d_flat_terms ["pattern"] spFlat := by
  refine T.f_flat_terms.ok sc_flat_terms (fun vs H Q E h => ?_) (fun cdv A outer s H vs Q E hr h => ?_)
  · obtain ⟨_, _, rfl, _⟩ := h; rfl
  · obtain ⟨t, v, rfl, hk, hv, hs, q⟩ := h
    have sz : 100000 ≤ sizeLine := by decide
    refine ⟨_, (pss_cons (ps_set (i := 1) sc_flat_terms.nd rfl (by first | exact Or.inl rfl | exact Or.inr rfl) (pe_dnewN w rfl))
  (pss_cons (ps_set (i := 2) sc_flat_terms.nd rfl (by first | exact Or.inl rfl | exact Or.inr rfl) (pe_lst pa_nil))
  (pss_cons (ps_set (i := 3) sc_flat_terms.nd rfl (by first | exact Or.inl rfl | exact Or.inr rfl) (pe_lst (pa_cons (pe_tup (pa_cons (pv 0) (pa_cons pe_bl pa_nil))) pa_nil)))
  (pss_cons (ps_while PassesOwn.never (pt_truth (pv 3) (by intro _; rfl))
    (pss_cons (ps_asg (kBm0 K rfl (pe_bm0 PySem.F.plainAttrs_list PySem.F.slot_list_pop PySem.F.type_list_pop mt_pop (pv 3))) (kGt K rfl (pg_tup (n := 2) (by rfl) (pgs_cons (pg_name (i := 4) sc_flat_terms.nd rfl (by first | exact Or.inl rfl | exact Or.inr rfl)) (pgs_cons (pg_name (i := 5) sc_flat_terms.nd rfl (by first | exact Or.inl rfl | exact Or.inr rfl)) pgs_nil)))))
  (pss_cons (ps_set (i := 6) sc_flat_terms.nd rfl (by first | exact Or.inl rfl | exact Or.inr rfl) (pe_callE (ok_parts_of T) (hr.mono (by decide)) T.o_parts_of (pa_cons (pv 4) pa_nil)))
  (pss_one (ps_if (PW.pt (pw_and (pt_truth (pv 6) (by intro _; rfl)) (pw_and1 (pt_not (pt_val (pv 5))))))
    (pss_cons (ps_expr (kBm K rfl (pe_bm PySem.F.plainAttrs_list PySem.F.slot_list_append PySem.F.type_list_append mt_append (pv 3) (pa_cons (pe_tup (pa_cons (pv 4) (pa_cons pe_bl pa_nil))) pa_nil))))
  (pss_one (ps_expr (kBm K rfl (pe_bm PySem.F.plainAttrs_list PySem.F.slot_list_extend PySem.F.type_list_extend mt_extend (pv 3) (pa_cons (pe_lc (own := [("part", 7)]) (g := gName 7) (tt := tYes) (by rfl) sc_flat_terms.nd (kRevA K rfl (by rfl) T.nb_reversed (pv 6)) (blkOk_by (own := [("part", 7)]) (N := ["pattern", "numbers", "done", "waiting", "term", "has_parts", "parts", "part", "first", "flat"]) (sc := defScope s_flat_terms) (by decide +kernel)) (fun _ _ _ _ _ => (pg_name (i := 7) sc_flat_terms.nd rfl (by first | exact Or.inl rfl | exact Or.inr rfl))) (fun _ _ _ _ _ => pts_nil) (fun _ _ _ _ _ => (pe_tup (pa_cons (pv 7) (pa_cons pe_bl pa_nil))))) pa_nil))))))
    (pss_cons (ps_set (i := 8) sc_flat_terms.nd rfl (by first | exact Or.inl rfl | exact Or.inr rfl) (pe_op op_subP (pe_callB (kLen K) (by rfl) T.nb_len (by decide +kernel) (pa_cons (pv 2) pa_nil)) (pe_callB (kLen K) (by rfl) T.nb_len (by decide +kernel) (pa_cons (pv 6) pa_nil))))
  (pss_cons (ps_set (i := 9) sc_flat_terms.nd rfl (by first | exact Or.inl rfl | exact Or.inr rfl) (pe_ifExp (pt_truth (pv 6) (by intro _; rfl)) (pe_op (kAdd K) (pe_tup (pa_cons (pe_ix (kIx K) (pv 4) pe_int (fun _ _ => rfl)) pa_nil)) (pe_callTy (kTupOf K) (by rfl) T.nb_tuple (by decide +kernel) (pa_cons (pe_slice (kSl K) (pv 2) (po_some (pv 8)) po_none) pa_nil))) (pv 4)))
  (pss_cons (ps_delTl (pv 2) (pv 8))
  (pss_one (ps_expr (kBm K rfl (pe_bm PySem.F.plainAttrs_list PySem.F.slot_list_append PySem.F.type_list_append mt_append (pv 2) (pa_cons (pe_dsetdX w rfl (hu40 hr) (pv 1) (pv 9) (pe_callB (call_len_dN w rfl) (by rfl) T.nb_len (by decide +kernel) (pa_cons (pv 1) pa_nil)) ⟨by rfl, by rfl, by rfl, by rfl⟩) pa_nil)))))))))))))
  (pss_one (ps_ret (pe_callTy (call_list_dN w rfl (by rfl)) (by rfl) T.nb_list (by decide +kernel) (pa_cons (pv 1) pa_nil)))))))), ?_⟩
    walk_at "rc"
    intro nm hnm
    walk_at "rc"
    refine ⟨Nat.zero_le _, fun d hd => ?_⟩
    have nd : d ≠ nm := fun z => by rw [z, upd_same] at hd; cases hd
    have hdH : H d = none := by rw [upd_ne nd] at hd; exact hd
    walk_at "rc"
    refine ⟨by show 2 ≤ sizeLine; decide, fun w0 hw0 => ?_⟩
    walk_at "rc"
    refine ⟨by show 1 ≤ sizeLine; decide, fun l hl => ?_⟩
    have nl : l ≠ nm ∧ l ≠ d ∧ l ≠ w0 := by
      refine ⟨fun z => ?_, fun z => ?_, fun z => ?_⟩
      · have nw : w0 ≠ nm := fun z => by
          rw [z, upd_ne (Ne.symm nd), upd_same] at hw0
          cases hw0
        rw [z, upd_ne (Ne.symm nw), upd_ne (Ne.symm nd), upd_same] at hl
        cases hl
      · have nw : w0 ≠ d := fun z => by
          rw [z, upd_same] at hw0
          cases hw0
        rw [z, upd_ne (Ne.symm nw), upd_same] at hl
        cases hl
      · rw [z, upd_same] at hl
        cases hl
    have nw : w0 ≠ nm ∧ w0 ≠ d := by
      refine ⟨fun z => ?_, fun z => ?_⟩
      · rw [z, upd_ne (Ne.symm nd), upd_same] at hw0
        cases hw0
      · rw [z, upd_same] at hw0
        cases hw0
    have hlH : H l = none := by rw [upd_ne nl.2.2, upd_ne nl.2.1, upd_ne nl.1] at hl; exact hl
    walk_at "rc"
    walk_at "rs"
    refine rd_wh (fun mm σ H' => ∃ E F ds es ws us kvs k4 k5 k6 k7 k8 k9, σ = [some v, some (.ref nm), some (.ref d), some (.ref l), k4, k5, k6, k7, k8, k9] ∧ FlI w t nm d l H H' E F ds es ws us kvs ∧ mm = wt ws)
      _ ⟨[], [], [], [], [(t, false)], [.ref w0], [], _, _, _, _, _, _, rfl, ⟨?_, ?_, ?_, upd_same, ⟨⟨w0, v, rfl, ?_, ?_⟩, True.intro⟩, .new .fin, True.intro, .nil, True.intro, .inr ⟨[], false, rfl, (fun x hx => nomatch hx), fun x hx => nomatch hx⟩, (fun x hx => nomatch hx), (fun x hx => by rw [List.mem_singleton.mp hx]; exact hk), ?_, ?_⟩, rfl⟩ ?_
    · exact Evl.Ex.trans (Evl.Ex.new hnm) (Evl.Ex.trans (Evl.Ex.new hd) (Evl.Ex.trans (Evl.Ex.new hw0) (Evl.Ex.new hl)))
    · rw [upd_ne (Ne.symm nl.1), upd_ne (Ne.symm nw.1), upd_ne (Ne.symm nd), upd_same]
    · rw [upd_ne (Ne.symm nl.2.1), upd_ne (Ne.symm nw.2), upd_same]
      rfl
    · rw [upd_ne (Ne.symm nl.2.2), upd_same]
    · exact PtV.kt (.ex (Evl.Ex.trans (Evl.Ex.new hnm) (Evl.Ex.trans (Evl.Ex.new hd) (Evl.Ex.trans (Evl.Ex.new hw0) (Evl.Ex.new hl))))) t hv
    · show 0 + (2 * t.size + 0) ≤ _
      omega
    · show 0 + (2 * t.size + 0) ≤ _
      omega
    rintro mm σ H1 ⟨E1, F, ds, es, ws, us, kvs, k4, k5, k6, k7, k8, k9, rfl, J, rfl⟩
    walk_at "rc"
    refine ⟨!us.reverse.isEmpty, .inl ⟨_, SqL.of J.hl, rfl⟩, ?_⟩
    cases ws with
    | nil =>
      have e : us = [] := List.length_eq_zero_iff.mp J.wv.length.symm
      subst e
      refine rd_iteF ?_
      walk_at "rc"
      refine ⟨nm, kvs, rfl, J.hn, J.kv.ks, fun r hr => ?_⟩
      exact q r _ E1 F _ (Evl.Ex.trans J.ex (Evl.Ex.new hr)) upd_same (FlL.kt (.new hr) J.kv.fl) J.tb (fun x hx => ⟨J.oe x hx, J.bt.fin.2 x hx⟩) J.bt.fin.1 (by have := J.be; omega)
    | cons x ws =>
      obtain ⟨a, v1, us, rfl, ha, hv1, hws⟩ := J.wv.cons
      have h5 : (!((V.ref a :: us).reverse).isEmpty) = true := by simp
      rw [h5]
      refine rd_iteT ?_
      refine ⟨_, fun σ2 H2 z => z, ?_⟩
      walk_at "rc"
      refine rd_bm0 ?_
      walk_at "rc"
      refine ⟨.inl ⟨rfl, _, SqL.of J.hl⟩, ?_⟩
      have h6 : H1 l = some (.lst (us.reverse ++ [.ref a])) := by rw [J.hl, List.reverse_cons]
      have hlast : (us.reverse ++ [V.ref a])[(us.reverse ++ [V.ref a]).length - 1]? = some (.ref a) := by rw [List.length_append, List.length_singleton, Nat.add_sub_cancel, List.getElem?_append_right (Nat.le_refl _), Nat.sub_self]; rfl
      refine ⟨l, _, _, rfl, rfl, h6, hlast, ?_⟩
      rw [List.dropLast_concat]
      have k1 : KT H1 (upd H1 l (.lst us.reverse)) := .putL J.hl
      walk_at "rc"
      refine ⟨a, _, rfl, SqT.of (k1 _ _ ha), rfl, ?_⟩
      walk_at "rc"
      obtain ⟨t1, b⟩ := x
      have ok1 : t1.ok := J.ow _ List.mem_cons_self
      refine ⟨t1, v1, rfl, ok1, PtV.kt k1 t1 hv1, fun b1 ps H2 ex2 hps hpp => ?_⟩
      have k2 : KT H1 H2 := k1.trans (.ex ex2)
      have h2l : H2 l = some (.lst us.reverse) := ex2 l _ upd_same
      have h2d : H2 d = some (.lst (ds.map fun n : Nat => V.int (n : Int))) := ex2 d _ (by rw [upd_ne (Ne.symm nl.2.1)]; exact J.hd)
      have h2n : H2 nm = some (dN w nm kvs) := ex2 nm _ (by rw [upd_ne (Ne.symm nl.1)]; exact J.hn)
      have e2 : Ex H H2 := Evl.Ex.trans (J.ex.mut hlH) ex2
      have lpp := hpp.length
      have be := J.be
      have bd := J.bd
      have hl1 := wt_len ws
      have hsp := t1.size_parts
      have hspl := sizes_len t1.parts
      have hwl := hws.length
      have hwc : wt ((t1, b) :: ws) = wt1 (t1, b) + wt ws := wt_cons
      have hwp := wt1_pos (x := (t1, b))
      have hp2 := t1.parts_len
      refine rd_gn ?_
      dsimp only
      refine rd_if ?_
      refine rd_tcut ((!ps.isEmpty) && !b) (fun Q' hQ => ?_) ?_
      · walk_at "rc"
        refine ⟨!ps.isEmpty, .inr (.inl ⟨_, SqT.of hps, rfl⟩), ?_⟩
        cases hpe : (!ps.isEmpty) with
        | false =>
          rw [hpe] at hQ
          refine rd_iteF ?_
          exact hQ
        | true =>
          rw [hpe] at hQ
          refine rd_iteT ?_
          walk_at "rc"
          exact hQ
      refine rd_ite (fun hc => ?_) fun hc => ?_
      · have hb : b = false := by
          cases b
          · rfl
          · rw [Bool.not_true, Bool.and_false] at hc; cases hc
        subst hb
        have hpe : (!ps.isEmpty) = true := by rw [Bool.not_false, Bool.and_true] at hc; exact hc
        walk_at "rc"
        refine ⟨.inl ⟨rfl, _, SqL.of h2l⟩, ?_⟩
        walk_at "rc"
        refine ⟨by show 2 ≤ sizeLine; decide, fun r hr => ?_⟩
        walk_at "rc"
        have nr : r ≠ l := fun z => by rw [z, h2l] at hr; cases hr
        have f3 : Ex H2 (upd H2 r (.tup [v1, .bl true])) := Evl.Ex.new hr
        have h3l := f3 _ _ h2l
        refine ⟨l, _, _, rfl, rfl, h3l, by rw [List.length_reverse]; omega, ?_⟩
        generalize hH4 : upd (upd H2 r (HO.tup [v1, V.bl true])) l (HO.lst (us.reverse ++ [V.ref r])) = H4
        have h4l : H4 l = some (.lst (us.reverse ++ [.ref r])) := by rw [← hH4]; exact upd_same
        have h4n : H4 nm = some (dN w nm kvs) := by rw [← hH4, upd_ne (Ne.symm nl.1)]; exact f3 _ _ h2n
        have h4d := f3 _ _ h2d
        have h4d : H4 d = some (.lst (ds.map fun n : Nat => V.int (n : Int))) := by rw [← hH4, upd_ne (Ne.symm nl.2.1)]; exact h4d
        have k4 : KT H2 H4 := by rw [← hH4]; exact (KT.ex f3).trans (.putL h3l)
        have h4r : H4 r = some (.tup [v1, .bl true]) := by rw [← hH4, upd_ne nr]; exact upd_same
        have e4 : Ex H H4 := by rw [← hH4]; exact (Evl.Ex.trans e2 f3).mut hlH
        walk_at "rc"
        refine ⟨.inl ⟨rfl, _, SqL.of h4l⟩, ?_⟩
        walk_at "rc"
        refine ⟨_, rfl, b1, ps, rfl, .inr ⟨SqT.of (k4 _ _ hps), ?_⟩⟩
        refine lc_revw (us := ps) (by omega) (k4 _ _ hps) (PtL.kt k4 hpp) (fun _ => rfl) (fun _ => rfl) fun L Hc zs ex5 hL hLc hzs => ?_
        walk_at "rc"
        have h5l := ex5 _ _ h4l
        have lz := hzs.length
        have lz2 : (asNew t1.parts).length = t1.parts.length := List.length_map ..
        refine ⟨l, L, _, _, rfl, rfl, h5l, hLc, by rw [List.length_append, List.length_reverse, List.length_reverse, List.length_singleton]; omega, ?_⟩
        walk_at "rc"
        have k6 : KT Hc (upd Hc l (.lst ((us.reverse ++ [.ref r]) ++ zs.reverse))) := .putL h5l
        have k5 : KT H4 (upd Hc l (.lst ((us.reverse ++ [.ref r]) ++ zs.reverse))) := (KT.ex ex5).trans k6
        have hwo := wt_open (t := t1) (ws := ws)
        refine ⟨wt (asNew t1.parts ++ (t1, true) :: ws), by omega, E1, F, ds, es, asNew t1.parts ++ (t1, true) :: ws, zs ++ .ref r :: us, kvs, _, _, _, _, _, _, rfl, ⟨(Evl.Ex.trans e4 ex5).mut hlH, ?_, ?_, ?_, (WsV.app (ws2 := (t1, true) :: ws) (us2 := .ref r :: us) ⟨⟨r, v1, rfl, k5 _ _ h4r, PtV.kt (k2.trans (k4.trans k5)) t1 hv1⟩, WsV.kt (k2.trans (k4.trans k5)) hws⟩ (WsV.kt k6 hzs)), J.gd.open, J.dn, J.tb, J.kv.kt (k2.trans (k4.trans k5)), J.bt.open, J.oe, fun x hx => ?_, by omega, by omega⟩, rfl⟩
        · rw [upd_ne (Ne.symm nl.1)]; exact ex5 _ _ h4n
        · rw [upd_ne (Ne.symm nl.2.1)]; exact ex5 _ _ h4d
        · rw [upd_same, List.reverse_append, List.reverse_cons]
        · rcases List.mem_append.mp hx with hx | hx
          · exact Pt.ok_parts ok1 _ (mem_new hx)
          · rcases List.mem_cons.mp hx with e | hx
            · rw [e]; exact ok1
            · exact J.ow _ (List.mem_cons_of_mem _ hx)
      · have hb2 : b = false → t1.parts = [] := fun z => by
          subst z
          have e : ps = [] := by
            cases ps with
            | nil => rfl
            | cons _ _ => cases hc
          rw [e] at lpp
          exact List.length_eq_zero_iff.mp lpp
        obtain ⟨es0, ees, hg⟩ := J.gd.done hb2
        obtain ⟨d1, d2, eds, hd1, hd2⟩ := (show DnE E1 ds (es0 ++ t1.parts) from ees ▸ J.dn).split
        have ld2 := hd2.length
        subst eds
        rw [List.length_append] at bd
        have e8 : (((List.map (fun n : Nat => V.int (n : Int)) (d1 ++ d2)).length : Nat) : Int) - ((ps.length : Nat) : Int) = ((d1.length : Nat) : Int) := by
          rw [List.length_map, List.length_append]
          omega
        walk_at "rc"
        refine rd_lenL (SqL.of h2d) ?_
        walk_at "rc"
        refine rd_lenT (SqT.of hps) ?_
        walk_at "rc"
        rw [e8]
        refine rd_vcut (fun y H3 => ∃ q f, y = .ref q ∧ Ex H2 H3 ∧ H3 q = some (.tup f.vs) ∧ FlOf E1 t1 f) (fun Q' hQ => ?_) ?_
        · refine rd_ife ?_
          walk_at "rc"
          refine ⟨!ps.isEmpty, .inr (.inl ⟨_, SqT.of hps, rfl⟩), ?_⟩
          by_cases hp0 : t1.parts = []
          · have e : ps = [] := by
              rw [hp0] at lpp
              exact List.length_eq_zero_iff.mp lpp.symm
            subst e
            refine rd_iteF ?_
            walk_at "rc"
            obtain ⟨qa, f, h1, h2, h3⟩ := fl_leaf (E := E1) hp0 hv1
            exact hQ _ _ ⟨qa, f, h1, Evl.Ex.refl _, k2 _ _ h2, h3⟩
          · have e : (!ps.isEmpty) = true := by
              cases ps with
              | nil => exact absurd (List.length_eq_zero_iff.mp lpp) hp0
              | cons _ _ => rfl
            rw [e]
            refine rd_iteT ?_
            obtain ⟨f, hf1, hf2⟩ := fl_made hp0 hd2
            obtain ⟨a1, us1, rfl, ha1, _⟩ := hv1.at
            walk_at "rc"
            refine rd_ixT (SqT.of (k2 _ _ ha1)) (atI_nat (j := 0) rfl) ?_
            walk_at "rc"
            refine ⟨by show 1 ≤ sizeLine; decide, fun x1 hx1 => ?_⟩
            walk_at "rc"
            have h3d := (Evl.Ex.new (o := .tup [.str (t1, b).fst.kind]) hx1) _ _ h2d
            have hcut : cutV (List.map (fun n : Nat => V.int (n : Int)) (d1 ++ d2)) (some (d1.length : Int)) none = d2.map fun n : Nat => V.int (n : Int) := by
              have e := cut_from (xs := d1.map fun n : Nat => V.int (n : Int)) (ys := d2.map fun n : Nat => V.int (n : Int))
              rw [List.length_map] at e
              rw [List.map_append]
              exact e
            refine .inl ⟨d, _, rfl, SqL.of h3d, fun x2 hx2 => ?_⟩
            rw [hcut]
            walk_at "rc"
            refine rd_tupL (SqL.of upd_same) fun x3 hx3 => ?_
            walk_at "rc"
            have nx2 : x2 ≠ x1 := fun z => by rw [z, upd_same] at hx2; cases hx2
            have nx3 : x3 ≠ x1 := fun z => by rw [z, upd_ne (Ne.symm nx2), upd_same] at hx3; cases hx3
            refine .inr (.inr (.inr ⟨x1, x3, _, _, rfl, rfl, SqT.of (by rw [upd_ne (Ne.symm nx3), upd_ne (Ne.symm nx2), upd_same]), SqT.of upd_same, List.cons_ne_nil _ _, by rw [List.length_map, List.length_singleton]; omega, fun z => ?_, fun _ x4 hx4 => ?_⟩))
            · have z2 : d2.length = 0 := by rw [← List.length_map (f := fun n : Nat => V.int (n : Int)), z]; rfl
              exact absurd (List.length_eq_zero_iff.mp (ld2.symm.trans z2)) hp0
            · exact hQ _ _ ⟨x4, f, rfl, Evl.Ex.trans (Evl.Ex.new hx1) (Evl.Ex.trans (Evl.Ex.new hx2) (Evl.Ex.trans (Evl.Ex.new hx3) (Evl.Ex.new hx4))), by rw [upd_same, hf2], hf1⟩
        · rintro y H3 ⟨q5, f, rfl, e3, hq5, hf⟩
          have h3d := e3 _ _ h2d
          have htk : (List.map (fun n : Nat => V.int (n : Int)) (d1 ++ d2)).take d1.length = d1.map fun n : Nat => V.int (n : Int) := by
            rw [List.map_append, List.take_append_of_le_length (by rw [List.length_map]; exact Nat.le_refl _), List.take_of_length_le (by rw [List.length_map]; exact Nat.le_refl _)]
          walk_at "rc"
          refine rd_gn ?_
          dsimp only
          walk_at "rc"
          refine rd_delTl ?_
          walk_at "rc"
          refine ⟨d, _, d1.length, rfl, rfl, h3d, by rw [List.length_map, List.length_append]; omega, ?_⟩
          rw [htk]
          generalize hH4 : upd H3 d (HO.lst (List.map (fun n : Nat => V.int (n : Int)) d1)) = H4
          have h4d : H4 d = some (.lst (d1.map fun n : Nat => V.int (n : Int))) := by rw [← hH4]; exact upd_same
          have h4n : H4 nm = some (dN w nm kvs) := by rw [← hH4, upd_ne (Ne.symm nd)]; exact e3 _ _ h2n
          have h4l : H4 l = some (.lst us.reverse) := by rw [← hH4, upd_ne nl.2.1]; exact e3 _ _ h2l
          have k34 : KT H3 H4 := by rw [← hH4]; exact .putL h3d
          have k14 : KT H1 H4 := (k2.trans (.ex e3)).trans k34
          have e4 : Ex H H4 := by rw [← hH4]; exact (Evl.Ex.trans e2 e3).mut hdH
          have kv4 := J.kv.kt k14
          have lkv := kv4.length
          have ltb := J.tb.n
          have ld1 := hd1.length
          walk_at "rc"
          refine ⟨.inl ⟨rfl, _, SqL.of h4d⟩, ?_⟩
          walk_at "rc"
          refine rd_dsetdX ?_
          walk_at "rc"
          refine ⟨⟨nm, kvs, rfl, h4n, kv4.ks⟩, ?_⟩
          walk_at "rc"
          refine ⟨nm, kvs, rfl, h4n, kv4.ks, ?_⟩
          walk_at "rc"
          have h4q := k34 _ _ hq5
          refine ⟨nm, kvs, f.key, rfl, ⟨h4n, kv4.ks, Fl.kyn h4q⟩, by omega, fun vv hvv => ?_, fun hno => ?_⟩
          · obtain ⟨j, hj, rfl⟩ := kv4.val hvv
            obtain ⟨t', ht'⟩ : ∃ t', E1[j]? = some t' := ⟨_, List.getElem?_eq_getElem (by rw [ltb]; exact (List.getElem?_eq_some_iff.mp hj).1)⟩
            have et : t' = t1 := FlOf.inj ((J.tb.fl j t' f ht' hj).mono fun _ _ h => take_at h) hf
            subst et
            walk_at "rc"
            refine ⟨d, _, _, rfl, rfl, h4d, by rw [List.length_map]; omega, ?_⟩
            walk_at "rc"
            have k6 : KT H4 (upd H4 d (.lst ((d1.map fun n : Nat => V.int (n : Int)) ++ [V.int ((0 + j : Nat) : Int)]))) := .putL h4d
            refine ⟨wt ws, by omega, E1, F, d1 ++ [j], es0 ++ [t'], ws, us, kvs, _, _, _, _, _, _, rfl, ⟨e4.mut hdH, ?_, ?_, ?_, WsV.kt (k14.trans k6) hws, hg, hd1.app ht', J.tb, kv4.kt k6, J.bt.old (List.mem_of_getElem? ht'), J.oe, fun x hx => J.ow _ (List.mem_cons_of_mem _ hx), by omega, by rw [List.length_append, List.length_singleton]; omega⟩, rfl⟩
            · rw [upd_ne (Ne.symm nd)]; exact h4n
            · rw [upd_same, List.map_append, Nat.zero_add]; rfl
            · rw [upd_ne nl.2.1]; exact h4l
          · generalize hH5 : upd H4 nm (dN w nm (kvs ++ [(f.key, V.ref q5, V.int ((List.length kvs : Nat) : Int))])) = H5
            have k5 : KT H4 H5 := by rw [← hH5]; exact .put fun xs e => by rw [h4n] at e; cases e
            have h5d : H5 d = some (.lst (d1.map fun n : Nat => V.int (n : Int))) := by rw [← hH5, upd_ne nd]; exact h4d
            have h5n : H5 nm = some (dN w nm (kvs ++ [(f.key, V.ref q5, V.int ((List.length kvs : Nat) : Int))])) := by rw [← hH5]; exact upd_same
            have h5l : H5 l = some (.lst us.reverse) := by rw [← hH5, upd_ne nl.1]; exact h4l
            have e5 : Ex H H5 := by rw [← hH5]; exact e4.mut hnm
            walk_at "rc"
            refine ⟨d, _, _, rfl, rfl, h5d, by rw [List.length_map]; omega, ?_⟩
            walk_at "rc"
            have k6 : KT H5 (upd H5 d (.lst ((d1.map fun n : Nat => V.int (n : Int)) ++ [V.int ((List.length kvs : Nat) : Int)]))) := .putL h5d
            have mo : ∀ (i : Nat) x, E1[i]? = some x → (E1 ++ [t1])[i]? = some x := fun i x h => by rw [List.getElem?_append_left (List.getElem?_eq_some_iff.mp h).1]; exact h
            have gl : (E1 ++ [t1])[List.length kvs]? = some t1 := by
              rw [← lkv, ← ltb, List.getElem?_append_right (Nat.le_refl _), Nat.sub_self]
              rfl
            refine ⟨wt ws, by omega, E1 ++ [t1], F ++ [f], d1 ++ [List.length kvs], es0 ++ [t1], ws, us, _, _, _, _, _, _, _, rfl, ⟨e5.mut hdH, ?_, ?_, ?_, WsV.kt ((k14.trans k5).trans k6) hws, hg, (hd1.mono mo).app gl, J.tb.snoc hf, (KvF.snoc ((k5.trans k6) _ _ h4q) (kv4.kt (k5.trans k6)) (by rw [Nat.zero_add])), J.bt.new, fun x hx => ?_, fun x hx => J.ow _ (List.mem_cons_of_mem _ hx), by rw [List.length_append, List.length_singleton]; omega, by rw [List.length_append, List.length_singleton]; omega⟩, rfl⟩
            · rw [upd_ne (Ne.symm nd)]; exact h5n
            · rw [upd_same, List.map_append]; rfl
            · rw [upd_ne nl.2.1]; exact h5l
            · rcases List.mem_append.mp hx with hx | hx
              · exact J.oe x hx
              · rw [List.mem_singleton.mp hx]; exact ok1
end
section
inductive Star (L : List Nat → Prop) : List Nat → Prop
  | nil : Star L []
  | app {x y : List Nat} : Star L x → L y → Star L (x ++ y)
end
section
/-! ### numbers by their bits -/
def enc (p : Nat → Bool) : Nat → Nat
  | 0 => 0
  | k + 1 => enc p k + (if p k = true then 2 ^ k else 0)
theorem enc_lt {p : Nat → Bool} : ∀ k, enc p k < 2 ^ k
  | 0 => by show 0 < 1; omega
  | k + 1 => by
    have h := enc_lt (p := p) k
    show enc p k + _ < 2 ^ (k + 1)
    rw [Nat.pow_succ]
    split <;> omega
theorem enc_congr {p q : Nat → Bool} : ∀ {k : Nat}, (∀ i, i < k → p i = q i) → enc p k = enc q k
  | 0, _ => rfl
  | k + 1, h => by
    show enc p k + (if p k = true then 2 ^ k else 0) = enc q k + (if q k = true then 2 ^ k else 0)
    rw [enc_congr fun i hi => h i (Nat.lt_succ_of_lt hi), h k (Nat.lt_succ_self k)]
theorem enc_bit {p : Nat → Bool} {i : Nat} : ∀ k, (enc p k).testBit i = (decide (i < k) && p i)
  | 0 => by show (0 : Nat).testBit i = _; rw [Nat.zero_testBit]; rfl
  | k + 1 => by
    have h := enc_bit (p := p) (i := i) k
    have l := enc_lt (p := p) k
    show (enc p k + (if p k = true then 2 ^ k else 0)).testBit i = _
    rcases Nat.lt_trichotomy i k with hi | hi | hi
    · rw [decide_eq_true (show i < k + 1 by omega), Bool.true_and]
      rw [decide_eq_true hi, Bool.true_and] at h
      split
      · rw [Nat.add_comm, Nat.testBit_two_pow_add_gt hi]; exact h
      · exact h
    · subst hi
      rw [decide_eq_true (show i < i + 1 by omega), Bool.true_and]
      rw [decide_eq_false (Nat.lt_irrefl i), Bool.false_and] at h
      split
      · rename_i e
        rw [Nat.add_comm, Nat.testBit_two_pow_add_eq, h, e]; rfl
      · rename_i e
        rw [Nat.add_zero, h]
        cases z : p i
        · rfl
        · exact absurd z e
    · rw [decide_eq_false (show ¬ i < k + 1 by omega), Bool.false_and]
      have l2 := enc_lt (p := p) (k + 1)
      exact Nat.testBit_lt_two_pow (Nat.lt_of_lt_of_le l2 (Nat.pow_le_pow_right (by omega) hi))
theorem enc_of {N k : Nat} {p : Nat → Bool} (h : ∀ i, N.testBit i = (decide (i < k) && p i)) : N = enc p k := Nat.eq_of_testBit_eq fun i => by rw [h, enc_bit]
theorem enc_zero {k : Nat} {p : Nat → Bool} (h : ∀ i, i < k → p i = false) : enc p k = 0 := (enc_of (N := 0) fun i => by
  rw [Nat.zero_testBit]
  by_cases hi : i < k
  · rw [h i hi, Bool.and_false]
  · rw [decide_eq_false hi]; rfl).symm
theorem enc_one {k s : Nat} (h : s < k) : enc (fun i => decide (i = s)) k = 2 ^ s := (enc_of fun i => by
  rw [Nat.testBit_two_pow]
  by_cases e : s = i
  · subst e; simp [h]
  · simp [e, Ne.symm e]).symm
theorem enc_or {p q : Nat → Bool} {k : Nat} : enc p k ||| enc q k = enc (fun i => p i || q i) k := enc_of fun i => by
  rw [Nat.testBit_or, enc_bit, enc_bit]
  cases decide (i < k) <;> rfl
theorem enc_and {p q : Nat → Bool} {k : Nat} : enc p k &&& enc q k = enc (fun i => p i && q i) k := enc_of fun i => by
  rw [Nat.testBit_and, enc_bit, enc_bit]
  cases decide (i < k) <;> rfl
theorem enc_sub {p q : Nat → Bool} : ∀ {k : Nat}, (∀ i, i < k → q i = true → p i = true) → enc (fun i => p i && !q i) k + enc q k = enc p k
  | 0, _ => rfl
  | k + 1, h => by
    have ih := enc_sub (p := p) (q := q) fun i hi => h i (Nat.lt_succ_of_lt hi)
    have hk := h k (Nat.lt_succ_self k)
    show enc (fun i => p i && !q i) k + (if (p k && !q k) = true then 2 ^ k else 0) + (enc q k + (if q k = true then 2 ^ k else 0)) = enc p k + (if p k = true then 2 ^ k else 0)
    cases e1 : p k <;> cases e2 : q k
    · simp; omega
    · rw [e1] at hk; exact absurd (hk e2) (by decide)
    · simp; omega
    · simp; omega
theorem enc_ge {s : Nat} : ∀ {k : Nat}, s ≤ k → enc (fun i => decide (s ≤ i)) k + 2 ^ s = 2 ^ k
  | 0, h => by have : s = 0 := by omega
               subst this; rfl
  | k + 1, h => by
    show enc _ k + (if decide (s ≤ k) = true then 2 ^ k else 0) + 2 ^ s = _
    by_cases e : s ≤ k
    · have ih := enc_ge e
      rw [if_pos (decide_eq_true e), Nat.pow_succ]
      omega
    · have : s = k + 1 := by omega
      subst this
      rw [if_neg (by simp), enc_zero fun i hi => decide_eq_false (by omega)]
      omega
/-- the highest bit -/
theorem enc_top {p : Nat → Bool} : ∀ {k : Nat}, enc p k = 0 ∨ ∃ m, m < k ∧ p m = true ∧ (∀ j, m < j → j < k → p j = false) ∧ enc p k = enc p m + 2 ^ m
  | 0 => .inl rfl
  | k + 1 => by
    cases e : p k
    · have hs : enc p (k + 1) = enc p k := by show enc p k + (if p k = true then 2 ^ k else 0) = _; rw [e]; rfl
      rcases enc_top (p := p) (k := k) with h | ⟨m, h1, h2, h3, h4⟩
      · exact .inl (hs.trans h)
      · refine .inr ⟨m, by omega, h2, fun j a b => ?_, hs.trans h4⟩
        by_cases z : j = k
        · subst z; exact e
        · exact h3 j a (by omega)
    · exact .inr ⟨k, by omega, e, fun j a b => by omega, by show enc p k + (if p k = true then 2 ^ k else 0) = _; rw [e]; rfl⟩
theorem enc_zero' {p : Nat → Bool} {k : Nat} (h : enc p k = 0) {i : Nat} (hi : i < k) : p i = false := by
  have := enc_bit (p := p) (i := i) k
  rw [h, Nat.zero_testBit, decide_eq_true hi, Bool.true_and] at this
  exact this.symm
theorem top_log {p : Nat → Bool} {m : Nat} : (enc p m + 2 ^ m).log2 = m := by
  have h := enc_lt (p := p) m
  have h1 : 2 ^ m ≤ enc p m + 2 ^ m := by omega
  have h0 : enc p m + 2 ^ m ≠ 0 := by have := Nat.two_pow_pos m; omega
  have h2 : enc p m + 2 ^ m < 2 ^ (m + 1) := by rw [Nat.pow_succ]; omega
  have a := (Nat.le_log2 h0).mpr h1
  have b := (Nat.log2_lt h0).mpr h2
  omega
end
section
/-! ### what patterns mean -/
theorem Star.cons {L : List Nat → Prop} {a b : List Nat} (ha : L a) (hb : Star L b) : Star L (a ++ b) := by
  induction hb with
  | nil => rw [List.append_nil]; exact .app .nil ha
  | app h1 h2 ih => rw [← List.append_assoc]; exact .app ih h2
theorem star_first {L : List Nat → Prop} {u : List Nat} (h : Star L u) : u = [] ∨ ∃ i, 0 < i ∧ i ≤ u.length ∧ L (u.take i) ∧ Star L (u.drop i) := by
  induction h with
  | nil => exact .inl rfl
  | app h1 h2 ih =>
    rename_i x y
    rcases ih with rfl | ⟨i, i0, i1, hl, hs⟩
    · cases y with
      | nil => exact .inl rfl
      | cons c y => exact .inr ⟨(c :: y).length, Nat.succ_pos _, Nat.le_refl _, by rw [List.nil_append, List.take_length]; exact h2, by rw [List.nil_append, List.drop_length]; exact .nil⟩
    · refine .inr ⟨i, i0, by rw [List.length_append]; omega, ?_, ?_⟩
      · rw [List.take_append_of_le_length i1]; exact hl
      · rw [List.drop_append_of_le_length i1]; exact .app hs h2
theorem star_iff {L : List Nat → Prop} {u : List Nat} : Star L u ↔ u = [] ∨ ∃ i, 0 < i ∧ i ≤ u.length ∧ L (u.take i) ∧ Star L (u.drop i) := by
  refine ⟨star_first, fun h => ?_⟩
  rcases h with rfl | ⟨i, _, _, h1, h2⟩
  · exact .nil
  · have := Star.cons h1 h2
    rwa [List.take_append_drop] at this
theorem Star.congr {L M : List Nat → Prop} (h : ∀ u, L u ↔ M u) {u : List Nat} : Star L u ↔ Star M u := by
  have : L = M := funext fun u => propext (h u)
  rw [this]
theorem Star.map {L : List Nat → Prop} {f : Nat → Nat} {u : List Nat} : Star L (u.map f) ↔ Star (fun v => L (v.map f)) u := by
  constructor
  · intro h
    generalize e : u.map f = w at h
    induction h generalizing u with
    | nil => rw [List.map_eq_nil_iff.mp e]; exact .nil
    | app h1 h2 ih =>
      obtain ⟨a, b, rfl, rfl, rfl⟩ := List.map_eq_append_iff.mp e
      exact .app (ih rfl) h2
  · intro h
    induction h with
    | nil => exact .nil
    | app h1 h2 ih => rw [List.map_append]; exact .app ih h2
/-- a part of a text -/
def sl (u : List Nat) (i j : Nat) : List Nat := (u.take j).drop i
theorem sl_len {u : List Nat} {i j : Nat} (hj : j ≤ u.length) : (sl u i j).length = j - i := by
  unfold sl
  rw [List.length_drop, List.length_take, Nat.min_eq_left hj]
theorem sl_take {u : List Nat} {i m j : Nat} (h : i ≤ m) (h2 : m ≤ j) : (sl u i j).take (m - i) = sl u i m := by
  unfold sl
  rw [List.take_drop, Nat.add_sub_cancel' h, List.take_take, Nat.min_eq_left h2]
theorem sl_drop {u : List Nat} {i m j : Nat} (h : i ≤ m) : (sl u i j).drop (m - i) = sl u m j := by
  unfold sl
  rw [List.drop_drop, Nat.add_sub_cancel' h]
theorem sl_nil {u : List Nat} {i j : Nat} (hj : j ≤ u.length) : sl u i j = [] ↔ j ≤ i := by
  rw [← List.length_eq_zero_iff, sl_len hj]; omega
theorem sl_all (u : List Nat) : sl u 0 u.length = u := by unfold sl; rw [List.take_length, List.drop_zero]
theorem sl_one {u : List Nat} {i j c : Nat} (hj : j ≤ u.length) : sl u i j = [c] ↔ j = i + 1 ∧ u[i]? = some c := by
  constructor
  · intro h
    have l := sl_len (u := u) (i := i) hj
    rw [h] at l
    have e : j = i + 1 := by simp at l; omega
    refine ⟨e, ?_⟩
    subst e
    have : (sl u i (i + 1))[0]? = some c := by rw [h]; rfl
    unfold sl at this
    rw [List.getElem?_drop, List.getElem?_take] at this
    simpa using this
  · rintro ⟨rfl, h⟩
    unfold sl
    rw [List.take_succ, h, List.drop_append_of_le_length (by rw [List.length_take]; omega), List.drop_of_length_le (by rw [List.length_take]; omega)]
    rfl
open Classical in
/-- the bits of the ends of a matching part that begins at i -/
noncomputable def eb (u : List Nat) (L : List Nat → Prop) (i : Nat) (j : Nat) : Bool := decide (i ≤ j ∧ L (sl u i j))
open Classical in
theorem eb_iff {u : List Nat} {L : List Nat → Prop} {i j : Nat} : eb u L i j = true ↔ i ≤ j ∧ L (sl u i j) := by unfold eb; rw [decide_eq_true_iff]
theorem eb_ext {u : List Nat} {L : List Nat → Prop} {i j : Nat} {b : Bool} (h : (i ≤ j ∧ L (sl u i j)) ↔ b = true) : eb u L i j = b := Bool.eq_iff_iff.mpr (eb_iff.trans h)
noncomputable def En (u : List Nat) (L : List Nat → Prop) (i : Nat) : Nat := enc (eb u L i) (u.length + 1)
theorem En_bit {u : List Nat} {L : List Nat → Prop} {i j : Nat} : (En u L i).testBit j = true ↔ j ≤ u.length ∧ i ≤ j ∧ L (sl u i j) := by
  unfold En
  rw [enc_bit, Bool.and_eq_true, decide_eq_true_iff, eb_iff, Nat.lt_succ_iff]
theorem En_of {u : List Nat} {L : List Nat → Prop} {i N : Nat} (h : ∀ j, N.testBit j = true ↔ j ≤ u.length ∧ i ≤ j ∧ L (sl u i j)) : N = En u L i := Nat.eq_of_testBit_eq fun j => Bool.eq_iff_iff.mpr ((h j).trans En_bit.symm)
theorem En_congr {u : List Nat} {L M : List Nat → Prop} {i : Nat} (h : ∀ v, L v ↔ M v) : En u L i = En u M i := En_of fun j => by rw [En_bit, h]
theorem En_none {u : List Nat} {i : Nat} : En u (fun _ => False) i = 0 := (En_of fun j => by rw [Nat.zero_testBit]; simp).symm
theorem En_empty {u : List Nat} {i : Nat} (hi : i ≤ u.length) : En u (fun v => v = []) i = 2 ^ i := (En_of fun j => by
  rw [Nat.testBit_two_pow, decide_eq_true_iff]
  constructor
  · rintro rfl
    exact ⟨hi, Nat.le_refl _, (sl_nil hi).mpr (Nat.le_refl _)⟩
  · rintro ⟨h1, h2, h3⟩
    have := (sl_nil h1).mp h3
    omega).symm
theorem En_one {u s : List Nat} {i : Nat} : En u (fun v => ∃ c ∈ s, v = [c]) i = if (u[i]?).any (fun c => decide (c ∈ s)) = true then 2 ^ (i + 1) else 0 := (En_of fun j => by
  cases h : u[i]? with
  | none =>
    rw [if_neg (by simp), Nat.zero_testBit]
    refine ⟨(nomatch ·), ?_⟩
    rintro ⟨h1, h2, c, h3, h4⟩
    rw [((sl_one h1).mp h4).2] at h
    cases h
  | some c =>
    have hi := (List.getElem?_eq_some_iff.mp h).1
    by_cases hc : c ∈ s
    · rw [if_pos (by simpa using hc), Nat.testBit_two_pow, decide_eq_true_iff]
      constructor
      · rintro rfl
        exact ⟨hi, Nat.le_succ _, c, hc, (sl_one hi).mpr ⟨rfl, h⟩⟩
      · rintro ⟨h1, h2, c', h3, h4⟩
        exact ((sl_one h1).mp h4).1.symm
    · rw [if_neg (by simpa using hc), Nat.zero_testBit]
      refine ⟨(nomatch ·), ?_⟩
      rintro ⟨h1, h2, c', h3, h4⟩
      rw [((sl_one h1).mp h4).2] at h
      cases h
      exact absurd h3 hc).symm
theorem En_not {u : List Nat} {L : List Nat → Prop} {i : Nat} (hi : i ≤ u.length) : En u (fun v => ¬ L v) i + En u L i + 2 ^ i = 2 ^ (u.length + 1) := by
  have h1 := enc_sub (p := fun j => decide (i ≤ j)) (q := eb u L i) (k := u.length + 1) fun j _ h => decide_eq_true (eb_iff.mp h).1
  have h2 : enc (fun j => decide (i ≤ j) && !eb u L i j) (u.length + 1) = En u (fun v => ¬ L v) i := by
    refine En_of fun j => ?_
    rw [enc_bit, Bool.and_eq_true, decide_eq_true_iff, Bool.and_eq_true, decide_eq_true_iff, Nat.lt_succ_iff, Bool.not_eq_true', ← Bool.not_eq_true, eb_iff]
    exact ⟨fun ⟨a, b, c⟩ => ⟨a, b, fun z => c ⟨b, z⟩⟩, fun ⟨a, b, c⟩ => ⟨a, b, fun z => c z.2⟩⟩
  rw [h2] at h1
  have h3 := enc_ge (s := i) (k := u.length + 1) (by omega)
  rw [← h1] at h3
  exact h3
theorem En_and {u : List Nat} {L M : List Nat → Prop} {i : Nat} : En u L i &&& En u M i = En u (fun v => L v ∧ M v) i := En_of fun j => by
  rw [Nat.testBit_and, Bool.and_eq_true, En_bit, En_bit]
  exact ⟨fun ⟨⟨a, b, c⟩, _, _, d⟩ => ⟨a, b, c, d⟩, fun ⟨a, b, c, d⟩ => ⟨⟨a, b, c⟩, a, b, d⟩⟩
theorem En_or {u : List Nat} {L M : List Nat → Prop} {i : Nat} : En u L i ||| En u M i = En u (fun v => L v ∨ M v) i := En_of fun j => by
  rw [Nat.testBit_or, Bool.or_eq_true, En_bit, En_bit]
  exact ⟨fun h => h.elim (fun ⟨a, b, c⟩ => ⟨a, b, .inl c⟩) (fun ⟨a, b, c⟩ => ⟨a, b, .inr c⟩), fun ⟨a, b, c⟩ => c.elim (fun z => .inl ⟨a, b, z⟩) fun z => .inr ⟨a, b, z⟩⟩
def Jn (L M : List Nat → Prop) (v : List Nat) : Prop := ∃ i, i ≤ v.length ∧ L (v.take i) ∧ M (v.drop i)
theorem En_join {u : List Nat} {L M : List Nat → Prop} {i N : Nat} (h : ∀ j, N.testBit j = true ↔ ∃ m, m < u.length + 1 ∧ eb u L i m = true ∧ (En u M m).testBit j = true) : N = En u (Jn L M) i := En_of fun j => by
  rw [h]
  constructor
  · rintro ⟨m, h1, h2, h3⟩
    obtain ⟨h4, h5⟩ := eb_iff.mp h2
    obtain ⟨h6, h7, h8⟩ := En_bit.mp h3
    exact ⟨h6, by omega, m - i, by rw [sl_len h6]; omega, by rw [sl_take h4 h7]; exact h5, by rw [sl_drop h4]; exact h8⟩
  · rintro ⟨h1, h2, k, h3, h4, h5⟩
    rw [sl_len h1] at h3
    refine ⟨i + k, by omega, eb_iff.mpr ⟨by omega, ?_⟩, En_bit.mpr ⟨h1, by omega, ?_⟩⟩
    · rw [← sl_take (j := j) (by omega) (by omega), Nat.add_sub_cancel_left]; exact h4
    · rw [← sl_drop (i := i) (by omega), Nat.add_sub_cancel_left]; exact h5
theorem En_star {u : List Nat} {L : List Nat → Prop} {i N : Nat} (hi : i ≤ u.length) (h : ∀ j, N.testBit j = true ↔ ∃ m, m < u.length + 1 ∧ (eb u L i m && !decide (m = i)) = true ∧ (En u (Star L) m).testBit j = true) : 2 ^ i ||| N = En u (Star L) i := En_of fun j => by
  rw [Nat.testBit_or, Bool.or_eq_true, Nat.testBit_two_pow, decide_eq_true_iff, h]
  constructor
  · rintro (rfl | ⟨m, h1, h2, h3⟩)
    · exact ⟨hi, Nat.le_refl _, by rw [(sl_nil hi).mpr (Nat.le_refl _)]; exact .nil⟩
    · rw [Bool.and_eq_true] at h2
      obtain ⟨h4, h5⟩ := eb_iff.mp h2.1
      obtain ⟨h6, h7, h8⟩ := En_bit.mp h3
      refine ⟨h6, by omega, ?_⟩
      have := Star.cons h5 h8
      rw [← sl_take h4 h7, ← sl_drop (j := j) h4, List.take_append_drop] at this
      exact this
  · rintro ⟨h1, h2, h3⟩
    rcases star_first h3 with h4 | ⟨k, k0, k1, h4, h5⟩
    · exact .inl (by have := (sl_nil h1).mp h4; omega)
    · rw [sl_len h1] at k1
      refine .inr ⟨i + k, by omega, ?_, En_bit.mpr ⟨h1, by omega, ?_⟩⟩
      · rw [Bool.and_eq_true]
        refine ⟨eb_iff.mpr ⟨by omega, ?_⟩, by rw [decide_eq_false (by omega)]; rfl⟩
        rw [← sl_take (j := j) (by omega) (by omega), Nat.add_sub_cancel_left]; exact h4
      · rw [← sl_drop (i := i) (by omega), Nat.add_sub_cancel_left]; exact h5
def Mt : Pt → List Nat → Prop
  | .nul k, u => k = "empty" ∧ u = []
  | .one s, u => ∃ c ∈ s.cps.toList, u = [c]
  | .un k a, u => if k = "not" then ¬ Mt a u else Star (Mt a) u
  | .bi k a b, u => if k = "join" then Jn (Mt a) (Mt b) u else if k = "both" then Mt a u ∧ Mt b u else Mt a u ∨ Mt b u
theorem Mt.none {u : List Nat} : Mt (.nul "none") u ↔ False := ⟨fun h => absurd h.1 (by decide +kernel), False.elim⟩
theorem Mt.empty {u : List Nat} : Mt (.nul "empty") u ↔ u = [] := ⟨And.right, fun h => ⟨rfl, h⟩⟩
theorem Mt.one {s : Str} {u : List Nat} : Mt (.one s) u ↔ ∃ c ∈ s.cps.toList, u = [c] := Iff.rfl
theorem Mt.not {a : Pt} {u : List Nat} : Mt (.un "not" a) u ↔ ¬ Mt a u := by
  show (if ("not" : Str) = "not" then ¬ Mt a u else Star (Mt a) u) ↔ _
  rw [if_pos rfl]
theorem Mt.star {a : Pt} {u : List Nat} : Mt (.un "star" a) u ↔ Star (Mt a) u := by
  show (if ("star" : Str) = "not" then ¬ Mt a u else Star (Mt a) u) ↔ _
  rw [if_neg (by decide +kernel)]
theorem Mt.join {a b : Pt} {u : List Nat} : Mt (.bi "join" a b) u ↔ Jn (Mt a) (Mt b) u := by
  show (if ("join" : Str) = "join" then Jn (Mt a) (Mt b) u else if ("join" : Str) = "both" then Mt a u ∧ Mt b u else Mt a u ∨ Mt b u) ↔ _
  rw [if_pos rfl]
theorem Mt.both {a b : Pt} {u : List Nat} : Mt (.bi "both" a b) u ↔ Mt a u ∧ Mt b u := by
  show (if ("both" : Str) = "join" then Jn (Mt a) (Mt b) u else if ("both" : Str) = "both" then Mt a u ∧ Mt b u else Mt a u ∨ Mt b u) ↔ _
  rw [if_neg (by decide +kernel), if_pos rfl]
theorem Mt.either {a b : Pt} {u : List Nat} : Mt (.bi "either" a b) u ↔ Mt a u ∨ Mt b u := by
  show (if ("either" : Str) = "join" then Jn (Mt a) (Mt b) u else if ("either" : Str) = "both" then Mt a u ∧ Mt b u else Mt a u ∨ Mt b u) ↔ _
  rw [if_neg (by decide +kernel), if_neg (by decide +kernel)]
end
section
variable (T : Txt K mg)
abbrev vN (n : Nat) : V := .int (n : Int)
theorem ne0 {n : Nat} (h : n ≠ 0) : ((n : Int) == 0) = false := by
  rw [beq_eq_false_iff_ne]
  omega
theorem rd_bits {to : TE} {σ : L2.St} {H : Hp} {Q : VK} (h : to σ H fun x H1 => ∃ i, x = .int i ∧ Q (.int (Builtin.Int.intBits i : Nat)) H1) : tBits to σ H Q := h
theorem bits_top {p : Nat → Bool} {m : Nat} : Builtin.Int.intBits ((enc p m + 2 ^ m : Nat) : Int) = m + 1 := by
  have h0 := Nat.two_pow_pos m
  unfold Builtin.Int.intBits
  rw [ne0 (by omega), if_neg Bool.false_ne_true, Int.natAbs_natCast, top_log]
theorem shl1 (m : Nat) : (1 : Int) * 2 ^ ((m : Int)).toNat = ((2 ^ m : Nat) : Int) := by
  rw [Int.one_mul, Int.toNat_natCast]
  exact (Int.natCast_pow 2 m).symm
theorem at_vN {E : List Nat} {m : Nat} (h : m < E.length) : atI (E.map vN) (m : Int) = some (vN (E.getD m 0)) := by
  refine atI_nat ?_
  rw [List.getElem?_map, List.getD_eq_getElem?_getD, List.getElem?_eq_getElem h]
  rfl
theorem rd_ipor {a b : Nat} {H : Hp} {Q : VK} (q : Q (vN (a ||| b)) H) : ipI (fun i j => Builtin.bitOr i j) (vN a) (vN b) H Q := ⟨_, _, rfl, rfl, by
  show Q (.int (Builtin.bitOr (a : Int) (b : Int))) H
  have e : Builtin.bitOr (a : Int) (b : Int) = ((a ||| b : Nat) : Int) := by rw [bitOr_nn (Int.natCast_nonneg _) (Int.natCast_nonneg _), Int.toNat_natCast, Int.toNat_natCast]
  rw [e]; exact q⟩
theorem rd_or2 {a b : Nat} {H : Hp} {Q : VK} (q : Q (vN (a ||| b)) H) : rI0 (fun i j => .int (Builtin.bitOr i j)) (vN a) (vN b) H Q := ⟨_, _, rfl, rfl, by
  show Q (.int (Builtin.bitOr (a : Int) (b : Int))) H
  have e : Builtin.bitOr (a : Int) (b : Int) = ((a ||| b : Nat) : Int) := by rw [bitOr_nn (Int.natCast_nonneg _) (Int.natCast_nonneg _), Int.toNat_natCast, Int.toNat_natCast]
  rw [e]; exact q⟩
theorem rd_shl1 {m : Nat} {H : Hp} {Q : VK} (hm : m ≤ 1000000) (q : Q (vN (2 ^ m)) H) : rI CPow (fun i j => .int (i * 2 ^ j.toNat)) (.int 1) (vN m) H Q := ⟨_, _, rfl, rfl, ⟨by omega, by omega, by decide⟩, by
  show Q (.int ((1 : Int) * 2 ^ ((m : Int)).toNat)) H
  rw [shl1]; exact q⟩
def spEb (K : PySem.W.Frag) : Sp := fun vs H Q _ => ∃ (p : Nat → Bool) (k : Nat) (a : Addr) (E : List Nat), vs = [.int (enc p k : Nat), .ref a] ∧ SqL K H a (E.map vN) ∧ E.length = k ∧ k ≤ 1000000 ∧ ∀ R : Nat, (∀ j, R.testBit j = true ↔ ∃ m, m < k ∧ p m = true ∧ (E.getD m 0).testBit j = true) → Q (.int (R : Int)) H
theorem ok__ends_behind : FnOk P w K mg base CX0 1 T.a__ends_behind T.d__ends_behind ["places", "ends"] (spEb K) := by
  refine T.f__ends_behind.ok sc__ends_behind (fun vs H Q E h => ?_) (fun cdv A outer s H vs Q E hr h => ?_)
  · obtain ⟨_, _, _, _, rfl, _⟩ := h; rfl
  · obtain ⟨p, k, a, E, rfl, hs, hl, hk, q⟩ := h
    refine ⟨_, (pss_cons (ps_set (i := 2) sc__ends_behind.nd rfl (by first | exact Or.inl rfl | exact Or.inr rfl) pe_int)
  (pss_cons (ps_while PassesOwn.never (pt_truth (pv 0) (by intro _; rfl))
    (pss_cons (ps_set (i := 3) sc__ends_behind.nd rfl (by first | exact Or.inl rfl | exact Or.inr rfl) (pe_op op_subP (pe_bits (pv 0)) pe_int))
  (pss_cons (ps_aug (i := 2) sc__ends_behind.nd rfl (by first | exact Or.inl rfl | exact Or.inr rfl) (pe_ix (kIx K) (pv 1) (pv 3) (fun _ _ => rfl)) ip_bitor)
  (pss_one (ps_aug (i := 0) sc__ends_behind.nd rfl (by first | exact Or.inl rfl | exact Or.inr rfl) (pe_op op_shl pe_int (pv 3)) ip_sub)))))
  (pss_one (ps_ret (pv 2))))), ?_⟩
    walk_at "rc"
    walk_at "rs"
    refine rd_wh (fun mm σ H' => ∃ (k' R : Nat) (k3 : Option V), σ = [some (.int (enc p k' : Nat)), some (.ref a), some (.int (R : Int)), k3] ∧ H' = H ∧ k' ≤ k ∧ (∀ j, R.testBit j = true ↔ ∃ m, k' ≤ m ∧ m < k ∧ p m = true ∧ (E.getD m 0).testBit j = true) ∧ mm = k') _
      ⟨k, 0, _, rfl, rfl, Nat.le_refl _, fun j => ⟨fun z => (by rw [Nat.zero_testBit] at z; cases z), fun ⟨m, h1, h2, _⟩ => (by omega)⟩, rfl⟩ ?_
    rintro mm σ H1 ⟨k', R, k3, rfl, rfl, hk', hR, rfl⟩
    walk_at "rc"
    refine ⟨_, rfl, ?_⟩
    rcases enc_top (p := p) (k := mm) with h0 | ⟨m, hm, pm, hn, he⟩
    · rw [h0]
      refine rd_itef (by decide) ?_
      walk_at "rc"
      refine q R fun j => ?_
      rw [hR]
      constructor
      · rintro ⟨m, _, h2, h3⟩
        exact ⟨m, h2, h3⟩
      · rintro ⟨m, h2, h3, h4⟩
        refine ⟨m, ?_, h2, h3, h4⟩
        rcases Nat.lt_or_ge m mm with z | z
        · rw [enc_zero' h0 z] at h3; cases h3
        · exact z
    · have hp := Nat.two_pow_pos m
      rw [he]
      refine rd_itet (by rw [bne, ne0 (by omega)]; rfl) ?_
      refine ⟨_, fun σ2 H2 z => z, ?_⟩
      walk_at "rc"
      refine rd_bits ?_
      walk_at "rc"
      refine ⟨_, rfl, ?_⟩
      rw [bits_top]
      walk_at "rc"
      have e1 : ((m + 1 : Nat) : Int) - 1 = (m : Int) := by omega
      rw [e1]
      walk_at "rc"
      refine rd_ixL hs (at_vN (by omega)) ?_
      refine rd_ipor ?_
      refine rd_aug rfl ?_
      walk_at "rc"
      refine rd_shl1 (by omega) ?_
      refine ⟨_, _, rfl, rfl, ?_⟩
      have e2 : ((enc p m + 2 ^ m : Nat) : Int) - ((2 ^ m : Nat) : Int) = (enc p m : Nat) := by omega
      refine ⟨m, hm, m, R ||| E.getD m 0, some (vN m), ?_, rfl, by omega, fun j => ?_, rfl⟩
      · show [some (V.int (((enc p m + 2 ^ m : Nat) : Int) - ((2 ^ m : Nat) : Int))), _, _, _] = _
        rw [e2]
      rw [Nat.testBit_or, Bool.or_eq_true, hR]
      constructor
      · rintro (⟨x, h1, h2, h3, h4⟩ | h)
        · exact ⟨x, by omega, h2, h3, h4⟩
        · exact ⟨m, Nat.le_refl _, by omega, pm, h⟩
      · rintro ⟨x, h1, h2, h3, h4⟩
        rcases Nat.lt_or_ge x mm with z | z
        · rcases Nat.eq_or_lt_of_le h1 with e | e
          · subst e; exact .inr h4
          · rw [hn x e z] at h3; cases h3
        · exact .inl ⟨x, z, h2, h3, h4⟩
end
section
variable (T : Txt K mg)
/-- the rows of a set of texts -/
noncomputable def rowL (u : List Nat) (L : List Nat → Prop) : List Nat := (List.range (u.length + 1)).map fun i => En u L i
theorem rowL_len (u : List Nat) (L : List Nat → Prop) : (rowL u L).length = u.length + 1 := by unfold rowL; rw [List.length_map, List.length_range]
theorem rowL_at {u : List Nat} {L : List Nat → Prop} {i : Nat} (h : i < u.length + 1) : (rowL u L).getD i 0 = En u L i := by
  unfold rowL
  rw [List.getD_eq_getElem?_getD, List.getElem?_map, List.getElem?_range h]
  rfl
def spLe : Sp := fun vs H Q _ => ∃ (s z : Str), vs = [.str s, .str z] ∧ z.length ≤ 1000 ∧ ∀ p H', Ex H H' → H p = none → H' p = some (.lst ((rowL z.cps.toList (Mt (.one s))).map vN)) → Q (.ref p) H'
theorem ok__letter_ends : FnOk P w K mg base CX0 1 T.a__letter_ends T.d__letter_ends ["kept", "text"] spLe := by
  refine T.f__letter_ends.ok sc__letter_ends (fun vs H Q E h => ?_) (fun cdv A outer s H vs Q E hr h => ?_)
  · obtain ⟨_, _, rfl, _⟩ := h; rfl
  · obtain ⟨s, z, rfl, hz, q⟩ := h
    have sz : 100000 ≤ sizeLine := by decide
    refine ⟨_, (pss_one (ps_ret (pe_op (kAdd K) (pe_lc (own := [("place", 2), ("letter", 3)]) (g := _) (tt := tYes) (by rfl) sc__letter_ends.nd (pi_enumS (by rfl) T.nb_enumerate (pa_cons (pv 1) pa_nil)) (blkOk_by (own := [("place", 2), ("letter", 3)]) (N := ["kept", "text", "place", "letter"]) (sc := defScope s__letter_ends) (by decide +kernel)) (fun _ _ _ _ _ => (kGt K rfl (pg_tup (n := 2) (by rfl) (pgs_cons (pg_name (i := 2) sc__letter_ends.nd rfl (by first | exact Or.inl rfl | exact Or.inr rfl)) (pgs_cons (pg_name (i := 3) sc__letter_ends.nd rfl (by first | exact Or.inl rfl | exact Or.inr rfl)) pgs_nil))))) (fun _ _ _ _ _ => pts_nil) (fun _ _ _ _ _ => (pe_ifExp (pt_cmpR (kIn K) (pv 3) (pv 0) (by first | rfl | exact nomark _)) (pe_op op_shl pe_int (pv 2)) pe_int))) (pe_lst (pa_cons pe_int pa_nil))))), ?_⟩
    walk_at "rc"
    refine rd_enS ?_
    walk_at "rc"
    refine ⟨z, rfl, ?_⟩
    intro D hD
    refine lc_it walk_enumS (fun i Hc => Ex H Hc ∧ Hc D = some (.lst (((List.range i).map fun i => En z.cps.toList (Mt (.one s)) i).map vN))) ⟨Evl.Ex.new hD, upd_same⟩ (fun _ _ _ _ => True.intro) ?_ ?_
    · rintro i x Hc H' hi ⟨ec, hc⟩ ⟨t, c, rfl, ht, hcc, rfl⟩
      have nt : D ≠ t := fun y => by rw [← y, hc] at ht; cases ht
      have e1 := Evl.Ex.new (o := .tup [.int (i : Nat), .str ⟨#[c]⟩]) ht
      have h7 : upd Hc t (.tup [.int (i : Nat), .str ⟨#[c]⟩]) t = some (.tup [.int ((i : Nat) : Int), .str ⟨#[c]⟩]) := upd_same
      have hc7 := e1 _ _ hc
      have e7 := Evl.Ex.trans ec e1
      generalize upd Hc t (.tup [.int (i : Nat), .str ⟨#[c]⟩]) = H7 at h7 hc7 e7
      refine ⟨t, _, rfl, Evl.st_of h7, rfl, ?_⟩
      walk_at "rc"
      have fin : ∀ n, n = En z.cps.toList (Mt (.one s)) i → ∃ acc, H7 D = some (.lst acc) ∧ acc.length < sizeLine ∧ Ex H (upd H7 D (.lst (acc ++ [vN n]))) ∧ upd H7 D (.lst (acc ++ [vN n])) D = some (.lst (((List.range (i + 1)).map fun i => En z.cps.toList (Mt (.one s)) i).map vN)) := fun n en => by
        refine ⟨_, hc7, ?_, Evl.Ex.mut e7 hD, ?_⟩
        · rw [List.length_map, List.length_map, List.length_range]
          have : i < z.length := hi
          omega
        · rw [upd_same, List.range_succ, List.map_append, List.map_append, en]
          rfl
      have ei : (z.cps.toList)[i]? = some c := by rw [← hcc, Array.getElem?_toList]
      refine ⟨rfl, rd_yes (rd_iteT ?_)⟩
      refine rd_ife ?_
      walk_at "rc"
      refine rd_iteD (fun hin => ?_) fun hin => ?_
      · walk_at "rc"
        have hi2 : i < z.length := hi
        refine ⟨_, _, rfl, rfl, ⟨by omega, by omega, by decide⟩, ?_⟩
        have e2 : (2 : Int) * 2 ^ ((i : Int)).toNat = ((2 ^ (i + 1) : Nat) : Int) := by
          rw [Int.toNat_natCast, Nat.pow_succ, Nat.mul_comm, Int.natCast_mul, Int.natCast_pow]
          rfl
        show ∃ acc, H7 D = some (.lst acc) ∧ acc.length < sizeLine ∧ Ex H (upd H7 D (.lst (acc ++ [.int ((2 : Int) * 2 ^ ((i : Int)).toNat)]))) ∧ upd H7 D (.lst (acc ++ [.int ((2 : Int) * 2 ^ ((i : Int)).toNat)])) D = _
        rw [e2]
        refine fin _ ?_
        have := En_one (u := z.cps.toList) (s := s.cps.toList) (i := i)
        rw [ei] at this
        rw [if_pos (by simpa using hin)] at this
        exact this.symm
      · walk_at "rc"
        refine fin 0 ?_
        have := En_one (u := z.cps.toList) (s := s.cps.toList) (i := i)
        rw [ei] at this
        rw [if_neg (by simpa using hin)] at this
        exact this.symm
    · rintro Hc ⟨ec, hc⟩
      walk_at "rc"
      refine ⟨by show 1 ≤ sizeLine; decide, fun L2 hL2 => ?_⟩
      have e2 := Evl.Ex.new (o := .lst [.int 0]) hL2
      refine rd_cat (e2 _ _ hc) upd_same ?_ fun p hp => ?_
      · rw [List.length_map, List.length_map, List.length_range]
        show z.length + 1 ≤ _
        omega
      · have e3 := ex_upd (Evl.Ex.trans ec e2) hp (o := .lst ((((List.range z.cps.size).map fun i => En z.cps.toList (Mt (.one s)) i).map vN) ++ [.int 0]))
        refine q p _ e3 (Evl.fresh_back (Evl.Ex.trans ec e2) hp) ?_
        rw [upd_same]
        have e0 : En z.cps.toList (Mt (.one s)) z.cps.toList.length = 0 := by
          have := En_one (u := z.cps.toList) (s := s.cps.toList) (i := z.cps.toList.length)
          rw [List.getElem?_eq_none (Nat.le_refl _)] at this
          exact this
        unfold rowL
        rw [List.range_succ, List.map_append, List.map_append, List.map_singleton, e0]
        rfl
end
section
variable (T : Txt K mg)
def spSe (K : PySem.W.Frag) : Sp := fun vs H Q _ => ∃ (a : Addr) (u : List Nat) (L : List Nat → Prop), vs = [.ref a] ∧ H a = some (.lst ((rowL u L).map vN)) ∧ u.length ≤ 1000 ∧ ∀ p H', Ex H H' → H p = none → H' p = some (.lst ((rowL u (Star L)).map vN)) → Q (.ref p) H'
/-- what is filled so far, from the end -/
noncomputable def starI (u : List Nat) (L : List Nat → Prop) (k : Nat) : List Nat := (List.range (u.length + 1)).map fun i => if k ≤ i then En u (Star L) i else 0
theorem starI_len (u : List Nat) (L : List Nat → Prop) (k : Nat) : (starI u L k).length = u.length + 1 := by unfold starI; rw [List.length_map, List.length_range]
theorem starI_at {u : List Nat} {L : List Nat → Prop} {k i : Nat} (h : i < u.length + 1) : (starI u L k).getD i 0 = if k ≤ i then En u (Star L) i else 0 := by
  unfold starI
  rw [List.getD_eq_getElem?_getD, List.getElem?_map, List.getElem?_range h]
  rfl
theorem starI_set {u : List Nat} {L : List Nat → Prop} {k : Nat} (h : k < u.length + 1) : (starI u L (k + 1)).set k (En u (Star L) k) = starI u L k := by
  refine List.ext_getElem (by rw [List.length_set, starI_len, starI_len]) fun i h1 h2 => ?_
  rw [starI_len] at h2
  simp only [starI, List.getElem_set, List.getElem_map, List.getElem_range]
  by_cases e : k = i
  · subst e
    rw [if_pos rfl, if_pos (Nat.le_refl _)]
  · rw [if_neg e]
    by_cases z : k ≤ i
    · rw [if_pos z, if_pos (by omega)]
    · rw [if_neg z, if_neg (by omega)]
theorem rd_revR {tr : L2.St → Hp → (Int → Int → Hp → Prop) → Prop} {σ : L2.St} {H : Hp} {R : It → Hp → Prop} (h : tr σ H fun a b H1 => -(2 ^ 62) ≤ a ∧ a < 2 ^ 62 ∧ -(2 ^ 62) ≤ b ∧ b < 2 ^ 62 ∧ R (Itc (a + (((b - a).toNat : Nat) : Int) - 1) (-1) (b - a).toNat) H1) : iRevR tr σ H R := h
theorem rd_tRg1 {ta : TE} {σ : L2.St} {H : Hp} {Q : Int → Int → Hp → Prop} (h : ta σ H fun x H1 => ∃ n, x = .int n ∧ Q 0 n H1) : tRg1 ta σ H Q := h
theorem bitAndNot (a b : Nat) : Builtin.bitAnd (a : Int) (Builtin.bitNot (b : Int)) = (a : Int) - ((a &&& b : Nat) : Int) := by
  have h1 : decide (0 ≤ (a : Int)) = true := decide_eq_true (Int.natCast_nonneg a)
  have h2 : decide (0 ≤ Builtin.bitNot (b : Int)) = false := decide_eq_false (by show ¬ 0 ≤ -(b : Int) - 1; omega)
  unfold Builtin.bitAnd
  rw [h1, h2]
  show (a : Int) - (((a : Int).toNat &&& (Builtin.bitNot (Builtin.bitNot (b : Int))).toNat : Nat) : Int) = _
  have e : Builtin.bitNot (Builtin.bitNot (b : Int)) = (b : Int) := by show -(-(b : Int) - 1) - 1 = _; omega
  rw [e, Int.toNat_natCast, Int.toNat_natCast]
theorem rd_unI {te : TE} {f : Int → V} {σ : L2.St} {H : Hp} {Q : VK} (h : te σ H fun x H1 => ∃ i, x = .int i ∧ Q (f i) H1) : tUn (rU f) te σ H Q := h
theorem rd_andnot {a b c : Nat} {y : V} {H : Hp} {Q : VK} (hy : y = .int (Builtin.bitNot (b : Int))) (hc : (a : Int) - ((a &&& b : Nat) : Int) = (c : Int)) (q : Q (vN c) H) : rI0 (fun i j => .int (Builtin.bitAnd i j)) (vN a) y H Q := ⟨_, _, rfl, hy, by
  show Q (.int (Builtin.bitAnd (a : Int) (Builtin.bitNot (b : Int)))) H
  rw [bitAndNot, hc]
  exact q⟩
theorem enc_andnot {p : Nat → Bool} {k i : Nat} (hi : i < k) : ((enc p k : Nat) : Int) - ((enc p k &&& 2 ^ i : Nat) : Int) = (enc (fun j => p j && !decide (j = i)) k : Nat) := by
  have h := enc_sub (p := p) (q := fun j => p j && decide (j = i)) (k := k) fun j _ h => (Bool.and_eq_true _ _ ▸ h).1
  have e1 : enc p k &&& 2 ^ i = enc (fun j => p j && decide (j = i)) k := by rw [← enc_one hi, enc_and]
  have e2 : enc (fun j => p j && !(p j && decide (j = i))) k = enc (fun j => p j && !decide (j = i)) k := enc_congr fun j _ => by
    cases p j <;> cases decide (j = i) <;> rfl
  rw [e1]
  rw [e2] at h
  omega
theorem ok__star_ends : FnOk P w K mg base CX0 2 T.a__star_ends T.d__star_ends ["part"] (spSe K) := by
  refine T.f__star_ends.ok sc__star_ends (fun vs H Q E h => ?_) (fun cdv A outer s H vs Q E hr h => ?_)
  · obtain ⟨_, _, _, rfl, _⟩ := h; rfl
  · obtain ⟨a, u, L, rfl, ha, hu, q⟩ := h
    have sz : 100000 ≤ sizeLine := by decide
    have la : ((rowL u L).map vN).length = u.length + 1 := by rw [List.length_map, rowL_len]
    refine ⟨_, (pss_cons (ps_set (i := 1) sc__star_ends.nd rfl (by first | exact Or.inl rfl | exact Or.inr rfl) (pe_op op_rep (pe_lst (pa_cons pe_int pa_nil)) (pe_callB (kLen K) (by rfl) T.nb_len (by decide +kernel) (pa_cons (pv 0) pa_nil))))
  (pss_cons (ps_for PassesOwn.never rfl (pi_revR (by rfl) T.nb_reversed (prg_1 (by rfl) T.nb_range (pe_callB (kLen K) (by rfl) T.nb_len (by decide +kernel) (pa_cons (pv 0) pa_nil)))) (pg_name (i := 2) sc__star_ends.nd rfl (by first | exact Or.inl rfl | exact Or.inr rfl))
    (pss_cons (ps_set (i := 3) sc__star_ends.nd rfl (by first | exact Or.inl rfl | exact Or.inr rfl) (pe_op op_shl pe_int (pv 2)))
  (pss_one (ps_asg (pe_op op_or (pv 3) (pe_callE (ok__ends_behind T) (hr.mono (by decide)) T.o__ends_behind (pa_cons (pe_op op_and (pe_ix (kIx K) (pv 0) (pv 2) (fun _ _ => rfl)) (pe_un un_inv (pv 3))) (pa_cons (pv 1) pa_nil)))) (pg_sub (pv 1) (pv 2) set_list)))))
  (pss_one (ps_ret (pv 1))))), ?_⟩
    walk_at "rc"
    refine ⟨by show 1 ≤ sizeLine; decide, fun p0 hp0 => ?_⟩
    have e0 := Evl.Ex.new (o := .lst [.int 0]) hp0
    walk_at "rc"
    refine rd_lenL (SqL.of (e0 _ _ ha)) ?_
    rw [la]
    refine ⟨p0, _, [.int 0], rfl, rfl, upd_same, by omega, by omega, ?_, fun p hp => ?_⟩
    · rw [Int.toNat_natCast]
      show 1 * (u.length + 1) ≤ _
      omega
    have e1 := ex_upd e0 hp (o := .lst (List.replicate ((u.length + 1 : Nat) : Int).toNat [V.int 0]).flatten)
    have hpn := Evl.fresh_back e0 hp
    have g1 : (upd (upd H p0 (.lst [.int 0])) p (.lst (List.replicate ((u.length + 1 : Nat) : Int).toNat [V.int 0]).flatten)) p = some (.lst ((starI u L (u.length + 1)).map vN)) := by
      rw [upd_same, Int.toNat_natCast]
      have : ∀ (n : Nat) (f : Nat → Nat), (∀ i, i < n → f i = 0) → (List.replicate n [V.int 0]).flatten = ((List.range n).map f).map vN := by
        intro n f hf
        refine List.ext_getElem? fun i => ?_
        have e : (List.replicate n [V.int 0]).flatten = List.replicate n (V.int 0) := by
          clear hf
          induction n with
          | zero => rfl
          | succ n ih => rw [List.replicate_succ, List.flatten_cons, ih, List.replicate_succ]; rfl
        rw [e, List.getElem?_map, List.getElem?_map]
        rcases Nat.lt_or_ge i n with z | z
        · rw [List.getElem?_replicate, if_pos z, List.getElem?_range z]
          show some (V.int 0) = some (vN (f i))
          rw [hf i z]
          rfl
        · rw [List.getElem?_eq_none (by rw [List.length_replicate]; exact z), List.getElem?_eq_none (by rw [List.length_range]; exact z)]
          rfl
      exact congrArg (fun l => some (HO.lst l)) (this (u.length + 1) _ fun i hi => if_neg (by omega))
    generalize upd (upd H p0 (.lst [.int 0])) p (.lst (List.replicate ((u.length + 1 : Nat) : Int).toNat [V.int 0]).flatten) = H1 at e1 g1
    walk_at "rc"
    walk_at "rs"
    walk_at "rc"
    refine rd_revR (rd_tRg1 ?_)
    walk_at "rc"
    refine rd_lenL (SqL.of (e1 _ _ ha)) ?_
    rw [la]
    refine ⟨_, rfl, by omega, by omega, by omega, by omega, ?_⟩
    have en : (((u.length + 1 : Nat) : Int) - 0).toNat = u.length + 1 := by omega
    have es : (0 : Int) + ((((((u.length + 1 : Nat) : Int) - 0).toNat : Nat) : Int)) - 1 = (u.length : Int) := by omega
    rw [es, en]
    refine fo_it walk_rangeC (fun i σ H' => ∃ k2 k3 : Option V, σ = [some (.ref a), some (.ref p), k2, k3] ∧ Ex H H' ∧ H' p = some (.lst ((starI u L (u.length + 1 - i)).map vN))) ⟨_, _, rfl, e1, g1⟩ (fun _ _ _ _ _ => True.intro) ?_ ?_
    · rintro i x σ H2 H3 hi ⟨k2, k3, rfl, e2, g2⟩ ⟨rfl, hx⟩
      have hx : x = vN (u.length - i) := hx.trans (congrArg V.int (show (u.length : Int) + ((i : Nat) : Int) * (-1) = ((u.length - i : Nat) : Int) by omega))
      subst hx
      have hk : u.length + 1 - i = u.length - i + 1 := by omega
      have hk2 : u.length + 1 - (i + 1) = u.length - i := by omega
      rw [hk] at g2
      rw [hk2]
      generalize hj : u.length - i = j at g2
      have jl : j < u.length + 1 := by omega
      walk_at "rc"
      refine rd_shl1 (by omega) ?_
      walk_at "rc"
      refine rd_ixL (SqL.of (e2 _ _ ha)) (at_vN (by rw [rowL_len]; exact jl)) ?_
      rw [rowL_at jl]
      walk_at "rc"
      refine rd_unI ?_
      walk_at "rc"
      refine rd_andnot rfl (enc_andnot jl) ?_
      walk_at "rc"
      refine ⟨_, u.length + 1, p, _, rfl, SqL.of g2, starI_len u L (j + 1), by omega, fun R hR => ?_⟩
      refine rd_or2 ?_
      have er : 2 ^ j ||| R = En u (Star L) j := by
        refine En_star (by omega) fun i => ?_
        rw [hR]
        constructor
        · rintro ⟨m, h1, h2, h3⟩
          refine ⟨m, h1, h2, ?_⟩
          rw [starI_at h1] at h3
          by_cases z : j + 1 ≤ m
          · rw [if_pos z] at h3; exact h3
          · rw [if_neg z, Nat.zero_testBit] at h3; cases h3
        · rintro ⟨m, h1, h2, h3⟩
          refine ⟨m, h1, h2, ?_⟩
          rw [starI_at h1, if_pos ?_]
          · exact h3
          · rw [Bool.and_eq_true] at h2
            have h4 := (eb_iff.mp h2.1).1
            have h5 : m ≠ j := fun z => by
              have := h2.2
              rw [decide_eq_true z] at this
              cases this
            omega
      rw [er]
      walk_at "rc"
      refine ⟨p, _, _, j, rfl, rfl, g2, ixN_nat (by rw [List.length_map, starI_len]; exact jl), ?_⟩
      refine ⟨_, _, rfl, Evl.Ex.mut e2 hpn, ?_⟩
      rw [upd_same, ← List.map_set, starI_set jl]
    · rintro σ H2 ⟨k2, k3, rfl, e2, g2⟩
      rw [Nat.sub_self] at g2
      walk_at "rc"
      refine q p H2 e2 hpn ?_
      rw [g2]
      unfold starI rowL
      rw [show (fun i => if 0 ≤ i then En u (Star L) i else 0) = fun i => En u (Star L) i from funext fun i => if_pos (Nat.zero_le i)]
end
section
variable (T : Txt K mg)
def spEo : Sp := fun vs H Q _ => ∃ (tm kn : Addr) (z : Str) (E : List Pt) (t : Pt) (f : Fl) (ks : List V), vs = [.ref tm, .ref kn, .str z] ∧ H tm = some (.tup f.vs) ∧ FlOf E t f ∧ t.ok ∧ H kn = some (.lst ks) ∧ (∀ (m : Nat) x, E[m]? = some x → ∃ r, ks[m]? = some (.ref r) ∧ H r = some (.lst ((rowL z.cps.toList (Mt x)).map vN))) ∧ z.length ≤ 1000 ∧
  ∀ p H', Ex H H' → H p = none → H' p = some (.lst ((rowL z.cps.toList (Mt t)).map vN)) → Q (.ref p) H'
def Fl.kd : Fl → Str
  | .nul k => k
  | .one _ => "one"
  | .un k _ => k
  | .bi k _ _ => k
theorem rd_and2 {a b : Nat} {H : Hp} {Q : VK} (q : Q (vN (a &&& b)) H) : rI0 (fun i j => .int (Builtin.bitAnd i j)) (vN a) (vN b) H Q := ⟨_, _, rfl, rfl, by
  show Q (.int (Builtin.bitAnd (a : Int) (b : Int))) H
  have e : Builtin.bitAnd (a : Int) (b : Int) = ((a &&& b : Nat) : Int) := by
    have h1 : decide (0 ≤ (a : Int)) = true := decide_eq_true (Int.natCast_nonneg a)
    have h2 : decide (0 ≤ (b : Int)) = true := decide_eq_true (Int.natCast_nonneg b)
    unfold Builtin.bitAnd
    rw [h1, h2]
    show (((a : Int).toNat &&& (b : Int).toNat : Nat) : Int) = _
    rw [Int.toNat_natCast, Int.toNat_natCast]
  rw [e]; exact q⟩
/-- a comprehension over the places -/
theorem lc_row {u : List Nat} {L : List Nat → Prop} {σ : L2.St} {H : Hp} {Q : VK} {te : TE} {j : Nat} {n : Nat} (hn : n = u.length + 1) (hu : u.length ≤ 1000)
    (he : ∀ i Hc, i < u.length + 1 → Ex H Hc → Val te ((wipe σ [j]).set j (some (vN i))) Hc (vN (En u L i)))
    (q : ∀ p H', Ex H H' → H p = none → H' p = some (.lst ((rowL u L).map vN)) → Q (.ref p) H') : lcB (gName j) tYes te [j] σ Q (Itr 0 n) H := by
  subst hn
  refine lc_map walk_range0 (fun i H x H' _ y => y) (fun _ _ => True.intro) (by omega) (v := fun i => vN (En u L i)) he fun p hp => ?_
  refine q p _ (Evl.Ex.new hp) hp ?_
  rw [upd_same]
  unfold rowL
  rw [List.map_map]
  rfl
theorem ok__ends_of : FnOk P w K mg base CX0 3 T.a__ends_of T.d__ends_of ["term", "known", "text"] spEo := by
  refine T.f__ends_of.ok sc__ends_of (fun vs H Q E h => ?_) (fun cdv A outer s H vs Q E hr h => ?_)
  · obtain ⟨_, _, _, _, _, _, _, rfl, _⟩ := h; rfl
  · obtain ⟨tm, kn, z, E, t, f, ks, rfl, htm, hf, hok, hkn, hks, hz, q⟩ := h
    have sz : 100000 ≤ sizeLine := by decide
    refine ⟨_, (pss_cons (ps_set (i := 3) sc__ends_of.nd rfl (by first | exact Or.inl rfl | exact Or.inr rfl) (pe_op op_shl pe_int (pe_op (kAdd K) (pe_callB (kLen K) (by rfl) T.nb_len (by decide +kernel) (pa_cons (pv 2) pa_nil)) pe_int)))
  (pss_cons (ps_set (i := 4) sc__ends_of.nd rfl (by first | exact Or.inl rfl | exact Or.inr rfl) (pe_callTy cr_range1 (by rfl) T.nb_range (by decide +kernel) (pa_cons (pe_op (kAdd K) (pe_callB (kLen K) (by rfl) T.nb_len (by decide +kernel) (pa_cons (pv 2) pa_nil)) pe_int) pa_nil)))
  (pss_cons (ps_set (i := 5) sc__ends_of.nd rfl (by first | exact Or.inl rfl | exact Or.inr rfl) (pe_ix (kIx K) (pv 0) pe_int (fun _ _ => rfl)))
  (pss_cons (ps_if (pt_cmpR (kEq K rfl hr.units) (pv 5) pe_str (by first | rfl | exact nomark _))
    (pss_one (ps_ret (pe_lc (own := [("_", 6)]) (g := gName 6) (tt := tYes) (by rfl) sc__ends_of.nd (pi_rngV (pv 4)) (blkOk_by (own := [("_", 6)]) (N := ["term", "known", "text", "behind_all", "starts", "kind", "_", "start", "first", "second"]) (sc := defScope s__ends_of) (by decide +kernel)) (fun _ _ _ _ _ => (pg_name (i := 6) sc__ends_of.nd rfl (by first | exact Or.inl rfl | exact Or.inr rfl))) (fun _ _ _ _ _ => pts_nil) (fun _ _ _ _ _ => pe_int))))
    pss_nil)
  (pss_cons (ps_if (pt_cmpR (kEq K rfl hr.units) (pv 5) pe_str (by first | rfl | exact nomark _))
    (pss_one (ps_ret (pe_lc (own := [("start", 7)]) (g := gName 7) (tt := tYes) (by rfl) sc__ends_of.nd (pi_rngV (pv 4)) (blkOk_by (own := [("start", 7)]) (N := ["term", "known", "text", "behind_all", "starts", "kind", "_", "start", "first", "second"]) (sc := defScope s__ends_of) (by decide +kernel)) (fun _ _ _ _ _ => (pg_name (i := 7) sc__ends_of.nd rfl (by first | exact Or.inl rfl | exact Or.inr rfl))) (fun _ _ _ _ _ => pts_nil) (fun _ _ _ _ _ => (pe_op op_shl pe_int (pv 7))))))
    pss_nil)
  (pss_cons (ps_if (pt_cmpR (kEq K rfl hr.units) (pv 5) pe_str (by first | rfl | exact nomark _))
    (pss_one (ps_ret (pe_callE (ok__letter_ends T) (hr.mono (by decide)) T.o__letter_ends (pa_cons (pe_ix (kIx K) (pv 0) pe_int (fun _ _ => rfl)) (pa_cons (pv 2) pa_nil)))))
    pss_nil)
  (pss_cons (ps_set (i := 8) sc__ends_of.nd rfl (by first | exact Or.inl rfl | exact Or.inr rfl) (pe_ix (kIx K) (pv 1) (pe_ix (kIx K) (pv 0) pe_int (fun _ _ => rfl)) (fun _ _ => rfl)))
  (pss_cons (ps_if (pt_cmpR (kEq K rfl hr.units) (pv 5) pe_str (by first | rfl | exact nomark _))
    (pss_one (ps_ret (pe_lc (own := [("start", 7)]) (g := gName 7) (tt := tYes) (by rfl) sc__ends_of.nd (pi_rngV (pv 4)) (blkOk_by (own := [("start", 7)]) (N := ["term", "known", "text", "behind_all", "starts", "kind", "_", "start", "first", "second"]) (sc := defScope s__ends_of) (by decide +kernel)) (fun _ _ _ _ _ => (pg_name (i := 7) sc__ends_of.nd rfl (by first | exact Or.inl rfl | exact Or.inr rfl))) (fun _ _ _ _ _ => pts_nil) (fun _ _ _ _ _ => (pe_op op_subP (pe_op op_subP (pv 3) (pe_op op_shl pe_int (pv 7))) (pe_ix (kIx K) (pv 8) (pv 7) (fun _ _ => rfl)))))))
    pss_nil)
  (pss_cons (ps_if (pt_cmpR (kEq K rfl hr.units) (pv 5) pe_str (by first | rfl | exact nomark _))
    (pss_one (ps_ret (pe_callE (ok__star_ends T) (hr.mono (by decide)) T.o__star_ends (pa_cons (pv 8) pa_nil))))
    pss_nil)
  (pss_cons (ps_set (i := 9) sc__ends_of.nd rfl (by first | exact Or.inl rfl | exact Or.inr rfl) (pe_ix (kIx K) (pv 1) (pe_ix (kIx K) (pv 0) pe_int (fun _ _ => rfl)) (fun _ _ => rfl)))
  (pss_cons (ps_if (pt_cmpR (kEq K rfl hr.units) (pv 5) pe_str (by first | rfl | exact nomark _))
    (pss_one (ps_ret (pe_lc (own := [("start", 7)]) (g := gName 7) (tt := tYes) (by rfl) sc__ends_of.nd (pi_rngV (pv 4)) (blkOk_by (own := [("start", 7)]) (N := ["term", "known", "text", "behind_all", "starts", "kind", "_", "start", "first", "second"]) (sc := defScope s__ends_of) (by decide +kernel)) (fun _ _ _ _ _ => (pg_name (i := 7) sc__ends_of.nd rfl (by first | exact Or.inl rfl | exact Or.inr rfl))) (fun _ _ _ _ _ => pts_nil) (fun _ _ _ _ _ => (pe_callE (ok__ends_behind T) (hr.mono (by decide)) T.o__ends_behind (pa_cons (pe_ix (kIx K) (pv 8) (pv 7) (fun _ _ => rfl)) (pa_cons (pv 9) pa_nil)))))))
    pss_nil)
  (pss_cons (ps_if (pt_cmpR (kEq K rfl hr.units) (pv 5) pe_str (by first | rfl | exact nomark _))
    (pss_one (ps_ret (pe_lc (own := [("start", 7)]) (g := gName 7) (tt := tYes) (by rfl) sc__ends_of.nd (pi_rngV (pv 4)) (blkOk_by (own := [("start", 7)]) (N := ["term", "known", "text", "behind_all", "starts", "kind", "_", "start", "first", "second"]) (sc := defScope s__ends_of) (by decide +kernel)) (fun _ _ _ _ _ => (pg_name (i := 7) sc__ends_of.nd rfl (by first | exact Or.inl rfl | exact Or.inr rfl))) (fun _ _ _ _ _ => pts_nil) (fun _ _ _ _ _ => (pe_op op_and (pe_ix (kIx K) (pv 8) (pv 7) (fun _ _ => rfl)) (pe_ix (kIx K) (pv 9) (pv 7) (fun _ _ => rfl)))))))
    pss_nil)
  (pss_one (ps_ret (pe_lc (own := [("start", 7)]) (g := gName 7) (tt := tYes) (by rfl) sc__ends_of.nd (pi_rngV (pv 4)) (blkOk_by (own := [("start", 7)]) (N := ["term", "known", "text", "behind_all", "starts", "kind", "_", "start", "first", "second"]) (sc := defScope s__ends_of) (by decide +kernel)) (fun _ _ _ _ _ => (pg_name (i := 7) sc__ends_of.nd rfl (by first | exact Or.inl rfl | exact Or.inr rfl))) (fun _ _ _ _ _ => pts_nil) (fun _ _ _ _ _ => (pe_op op_or (pe_ix (kIx K) (pv 8) (pv 7) (fun _ _ => rfl)) (pe_ix (kIx K) (pv 9) (pv 7) (fun _ _ => rfl))))))))))))))))))), ?_⟩
    have ez : ((z.length : Nat) : Int) + 1 = ((z.length + 1 : Nat) : Int) := by omega
    walk_at "rc"
    refine rd_lenS (by omega) ?_
    walk_at "rc"
    rw [ez]
    refine rd_shl1 (by omega) ?_
    walk_at "rc"
    refine rd_lenS (by omega) ?_
    walk_at "rc"
    rw [ez]
    refine rd_rng1v fun st hst => ?_
    walk_at "rc"
    have eS := Evl.Ex.new (o := .rng 0 ((z.length + 1 : Nat) : Int)) hst
    have hrg : (upd H st (.rng 0 ((z.length + 1 : Nat) : Int))) st = some (.rng 0 ((z.length + 1 : Nat) : Int)) := upd_same
    have htm := eS _ _ htm
    have hkn := eS _ _ hkn
    have hks : ∀ (m : Nat) x, E[m]? = some x → ∃ r, ks[m]? = some (.ref r) ∧ upd H st (.rng 0 ((z.length + 1 : Nat) : Int)) r = some (.lst ((rowL z.cps.toList (Mt x)).map vN)) := fun m x hm => by
      obtain ⟨r, h1, h2⟩ := hks m x hm
      exact ⟨r, h1, eS _ _ h2⟩
    have q : ∀ p H', Ex (upd H st (.rng 0 ((z.length + 1 : Nat) : Int))) H' → upd H st (.rng 0 ((z.length + 1 : Nat) : Int)) p = none → H' p = some (.lst ((rowL z.cps.toList (Mt t)).map vN)) → Q (.ref p) H' := fun p H' e hp h => q p H' (eS.trans e) (Evl.fresh_back eS hp) h
    generalize upd H st (.rng 0 ((z.length + 1 : Nat) : Int)) = H1 at hrg htm hkn hks q
    clear eS hst
    have hzl : z.length = z.cps.toList.length := rfl
    have hlen : z.cps.toList.length ≤ 1000 := hz
    have rg : ∀ {σ : L2.St} {R : It → Hp → Prop}, σ[4]? = some (some (.ref st)) → R (Itr 0 (z.cps.toList.length + 1)) H1 → iRngV (tVar 4) σ H1 R := fun hσ hR => by
      refine rd_rngV (rd_var hσ ⟨st, 0, _, rfl, hrg, by omega, by omega, by omega, by omega, ?_⟩)
      rw [show (((z.length + 1 : Nat) : Int) - 0).toNat = z.cps.toList.length + 1 by omega]
      exact hR
    refine rd_ixT (SqT.of htm) (v := .str f.kd) (by cases f <;> exact atI_nat (j := 0) rfl) ?_
    walk_at "rc"
    walk_at "rs"
    walk_at "rc"
    cases t with
    | nul k =>
      cases f with
      | nul k' =>
        have hf : k = k' := hf
        subst hf
        rcases hok with rfl | rfl
        · refine rd_itet (decide_eq_true rfl) ?_
          walk_at "rc"
          refine rg rfl ?_
          refine lc_row (L := Mt (.nul "none")) rfl hlen (fun i Hc hi ec N hN => ?_) q
          walk_at "rc"
          have e : En z.cps.toList (Mt (.nul "none")) i = 0 := (En_congr fun v => Mt.none).trans En_none
          rw [e] at hN
          exact hN
        · refine rd_itef (decide_eq_false (by decide +kernel)) ?_
          walk_at "rc"
          walk_at "rs"
          walk_at "rc"
          refine rd_itet (decide_eq_true rfl) ?_
          walk_at "rc"
          refine rg rfl ?_
          refine lc_row (L := Mt (.nul "empty")) rfl hlen (fun i Hc hi ec N hN => ?_) q
          walk_at "rc"
          refine rd_shl1 (by omega) ?_
          have e : En z.cps.toList (Mt (.nul "empty")) i = 2 ^ i := (En_congr fun v => Mt.empty).trans (En_empty (by omega))
          rw [e] at hN
          exact hN
      | one _ => exact hf.elim
      | un _ _ => exact hf.elim
      | bi _ _ _ => exact hf.elim
    | one s' =>
      cases f with
      | one s2 =>
        have hf : s' = s2 := hf
        subst hf
        refine rd_itef (decide_eq_false (by show ¬ ("one" : Str) = "none"; decide +kernel)) ?_
        walk_at "rc"
        walk_at "rs"
        walk_at "rc"
        refine rd_itef (decide_eq_false (by show ¬ ("one" : Str) = "empty"; decide +kernel)) ?_
        walk_at "rc"
        walk_at "rs"
        walk_at "rc"
        refine rd_itet (decide_eq_true rfl) ?_
        walk_at "rc"
        refine rd_ixT (SqT.of htm) (atI_nat (j := 1) rfl) ?_
        walk_at "rc"
        exact ⟨s', z, rfl, hz, q⟩
      | nul _ => exact hf.elim
      | un _ _ => exact hf.elim
      | bi _ _ _ => exact hf.elim
    | un k a =>
      cases f with
      | un k' n =>
        obtain ⟨hk, hn⟩ : k = k' ∧ E[n]? = some a := hf
        subst hk
        obtain ⟨r1, hr1, hh1⟩ := hks n a hn
        have hkk := hok.1
        refine rd_itef (decide_eq_false (by show ¬ k = "none"; rcases hkk with rfl | rfl <;> decide +kernel)) ?_
        walk_at "rc"
        walk_at "rs"
        walk_at "rc"
        refine rd_itef (decide_eq_false (by show ¬ k = "empty"; rcases hkk with rfl | rfl <;> decide +kernel)) ?_
        walk_at "rc"
        walk_at "rs"
        walk_at "rc"
        refine rd_itef (decide_eq_false (by show ¬ k = "one"; rcases hkk with rfl | rfl <;> decide +kernel)) ?_
        walk_at "rc"
        refine rd_ixT (SqT.of htm) (atI_nat (j := 1) rfl) ?_
        refine rd_ixL (SqL.of hkn) (atI_nat hr1) ?_
        walk_at "rc"
        walk_at "rs"
        walk_at "rc"
        rcases hkk with rfl | rfl
        · refine rd_itet (decide_eq_true rfl) ?_
          walk_at "rc"
          refine rg rfl ?_
          refine lc_row (L := Mt (.un "not" a)) rfl hlen (fun i Hc hi ec N hN => ?_) q
          walk_at "rc"
          refine rd_shl1 (by omega) ?_
          walk_at "rc"
          refine rd_ixL (SqL.of (ec _ _ hh1)) (at_vN (by rw [rowL_len]; exact hi)) ?_
          rw [rowL_at hi]
          walk_at "rc"
          have e : En z.cps.toList (Mt (.un "not" a)) i = En z.cps.toList (fun v => ¬ Mt a v) i := En_congr fun v => Mt.not
          have e2 := En_not (u := z.cps.toList) (L := Mt a) (i := i) (by omega)
          have e3 : ((2 ^ (z.length + 1) : Nat) : Int) - ((2 ^ i : Nat) : Int) - ((En z.cps.toList (Mt a) i : Nat) : Int) = ((En z.cps.toList (fun v => ¬ Mt a v) i : Nat) : Int) := by rw [hzl]; omega
          rw [e] at hN
          show N (.int (((2 ^ (z.length + 1) : Nat) : Int) - ((2 ^ i : Nat) : Int) - ((En z.cps.toList (Mt a) i : Nat) : Int))) Hc
          rw [e3]
          exact hN
        · refine rd_itef (decide_eq_false (by show ¬ ("star" : Str) = "not"; decide +kernel)) ?_
          walk_at "rc"
          walk_at "rs"
          walk_at "rc"
          refine rd_itet (decide_eq_true rfl) ?_
          walk_at "rc"
          refine ⟨r1, z.cps.toList, Mt a, rfl, hh1, hlen, fun p H' e hp h => q p H' e hp ?_⟩
          have e : rowL z.cps.toList (Star (Mt a)) = rowL z.cps.toList (Mt (.un "star" a)) := by
            unfold rowL
            exact List.map_congr_left fun i _ => En_congr fun v => Mt.star.symm
          rw [h, e]
      | nul _ => exact hf.elim
      | one _ => exact hf.elim
      | bi _ _ _ => exact hf.elim
    | bi k a b =>
      cases f with
      | bi k' n m =>
        obtain ⟨hk, hn, hm⟩ : k = k' ∧ E[n]? = some a ∧ E[m]? = some b := hf
        subst hk
        obtain ⟨r1, hr1, hh1⟩ := hks n a hn
        obtain ⟨r2, hr2, hh2⟩ := hks m b hm
        have hkk := hok.1
        refine rd_itef (decide_eq_false (by show ¬ k = "none"; rcases hkk with rfl | rfl | rfl <;> decide +kernel)) ?_
        walk_at "rc"
        walk_at "rs"
        walk_at "rc"
        refine rd_itef (decide_eq_false (by show ¬ k = "empty"; rcases hkk with rfl | rfl | rfl <;> decide +kernel)) ?_
        walk_at "rc"
        walk_at "rs"
        walk_at "rc"
        refine rd_itef (decide_eq_false (by show ¬ k = "one"; rcases hkk with rfl | rfl | rfl <;> decide +kernel)) ?_
        walk_at "rc"
        refine rd_ixT (SqT.of htm) (atI_nat (j := 1) rfl) ?_
        refine rd_ixL (SqL.of hkn) (atI_nat hr1) ?_
        walk_at "rc"
        walk_at "rs"
        walk_at "rc"
        refine rd_itef (decide_eq_false (by show ¬ k = "not"; rcases hkk with rfl | rfl | rfl <;> decide +kernel)) ?_
        walk_at "rc"
        walk_at "rs"
        walk_at "rc"
        refine rd_itef (decide_eq_false (by show ¬ k = "star"; rcases hkk with rfl | rfl | rfl <;> decide +kernel)) ?_
        walk_at "rc"
        refine rd_ixT (SqT.of htm) (atI_nat (j := 2) rfl) ?_
        refine rd_ixL (SqL.of hkn) (atI_nat hr2) ?_
        walk_at "rc"
        walk_at "rs"
        walk_at "rc"
        have two : ∀ {i : Nat} {Hc : Hp}, i < z.cps.toList.length + 1 → Ex H1 Hc → atI ((rowL z.cps.toList (Mt a)).map vN) (i : Int) = some (vN (En z.cps.toList (Mt a) i)) ∧ atI ((rowL z.cps.toList (Mt b)).map vN) (i : Int) = some (vN (En z.cps.toList (Mt b) i)) := fun {i Hc} hi ec => by
          have h1 := at_vN (E := rowL z.cps.toList (Mt a)) (m := i) (by rw [rowL_len]; exact hi)
          have h2 := at_vN (E := rowL z.cps.toList (Mt b)) (m := i) (by rw [rowL_len]; exact hi)
          rw [rowL_at hi] at h1 h2
          exact ⟨h1, h2⟩
        rcases hkk with rfl | rfl | rfl
        · refine rd_itet (decide_eq_true rfl) ?_
          walk_at "rc"
          refine rg rfl ?_
          refine lc_row (L := Mt (.bi "join" a b)) rfl hlen (fun i Hc hi ec N hN => ?_) q
          walk_at "rc"
          refine rd_ixL (SqL.of (ec _ _ hh1)) (two hi ec).1 ?_
          walk_at "rc"
          refine ⟨_, z.cps.toList.length + 1, r2, _, rfl, SqL.of (ec _ _ hh2), rowL_len _ _, by omega, fun R hR => ?_⟩
          have e : R = En z.cps.toList (Mt (.bi "join" a b)) i := (En_join (L := Mt a) (M := Mt b) fun j => by
            rw [hR]
            exact ⟨fun ⟨m, h1, h2, h3⟩ => ⟨m, h1, h2, by rw [rowL_at h1] at h3; exact h3⟩, fun ⟨m, h1, h2, h3⟩ => ⟨m, h1, h2, by rw [rowL_at h1]; exact h3⟩⟩).trans (En_congr fun v => Mt.join.symm)
          rw [e]
          exact hN
        · refine rd_itef (decide_eq_false (by show ¬ ("either" : Str) = "join"; decide +kernel)) ?_
          walk_at "rc"
          walk_at "rs"
          walk_at "rc"
          refine rd_itef (decide_eq_false (by show ¬ ("either" : Str) = "both"; decide +kernel)) ?_
          walk_at "rc"
          refine rg rfl ?_
          refine lc_row (L := Mt (.bi "either" a b)) rfl hlen (fun i Hc hi ec N hN => ?_) q
          walk_at "rc"
          refine rd_ixL (SqL.of (ec _ _ hh1)) (two hi ec).1 ?_
          walk_at "rc"
          refine rd_ixL (SqL.of (ec _ _ hh2)) (two hi ec).2 ?_
          refine rd_or2 ?_
          rw [En_or, show En z.cps.toList (fun v => Mt a v ∨ Mt b v) i = En z.cps.toList (Mt (.bi "either" a b)) i from En_congr fun v => Mt.either.symm]
          exact hN
        · refine rd_itef (decide_eq_false (by show ¬ ("both" : Str) = "join"; decide +kernel)) ?_
          walk_at "rc"
          walk_at "rs"
          walk_at "rc"
          refine rd_itet (decide_eq_true rfl) ?_
          walk_at "rc"
          refine rg rfl ?_
          refine lc_row (L := Mt (.bi "both" a b)) rfl hlen (fun i Hc hi ec N hN => ?_) q
          walk_at "rc"
          refine rd_ixL (SqL.of (ec _ _ hh1)) (two hi ec).1 ?_
          walk_at "rc"
          refine rd_ixL (SqL.of (ec _ _ hh2)) (two hi ec).2 ?_
          refine rd_and2 ?_
          rw [En_and, show En z.cps.toList (fun v => Mt a v ∧ Mt b v) i = En z.cps.toList (Mt (.bi "both" a b)) i from En_congr fun v => Mt.both.symm]
          exact hN
      | nul _ => exact hf.elim
      | one _ => exact hf.elim
      | un _ _ => exact hf.elim
end
section
variable (T : Txt K mg)
def spBe : Sp := fun vs H Q _ => ∃ (t : Pt) (v : V) (z : Str), vs = [v, .str z] ∧ t.ok ∧ PtV H t v ∧ t.size ≤ 10000 ∧ z.length ≤ 1000 ∧ ∀ b H', (b = true ↔ Mt t z.cps.toList) → Ex H H' → Q (.bl b) H'
theorem rd_ng1 {σ : L2.St} {H : Hp} {Q : VK} (h : Q (.int (-1)) H) : tUn (rU fun i => V.int (-i)) (tC (V.int 1)) σ H Q := ⟨1, rfl, h⟩
theorem ok_belongs : FnOk P w K mg base CX0 4 T.a_belongs T.d_belongs ["pattern", "text"] spBe := by
  refine T.f_belongs.ok sc_belongs (fun vs H Q E h => ?_) (fun cdv A outer s H vs Q E hr h => ?_)
  · obtain ⟨_, _, _, rfl, _⟩ := h; rfl
  · obtain ⟨t, v, z, rfl, hok, hv, hsz, hz, q⟩ := h
    have sz : 100000 ≤ sizeLine := by decide
    refine ⟨_, (pss_cons (ps_set (i := 2) sc_belongs.nd rfl (by first | exact Or.inl rfl | exact Or.inr rfl) (pe_lst pa_nil))
  (pss_cons (ps_for PassesOwn.never rfl (kAny K rfl (pe_callE (ok_flat_terms T) (hr.mono (by decide)) T.o_flat_terms (pa_cons (pv 0) pa_nil))) (pg_name (i := 3) sc_belongs.nd rfl (by first | exact Or.inl rfl | exact Or.inr rfl))
    (pss_one (ps_expr (kBm K rfl (pe_bm PySem.F.plainAttrs_list PySem.F.slot_list_append PySem.F.type_list_append mt_append (pv 2) (pa_cons (pe_callE (ok__ends_of T) (hr.mono (by decide)) T.o__ends_of (pa_cons (pv 3) (pa_cons (pv 2) (pa_cons (pv 1) pa_nil)))) pa_nil))))))
  (pss_one (ps_ret (pe_cmpR (kEq K rfl hr.units) (pe_op op_and (pe_op op_shr (pe_ix (kIx K) (pe_ix (kIx K) (pv 2) (pe_un un_neg pe_int) (fun _ _ => rfl)) pe_int (fun _ _ => rfl)) (pe_callB (kLen K) (by rfl) T.nb_len (by decide +kernel) (pa_cons (pv 1) pa_nil))) pe_int) pe_int (by first | rfl | exact nomark _)))))), ?_⟩
    walk_at "rc"
    refine ⟨Nat.zero_le _, fun kn hkn => ?_⟩
    have e1 := Evl.Ex.new (o := .lst []) hkn
    have g1 : (upd H kn (.lst [])) kn = some (.lst []) := upd_same
    generalize upd H kn (.lst []) = H1 at e1 g1
    have hv := hv.kt (.ex e1)
    walk_at "rc"
    walk_at "rs"
    walk_at "rc"
    refine rd_anyL' ?_
    walk_at "rc"
    refine ⟨t, v, rfl, hok, hv, hsz, fun l us E F H2 e2 hl hfl tb hE hlast hlen => ?_⟩
    have g2 := e2 _ _ g1
    refine ⟨l, rfl, ⟨_, SqL.of hl⟩, ?_⟩
    have lfl := hfl.length
    have nkl : kn ≠ l := fun y => by
      subst y
      rw [g2] at hl
      have e := (HO.lst.inj (Option.some.inj hl)).symm
      subst e
      have e3 : E = [] := List.length_eq_zero_iff.mp (tb.n.trans lfl)
      rw [e3] at hlast
      cases hlast
    have hlN : H1 l = none ∨ True := .inr trivial
    refine fo_list (a := l) (xs := us) (fun i σ H' => ∃ (k3 : Option V) (rs : List Addr), σ = [some v, some (.str z), some (.ref kn), k3] ∧ Ex H H' ∧ H' l = some (.lst us) ∧ FlL H' F us ∧ H' kn = some (.lst (rs.map V.ref)) ∧ rs.length = i ∧ ∀ (m : Nat) x r, (E.take i)[m]? = some x → rs[m]? = some r → r ≠ kn ∧ H' r = some (.lst ((rowL z.cps.toList (Mt x)).map vN)))
      ⟨_, [], rfl, e1.trans e2, hl, hfl, g2, rfl, fun m x r h => by rw [List.take_zero] at h; cases h⟩ (fun i σ H' _ hh => ?_) ?_ ?_
    · obtain ⟨_, _, _, _, h, _⟩ := hh
      exact SqL.of h
    · rintro i x σ H3 hx ⟨k3, rs, rfl, e3, hl3, hfl3, g3, hrs, hrow⟩
      obtain ⟨f, hf⟩ : ∃ f, F[i]? = some f := ⟨_, List.getElem?_eq_getElem (by rw [lfl]; exact (List.getElem?_eq_some_iff.mp hx).1)⟩
      obtain ⟨a, hxa, ha⟩ := FlL.at hfl3 hf
      rw [hx] at hxa
      cases hxa
      have hiE : i < E.length := by rw [tb.n]; exact (List.getElem?_eq_some_iff.mp hf).1
      obtain ⟨t', ht'⟩ : ∃ t', E[i]? = some t' := ⟨_, List.getElem?_eq_getElem hiE⟩
      have hFl := tb.fl i t' f ht' hf
      walk_at "rc"
      refine ⟨.inl ⟨rfl, _, SqL.of g3⟩, ?_⟩
      walk_at "rc"
      refine ⟨a, kn, z, E.take i, t', f, _, rfl, ha, hFl, (hE t' (List.mem_of_getElem? ht')).1, g3, fun m x hm => ?_, hz, fun p H4 e4 hp hrp => ?_⟩
      · have hm2 : m < rs.length := by
          have := (List.getElem?_eq_some_iff.mp hm).1
          rw [List.length_take] at this
          omega
        obtain ⟨r, hr'⟩ : ∃ r, rs[m]? = some r := ⟨_, List.getElem?_eq_getElem hm2⟩
        refine ⟨r, by rw [List.getElem?_map, hr']; rfl, (hrow m x r hm hr').2⟩
      · walk_at "rc"
        have npk : p ≠ kn := fun y => by rw [y, g3] at hp; cases hp
        refine ⟨kn, _, _, rfl, rfl, e4 _ _ g3, by rw [List.length_map, hrs]; omega, ?_⟩
        have k4 : KT H3 (upd H4 kn (.lst (rs.map V.ref ++ [V.ref p]))) := (KT.ex e4).trans (.putL (e4 _ _ g3))
        refine ⟨_, rs ++ [p], rfl, Evl.Ex.mut (e3.trans e4) hkn, by rw [upd_ne (Ne.symm nkl)]; exact e4 _ _ hl3, hfl3.kt k4, by rw [upd_same, List.map_append]; rfl, by rw [List.length_append, hrs]; rfl, fun m x r hm hr' => ?_⟩
        rw [List.take_succ, ht'] at hm
        rcases Nat.lt_or_ge m i with y | y
        · rw [List.getElem?_append_left (by rw [List.length_take]; omega)] at hm
          rw [List.getElem?_append_left (by omega)] at hr'
          obtain ⟨h1, h2⟩ := hrow m x r hm hr'
          exact ⟨h1, by rw [upd_ne h1]; exact e4 _ _ h2⟩
        · have hmi : m = i := by
            have := (List.getElem?_eq_some_iff.mp hr').1
            rw [List.length_append, hrs] at this
            have : m < i + 1 := this
            omega
          subst hmi
          rw [List.getElem?_append_right (by rw [List.length_take]; omega), List.length_take, Nat.min_eq_left (Nat.le_of_lt hiE), Nat.sub_self] at hm
          rw [List.getElem?_append_right (by omega), hrs, Nat.sub_self] at hr'
          cases hm
          cases hr'
          exact ⟨npk, by rw [upd_ne npk]; exact hrp⟩
    · rintro σ H3 ⟨k3, rs, rfl, e3, hl3, hfl3, g3, hrs, hrow⟩
      have hn : us.length = E.length := by rw [tb.n, lfl]
      rw [hn] at hrs hrow
      rw [List.take_length] at hrow
      have hne : 0 < E.length := by
        cases E with
        | nil => cases hlast
        | cons _ _ => exact Nat.succ_pos _
      obtain ⟨r, hr'⟩ : ∃ r, rs[E.length - 1]? = some r := ⟨_, List.getElem?_eq_getElem (by omega)⟩
      rw [List.getLast?_eq_getElem?] at hlast
      obtain ⟨h1, h2⟩ := hrow _ t r hlast hr'
      walk_at "rc"
      have e6 : atI (rs.map V.ref) (-1) = some (.ref r) := by
        refine (atI_last (by rw [List.length_map]; omega)).trans ?_
        rw [← List.getElem?_eq_getElem, List.length_map, hrs, List.getElem?_map, hr']
        rfl
      refine rd_ng1 ?_
      refine rd_ixL (SqL.of g3) e6 ?_
      walk_at "rc"
      refine rd_ixL (SqL.of h2) (at_vN (m := 0) (by rw [rowL_len]; omega)) ?_
      rw [rowL_at (Nat.succ_pos _)]
      walk_at "rc"
      refine rd_lenS (by omega) ?_
      refine ⟨_, _, rfl, rfl, Int.natCast_nonneg _, ?_⟩
      walk_at "rc"
      refine ⟨_, _, rfl, rfl, ?_⟩
      walk_at "rc"
      refine q _ H3 ?_ e3
      rw [decide_eq_true_iff]
      show Builtin.bitAnd (((En z.cps.toList (Mt t) 0 : Nat) : Int) / 2 ^ (((z.length : Nat) : Int)).toNat) 1 = 1 ↔ _
      rw [PyProof.Rows.bitAnd_m1, Int.toNat_natCast]
      have e7 : ((En z.cps.toList (Mt t) 0 : Nat) : Int) / 2 ^ z.length % 2 = ((En z.cps.toList (Mt t) 0 / 2 ^ z.length % 2 : Nat) : Int) := by
        rw [Int.natCast_emod, Int.natCast_ediv, Int.natCast_pow]
        rfl
      rw [e7]
      have e8 := En_bit (u := z.cps.toList) (L := Mt t) (i := 0) (j := z.length)
      rw [Nat.testBit_eq_decide_div_mod_eq, decide_eq_true_iff] at e8
      have e9 : sl z.cps.toList 0 z.length = z.cps.toList := sl_all _
      rw [e9] at e8
      constructor
      · intro h
        exact (e8.mp (by omega)).2.2
      · intro h
        have := e8.mpr ⟨Nat.le_refl _, Nat.zero_le _, h⟩
        omega
end
section
theorem kept_sel {xs : List Nat} (nd : xs.Nodup) (p : Nat → Bool) : xs.filter (fun c => decide (c ∈ ((List.range xs.length).filter p).map fun j => xs.getD j 0)) = ((List.range xs.length).filter p).map fun j => xs.getD j 0 := by
  have h := getD_range xs 0 (fun c => decide (c ∈ ((List.range xs.length).filter p).map fun j => xs.getD j 0)) (fun c => c)
  rw [List.map_id'] at h
  rw [← h]
  congr 1
  refine List.filter_congr fun j hj => ?_
  have hj := List.mem_range.mp hj
  cases hp : p j with
  | false =>
    refine decide_eq_false fun hm => ?_
    obtain ⟨j', h1, h2⟩ := List.mem_map.mp hm
    obtain ⟨h3, h4⟩ := List.mem_filter.mp h1
    have h5 := List.mem_range.mp h3
    rw [List.getD_eq_getElem?_getD, List.getD_eq_getElem?_getD, List.getElem?_eq_getElem h5, List.getElem?_eq_getElem hj, Option.getD_some, Option.getD_some] at h2
    have e := (List.getElem_inj nd).mp h2
    subst e
    rw [hp] at h4
    cases h4
  | true => exact decide_eq_true (List.mem_map.mpr ⟨j, List.mem_filter.mpr ⟨List.mem_range.mpr hj, hp⟩, rfl⟩)
/-- letters kept, in their order -/
def KpS (L s : Str) : Prop := 0 < s.length ∧ keptS L s.cps.toList false = s
theorem kps_sel {L s : Str} {p : Nat → Bool} (nd : L.cps.toList.Nodup) (hs : s.cps.toList = ((List.range L.cps.toList.length).filter p).map fun j => L.cps.toList.getD j 0) (h0 : 0 < s.length) : KpS L s := by
  refine ⟨h0, toL_ext ?_⟩
  show (L.cps.toList.filter fun c => decide (c ∈ s.cps.toList) != false) = s.cps.toList
  rw [hs]
  rw [← kept_sel nd p]
  refine List.filter_congr fun c _ => ?_
  rw [kept_sel nd p]
  exact Bool.xor_false _
theorem range_first : ∀ n : Nat, 0 < n → (List.range n).filter (fun j => decide (j = 0)) = [0]
  | n + 1, _ => by
    rw [List.range_succ_eq_map, List.filter_cons_of_pos (by decide), List.filter_map]
    have e : (List.range n).filter ((fun j => decide (j = 0)) ∘ Nat.succ) = [] := List.filter_eq_nil_iff.mpr fun j _ => by simp
    rw [e]
    rfl
theorem kps_first {L : Str} {c : Nat} (nd : L.cps.toList.Nodup) (hc : L.cps.toList[0]? = some c) : KpS L ⟨#[c]⟩ := by
  have hl := (List.getElem?_eq_some_iff.mp hc).1
  refine kps_sel (p := fun j => decide (j = 0)) nd ?_ Nat.one_pos
  rw [range_first _ hl]
  show [c] = [L.cps.toList.getD 0 0]
  rw [List.getD_eq_getElem?_getD, hc]
  rfl
def LP (L : Str) : Pt → Prop
  | .nul k => k = "none" ∨ k = "empty"
  | .one s => KpS L s
  | .un k a => (k = "not" ∨ k = "star") ∧ LP L a
  | .bi k a b => (k = "join" ∨ k = "either" ∨ k = "both") ∧ LP L a ∧ LP L b
theorem KpS.len {L s : Str} (h : KpS L s) : s.length ≤ L.length := by
  rw [← h.2]
  show (keptS L s.cps.toList false).cps.toList.length ≤ L.cps.toList.length
  exact List.length_filter_le _ _
theorem LP.ok {L : Str} (hL : L.length ≤ 100) : ∀ {t : Pt}, LP L t → t.ok
  | .nul _, h => h
  | .one s, h => Nat.le_trans (KpS.len h) hL
  | .un _ a, h => ⟨h.1, LP.ok hL h.2⟩
  | .bi _ a b, h => ⟨h.1, LP.ok hL h.2.1, LP.ok hL h.2.2⟩
theorem Dr.kt {p : Addr} {H H' : Hp} (d : Dr p H H') (hS : StAt H p) : KT H H' := fun b xs e => by
  obtain ⟨l, ns, pl, h1, _⟩ := hS
  refine d.old b _ (fun z => ?_) e
  rw [z, h1] at e
  cases e
end
section
variable (T : Txt K mg)
def spLpt (d : Nat) : Sp := fun vs H Q _ => ∃ (p : Addr) (L : Str), vs = [.str L, .ref p, .int (d : Int)] ∧ Alpha L 3 ∧ StAt H p ∧ ∀ v t H', PtV H' t v → LP L t → t.dep ≤ d → t.size + 1 ≤ 2 ^ (d + 1) → Dr p H H' → Q v H'
def PXp : Nat → Sp
  | 0 => fun vs H Q _ => vs.length = 3 ∧ False
  | d + 1 => spLpt d
theorem ok_pt (d : Nat) (d6 : d ≤ 6) (hP : FnOk P w K mg base CX0 (d + 1) T.a_pattern T.d_pattern ["letters", "state", "deep"] (PXp d)) : FnOk P w K mg base CX0 (d + 2) T.a_pattern T.d_pattern ["letters", "state", "deep"] (spLpt d) := by
  refine T.f_pattern.ok sc_pattern (fun vs H Q E h => ?_) (fun cdv A outer s H vs Q E hr h => ?_)
  · obtain ⟨_, _, rfl, _⟩ := h; rfl
  · obtain ⟨p, L, rfl, al, hS, q⟩ := h
    have ok_pattern : ∀ _ : Txt K mg, FnOk P w K mg base CX0 (d + 1) T.a_pattern T.d_pattern ["letters", "state", "deep"] (PXp d) := fun _ => hP
    have sz : 100000 ≤ sizeLine := by decide
    have ll := al.l1
    have l0 := al.l0
    have lz : L.length ≤ sizeLine := by omega
    have d2 : 2 ≤ 2 ^ (d + 1) := by
      have := Nat.one_le_two_pow (n := d)
      rw [Nat.pow_succ]; omega
    refine ⟨_, (pss_cons (ps_set (i := 3) sc_pattern.nd rfl (by first | exact Or.inl rfl | exact Or.inr rfl) (pe_callE (ok_next T) (hr.mono (by omega)) T.o_next (pa_cons (pv 1) (pa_cons pe_int pa_nil))))
  (pss_cons (ps_if (PW.pt (pw_or (pt_cmpR (kEq K rfl hr.units) (pv 2) pe_int (by first | rfl | exact nomark _)) (pw_or1 (pt_cmpR op_ltP (pv 3) pe_int (by first | rfl | exact nomark _)))))
    (pss_cons (ps_set (i := 4) sc_pattern.nd rfl (by first | exact Or.inl rfl | exact Or.inr rfl) (pe_callE (ok_next T) (hr.mono (by omega)) T.o_next (pa_cons (pv 1) (pa_cons pe_int pa_nil))))
  (pss_cons (ps_if (pt_cmpR op_ltP (pv 4) pe_int (by first | rfl | exact nomark _))
    (pss_one (ps_ret (pe_ix (kIx K) (pe_lst (pa_cons (pe_tup (pa_cons pe_str pa_nil)) (pa_cons (pe_tup (pa_cons pe_str pa_nil)) pa_nil))) (pv 4) (fun _ _ => rfl))))
    pss_nil)
  (pss_cons (ps_set (i := 5) sc_pattern.nd rfl (by first | exact Or.inl rfl | exact Or.inr rfl) (pe_op (kAdd K) pe_int (pe_callE (ok_next T) (hr.mono (by omega)) T.o_next (pa_cons (pv 1) (pa_cons pe_int pa_nil)))))
  (pss_cons (ps_set (i := 6) sc_pattern.nd rfl (by first | exact Or.inl rfl | exact Or.inr rfl) (kBm K rfl (pe_bm PySem.F.plainAttrs_str PySem.F.slot_str_join PySem.F.type_str_join (kJoin K) pe_str (pa_cons (pe_lc (own := [("k", 7)]) (g := gName 7)  (by rfl) sc_pattern.nd (pi_range1 (by rfl) T.nb_range (pa_cons (pe_callB (kLen K) (by rfl) T.nb_len (by decide +kernel) (pa_cons (pv 0) pa_nil)) pa_nil)) (blkOk_by (own := [("k", 7)]) (N := ["letters", "state", "deep", "kind", "pick", "bits", "kept", "k", "first", "word"]) (sc := defScope s_pattern) (by decide +kernel)) (fun _ _ _ _ _ => (pg_name (i := 7) sc_pattern.nd rfl (by first | exact Or.inl rfl | exact Or.inr rfl))) (fun _ _ _ _ _ => (pts_one (pt_cmpR (kEq K rfl hr.units) (pe_op op_modP (pe_op op_divP (pv 5) (pe_ix (kIx K) (pe_lst (pa_cons pe_int (pa_cons pe_int (pa_cons pe_int pa_nil)))) (pe_op op_modP (pv 7) pe_int) (fun _ _ => rfl))) pe_int) pe_int (by first | rfl | exact nomark _)))) (fun _ _ _ _ _ => (pe_ix (kIx K) (pv 0) (pv 7) (fun _ _ => rfl)))) pa_nil))))
  (pss_cons (ps_if (pt_cmpR (kEq K rfl hr.units) (pv 6) pe_str (by first | rfl | exact nomark _))
    (pss_one (ps_set (i := 6) sc_pattern.nd rfl (by first | exact Or.inl rfl | exact Or.inr rfl) (pe_ix (kIx K) (pv 0) pe_int (fun _ _ => rfl))))
    pss_nil)
  (pss_one (ps_ret (pe_tup (pa_cons pe_str (pa_cons (pv 6) pa_nil))))))))))
    pss_nil)
  (pss_cons (ps_set (i := 8) sc_pattern.nd rfl (by first | exact Or.inl rfl | exact Or.inr rfl) (pe_callE (ok_pattern T) (hr.mono (by omega)) T.o_pattern (pa_cons (pv 0) (pa_cons (pv 1) (pa_cons (pe_op op_subP (pv 2) pe_int) pa_nil)))))
  (pss_cons (ps_if (pt_cmpR (kEq K rfl hr.units) (pv 3) pe_int (by first | rfl | exact nomark _))
    (pss_one (ps_ret (pe_tup (pa_cons pe_str (pa_cons (pv 8) pa_nil)))))
    pss_nil)
  (pss_cons (ps_if (pt_cmpR (kEq K rfl hr.units) (pv 3) pe_int (by first | rfl | exact nomark _))
    (pss_one (ps_ret (pe_tup (pa_cons pe_str (pa_cons (pv 8) pa_nil)))))
    pss_nil)
  (pss_cons (ps_set (i := 9) sc_pattern.nd rfl (by first | exact Or.inl rfl | exact Or.inr rfl) (pe_ix (kIx K) (pe_lst (pa_cons pe_str (pa_cons pe_str (pa_cons pe_str (pa_cons pe_str pa_nil))))) (pe_op op_subP (pv 3) pe_int) (fun _ _ => rfl)))
  (pss_one (ps_ret (pe_tup (pa_cons (pv 9) (pa_cons (pv 8) (pa_cons (pe_callE (ok_pattern T) (hr.mono (by omega)) T.o_pattern (pa_cons (pv 0) (pa_cons (pv 1) (pa_cons (pe_op op_subP (pv 2) pe_int) pa_nil)))) pa_nil)))))))))))), ?_⟩
    walk_at "rc"
    refine ⟨p, 9, rfl, by decide, hS, fun r H1 r0 r1 S1 o1 i1 => ?_⟩
    have d1 : Dr p H H1 := ⟨S1, o1, i1.2⟩
    refine rd_gn ?_
    dsimp only
    walk_at "rs"
    refine rd_tcut (decide ((d : Int) = 0) || decide (r < 3)) (fun Q' hQ => ?_) ?_
    · walk_at "rc"
      refine rd_ite (fun h => ?_) fun h => ?_
      · rw [h] at hQ
        exact hQ
      · rw [h, Bool.false_or] at hQ
        walk_at "rc"
        exact hQ
    refine rd_ite (fun hc => ?_) fun hc => ?_
    · walk_at "rc"
      refine ⟨p, 8, rfl, by decide, d1.st, fun r2 H2 r20 r21 S2 o2 i2 => ?_⟩
      have d2' := d1.trans ⟨S2, o2, i2.2⟩
      walk_at "rc"
      walk_at "rs"
      walk_at "rc"
      refine rd_iteD (fun h => ?_) fun h => ?_
      · walk_at "rc"
        refine ⟨by show 1 ≤ sizeLine; decide, fun t1 ht1 => ?_⟩
        walk_at "rc"
        refine ⟨by show 1 ≤ sizeLine; decide, fun t2 ht2 => ?_⟩
        walk_at "rc"
        refine ⟨by show 2 ≤ sizeLine; decide, fun l3 hl3 => ?_⟩
        walk_at "rc"
        have e1 := Evl.Ex.new (o := .tup [.str (Str.ofString "none")]) ht1
        have e2 := Evl.Ex.new (o := .tup [.str (Str.ofString "empty")]) ht2
        have e3 := Evl.Ex.new (o := .lst [V.ref t1, V.ref t2]) hl3
        have dd := ((d2'.ex e1).ex e2).ex e3
        have g1 := e3 _ _ (e2 _ _ upd_same)
        have g2 := e3 _ _ upd_same
        have hr2 : r2 = 0 ∨ r2 = 1 := by omega
        rcases hr2 with rfl | rfl
        · refine rd_ixL (SqL.of upd_same) (atI_nat (j := 0) rfl) ?_
          exact q _ (.nul "none") _ ⟨t1, rfl, g1⟩ (.inl rfl) (Nat.zero_le _) d2 dd
        · refine rd_ixL (SqL.of upd_same) (atI_nat (j := 1) rfl) ?_
          exact q _ (.nul "empty") _ ⟨t2, rfl, g2⟩ (.inr rfl) (Nat.zero_le _) d2 dd
      walk_at "rc"
      refine ⟨p, 7, rfl, by decide, d2'.st, fun r3 H3 r30 r31 S3 o3 i3 => ?_⟩
      have d3 := d2'.trans ⟨S3, o3, i3.2⟩
      walk_at "rc"
      refine ⟨rfl, ?_⟩
      walk_at "rc"
      refine rd_lenS lz ?_
      walk_at "rc"
      refine ⟨_, rfl, by omega, by omega, ?_⟩
      refine lc_F (K := K) (S := []) (P := fun i x => x = V.int (i : Nat)) tr_ex (fun b hb => nomatch hb) walk_range0 rng_Y (by omega) (fun _ _ => True.intro) (fun j => decide (((1 + r3).fdiv ([1, 2, 4].getD j 1)).fmod 2 = 1)) (fun j => .str ⟨#[L.cps.toList.getD j 0]⟩) (hg_name fun v => rfl) (fun l j σ2 Hc hj p2 hl nl ec _ _ N hN => ?_) (fun l j σ2 Hc hj p2 hp hl nl ec _ _ N hN => ?_) fun l us Hc ec hl nl hus hds => ?_
      · obtain ⟨x, rfl, rfl⟩ := p2
        have hj3 : j = 0 ∨ j = 1 ∨ j = 2 := by omega
        walk_at "rc"
        refine ⟨by show 3 ≤ sizeLine; decide, fun l2 hl2 => ?_⟩
        walk_at "rc"
        refine rd_modI (by decide) ?_
        rcases hj3 with rfl | rfl | rfl
        · refine rd_ixL (SqL.of upd_same) (atI_nat (j := 0) rfl) ?_
          refine rd_divI ⟨by decide, by decide⟩ ?_
          walk_at "rc"
          refine rd_modI (by decide) ?_
          walk_at "rc"
          exact hN _ (Evl.Ex.new hl2)
        · refine rd_ixL (SqL.of upd_same) (atI_nat (j := 1) rfl) ?_
          refine rd_divI ⟨by decide, by decide⟩ ?_
          walk_at "rc"
          refine rd_modI (by decide) ?_
          walk_at "rc"
          exact hN _ (Evl.Ex.new hl2)
        · refine rd_ixL (SqL.of upd_same) (atI_nat (j := 2) rfl) ?_
          refine rd_divI ⟨by decide, by decide⟩ ?_
          walk_at "rc"
          refine rd_modI (by decide) ?_
          walk_at "rc"
          exact hN _ (Evl.Ex.new hl2)
      · obtain ⟨x, rfl, rfl⟩ := p2
        have hj3 : j < L.cps.toList.length := by show j < L.length; omega
        walk_at "rc"
        refine rd_ixS lz (atI_nat (List.getElem?_eq_getElem hj3)) ?_
        refine hN _ Hc (Evl.Ex.refl _) ?_
        rw [List.getD_eq_getElem?_getD, List.getElem?_eq_getElem hj3]
        exact .str _
      · have hnn : ((L.length : Nat) : Int).toNat = L.cps.toList.length := Int.toNat_natCast _
        rw [hnn] at hds
        generalize hp : (fun j => decide (((1 + r3).fdiv ([1, 2, 4].getD j 1)).fmod 2 = 1)) = pb at hds
        have eds : ((List.range L.cps.toList.length).filter pb).map (fun j => PyData.str ⟨#[L.cps.toList.getD j 0]⟩) = (((((List.range L.cps.toList.length).filter pb).map fun j => L.cps.toList.getD j 0).map fun c => (⟨#[c]⟩ : Str)).map PyData.str) := by
          rw [List.map_map, List.map_map]; rfl
        have hds := eds ▸ hds
        have eu := dp_strs hds
        subst eu
        have lf : (((List.range L.cps.toList.length).filter pb).map fun j => L.cps.toList.getD j 0).length ≤ 100 := by
          rw [List.length_map]
          refine Nat.le_trans (List.length_filter_le _ _) ?_
          rw [List.length_range]
          show L.length ≤ 100
          omega
        have e0 : (Str.ofString "").length = 0 := by decide +kernel
        walk_at "rc"
        refine ⟨"", l, _, rfl, rfl, .inl (SqL.of hus), ?_, ?_⟩
        · have lf2 := lf
          simp only [List.length_map] at lf2
          rw [sum_signs, e0, Nat.mul_zero]
          simp only [List.length_map]
          omega
        have et := join_signs (((List.range L.cps.toList.length).filter pb).map fun j => L.cps.toList.getD j 0)
        generalize Txt.join "" ((((List.range L.cps.toList.length).filter pb).map fun j => L.cps.toList.getD j 0).map fun c => (⟨#[c]⟩ : Str)) = sk at et
        have d4 := d3.ex ec
        obtain ⟨c0, hc0⟩ : ∃ c, L.cps.toList[0]? = some c := ⟨_, List.getElem?_eq_getElem (by show 0 < L.length; omega)⟩
        have fin : ∀ (s' : Str), KpS L s' → ∀ a, Hc a = none → Q (.ref a) (upd Hc a (.tup [.str (Str.ofString "one"), .str s'])) := fun s' hk a ha => by
          have ea := Evl.Ex.new (o := .tup [.str (Str.ofString "one"), .str s']) ha
          exact q _ (.one s') _ ⟨a, rfl, upd_same⟩ hk (Nat.zero_le _) d2 (d4.ex ea)
        refine rd_gn ?_
        dsimp only
        walk_at "rs"
        walk_at "rc"
        refine rd_iteD (fun h => ?_) fun h => ?_
        · walk_at "rc"
          refine rd_ixS lz (atI_nat (j := 0) hc0) ?_
          walk_at "rc"
          exact ⟨by show 2 ≤ sizeLine; decide, fun a ha => fin _ (kps_first al.nd hc0) a ha⟩
        · have h0 : 0 < sk.length := by
            refine Nat.pos_of_ne_zero fun z => h (toL_ext ?_)
            have e1 : sk.cps.toList = [] := List.length_eq_zero_iff.mp z
            rw [e1]
            decide +kernel
          walk_at "rc"
          exact ⟨by show 2 ≤ sizeLine; decide, fun a ha => fin _ (kps_sel al.nd et h0) a ha⟩
    · have hd0 : d ≠ 0 := fun z => by subst z; cases hc
      obtain ⟨d, rfl⟩ : ∃ d', d = d' + 1 := ⟨d - 1, by omega⟩
      have hr3 : ¬ r < 3 := fun z => by rw [decide_eq_true z, Bool.or_true] at hc; cases hc
      have e1 : ((d + 1 : Nat) : Int) - 1 = (d : Int) := by omega
      have hpow : 2 ^ (d + 1 + 1) = 2 ^ (d + 1) * 2 := Nat.pow_succ ..
      walk_at "rc"
      rw [e1]
      refine ⟨p, L, rfl, al, d1.st, fun v1 t1 H2 hv1 lp1 dp1 sz1 dr1 => ?_⟩
      have dd2 := d1.trans dr1
      walk_at "rc"
      walk_at "rs"
      walk_at "rc"
      refine rd_iteD (fun h => ?_) fun h => ?_
      · walk_at "rc"
        refine ⟨by show 2 ≤ sizeLine; decide, fun a ha => ?_⟩
        have ea := Evl.Ex.new (o := .tup [.str (Str.ofString "not"), v1]) ha
        exact q _ (.un "not" t1) _ ⟨a, v1, rfl, upd_same, PtV.kt (.ex ea) t1 hv1⟩ ⟨.inl rfl, lp1⟩ (Nat.succ_le_succ dp1) (by show t1.size + 1 + 1 ≤ _; omega) (dd2.ex ea)
      walk_at "rc"
      walk_at "rs"
      walk_at "rc"
      refine rd_iteD (fun h2 => ?_) fun h2 => ?_
      · walk_at "rc"
        refine ⟨by show 2 ≤ sizeLine; decide, fun a ha => ?_⟩
        have ea := Evl.Ex.new (o := .tup [.str (Str.ofString "star"), v1]) ha
        exact q _ (.un "star" t1) _ ⟨a, v1, rfl, upd_same, PtV.kt (.ex ea) t1 hv1⟩ ⟨.inr rfl, lp1⟩ (Nat.succ_le_succ dp1) (by show t1.size + 1 + 1 ≤ _; omega) (dd2.ex ea)
      walk_at "rc"
      refine ⟨by show 4 ≤ sizeLine; decide, fun wl hwl => ?_⟩
      have ew := Evl.Ex.new (o := .lst [V.str (Str.ofString "join"), V.str (Str.ofString "join"), V.str (Str.ofString "either"), V.str (Str.ofString "both")]) hwl
      walk_at "rc"
      have hw : ∃ k : Str, (k = "join" ∨ k = "either" ∨ k = "both") ∧ atI [V.str (Str.ofString "join"), V.str (Str.ofString "join"), V.str (Str.ofString "either"), V.str (Str.ofString "both")] (r - 3) = some (.str k) := by
        have hr4 : r = 3 ∨ r = 4 ∨ r = 5 ∨ r = 6 := by omega
        rcases hr4 with rfl | rfl | rfl | rfl
        · exact ⟨_, .inl rfl, atI_nat (j := 0) rfl⟩
        · exact ⟨_, .inl rfl, atI_nat (j := 1) rfl⟩
        · exact ⟨_, .inr (.inl rfl), atI_nat (j := 2) rfl⟩
        · exact ⟨_, .inr (.inr rfl), atI_nat (j := 3) rfl⟩
      obtain ⟨k, hk, hat⟩ := hw
      refine rd_ixL (SqL.of upd_same) hat ?_
      walk_at "rc"
      rw [e1]
      refine ⟨p, L, rfl, al, (dd2.ex ew).st, fun v2 t2 H4 hv2 lp2 dp2 sz2 dr2 => ?_⟩
      have dd4 := (dd2.ex ew).trans dr2
      walk_at "rc"
      refine ⟨by show 3 ≤ sizeLine; decide, fun a ha => ?_⟩
      have ea := Evl.Ex.new (o := .tup [.str k, v1, v2]) ha
      exact q _ (.bi k t1 t2) _ ⟨a, v1, v2, rfl, upd_same, PtV.kt (((KT.ex ew).trans (dr2.kt (dd2.ex ew).st)).trans (.ex ea)) t1 hv1, PtV.kt (.ex ea) t2 hv2⟩ ⟨hk, lp1, lp2⟩ (by show max t1.dep t2.dep + 1 ≤ _; omega) (by show t1.size + t2.size + 1 + 1 ≤ _; omega) (dd4.ex ea)
theorem ok_pts : ∀ d, d ≤ 6 → FnOk P w K mg base CX0 (d + 2) T.a_pattern T.d_pattern ["letters", "state", "deep"] (spLpt d)
  | 0, h => ok_pt T 0 h (T.f_pattern.ok sc_pattern (fun vs H Q E h => h.1) (fun cdv A outer s H vs Q E hr h => h.2.elim))
  | d + 1, h => ok_pt T (d + 1) h (ok_pts d (by omega))
theorem FnOk.exd {CX : CXT} {k : Nat} {f : Addr} {fd : FuncData} {ps : List Str} {sp : Nat → Sp} {n : Nat} (F : ∀ d, d ≤ n → FnOk P w K mg base CX k f fd ps (sp d)) : FnOk P w K mg base CX k f fd ps (fun vs H Q E => ∃ d, d ≤ n ∧ sp d vs H Q E) :=
  ⟨fun vs H Q E ⟨d, h, q⟩ => (F d h).len vs H Q E q, fun A outer s H args us vs Q E hr he hb hv ⟨d, h, q⟩ => (F d h).run A outer s H args us vs Q E hr he hb hv q⟩
theorem ok_pattern : FnOk P w K mg base CX0 8 T.a_pattern T.d_pattern ["letters", "state", "deep"] (fun vs H Q E => ∃ d, d ≤ 6 ∧ spLpt d vs H Q E) := FnOk.exd fun d hd => (ok_pts T d hd).mono (by omega)
end
section
/-! ### some of the texts -/
theorem lc_txt {ls : Str} {j : Nat} {R : List (List Nat)} {f : List Nat → Bool} {σ : L2.St} {H H0 : Hp} {Q : VK} {J : It} {tt : TT} (wJ : Wd K J (R.map fun u => PyData.str (tx ls u)) H0) (e0 : Ex H0 H) (rl : R.length < 100000) (hw : ∀ v : V, wipe ((wipe σ [j]).set j (some v)) [j] = wipe σ [j]) (hj : ∀ v : V, ((wipe σ [j]).set j (some v))[j]? = some (some v))
    (ht : ∀ u ∈ R, ∀ Hc, Ex H Hc → ∀ N : Bool → Hp → Prop, (∀ H2, Ex Hc H2 → N (f u) H2) → tt ((wipe σ [j]).set j (some (.str (tx ls u)))) Hc N)
    (h : ∀ L Hc, Ex H Hc → H L = none → Dp K Hc (.ref L) (txD ls (R.filter f)) → Q (.ref L) Hc) : lcB (gName j) tt (tVar j) [j] σ Q J H := by
  refine lc_F (K := K) (S := []) (P := fun i x => ∃ d, (R.map fun u => PyData.str (tx ls u))[i]? = some d ∧ Dp K H0 x d) tr_ex (fun b hb => nomatch hb) wJ wd_Y (by rw [List.length_map]; exact rl) (fun Hc e => e0.trans e) (fun i => f (R.getD i [])) (fun i => .str (tx ls (R.getD i []))) (hg_name hw) (fun L i σ2 Hc hi p2 hL nL t1 hs1 up N hN => ?_) (fun L i σ2 Hc hi p2 _ hL nL t1 hs1 up N hN => ?_) fun L us H3 e3 hL nLs hL3 hds => ?_
  · obtain ⟨v, ⟨d, hd', hv⟩, rfl⟩ := p2
    rw [List.getElem?_map] at hd'
    obtain ⟨u, hu, rfl⟩ := Option.map_eq_some_iff.mp hd'
    cases Dp.str_iff hv
    have eu : R.getD i [] = u := by rw [List.getD_eq_getElem?_getD, hu]; rfl
    rw [eu] at hN
    exact ht u (List.mem_of_getElem? hu) Hc t1 N hN
  · obtain ⟨v, ⟨d, hd', hv⟩, rfl⟩ := p2
    rw [List.getElem?_map] at hd'
    obtain ⟨u, hu, rfl⟩ := Option.map_eq_some_iff.mp hd'
    have eu : R.getD i [] = u := by rw [List.getD_eq_getElem?_getD, hu]; rfl
    rw [eu] at hN
    cases Dp.str_iff hv
    exact rd_var (hj _) (hN _ _ (Evl.Ex.refl _) (.str _))
  · have ed : ((List.range (R.map fun u => PyData.str (tx ls u)).length).filter fun i => f (R.getD i [])).map (fun i => PyData.str (tx ls (R.getD i []))) = (R.filter f).map fun u => PyData.str (tx ls u) := by
      rw [List.length_map]
      exact getD_range R [] f fun u => PyData.str (tx ls u)
    rw [ed] at hds
    exact h L H3 e3 hL ((Dp.frz hL3 nLs hds).ex hid_ex)
/-- a dict that tells something of texts -/
structure InD (ls : Str) (kvs : List (L2.Key × V)) (f : List Nat → Bool) (R : List (List Nat)) (c : Nat) : Prop where
  l : kvs.length ≤ c
  v : ∀ u ∈ R, valV kvs (.inr (tx ls u)) = some (.bl (f u))
theorem InD.put {ls : Str} {kvs : List (L2.Key × V)} {f : List Nat → Bool} {R : List (List Nat)} {c : Nat} {u : List Nat} (h : InD ls kvs f R c) (inj : ∀ v ∈ R, tx ls v = tx ls u → v = u) : InD ls (putK kvs (.inr (tx ls u)) (.bl (f u))) f (R ++ [u]) (c + 1) := by
  refine ⟨Nat.le_trans (length_putK _ _ _) (Nat.succ_le_succ h.l), fun v hv => ?_⟩
  rw [valV_put]
  rcases List.mem_append.mp hv with z | z
  · by_cases e : (.inr (tx ls v) : L2.Key) = .inr (tx ls u)
    · rw [if_pos e, inj v z (Sum.inr.inj e)]
    · rw [if_neg e]; exact h.v v z
  · rw [List.mem_singleton.mp z, if_pos rfl]
end
section
/-! ### all texts of few letters, in order -/
theorem len_lvW (w : Nat) : ∀ n, (lvW w n).length = w ^ n
  | 0 => rfl
  | n + 1 => by
    show ((lvW w n).flatMap _).length = _
    rw [List.length_flatMap, Nat.pow_succ, ← len_lvW w n]
    generalize lvW w n = l
    induction l with
    | nil => simp
    | cons u l ih => rw [List.map_cons, List.sum_cons, ih, List.length_map, List.length_range, List.length_cons, Nat.succ_mul]; omega
theorem len_rowsW {w b : Nat} (hw : w ≤ b) (b0 : 0 < b) : ∀ n, (rowsW w n).length ≤ (n + 1) * b ^ n
  | 0 => by show 1 ≤ _; simp
  | n + 1 => by
    show (rowsW w n ++ lvW w (n + 1)).length ≤ _
    rw [List.length_append, len_lvW]
    have h1 := len_rowsW hw b0 n
    have h2 : w ^ (n + 1) ≤ b ^ (n + 1) := Nat.pow_le_pow_left hw _
    have h3 : (n + 1) * b ^ n ≤ (n + 1) * b ^ (n + 1) := Nat.mul_le_mul_left _ (Nat.pow_le_pow_right b0 (Nat.le_succ n))
    rw [Nat.succ_mul (n + 1)]
    omega
theorem map_getD {α β : Type} (l : List α) (d : α) (f : α → β) : (List.range l.length).map (fun j => f (l.getD j d)) = l.map f := by
  refine List.ext_getElem (by simp) fun i h1 h2 => ?_
  rw [List.getElem_map, List.getElem_range, List.getElem_map, List.getD_eq_getElem?_getD, List.getElem?_eq_getElem (by simpa using h2)]
  rfl
theorem longer (ls : Str) (u : List Nat) : (ls.cps.toList.map fun c => tx ls u ++ (⟨#[c]⟩ : Str)) = ((List.range ls.length).map fun j => u ++ [j]).map (tx ls) := by
  rw [List.map_map, ← map_getD ls.cps.toList 0 fun c => tx ls u ++ (⟨#[c]⟩ : Str)]
  refine List.map_congr_left fun j _ => ?_
  show _ = tx ls (u ++ [j])
  rw [tx_snoc]
def spTextsX : Sp := fun vs H Q _ => ∃ (ls : Str) (most b : Nat), vs = [.str ls, .int (most : Int)] ∧ ls.length ≤ b ∧ 0 < b ∧ b ≤ 3 ∧ most ≤ 9 ∧ ∀ (p : Addr) (H' : Hp), Ex H H' → H' p = some (.lst (((rowsW ls.length most).map (tx ls)).map V.str)) → Q (.ref p) H'
theorem pow_le3 {l k m : Nat} (h : l ≤ 3) (hk : k ≤ m) : l ^ k ≤ 3 ^ m := Nat.le_trans (Nat.pow_le_pow_left h k) (Nat.pow_le_pow_right (by decide) hk)
theorem ok_texts (T : Txt K mg) : FnOk P w K mg base CX0 1 T.a_texts T.d_texts ["letters", "most"] spTextsX := by
  refine T.f_texts.ok sc_texts (fun vs H Q E h => ?_) (fun cdv A outer s H vs Q E hr h => ?_)
  · obtain ⟨_, _, _, rfl, _⟩ := h; rfl
  · obtain ⟨ls, most, b, rfl, lb, b0, b3, m9, q⟩ := h
    have l3 : ls.length ≤ 3 := Nat.le_trans lb b3
    have sl : sizeLine ≥ 1000000 := by decide
    have p9 : (3 : Nat) ^ 9 = 19683 := by decide
    have lvB : ∀ k, k ≤ 9 → (lvW ls.length k).length ≤ 19683 := fun k hk => by rw [len_lvW, ← p9]; exact pow_le3 l3 hk
    have rowB : ∀ k, k ≤ 9 → (rowsW ls.length k).length ≤ 10 * 19683 := fun k hk => Nat.le_trans (len_rowsW lb b0 k) (Nat.mul_le_mul (by omega) (p9 ▸ pow_le3 b3 hk))
    refine ⟨_, (pss_cons (ps_set (i := 2) sc_texts.nd rfl (by first | exact Or.inl rfl | exact Or.inr rfl) (pe_lst (pa_cons pe_str pa_nil)))
  (pss_cons (ps_set (i := 3) sc_texts.nd rfl (by first | exact Or.inl rfl | exact Or.inr rfl) (pe_lst (pa_cons pe_str pa_nil)))
  (pss_cons (ps_for PassesOwn.never rfl (pi_range1 (by rfl) T.nb_range (pa_cons (pv 1) pa_nil)) (pg_name (i := 4) sc_texts.nd rfl (by first | exact Or.inl rfl | exact Or.inr rfl))
    (pss_cons (ps_set (i := 5) sc_texts.nd rfl (by first | exact Or.inl rfl | exact Or.inr rfl) (pe_lst pa_nil))
  (pss_cons (ps_for PassesOwn.never rfl (kAny K rfl (pv 2)) (pg_name (i := 6) sc_texts.nd rfl (by first | exact Or.inl rfl | exact Or.inr rfl))
    (pss_one (ps_set (i := 5) sc_texts.nd rfl (by first | exact Or.inl rfl | exact Or.inr rfl) (pe_op (kAdd K) (pv 5) (pe_lc (own := [("letter", 7)]) (g := gName 7) (tt := tYes) (by rfl) sc_texts.nd (kAny K rfl (pv 0)) (blkOk_by (own := [("letter", 7)]) (N := ["letters", "most", "last", "rows", "k", "longer", "text", "letter"]) (sc := defScope s_texts) (by decide +kernel)) (fun _ _ _ _ _ => (pg_name (i := 7) sc_texts.nd rfl (by first | exact Or.inl rfl | exact Or.inr rfl))) (fun _ _ _ _ _ => pts_nil) (fun _ _ _ _ _ => (pe_op (kAdd K) (pv 6) (pv 7))))))))
  (pss_cons (ps_set (i := 2) sc_texts.nd rfl (by first | exact Or.inl rfl | exact Or.inr rfl) (pv 5))
  (pss_one (ps_set (i := 3) sc_texts.nd rfl (by first | exact Or.inl rfl | exact Or.inr rfl) (pe_op (kAdd K) (pv 3) (pv 2))))))))
  (pss_one (ps_ret (pv 3)))))), ?_⟩
    walk_at "rc"
    refine ⟨by decide, fun p1 hp1 => ?_⟩
    have e1 : Ex H (upd H p1 (.lst [.str ""])) := Evl.Ex.new hp1
    have h1 : upd H p1 (.lst [.str ""]) p1 = some (.lst (((lvW ls.length 0).map (tx ls)).map V.str)) := upd_same
    generalize upd H p1 (.lst [.str ""]) = H1 at e1 h1
    walk_at "rc"
    refine ⟨by decide, fun p2 hp2 => ?_⟩
    have e2 : Ex H1 (upd H1 p2 (.lst [.str ""])) := Evl.Ex.new hp2
    have h2 : upd H1 p2 (.lst [.str ""]) p2 = some (.lst (((rowsW ls.length 0).map (tx ls)).map V.str)) := upd_same
    generalize upd H1 p2 (.lst [.str ""]) = H2 at e2 h2
    walk_at "rc"
    walk_at "rs"
    walk_at "rc"
    refine ⟨(most : Int), rfl, by omega, by omega, fo_range (n := (most : Int).toNat) (fun k σ H' => ∃ (la ro : Addr) (k4 k5 k6 k7 : Option V), σ = [some (.str ls), some (.int (most : Int)), some (.ref la), some (.ref ro), k4, k5, k6, k7] ∧ Ex H H' ∧ H' la = some (.lst (((lvW ls.length k).map (tx ls)).map V.str)) ∧ H' ro = some (.lst (((rowsW ls.length k).map (tx ls)).map V.str)))
      ⟨p1, p2, _, _, _, _, rfl, e1.trans e2, e2 _ _ h1, h2⟩ ?_ ?_⟩
    · rintro k σ H3 hk ⟨la, ro, k4, k5, k6, k7, rfl, e3, hla, hro⟩
      have hk9 : k < 9 := by omega
      walk_at "rc"
      refine ⟨by decide, fun lo hlo => ?_⟩
      have e4 : Ex H3 (upd H3 lo (.lst [])) := Evl.Ex.new hlo
      have h4 : upd H3 lo (.lst []) lo = some (.lst (([] : List Str).map V.str)) := upd_same
      generalize upd H3 lo (.lst []) = H4 at e4 h4
      walk_at "rc"
      walk_at "rs"
      walk_at "rc"
      refine rd_anyL (fun Q q => ⟨_, rfl, q⟩) (SqL.of (e4 _ _ hla)) (fo_list (fun i σ H' => ∃ (lo : Addr) (k6 k7 : Option V), σ = [some (.str ls), some (.int (most : Int)), some (.ref la), some (.ref ro), some (.int (k : Nat)), some (.ref lo), k6, k7] ∧ Ex H3 H' ∧ H' lo = some (.lst (((((lvW ls.length k).take i).flatMap fun u => (List.range ls.length).map fun j => u ++ [j]).map (tx ls)).map V.str)) ∧
          (((lvW ls.length k).take i).flatMap fun u => (List.range ls.length).map fun j => u ++ [j]).length ≤ i * 3)
        ⟨lo, _, _, rfl, e4, h4, by simp⟩ (fun i σ H' _ ⟨_, _, _, _, e, _⟩ => SqL.of (e _ _ hla)) ?_ ?_)
      · rintro i x σ H5 hi ⟨lo, k6, k7, rfl, e5, hlo5, lu⟩
        rw [List.getElem?_map, List.getElem?_map] at hi
        obtain ⟨t, ht, rfl⟩ := Option.map_eq_some_iff.mp hi
        obtain ⟨u, hu, rfl⟩ := Option.map_eq_some_iff.mp ht
        have hul := (mem_lvW.mp (List.mem_of_getElem? hu)).2
        have hiw := (List.getElem?_eq_some_iff.mp hu).1
        have hi9 := lvB k (by omega)
        walk_at "rc"
        refine rd_anyS (fun Q q => ⟨_, rfl, q⟩) ?_
        refine lc_F (K := K) (S := []) (P := fun i x => ∃ c, ls.cps.toList[i]? = some c ∧ x = V.str ⟨#[c]⟩) tr_ex (fun b hb => nomatch hb) walk_str str_Y (by show ls.length < 100000; omega) (fun _ _ => True.intro) (fun _ => true) (fun i => .str (tx ls u ++ (⟨#[ls.cps.toList.getD i 0]⟩ : Str))) (hg_name fun v => rfl) (fun L i σ2 Hc hi p2 hL nL t1 hs1 up N hN => rd_yes (hN Hc (Evl.Ex.refl Hc))) (fun L i σ2 Hc hi p2 hp2 hL nL t1 hs1 up N hN => ?_) fun L vs H6 e6 hL nL hvs hds => ?_
        · obtain ⟨x, ⟨c, hc, rfl⟩, rfl⟩ := p2
          walk_at "rc"
          have e : ls.cps.toList.getD i 0 = c := by rw [List.getD_eq_getElem?_getD, hc]; rfl
          refine rd_addS (x := tx ls u) (y := ⟨#[c]⟩) (by show (tx ls u).length + 1 ≤ sizeLine; rw [tx_len]; omega) ?_
          refine hN _ Hc (Evl.Ex.refl Hc) ?_
          rw [e]
          exact .str _
        · have ev : ((List.range ls.cps.size).filter (fun _ => true)).map (fun i => PyData.str (tx ls u ++ (⟨#[ls.cps.toList.getD i 0]⟩ : Str))) = (((List.range ls.length).map fun j => u ++ [j]).map (tx ls)).map PyData.str := by
            rw [List.filter_eq_self.mpr (fun _ _ => rfl), ← longer, List.map_map]
            exact map_getD ls.cps.toList 0 fun c => PyData.str (tx ls u ++ (⟨#[c]⟩ : Str))
          rw [ev] at hds
          have ee := dp_strs hds
          subst ee
          have snoc : ((lvW ls.length k).take (i + 1)).flatMap (fun u => (List.range ls.length).map fun j => u ++ [j]) = ((lvW ls.length k).take i).flatMap (fun u => (List.range ls.length).map fun j => u ++ [j]) ++ (List.range ls.length).map fun j => u ++ [j] := by
            rw [List.take_succ, hu, List.flatMap_append]
            simp
          refine rd_cat (e6 _ _ hlo5) hvs (by simp only [List.length_map, List.length_range]; omega) fun p7 hp7 => ?_
          walk_at "rc"
          refine ⟨p7, _, _, rfl, ex_upd (e5.trans e6) hp7, by rw [upd_same, snoc, List.map_append, List.map_append], ?_⟩
          rw [snoc, List.length_append, List.length_map, List.length_range]
          omega
      · rintro σ H5 ⟨lo, k6, k7, rfl, e5, hlo5, lu⟩
        rw [List.length_map, List.length_map, List.take_length] at hlo5 lu
        walk_at "rc"
        have hro5 := e5 _ _ hro
        have b1 := rowB k (by omega)
        have b2 := lvB (k + 1) (by omega)
        refine rd_cat hro5 hlo5 (by rw [List.length_map, List.length_map, List.length_map, List.length_map]; show _ + (lvW ls.length (k + 1)).length ≤ _; omega) fun p6 hp6 => ?_
        walk_at "rc"
        refine ⟨lo, p6, _, _, _, _, rfl, ex_upd (e3.trans e5) hp6, at_upd hp6 hlo5, ?_⟩
        rw [upd_same]
        show _ = some (HO.lst (((rowsW ls.length k ++ lvW ls.length (k + 1)).map (tx ls)).map V.str))
        rw [List.map_append, List.map_append]
        rfl
    · rintro σ H3 ⟨la, ro, k4, k5, k6, k7, rfl, e3, hla, hro⟩
      rw [Int.toNat_natCast] at hro
      walk_at "rc"
      exact q ro H3 e3 hro
end
section
theorem Lw.app {w : Nat} {u v : List Nat} (hu : Lw w u) (hv : Lw w v) : Lw w (u ++ v) := fun x hx => (List.mem_append.mp hx).elim (hu x) (hv x)
end
section
/-! ### texts marked in a dict -/
def mkK (ls : Str) (R : List (List Nat)) : List (L2.Key × V) := R.map fun u => (.inr (tx ls u), .bl true)
def addR (R : List (List Nat)) (u : List Nat) : List (List Nat) := if u ∈ R then R else R ++ [u]
theorem mem_addR {R : List (List Nat)} {u v : List Nat} : v ∈ addR R u ↔ v ∈ R ∨ v = u := by
  unfold addR
  by_cases h : u ∈ R
  · rw [if_pos h]; exact ⟨.inl, fun z => z.elim id fun e => by rw [e]; exact h⟩
  · rw [if_neg h, List.mem_append, List.mem_singleton]
structure TxS (ls : Str) (R : List (List Nat)) : Prop where
  n : R.Nodup
  w : ∀ u ∈ R, Lw ls.length u
theorem TxS.nil {ls : Str} : TxS ls [] := ⟨List.nodup_nil, fun u h => nomatch h⟩
theorem TxS.add {ls : Str} {R : List (List Nat)} {u : List Nat} (h : TxS ls R) (hu : Lw ls.length u) : TxS ls (addR R u) := by
  unfold addR
  by_cases e : u ∈ R
  · rw [if_pos e]; exact h
  · rw [if_neg e]
    refine ⟨List.nodup_append.mpr ⟨h.n, List.nodup_cons.mpr ⟨(fun z => nomatch z), List.nodup_nil⟩, fun a ha b hb z => ?_⟩, fun v hv => ?_⟩
    · rw [List.mem_singleton.mp hb] at z
      rw [z] at ha
      exact e ha
    · rcases List.mem_append.mp hv with z | z
      · exact h.w v z
      · rw [List.mem_singleton.mp z]; exact hu
theorem len_addR (R : List (List Nat)) (u : List Nat) : (addR R u).length ≤ R.length + 1 := by
  unfold addR
  split
  · omega
  · rw [List.length_append]; exact Nat.le_refl _
theorem len_mk {ls : Str} {R : List (List Nat)} : (mkK ls R).length = R.length := List.length_map _
theorem mk_at {ls : Str} {R : List (List Nat)} {i : Nat} {k : L2.Key} {v : V} (h : (mkK ls R)[i]? = some (k, v)) : ∃ u, R[i]? = some u ∧ k = .inr (tx ls u) := by
  unfold mkK at h
  rw [List.getElem?_map] at h
  obtain ⟨u, h1, h2⟩ := Option.map_eq_some_iff.mp h
  exact ⟨u, h1, (Prod.mk.inj h2).1.symm⟩
theorem valV_mk {ls : Str} (nd : ls.cps.toList.Nodup) {u : List Nat} (hu : Lw ls.length u) : ∀ {R : List (List Nat)}, (∀ v ∈ R, Lw ls.length v) → valV (mkK ls R) (.inr (tx ls u)) = if u ∈ R then some (.bl true) else none
  | [], _ => rfl
  | v :: R, h => by
    have ih := valV_mk nd hu fun x hx => h x (List.mem_cons_of_mem v hx)
    show valV ((Sum.inr (tx ls v), V.bl true) :: mkK ls R) _ = _
    by_cases e : v = u
    · rw [e, valV_pos rfl, if_pos List.mem_cons_self]
    · rw [valV_neg (fun z => e (tx_inj nd (h v List.mem_cons_self) hu (Sum.inr.inj z))), ih]
      by_cases hm : u ∈ R
      · rw [if_pos hm, if_pos (List.mem_cons_of_mem _ hm)]
      · rw [if_neg hm, if_neg fun z => hm ((List.mem_cons.mp z).resolve_left fun y => e y.symm)]
theorem putK_mk {ls : Str} (nd : ls.cps.toList.Nodup) {u : List Nat} (hu : Lw ls.length u) {R : List (List Nat)} (h : ∀ v ∈ R, Lw ls.length v) : putK (mkK ls R) (.inr (tx ls u)) (.bl true) = mkK ls (addR R u) := by
  have hv := valV_mk nd hu h
  unfold addR
  by_cases e : u ∈ R
  · rw [if_pos e] at hv ⊢
    unfold putK
    rw [valV_any, hv]
    refine (if_pos (c := (some (V.bl true)).isSome = true) rfl).trans ?_
    refine (List.map_congr_left (g := id) fun kv hkv => ?_).trans (List.map_id _)
    obtain ⟨v, _, rfl⟩ := List.mem_map.mp hkv
    by_cases z : (Sum.inr (tx ls v) : L2.Key) = .inr (tx ls u)
    · rw [if_pos z]; rfl
    · rw [if_neg z]; rfl
  · rw [if_neg e] at hv ⊢
    rw [putK_new _ hv]
    unfold mkK
    rw [List.map_append]
    rfl
theorem tx_app {ls : Str} (u v : List Nat) : tx ls u ++ tx ls v = tx ls (u ++ v) := by
  refine str_ext ?_
  have e := TL.tl_append (tx ls u) (tx ls v)
  have e1 : TL.tl (tx ls u) = u.map fun j => ls.cps.toList.getD j 0 := tx_list ls u
  have e2 : TL.tl (tx ls v) = v.map fun j => ls.cps.toList.getD j 0 := tx_list ls v
  rw [e1, e2, ← List.map_append] at e
  exact e.trans (tx_list ls (u ++ v)).symm
/-- H but for the place D -/
def Off (D : Addr) (F H : Hp) : Prop := ∀ b, b ≠ D → H b = F b
theorem Off.put {D : Addr} {F H : Hp} {o : HO} (h : Off D F H) : Off D F (upd H D o) := fun b hb => by rw [upd_ne hb]; exact h b hb
theorem Off.un {D d : Addr} {F H : Hp} {o u : HO} (h : Off D (upd F d o) H) (hd : F d = some u) : Off D F (upd H d u) := fun b hb => by
  by_cases e : b = d
  · rw [e, upd_same, hd]
  · rw [upd_ne e, h b hb, upd_ne e]
theorem Off.ex {D : Addr} {F H : Hp} (h : Off D F H) (hD : F D = none) : Ex F H := fun b o e => by
  rw [h b fun z => by rw [z, hD] at e; cases e]
  exact e
variable (T : Txt K mg)
theorem addR_new {R : List (List Nat)} {u : List Nat} (h : u ∉ R) : addR R u = R ++ [u] := if_neg h
theorem take_add {X : List (List Nat)} (nd : X.Nodup) {i : Nat} {u : List Nat} (h : X[i]? = some u) : X.take (i + 1) = addR (X.take i) u := by
  rw [List.take_succ, h, addR_new]
  · rfl
  · intro z
    obtain ⟨k, hk⟩ := List.getElem?_of_mem z
    rw [List.getElem?_take] at hk
    split at hk
    · rename_i hlt
      have l1 := ltQ h
      have := (List.getElem?_inj (by omega) nd).mp (hk.trans h.symm)
      omega
    · cases hk
/-- all that is there, each once -/
def ded (R : List (List Nat)) : List (List Nat) := R.foldl addR []
theorem ded_snoc (R : List (List Nat)) (u : List Nat) : ded (R ++ [u]) = addR (ded R) u := by unfold ded; rw [List.foldl_append]; rfl
theorem mem_ded {R : List (List Nat)} {u : List Nat} : u ∈ ded R ↔ u ∈ R := by
  have : ∀ (R S : List (List Nat)), u ∈ R.foldl addR S ↔ u ∈ S ∨ u ∈ R := by
    intro R
    induction R with
    | nil => intro S; exact ⟨.inl, fun h => h.elim id fun z => nomatch z⟩
    | cons x R ih => intro S; rw [List.foldl_cons, ih, mem_addR, List.mem_cons, or_assoc]
  unfold ded
  rw [this]
  exact ⟨fun h => h.elim (fun z => nomatch z) id, .inr⟩
theorem ded_txs {ls : Str} {R : List (List Nat)} (h : ∀ u ∈ R, Lw ls.length u) : TxS ls (ded R) := by
  have : ∀ (R S : List (List Nat)), (∀ u ∈ R, Lw ls.length u) → TxS ls S → TxS ls (R.foldl addR S) := by
    intro R
    induction R with
    | nil => exact fun S _ g => g
    | cons x R ih => exact fun S hR g => ih _ (fun u hu => hR u (List.mem_cons_of_mem _ hu)) (g.add (hR x List.mem_cons_self))
  exact this R [] h TxS.nil
theorem ded_len (R : List (List Nat)) : (ded R).length ≤ R.length := by
  have : ∀ (R S : List (List Nat)), (R.foldl addR S).length ≤ S.length + R.length := by
    intro R
    induction R with
    | nil => exact fun S => Nat.le_refl _
    | cons x R ih =>
      intro S
      have h1 := ih (addR S x)
      have h2 := len_addR S x
      rw [List.foldl_cons, List.length_cons]
      omega
  have h := this R []
  simpa [ded] using h
theorem ded_nd {R : List (List Nat)} (h : R.Nodup) : ded R = R := by
  have : ∀ (R S : List (List Nat)), (S ++ R).Nodup → R.foldl addR S = S ++ R := by
    intro R
    induction R with
    | nil => exact fun S _ => (List.append_nil S).symm
    | cons x R ih =>
      intro S hn
      have hx : x ∉ S := fun z => (List.nodup_append.mp hn).2.2 x z x List.mem_cons_self rfl
      rw [List.foldl_cons, addR_new hx, ih _ (by rw [List.append_assoc]; exact hn), List.append_assoc]
      rfl
  exact this R [] h
def spMarked : Sp := fun vs H Q _ => ∃ (v : V) (ls : Str) (R : List (List Nat)), vs = [v] ∧ Dp K H v (txD ls R) ∧ (∀ u ∈ R, Lw ls.length u) ∧ R.length < 100000 ∧ ls.cps.toList.Nodup ∧ ∀ d H', Ex H H' → H d = none → H' d = some (.dK (mkK ls (ded R))) → Q (.ref d) H'
theorem ok_marked : FnOk P w K mg base CX0 1 T.a_marked T.d_marked ["rows"] (spMarked (K := K)) := by
  refine T.f_marked.ok sc_marked (fun vs H Q E h => ?_) (fun cdv A outer s H vs Q E hr h => ?_)
  · obtain ⟨_, _, _, rfl, _⟩ := h; rfl
  · obtain ⟨v, ls, R, rfl, hv, tr, rl, nd, q⟩ := h
    have sz : 1000000 ≤ sizeLine := by decide
    refine ⟨_, (pss_cons (ps_set (i := 1) sc_marked.nd rfl (by first | exact Or.inl rfl | exact Or.inr rfl) pe_dnewK)
  (pss_cons (ps_for PassesOwn.never rfl (kAny K rfl (pv 0)) (pg_name (i := 2) sc_marked.nd rfl (by first | exact Or.inl rfl | exact Or.inr rfl))
    (pss_one (ps_dput (hu_of hr) (pv 1) (pv 2) pe_bl rfl)))
  (pss_one (ps_ret (pv 1))))), ?_⟩
    walk_at "rc"
    intro D hD
    have e1 : Ex H (upd H D (.dK [])) := Evl.Ex.new hD
    have g1 : upd H D (.dK []) D = some (.dK (mkK ls (ded (R.take 0)))) := upd_same
    generalize upd H D (.dK []) = H1 at e1 g1
    walk_at "rc"
    walk_at "rs"
    walk_at "rc"
    refine rd_anySq (x := v) (fun Q q => ⟨_, rfl, q⟩) e1 (.inl hv) fun J wJ => ?_
    have wl : (R.map fun u => PyData.str (tx ls u)).length = R.length := List.length_map _
    refine fo_D wJ (fun i σ H' => ∃ k2 : Option V, σ = [some v, some (.ref D), k2] ∧ Ex H H' ∧ H' D = some (.dK (mkK ls (ded (R.take i))))) ⟨_, rfl, e1, g1⟩ (fun i σ H' _ z => ?_) ?_ ?_
    · obtain ⟨_, _, z, _⟩ := z
      exact z
    · rintro i d v0 σ Hc hd hv0 ⟨k2, rfl, ec, hc⟩
      rw [List.getElem?_map] at hd
      obtain ⟨u, hu, rfl⟩ := Option.map_eq_some_iff.mp hd
      cases Dp.str_iff hv0
      have ti := ltQ hu
      walk_at "rc"
      have tr' := ded_txs (ls := ls) (R := R.take i) fun x hx => tr x (List.mem_of_mem_take hx)
      have dl := ded_len (R.take i)
      rw [List.length_take] at dl
      refine ⟨D, _, rfl, DPut.k (k := .inr (tx ls u)) hc (by rw [len_mk]; omega), _, rfl, Evl.Ex.mut ec hD, ?_⟩
      rw [upd_same, putK_mk nd (tr u (List.mem_of_getElem? hu)) tr'.w, List.take_succ, hu]
      exact congrArg (fun l => some (HO.dK (mkK ls l))) (ded_snoc _ u).symm
    · rintro σ Hc ⟨k2, rfl, ec, hc⟩
      rw [wl, List.take_length] at hc
      walk_at "rc"
      exact q D Hc ec hD hc
end
section
variable (T : Txt K mg)
/-- what the joinings are -/
def JoinsP (A B : List (List Nat)) (most : Nat) (u : List Nat) : Prop := ∃ a ∈ A, ∃ b ∈ B, a.length + b.length ≤ most ∧ u = a ++ b
theorem joins_snoc {A B : List (List Nat)} {most i : Nat} {a u : List Nat} (h : A[i]? = some a) : JoinsP (A.take (i + 1)) B most u ↔ JoinsP (A.take i) B most u ∨ ∃ b ∈ B, a.length + b.length ≤ most ∧ u = a ++ b := by
  have e : A.take (i + 1) = A.take i ++ [a] := by rw [List.take_succ, h]; rfl
  unfold JoinsP
  rw [e]
  constructor
  · rintro ⟨x, hx, r⟩
    rcases List.mem_append.mp hx with z | z
    · exact .inl ⟨x, z, r⟩
    · rw [List.mem_singleton.mp z] at r; exact .inr r
  · rintro (⟨x, hx, r⟩ | r)
    · exact ⟨x, List.mem_append.mpr (.inl hx), r⟩
    · exact ⟨a, List.mem_append.mpr (.inr List.mem_cons_self), r⟩
def spJoin : Sp := fun vs H Q _ => ∃ (d1 d2 : Addr) (ls : Str) (A B : List (List Nat)) (most : Nat), vs = [.ref d1, .ref d2, .int (most : Int)] ∧ d1 ≠ d2 ∧ H d1 = some (.dK (mkK ls A)) ∧ H d2 = some (.dK (mkK ls B)) ∧ TxS ls A ∧ TxS ls B ∧ A.length ≤ 200 ∧ B.length ≤ 200 ∧ (∀ u ∈ A, u.length ≤ 1000) ∧ (∀ u ∈ B, u.length ≤ 1000) ∧ ls.cps.toList.Nodup ∧
  ∀ d R H', Ex H H' → H d = none → H' d = some (.dK (mkK ls R)) → TxS ls R → R.length ≤ 40000 → (∀ u, u ∈ R ↔ JoinsP A B most u) → Q (.ref d) H'
theorem ok_joinings : FnOk P w K mg base CX0 1 T.a_joinings T.d_joinings ["first", "second", "most"] (spJoin) := by
  refine T.f_joinings.ok sc_joinings (fun vs H Q E h => ?_) (fun cdv A outer s H vs Q E hr h => ?_)
  · obtain ⟨_, _, _, _, _, _, rfl, _⟩ := h; rfl
  · obtain ⟨d1, d2, ls, A, B, most, rfl, ne, hd1, hd2, tA, tB, nA, nB, lA, lB, nd, q⟩ := h
    have sz : 1000000 ≤ sizeLine := by decide
    refine ⟨_, (pss_cons (ps_set (i := 3) sc_joinings.nd rfl (by first | exact Or.inl rfl | exact Or.inr rfl) pe_dnewK)
  (pss_cons (ps_lock (ps_for PassesOwn.never rfl (pi_keys (pv 0)) (pg_name (i := 4) sc_joinings.nd rfl (by first | exact Or.inl rfl | exact Or.inr rfl))
    (pss_one (ps_lock (ps_for PassesOwn.never rfl (pi_keys (pv 1)) (pg_name (i := 5) sc_joinings.nd rfl (by first | exact Or.inl rfl | exact Or.inr rfl))
    (pss_one (ps_if (pt_cmpR op_leP (pe_op (kAdd K) (pe_callB (kLen K) (by rfl) T.nb_len (by decide +kernel) (pa_cons (pv 4) pa_nil)) (pe_callB (kLen K) (by rfl) T.nb_len (by decide +kernel) (pa_cons (pv 5) pa_nil))) (pv 2) (by first | rfl | exact nomark _))
    (pss_one (ps_dput (hu_of hr) (pv 3) (pe_op (kAdd K) (pv 4) (pv 5)) pe_bl rfl))
    pss_nil)))))))
  (pss_one (ps_ret (pv 3))))), ?_⟩
    walk_at "rc"
    intro D hD
    have n1 : d1 ≠ D := fun z => by rw [z, hD] at hd1; cases hd1
    have n2 : d2 ≠ D := fun z => by rw [z, hD] at hd2; cases hd2
    have o1 : Off D H (upd H D (.dK [])) := fun b hb => upd_ne hb
    have g1 : upd H D (.dK []) D = some (.dK (mkK ls [])) := upd_same
    generalize upd H D (.dK []) = H1 at o1 g1
    walk_at "rc"
    refine ⟨d1, .dK (mkK ls A), by rw [o1 _ n1]; exact hd1, trivial, fun od => ?_⟩
    have o2 : Off D (upd H d1 (.frz od (.dK (mkK ls A)))) (upd H1 d1 (.frz od (.dK (mkK ls A)))) := fun b hb => by
      by_cases e : b = d1
      · rw [e, upd_same, upd_same]
      · rw [upd_ne e, upd_ne e]; exact o1 b hb
    have g2 : upd H1 d1 (.frz od (.dK (mkK ls A))) D = some (.dK (mkK ls [])) := by rw [upd_ne (Ne.symm n1)]; exact g1
    have f2 : upd H d1 (.frz od (.dK (mkK ls A))) d1 = some (.frz od (.dK (mkK ls A))) := upd_same
    have f2d : upd H d1 (.frz od (.dK (mkK ls A))) d2 = some (.dK (mkK ls B)) := by rw [upd_ne (Ne.symm ne)]; exact hd2
    have eF : ∀ {H' : Hp}, Off D (upd H d1 (.frz od (.dK (mkK ls A)))) H' → Off D H (upd H' d1 (.dK (mkK ls A))) := fun o => o.un hd1
    generalize upd H1 d1 (.frz od (.dK (mkK ls A))) = H2 at o2 g2
    generalize upd H d1 (.frz od (.dK (mkK ls A))) = F at o2 f2 f2d eF
    walk_at "rc"
    refine ⟨_, rfl, d1, od, rfl, .inl ⟨mkK ls A, by rw [o2 _ n1]; exact f2, ?_⟩⟩
    refine fo_it (walk_keys (kvs := mkK ls A)) (fun i σ H' => ∃ (R : List (List Nat)) (k4 k5 : Option V), σ = [some (.ref d1), some (.ref d2), some (.int (most : Int)), some (.ref D), k4, k5] ∧ Off D F H' ∧ H' D = some (.dK (mkK ls R)) ∧ TxS ls R ∧ R.length ≤ i * B.length ∧ ∀ u, u ∈ R ↔ JoinsP (A.take i) B most u)
      ⟨[], _, _, rfl, o2, g2, TxS.nil, Nat.zero_le _, fun u => ⟨(fun z => nomatch z), fun ⟨_, z, _⟩ => nomatch z⟩⟩ (fun i σ H' _ z => ?_) ?_ ?_
    · obtain ⟨_, _, _, _, z, _⟩ := z
      rw [z _ n1]; exact f2
    · rintro i x σ Hc H' hi ⟨R, k4, k5, rfl, oc, gc, tR, lR, mR⟩ ⟨rfl, k, v, hkv, rfl⟩
      obtain ⟨a, ha, rfl⟩ := mk_at hkv
      rw [len_mk] at hi
      have haA := List.mem_of_getElem? ha
      walk_at "rc"
      refine ⟨d2, .dK (mkK ls B), by rw [oc _ n2]; exact f2d, trivial, fun od2 => ?_⟩
      have o3 : Off D (upd F d2 (.frz od2 (.dK (mkK ls B)))) (upd H' d2 (.frz od2 (.dK (mkK ls B)))) := fun b hb => by
        by_cases e : b = d2
        · rw [e, upd_same, upd_same]
        · rw [upd_ne e, upd_ne e]; exact oc b hb
      have g3 : upd H' d2 (.frz od2 (.dK (mkK ls B))) D = some (.dK (mkK ls R)) := by rw [upd_ne (Ne.symm n2)]; exact gc
      have f3 : upd F d2 (.frz od2 (.dK (mkK ls B))) d2 = some (.frz od2 (.dK (mkK ls B))) := upd_same
      have eG : ∀ {H' : Hp}, Off D (upd F d2 (.frz od2 (.dK (mkK ls B)))) H' → Off D F (upd H' d2 (.dK (mkK ls B))) := fun o => o.un f2d
      generalize upd H' d2 (.frz od2 (.dK (mkK ls B))) = H3 at o3 g3
      generalize upd F d2 (.frz od2 (.dK (mkK ls B))) = G at o3 f3 eG
      walk_at "rc"
      refine ⟨_, rfl, d2, od2, rfl, .inl ⟨mkK ls B, by rw [o3 _ n2]; exact f3, ?_⟩⟩
      refine fo_it (walk_keys (kvs := mkK ls B)) (fun j σ H' => ∃ (R : List (List Nat)) (k5 : Option V), σ = [some (.ref d1), some (.ref d2), some (.int (most : Int)), some (.ref D), some (.str (tx ls a)), k5] ∧ Off D G H' ∧ H' D = some (.dK (mkK ls R)) ∧ TxS ls R ∧ R.length ≤ i * B.length + j ∧ ∀ u, u ∈ R ↔ JoinsP (A.take i) B most u ∨ ∃ b ∈ B.take j, a.length + b.length ≤ most ∧ u = a ++ b)
        ⟨R, _, rfl, o3, g3, tR, lR, fun u => by rw [mR u]; exact ⟨.inl, fun z => z.elim id fun ⟨_, z, _⟩ => nomatch z⟩⟩ (fun j σ H' _ z => ?_) ?_ ?_
      · obtain ⟨_, _, _, z, _⟩ := z
        rw [z _ n2]; exact f3
      · rintro j y σ Hd H' hj ⟨R2, k5, rfl, oe, ge, tR2, lR2, mR2⟩ ⟨rfl, k, v, hkv, rfl⟩
        obtain ⟨b, hb, rfl⟩ := mk_at hkv
        rw [len_mk] at hj
        have hbB := List.mem_of_getElem? hb
        have la := lA a haA
        have lb := lB b hbB
        have lwab := Lw.app (tA.w a haA) (tB.w b hbB)
        have eb : B.take (j + 1) = B.take j ++ [b] := by rw [List.take_succ, hb]; rfl
        have ib : i * B.length ≤ 200 * 200 := Nat.mul_le_mul (by omega) nB
        walk_at "rc"
        refine rd_lenS (by rw [tx_len]; omega) ?_
        walk_at "rc"
        refine rd_lenS (by rw [tx_len]; omega) ?_
        walk_at "rc"
        rw [tx_len, tx_len]
        by_cases hle : a.length + b.length ≤ most
        · refine rd_itet (decide_eq_true (by omega)) ?_
          walk_at "rc"
          refine rd_addS (x := tx ls a) (y := tx ls b) (by rw [tx_len, tx_len]; omega) ?_
          rw [tx_app]
          walk_at "rc"
          refine ⟨D, _, rfl, DPut.k (k := .inr (tx ls (a ++ b))) ge (by rw [len_mk]; omega), addR R2 (a ++ b), _, rfl, oe.put, ?_, tR2.add lwab, ?_, fun u => ?_⟩
          · rw [upd_same, putK_mk nd lwab tR2.w]
          · have := len_addR R2 (a ++ b)
            omega
          · rw [mem_addR, mR2 u, eb, or_assoc]
            refine or_congr Iff.rfl ⟨?_, ?_⟩
            · rintro (⟨x, hx, r⟩ | rfl)
              · exact ⟨x, List.mem_append.mpr (.inl hx), r⟩
              · exact ⟨b, List.mem_append.mpr (.inr List.mem_cons_self), hle, rfl⟩
            · rintro ⟨x, hx, r⟩
              rcases List.mem_append.mp hx with z | z
              · exact .inl ⟨x, z, r⟩
              · rw [List.mem_singleton.mp z] at r
                exact .inr r.2
        · refine rd_itef (decide_eq_false (by omega)) ?_
          walk_at "rc"
          refine ⟨R2, _, rfl, oe, ge, tR2, by omega, fun u => ?_⟩
          rw [mR2 u, eb]
          refine or_congr Iff.rfl ⟨fun ⟨x, hx, r⟩ => ⟨x, List.mem_append.mpr (.inl hx), r⟩, ?_⟩
          rintro ⟨x, hx, r⟩
          rcases List.mem_append.mp hx with z | z
          · exact ⟨x, z, r⟩
          · rw [List.mem_singleton.mp z] at r
            exact absurd r.1 hle
      · rintro σ Hd ⟨R2, k5, rfl, oe, ge, tR2, lR2, mR2⟩
        rw [len_mk] at lR2 mR2
        refine ⟨by rw [oe _ n2]; exact f3, R2, _, _, rfl, eG oe, by rw [upd_ne (Ne.symm n2)]; exact ge, tR2, by rw [Nat.succ_mul]; exact lR2, fun u => ?_⟩
        rw [mR2 u, joins_snoc ha, List.take_length]
    · rintro σ Hc ⟨R, k4, k5, rfl, oc, gc, tR, lR, mR⟩
      rw [len_mk] at lR
      rw [len_mk, List.take_length] at mR
      refine ⟨by rw [oc _ n1]; exact f2, ?_⟩
      walk_at "rc"
      have ib : A.length * B.length ≤ 200 * 200 := Nat.mul_le_mul nA nB
      exact q D R _ ((eF oc).ex hD) hD (by rw [upd_ne (Ne.symm n1)]; exact gc) tR (by omega) mR
end
section
variable (T : Txt K mg)
theorem len_nodup_le {A B : List (List Nat)} (nd : A.Nodup) (h : ∀ x ∈ A, x ∈ B) : A.length ≤ B.length := by
  have : ∀ (l m : List (List Nat)), l.Nodup → (∀ c ∈ l, c ∈ m) → l.length ≤ m.length := by
    intro l
    induction l with
    | nil => exact fun _ _ _ => Nat.zero_le _
    | cons a l ih =>
      intro m nd hm
      obtain ⟨na, nd'⟩ := List.nodup_cons.mp nd
      have ha := hm a List.mem_cons_self
      have := ih (m.erase a) nd' fun c hc => (List.mem_erase_of_ne (fun z => na (by rw [← z]; exact hc))).mpr (hm c (List.mem_cons_of_mem _ hc))
      rw [List.length_erase_of_mem ha] at this
      have := List.length_pos_of_mem ha
      rw [List.length_cons]
      omega
  exact this _ _ nd h
/-- what is found so far, what is new -/
structure RepI (ls : Str) (A : List (List Nat)) (most : Nat) (R L : List (List Nat)) : Prop where
  r : TxS ls R
  l : TxS ls L
  e : [] ∈ R
  s : ∀ u ∈ L, u ∈ R
  p : ∀ u ∈ R, u.length ≤ most ∧ Star (· ∈ A) u
  c : ∀ a ∈ R, a ∉ L → ∀ b ∈ A, a.length + b.length ≤ most → a ++ b ∈ R
theorem RepI.next {ls : Str} {A : List (List Nat)} {most : Nat} {R L J : List (List Nat)} (h : RepI ls A most R L) (tJ : TxS ls J) (hJ : ∀ u, u ∈ J ↔ JoinsP L A most u) : RepI ls A most (R ++ J.filter fun u => decide (u ∉ R)) (J.filter fun u => decide (u ∉ R)) := by
  have mf : ∀ u, u ∈ (J.filter fun u => decide (u ∉ R)) ↔ u ∈ J ∧ u ∉ R := fun u => by rw [List.mem_filter, decide_eq_true_eq]
  refine ⟨⟨List.nodup_append.mpr ⟨h.r.n, tJ.n.sublist List.filter_sublist, fun a ha b hb z => ?_⟩, fun u hu => ?_⟩, ⟨tJ.n.sublist List.filter_sublist, fun u hu => tJ.w u ((mf u).mp hu).1⟩, List.mem_append.mpr (.inl h.e), fun u hu => List.mem_append.mpr (.inr hu), fun u hu => ?_, fun a ha hn b hb hle => ?_⟩
  · rw [z] at ha
    exact ((mf b).mp hb).2 ha
  · rcases List.mem_append.mp hu with z | z
    · exact h.r.w u z
    · exact tJ.w u ((mf u).mp z).1
  · rcases List.mem_append.mp hu with z | z
    · exact h.p u z
    · obtain ⟨a, ha, b, hb, hle, rfl⟩ := (hJ u).mp ((mf u).mp z).1
      exact ⟨by rw [List.length_append]; exact hle, .app (h.p a (h.s a ha)).2 hb⟩
  · have haR : a ∈ R := (List.mem_append.mp ha).elim id fun z => absurd z hn
    by_cases hL : a ∈ L
    · by_cases hr : a ++ b ∈ R
      · exact List.mem_append.mpr (.inl hr)
      · exact List.mem_append.mpr (.inr ((mf _).mpr ⟨(hJ _).mpr ⟨a, hL, b, hb, hle, rfl⟩, hr⟩))
    · exact List.mem_append.mpr (.inl (h.c a haR hL b hb hle))
theorem RepI.all {ls : Str} {A : List (List Nat)} {most : Nat} {R : List (List Nat)} (h : RepI ls A most R []) {u : List Nat} (hu : Star (· ∈ A) u) : u.length ≤ most → u ∈ R := by
  induction hu with
  | nil => exact fun _ => h.e
  | app h1 h2 ih =>
    rename_i x y
    intro hl
    rw [List.length_append] at hl
    exact h.c x (ih (by omega)) (fun z => nomatch z) y h2 (by omega)
def spRepeat : Sp := fun vs H Q _ => ∃ (d1 : Addr) (ls : Str) (A X : List (List Nat)) (most : Nat), vs = [.ref d1, .int (most : Int)] ∧ H d1 = some (.dK (mkK ls A)) ∧ TxS ls A ∧ A.length ≤ 200 ∧ (∀ u ∈ A, u.length ≤ 1000) ∧ most ≤ 100 ∧ ls.cps.toList.Nodup ∧ X.length ≤ 200 ∧ (∀ u, Lw ls.length u → u.length ≤ most → u ∈ X) ∧
  ∀ d R H', Ex H H' → H d = none → H' d = some (.dK (mkK ls R)) → TxS ls R → (∀ u, Lw ls.length u → (u ∈ R ↔ u.length ≤ most ∧ Star (· ∈ A) u)) → Q (.ref d) H'
theorem tx_nil (ls : Str) : tx ls [] = (Str.ofString "" : Str) := rfl
theorem rd_dispE {ls : Str} {σ : L2.St} {H : Hp} {Q : VK} (q : ∀ p H', Ex H H' → H p = none → H' p = some (.dK (mkK ls [[]])) → Q (.ref p) H') : tDisp [(tC (V.str (Str.ofString "")), tC (V.bl true))] σ H Q := by
  intro p hp
  refine ⟨upd_same, [(.inr (tx ls []), .bl true)], rfl, by show 1 ≤ 15; decide, ?_⟩
  rw [upd_upd]
  exact q p _ (Evl.Ex.new hp) hp upd_same
/-- unlocked again -/
theorem ex_unlock {d : Addr} {H H' : Hp} {u f : HO} (hd : H d = some u) (e : Ex (upd H d f) H') : Ex H (upd H' d u) := fun b o z => by
  by_cases y : b = d
  · rw [y, hd] at z
    rw [y, upd_same]
    exact z
  · rw [upd_ne y]
    exact e b o (by rw [upd_ne y]; exact z)
def RepW (ls : Str) (A : List (List Nat)) (most : Nat) (d1 : Addr) (H : Hp) (m : Nat) (σ : L2.St) (H' : Hp) : Prop := ∃ (df dl : Addr) (R L : List (List Nat)) (k4 k5 : Option V), σ = [some (.ref d1), some (.int (most : Int)), some (.ref df), some (.ref dl), k4, k5] ∧ Ex H H' ∧ H df = none ∧ H dl = none ∧ df ≠ dl ∧ H' df = some (.dK (mkK ls R)) ∧ H' dl = some (.dK (mkK ls L)) ∧ RepI ls A most R L ∧ m = 2 * (200 - R.length) + (if L = [] then 0 else 1)
theorem txs_dp {ls : Str} {R : List (List Nat)} {H : Hp} {a : Addr} (h : H a = some (.lst ((R.map (tx ls)).map V.str))) : Dp K H (.ref a) (txD ls R) := by
  refine .lst (SqL.of h) ?_
  have := dps_str (K := K) (H := H) (R.map (tx ls))
  rw [List.map_map (f := tx ls) (g := PyData.str)] at this
  exact this
theorem take_filter {X : List (List Nat)} {p : List Nat → Bool} {i : Nat} {u : List Nat} (h : X[i]? = some u) : (X.take (i + 1)).filter p = (X.take i).filter p ++ (if p u = true then [u] else []) := by
  rw [List.take_succ, h, List.filter_append]
  refine congrArg (((X.take i).filter p) ++ ·) ?_
  show [u].filter p = _
  rw [List.filter_cons]
  rfl
theorem ok_repeated : FnOk P w K mg base CX0 2 T.a_repeated T.d_repeated ["first", "most"] (spRepeat) := by
  refine T.f_repeated.ok sc_repeated (fun vs H Q E h => ?_) (fun cdv A outer s H vs Q E hr h => ?_)
  · obtain ⟨_, _, _, _, _, rfl, _⟩ := h; rfl
  · obtain ⟨d1, ls, A, X, most, rfl, hd1, tA, nA, lA, m100, nd, xl, hX, q⟩ := h
    have sz : 1000000 ≤ sizeLine := by decide
    refine ⟨_, (pss_cons (ps_set (i := 2) sc_repeated.nd rfl (by first | exact Or.inl rfl | exact Or.inr rfl) (pe_disp (pps_cons pe_str pe_bl pps_nil) (by rfl) (by rfl) (fun z => by cases z) (by decide)))
  (pss_cons (ps_set (i := 3) sc_repeated.nd rfl (by first | exact Or.inl rfl | exact Or.inr rfl) (pe_disp (pps_cons pe_str pe_bl pps_nil) (by rfl) (by rfl) (fun z => by cases z) (by decide)))
  (pss_cons (ps_while PassesOwn.never (pt_cmpR op_gtP (pe_callB (kLen K) (by rfl) T.nb_len (by decide +kernel) (pa_cons (pv 3) pa_nil)) pe_int (by first | rfl | exact nomark _))
    (pss_cons (ps_set (i := 4) sc_repeated.nd rfl (by first | exact Or.inl rfl | exact Or.inr rfl) (pe_callE (ok_joinings T) (hr.mono (by decide)) T.o_joinings (pa_cons (pv 3) (pa_cons (pv 0) (pa_cons (pv 1) pa_nil)))))
  (pss_cons (ps_set (i := 3) sc_repeated.nd rfl (by first | exact Or.inl rfl | exact Or.inr rfl) (pe_callE (ok_marked T) (hr.mono (by decide)) T.o_marked (pa_cons (pe_lock (pe_lc (own := [("text", 5)]) (g := gName 5)  (by rfl) sc_repeated.nd (pi_keys (pv 4)) (blkOk_by (own := [("text", 5)]) (N := ["first", "most", "found", "last", "longer", "text"]) (sc := defScope s_repeated) (by decide +kernel)) (fun _ _ _ _ _ => (pg_name (i := 5) sc_repeated.nd rfl (by first | exact Or.inl rfl | exact Or.inr rfl))) (fun _ _ _ _ _ => (pts_one (pt_cmp (pc_dnotin (hu_of hr) (pv 5) (pv 2))))) (fun _ _ _ _ _ => (pv 5)))) pa_nil)))
  (pss_one (ps_lock (ps_for PassesOwn.never rfl (pi_keys (pv 3)) (pg_name (i := 5) sc_repeated.nd rfl (by first | exact Or.inl rfl | exact Or.inr rfl))
    (pss_one (ps_dput (hu_of hr) (pv 2) (pv 5) pe_bl rfl))))))))
  (pss_one (ps_ret (pv 2)))))), ?_⟩
    walk_at "rc"
    refine rd_dispE (ls := ls) fun df H1 e1 hf1 gf1 => ?_
    walk_at "rc"
    refine rd_dispE (ls := ls) fun dl H2 e2 hl2 gl2 => ?_
    have nfl : df ≠ dl := fun z => by rw [← z, gf1] at hl2; cases hl2
    have nlH : H dl = none := by
      cases y : H dl with
      | none => rfl
      | some o => rw [e1 _ _ y] at hl2; cases hl2
    have I0 : RepI ls A most [[]] [[]] := ⟨⟨List.nodup_cons.mpr ⟨(fun z => nomatch z), List.nodup_nil⟩, fun u hu => by rw [List.mem_singleton.mp hu]; exact Lw.nil⟩, ⟨List.nodup_cons.mpr ⟨(fun z => nomatch z), List.nodup_nil⟩, fun u hu => by rw [List.mem_singleton.mp hu]; exact Lw.nil⟩, List.mem_cons_self, fun u hu => hu, fun u hu => by rw [List.mem_singleton.mp hu]; exact ⟨Nat.zero_le _, .nil⟩, fun a ha hn => absurd ha hn⟩
    walk_at "rc"
    walk_at "rs"
    refine rd_wh (RepW ls A most d1 H) _ ⟨df, dl, [[]], [[]], _, _, rfl, e1.trans e2, hf1, nlH, nfl, e2 _ _ gf1, gl2, I0, rfl⟩ fun m σ Ha hW => ?_
    clear I0 nlH nfl gl2 hl2 e2 H2 gf1 hf1 e1 H1
    obtain ⟨df, dl, R, L, k4, k5, rfl, ea, hdf, hdl, nfl, gf, gl, I, hm⟩ := hW
    have n1f : d1 ≠ df := fun z => by rw [z, hdf] at hd1; cases hd1
    have n1l : d1 ≠ dl := fun z => by rw [z, hdl] at hd1; cases hd1
    have rX : R.length ≤ 200 := Nat.le_trans (len_nodup_le I.r.n fun u hu => hX u (I.r.w u hu) (I.p u hu).1) xl
    have lX : L.length ≤ 200 := Nat.le_trans (len_nodup_le I.l.n I.s) rX
    walk_at "rc"
    refine .inr ⟨dl, _, rfl, gl, ?_⟩
    rw [len_mk]
    walk_at "rc"
    by_cases hL : L = []
    · subst hL
      refine rd_itef (decide_eq_false (by decide)) ?_
      walk_at "rc"
      exact q df R Ha ea hdf gf I.r fun u hu => ⟨fun z => I.p u z, fun z => I.all z.2 z.1⟩
    · have pos : 0 < L.length := List.length_pos_iff.mpr hL
      refine rd_itet (decide_eq_true (by omega)) ?_
      refine ⟨fun σ2 H2 => ∃ m', m' < m ∧ RepW ls A most d1 H m' σ2 H2, fun _ _ z => z, ?_⟩
      walk_at "rc"
      refine ⟨dl, d1, ls, L, A, most, rfl, Ne.symm n1l, gl, ea _ _ hd1, I.l, tA, lX, nA, fun u hu => by have := (I.p u (I.s u hu)).1; omega, lA, nd, fun dj J Hb eb hdj gj tJ jl hJ => ?_⟩
      have nfj : df ≠ dj := fun z => by rw [← z, gf] at hdj; cases hdj
      walk_at "rc"
      refine ⟨dj, .dK (mkK ls J), gj, trivial, fun od => ?_⟩
      have f0 : upd Hb dj (.frz od (.dK (mkK ls J))) dj = some (.frz od (.dK (mkK ls J))) := upd_same
      have gf0 : upd Hb dj (.frz od (.dK (mkK ls J))) df = some (.dK (mkK ls R)) := by rw [upd_ne nfj]; exact eb _ _ gf
      have un0 : ∀ {H' : Hp}, Ex (upd Hb dj (.frz od (.dK (mkK ls J)))) H' → Ex Hb (upd H' dj (.dK (mkK ls J))) := fun e => ex_unlock gj e
      generalize upd Hb dj (.frz od (.dK (mkK ls J))) = Hc at f0 gf0 un0
      walk_at "rc"
      refine ⟨_, rfl, dj, od, rfl, .inl ⟨mkK ls J, f0, ?_⟩⟩
      intro D hD
      have njD : dj ≠ D := fun z => by rw [← z, f0] at hD; cases hD
      refine lc_it (walk_keys (kvs := mkK ls J)) (fun i Hd => Ex Hc Hd ∧ Hd D = some (.lst ((((J.take i).filter fun u => decide (u ∉ R)).map (tx ls)).map V.str))) ⟨Evl.Ex.new hD, upd_same⟩ (fun i Hd _ z => z.1 _ _ f0) (fun i x Hd H' hi z y => ?_) fun Hd z => ?_
      · obtain ⟨rfl, k, v, hkv, rfl⟩ := y
        obtain ⟨u, hu, rfl⟩ := mk_at hkv
        obtain ⟨ed, gd⟩ := z
        have hiJ := ltQ hu
        have lu := tJ.w u (List.mem_of_getElem? hu)
        walk_at "rc"
        refine ⟨rfl, ?_⟩
        walk_at "rc"
        refine ⟨df, _, rfl, DGet.k (k := .inr (tx ls u)) (ed _ _ gf0), ?_⟩
        rw [valV_mk nd lu I.r.w]
        refine ⟨_, rfl, ?_⟩
        have ef := take_filter (p := fun u => decide (u ∉ R)) hu
        have fl : (((J.take i).filter fun u => decide (u ∉ R)).map (tx ls)).length ≤ 40000 := by
          rw [List.length_map]
          have := List.length_filter_le (fun u => decide (u ∉ R)) (J.take i)
          rw [List.length_take] at this
          omega
        by_cases hr : u ∈ R
        · rw [if_pos hr]
          refine rd_iteF ⟨ed, ?_⟩
          rw [ef, if_neg (by simpa using hr), List.append_nil]
          exact gd
        · rw [if_neg hr]
          refine rd_iteT ?_
          walk_at "rc"
          refine ⟨_, gd, by rw [List.length_map]; omega, Evl.Ex.mut ed hD, ?_⟩
          rw [upd_same, ef, if_pos (decide_eq_true hr), List.map_append, List.map_append]
          rfl
      · obtain ⟨ed, gd⟩ := z
        rw [len_mk, List.take_length] at gd
        refine ⟨ed _ _ f0, ?_⟩
        have eu := un0 ed
        have gD : upd Hd dj (.dK (mkK ls J)) D = some (.lst (((J.filter fun u => decide (u ∉ R)).map (tx ls)).map V.str)) := by rw [upd_ne (Ne.symm njD)]; exact gd
        generalize upd Hd dj (.dK (mkK ls J)) = He at eu gD
        have I2 := I.next tJ hJ
        generalize hN : (J.filter fun u => decide (u ∉ R)) = L2 at gD I2
        have eb2 := eb.trans eu
        have r2X : (R ++ L2).length ≤ 200 := Nat.le_trans (len_nodup_le I2.r.n fun u hu => hX u (I2.r.w u hu) (I2.p u hu).1) xl
        rw [List.length_append] at r2X
        walk_at "rc"
        refine ⟨.ref D, ls, L2, rfl, txs_dp gD, I2.l.w, by omega, nd, fun d2 Hg eg hd2 g2 => ?_⟩
        rw [ded_nd I2.l.n] at g2
        have gfg : Hg df = some (.dK (mkK ls R)) := eg _ _ (eb2 _ _ gf)
        have nf2 : df ≠ d2 := fun z => by rw [← z, eb2 _ _ gf] at hd2; cases hd2
        have n2H : H d2 = none := by
          cases y : H d2 with
          | none => rfl
          | some o => rw [eb2 _ _ (ea _ _ y)] at hd2; cases hd2
        have eag := ea.trans (eb2.trans eg)
        walk_at "rc"
        refine ⟨d2, .dK (mkK ls L2), g2, trivial, fun od2 => ?_⟩
        have o0 : Off df (upd Hg d2 (.frz od2 (.dK (mkK ls L2)))) (upd Hg d2 (.frz od2 (.dK (mkK ls L2)))) := fun b _ => rfl
        have f2 : upd Hg d2 (.frz od2 (.dK (mkK ls L2))) d2 = some (.frz od2 (.dK (mkK ls L2))) := upd_same
        have gf2 : upd Hg d2 (.frz od2 (.dK (mkK ls L2))) df = some (.dK (mkK ls R)) := by rw [upd_ne nf2]; exact gfg
        have un2 : ∀ {H' : Hp}, Off df (upd Hg d2 (.frz od2 (.dK (mkK ls L2)))) H' → Off df Hg (upd H' d2 (.dK (mkK ls L2))) := fun o => o.un g2
        generalize upd Hg d2 (.frz od2 (.dK (mkK ls L2))) = F at o0 f2 gf2 un2
        walk_at "rc"
        refine ⟨_, rfl, d2, od2, rfl, .inl ⟨mkK ls L2, f2, ?_⟩⟩
        refine fo_it (walk_keys (kvs := mkK ls L2)) (fun i σ H' => ∃ k5 : Option V, σ = [some (.ref d1), some (.int (most : Int)), some (.ref df), some (.ref d2), some (.ref dj), k5] ∧ Off df F H' ∧ H' df = some (.dK (mkK ls (R ++ L2.take i)))) ⟨_, rfl, o0, by rw [List.take_zero, List.append_nil]; exact gf2⟩ (fun i σ H' _ z => ?_) ?_ ?_
        · obtain ⟨_, _, z, _⟩ := z
          rw [z _ (Ne.symm nf2)]; exact f2
        · rintro i x σ Hh H' hi ⟨k5, rfl, oh, gh⟩ ⟨rfl, k, v, hkv, rfl⟩
          obtain ⟨u, hu, rfl⟩ := mk_at hkv
          have hi2 := ltQ hu
          have umem := List.mem_of_getElem? hu
          have e3 : R ++ L2.take (i + 1) = addR (R ++ L2.take i) u := by
            rw [take_add I2.l.n hu]
            have nR : u ∉ R := fun z => (List.nodup_append.mp I2.r.n).2.2 u z u umem rfl
            unfold addR
            by_cases z : u ∈ L2.take i
            · rw [if_pos z, if_pos (List.mem_append.mpr (.inr z))]
            · rw [if_neg z, if_neg fun y => (List.mem_append.mp y).elim nR z, List.append_assoc]
          walk_at "rc"
          refine ⟨df, _, rfl, DPut.k (k := .inr (tx ls u)) gh (by rw [len_mk, List.length_append, List.length_take]; omega), _, rfl, oh.put, ?_⟩
          rw [upd_same, putK_mk nd (I2.l.w u umem) fun x hx => ?_, e3]
          rcases List.mem_append.mp hx with z | z
          · exact I.r.w x z
          · exact I2.l.w x (List.mem_of_mem_take z)
        · rintro σ Hh ⟨k5, rfl, oh, gh⟩
          rw [len_mk, List.take_length] at gh
          have ou := un2 oh
          refine ⟨by rw [oh _ (Ne.symm nf2)]; exact f2, 2 * (200 - (R ++ L2).length) + (if L2 = [] then 0 else 1), ?_, df, d2, R ++ L2, L2, _, _, rfl, fun b o z => ?_, hdf, n2H, nf2, by rw [upd_ne nf2]; exact gh, upd_same, I2, rfl⟩
          · rw [hm, if_neg hL, List.length_append]
            cases L2 with
            | nil => rw [if_pos rfl]; simp
            | cons y ys => rw [if_neg (by simp)]; rw [List.length_cons] at r2X ⊢; omega
          · rw [ou b fun y => by rw [y, hdf] at z; cases z]
            exact eag _ _ z
end
section
/-! ### the meaning, by words -/
def ML (ls : Str) (t : Pt) (u : List Nat) : Prop := Mt t (u.map fun j => ls.cps.toList.getD j 0)
theorem ml_tx {ls : Str} {t : Pt} {u : List Nat} : Mt t (tx ls u).cps.toList ↔ ML ls t u := by rw [tx_list]; exact Iff.rfl
theorem ML.star {ls : Str} {a : Pt} {u : List Nat} : ML ls (.un "star" a) u ↔ Star (ML ls a) u := Mt.star.trans Star.map
theorem ML.join {ls : Str} {a b : Pt} {u : List Nat} : ML ls (.bi "join" a b) u ↔ ∃ x y, u = x ++ y ∧ ML ls a x ∧ ML ls b y := by
  refine Mt.join.trans ⟨?_, ?_⟩
  · rintro ⟨i, _, h1, h2⟩
    refine ⟨u.take i, u.drop i, (List.take_append_drop i u).symm, ?_, ?_⟩
    · rw [← List.map_take] at h1; exact h1
    · rw [← List.map_drop] at h2; exact h2
  · rintro ⟨x, y, rfl, h1, h2⟩
    refine ⟨x.length, by rw [List.length_map, List.length_append]; omega, ?_, ?_⟩
    · rw [← List.map_take, List.take_left]; exact h1
    · rw [← List.map_drop, List.drop_left]; exact h2
theorem ML.one {ls s : Str} {u : List Nat} : ML ls (.one s) u ↔ ∃ j, u = [j] ∧ ls.cps.toList.getD j 0 ∈ s.cps.toList := by
  constructor
  · rintro ⟨c, hc, h⟩
    cases u with
    | nil => cases h
    | cons j u =>
      obtain ⟨h1, h2⟩ := List.cons.inj h
      rw [List.map_eq_nil_iff.mp h2]
      exact ⟨j, rfl, by rw [← h1] at hc; exact hc⟩
  · rintro ⟨j, rfl, h⟩
    exact ⟨_, h, rfl⟩
theorem star_in {w most : Nat} {L : List Nat → Prop} {A : List (List Nat)} (hA : ∀ u, u ∈ A ↔ Lw w u ∧ u.length ≤ most ∧ L u) {u : List Nat} (hu : Lw w u) (hm : u.length ≤ most) : Star (· ∈ A) u ↔ Star L u := by
  constructor
  · intro h
    induction h with
    | nil => exact .nil
    | app h1 h2 ih =>
      rename_i x y
      rw [List.length_append] at hm
      exact .app (ih (fun j hj => hu j (List.mem_append.mpr (.inl hj))) (by omega)) ((hA y).mp h2).2.2
  · intro h
    induction h with
    | nil => exact .nil
    | app h1 h2 ih =>
      rename_i x y
      rw [List.length_append] at hm
      exact .app (ih (fun j hj => hu j (List.mem_append.mpr (.inl hj))) (by omega)) ((hA y).mpr ⟨fun j hj => hu j (List.mem_append.mpr (.inr hj)), by omega, h2⟩)
/-- what the dict of a meaning tells -/
def MeanR (ls : Str) (t : Pt) (most : Nat) (R : List (List Nat)) : Prop := ∀ u, u ∈ R ↔ Lw ls.length u ∧ u.length ≤ most ∧ ML ls t u
theorem MeanR.len {ls : Str} {t : Pt} {most : Nat} {R : List (List Nat)} (h : MeanR ls t most R) (tx : TxS ls R) : R.length ≤ (rowsW ls.length most).length := len_nodup_le tx.n fun u hu => mem_rowsW.mpr ⟨((h u).mp hu).1, ((h u).mp hu).2.1⟩
theorem kept_words {ls s : Str} (h : KpS ls s) : ∃ R : List (List Nat), s.cps.toList.map (fun c => (⟨#[c]⟩ : Str)) = R.map (tx ls) ∧ R.length = s.length ∧ ∀ u, u ∈ R ↔ Lw ls.length u ∧ ∃ j, u = [j] ∧ ls.cps.toList.getD j 0 ∈ s.cps.toList := by
  have hk : ls.cps.toList.filter (fun c => decide (c ∈ s.cps.toList) != false) = s.cps.toList := congrArg (fun z : Str => z.cps.toList) h.2
  have hg := getD_range ls.cps.toList 0 (fun c => decide (c ∈ s.cps.toList) != false) (fun c => (⟨#[c]⟩ : Str))
  rw [hk] at hg
  refine ⟨((List.range ls.cps.toList.length).filter fun i => decide (ls.cps.toList.getD i 0 ∈ s.cps.toList) != false).map fun j => [j], ?_, ?_, fun u => ?_⟩
  · rw [← hg, List.map_map]
    rfl
  · have := congrArg List.length hg
    rw [List.length_map, List.length_map] at this
    rw [List.length_map]
    exact this
  · rw [List.mem_map]
    constructor
    · rintro ⟨j, hj, rfl⟩
      obtain ⟨h1, h2⟩ := List.mem_filter.mp hj
      have h2 : ls.cps.toList.getD j 0 ∈ s.cps.toList := by simpa using h2
      exact ⟨fun x hx => by rw [List.mem_singleton.mp hx]; exact List.mem_range.mp h1, j, rfl, h2⟩
    · rintro ⟨h1, j, rfl, h2⟩
      exact ⟨j, List.mem_filter.mpr ⟨List.mem_range.mpr (h1 j List.mem_cons_self), by simpa using h2⟩, rfl⟩
end
section
variable (T : Txt K mg)
def spMn (d : Nat) : Sp := fun vs H Q _ => ∃ (ls : Str) (t : Pt) (v : V) (most : Nat), vs = [.str ls, v, .int (most : Int)] ∧ Alpha ls 3 ∧ PtV H t v ∧ LP ls t ∧ t.dep ≤ d ∧ 1 ≤ most ∧ most ≤ 9 ∧ (rowsW ls.length most).length ≤ 200 ∧
  ∀ D R H', Ex H H' → H D = none → H' D = some (.dK (mkK ls R)) → TxS ls R → MeanR ls t most R → Q (.ref D) H'
def MXp : Nat → Sp
  | 0 => fun vs H Q _ => vs.length = 3 ∧ False
  | d + 1 => spMn d
theorem ok_mn (d : Nat) (hP : FnOk P w K mg base CX0 (d + 2) T.a_meaning T.d_meaning ["letters", "pattern", "most"] (MXp d)) : FnOk P w K mg base CX0 (d + 3) T.a_meaning T.d_meaning ["letters", "pattern", "most"] (spMn d) := by
  refine T.f_meaning.ok sc_meaning (fun vs H Q E h => ?_) (fun cdv A outer s H vs Q E hr h => ?_)
  · obtain ⟨_, _, _, _, rfl, _⟩ := h; rfl
  · obtain ⟨ls, t, v, most, rfl, al, hv, lp, dp, hm1, m9, rl, q⟩ := h
    have ok_meaning : ∀ _ : Txt K mg, FnOk P w K mg base CX0 (d + 2) T.a_meaning T.d_meaning ["letters", "pattern", "most"] (MXp d) := fun _ => hP
    have sz : 1000000 ≤ sizeLine := by decide
    have nd := al.nd
    refine ⟨_, (pss_cons (ps_set (i := 3) sc_meaning.nd rfl (by first | exact Or.inl rfl | exact Or.inr rfl) (pe_ix (kIx K) (pv 1) pe_int (fun _ _ => rfl)))
  (pss_cons (ps_if (pt_cmpR (kEq K rfl hr.units) (pv 3) pe_str (by first | rfl | exact nomark _))
    (pss_one (ps_ret pe_dnewK))
    pss_nil)
  (pss_cons (ps_if (pt_cmpR (kEq K rfl hr.units) (pv 3) pe_str (by first | rfl | exact nomark _))
    (pss_one (ps_ret (pe_disp (pps_cons pe_str pe_bl pps_nil) (by rfl) (by rfl) (fun z => by cases z) (by decide))))
    pss_nil)
  (pss_cons (ps_if (pt_cmpR (kEq K rfl hr.units) (pv 3) pe_str (by first | rfl | exact nomark _))
    (pss_one (ps_ret (pe_callE (ok_marked T) (hr.mono (by omega)) T.o_marked (pa_cons (pe_callTy (call_list_S (by rfl)) (by rfl) T.nb_list (by decide +kernel) (pa_cons (pe_ix (kIx K) (pv 1) pe_int (fun _ _ => rfl)) pa_nil)) pa_nil))))
    pss_nil)
  (pss_cons (ps_set (i := 4) sc_meaning.nd rfl (by first | exact Or.inl rfl | exact Or.inr rfl) (pe_callE (ok_meaning T) (hr.mono (by omega)) T.o_meaning (pa_cons (pv 0) (pa_cons (pe_ix (kIx K) (pv 1) pe_int (fun _ _ => rfl)) (pa_cons (pv 2) pa_nil)))))
  (pss_cons (ps_if (pt_cmpR (kEq K rfl hr.units) (pv 3) pe_str (by first | rfl | exact nomark _))
    (pss_one (ps_ret (pe_callE (ok_marked T) (hr.mono (by omega)) T.o_marked (pa_cons (pe_lc (own := [("text", 5)]) (g := gName 5)  (by rfl) sc_meaning.nd (kAny K rfl (pe_callE (ok_texts T) (hr.mono (by omega)) T.o_texts (pa_cons (pv 0) (pa_cons (pv 2) pa_nil)))) (blkOk_by (own := [("text", 5)]) (N := ["letters", "pattern", "most", "word", "first", "text", "second"]) (sc := defScope s_meaning) (by decide +kernel)) (fun _ _ _ _ _ => (pg_name (i := 5) sc_meaning.nd rfl (by first | exact Or.inl rfl | exact Or.inr rfl))) (fun _ _ _ _ _ => (pts_one (pt_cmp (pc_dnotin (hu_of hr) (pv 5) (pv 4))))) (fun _ _ _ _ _ => (pv 5))) pa_nil))))
    pss_nil)
  (pss_cons (ps_if (pt_cmpR (kEq K rfl hr.units) (pv 3) pe_str (by first | rfl | exact nomark _))
    (pss_one (ps_ret (pe_callE (ok_repeated T) (hr.mono (by omega)) T.o_repeated (pa_cons (pv 4) (pa_cons (pv 2) pa_nil)))))
    pss_nil)
  (pss_cons (ps_set (i := 6) sc_meaning.nd rfl (by first | exact Or.inl rfl | exact Or.inr rfl) (pe_callE (ok_meaning T) (hr.mono (by omega)) T.o_meaning (pa_cons (pv 0) (pa_cons (pe_ix (kIx K) (pv 1) pe_int (fun _ _ => rfl)) (pa_cons (pv 2) pa_nil)))))
  (pss_cons (ps_if (pt_cmpR (kEq K rfl hr.units) (pv 3) pe_str (by first | rfl | exact nomark _))
    (pss_one (ps_ret (pe_callE (ok_joinings T) (hr.mono (by omega)) T.o_joinings (pa_cons (pv 4) (pa_cons (pv 6) (pa_cons (pv 2) pa_nil))))))
    pss_nil)
  (pss_cons (ps_if (pt_cmpR (kEq K rfl hr.units) (pv 3) pe_str (by first | rfl | exact nomark _))
    (pss_one (ps_ret (pe_callE (ok_marked T) (hr.mono (by omega)) T.o_marked (pa_cons (pe_op (kAdd K) (pe_callTy (call_list_dK (by rfl)) (by rfl) T.nb_list (by decide +kernel) (pa_cons (pv 4) pa_nil)) (pe_callTy (call_list_dK (by rfl)) (by rfl) T.nb_list (by decide +kernel) (pa_cons (pv 6) pa_nil))) pa_nil))))
    pss_nil)
  (pss_one (ps_ret (pe_callE (ok_marked T) (hr.mono (by omega)) T.o_marked (pa_cons (pe_lock (pe_lc (own := [("text", 5)]) (g := gName 5)  (by rfl) sc_meaning.nd (pi_keys (pv 4)) (blkOk_by (own := [("text", 5)]) (N := ["letters", "pattern", "most", "word", "first", "text", "second"]) (sc := defScope s_meaning) (by decide +kernel)) (fun _ _ _ _ _ => (pg_name (i := 5) sc_meaning.nd rfl (by first | exact Or.inl rfl | exact Or.inr rfl))) (fun _ _ _ _ _ => (pts_one (pt_cmp (pc_din (hu_of hr) (pv 5) (pv 6))))) (fun _ _ _ _ _ => (pv 5)))) pa_nil)))))))))))))), ?_⟩
    cases t with
    | nul k =>
      obtain ⟨a, rfl, h1⟩ := hv
      walk_at "rc"
      refine rd_ixT (SqT.of h1) (atI_nat (j := 0) rfl) ?_
      walk_at "rc"
      walk_at "rs"
      walk_at "rc"
      rcases lp with rfl | rfl
      · refine rd_itet (decide_eq_true rfl) ?_
        walk_at "rc"
        intro D hD
        have e1 := Evl.Ex.new (o := .dK []) hD
        exact q D [] _ e1 hD upd_same TxS.nil fun u => ⟨(fun z => nomatch z), fun z => (Mt.none.mp z.2.2).elim⟩
      · refine rd_itef (decide_eq_false (by decide +kernel)) ?_
        walk_at "rc"
        walk_at "rs"
        walk_at "rc"
        refine rd_itet (decide_eq_true rfl) ?_
        walk_at "rc"
        refine rd_dispE (ls := ls) fun D H1 e1 hD g1 => ?_
        refine q D [[]] H1 e1 hD g1 ⟨List.nodup_cons.mpr ⟨(fun z => nomatch z), List.nodup_nil⟩, fun u hu => by rw [List.mem_singleton.mp hu]; exact Lw.nil⟩ fun u => ?_
        rw [List.mem_singleton]
        constructor
        · rintro rfl
          exact ⟨Lw.nil, Nat.zero_le _, Mt.empty.mpr rfl⟩
        · rintro ⟨_, _, h⟩
          exact List.map_eq_nil_iff.mp (Mt.empty.mp h)
    | one s' =>
      obtain ⟨a, rfl, h1⟩ := hv
      walk_at "rc"
      refine rd_ixT (SqT.of h1) (atI_nat (j := 0) rfl) ?_
      walk_at "rc"
      walk_at "rs"
      walk_at "rc"
      refine rd_itef (decide_eq_false (by decide +kernel)) ?_
      walk_at "rc"
      walk_at "rs"
      walk_at "rc"
      refine rd_itef (decide_eq_false (by decide +kernel)) ?_
      walk_at "rc"
      walk_at "rs"
      walk_at "rc"
      refine rd_itet (decide_eq_true rfl) ?_
      walk_at "rc"
      refine rd_ixT (SqT.of h1) (atI_nat (j := 1) rfl) ?_
      walk_at "rc"
      refine ⟨s', rfl, ?_, fun l hl => ?_⟩
      · have := KpS.len lp
        have := al.l1
        omega
      obtain ⟨R, hR, lR, mR⟩ := kept_words lp
      walk_at "rc"
      have e1 := Evl.Ex.new (o := .lst ((s'.cps.toList.map fun c => (⟨#[c]⟩ : Str)).map V.str)) hl
      have g1 : upd H l (.lst ((s'.cps.toList.map fun c => (⟨#[c]⟩ : Str)).map V.str)) l = some (.lst ((R.map (tx ls)).map V.str)) := by rw [upd_same, hR]
      refine ⟨.ref l, ls, R, rfl, txs_dp g1, fun u hu => ((mR u).mp hu).1, ?_, nd, fun D H2 e2 hD g2 => ?_⟩
      · have := KpS.len lp
        have := al.l1
        omega
      refine q D (ded R) H2 (e1.trans e2) (Evl.fresh_back e1 hD) g2 (ded_txs fun u hu => ((mR u).mp hu).1) fun u => ?_
      rw [mem_ded, mR u, ML.one]
      refine ⟨?_, fun z => ⟨z.1, z.2.2⟩⟩
      rintro ⟨z1, j, rfl, z2⟩
      exact ⟨z1, hm1, j, rfl, z2⟩
    | un k t1 =>
      obtain ⟨a, v1, rfl, h1, hv1⟩ := hv
      obtain ⟨hk, lp1⟩ := lp
      have dp1 : t1.dep + 1 ≤ d := dp
      obtain ⟨d, rfl⟩ : ∃ d', d = d' + 1 := ⟨d - 1, by omega⟩
      walk_at "rc"
      refine rd_ixT (SqT.of h1) (atI_nat (j := 0) rfl) ?_
      walk_at "rc"
      walk_at "rs"
      walk_at "rc"
      refine rd_itef (decide_eq_false (by show ¬ k = "none"; rcases hk with rfl | rfl <;> decide +kernel)) ?_
      walk_at "rc"
      walk_at "rs"
      walk_at "rc"
      refine rd_itef (decide_eq_false (by show ¬ k = "empty"; rcases hk with rfl | rfl <;> decide +kernel)) ?_
      walk_at "rc"
      walk_at "rs"
      walk_at "rc"
      refine rd_itef (decide_eq_false (by show ¬ k = "one"; rcases hk with rfl | rfl <;> decide +kernel)) ?_
      walk_at "rc"
      refine rd_ixT (SqT.of h1) (atI_nat (j := 1) rfl) ?_
      walk_at "rc"
      refine ⟨ls, t1, v1, most, rfl, al, hv1, lp1, by omega, hm1, m9, rl, fun d1 A H1 e1 hd1 g1 tA mA => ?_⟩
      have lA := Nat.le_trans (mA.len tA) rl
      walk_at "rc"
      walk_at "rs"
      walk_at "rc"
      rcases hk with rfl | rfl
      · refine rd_itet (decide_eq_true rfl) ?_
        walk_at "rc"
        refine rd_anyL' ?_
        walk_at "rc"
        refine ⟨ls, most, 3, rfl, al.l1, by decide, by decide, m9, fun p H2 e2 g2 => ⟨p, rfl, ⟨_, SqL.of g2⟩, ?_⟩⟩
        have wJ : Wd K (Itl K p) ((rowsW ls.length most).map fun u => PyData.str (tx ls u)) H2 := by
          refine wd_list (SqL.of g2) ?_
          have := dps_str (K := K) (H := H2) ((rowsW ls.length most).map (tx ls))
          rw [List.map_map (f := tx ls) (g := PyData.str)] at this
          exact this
        refine lc_txt (f := fun u => decide (u ∉ A)) wJ (Evl.Ex.refl _) (by omega) (fun v => rfl) (fun v => rfl) (fun u hu Hc ec N hN => ?_) fun L Hb eb hL hdL => ?_
        · walk_at "rc"
          refine ⟨d1, _, rfl, DGet.k (k := .inr (tx ls u)) (ec _ _ (e2 _ _ g1)), ?_⟩
          rw [valV_mk nd (mem_rowsW.mp hu).1 tA.w]
          have := hN Hc (Evl.Ex.refl _)
          by_cases hm : u ∈ A
          · rw [if_pos hm]; rw [decide_eq_false (fun z => z hm)] at this; exact ⟨_, rfl, this⟩
          · rw [if_neg hm]; rw [decide_eq_true hm] at this; exact ⟨_, rfl, this⟩
        · walk_at "rc"
          refine ⟨.ref L, ls, _, rfl, hdL, fun u hu => (mem_rowsW.mp (List.mem_filter.mp hu).1).1, ?_, nd, fun D H3 e3 hD g3 => ?_⟩
          · have := List.length_filter_le (fun u => decide (u ∉ A)) (rowsW ls.length most)
            omega
          have e := (e1.trans e2).trans eb
          refine q D _ H3 (e.trans e3) (Evl.fresh_back e hD) g3 (ded_txs fun u hu => (mem_rowsW.mp (List.mem_filter.mp hu).1).1) fun u => ?_
          rw [mem_ded, List.mem_filter, mem_rowsW, decide_eq_true_iff, mA u]
          constructor
          · rintro ⟨⟨z1, z2⟩, z3⟩
            exact ⟨z1, z2, Mt.not.mpr fun z => z3 ⟨z1, z2, z⟩⟩
          · rintro ⟨z1, z2, z3⟩
            exact ⟨⟨z1, z2⟩, fun z => Mt.not.mp z3 z.2.2⟩
      · refine rd_itef (decide_eq_false (by decide +kernel)) ?_
        walk_at "rc"
        walk_at "rs"
        walk_at "rc"
        refine rd_itet (decide_eq_true rfl) ?_
        walk_at "rc"
        refine ⟨d1, ls, A, rowsW ls.length most, most, rfl, g1, tA, lA, fun u hu => ?_, by omega, nd, rl, fun u z1 z2 => mem_rowsW.mpr ⟨z1, z2⟩, fun D R H2 e2 hD g2 tR mR => ?_⟩
        · have := ((mA u).mp hu).2.1
          omega
        refine q D R H2 (e1.trans e2) (Evl.fresh_back e1 hD) g2 tR fun u => ?_
        constructor
        · intro hu
          have hw := tR.w u hu
          obtain ⟨z1, z2⟩ := (mR u hw).mp hu
          exact ⟨hw, z1, ML.star.mpr ((star_in mA hw z1).mp z2)⟩
        · rintro ⟨z1, z2, z3⟩
          exact (mR u z1).mpr ⟨z2, (star_in mA z1 z2).mpr (ML.star.mp z3)⟩
    | bi k t1 t2 =>
      obtain ⟨a, v1, v2, rfl, h1, hv1, hv2⟩ := hv
      obtain ⟨hk, lp1, lp2⟩ := lp
      have dp1 : max t1.dep t2.dep + 1 ≤ d := dp
      obtain ⟨d, rfl⟩ : ∃ d', d = d' + 1 := ⟨d - 1, by omega⟩
      walk_at "rc"
      refine rd_ixT (SqT.of h1) (atI_nat (j := 0) rfl) ?_
      walk_at "rc"
      walk_at "rs"
      walk_at "rc"
      refine rd_itef (decide_eq_false (by show ¬ k = "none"; rcases hk with rfl | rfl | rfl <;> decide +kernel)) ?_
      walk_at "rc"
      walk_at "rs"
      walk_at "rc"
      refine rd_itef (decide_eq_false (by show ¬ k = "empty"; rcases hk with rfl | rfl | rfl <;> decide +kernel)) ?_
      walk_at "rc"
      walk_at "rs"
      walk_at "rc"
      refine rd_itef (decide_eq_false (by show ¬ k = "one"; rcases hk with rfl | rfl | rfl <;> decide +kernel)) ?_
      walk_at "rc"
      refine rd_ixT (SqT.of h1) (atI_nat (j := 1) rfl) ?_
      walk_at "rc"
      refine ⟨ls, t1, v1, most, rfl, al, hv1, lp1, by omega, hm1, m9, rl, fun d1 A H1 e1 hd1 g1 tA mA => ?_⟩
      have lA := Nat.le_trans (mA.len tA) rl
      walk_at "rc"
      walk_at "rs"
      walk_at "rc"
      refine rd_itef (decide_eq_false (by show ¬ k = "not"; rcases hk with rfl | rfl | rfl <;> decide +kernel)) ?_
      walk_at "rc"
      walk_at "rs"
      walk_at "rc"
      refine rd_itef (decide_eq_false (by show ¬ k = "star"; rcases hk with rfl | rfl | rfl <;> decide +kernel)) ?_
      walk_at "rc"
      refine rd_ixT (SqT.of (e1 _ _ h1)) (atI_nat (j := 2) rfl) ?_
      walk_at "rc"
      refine ⟨ls, t2, v2, most, rfl, al, hv2.kt (.ex e1), lp2, by omega, hm1, m9, rl, fun d2 B H2 e2 hd2 g2 tB mB => ?_⟩
      have lB := Nat.le_trans (mB.len tB) rl
      have n12 : d1 ≠ d2 := fun z => by rw [← z, g1] at hd2; cases hd2
      have g12 := e2 _ _ g1
      have e12 := e1.trans e2
      walk_at "rc"
      walk_at "rs"
      walk_at "rc"
      rcases hk with rfl | rfl | rfl
      · refine rd_itet (decide_eq_true rfl) ?_
        walk_at "rc"
        refine ⟨d1, d2, ls, A, B, most, rfl, n12, g12, g2, tA, tB, lA, lB, fun u hu => ?_, fun u hu => ?_, nd, fun D R H3 e3 hD g3 tR _ mR => ?_⟩
        · have := ((mA u).mp hu).2.1
          omega
        · have := ((mB u).mp hu).2.1
          omega
        refine q D R H3 (e12.trans e3) (Evl.fresh_back e12 hD) g3 tR fun u => ?_
        rw [mR u]
        constructor
        · rintro ⟨x, hx, y, hy, hl, rfl⟩
          obtain ⟨x1, x2, x3⟩ := (mA x).mp hx
          obtain ⟨y1, y2, y3⟩ := (mB y).mp hy
          exact ⟨x1.app y1, by rw [List.length_append]; exact hl, ML.join.mpr ⟨x, y, rfl, x3, y3⟩⟩
        · rintro ⟨z1, z2, z3⟩
          obtain ⟨x, y, rfl, x3, y3⟩ := ML.join.mp z3
          rw [List.length_append] at z2
          exact ⟨x, (mA x).mpr ⟨fun j hj => z1 j (List.mem_append.mpr (.inl hj)), by omega, x3⟩, y, (mB y).mpr ⟨fun j hj => z1 j (List.mem_append.mpr (.inr hj)), by omega, y3⟩, z2, rfl⟩
      · refine rd_itef (decide_eq_false (by show ¬ ("either" : Str) = "join"; decide +kernel)) ?_
        walk_at "rc"
        walk_at "rs"
        walk_at "rc"
        refine rd_itet (decide_eq_true rfl) ?_
        walk_at "rc"
        have ek : ∀ R : List (List Nat), (mkK ls R).map (fun kv => kV kv.1) = (R.map (tx ls)).map V.str := fun R => by
          unfold mkK
          rw [List.map_map, List.map_map]
          rfl
        refine ⟨d1, _, rfl, g12, fun l1 hl1 => ?_⟩
        rw [ek]
        have e3 := Evl.Ex.new (o := .lst ((A.map (tx ls)).map V.str)) hl1
        have g3 : upd H2 l1 (.lst ((A.map (tx ls)).map V.str)) l1 = some (.lst ((A.map (tx ls)).map V.str)) := upd_same
        generalize upd H2 l1 (.lst ((A.map (tx ls)).map V.str)) = H3 at e3 g3
        walk_at "rc"
        refine ⟨d2, _, rfl, e3 _ _ g2, fun l2 hl2 => ?_⟩
        rw [ek]
        have e4 := Evl.Ex.new (o := .lst ((B.map (tx ls)).map V.str)) hl2
        have g4 : upd H3 l2 (.lst ((B.map (tx ls)).map V.str)) l2 = some (.lst ((B.map (tx ls)).map V.str)) := upd_same
        have g34 := e4 _ _ g3
        generalize upd H3 l2 (.lst ((B.map (tx ls)).map V.str)) = H4 at e4 g4 g34
        refine rd_cat g34 g4 (by simp only [List.length_map]; omega) fun p hp => ?_
        have e5 := Evl.Ex.new (o := .lst ((A.map (tx ls)).map V.str ++ (B.map (tx ls)).map V.str)) hp
        have g5 : upd H4 p (.lst ((A.map (tx ls)).map V.str ++ (B.map (tx ls)).map V.str)) p = some (.lst (((A ++ B).map (tx ls)).map V.str)) := by rw [upd_same, List.map_append, List.map_append]
        have e := ((e12.trans e3).trans e4).trans e5
        generalize upd H4 p (.lst ((A.map (tx ls)).map V.str ++ (B.map (tx ls)).map V.str)) = H5 at e5 g5 e
        walk_at "rc"
        have wAB : ∀ u ∈ A ++ B, Lw ls.length u := fun u hu => (List.mem_append.mp hu).elim (tA.w u) (tB.w u)
        refine ⟨.ref p, ls, A ++ B, rfl, txs_dp g5, wAB, by rw [List.length_append]; omega, nd, fun D H6 e6 hD g6 => ?_⟩
        refine q D _ H6 (e.trans e6) (Evl.fresh_back e hD) g6 (ded_txs wAB) fun u => ?_
        rw [mem_ded, List.mem_append, mA u, mB u]
        constructor
        · rintro (z | z)
          · exact ⟨z.1, z.2.1, Mt.either.mpr (.inl z.2.2)⟩
          · exact ⟨z.1, z.2.1, Mt.either.mpr (.inr z.2.2)⟩
        · rintro ⟨z1, z2, z3⟩
          exact (Mt.either.mp z3).imp (fun z => ⟨z1, z2, z⟩) fun z => ⟨z1, z2, z⟩
      · refine rd_itef (decide_eq_false (by show ¬ ("both" : Str) = "join"; decide +kernel)) ?_
        walk_at "rc"
        walk_at "rs"
        walk_at "rc"
        refine rd_itef (decide_eq_false (by show ¬ ("both" : Str) = "either"; decide +kernel)) ?_
        walk_at "rc"
        refine ⟨d1, .dK (mkK ls A), g12, trivial, fun od => ?_⟩
        have f0 : upd H2 d1 (.frz od (.dK (mkK ls A))) d1 = some (.frz od (.dK (mkK ls A))) := upd_same
        have f2 : upd H2 d1 (.frz od (.dK (mkK ls A))) d2 = some (.dK (mkK ls B)) := by rw [upd_ne (Ne.symm n12)]; exact g2
        have un0 : ∀ {H' : Hp}, Ex (upd H2 d1 (.frz od (.dK (mkK ls A)))) H' → Ex H2 (upd H' d1 (.dK (mkK ls A))) := fun e => ex_unlock g12 e
        generalize upd H2 d1 (.frz od (.dK (mkK ls A))) = Hc at f0 f2 un0
        walk_at "rc"
        refine ⟨_, rfl, d1, od, rfl, .inl ⟨mkK ls A, f0, ?_⟩⟩
        intro D hD
        have nD : d1 ≠ D := fun z => by rw [← z, f0] at hD; cases hD
        refine lc_it (walk_keys (kvs := mkK ls A)) (fun i Hd => Ex Hc Hd ∧ Hd D = some (.lst ((((A.take i).filter fun u => decide (u ∈ B)).map (tx ls)).map V.str))) ⟨Evl.Ex.new hD, upd_same⟩ (fun i Hd _ z => z.1 _ _ f0) (fun i x Hd H' hi z y => ?_) fun Hd z => ?_
        · obtain ⟨rfl, k, v, hkv, rfl⟩ := y
          obtain ⟨u, hu, rfl⟩ := mk_at hkv
          obtain ⟨ed, gd⟩ := z
          have lu := tA.w u (List.mem_of_getElem? hu)
          walk_at "rc"
          refine ⟨rfl, ?_⟩
          walk_at "rc"
          refine ⟨d2, _, rfl, DGet.k (k := .inr (tx ls u)) (ed _ _ f2), ?_⟩
          rw [valV_mk nd lu tB.w]
          refine ⟨_, rfl, ?_⟩
          have ef := take_filter (p := fun u => decide (u ∈ B)) hu
          have fl : (((A.take i).filter fun u => decide (u ∈ B)).map (tx ls)).length ≤ 40000 := by
            rw [List.length_map]
            have := List.length_filter_le (fun u => decide (u ∈ B)) (A.take i)
            rw [List.length_take] at this
            omega
          by_cases hr : u ∈ B
          · rw [if_pos hr]
            refine rd_iteT ?_
            walk_at "rc"
            refine ⟨_, gd, by rw [List.length_map]; omega, Evl.Ex.mut ed hD, ?_⟩
            rw [upd_same, ef, if_pos (decide_eq_true hr), List.map_append, List.map_append]
            rfl
          · rw [if_neg hr]
            refine rd_iteF ⟨ed, ?_⟩
            rw [ef, if_neg (by simpa using hr), List.append_nil]
            exact gd
        · obtain ⟨ed, gd⟩ := z
          rw [len_mk, List.take_length] at gd
          refine ⟨ed _ _ f0, ?_⟩
          have eu := un0 ed
          have gD : upd Hd d1 (.dK (mkK ls A)) D = some (.lst (((A.filter fun u => decide (u ∈ B)).map (tx ls)).map V.str)) := by rw [upd_ne (Ne.symm nD)]; exact gd
          generalize upd Hd d1 (.dK (mkK ls A)) = He at eu gD
          walk_at "rc"
          have lF := List.length_filter_le (fun u => decide (u ∈ B)) A
          have wF : ∀ u ∈ A.filter fun u => decide (u ∈ B), Lw ls.length u := fun u hu => tA.w u (List.mem_filter.mp hu).1
          refine ⟨.ref D, ls, _, rfl, txs_dp gD, wF, by omega, nd, fun D2 Hg eg hD2 gg => ?_⟩
          have e := e12.trans eu
          refine q D2 _ Hg (e.trans eg) (Evl.fresh_back e hD2) gg (ded_txs wF) fun u => ?_
          rw [mem_ded, List.mem_filter, decide_eq_true_iff, mA u, mB u]
          exact ⟨fun ⟨z, y⟩ => ⟨z.1, z.2.1, Mt.both.mpr ⟨z.2.2, y.2.2⟩⟩, fun ⟨z1, z2, z3⟩ => ⟨⟨z1, z2, (Mt.both.mp z3).1⟩, z1, z2, (Mt.both.mp z3).2⟩⟩
theorem ok_mns : ∀ d, FnOk P w K mg base CX0 (d + 3) T.a_meaning T.d_meaning ["letters", "pattern", "most"] (spMn d)
  | 0 => ok_mn T 0 (T.f_meaning.ok sc_meaning (fun vs H Q E h => h.1) (fun cdv A outer s H vs Q E hr h => h.2.elim))
  | d + 1 => ok_mn T (d + 1) (ok_mns d)
theorem ok_meaning : FnOk P w K mg base CX0 10 T.a_meaning T.d_meaning ["letters", "pattern", "most"] (fun vs H Q E => ∃ d, d ≤ 7 ∧ spMn d vs H Q E) := FnOk.exd fun d hd => (ok_mns T d).mono (by omega)
end
section
/-! ### texts of one letter -/
theorem mt_join1 {a b : Pt} {c k : Nat} : Mt (.bi "join" a b) (List.replicate k c) ↔ ∃ j, j ≤ k ∧ Mt a (List.replicate j c) ∧ Mt b (List.replicate (k - j) c) := by
  refine Mt.join.trans ⟨?_, ?_⟩
  · rintro ⟨i, h0, h1, h2⟩
    rw [List.length_replicate] at h0
    rw [List.take_replicate, Nat.min_eq_left h0] at h1
    rw [List.drop_replicate] at h2
    exact ⟨i, h0, h1, h2⟩
  · rintro ⟨i, h0, h1, h2⟩
    refine ⟨i, by rw [List.length_replicate]; exact h0, ?_, ?_⟩
    · rw [List.take_replicate, Nat.min_eq_left h0]; exact h1
    · rw [List.drop_replicate]; exact h2
theorem star1 {L : List Nat → Prop} {c k : Nat} : Star L (List.replicate k c) ↔ k = 0 ∨ ∃ j, 0 < j ∧ j ≤ k ∧ L (List.replicate j c) ∧ Star L (List.replicate (k - j) c) := by
  refine star_iff.trans (or_congr ?_ ⟨?_, ?_⟩)
  · rw [List.replicate_eq_nil_iff]
  · rintro ⟨i, i0, h0, h1, h2⟩
    rw [List.length_replicate] at h0
    rw [List.take_replicate, Nat.min_eq_left h0] at h1
    rw [List.drop_replicate] at h2
    exact ⟨i, i0, h0, h1, h2⟩
  · rintro ⟨i, i0, h0, h1, h2⟩
    refine ⟨i, i0, by rw [List.length_replicate]; exact h0, ?_, ?_⟩
    · rw [List.take_replicate, Nat.min_eq_left h0]; exact h1
    · rw [List.drop_replicate]; exact h2
/-- what a list of truth values by length tells -/
def LnB (t : Pt) (c most : Nat) (bs : List Bool) : Prop := bs.length = most + 1 ∧ ∀ k, k ≤ most → (bs.getD k false = true ↔ Mt t (List.replicate k c))
theorem at_bl {bs : List Bool} {k : Nat} (h : k < bs.length) : atI (bs.map V.bl) (k : Int) = some (.bl (bs.getD k false)) := by
  refine atI_nat ?_
  rw [List.getElem?_map, List.getD_eq_getElem?_getD, List.getElem?_eq_getElem h]
  rfl
theorem lnb_of {t : Pt} {c most : Nat} {f : Nat → Bool} (h : ∀ k, k ≤ most → (f k = true ↔ Mt t (List.replicate k c))) : LnB t c most ((List.range (most + 1)).map f) := by
  refine ⟨by rw [List.length_map, List.length_range], fun k hk => ?_⟩
  rw [List.getD_eq_getElem?_getD, List.getElem?_map, List.getElem?_range (by omega)]
  exact h k hk
end
section
variable (T : Txt K mg)
def spLn (d : Nat) : Sp := fun vs H Q _ => ∃ (c : Nat) (t : Pt) (v : V) (most : Nat), vs = [.str ⟨#[c]⟩, v, .int (most : Int)] ∧ t.ok ∧ PtV H t v ∧ t.dep ≤ d ∧ most ≤ 100 ∧
  ∀ p bs H', Ex H H' → H p = none → H' p = some (.lst (bs.map V.bl)) → LnB t c most bs → Q (.ref p) H'
def LXp : Nat → Sp
  | 0 => fun vs H Q _ => vs.length = 3 ∧ False
  | d + 1 => spLn d
/-- a comprehension of truth values over the lengths -/
theorem lc_len {t : Pt} {c most : Nat} {f : Nat → Bool} {σ : L2.St} {H : Hp} {Q : VK} {te : TE} {j n : Nat} (hn : n = most + 1) (hm : most ≤ 100) (hf : ∀ k, k ≤ most → (f k = true ↔ Mt t (List.replicate k c)))
    (he : ∀ i Hc, i < most + 1 → Ex H Hc → Val te ((wipe σ [j]).set j (some (vN i))) Hc (.bl (f i)))
    (q : ∀ p bs H', Ex H H' → H p = none → H' p = some (.lst (bs.map V.bl)) → LnB t c most bs → Q (.ref p) H') : lcB (gName j) tYes te [j] σ Q (Itr 0 n) H := by
  subst hn
  refine lc_map walk_range0 (fun i H x H' _ y => y) (fun _ _ => True.intro) (by omega) (v := fun i => .bl (f i)) he fun p hp => ?_
  refine q p ((List.range (most + 1)).map f) _ (Evl.Ex.new hp) hp ?_ (lnb_of hf)
  rw [upd_same, List.map_map]
  rfl
theorem dpl_int {H : Hp} : ∀ ns : List Int, DpAll K H (ns.map V.int) (ns.map PyData.int)
  | [] => .nil
  | _ :: ns => .cons (.int _) (dpl_int ns)
theorem rd_neNil {L L2 : Addr} {ns : List Int} {H : Hp} {Q : VK} (h1 : H L = some (.lst (ns.map V.int))) (h2 : H L2 = some (.lst [])) (q : Q (.bl (!ns.isEmpty)) H) : oNe K (.ref L) (.ref L2) H Q := by
  have l1 : Lay (.list (ns.map PyData.int)) := Ly.lay (Ly.list (n := 0) fun d hd => by
    obtain ⟨i, _, rfl⟩ := List.mem_map.mp hd
    exact Ly.int) (by decide)
  have l2 : Lay (.list []) := Ly.lay (Ly.list (n := 0) fun d hd => nomatch hd) (by decide)
  refine .inr ⟨.list (ns.map PyData.int), .list [], .lst (SqL.of h1) (dpl_int ns), .lst (SqL.of h2) .nil, l1.sh, l2.sh, ?_⟩
  have e : PyData.eqv (.list (ns.map PyData.int)) (.list []) = ns.isEmpty := by
    cases ns with
    | nil => simp only [List.map_nil, PyData.eqv, PyData.eqvAll, List.isEmpty_nil]
    | cons a l => simp only [List.map_cons, PyData.eqv, PyData.eqvAll, List.isEmpty_cons]
  rw [e]
  exact q
/-- is there a place with a property -/
theorem lc_ex {lo n : Nat} {f : Nat → Bool} {σ : L2.St} {H : Hp} {Q : VK} {tt : TT} {j : Nat} (hn : n ≤ 1000) (hj : ∀ v : V, ((wipe σ [j]).set j (some v))[j]? = some (some v))
    (ht : ∀ i Hc, i < n → Ex H Hc → Ans tt ((wipe σ [j]).set j (some (.int ((lo : Int) + (i : Nat))))) Hc (f (lo + i)))
    (q : ∀ (L : Addr) (ns : List Int) (H' : Hp), Ex H H' → H L = none → H' L = some (.lst (ns.map V.int)) → ((!ns.isEmpty) = true ↔ ∃ i, lo ≤ i ∧ i < lo + n ∧ f i = true) → Q (.ref L) H') : lcB (gName j) tt (tVar j) [j] σ Q (Itr lo n) H := by
  refine lc_pure (xs := fun i => .int ((lo : Int) + (i : Nat))) (f := fun i => f (lo + i)) (v := fun i => .int ((lo : Int) + (i : Nat))) walk_range (fun i H x H' _ y => y) (fun _ _ => True.intro) (by omega) ht (fun i Hc _ _ _ N hN => rd_var (hj _) hN) fun L hL => ?_
  refine q L (((List.range n).filter fun i => f (lo + i)).map fun i : Nat => (lo : Int) + (i : Int)) _ (Evl.Ex.new hL) hL ?_ ?_
  · rw [upd_same, List.map_map]
    rfl
  · rw [Bool.not_eq_true', ← Bool.not_eq_true, List.isEmpty_iff, List.map_eq_nil_iff, List.filter_eq_nil_iff]
    constructor
    · intro h
      refine Classical.byContradiction fun z => h fun i hi hf => z ⟨lo + i, by omega, by have := List.mem_range.mp hi; omega, hf⟩
    · rintro ⟨i, h1, h2, h3⟩ h
      exact h (i - lo) (List.mem_range.mpr (by omega)) (by rw [show lo + (i - lo) = i by omega]; exact h3)
theorem ok_ln (d : Nat) (hP : FnOk P w K mg base CX0 (d + 1) T.a_lengths T.d_lengths ["letter", "pattern", "most"] (LXp d)) : FnOk P w K mg base CX0 (d + 2) T.a_lengths T.d_lengths ["letter", "pattern", "most"] (spLn d) := by
  refine T.f_lengths.ok sc_lengths (fun vs H Q E h => ?_) (fun cdv A outer s H vs Q E hr h => ?_)
  · obtain ⟨_, _, _, _, rfl, _⟩ := h; rfl
  · obtain ⟨c, t, v, most, rfl, hok, hv, dp, m9, q⟩ := h
    have ok_lengths : ∀ _ : Txt K mg, FnOk P w K mg base CX0 (d + 1) T.a_lengths T.d_lengths ["letter", "pattern", "most"] (LXp d) := fun _ => hP
    have sz : 1000000 ≤ sizeLine := by decide
    have em : (most : Int) + 1 = ((most + 1 : Nat) : Int) := by omega
    refine ⟨_, (pss_cons (ps_set (i := 3) sc_lengths.nd rfl (by first | exact Or.inl rfl | exact Or.inr rfl) (pe_ix (kIx K) (pv 1) pe_int (fun _ _ => rfl)))
  (pss_cons (ps_if (PW.pt (pw_or (pt_cmpR (kEq K rfl hr.units) (pv 3) pe_str (by first | rfl | exact nomark _)) (pw_or1 (pt_cmpR (kEq K rfl hr.units) (pv 3) pe_str (by first | rfl | exact nomark _)))))
    (pss_one (ps_ret (pe_lc (own := [("k", 4)]) (g := gName 4) (tt := tYes) (by rfl) sc_lengths.nd (pi_range1 (by rfl) T.nb_range (pa_cons (pe_op (kAdd K) (pv 2) pe_int) pa_nil)) (blkOk_by (own := [("k", 4)]) (N := ["letter", "pattern", "most", "word", "k", "first", "each", "found", "j", "second"]) (sc := defScope s_lengths) (by decide +kernel)) (fun _ _ _ _ _ => (pg_name (i := 4) sc_lengths.nd rfl (by first | exact Or.inl rfl | exact Or.inr rfl))) (fun _ _ _ _ _ => pts_nil) (fun _ _ _ _ _ => (pe_and (pe_cmpR (kEq K rfl hr.units) (pv 3) pe_str (by first | rfl | exact nomark _)) (pe_one (pe_cmpR (kEq K rfl hr.units) (pv 4) pe_int (by first | rfl | exact nomark _))))))))
    pss_nil)
  (pss_cons (ps_if (pt_cmpR (kEq K rfl hr.units) (pv 3) pe_str (by first | rfl | exact nomark _))
    (pss_one (ps_ret (pe_lc (own := [("k", 4)]) (g := gName 4) (tt := tYes) (by rfl) sc_lengths.nd (pi_range1 (by rfl) T.nb_range (pa_cons (pe_op (kAdd K) (pv 2) pe_int) pa_nil)) (blkOk_by (own := [("k", 4)]) (N := ["letter", "pattern", "most", "word", "k", "first", "each", "found", "j", "second"]) (sc := defScope s_lengths) (by decide +kernel)) (fun _ _ _ _ _ => (pg_name (i := 4) sc_lengths.nd rfl (by first | exact Or.inl rfl | exact Or.inr rfl))) (fun _ _ _ _ _ => pts_nil) (fun _ _ _ _ _ => (pe_and (pe_cmpR (kEq K rfl hr.units) (pv 4) pe_int (by first | rfl | exact nomark _)) (pe_one (pe_cmpR (kIn K) (pv 0) (pe_ix (kIx K) (pv 1) pe_int (fun _ _ => rfl)) (by first | rfl | exact nomark _))))))))
    pss_nil)
  (pss_cons (ps_set (i := 5) sc_lengths.nd rfl (by first | exact Or.inl rfl | exact Or.inr rfl) (pe_callE (ok_lengths T) (hr.mono (by omega)) T.o_lengths (pa_cons (pv 0) (pa_cons (pe_ix (kIx K) (pv 1) pe_int (fun _ _ => rfl)) (pa_cons (pv 2) pa_nil)))))
  (pss_cons (ps_if (pt_cmpR (kEq K rfl hr.units) (pv 3) pe_str (by first | rfl | exact nomark _))
    (pss_one (ps_ret (pe_lc (own := [("each", 6)]) (g := gName 6) (tt := tYes) (by rfl) sc_lengths.nd (kAny K rfl (pv 5)) (blkOk_by (own := [("each", 6)]) (N := ["letter", "pattern", "most", "word", "k", "first", "each", "found", "j", "second"]) (sc := defScope s_lengths) (by decide +kernel)) (fun _ _ _ _ _ => (pg_name (i := 6) sc_lengths.nd rfl (by first | exact Or.inl rfl | exact Or.inr rfl))) (fun _ _ _ _ _ => pts_nil) (fun _ _ _ _ _ => (pe_not (pv 6))))))
    pss_nil)
  (pss_cons (ps_if (pt_cmpR (kEq K rfl hr.units) (pv 3) pe_str (by first | rfl | exact nomark _))
    (pss_cons (ps_set (i := 7) sc_lengths.nd rfl (by first | exact Or.inl rfl | exact Or.inr rfl) (pe_lst (pa_cons pe_bl pa_nil)))
  (pss_cons (ps_for PassesOwn.never rfl (pi_range2 (by rfl) T.nb_range (pa_cons pe_int (pa_cons (pe_op (kAdd K) (pv 2) pe_int) pa_nil))) (pg_name (i := 4) sc_lengths.nd rfl (by first | exact Or.inl rfl | exact Or.inr rfl))
    (pss_one (ps_expr (kBm K rfl (pe_bm PySem.F.plainAttrs_list PySem.F.slot_list_append PySem.F.type_list_append mt_append (pv 7) (pa_cons (pe_cmpR (kNe K rfl hr.units) (pe_lc (own := [("j", 8)]) (g := gName 8)  (by rfl) sc_lengths.nd (pi_range2 (by rfl) T.nb_range (pa_cons pe_int (pa_cons (pe_op (kAdd K) (pv 4) pe_int) pa_nil))) (blkOk_by (own := [("j", 8)]) (N := ["letter", "pattern", "most", "word", "k", "first", "each", "found", "j", "second"]) (sc := defScope s_lengths) (by decide +kernel)) (fun _ _ _ _ _ => (pg_name (i := 8) sc_lengths.nd rfl (by first | exact Or.inl rfl | exact Or.inr rfl))) (fun _ _ _ _ _ => (pts_one (PW.pt (pw_and (pt_val (pe_ix (kIx K) (pv 5) (pv 8) (fun _ _ => rfl))) (pw_and1 (pt_val (pe_ix (kIx K) (pv 7) (pe_op op_subP (pv 4) (pv 8)) (fun _ _ => rfl)))))))) (fun _ _ _ _ _ => (pv 8))) (pe_lst pa_nil) (by first | rfl | exact nomark _)) pa_nil))))))
  (pss_one (ps_ret (pv 7)))))
    pss_nil)
  (pss_cons (ps_set (i := 9) sc_lengths.nd rfl (by first | exact Or.inl rfl | exact Or.inr rfl) (pe_callE (ok_lengths T) (hr.mono (by omega)) T.o_lengths (pa_cons (pv 0) (pa_cons (pe_ix (kIx K) (pv 1) pe_int (fun _ _ => rfl)) (pa_cons (pv 2) pa_nil)))))
  (pss_cons (ps_if (pt_cmpR (kEq K rfl hr.units) (pv 3) pe_str (by first | rfl | exact nomark _))
    (pss_cons (ps_set (i := 7) sc_lengths.nd rfl (by first | exact Or.inl rfl | exact Or.inr rfl) (pe_lst pa_nil))
  (pss_cons (ps_for PassesOwn.never rfl (pi_range1 (by rfl) T.nb_range (pa_cons (pe_op (kAdd K) (pv 2) pe_int) pa_nil)) (pg_name (i := 4) sc_lengths.nd rfl (by first | exact Or.inl rfl | exact Or.inr rfl))
    (pss_one (ps_expr (kBm K rfl (pe_bm PySem.F.plainAttrs_list PySem.F.slot_list_append PySem.F.type_list_append mt_append (pv 7) (pa_cons (pe_cmpR (kNe K rfl hr.units) (pe_lc (own := [("j", 8)]) (g := gName 8)  (by rfl) sc_lengths.nd (pi_range1 (by rfl) T.nb_range (pa_cons (pe_op (kAdd K) (pv 4) pe_int) pa_nil)) (blkOk_by (own := [("j", 8)]) (N := ["letter", "pattern", "most", "word", "k", "first", "each", "found", "j", "second"]) (sc := defScope s_lengths) (by decide +kernel)) (fun _ _ _ _ _ => (pg_name (i := 8) sc_lengths.nd rfl (by first | exact Or.inl rfl | exact Or.inr rfl))) (fun _ _ _ _ _ => (pts_one (PW.pt (pw_and (pt_val (pe_ix (kIx K) (pv 5) (pv 8) (fun _ _ => rfl))) (pw_and1 (pt_val (pe_ix (kIx K) (pv 9) (pe_op op_subP (pv 4) (pv 8)) (fun _ _ => rfl)))))))) (fun _ _ _ _ _ => (pv 8))) (pe_lst pa_nil) (by first | rfl | exact nomark _)) pa_nil))))))
  (pss_one (ps_ret (pv 7)))))
    pss_nil)
  (pss_cons (ps_if (pt_cmpR (kEq K rfl hr.units) (pv 3) pe_str (by first | rfl | exact nomark _))
    (pss_one (ps_ret (pe_lc (own := [("k", 4)]) (g := gName 4) (tt := tYes) (by rfl) sc_lengths.nd (pi_range1 (by rfl) T.nb_range (pa_cons (pe_op (kAdd K) (pv 2) pe_int) pa_nil)) (blkOk_by (own := [("k", 4)]) (N := ["letter", "pattern", "most", "word", "k", "first", "each", "found", "j", "second"]) (sc := defScope s_lengths) (by decide +kernel)) (fun _ _ _ _ _ => (pg_name (i := 4) sc_lengths.nd rfl (by first | exact Or.inl rfl | exact Or.inr rfl))) (fun _ _ _ _ _ => pts_nil) (fun _ _ _ _ _ => (pe_or (pe_ix (kIx K) (pv 5) (pv 4) (fun _ _ => rfl)) (pe_one (pe_ix (kIx K) (pv 9) (pv 4) (fun _ _ => rfl))))))))
    pss_nil)
  (pss_one (ps_ret (pe_lc (own := [("k", 4)]) (g := gName 4) (tt := tYes) (by rfl) sc_lengths.nd (pi_range1 (by rfl) T.nb_range (pa_cons (pe_op (kAdd K) (pv 2) pe_int) pa_nil)) (blkOk_by (own := [("k", 4)]) (N := ["letter", "pattern", "most", "word", "k", "first", "each", "found", "j", "second"]) (sc := defScope s_lengths) (by decide +kernel)) (fun _ _ _ _ _ => (pg_name (i := 4) sc_lengths.nd rfl (by first | exact Or.inl rfl | exact Or.inr rfl))) (fun _ _ _ _ _ => pts_nil) (fun _ _ _ _ _ => (pe_and (pe_ix (kIx K) (pv 5) (pv 4) (fun _ _ => rfl)) (pe_one (pe_ix (kIx K) (pv 9) (pv 4) (fun _ _ => rfl))))))))))))))))), ?_⟩
    cases t with
    | nul k =>
      obtain ⟨a, rfl, h1⟩ := hv
      walk_at "rc"
      refine rd_ixT (SqT.of h1) (atI_nat (j := 0) rfl) ?_
      walk_at "rc"
      walk_at "rs"
      walk_at "rc"
      have nulC : ∀ {σ : L2.St} {te : TE} {n : Nat}, n = most + 1 → (∀ i Hc, i < most + 1 → Ex H Hc → Val te ((wipe σ [4]).set 4 (some (vN i))) Hc (.bl (decide (k = "empty") && decide ((i : Int) = 0)))) → lcB (gName 4) tYes te [4] σ Q (Itr 0 n) H := fun hn he => by
        refine lc_len (t := .nul k) hn m9 (fun i _ => ?_) he q
        rw [Bool.and_eq_true, decide_eq_true_iff, decide_eq_true_iff]
        show _ ↔ k = "empty" ∧ List.replicate i c = []
        rw [List.replicate_eq_nil_iff]
        exact and_congr Iff.rfl ⟨fun h => by omega, fun h => by omega⟩
      rcases hok with rfl | rfl
      · refine rd_itet (decide_eq_true rfl) ?_
        refine rd_iteT ?_
        walk_at "rc"
        rw [em]
        refine ⟨_, rfl, by omega, by omega, nulC rfl fun i Hc hi ec N hN => ?_⟩
        refine rd_andV ?_
        walk_at "rc"
        have e0 : decide (("none" : Str) = "empty") = false := decide_eq_false (by decide +kernel)
        rw [e0] at hN
        exact hN
      · refine rd_itef (decide_eq_false (by decide +kernel)) ?_
        walk_at "rc"
        refine rd_itet (decide_eq_true rfl) ?_
        walk_at "rc"
        rw [em]
        refine ⟨_, rfl, by omega, by omega, nulC rfl fun i Hc hi ec N hN => ?_⟩
        refine rd_andV ?_
        walk_at "rc"
        refine rd_itet (decide_eq_true rfl) ?_
        walk_at "rc"
        rw [decide_eq_true (show ("empty" : Str) = "empty" from rfl), Bool.true_and] at hN
        exact hN
    | one s' =>
      obtain ⟨a, rfl, h1⟩ := hv
      walk_at "rc"
      refine rd_ixT (SqT.of h1) (atI_nat (j := 0) rfl) ?_
      walk_at "rc"
      walk_at "rs"
      walk_at "rc"
      refine rd_itef (decide_eq_false (by decide +kernel)) ?_
      walk_at "rc"
      refine rd_itef (decide_eq_false (by decide +kernel)) ?_
      walk_at "rc"
      walk_at "rs"
      walk_at "rc"
      refine rd_itet (decide_eq_true rfl) ?_
      walk_at "rc"
      rw [em]
      refine ⟨_, rfl, by omega, by omega, ?_⟩
      refine lc_len (t := .one s') (f := fun i => decide ((i : Int) = 1) && decide (c ∈ s'.cps.toList)) rfl m9 (fun i _ => ?_) (fun i Hc hi ec N hN => ?_) q
      · rw [Bool.and_eq_true, decide_eq_true_iff, decide_eq_true_iff, Mt.one]
        constructor
        · rintro ⟨z1, z2⟩
          have : i = 1 := by omega
          subst this
          exact ⟨c, z2, rfl⟩
        · rintro ⟨c', z1, z2⟩
          have l := congrArg List.length z2
          rw [List.length_replicate] at l
          have : i = 1 := l
          subst this
          have := (List.cons.inj z2).1
          subst this
          exact ⟨rfl, z1⟩
      · refine rd_andV ?_
        walk_at "rc"
        refine rd_iteD (fun z => ?_) fun z => ?_
        · walk_at "rc"
          refine rd_ixT (SqT.of (ec _ _ h1)) (atI_nat (j := 1) rfl) ?_
          walk_at "rc"
          rw [decide_eq_true z, Bool.true_and] at hN
          exact hN
        · rw [decide_eq_false z, Bool.false_and] at hN
          exact hN
    | un k t1 =>
      obtain ⟨a, v1, rfl, h1, hv1⟩ := hv
      obtain ⟨hk, ok1⟩ := hok
      have dp1 : t1.dep + 1 ≤ d := dp
      obtain ⟨d, rfl⟩ : ∃ d', d = d' + 1 := ⟨d - 1, by omega⟩
      walk_at "rc"
      refine rd_ixT (SqT.of h1) (atI_nat (j := 0) rfl) ?_
      walk_at "rc"
      walk_at "rs"
      walk_at "rc"
      refine rd_itef (decide_eq_false (by show ¬ k = "none"; rcases hk with rfl | rfl <;> decide +kernel)) ?_
      walk_at "rc"
      refine rd_itef (decide_eq_false (by show ¬ k = "empty"; rcases hk with rfl | rfl <;> decide +kernel)) ?_
      walk_at "rc"
      walk_at "rs"
      walk_at "rc"
      refine rd_itef (decide_eq_false (by show ¬ k = "one"; rcases hk with rfl | rfl <;> decide +kernel)) ?_
      walk_at "rc"
      refine rd_ixT (SqT.of h1) (atI_nat (j := 1) rfl) ?_
      walk_at "rc"
      refine ⟨c, t1, v1, most, rfl, ok1, hv1, by omega, m9, fun p1 bs1 H1 e1 hp1 g1 lb1 => ?_⟩
      walk_at "rc"
      walk_at "rs"
      walk_at "rc"
      rcases hk with rfl | rfl
      · refine rd_itet (decide_eq_true rfl) ?_
        walk_at "rc"
        refine rd_anyL (fun Q q => ⟨_, rfl, q⟩) (SqL.of g1) ?_
        have lb := lb1.1
        refine lc_map (xs := fun i => .bl (bs1.getD i false)) (v := fun i => .bl (!bs1.getD i false)) walk_list (fun i H x H' hi y => ⟨y.1, ?_⟩) (fun Hc ec => SqL.of (ec _ _ g1)) (by rw [List.length_map]; omega) (fun i Hc hi ec N hN => ?_) fun L hL => ?_
        · have y := y.2
          rw [List.length_map] at hi
          rw [List.getElem?_map, List.getElem?_eq_getElem hi] at y
          rw [List.getD_eq_getElem?_getD, List.getElem?_eq_getElem hi]
          exact (Option.some.inj y).symm
        · refine rd_notV ?_
          walk_at "rc"
          exact hN
        · refine q L (bs1.map not) _ (e1.trans (Evl.Ex.new hL)) (Evl.fresh_back e1 hL) ?_ ⟨by rw [List.length_map]; exact lb, fun i hi => ?_⟩
          · rw [upd_same, List.length_map]
            refine congrArg (fun l => some (HO.lst l)) (List.ext_getElem (by simp) fun i h1 h2 => ?_)
            simp only [List.getElem_map, List.getElem_range]
            rw [List.getD_eq_getElem?_getD, List.getElem?_eq_getElem (by simpa using h1)]
            rfl
          · rw [Mt.not, ← lb1.2 i hi, List.getD_eq_getElem?_getD, List.getElem?_map, List.getD_eq_getElem?_getD, List.getElem?_eq_getElem (show i < bs1.length by omega)]
            show (!bs1[i]) = true ↔ ¬ (bs1[i] = true)
            cases bs1[i] <;> simp
      · refine rd_itef (decide_eq_false (by decide +kernel)) ?_
        walk_at "rc"
        walk_at "rs"
        walk_at "rc"
        refine rd_itet (decide_eq_true rfl) ?_
        walk_at "rc"
        have lb := lb1.1
        refine ⟨by show 1 ≤ sizeLine; decide, fun pf hpf => ?_⟩
        have e2 := Evl.Ex.new (o := .lst [.bl true]) hpf
        have g2 : upd H1 pf (.lst [.bl true]) pf = some (.lst (([true] : List Bool).map V.bl)) := upd_same
        have npH := Evl.fresh_back e1 hpf
        have e12 := e1.trans e2
        have npf : p1 ≠ pf := fun z => by rw [z, hpf] at g1; cases g1
        have g12 := e2 _ _ g1
        generalize upd H1 pf (.lst [.bl true]) = H2 at e2 g2 e12 g12
        walk_at "rc"
        walk_at "rs"
        walk_at "rc"
        rw [em]
        refine ⟨_, _, rfl, ⟨by omega, by omega, by omega, by omega⟩, ?_⟩
        rw [show (((most + 1 : Nat) : Int) - 1).toNat = most by omega]
        refine fo_range2 (lo := 1) (n := most) (fun i σ H' => ∃ (fs : List Bool) (k4 k8 : Option V), σ = [some (.str ⟨#[c]⟩), some (.ref a), some (.int (most : Int)), some (.str "star"), k4, some (.ref p1), none, some (.ref pf), k8, none] ∧ Ex H H' ∧ H' p1 = some (.lst (bs1.map V.bl)) ∧ H' pf = some (.lst (fs.map V.bl)) ∧ fs.length = i + 1 ∧ ∀ j, j ≤ i → (fs.getD j false = true ↔ Star (Mt t1) (List.replicate j c)))
          ⟨[true], _, _, rfl, e12, g12, g2, rfl, fun j hj => by
            obtain rfl : j = 0 := by omega
            exact ⟨fun _ => .nil, fun _ => rfl⟩⟩ ?_ ?_
        · rintro i σ H3 hi ⟨fs, k4, k8, rfl, e3, g13, g3, lf, hf⟩
          walk_at "rc"
          refine ⟨.inl ⟨rfl, _, SqL.of g3⟩, ?_⟩
          walk_at "rc"
          rw [show (1 : Int) + ((i : Nat) : Int) + 1 = ((i + 2 : Nat) : Int) by omega]
          refine ⟨_, _, rfl, ⟨by omega, by omega, by omega, by omega⟩, ?_⟩
          rw [show (((i + 2 : Nat) : Int) - 1).toNat = i + 1 by omega]
          refine lc_ex (lo := 1) (f := fun j => bs1.getD j false && fs.getD (i + 1 - j) false) (by omega) (fun v => rfl) (fun j Hc hj ec N hN => ?_) fun L ns H4 e4 hL g4 hns => ?_
          · have ej : (1 : Int) + ((j : Nat) : Int) = ((1 + j : Nat) : Int) := by omega
            have es : (1 : Int) + ((i : Nat) : Int) - ((1 : Int) + ((j : Nat) : Int)) = ((i + 1 - (1 + j) : Nat) : Int) := by omega
            walk_at "rc"
            refine rd_ixL (SqL.of (ec _ _ g13)) (by show atI _ ((1 : Int) + ((j : Nat) : Int)) = _; rw [ej]; exact at_bl (by omega)) ?_
            refine ⟨_, rfl, ?_⟩
            refine rd_ite (fun z => ?_) fun z => ?_
            · walk_at "rc"
              refine rd_ixL (SqL.of (ec _ _ g3)) (by show atI _ ((1 : Int) + ((i : Nat) : Int) - ((1 : Int) + ((j : Nat) : Int))) = _; rw [es]; exact at_bl (by omega)) ?_
              refine ⟨_, rfl, ?_⟩
              rw [z, Bool.true_and] at hN
              exact hN
            · rw [z, Bool.false_and] at hN
              exact hN
          · walk_at "rc"
            refine ⟨Nat.zero_le _, fun L2 hL2 => ?_⟩
            have e5 := Evl.Ex.new (o := .lst []) hL2
            refine rd_neNil (e5 _ _ g4) upd_same ?_
            walk_at "rc"
            have g35 := e5 _ _ (e4 _ _ g3)
            refine ⟨pf, _, _, rfl, rfl, g35, by rw [List.length_map]; omega, ?_⟩
            refine ⟨fs ++ [!ns.isEmpty], _, _, rfl, Evl.Ex.mut ((e3.trans e4).trans e5) npH, by rw [upd_ne npf]; exact e5 _ _ (e4 _ _ g13), by rw [upd_same, List.map_append]; rfl, by rw [List.length_append, lf]; rfl, fun j hj => ?_⟩
            rcases Nat.lt_or_ge j (i + 1) with z | z
            · rw [List.getD_eq_getElem?_getD, List.getElem?_append_left (by omega), ← List.getD_eq_getElem?_getD]
              exact hf j (by omega)
            · obtain rfl : j = i + 1 := by omega
              rw [List.getD_eq_getElem?_getD, List.getElem?_append_right (by omega), lf, Nat.sub_self]
              show (!ns.isEmpty) = true ↔ _
              rw [hns, star1]
              constructor
              · rintro ⟨j, j1, j2, j3⟩
                rw [Bool.and_eq_true] at j3
                exact .inr ⟨j, by omega, by omega, (lb1.2 j (by omega)).mp j3.1, (hf _ (by omega)).mp j3.2⟩
              · rintro (z | ⟨j, j1, j2, j3, j4⟩)
                · omega
                · exact ⟨j, by omega, by omega, Bool.and_eq_true _ _ ▸ ⟨(lb1.2 j (by omega)).mpr j3, (hf _ (by omega)).mpr j4⟩⟩
        · rintro σ H3 ⟨fs, k4, k8, rfl, e3, g13, g3, lf, hf⟩
          walk_at "rc"
          exact q pf fs H3 e3 npH g3 ⟨lf, fun j hj => (hf j hj).trans Mt.star.symm⟩
    | bi k t1 t2 =>
      obtain ⟨a, v1, v2, rfl, h1, hv1, hv2⟩ := hv
      obtain ⟨hk, ok1, ok2⟩ := hok
      have dp1 : max t1.dep t2.dep + 1 ≤ d := dp
      obtain ⟨d, rfl⟩ : ∃ d', d = d' + 1 := ⟨d - 1, by omega⟩
      walk_at "rc"
      refine rd_ixT (SqT.of h1) (atI_nat (j := 0) rfl) ?_
      walk_at "rc"
      walk_at "rs"
      walk_at "rc"
      refine rd_itef (decide_eq_false (by show ¬ k = "none"; rcases hk with rfl | rfl | rfl <;> decide +kernel)) ?_
      walk_at "rc"
      refine rd_itef (decide_eq_false (by show ¬ k = "empty"; rcases hk with rfl | rfl | rfl <;> decide +kernel)) ?_
      walk_at "rc"
      walk_at "rs"
      walk_at "rc"
      refine rd_itef (decide_eq_false (by show ¬ k = "one"; rcases hk with rfl | rfl | rfl <;> decide +kernel)) ?_
      walk_at "rc"
      refine rd_ixT (SqT.of h1) (atI_nat (j := 1) rfl) ?_
      walk_at "rc"
      refine ⟨c, t1, v1, most, rfl, ok1, hv1, by omega, m9, fun p1 bs1 H1 e1 hp1 g1 lb1 => ?_⟩
      walk_at "rc"
      walk_at "rs"
      walk_at "rc"
      refine rd_itef (decide_eq_false (by show ¬ k = "not"; rcases hk with rfl | rfl | rfl <;> decide +kernel)) ?_
      walk_at "rc"
      walk_at "rs"
      walk_at "rc"
      refine rd_itef (decide_eq_false (by show ¬ k = "star"; rcases hk with rfl | rfl | rfl <;> decide +kernel)) ?_
      walk_at "rc"
      refine rd_ixT (SqT.of (e1 _ _ h1)) (atI_nat (j := 2) rfl) ?_
      walk_at "rc"
      refine ⟨c, t2, v2, most, rfl, ok2, hv2.kt (.ex e1), by omega, m9, fun p2 bs2 H2 e2 hp2 g2 lb2 => ?_⟩
      have g12 := e2 _ _ g1
      have e12 := e1.trans e2
      have l1 := lb1.1
      have l2 := lb2.1
      walk_at "rc"
      walk_at "rs"
      walk_at "rc"
      rcases hk with rfl | rfl | rfl
      · refine rd_itet (decide_eq_true rfl) ?_
        walk_at "rc"
        refine ⟨Nat.zero_le _, fun pf hpf => ?_⟩
        have e3 := Evl.Ex.new (o := .lst []) hpf
        have g3 : upd H2 pf (.lst []) pf = some (.lst (([] : List Bool).map V.bl)) := upd_same
        have npH := Evl.fresh_back e12 hpf
        have e13 := e12.trans e3
        have np1 : p1 ≠ pf := fun z => by rw [z, hpf] at g12; cases g12
        have np2 : p2 ≠ pf := fun z => by rw [z, hpf] at g2; cases g2
        have g13 := e3 _ _ g12
        have g23 := e3 _ _ g2
        generalize upd H2 pf (.lst []) = H3 at e3 g3 e13 g13 g23
        walk_at "rc"
        walk_at "rs"
        walk_at "rc"
        rw [em]
        refine ⟨_, rfl, by omega, by omega, ?_⟩
        refine fo_range (n := most + 1) (fun i σ H' => ∃ (fs : List Bool) (k4 k8 : Option V), σ = [some (.str ⟨#[c]⟩), some (.ref a), some (.int (most : Int)), some (.str "join"), k4, some (.ref p1), none, some (.ref pf), k8, some (.ref p2)] ∧ Ex H H' ∧ H' p1 = some (.lst (bs1.map V.bl)) ∧ H' p2 = some (.lst (bs2.map V.bl)) ∧ H' pf = some (.lst (fs.map V.bl)) ∧ fs.length = i ∧ ∀ j, j < i → (fs.getD j false = true ↔ Mt (.bi "join" t1 t2) (List.replicate j c)))
          ⟨[], _, _, rfl, e13, g13, g23, g3, rfl, fun j hj => by omega⟩ ?_ ?_
        · rintro i σ H4 hi ⟨fs, k4, k8, rfl, e4, g14, g24, g4, lf, hf⟩
          walk_at "rc"
          refine ⟨.inl ⟨rfl, _, SqL.of g4⟩, ?_⟩
          walk_at "rc"
          rw [show ((i : Nat) : Int) + 1 = ((i + 1 : Nat) : Int) by omega]
          refine ⟨_, rfl, by omega, by omega, ?_⟩
          refine lc_ex (lo := 0) (n := i + 1) (f := fun j => bs1.getD j false && bs2.getD (i - j) false) (by omega) (fun v => rfl) (fun j Hc hj ec N hN => ?_) fun L ns H5 e5 hL g5 hns => ?_
          · have ej : ((0 : Nat) : Int) + ((j : Nat) : Int) = ((0 + j : Nat) : Int) := by omega
            have es : ((i : Nat) : Int) - (((0 : Nat) : Int) + ((j : Nat) : Int)) = ((i - (0 + j) : Nat) : Int) := by omega
            walk_at "rc"
            refine rd_ixL (SqL.of (ec _ _ g14)) (by show atI _ (((0 : Nat) : Int) + ((j : Nat) : Int)) = _; rw [ej]; exact at_bl (by omega)) ?_
            refine ⟨_, rfl, ?_⟩
            refine rd_ite (fun z => ?_) fun z => ?_
            · walk_at "rc"
              refine rd_ixL (SqL.of (ec _ _ g24)) (by show atI _ (((i : Nat) : Int) - (((0 : Nat) : Int) + ((j : Nat) : Int))) = _; rw [es]; exact at_bl (by omega)) ?_
              refine ⟨_, rfl, ?_⟩
              rw [z, Bool.true_and] at hN
              exact hN
            · rw [z, Bool.false_and] at hN
              exact hN
          · walk_at "rc"
            refine ⟨Nat.zero_le _, fun L2 hL2 => ?_⟩
            have e6 := Evl.Ex.new (o := .lst []) hL2
            refine rd_neNil (e6 _ _ g5) upd_same ?_
            walk_at "rc"
            have g46 := e6 _ _ (e5 _ _ g4)
            refine ⟨pf, _, _, rfl, rfl, g46, by rw [List.length_map]; omega, ?_⟩
            refine ⟨fs ++ [!ns.isEmpty], _, _, rfl, Evl.Ex.mut ((e4.trans e5).trans e6) npH, by rw [upd_ne np1]; exact e6 _ _ (e5 _ _ g14), by rw [upd_ne np2]; exact e6 _ _ (e5 _ _ g24), by rw [upd_same, List.map_append]; rfl, by rw [List.length_append, lf]; rfl, fun j hj => ?_⟩
            rcases Nat.lt_or_ge j i with z | z
            · rw [List.getD_eq_getElem?_getD, List.getElem?_append_left (by omega), ← List.getD_eq_getElem?_getD]
              exact hf j (by omega)
            · obtain rfl : j = i := by omega
              rw [List.getD_eq_getElem?_getD, List.getElem?_append_right (by omega), lf, Nat.sub_self]
              show (!ns.isEmpty) = true ↔ _
              rw [hns, mt_join1]
              constructor
              · rintro ⟨x, j1, j2, j3⟩
                rw [Bool.and_eq_true] at j3
                exact ⟨x, by omega, (lb1.2 x (by omega)).mp j3.1, (lb2.2 _ (by omega)).mp j3.2⟩
              · rintro ⟨x, j2, j3, j4⟩
                exact ⟨x, by omega, by omega, Bool.and_eq_true _ _ ▸ ⟨(lb1.2 x (by omega)).mpr j3, (lb2.2 _ (by omega)).mpr j4⟩⟩
        · rintro σ H4 ⟨fs, k4, k8, rfl, e4, g14, g24, g4, lf, hf⟩
          walk_at "rc"
          exact q pf fs H4 e4 npH g4 ⟨lf, fun j hj => hf j (by omega)⟩
      · refine rd_itef (decide_eq_false (by show ¬ ("either" : Str) = "join"; decide +kernel)) ?_
        walk_at "rc"
        walk_at "rs"
        walk_at "rc"
        refine rd_itet (decide_eq_true rfl) ?_
        walk_at "rc"
        rw [em]
        refine ⟨_, rfl, by omega, by omega, ?_⟩
        refine lc_len (t := .bi "either" t1 t2) (f := fun i => bs1.getD i false || bs2.getD i false) rfl m9 (fun i hi => ?_) (fun i Hc hi ec N hN => ?_) fun p bs H' e hp h1 h2 => q p bs H' (e12.trans e) (Evl.fresh_back e12 hp) h1 h2
        · rw [Bool.or_eq_true, Mt.either, lb1.2 i hi, lb2.2 i hi]
        · refine rd_orV ?_
          walk_at "rc"
          refine rd_ixL (SqL.of (ec _ _ g12)) (at_bl (by omega)) ?_
          refine ⟨_, rfl, ?_⟩
          refine rd_ite (fun z => ?_) fun z => ?_
          · rw [z, Bool.true_or] at hN
            exact hN
          · walk_at "rc"
            refine rd_ixL (SqL.of (ec _ _ g2)) (at_bl (by omega)) ?_
            rw [z, Bool.false_or] at hN
            exact hN
      · refine rd_itef (decide_eq_false (by show ¬ ("both" : Str) = "join"; decide +kernel)) ?_
        walk_at "rc"
        walk_at "rs"
        walk_at "rc"
        refine rd_itef (decide_eq_false (by show ¬ ("both" : Str) = "either"; decide +kernel)) ?_
        walk_at "rc"
        rw [em]
        refine ⟨_, rfl, by omega, by omega, ?_⟩
        refine lc_len (t := .bi "both" t1 t2) (f := fun i => bs1.getD i false && bs2.getD i false) rfl m9 (fun i hi => ?_) (fun i Hc hi ec N hN => ?_) fun p bs H' e hp h1 h2 => q p bs H' (e12.trans e) (Evl.fresh_back e12 hp) h1 h2
        · rw [Bool.and_eq_true, Mt.both, lb1.2 i hi, lb2.2 i hi]
        · refine rd_andV ?_
          walk_at "rc"
          refine rd_ixL (SqL.of (ec _ _ g12)) (at_bl (by omega)) ?_
          refine ⟨_, rfl, ?_⟩
          refine rd_ite (fun z => ?_) fun z => ?_
          · walk_at "rc"
            refine rd_ixL (SqL.of (ec _ _ g2)) (at_bl (by omega)) ?_
            rw [z, Bool.true_and] at hN
            exact hN
          · rw [z, Bool.false_and] at hN
            exact hN
theorem ok_lns : ∀ d, FnOk P w K mg base CX0 (d + 2) T.a_lengths T.d_lengths ["letter", "pattern", "most"] (spLn d)
  | 0 => ok_ln T 0 (T.f_lengths.ok sc_lengths (fun vs H Q E h => h.1) (fun cdv A outer s H vs Q E hr h => h.2.elim))
  | d + 1 => ok_ln T (d + 1) (ok_lns d)
theorem ok_lengths : FnOk P w K mg base CX0 10 T.a_lengths T.d_lengths ["letter", "pattern", "most"] (fun vs H Q E => ∃ d, d ≤ 7 ∧ spLn d vs H Q E) := FnOk.exd fun d hd => (ok_lns T d).mono (by omega)
end
section
/-! ### texts of one letter -/
abbrev rep0 (k : Nat) : List Nat := List.replicate k 0
theorem lw_rep {w : Nat} (h : 0 < w) (k : Nat) : Lw w (rep0 k) := fun x hx => by rw [(List.mem_replicate.mp hx).2]; exact h
theorem foldA_app : ∀ (l : List (Array Nat)) (a : Array Nat), (l.foldl (· ++ ·) a).toList = a.toList ++ l.flatMap (·.toList)
  | [], a => by simp
  | b :: l, a => by
    rw [List.foldl_cons, foldA_app l, Array.toList_append, List.flatMap_cons, List.append_assoc]
theorem tx_mul {ls : Str} (h1 : ls.length = 1) (k : Nat) : Txt.mul ls (k : Int) = tx ls (rep0 k) := str_ext (by
  obtain ⟨⟨cs⟩⟩ := ls
  have h1 : cs.length = 1 := h1
  obtain ⟨c, rfl⟩ := List.length_eq_one_iff.mp h1
  rw [tx_list, List.map_replicate]
  show (Txt.mul ⟨⟨[c]⟩⟩ (k : Int)).cps.toList = List.replicate k c
  unfold Txt.mul
  by_cases e0 : (k : Int) < 1
  · rw [if_pos e0]
    obtain rfl : k = 0 := by omega
    rfl
  · rw [if_neg e0]
    by_cases e1 : k = 1
    · subst e1
      rfl
    · have : ¬ (((k : Int) == 1 || (⟨⟨[c]⟩⟩ : Str).length == 0) = true) := fun z => by
        rcases Bool.or_eq_true_iff.mp z with y | y
        · have := eq_of_beq y; omega
        · have y : ((1 : Nat) == 0) = true := y
          cases y
      rw [if_neg this]
      show ((List.replicate (k : Int).toNat (⟨[c]⟩ : Array Nat)).foldl (· ++ ·) #[]).toList = _
      rw [foldA_app, Int.toNat_natCast]
      clear this e1 e0
      induction k with
      | zero => rfl
      | succ k ih =>
        have ih : (List.replicate k (⟨[c]⟩ : Array Nat)).flatMap (·.toList) = List.replicate k c := ih
        show (List.replicate (k + 1) (⟨[c]⟩ : Array Nat)).flatMap (·.toList) = List.replicate (k + 1) c
        rw [List.replicate_succ, List.flatMap_cons, ih]
        rfl)
theorem mulOk1 {ls : Str} (h1 : ls.length = 1) {k : Nat} (hk : k ≤ 100) : MulOk ls (k : Int) := by
  refine ⟨?_, fun h h2 => ?_, fun h h2 => ?_⟩
  · rw [decide_eq_false (by omega), decide_eq_false (by omega)]; rfl
  · rw [h1]
    have hk1 : 1 ≤ k := by omega
    have : (100 : Int) ≤ (2 ^ 63 - 1) / (k : Int) := by
      rw [Int.le_ediv_iff_mul_le (by omega)]
      have : (100 : Int) * (k : Int) ≤ 100 * 100 := by omega
      omega
    omega
  · rw [h1, Nat.one_mul, Int.toNat_natCast]
    have : k ≤ sizeLine := Nat.le_trans hk (by decide)
    show decide (k > sizeLine) = false
    exact decide_eq_false (by omega)
theorem mul1_list (c k : Nat) : (Txt.mul (⟨#[c]⟩ : Str) (k : Int)).cps.toList = List.replicate k c := by
  rw [tx_mul rfl, tx_list, List.map_replicate]
  rfl
theorem mul1_len (c k : Nat) : (Txt.mul (⟨#[c]⟩ : Str) (k : Int)).length = k := by
  show (Txt.mul (⟨#[c]⟩ : Str) (k : Int)).cps.toList.length = k
  rw [mul1_list, List.length_replicate]
end
section
/-! ### rows of one letter -/
def c1 (c : Nat) : Pt := .one ⟨#[c]⟩
def rowP (c : Nat) : Nat → Pt
  | 0 => .nul "empty"
  | n + 1 => .bi "join" (rowP c n) (c1 c)
def tailP (c : Nat) : Nat → Pt
  | 0 => .nul "empty"
  | n + 1 => .bi "join" (c1 c) (tailP c n)
theorem mt_c1 {c : Nat} {u : List Nat} : Mt (c1 c) u ↔ u = [c] := by
  refine Mt.one.trans ⟨?_, fun h => ⟨c, List.mem_singleton.mpr rfl, h⟩⟩
  rintro ⟨c', h1, h2⟩
  rw [List.mem_singleton.mp h1] at h2
  exact h2
theorem mt_row {c : Nat} : ∀ {n : Nat} {u : List Nat}, Mt (rowP c n) u ↔ u = List.replicate n c
  | 0, u => Mt.empty
  | n + 1, u => by
    refine Mt.join.trans ⟨?_, ?_⟩
    · rintro ⟨i, _, h1, h2⟩
      rw [← List.take_append_drop i u, mt_row.mp h1, mt_c1.mp h2, List.replicate_succ']
    · rintro rfl
      refine ⟨n, by rw [List.length_replicate]; omega, mt_row.mpr ?_, mt_c1.mpr ?_⟩
      · rw [List.take_replicate, Nat.min_eq_left (Nat.le_succ n)]
      · rw [List.drop_replicate, Nat.add_sub_cancel_left]; rfl
theorem mt_tail {c : Nat} : ∀ {n : Nat} {u : List Nat}, Mt (tailP c n) u ↔ u = List.replicate n c
  | 0, u => Mt.empty
  | n + 1, u => by
    refine Mt.join.trans ⟨?_, ?_⟩
    · rintro ⟨i, _, h1, h2⟩
      rw [← List.take_append_drop i u, mt_c1.mp h1, mt_tail.mp h2]
      rfl
    · rintro rfl
      refine ⟨1, by rw [List.length_replicate]; omega, mt_c1.mpr ?_, mt_tail.mpr ?_⟩
      · rw [List.take_replicate, Nat.min_eq_left (by omega)]; rfl
      · rw [List.drop_replicate, Nat.add_sub_cancel]
theorem rep_inj {n m c : Nat} (h : List.replicate n c = List.replicate m c) : n = m := by
  have := congrArg List.length h
  rwa [List.length_replicate, List.length_replicate] at this
theorem star_row {c s : Nat} (s0 : 0 < s) : ∀ n, Star (Mt (rowP c s)) (List.replicate n c) ↔ n % s = 0 := by
  intro n
  induction n using Nat.strongRecOn with
  | _ n ih =>
    rw [star1]
    constructor
    · rintro (rfl | ⟨j, j0, j1, h1, h2⟩)
      · exact Nat.zero_mod s
      · have e := rep_inj (mt_row.mp h1)
        subst e
        have := (ih (n - j) (by omega)).mp h2
        rw [← Nat.mod_eq_sub_mod j1] at this
        exact this
    · intro h
      rcases Nat.eq_zero_or_pos n with z | z
      · exact .inl z
      · have hs : s ≤ n := Nat.le_of_dvd z (Nat.dvd_of_mod_eq_zero h)
        refine .inr ⟨s, s0, hs, mt_row.mpr rfl, (ih (n - s) (by omega)).mpr ?_⟩
        rw [← Nat.mod_eq_sub_mod hs]
        exact h
theorem mt_long {c s m L : Nat} (s0 : 0 < s) : Mt (.bi "join" (.un "star" (rowP c s)) (tailP c m)) (List.replicate L c) ↔ m ≤ L ∧ (L - m) % s = 0 := by
  rw [mt_join1]
  constructor
  · rintro ⟨j, j1, h1, h2⟩
    have e := rep_inj (mt_tail.mp h2)
    have h3 := (star_row s0 j).mp (Mt.star.mp h1)
    refine ⟨by omega, ?_⟩
    rw [show L - m = j by omega]
    exact h3
  · rintro ⟨h1, h2⟩
    exact ⟨L - m, by omega, Mt.star.mpr ((star_row s0 _).mpr h2), mt_tail.mpr (by rw [show L - (L - m) = m by omega])⟩
theorem c1_ok (c : Nat) : (c1 c).ok := by show (⟨#[c]⟩ : Str).length ≤ 100; show 1 ≤ 100; decide
theorem row_ok (c : Nat) : ∀ n, (rowP c n).ok ∧ (rowP c n).size ≤ 2 * n + 1
  | 0 => ⟨.inr rfl, Nat.le_refl _⟩
  | n + 1 => ⟨⟨.inl rfl, (row_ok c n).1, c1_ok c⟩, by have := (row_ok c n).2; show (rowP c n).size + 1 + 1 ≤ _; omega⟩
theorem tail_ok (c : Nat) : ∀ n, (tailP c n).ok ∧ (tailP c n).size ≤ 2 * n + 1
  | 0 => ⟨.inr rfl, Nat.le_refl _⟩
  | n + 1 => ⟨⟨.inl rfl, c1_ok c, (tail_ok c n).1⟩, by have := (tail_ok c n).2; show 1 + (tailP c n).size + 1 ≤ _; omega⟩
end
section
variable (T : Txt K mg)
def spLg : Sp := fun vs H Q _ => ∃ (p : Addr) (ls : Str), vs = [.str ls, .ref p] ∧ Alpha ls 3 ∧ StAt H p ∧ ∀ H', Q (.bl true) H'
theorem ok_long : FnOk P w K mg base CX0 5 T.a_long T.d_long ["letters", "state"] spLg := by
  refine T.f_long.ok sc_long (fun vs H Q E h => ?_) (fun cdv A outer s H vs Q E hr h => ?_)
  · obtain ⟨_, _, rfl, _⟩ := h; rfl
  · obtain ⟨p, ls, rfl, al, hS, q⟩ := h
    have sz : 1000000 ≤ sizeLine := by decide
    have l0 := al.l0
    have l1 := al.l1
    have lz : ls.length ≤ sizeLine := by omega
    obtain ⟨c0, hc0⟩ : ∃ c, ls.cps.toList[0]? = some c := ⟨_, List.getElem?_eq_getElem (by show 0 < ls.length; omega)⟩
    refine ⟨_, (pss_cons (ps_set (i := 2) sc_long.nd rfl (by first | exact Or.inl rfl | exact Or.inr rfl) (pe_tup (pa_cons pe_str (pa_cons (pe_ix (kIx K) (pv 0) pe_int (fun _ _ => rfl)) pa_nil))))
  (pss_cons (ps_set (i := 3) sc_long.nd rfl (by first | exact Or.inl rfl | exact Or.inr rfl) (pe_op (kAdd K) pe_int (pe_callE (ok_next T) (hr.mono (by decide)) T.o_next (pa_cons (pv 1) (pa_cons pe_int pa_nil)))))
  (pss_cons (ps_set (i := 4) sc_long.nd rfl (by first | exact Or.inl rfl | exact Or.inr rfl) (pe_callE (ok_next T) (hr.mono (by decide)) T.o_next (pa_cons (pv 1) (pa_cons pe_int pa_nil))))
  (pss_cons (ps_set (i := 5) sc_long.nd rfl (by first | exact Or.inl rfl | exact Or.inr rfl) (pe_tup (pa_cons pe_str pa_nil)))
  (pss_cons (ps_for PassesOwn.never rfl (pi_range1 (by rfl) T.nb_range (pa_cons (pv 3) pa_nil)) (pg_name (i := 6) sc_long.nd rfl (by first | exact Or.inl rfl | exact Or.inr rfl))
    (pss_one (ps_set (i := 5) sc_long.nd rfl (by first | exact Or.inl rfl | exact Or.inr rfl) (pe_tup (pa_cons pe_str (pa_cons (pv 5) (pa_cons (pv 2) pa_nil)))))))
  (pss_cons (ps_set (i := 7) sc_long.nd rfl (by first | exact Or.inl rfl | exact Or.inr rfl) (pe_tup (pa_cons pe_str pa_nil)))
  (pss_cons (ps_for PassesOwn.never rfl (pi_range1 (by rfl) T.nb_range (pa_cons (pv 4) pa_nil)) (pg_name (i := 6) sc_long.nd rfl (by first | exact Or.inl rfl | exact Or.inr rfl))
    (pss_one (ps_set (i := 7) sc_long.nd rfl (by first | exact Or.inl rfl | exact Or.inr rfl) (pe_tup (pa_cons pe_str (pa_cons (pv 2) (pa_cons (pv 7) pa_nil)))))))
  (pss_cons (ps_set (i := 8) sc_long.nd rfl (by first | exact Or.inl rfl | exact Or.inr rfl) (pe_tup (pa_cons pe_str (pa_cons (pe_tup (pa_cons pe_str (pa_cons (pv 5) pa_nil))) (pa_cons (pv 7) pa_nil)))))
  (pss_cons (ps_for PassesOwn.never rfl (kAny K rfl (pe_lst (pa_cons pe_int (pa_cons (pv 4) (pa_cons (pe_op (kAdd K) (pv 4) (pv 3)) (pa_cons (pe_op (kAdd K) (pe_op (kAdd K) (pv 4) (pv 3)) pe_int) (pa_cons pe_int (pa_cons (pe_op (kAdd K) pe_int (pe_callE (ok_next T) (hr.mono (by decide)) T.o_next (pa_cons (pv 1) (pa_cons pe_int pa_nil)))) pa_nil)))))))) (pg_name (i := 9) sc_long.nd rfl (by first | exact Or.inl rfl | exact Or.inr rfl))
    (pss_cons (ps_set (i := 10) sc_long.nd rfl (by first | exact Or.inl rfl | exact Or.inr rfl) (pe_and (pe_cmpR op_geP (pv 9) (pv 4) (by first | rfl | exact nomark _)) (pe_one (pe_cmpR (kEq K rfl hr.units) (pe_op op_modP (pe_callTy call_intP (by rfl) T.nb_int (by decide +kernel) (pa_cons (pe_op op_subP (pv 9) (pv 4)) pa_nil)) (pv 3)) pe_int (by first | rfl | exact nomark _)))))
  (pss_one (ps_if (pt_cmpR (kNe K rfl hr.units) (pe_callE (ok_belongs T) (hr.mono (by decide)) T.o_belongs (pa_cons (pv 8) (pa_cons (pe_op op_mulPP (pe_ix (kIx K) (pv 0) pe_int (fun _ _ => rfl)) (pv 9)) pa_nil))) (pv 10) (by first | rfl | exact nomark _))
    (pss_one (ps_ret pe_bl))
    pss_nil))))
  (pss_one (ps_ret pe_bl))))))))))), ?_⟩
    walk_at "rc"
    refine rd_ixS lz (atI_nat (j := 0) hc0) ?_
    walk_at "rc"
    refine ⟨by show 2 ≤ sizeLine; decide, fun a1 ha1 => ?_⟩
    have e1 := Evl.Ex.new (o := .tup [.str (Str.ofString "one"), .str ⟨#[c0]⟩]) ha1
    have g1 : PtV (upd H a1 (.tup [.str (Str.ofString "one"), .str ⟨#[c0]⟩])) (.one ⟨#[c0]⟩) (.ref a1) := ⟨a1, rfl, upd_same⟩
    generalize upd H a1 (.tup [.str (Str.ofString "one"), .str ⟨#[c0]⟩]) = H1 at e1 g1
    walk_at "rc"
    refine ⟨p, 5, rfl, by decide, hS.ex e1, fun r H2 r0 r1 S2 o2 i2 => ?_⟩
    have d2 : Dr p H1 H2 := ⟨S2, o2, i2.2⟩
    have g1 := g1.kt (d2.kt (hS.ex e1))
    obtain ⟨r, rfl⟩ := Int.eq_ofNat_of_zero_le r0
    walk_at "rc"
    refine ⟨p, 4, rfl, by decide, d2.st, fun m H3 m0 m1 S3 o3 i3 => ?_⟩
    have d3 : Dr p H2 H3 := ⟨S3, o3, i3.2⟩
    have g1 := g1.kt (d3.kt S2)
    obtain ⟨m, rfl⟩ := Int.eq_ofNat_of_zero_le m0
    walk_at "rc"
    refine ⟨by show 1 ≤ sizeLine; decide, fun a2 ha2 => ?_⟩
    have e4 := Evl.Ex.new (o := .tup [.str (Str.ofString "empty")]) ha2
    have g2 : PtV (upd H3 a2 (.tup [.str (Str.ofString "empty")])) (.nul "empty") (.ref a2) := ⟨a2, rfl, upd_same⟩
    have S4 := S3.ex e4
    have g1 := g1.kt (.ex e4)
    generalize upd H3 a2 (.tup [.str (Str.ofString "empty")]) = H4 at e4 g2 S4 g1
    walk_at "rc"
    walk_at "rs"
    walk_at "rc"
    rw [show (2 : Int) + (r : Int) = ((r + 2 : Nat) : Int) by omega]
    refine ⟨_, rfl, by omega, by omega, ?_⟩
    refine fo_range (n := r + 2) (fun i σ H' => ∃ (v : V) (k6 : Option V), σ = [some (.str ls), some (.ref p), some (.ref a1), some (.int ((r + 2 : Nat) : Int)), some (.int (m : Int)), some v, k6, none, none, none, none] ∧ Ex H4 H' ∧ PtV H' (rowP c0 i) v)
      ⟨_, _, rfl, Evl.Ex.refl _, g2⟩ ?_ ?_
    · rintro i σ H5 hi ⟨v, k6, rfl, e5, gv⟩
      walk_at "rc"
      refine ⟨by show 3 ≤ sizeLine; decide, fun a ha => ?_⟩
      have e6 := Evl.Ex.new (o := .tup [.str (Str.ofString "join"), v, .ref a1]) ha
      exact ⟨_, _, rfl, e5.trans e6, a, v, .ref a1, rfl, upd_same, gv.kt (.ex e6), g1.kt (.ex (e5.trans e6))⟩
    · rintro σ H5 ⟨v5, k6, rfl, e5, gv5⟩
      have g1 := g1.kt (.ex e5)
      have S5 := S4.ex e5
      walk_at "rc"
      refine ⟨by show 1 ≤ sizeLine; decide, fun a3 ha3 => ?_⟩
      have e6 := Evl.Ex.new (o := .tup [.str (Str.ofString "empty")]) ha3
      have g3 : PtV (upd H5 a3 (.tup [.str (Str.ofString "empty")])) (.nul "empty") (.ref a3) := ⟨a3, rfl, upd_same⟩
      have S6 := S5.ex e6
      have g1 := g1.kt (.ex e6)
      have gv5 := gv5.kt (.ex e6)
      generalize upd H5 a3 (.tup [.str (Str.ofString "empty")]) = H6 at e6 g3 S6 g1 gv5
      walk_at "rc"
      walk_at "rs"
      walk_at "rc"
      refine ⟨_, rfl, by omega, by omega, ?_⟩
      refine fo_range (n := m) (fun i σ H' => ∃ (v : V) (k6 : Option V), σ = [some (.str ls), some (.ref p), some (.ref a1), some (.int ((r + 2 : Nat) : Int)), some (.int (m : Int)), some v5, k6, some v, none, none, none] ∧ Ex H6 H' ∧ PtV H' (tailP c0 i) v)
        ⟨_, _, rfl, Evl.Ex.refl _, g3⟩ ?_ ?_
      · rintro i σ H7 hi ⟨v, k6, rfl, e7, gv⟩
        walk_at "rc"
        refine ⟨by show 3 ≤ sizeLine; decide, fun a ha => ?_⟩
        have e8 := Evl.Ex.new (o := .tup [.str (Str.ofString "join"), .ref a1, v]) ha
        exact ⟨_, _, rfl, e7.trans e8, a, .ref a1, v, rfl, upd_same, g1.kt (.ex (e7.trans e8)), gv.kt (.ex e8)⟩
      · rintro σ H7 ⟨v7, k6', rfl, e7, gv7⟩
        have S7 := S6.ex e7
        have gv5 := gv5.kt (.ex e7)
        walk_at "rc"
        refine ⟨by show 2 ≤ sizeLine; decide, fun a4 ha4 => ?_⟩
        have e8 := Evl.Ex.new (o := .tup [.str (Str.ofString "star"), v5]) ha4
        have g4 : PtV (upd H7 a4 (.tup [.str (Str.ofString "star"), v5])) (.un "star" (rowP c0 (r + 2))) (.ref a4) := ⟨a4, v5, rfl, upd_same, gv5.kt (.ex e8)⟩
        have S8 := S7.ex e8
        have gv7 := gv7.kt (.ex e8)
        generalize upd H7 a4 (.tup [.str (Str.ofString "star"), v5]) = H8 at e8 g4 S8 gv7
        walk_at "rc"
        refine ⟨by show 3 ≤ sizeLine; decide, fun a5 ha5 => ?_⟩
        have e9 := Evl.Ex.new (o := .tup [.str (Str.ofString "join"), .ref a4, v7]) ha5
        have g5 : PtV (upd H8 a5 (.tup [.str (Str.ofString "join"), .ref a4, v7])) (.bi "join" (.un "star" (rowP c0 (r + 2))) (tailP c0 m)) (.ref a5) := ⟨a5, .ref a4, v7, rfl, upd_same, g4.kt (.ex e9), gv7.kt (.ex e9)⟩
        have S9 := S8.ex e9
        generalize upd H8 a5 (.tup [.str (Str.ofString "join"), .ref a4, v7]) = H9 at e9 g5 S9
        walk_at "rc"
        walk_at "rs"
        walk_at "rc"
        refine rd_anyL' ?_
        walk_at "rc"
        refine ⟨p, 8, rfl, by decide, S9, fun r8 HA r80 r81 SA oA iA => ?_⟩
        have dA : Dr p H9 HA := ⟨SA, oA, iA.2⟩
        have g5 := g5.kt (dA.kt S9)
        obtain ⟨r8, rfl⟩ := Int.eq_ofNat_of_zero_le r80
        walk_at "rc"
        refine ⟨by show 6 ≤ sizeLine; decide, fun pl hpl => ?_⟩
        have hxs : ∀ x ∈ [V.int 0, V.int (m : Int), V.int ((m : Int) + ((r + 2 : Nat) : Int)), V.int ((m : Int) + ((r + 2 : Nat) : Int) + 1), V.int 12, V.int (15 + (r8 : Int))], ∃ L : Nat, L ≤ 100 ∧ x = .int (L : Int) := fun x hx => by
          simp only [List.mem_cons, List.not_mem_nil, or_false] at hx
          rcases hx with rfl | rfl | rfl | rfl | rfl | rfl
          · exact ⟨0, by omega, rfl⟩
          · exact ⟨m, by omega, rfl⟩
          · exact ⟨m + (r + 2), by omega, by congr 1⟩
          · exact ⟨m + (r + 2) + 1, by omega, by congr 1⟩
          · exact ⟨12, by omega, rfl⟩
          · exact ⟨15 + r8, by omega, by congr 1⟩
        generalize [V.int 0, V.int (m : Int), V.int ((m : Int) + ((r + 2 : Nat) : Int)), V.int ((m : Int) + ((r + 2 : Nat) : Int) + 1), V.int 12, V.int (15 + (r8 : Int))] = xs at hxs
        have eB := Evl.Ex.new (o := .lst xs) hpl
        have gB : upd HA pl (.lst xs) pl = some (.lst xs) := upd_same
        have g5 := g5.kt (.ex eB)
        generalize upd HA pl (.lst xs) = HB at eB gB g5
        refine ⟨pl, rfl, ⟨_, SqL.of gB⟩, ?_⟩
        refine fo_list (a := pl) (xs := xs) (fun i σ H' => ∃ (k9 k10 : Option V), σ = [some (.str ls), some (.ref p), some (.ref a1), some (.int ((r + 2 : Nat) : Int)), some (.int (m : Int)), some v5, k6', some v7, some (.ref a5), k9, k10] ∧ Ex HB H')
          ⟨_, _, rfl, Evl.Ex.refl _⟩ (fun i σ H' _ hh => ?_) ?_ ?_
        · obtain ⟨_, _, _, h⟩ := hh
          exact SqL.of (h _ _ gB)
        · rintro i x σ HC hx ⟨k9, k10, rfl, eC⟩
          obtain ⟨L, hL, rfl⟩ := hxs x (List.mem_of_getElem? hx)
          have g5 := g5.kt (.ex eC)
          refine rd_gn ?_
          dsimp only
          walk_at "rs"
          refine rd_asg ?_
          refine rd_vcut (fun y H' => ∃ b, y = .bl b ∧ H' = HC ∧ (b = true ↔ m ≤ L ∧ (L - m) % (r + 2) = 0)) (fun Q' hQ => ?_) ?_
          · refine rd_andV ?_
            walk_at "rc"
            refine rd_iteD (fun z => ?_) fun z => ?_
            · walk_at "rc"
              have e1 : (L : Int) - (m : Int) = ((L - m : Nat) : Int) := by omega
              rw [e1]
              refine rd_modI (by omega) ?_
              have e2 : Int.fmod ((L - m : Nat) : Int) ((r + 2 : Nat) : Int) = (((L - m) % (r + 2) : Nat) : Int) := by
                rw [Int.fmod_eq_emod_of_nonneg _ (by omega), Int.natCast_emod]
              rw [e2]
              walk_at "rc"
              refine hQ _ _ ⟨_, rfl, rfl, ?_⟩
              rw [decide_eq_true_iff]
              constructor
              · intro h
                exact ⟨by omega, by omega⟩
              · rintro ⟨_, h⟩
                omega
            · exact hQ _ _ ⟨false, rfl, rfl, (nomatch ·), fun h => absurd h.1 (by omega)⟩
          · rintro y H' ⟨b, rfl, rfl, hb⟩
            walk_at "rc"
            refine rd_ixS lz (atI_nat (j := 0) hc0) ?_
            walk_at "rc"
            refine rd_mulT (mulOk1 rfl hL) ?_
            walk_at "rc"
            have hk : (Pt.bi "join" (.un "star" (rowP c0 (r + 2))) (tailP c0 m)).ok := ⟨.inl rfl, ⟨.inr rfl, (row_ok c0 _).1⟩, (tail_ok c0 _).1⟩
            have hz : (Pt.bi "join" (.un "star" (rowP c0 (r + 2))) (tailP c0 m)).size ≤ 10000 := by
              have h1 := (row_ok c0 (r + 2)).2
              have h2 := (tail_ok c0 m).2
              show (rowP c0 (r + 2)).size + 1 + (tailP c0 m).size + 1 ≤ _
              omega
            refine ⟨_, _, _, rfl, hk, g5, hz, by rw [mul1_len]; omega, fun b2 HD hb2 eD => ?_⟩
            rw [mul1_list, mt_long (by omega)] at hb2
            have eb : b2 = b := Bool.eq_iff_iff.mpr (hb2.trans hb.symm)
            subst eb
            walk_at "rc"
            refine rd_neB ?_
            rw [bne_self_eq_false]
            refine ⟨_, rfl, ?_⟩
            refine rd_iteF ?_
            walk_at "rc"
            exact ⟨_, _, rfl, eC.trans eD⟩
        · rintro σ HC ⟨k9, k10, rfl, eC⟩
          walk_at "rc"
          exact q _
end
section
variable (T : Txt K mg)
abbrev lvLaw := 11
def spLaw (K : PySem.W.Frag) : Sp := fun vs H Q _ => ∃ (a : Addr) (ns : List Int), vs = [.ref a] ∧ SqL K H a (ns.map V.int) ∧ ns.length ≤ 63 ∧ ∀ H', Q (.bl true) H'
theorem ok_law : FnOk P w K mg base CX0 lvLaw T.a_law T.d_law ["script"] (spLaw K) := by
  refine T.f_law.ok sc_law (fun vs H Q E h => ?_) (fun cdv A outer s H vs Q E hr h => ?_)
  · obtain ⟨_, _, rfl, _⟩ := h; rfl
  · obtain ⟨a, ns, rfl, hs, hn, q⟩ := h
    have sz : 12000000 ≤ sizeLine := by decide
    refine ⟨_, (pss_cons (ps_set (i := 1) sc_law.nd rfl (by first | exact Or.inl rfl | exact Or.inr rfl) (pe_callE (ok_state T) (hr.mono (by decide)) T.o_state (pa_cons (pv 0) (pa_cons pe_int (pa_cons pe_int pa_nil)))))
  (pss_cons (ps_set (i := 2) sc_law.nd rfl (by first | exact Or.inl rfl | exact Or.inr rfl) (pe_callE (ok_letters T) (hr.mono (by decide)) T.o_letters (pa_cons (pv 1) (pa_cons pe_int pa_nil))))
  (pss_cons (ps_set (i := 3) sc_law.nd rfl (by first | exact Or.inl rfl | exact Or.inr rfl) (pe_ifExp (pt_cmpR (kEq K rfl hr.units) (pe_callB (kLen K) (by rfl) T.nb_len (by decide +kernel) (pa_cons (pv 2) pa_nil)) pe_int (by first | rfl | exact nomark _)) pe_int pe_int))
  (pss_cons (ps_for PassesOwn.never rfl (pi_range1 (by rfl) T.nb_range (pa_cons pe_int pa_nil)) (pg_name (i := 4) sc_law.nd rfl (by first | exact Or.inl rfl | exact Or.inr rfl))
    (pss_cons (ps_set (i := 5) sc_law.nd rfl (by first | exact Or.inl rfl | exact Or.inr rfl) (pe_callE (ok_pattern T) (hr.mono (by decide)) T.o_pattern (pa_cons (pv 2) (pa_cons (pv 1) (pa_cons (pe_op (kAdd K) pe_int (pe_callE (ok_next T) (hr.mono (by decide)) T.o_next (pa_cons (pv 1) (pa_cons pe_int pa_nil)))) pa_nil)))))
  (pss_cons (ps_set (i := 6) sc_law.nd rfl (by first | exact Or.inl rfl | exact Or.inr rfl) (pe_callE (ok_meaning T) (hr.mono (by decide)) T.o_meaning (pa_cons (pv 2) (pa_cons (pv 5) (pa_cons (pv 3) pa_nil)))))
  (pss_cons (ps_for PassesOwn.never rfl (kAny K rfl (pe_callE (ok_texts T) (hr.mono (by decide)) T.o_texts (pa_cons (pv 2) (pa_cons (pv 3) pa_nil)))) (pg_name (i := 7) sc_law.nd rfl (by first | exact Or.inl rfl | exact Or.inr rfl))
    (pss_one (ps_if (pt_cmpR (kNe K rfl hr.units) (pe_callB call_reprP (by rfl) T.nb_repr (by decide +kernel) (pa_cons (pe_callE (ok_belongs T) (hr.mono (by decide)) T.o_belongs (pa_cons (pv 5) (pa_cons (pv 7) pa_nil))) pa_nil)) (pe_callB call_reprP (by rfl) T.nb_repr (by decide +kernel) (pa_cons (pe_cmp (pc_din (hu_of hr) (pv 7) (pv 6)) rfl) pa_nil)) (by first | rfl | exact nomark _))
    (pss_one (ps_ret pe_bl))
    pss_nil)))
  (pss_one (ps_for PassesOwn.never rfl (kAny K rfl (pv 2)) (pg_name (i := 8) sc_law.nd rfl (by first | exact Or.inl rfl | exact Or.inr rfl))
    (pss_one (ps_if (pt_cmpR (kNe K rfl hr.units) (pe_callE (ok_belongs T) (hr.mono (by decide)) T.o_belongs (pa_cons (pv 5) (pa_cons (pe_op op_mulPP (pv 8) pe_int) pa_nil))) (pe_ix (kIx K) (pe_callE (ok_lengths T) (hr.mono (by decide)) T.o_lengths (pa_cons (pv 8) (pa_cons (pv 5) (pa_cons pe_int pa_nil)))) pe_int (fun _ _ => rfl)) (by first | rfl | exact nomark _))
    (pss_one (ps_ret pe_bl))
    pss_nil))))))))
  (pss_one (ps_ret (pe_callE (ok_long T) (hr.mono (by decide)) T.o_long (pa_cons (pv 2) (pa_cons (pv 1) pa_nil))))))))), ?_⟩
    walk_at "rc"
    refine ⟨a, ns, 0, 6, rfl, hs, by decide, by decide, by decide, by decide, fun p H1 hp e1 S1 => ?_⟩
    walk_at "rc"
    refine ⟨p, 3, rfl, by decide, by decide, S1, fun L H2 al d2 => ?_⟩
    have S2 := d2.st
    clear hp e1
    have ll := al.l1
    have l0 := al.l0
    have lz : L.length ≤ sizeLine := by omega
    refine rd_gn ?_
    dsimp only
    walk_at "rs"
    refine rd_asg ?_
    refine rd_vcut (fun y H' => ∃ most : Nat, y = .int (most : Int) ∧ H' = H2 ∧ 1 ≤ most ∧ most ≤ 9 ∧ (rowsW L.length most).length ≤ 200) (fun Q' hQ => ?_) ?_
    · refine rd_ife ?_
      walk_at "rc"
      refine rd_lenS lz ?_
      walk_at "rc"
      refine rd_iteD (fun z => ?_) fun z => ?_
      · walk_at "rc"
        refine hQ _ _ ⟨3, rfl, rfl, by decide, by decide, ?_⟩
        rw [show L.length = 3 by omega]
        decide +kernel
      · walk_at "rc"
        refine hQ _ _ ⟨5, rfl, rfl, by decide, by decide, ?_⟩
        have h : L.length = 1 ∨ L.length = 2 := by omega
        rcases h with h | h <;> (rw [h]; decide +kernel)
    rintro y H3 ⟨most, rfl, rfl, m1, m9, rl⟩
    walk_at "rc"
    walk_at "rs"
    walk_at "rc"
    refine ⟨2, rfl, by decide, by decide, ?_⟩
    refine fo_range (n := 2) (fun i σ H' => ∃ k4 k5 k6 k7 k8, σ = [some (.ref a), some (.ref p), some (.str L), some (.int (most : Int)), k4, k5, k6, k7, k8] ∧ Dr p H3 H')
      ⟨_, _, _, _, _, rfl, Dr.refl S2⟩ ?_ ?_
    · rintro i σ H4 hi ⟨k4, k5, k6, k7, k8, rfl, d4⟩
      walk_at "rc"
      refine ⟨p, 4, rfl, by decide, d4.st, fun r H5 r0 r1 S5 o5 i5 => ?_⟩
      have d5 := d4.trans ⟨S5, o5, i5.2⟩
      obtain ⟨r, rfl⟩ := Int.eq_ofNat_of_zero_le r0
      have er : (1 : Int) + (r : Int) = ((r + 1 : Nat) : Int) := by omega
      walk_at "rc"
      rw [er]
      have hp7 : 2 ^ (r + 1 + 1) ≤ 128 := by
        have h : r + 1 + 1 ≤ 7 := by omega
        exact Nat.pow_le_pow_right (by decide) h
      refine ⟨r + 1, by omega, p, L, rfl, al, d5.st, fun v t H6 hv lp dp sz6 dr => ?_⟩
      have d6 := d5.trans dr
      have hok : t.ok := lp.ok (by omega)
      walk_at "rc"
      refine ⟨r + 1, by omega, L, t, v, most, rfl, al, hv, lp, dp, m1, m9, rl, fun D R H7 e7 hD g7 tR mR => ?_⟩
      have d7 := d6.ex e7
      have hv := hv.kt (.ex e7)
      walk_at "rc"
      walk_at "rs"
      walk_at "rc"
      refine rd_anyL' ?_
      walk_at "rc"
      refine ⟨L, most, 3, rfl, ll, by decide, by decide, m9, fun pt H8 e8 g8 => ⟨pt, rfl, ⟨_, SqL.of g8⟩, ?_⟩⟩
      have d8 := d7.ex e8
      have hv := hv.kt (.ex e8)
      have g78 := e8 _ _ g7
      have wlen : (((rowsW L.length most).map (tx L)).map V.str).length = (rowsW L.length most).length := by rw [List.length_map, List.length_map]
      refine fo_list (a := pt) (xs := ((rowsW L.length most).map (tx L)).map V.str) (fun i' σ H' => ∃ k7 : Option V, σ = [some (.ref a), some (.ref p), some (.str L), some (.int (most : Int)), some (.int (i : Int)), some v, some (.ref D), k7, k8] ∧ Ex H8 H')
        ⟨_, rfl, Evl.Ex.refl _⟩ (fun i' σ H' _ hh => ?_) ?_ ?_
      · obtain ⟨_, _, h⟩ := hh
        exact SqL.of (h _ _ g8)
      · rintro i' x σ H9 hx ⟨k7, rfl, e9⟩
        rw [List.getElem?_map, List.getElem?_map] at hx
        obtain ⟨s1, hs1, rfl⟩ := Option.map_eq_some_iff.mp hx
        obtain ⟨u, hu, rfl⟩ := Option.map_eq_some_iff.mp hs1
        obtain ⟨lu, lul⟩ := mem_rowsW.mp (List.mem_of_getElem? hu)
        walk_at "rc"
        refine ⟨t, v, tx L u, rfl, hok, hv.kt (.ex e9), by omega, by rw [tx_len]; omega, fun b H10 hb e10 => ?_⟩
        have eb : b = decide (u ∈ R) := Bool.eq_iff_iff.mpr (by
          rw [hb, decide_eq_true_iff, mR u]
          exact ml_tx.trans ⟨fun h => ⟨lu, lul, h⟩, fun h => h.2.2⟩)
        subst eb
        walk_at "rc"
        refine rd_reprB ?_
        walk_at "rc"
        refine ⟨D, _, rfl, DGet.k (k := .inr (tx L u)) ((e9.trans e10) _ _ g78), ?_⟩
        rw [valV_mk al.nd lu tR.w]
        walk_at "rc"
        have eo : (if u ∈ R then some (V.bl true) else none).isSome = decide (u ∈ R) := by
          by_cases h : u ∈ R
          · rw [if_pos h, decide_eq_true h]; rfl
          · rw [if_neg h, decide_eq_false h]; rfl
        rw [eo]
        refine rd_reprB ?_
        walk_at "rc"
        refine rd_iteN (fun h => absurd rfl h) fun _ => ?_
        walk_at "rc"
        exact ⟨_, rfl, e9.trans e10⟩
      · rintro σ H9 ⟨k7, rfl, e9⟩
        have d9 := d8.ex e9
        have hv := hv.kt (.ex e9)
        walk_at "rc"
        refine rd_anyS (fun Q q => ⟨_, rfl, q⟩) ?_
        refine fo_str (fun i' σ H' => ∃ k8 : Option V, σ = [some (.ref a), some (.ref p), some (.str L), some (.int (most : Int)), some (.int (i : Int)), some v, some (.ref D), k7, k8] ∧ Ex H9 H') ⟨_, rfl, Evl.Ex.refl _⟩ ?_ ?_
        · rintro i' c σ H10 hc ⟨k8, rfl, e10⟩
          have hv := hv.kt (.ex e10)
          walk_at "rc"
          refine rd_mulT (mulOk1 (k := 7) rfl (by decide)) ?_
          walk_at "rc"
          refine ⟨t, v, _, rfl, hok, hv, by omega, by rw [show (Txt.mul (⟨#[c]⟩ : Str) 7).length = 7 from mul1_len c 7]; decide, fun b H11 hb e11 => ?_⟩
          walk_at "rc"
          refine ⟨r + 1, by omega, c, t, v, 7, rfl, hok, hv.kt (.ex e11), dp, by decide, fun pb bs H12 e12 hpb gb lb => ?_⟩
          refine rd_ixL (SqL.of gb) (at_bl (k := 7) (by rw [lb.1]; decide)) ?_
          have eb : b = bs.getD 7 false := Bool.eq_iff_iff.mpr (hb.trans (by rw [lb.2 7 (Nat.le_refl _)]; exact iff_of_eq (congrArg (Mt t) (mul1_list c 7))))
          rw [← eb]
          refine rd_neB ?_
          rw [bne_self_eq_false]
          refine ⟨_, rfl, ?_⟩
          refine rd_iteF ?_
          walk_at "rc"
          exact ⟨_, rfl, e10.trans (e11.trans e12)⟩
        · rintro σ H10 ⟨k8, rfl, e10⟩
          exact ⟨_, _, _, _, _, rfl, d9.ex e10⟩
    · rintro σ H4 ⟨k4, k5, k6, k7, k8, rfl, d4⟩
      walk_at "rc"
      exact ⟨p, L, rfl, al, d4.st, fun H' => q H'⟩
end
end
theorem all_mk {l : PySem.W.OpenLaw} {w : World} {K : PySem.W.Frag} {h : Heap} {mg : Str → Option Value} {fa : Addr} (X : K.In h) (G : h.Ns mainGlobals mg) (hfa : mg "law" = some (.ref fa))
    {a_parts_of : Addr} {od_parts_of an_parts_of : Option Addr} {sl_parts_of : Array (Option Value)} {oc_parts_of kV_parts_of dc_parts_of pm_parts_of cd_parts_of ct_parts_of : Value}
    {a_flat_terms : Addr} {od_flat_terms an_flat_terms : Option Addr} {sl_flat_terms : Array (Option Value)} {oc_flat_terms kV_flat_terms dc_flat_terms pm_flat_terms cd_flat_terms ct_flat_terms : Value}
    {a_belongs : Addr} {od_belongs an_belongs : Option Addr} {sl_belongs : Array (Option Value)} {oc_belongs kV_belongs dc_belongs pm_belongs cd_belongs ct_belongs : Value}
    {a__ends_of : Addr} {od__ends_of an__ends_of : Option Addr} {sl__ends_of : Array (Option Value)} {oc__ends_of kV__ends_of dc__ends_of pm__ends_of cd__ends_of ct__ends_of : Value}
    {a__letter_ends : Addr} {od__letter_ends an__letter_ends : Option Addr} {sl__letter_ends : Array (Option Value)} {oc__letter_ends kV__letter_ends dc__letter_ends pm__letter_ends cd__letter_ends ct__letter_ends : Value}
    {a__star_ends : Addr} {od__star_ends an__star_ends : Option Addr} {sl__star_ends : Array (Option Value)} {oc__star_ends kV__star_ends dc__star_ends pm__star_ends cd__star_ends ct__star_ends : Value}
    {a__ends_behind : Addr} {od__ends_behind an__ends_behind : Option Addr} {sl__ends_behind : Array (Option Value)} {oc__ends_behind kV__ends_behind dc__ends_behind pm__ends_behind cd__ends_behind ct__ends_behind : Value}
    {a_cell : Addr} {od_cell an_cell : Option Addr} {sl_cell : Array (Option Value)} {oc_cell kV_cell dc_cell pm_cell cd_cell ct_cell : Value}
    {a_numbers : Addr} {od_numbers an_numbers : Option Addr} {sl_numbers : Array (Option Value)} {oc_numbers kV_numbers dc_numbers pm_numbers cd_numbers ct_numbers : Value}
    {a_state : Addr} {od_state an_state : Option Addr} {sl_state : Array (Option Value)} {oc_state kV_state dc_state pm_state cd_state ct_state : Value}
    {a_next : Addr} {od_next an_next : Option Addr} {sl_next : Array (Option Value)} {oc_next kV_next dc_next pm_next cd_next ct_next : Value}
    {a_letters : Addr} {od_letters an_letters : Option Addr} {sl_letters : Array (Option Value)} {oc_letters kV_letters dc_letters pm_letters cd_letters ct_letters : Value}
    {a_texts : Addr} {od_texts an_texts : Option Addr} {sl_texts : Array (Option Value)} {oc_texts kV_texts dc_texts pm_texts cd_texts ct_texts : Value}
    {a_pattern : Addr} {od_pattern an_pattern : Option Addr} {sl_pattern : Array (Option Value)} {oc_pattern kV_pattern dc_pattern pm_pattern cd_pattern ct_pattern : Value}
    {a_marked : Addr} {od_marked an_marked : Option Addr} {sl_marked : Array (Option Value)} {oc_marked kV_marked dc_marked pm_marked cd_marked ct_marked : Value}
    {a_joinings : Addr} {od_joinings an_joinings : Option Addr} {sl_joinings : Array (Option Value)} {oc_joinings kV_joinings dc_joinings pm_joinings cd_joinings ct_joinings : Value}
    {a_repeated : Addr} {od_repeated an_repeated : Option Addr} {sl_repeated : Array (Option Value)} {oc_repeated kV_repeated dc_repeated pm_repeated cd_repeated ct_repeated : Value}
    {a_meaning : Addr} {od_meaning an_meaning : Option Addr} {sl_meaning : Array (Option Value)} {oc_meaning kV_meaning dc_meaning pm_meaning cd_meaning ct_meaning : Value}
    {a_long : Addr} {od_long an_long : Option Addr} {sl_long : Array (Option Value)} {oc_long kV_long dc_long pm_long cd_long ct_long : Value}
    {a_lengths : Addr} {od_lengths an_lengths : Option Addr} {sl_lengths : Array (Option Value)} {oc_lengths kV_lengths dc_lengths pm_lengths cd_lengths ct_lengths : Value}
    {a_law : Addr} {od_law an_law : Option Addr} {sl_law : Array (Option Value)} {oc_law kV_law dc_law pm_law cd_law ct_law : Value}
    {a_LEAVES : Addr} {od_LEAVES : Option Addr} {n_LEAVES : Nat} {sl_LEAVES : Array (Option Value)} {tk_LEAVES_0 tk_LEAVES_1 tk_LEAVES_2 : Tok}
    (n_parts_of : PySem.W.nsIn K mainGlobals "parts_of" = some (some (.ref a_parts_of)))
    (l_parts_of : K.lookup a_parts_of = some ⟨oc_parts_of, od_parts_of, .func (PySem.W.fnOf "parts_of" "parts_of" (defArgs s_parts_of) (defBody s_parts_of) (defScope s_parts_of) .none kV_parts_of dc_parts_of pm_parts_of an_parts_of cd_parts_of ct_parts_of), sl_parts_of⟩)
    (c_parts_of : PySem.W.codeIn K cd_parts_of "parts_of" = true)
    (k_parts_of : PySem.W.keepIn K (.ref a_parts_of) = true)
    (n_flat_terms : PySem.W.nsIn K mainGlobals "flat_terms" = some (some (.ref a_flat_terms)))
    (l_flat_terms : K.lookup a_flat_terms = some ⟨oc_flat_terms, od_flat_terms, .func (PySem.W.fnOf "flat_terms" "flat_terms" (defArgs s_flat_terms) (defBody s_flat_terms) (defScope s_flat_terms) .none kV_flat_terms dc_flat_terms pm_flat_terms an_flat_terms cd_flat_terms ct_flat_terms), sl_flat_terms⟩)
    (c_flat_terms : PySem.W.codeIn K cd_flat_terms "flat_terms" = true)
    (k_flat_terms : PySem.W.keepIn K (.ref a_flat_terms) = true)
    (n_belongs : PySem.W.nsIn K mainGlobals "belongs" = some (some (.ref a_belongs)))
    (l_belongs : K.lookup a_belongs = some ⟨oc_belongs, od_belongs, .func (PySem.W.fnOf "belongs" "belongs" (defArgs s_belongs) (defBody s_belongs) (defScope s_belongs) .none kV_belongs dc_belongs pm_belongs an_belongs cd_belongs ct_belongs), sl_belongs⟩)
    (c_belongs : PySem.W.codeIn K cd_belongs "belongs" = true)
    (k_belongs : PySem.W.keepIn K (.ref a_belongs) = true)
    (n__ends_of : PySem.W.nsIn K mainGlobals "_ends_of" = some (some (.ref a__ends_of)))
    (l__ends_of : K.lookup a__ends_of = some ⟨oc__ends_of, od__ends_of, .func (PySem.W.fnOf "_ends_of" "_ends_of" (defArgs s__ends_of) (defBody s__ends_of) (defScope s__ends_of) .none kV__ends_of dc__ends_of pm__ends_of an__ends_of cd__ends_of ct__ends_of), sl__ends_of⟩)
    (c__ends_of : PySem.W.codeIn K cd__ends_of "_ends_of" = true)
    (k__ends_of : PySem.W.keepIn K (.ref a__ends_of) = true)
    (n__letter_ends : PySem.W.nsIn K mainGlobals "_letter_ends" = some (some (.ref a__letter_ends)))
    (l__letter_ends : K.lookup a__letter_ends = some ⟨oc__letter_ends, od__letter_ends, .func (PySem.W.fnOf "_letter_ends" "_letter_ends" (defArgs s__letter_ends) (defBody s__letter_ends) (defScope s__letter_ends) .none kV__letter_ends dc__letter_ends pm__letter_ends an__letter_ends cd__letter_ends ct__letter_ends), sl__letter_ends⟩)
    (c__letter_ends : PySem.W.codeIn K cd__letter_ends "_letter_ends" = true)
    (k__letter_ends : PySem.W.keepIn K (.ref a__letter_ends) = true)
    (n__star_ends : PySem.W.nsIn K mainGlobals "_star_ends" = some (some (.ref a__star_ends)))
    (l__star_ends : K.lookup a__star_ends = some ⟨oc__star_ends, od__star_ends, .func (PySem.W.fnOf "_star_ends" "_star_ends" (defArgs s__star_ends) (defBody s__star_ends) (defScope s__star_ends) .none kV__star_ends dc__star_ends pm__star_ends an__star_ends cd__star_ends ct__star_ends), sl__star_ends⟩)
    (c__star_ends : PySem.W.codeIn K cd__star_ends "_star_ends" = true)
    (k__star_ends : PySem.W.keepIn K (.ref a__star_ends) = true)
    (n__ends_behind : PySem.W.nsIn K mainGlobals "_ends_behind" = some (some (.ref a__ends_behind)))
    (l__ends_behind : K.lookup a__ends_behind = some ⟨oc__ends_behind, od__ends_behind, .func (PySem.W.fnOf "_ends_behind" "_ends_behind" (defArgs s__ends_behind) (defBody s__ends_behind) (defScope s__ends_behind) .none kV__ends_behind dc__ends_behind pm__ends_behind an__ends_behind cd__ends_behind ct__ends_behind), sl__ends_behind⟩)
    (c__ends_behind : PySem.W.codeIn K cd__ends_behind "_ends_behind" = true)
    (k__ends_behind : PySem.W.keepIn K (.ref a__ends_behind) = true)
    (n_cell : PySem.W.nsIn K mainGlobals "_law_cell" = some (some (.ref a_cell)))
    (l_cell : K.lookup a_cell = some ⟨oc_cell, od_cell, .func (PySem.W.fnOf "_law_cell" "_law_cell" (defArgs s_cell) (defBody s_cell) (defScope s_cell) .none kV_cell dc_cell pm_cell an_cell cd_cell ct_cell), sl_cell⟩)
    (c_cell : PySem.W.codeIn K cd_cell "_law_cell" = true)
    (k_cell : PySem.W.keepIn K (.ref a_cell) = true)
    (n_numbers : PySem.W.nsIn K mainGlobals "_law_numbers" = some (some (.ref a_numbers)))
    (l_numbers : K.lookup a_numbers = some ⟨oc_numbers, od_numbers, .func (PySem.W.fnOf "_law_numbers" "_law_numbers" (defArgs s_numbers) (defBody s_numbers) (defScope s_numbers) .none kV_numbers dc_numbers pm_numbers an_numbers cd_numbers ct_numbers), sl_numbers⟩)
    (c_numbers : PySem.W.codeIn K cd_numbers "_law_numbers" = true)
    (k_numbers : PySem.W.keepIn K (.ref a_numbers) = true)
    (n_state : PySem.W.nsIn K mainGlobals "_law_state" = some (some (.ref a_state)))
    (l_state : K.lookup a_state = some ⟨oc_state, od_state, .func (PySem.W.fnOf "_law_state" "_law_state" (defArgs s_state) (defBody s_state) (defScope s_state) .none kV_state dc_state pm_state an_state cd_state ct_state), sl_state⟩)
    (c_state : PySem.W.codeIn K cd_state "_law_state" = true)
    (k_state : PySem.W.keepIn K (.ref a_state) = true)
    (n_next : PySem.W.nsIn K mainGlobals "_law_next" = some (some (.ref a_next)))
    (l_next : K.lookup a_next = some ⟨oc_next, od_next, .func (PySem.W.fnOf "_law_next" "_law_next" (defArgs s_next) (defBody s_next) (defScope s_next) .none kV_next dc_next pm_next an_next cd_next ct_next), sl_next⟩)
    (c_next : PySem.W.codeIn K cd_next "_law_next" = true)
    (k_next : PySem.W.keepIn K (.ref a_next) = true)
    (n_letters : PySem.W.nsIn K mainGlobals "_law_letters" = some (some (.ref a_letters)))
    (l_letters : K.lookup a_letters = some ⟨oc_letters, od_letters, .func (PySem.W.fnOf "_law_letters" "_law_letters" (defArgs s_letters) (defBody s_letters) (defScope s_letters) .none kV_letters dc_letters pm_letters an_letters cd_letters ct_letters), sl_letters⟩)
    (c_letters : PySem.W.codeIn K cd_letters "_law_letters" = true)
    (k_letters : PySem.W.keepIn K (.ref a_letters) = true)
    (n_texts : PySem.W.nsIn K mainGlobals "_law_texts" = some (some (.ref a_texts)))
    (l_texts : K.lookup a_texts = some ⟨oc_texts, od_texts, .func (PySem.W.fnOf "_law_texts" "_law_texts" (defArgs s_texts) (defBody s_texts) (defScope s_texts) .none kV_texts dc_texts pm_texts an_texts cd_texts ct_texts), sl_texts⟩)
    (c_texts : PySem.W.codeIn K cd_texts "_law_texts" = true)
    (k_texts : PySem.W.keepIn K (.ref a_texts) = true)
    (n_pattern : PySem.W.nsIn K mainGlobals "_law_pattern" = some (some (.ref a_pattern)))
    (l_pattern : K.lookup a_pattern = some ⟨oc_pattern, od_pattern, .func (PySem.W.fnOf "_law_pattern" "_law_pattern" (defArgs s_pattern) (defBody s_pattern) (defScope s_pattern) .none kV_pattern dc_pattern pm_pattern an_pattern cd_pattern ct_pattern), sl_pattern⟩)
    (c_pattern : PySem.W.codeIn K cd_pattern "_law_pattern" = true)
    (k_pattern : PySem.W.keepIn K (.ref a_pattern) = true)
    (n_marked : PySem.W.nsIn K mainGlobals "_law_marked" = some (some (.ref a_marked)))
    (l_marked : K.lookup a_marked = some ⟨oc_marked, od_marked, .func (PySem.W.fnOf "_law_marked" "_law_marked" (defArgs s_marked) (defBody s_marked) (defScope s_marked) .none kV_marked dc_marked pm_marked an_marked cd_marked ct_marked), sl_marked⟩)
    (c_marked : PySem.W.codeIn K cd_marked "_law_marked" = true)
    (k_marked : PySem.W.keepIn K (.ref a_marked) = true)
    (n_joinings : PySem.W.nsIn K mainGlobals "_law_joinings" = some (some (.ref a_joinings)))
    (l_joinings : K.lookup a_joinings = some ⟨oc_joinings, od_joinings, .func (PySem.W.fnOf "_law_joinings" "_law_joinings" (defArgs s_joinings) (defBody s_joinings) (defScope s_joinings) .none kV_joinings dc_joinings pm_joinings an_joinings cd_joinings ct_joinings), sl_joinings⟩)
    (c_joinings : PySem.W.codeIn K cd_joinings "_law_joinings" = true)
    (k_joinings : PySem.W.keepIn K (.ref a_joinings) = true)
    (n_repeated : PySem.W.nsIn K mainGlobals "_law_repeated" = some (some (.ref a_repeated)))
    (l_repeated : K.lookup a_repeated = some ⟨oc_repeated, od_repeated, .func (PySem.W.fnOf "_law_repeated" "_law_repeated" (defArgs s_repeated) (defBody s_repeated) (defScope s_repeated) .none kV_repeated dc_repeated pm_repeated an_repeated cd_repeated ct_repeated), sl_repeated⟩)
    (c_repeated : PySem.W.codeIn K cd_repeated "_law_repeated" = true)
    (k_repeated : PySem.W.keepIn K (.ref a_repeated) = true)
    (n_meaning : PySem.W.nsIn K mainGlobals "_law_meaning" = some (some (.ref a_meaning)))
    (l_meaning : K.lookup a_meaning = some ⟨oc_meaning, od_meaning, .func (PySem.W.fnOf "_law_meaning" "_law_meaning" (defArgs s_meaning) (defBody s_meaning) (defScope s_meaning) .none kV_meaning dc_meaning pm_meaning an_meaning cd_meaning ct_meaning), sl_meaning⟩)
    (c_meaning : PySem.W.codeIn K cd_meaning "_law_meaning" = true)
    (k_meaning : PySem.W.keepIn K (.ref a_meaning) = true)
    (n_long : PySem.W.nsIn K mainGlobals "_law_long" = some (some (.ref a_long)))
    (l_long : K.lookup a_long = some ⟨oc_long, od_long, .func (PySem.W.fnOf "_law_long" "_law_long" (defArgs s_long) (defBody s_long) (defScope s_long) .none kV_long dc_long pm_long an_long cd_long ct_long), sl_long⟩)
    (c_long : PySem.W.codeIn K cd_long "_law_long" = true)
    (k_long : PySem.W.keepIn K (.ref a_long) = true)
    (n_lengths : PySem.W.nsIn K mainGlobals "_law_lengths" = some (some (.ref a_lengths)))
    (l_lengths : K.lookup a_lengths = some ⟨oc_lengths, od_lengths, .func (PySem.W.fnOf "_law_lengths" "_law_lengths" (defArgs s_lengths) (defBody s_lengths) (defScope s_lengths) .none kV_lengths dc_lengths pm_lengths an_lengths cd_lengths ct_lengths), sl_lengths⟩)
    (c_lengths : PySem.W.codeIn K cd_lengths "_law_lengths" = true)
    (k_lengths : PySem.W.keepIn K (.ref a_lengths) = true)
    (n_law : PySem.W.nsIn K mainGlobals "law" = some (some (.ref a_law)))
    (l_law : K.lookup a_law = some ⟨oc_law, od_law, .func (PySem.W.fnOf "law" "law" (defArgs s_law) (defBody s_law) (defScope s_law) .none kV_law dc_law pm_law an_law cd_law ct_law), sl_law⟩)
    (c_law : PySem.W.codeIn K cd_law "law" = true)
    (k_law : PySem.W.keepIn K (.ref a_law) = true)
    (z_abs : PySem.W.nsIn K mainGlobals "abs" = some none)
    (z_enumerate : PySem.W.nsIn K mainGlobals "enumerate" = some none)
    (z_int : PySem.W.nsIn K mainGlobals "int" = some none)
    (z_len : PySem.W.nsIn K mainGlobals "len" = some none)
    (z_list : PySem.W.nsIn K mainGlobals "list" = some none)
    (z_range : PySem.W.nsIn K mainGlobals "range" = some none)
    (z_repr : PySem.W.nsIn K mainGlobals "repr" = some none)
    (z_reversed : PySem.W.nsIn K mainGlobals "reversed" = some none)
    (z_tuple : PySem.W.nsIn K mainGlobals "tuple" = some none)
    (k_LEAVES : PySem.W.nsIn K mainGlobals "LEAVES" = some (some (.ref a_LEAVES)))
    (kt_LEAVES : K.lookup a_LEAVES = some ⟨.type "tuple", od_LEAVES, .seq #[.str "none" tk_LEAVES_0, .str "empty" tk_LEAVES_1, .str "one" tk_LEAVES_2] n_LEAVES, sl_LEAVES⟩)
    : ∃ fd : FuncData, (∀ (s : Shared) (v : Value), BindsTo s fd ⟨[v], []⟩ [("script", v)]) ∧ ∀ base : Heap, K.In base → base.Ns mainGlobals mg → FnOk l.prog w K mg base CX0 lvLaw fa fd ["script"] (spLaw K) := by
  have e := hfa.symm.trans (PySem.W.mg_of X G n_law)
  cases e
  have f_parts_of := fun_mk (st := s_parts_of) l_parts_of c_parts_of k_parts_of
  have b_parts_of := f_parts_of.binds (ps := ["term"]) fun _ _ _ _ _ _ us hl => match us, hl with | [_], _ => rfl
  have f_flat_terms := fun_mk (st := s_flat_terms) l_flat_terms c_flat_terms k_flat_terms
  have b_flat_terms := f_flat_terms.binds (ps := ["pattern"]) fun _ _ _ _ _ _ us hl => match us, hl with | [_], _ => rfl
  have f_belongs := fun_mk (st := s_belongs) l_belongs c_belongs k_belongs
  have b_belongs := f_belongs.binds (ps := ["pattern", "text"]) fun _ _ _ _ _ _ us hl => match us, hl with | [_, _], _ => rfl
  have f__ends_of := fun_mk (st := s__ends_of) l__ends_of c__ends_of k__ends_of
  have b__ends_of := f__ends_of.binds (ps := ["term", "known", "text"]) fun _ _ _ _ _ _ us hl => match us, hl with | [_, _, _], _ => rfl
  have f__letter_ends := fun_mk (st := s__letter_ends) l__letter_ends c__letter_ends k__letter_ends
  have b__letter_ends := f__letter_ends.binds (ps := ["kept", "text"]) fun _ _ _ _ _ _ us hl => match us, hl with | [_, _], _ => rfl
  have f__star_ends := fun_mk (st := s__star_ends) l__star_ends c__star_ends k__star_ends
  have b__star_ends := f__star_ends.binds (ps := ["part"]) fun _ _ _ _ _ _ us hl => match us, hl with | [_], _ => rfl
  have f__ends_behind := fun_mk (st := s__ends_behind) l__ends_behind c__ends_behind k__ends_behind
  have b__ends_behind := f__ends_behind.binds (ps := ["places", "ends"]) fun _ _ _ _ _ _ us hl => match us, hl with | [_, _], _ => rfl
  have f_cell := fun_mk (st := s_cell) l_cell c_cell k_cell
  have b_cell := f_cell.binds (ps := ["script", "k"]) fun _ _ _ _ _ _ us hl => match us, hl with | [_, _], _ => rfl
  have f_numbers := fun_mk (st := s_numbers) l_numbers c_numbers k_numbers
  have b_numbers := f_numbers.binds (ps := ["cell", "many"]) fun _ _ _ _ _ _ us hl => match us, hl with | [_, _], _ => rfl
  have f_state := fun_mk (st := s_state) l_state c_state k_state
  have b_state := f_state.binds (ps := ["script", "start", "many"]) fun _ _ _ _ _ _ us hl => match us, hl with | [_, _, _], _ => rfl
  have f_next := fun_mk (st := s_next) l_next c_next k_next
  have b_next := f_next.binds (ps := ["state", "many"]) fun _ _ _ _ _ _ us hl => match us, hl with | [_, _], _ => rfl
  have f_letters := fun_mk (st := s_letters) l_letters c_letters k_letters
  have b_letters := f_letters.binds (ps := ["state", "most"]) fun _ _ _ _ _ _ us hl => match us, hl with | [_, _], _ => rfl
  have f_texts := fun_mk (st := s_texts) l_texts c_texts k_texts
  have b_texts := f_texts.binds (ps := ["letters", "most"]) fun _ _ _ _ _ _ us hl => match us, hl with | [_, _], _ => rfl
  have f_pattern := fun_mk (st := s_pattern) l_pattern c_pattern k_pattern
  have b_pattern := f_pattern.binds (ps := ["letters", "state", "deep"]) fun _ _ _ _ _ _ us hl => match us, hl with | [_, _, _], _ => rfl
  have f_marked := fun_mk (st := s_marked) l_marked c_marked k_marked
  have b_marked := f_marked.binds (ps := ["rows"]) fun _ _ _ _ _ _ us hl => match us, hl with | [_], _ => rfl
  have f_joinings := fun_mk (st := s_joinings) l_joinings c_joinings k_joinings
  have b_joinings := f_joinings.binds (ps := ["first", "second", "most"]) fun _ _ _ _ _ _ us hl => match us, hl with | [_, _, _], _ => rfl
  have f_repeated := fun_mk (st := s_repeated) l_repeated c_repeated k_repeated
  have b_repeated := f_repeated.binds (ps := ["first", "most"]) fun _ _ _ _ _ _ us hl => match us, hl with | [_, _], _ => rfl
  have f_meaning := fun_mk (st := s_meaning) l_meaning c_meaning k_meaning
  have b_meaning := f_meaning.binds (ps := ["letters", "pattern", "most"]) fun _ _ _ _ _ _ us hl => match us, hl with | [_, _, _], _ => rfl
  have f_long := fun_mk (st := s_long) l_long c_long k_long
  have b_long := f_long.binds (ps := ["letters", "state"]) fun _ _ _ _ _ _ us hl => match us, hl with | [_, _], _ => rfl
  have f_lengths := fun_mk (st := s_lengths) l_lengths c_lengths k_lengths
  have b_lengths := f_lengths.binds (ps := ["letter", "pattern", "most"]) fun _ _ _ _ _ _ us hl => match us, hl with | [_, _, _], _ => rfl
  have f_law := fun_mk (st := s_law) l_law c_law k_law
  have b_law := f_law.binds (ps := ["script"]) fun _ _ _ _ _ _ us hl => match us, hl with | [_], _ => rfl
  have dt_LEAVES : ∀ H, Dp K H (.ref a_LEAVES) (.tuple [.str "none", .str "empty", .str "one"]) := fun H => .tup (show SqT K H a_LEAVES [.str "none", .str "empty", .str "one"] from .inr ⟨_, _, _, kt_LEAVES, rfl, rfl, by show 3 ≤ sizeLine; decide, .cons ⟨_, rfl⟩ (.cons ⟨_, rfl⟩ (.cons ⟨_, rfl⟩ (.nil)))⟩) (.cons (.str _) (.cons (.str _) (.cons (.str _) (.nil))))
  let T : Txt K mg := {
    a_parts_of := a_parts_of, d_parts_of := _, f_parts_of := f_parts_of, o_parts_of := ⟨PySem.W.mg_of X G n_parts_of, k_parts_of, b_parts_of⟩,
    a_flat_terms := a_flat_terms, d_flat_terms := _, f_flat_terms := f_flat_terms, o_flat_terms := ⟨PySem.W.mg_of X G n_flat_terms, k_flat_terms, b_flat_terms⟩,
    a_belongs := a_belongs, d_belongs := _, f_belongs := f_belongs, o_belongs := ⟨PySem.W.mg_of X G n_belongs, k_belongs, b_belongs⟩,
    a__ends_of := a__ends_of, d__ends_of := _, f__ends_of := f__ends_of, o__ends_of := ⟨PySem.W.mg_of X G n__ends_of, k__ends_of, b__ends_of⟩,
    a__letter_ends := a__letter_ends, d__letter_ends := _, f__letter_ends := f__letter_ends, o__letter_ends := ⟨PySem.W.mg_of X G n__letter_ends, k__letter_ends, b__letter_ends⟩,
    a__star_ends := a__star_ends, d__star_ends := _, f__star_ends := f__star_ends, o__star_ends := ⟨PySem.W.mg_of X G n__star_ends, k__star_ends, b__star_ends⟩,
    a__ends_behind := a__ends_behind, d__ends_behind := _, f__ends_behind := f__ends_behind, o__ends_behind := ⟨PySem.W.mg_of X G n__ends_behind, k__ends_behind, b__ends_behind⟩,
    a_cell := a_cell, d_cell := _, f_cell := f_cell, o_cell := ⟨PySem.W.mg_of X G n_cell, k_cell, b_cell⟩,
    a_numbers := a_numbers, d_numbers := _, f_numbers := f_numbers, o_numbers := ⟨PySem.W.mg_of X G n_numbers, k_numbers, b_numbers⟩,
    a_state := a_state, d_state := _, f_state := f_state, o_state := ⟨PySem.W.mg_of X G n_state, k_state, b_state⟩,
    a_next := a_next, d_next := _, f_next := f_next, o_next := ⟨PySem.W.mg_of X G n_next, k_next, b_next⟩,
    a_letters := a_letters, d_letters := _, f_letters := f_letters, o_letters := ⟨PySem.W.mg_of X G n_letters, k_letters, b_letters⟩,
    a_texts := a_texts, d_texts := _, f_texts := f_texts, o_texts := ⟨PySem.W.mg_of X G n_texts, k_texts, b_texts⟩,
    a_pattern := a_pattern, d_pattern := _, f_pattern := f_pattern, o_pattern := ⟨PySem.W.mg_of X G n_pattern, k_pattern, b_pattern⟩,
    a_marked := a_marked, d_marked := _, f_marked := f_marked, o_marked := ⟨PySem.W.mg_of X G n_marked, k_marked, b_marked⟩,
    a_joinings := a_joinings, d_joinings := _, f_joinings := f_joinings, o_joinings := ⟨PySem.W.mg_of X G n_joinings, k_joinings, b_joinings⟩,
    a_repeated := a_repeated, d_repeated := _, f_repeated := f_repeated, o_repeated := ⟨PySem.W.mg_of X G n_repeated, k_repeated, b_repeated⟩,
    a_meaning := a_meaning, d_meaning := _, f_meaning := f_meaning, o_meaning := ⟨PySem.W.mg_of X G n_meaning, k_meaning, b_meaning⟩,
    a_long := a_long, d_long := _, f_long := f_long, o_long := ⟨PySem.W.mg_of X G n_long, k_long, b_long⟩,
    a_lengths := a_lengths, d_lengths := _, f_lengths := f_lengths, o_lengths := ⟨PySem.W.mg_of X G n_lengths, k_lengths, b_lengths⟩,
    a_law := _, d_law := _, f_law := f_law, o_law := ⟨PySem.W.mg_of X G n_law, k_law, b_law⟩,
    nb_abs := PySem.W.mg_none_of X G z_abs,
    nb_enumerate := PySem.W.mg_none_of X G z_enumerate,
    nb_int := PySem.W.mg_none_of X G z_int,
    nb_len := PySem.W.mg_none_of X G z_len,
    nb_list := PySem.W.mg_none_of X G z_list,
    nb_range := PySem.W.mg_none_of X G z_range,
    nb_repr := PySem.W.mg_none_of X G z_repr,
    nb_reversed := PySem.W.mg_none_of X G z_reversed,
    nb_tuple := PySem.W.mg_none_of X G z_tuple,
    a_LEAVES := a_LEAVES, c_LEAVES := PySem.W.mg_of X G k_LEAVES, v_LEAVES := dt_LEAVES }
  exact ⟨T.d_law, fun s v => .of_eq rfl, fun base _ _ => ok_law T⟩
end AT
open PySem PySem.W PyProof.Rows
set_option maxRecDepth 100000 in
set_option maxHeartbeats 0 in
theorem PySem.Challenge.cw_anytext_k06_meaning_of_patterns_holds : PySem.Challenge.rw_anytext_k06_meaning_of_patterns.Holds := by
  w_on; o_law; k_head; (case hw => w_witness2)
  k_fill
  refine L2.walk_ofK (l := PySem.Challenge.rw_anytext_k06_meaning_of_patterns) (n := 63) (k := AT.lvLaw) (x := "script") (CX := L2.CX0) (sp := AT.spLaw) rfl (by decide) rfl ⟨rfl, by decide, by decide⟩ (fun w h Y => PySem.W.kIn_of Y) ?F (fun _ _ a ns hl _ hS => ⟨a, ns, rfl, hS, hl, fun _ => rfl⟩) fun _ _ _ _ z => z
  case F =>
    intro w mg fa h KX G hmg
    refine' AT.all_mk KX G hmg ?n_parts_of ?l_parts_of ?c_parts_of ?k_parts_of ?n_flat_terms ?l_flat_terms ?c_flat_terms ?k_flat_terms ?n_belongs ?l_belongs ?c_belongs ?k_belongs ?n__ends_of ?l__ends_of ?c__ends_of ?k__ends_of ?n__letter_ends ?l__letter_ends ?c__letter_ends ?k__letter_ends ?n__star_ends ?l__star_ends ?c__star_ends ?k__star_ends ?n__ends_behind ?l__ends_behind ?c__ends_behind ?k__ends_behind ?n_cell ?l_cell ?c_cell ?k_cell ?n_numbers ?l_numbers ?c_numbers ?k_numbers ?n_state ?l_state ?c_state ?k_state ?n_next ?l_next ?c_next ?k_next ?n_letters ?l_letters ?c_letters ?k_letters ?n_texts ?l_texts ?c_texts ?k_texts ?n_pattern ?l_pattern ?c_pattern ?k_pattern ?n_marked ?l_marked ?c_marked ?k_marked ?n_joinings ?l_joinings ?c_joinings ?k_joinings ?n_repeated ?l_repeated ?c_repeated ?k_repeated ?n_meaning ?l_meaning ?c_meaning ?k_meaning ?n_long ?l_long ?c_long ?k_long ?n_lengths ?l_lengths ?c_lengths ?k_lengths ?n_law ?l_law ?c_law ?k_law ?z_abs ?z_enumerate ?z_int ?z_len ?z_list ?z_range ?z_repr ?z_reversed ?z_tuple ?k_LEAVES ?kt_LEAVES
    (case n_parts_of => k_is); (case l_parts_of => k_is); (case c_parts_of => k_is); (case k_parts_of => k_is); (case n_flat_terms => k_is); (case l_flat_terms => k_is)
    (case c_flat_terms => k_is); (case k_flat_terms => k_is); (case n_belongs => k_is); (case l_belongs => k_is); (case c_belongs => k_is); (case k_belongs => k_is)
    (case n__ends_of => k_is); (case l__ends_of => k_is); (case c__ends_of => k_is); (case k__ends_of => k_is); (case n__letter_ends => k_is); (case l__letter_ends => k_is)
    (case c__letter_ends => k_is); (case k__letter_ends => k_is); (case n__star_ends => k_is); (case l__star_ends => k_is); (case c__star_ends => k_is); (case k__star_ends => k_is)
    (case n__ends_behind => k_is); (case l__ends_behind => k_is); (case c__ends_behind => k_is); (case k__ends_behind => k_is); (case n_cell => k_is); (case l_cell => k_is)
    (case c_cell => k_is); (case k_cell => k_is); (case n_numbers => k_is); (case l_numbers => k_is); (case c_numbers => k_is); (case k_numbers => k_is)
    (case n_state => k_is); (case l_state => k_is); (case c_state => k_is); (case k_state => k_is); (case n_next => k_is); (case l_next => k_is)
    (case c_next => k_is); (case k_next => k_is); (case n_letters => k_is); (case l_letters => k_is); (case c_letters => k_is); (case k_letters => k_is)
    (case n_texts => k_is); (case l_texts => k_is); (case c_texts => k_is); (case k_texts => k_is); (case n_pattern => k_is); (case l_pattern => k_is)
    (case c_pattern => k_is); (case k_pattern => k_is); (case n_marked => k_is); (case l_marked => k_is); (case c_marked => k_is); (case k_marked => k_is)
    (case n_joinings => k_is); (case l_joinings => k_is); (case c_joinings => k_is); (case k_joinings => k_is); (case n_repeated => k_is); (case l_repeated => k_is)
    (case c_repeated => k_is); (case k_repeated => k_is); (case n_meaning => k_is); (case l_meaning => k_is); (case c_meaning => k_is); (case k_meaning => k_is)
    (case n_long => k_is); (case l_long => k_is); (case c_long => k_is); (case k_long => k_is); (case n_lengths => k_is); (case l_lengths => k_is)
    (case c_lengths => k_is); (case k_lengths => k_is); (case n_law => k_is); (case l_law => k_is); (case c_law => k_is); (case k_law => k_is)
    (case z_abs => k_is); (case z_enumerate => k_is); (case z_int => k_is); (case z_len => k_is); (case z_list => k_is); (case z_range => k_is)
    (case z_repr => k_is); (case z_reversed => k_is); (case z_tuple => k_is); (case k_LEAVES => k_is); (case kt_LEAVES => k_is)

