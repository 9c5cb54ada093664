import PyProof.Rows.All
import Wide.All
import OpenK.AllK
import Wide.FinOn
import HandS.ForMost
import HandS.ForExc
import HandS.Walk
import HandS.Evl
import HandS.ExcInit
import HandS.ExcField
import HandS.ExcIs
import HandS.IsInst
import HandS.RaiseMore
import HandS.TupAny
import HandS.TryOnly
import HandS.Defaults
import HandS.Steps
import KE.KExcIs
import HandS.TupMul
import PyProof.ReprRoads
import HandS.Replace
import KE.DataMinMax
import KE.DataCmp
import PyProof.StrBlock2
import HandS.Ends
import HandS.Style
import KE.KDictDisplayH
import PyProof.Draws
import PyProof.EnumMake
import PyProof.WalksMore
import HandS.Zip0
import HandS.DictComp
import HandS.TupLe
import HandS.Nested
import HandS.NestedK
import HandS.EndTab
import HandS.HeadWalk
import KE.KNestM
import HandS.Rev
import HandS.MapObj
import PyProof.StrWalks
import PyProof.JoinWalk
import HandS.Strs
import HandS.Conv
import PyProof.ListIndex
import HandS.SetKeys
import HandS.SetBool
import HandS.SortInts
import KE.KDictKeyed
import PySem.Challenge.RW_anytext_k20_images_before
set_option Elab.async false
set_option linter.all false
set_option maxRecDepth 100000
set_option maxHeartbeats 4000000
/-! own words: readings step by step, operators by several kinds of values -/
namespace AT
open PySem PySem.Spec PyProof.Rows L2
abbrev Ex := Evl.Ex
section
variable {X : Cx} {f : Value → Value → Sem Value} {r r' : R2}
theorem OpR.or (h : OpR X f r) (h' : OpR X f r') : OpR X f (fun x y H Q => r x y H Q ∨ r' x y H Q) := by
  intro pins s σ H x y v u Q I rx ry q
  rcases q with q | q
  · exact h pins s σ H x y v u Q I rx ry q
  · exact h' pins s σ H x y v u Q I rx ry q
theorem CallR.or {f : Value} {r r' : List V → Hp → VK → Prop} (h : CallR X f r) (h' : CallR X f r') : CallR X f (fun x H Q => r x H Q ∨ r' x H Q) := by
  intro pins s σ H x us Q I rx q
  rcases q with q | q
  · exact h pins s σ H x us Q I rx q
  · exact h' pins s σ H x us Q I rx q
end
/-! ### operators -/
/-- + of ints, of texts, of lists -/
def oAdd (K : PySem.W.Frag) : R2 := fun x y H Q => (rI0 (fun i j => .int (i + j)) x y H Q) ∨ (∃ i j : Str, x = .str i ∧ y = .str j ∧ i.length + j.length ≤ sizeLine ∧ Q (.str (i ++ j)) H) ∨ rCat x y H Q ∨ rCatT K x y H Q
theorem op_addP {X : Cx} : OpR X (binaryOp .Add) (oAdd X.K) := OpR.or op_add (OpR.or op_add_str (OpR.or op_cat op_catT))
def oSub : R2 := rI0 fun i j => .int (i - j)
theorem op_subP {X : Cx} : OpR X (binaryOp .Sub) oSub := op_sub
def oMul : R2 := rI CMul fun i j => .int (i * j)
theorem op_mulP {X : Cx} : OpR X (binaryOp .Mult) oMul := op_mul
def oMod : R2 := rI (fun _ j => j ≠ 0) fun i j => .int (i.fmod j)
theorem op_modP {X : Cx} : OpR X (binaryOp .Mod) oMod := op_modN
def oDiv : R2 := rI CDivN fun i j => .int (i.fdiv j)
theorem op_divP {X : Cx} : OpR X (binaryOp .FloorDiv) oDiv := op_fdivN
def oPow : R2 := rI CPow fun i j => .int (i ^ j.toNat)
theorem op_powP {X : Cx} : OpR X (binaryOp .Pow) oPow := op_pow
def oLt : R2 := rI0 fun i j => .bl (decide (i < j))
def oLe : R2 := rI0 fun i j => .bl (decide (i ≤ j))
def oGt : R2 := rI0 fun i j => .bl (decide (j < i))
def oGe : R2 := rI0 fun i j => .bl (decide (j ≤ i))
theorem op_ltP {X : Cx} : OpR X (compareOp .Lt) oLt := op_lt
theorem op_leP {X : Cx} : OpR X (compareOp .LtE) oLe := op_le
theorem op_gtP {X : Cx} : OpR X (compareOp .Gt) oGt := op_gt
theorem op_geP {X : Cx} : OpR X (compareOp .GtE) oGe := op_ge
/-- == of ints, bools, texts; of data -/
def oEq (K : PySem.W.Frag) : R2 := fun x y H Q => rEq x y H Q ∨ rEqD K x y H Q
def oNe (K : PySem.W.Frag) : R2 := fun x y H Q => rNe x y H Q ∨ rNeD K x y H Q
theorem op_eqP {X : Cx} (hu : X.A.units + 64 < cLine) : OpR X (compareOp .Eq) (oEq X.K) := OpR.or op_eq (op_eqD hu)
theorem op_neP {X : Cx} (hu : X.A.units + 64 < cLine) : OpR X (compareOp .NotEq) (oNe X.K) := OpR.or op_ne (op_neD hu)

/-! ### reading, step by step -/
section rd
variable {K : PySem.W.Frag} {σ : L2.St} {H : Hp} {Q : VK} {QB : Bool → Hp → Prop} {QL : List V → Hp → Prop} {D : Ends} {ta tb tc te to : TE} {tt uu : TT} {tl : TA} {t u : TS} {g : TG} {i : Nat} {v w x y : V} {r r' : R2} {QS : L2.St → Hp → Prop}
theorem rd_seq (h : t { D with nx := u D } σ H) : tSeq t u D σ H := h
theorem rd_asg (h : te σ H fun x H1 => g x σ H1 D.nx) : tAsg te g D σ H := h
theorem rd_name (h : QS (σ.set i (some v)) H) : gName i v σ H QS := h
theorem rd_var (e : σ[i]? = some (some v)) (h : Q v H) : tVar i σ H Q := ⟨v, e, h⟩
theorem rd_c (h : Q v H) : tC v σ H Q := h
theorem rd_op (h : ta σ H fun x H1 => tb σ H1 fun y H2 => r x y H2 Q) : tOp r ta tb σ H Q := h
theorem rd_ret (h : te σ H D.rt) : tRet te D σ H := h
theorem rd_retN (h : D.rt .non H) : tRetN D σ H := h
theorem rd_if (h : tt σ H fun b H1 => if b = true then t D σ H1 else u D σ H1) : tIfS tt t u D σ H := h
theorem rd_ife (h : tt σ H fun b H1 => if b = true then ta σ H1 Q else tb σ H1 Q) : tIf tt ta tb σ H Q := h
theorem rd_next (h : D.nx σ H) : tNext D σ H := h
theorem rd_drop (h : te σ H fun _ H1 => D.nx σ H1) : tDrop te D σ H := h
theorem rd_test (h : te σ H fun x H' => ∃ k, x = .bl k ∧ QB k H') : tTest te σ H QB := h
theorem rd_tB (h : te σ H fun x H' => ∃ k, x = .bl k ∧ QB k H') : tB te σ H QB := h
theorem rd_bl {b : Bool} {P : Bool → Prop} (h : P b) : ∃ k, V.bl b = .bl k ∧ P k := ⟨b, rfl, h⟩
theorem rd_not (h : tt σ H fun c H1 => QB (!c) H1) : tNot tt σ H QB := h
theorem rd_and (h : tt σ H fun c H1 => if c = true then uu σ H1 QB else QB false H1) : tAnd tt uu σ H QB := h
theorem rd_or (h : tt σ H fun c H1 => if c = true then QB true H1 else uu σ H1 QB) : tOr tt uu σ H QB := h
theorem rd_nil (h : QL [] H) : tNil σ H QL := h
theorem rd_cons (h : ta σ H fun x H1 => tl σ H1 fun xs H2 => QL (x :: xs) H2) : tCons ta tl σ H QL := h
theorem rd_lst (h : tl σ H fun xs H1 => xs.length ≤ sizeLine ∧ ∀ p, H1 p = none → Q (.ref p) (upd H1 p (.lst xs))) : tLst tl σ H Q := h
theorem rd_tup (h : tl σ H fun xs H1 => xs.length ≤ sizeLine ∧ ∀ p, H1 p = none → Q (.ref p) (upd H1 p (.tup xs))) : tTup tl σ H Q := h
theorem rd_cb {rc : List V → Hp → VK → Prop} (h : tl σ H fun vs H1 => rc vs H1 Q) : tCB rc tl σ H Q := h
theorem rd_chain (h : ta σ H fun x H1 => tb σ H1 fun y H2 => r x y H2 fun z H3 => ∃ k, z = .bl k ∧ if k = true then tc σ H3 fun w H4 => r' y w H4 Q else Q (.bl false) H3) : tChain r r' ta tb tc σ H Q := h
theorem rd_call {sp : Sp} {dvs : List V} {E : XK} (h : tl σ H fun vs H1 => sp (vs ++ dvs) H1 Q E) : tCall sp dvs E tl σ H Q := h
theorem rd_iteT {A B : Prop} (h : A) : if true = true then A else B := iteT h
theorem rd_iteF {A B : Prop} (h : B) : if false = true then A else B := iteF h
theorem rd_itet {A B : Prop} {c : Bool} (e : c = true) (h : A) : if c = true then A else B := by rw [e]; exact iteT h
theorem rd_itef {A B : Prop} {c : Bool} (e : c = false) (h : B) : if c = true then A else B := by rw [e]; exact iteF h
theorem rd_ite {A B : Prop} {c : Bool} (h1 : c = true → A) (h2 : c = false → B) : if c = true then A else B := by
  cases c with
  | true => exact iteT (h1 rfl)
  | false => exact iteF (h2 rfl)
theorem rd_iteD {A B p : Prop} [Decidable p] (h1 : p → A) (h2 : ¬ p → B) : if decide p = true then A else B := rd_ite (fun e => h1 (of_decide_eq_true e)) fun e => h2 (of_decide_eq_false e)
theorem rd_iteN {A B p : Prop} [Decidable p] (h1 : ¬ p → A) (h2 : p → B) : if (!decide p) = true then A else B := rd_ite (fun e => h1 (by simpa using e)) fun e => h2 (by simpa using e)
/-! ints -/
variable {a b : Int}
theorem rd_addI (h : Q (.int (a + b)) H) : oAdd K (.int a) (.int b) H Q := .inl ⟨a, b, rfl, rfl, h⟩
theorem rd_subI (h : Q (.int (a - b)) H) : oSub (.int a) (.int b) H Q := ⟨a, b, rfl, rfl, h⟩
theorem rd_mulI (c : CMul a b) (h : Q (.int (a * b)) H) : oMul (.int a) (.int b) H Q := ⟨a, b, rfl, rfl, c, h⟩
theorem rd_modI (c : b ≠ 0) (h : Q (.int (a.fmod b)) H) : oMod (.int a) (.int b) H Q := ⟨a, b, rfl, rfl, c, h⟩
theorem rd_divI (c : CDivN a b) (h : Q (.int (a.fdiv b)) H) : oDiv (.int a) (.int b) H Q := ⟨a, b, rfl, rfl, c, h⟩
theorem rd_powI (c : CPow a b) (h : Q (.int (a ^ b.toNat)) H) : oPow (.int a) (.int b) H Q := ⟨a, b, rfl, rfl, c, h⟩
theorem rd_lt (h : Q (.bl (decide (a < b))) H) : oLt (.int a) (.int b) H Q := ⟨a, b, rfl, rfl, h⟩
theorem rd_le (h : Q (.bl (decide (a ≤ b))) H) : oLe (.int a) (.int b) H Q := ⟨a, b, rfl, rfl, h⟩
theorem rd_gt (h : Q (.bl (decide (b < a))) H) : oGt (.int a) (.int b) H Q := ⟨a, b, rfl, rfl, h⟩
theorem rd_ge (h : Q (.bl (decide (b ≤ a))) H) : oGe (.int a) (.int b) H Q := ⟨a, b, rfl, rfl, h⟩
theorem rd_eqI (h : Q (.bl (decide (a = b))) H) : oEq K (.int a) (.int b) H Q := .inl ⟨rfl, by
  have e : decide (V.int a = V.int b) = decide (a = b) := decide_eq_decide.mpr ⟨fun z => V.int.inj z, fun z => by rw [z]⟩
  rw [e]; exact h⟩
theorem rd_neI (h : Q (.bl (!decide (a = b))) H) : oNe K (.int a) (.int b) H Q := .inl ⟨rfl, by
  have e : decide (V.int a = V.int b) = decide (a = b) := decide_eq_decide.mpr ⟨fun z => V.int.inj z, fun z => by rw [z]⟩
  rw [e]; exact h⟩
theorem rd_eqS {x y : Str} (h : Q (.bl (decide (x = y))) H) : oEq K (.str x) (.str y) H Q := .inl ⟨rfl, by
  have e : decide (V.str x = V.str y) = decide (x = y) := decide_eq_decide.mpr ⟨fun z => V.str.inj z, fun z => by rw [z]⟩
  rw [e]; exact h⟩
theorem rd_neS {x y : Str} (h : Q (.bl (!decide (x = y))) H) : oNe K (.str x) (.str y) H Q := .inl ⟨rfl, by
  have e : decide (V.str x = V.str y) = decide (x = y) := decide_eq_decide.mpr ⟨fun z => V.str.inj z, fun z => by rw [z]⟩
  rw [e]; exact h⟩
theorem rd_addS {x y : Str} (c : x.length + y.length ≤ sizeLine) (h : Q (.str (x ++ y)) H) : oAdd K (.str x) (.str y) H Q := .inr (.inl ⟨x, y, rfl, rfl, c, h⟩)
theorem rd_cat {l m : Addr} {xs ys : List V} (h1 : H l = some (.lst xs)) (h2 : H m = some (.lst ys)) (c : xs.length + ys.length ≤ sizeLine) (h : ∀ p, H p = none → Q (.ref p) (upd H p (.lst (xs ++ ys)))) : oAdd K (.ref l) (.ref m) H Q := .inr (.inr (.inl ⟨l, m, xs, ys, rfl, rfl, h1, h2, c, h⟩))
/-! calls of built-ins -/
end rd
/-! ### heaps -/
theorem ex_upd {H0 H : Hp} {p : Addr} {o : HO} (e : Ex H0 H) (h : H p = none) : Ex H0 (upd H p o) := fun a u q => by
  rw [upd_ne (ne_of_none (e a u q) h)]
  exact e a u q
theorem sq_upd {K : PySem.W.Frag} {H : Hp} {a p : Addr} {o : HO} {xs : List V} (hp : H p = none) (h : SqL K H a xs) : SqL K (upd H p o) a xs := Evl.ex_l (Evl.Ex.new hp) h
theorem sqt_upd {K : PySem.W.Frag} {H : Hp} {a p : Addr} {o : HO} {xs : List V} (hp : H p = none) (h : SqT K H a xs) : SqT K (upd H p o) a xs := Evl.ex_t (Evl.Ex.new hp) h
theorem at_upd {H : Hp} {a p : Addr} {o u : HO} (hp : H p = none) (h : H a = some u) : upd H p o a = some u := by
  rw [upd_ne (ne_of_none h hp)]; exact h

/-! ### more operators: in, len, slices, what is walked, repr -/
section
variable {X : Cx}
def oIn (K : PySem.W.Frag) : R2 := fun x y H Q => (∃ (c : Nat) (z : Str), x = .str ⟨#[c]⟩ ∧ y = .str z ∧ Q (.bl (decide (c ∈ z.cps.toList))) H) ∨ rIn K false x y H Q
def oNotIn (K : PySem.W.Frag) : R2 := fun x y H Q => (∃ (c : Nat) (z : Str), x = .str ⟨#[c]⟩ ∧ y = .str z ∧ Q (.bl (!decide (c ∈ z.cps.toList))) H) ∨ rIn K true x y H Q
theorem op_inP : OpR X (compareOp .In) (oIn X.K) := OpR.or op_in_sign op_in_seq
theorem op_notInP : OpR X (compareOp .NotIn) (oNotIn X.K) := OpR.or op_notIn_sign op_notIn_seq
def cLen (K : PySem.W.Frag) : List V → Hp → VK → Prop := fun xs H Q => (∃ x n, xs = [x] ∧ LenV K x H n ∧ Q (.int n) H) ∨ ∃ a kvs, xs = [V.ref a] ∧ H a = some (.dK kvs) ∧ Q (.int kvs.length) H
theorem call_lenP : CallR X (.builtin "len") (cLen X.K) := CallR.or call_len call_lenD
def cInt : List V → Hp → VK → Prop := fun xs H Q => (∃ i, xs = [.int i] ∧ Q (.int i) H) ∨ ∃ k, xs = [.bl k] ∧ Q (.int (if k then 1 else 0)) H
theorem call_intP : CallR X (.type "int") cInt := call_int1
def cAbs : List V → Hp → VK → Prop := fun xs H Q => ∃ i, xs = [.int i] ∧ Q (.int (if i < 0 then -i else i)) H
theorem call_absP : CallR X (.builtin "abs") cAbs := call_abs
def oSl (K : PySem.W.Frag) : V → Option Int → Option Int → Hp → VK → Prop := fun x lo hi H Q => rSlL K x lo hi H Q ∨ rSlS x lo hi H Q ∨ rSlA K x lo hi H Q
theorem sl_P : SlR X (oSl X.K) := SlR.or sl_list (SlR.or sl_str sl_tupA)
theorem PI.or {tg iter : Expr} {w w' : TI} (h : PI X tg iter w) (h' : PI X tg iter w') : PI X tg iter (fun σ H R => w σ H R ∨ w' σ H R) :=
  ⟨fun pins s σ H R I q => q.elim (h.run pins s σ H R I) (h'.run pins s σ H R I)⟩
def iAny (K : PySem.W.Frag) (te : TE) : TI := fun σ H R => iList K te σ H R ∨ iTup K te σ H R ∨ iStr te σ H R
theorem pi_any {tg e : Expr} {te : TE} (he : PE X e te) : PI X tg e (iAny X.K te) := PI.or (pi_list he) (PI.or (pi_tup he) (pi_str he))
theorem call_repr_bl : CallR X (.builtin "repr") (fun xs H Q => ∃ b, xs = [.bl b] ∧ Q (.str (if b then "True" else "False")) H) := by
  intro pins s σ H xs us Q I r h
  obtain ⟨b, rfl, q⟩ := h
  obtain ⟨u, rfl, ru⟩ := vals1 r
  cases (show u = Value.bool b from ru)
  exact PySem.P.repr_of_bool ⟨.str _, H, I.tok _, ⟨_, rfl⟩, q⟩
def cRepr : List V → Hp → VK → Prop := fun xs H Q => (∃ i, xs = [.int i] ∧ i.natAbs.log2 < 1920 ∧ Q (.str (toString i)) H) ∨ ∃ b, xs = [.bl b] ∧ Q (.str (if b then "True" else "False")) H
theorem call_reprP : CallR X (.builtin "repr") cRepr := CallR.or SkE.call_repr_int call_repr_bl
end
/-! ### own defs -/
/-- the def named x stands at f; all its parameters are written at a call -/
structure Own (K : PySem.W.Frag) (mg : Str → Option Value) (x : Str) (f : Addr) (fd : FuncData) (ps : List Str) : Prop where
  g : mg x = some (.ref f)
  k : PySem.W.keepIn K (.ref f) = true
  b : Binds K fd ps []
section
variable {X : Cx} {k : Nat} {f : Addr} {fd : FuncData} {ps : List Str} {sp : Sp} {x : Str} {p pos : Pos} {e : Expr} {es : List Expr} {t : TA}
def tCalled (sp : Sp) (t : TA) : TE := fun σ H Q => t σ H fun vs H1 => sp vs H1 Q E0
/-- a call of a def that raises nothing -/
theorem pe_callE (F : FnOk X.prog X.w X.K X.mg X.base CX0 k f fd ps sp) (hr : Room k X.A) (O : Own X.K X.mg x f fd ps) (ha : PA X (e :: es) t) (hg : Gl X x := by rfl)
    (hdb : (x == ("__debug__" : Str)) = false := by decide) (he : starEach (e :: es) X.env = (false, eval e X.env) :: starEach es X.env := by rfl) (hpl : (backTo pos (starEach es X.env)).any (·.1) = false := by rfl) :
    PE X (.Call (.Name x p) (e :: es) [] pos) (tCalled sp t) := pe_callS (E := fun _ => E0) F hr hg O.g O.k O.b (fun _ _ _ _ _ _ _ h => h.elim) ha hdb he hpl
def tCalledR (sp : Sp) (W : WX) (t : TA) : TE := fun σ H Q => t σ H fun vs H1 => sp vs H1 Q fun c d H2 => W c d σ H2
/-- a call of a def that may raise -/
theorem pe_callR {W : WX} (F : FnOk X.prog X.w X.K X.mg X.base (L2.CX X.prog X.w) k f fd ps sp) (hr : Room k X.A) (O : Own X.K X.mg x f fd ps) (tk : Takes X W) (ha : PA X (e :: es) t) (hg : Gl X x := by rfl)
    (hdb : (x == ("__debug__" : Str)) = false := by decide) (he : starEach (e :: es) X.env = (false, eval e X.env) :: starEach es X.env := by rfl) (hpl : (backTo pos (starEach es X.env)).any (·.1) = false := by rfl) :
    PE X (.Call (.Name x p) (e :: es) [] pos) (tCalledR sp W t) := pe_callS (E := WE W) F hr hg O.g O.k O.b (fun σ => passAt tk σ) ha hdb he hpl
end
/-! ### exceptions with the one attribute «what» -/
/-- the __init__ of the family: self.what = what -/
def spInit (K : PySem.W.Frag) : Sp := fun vs H Q _ => ∃ (a C : Addr) (v : V), vs = [.ref a, v] ∧ OexC K C ∧ PySem.W.findIn K (.ref C) "what" = some none ∧ H a = some (exo a C none) ∧
  ∀ dx, H dx = none → dx ≠ a → Q .non (upd (upd H dx (exd dx [("what", v)])) a (exo a C (some dx)))
/-- what the written part says of such a class -/
structure ErrX (K : PySem.W.Frag) (C fI : Addr) : Prop where
  ox : OexC K C
  xf : XfC K C
  nw : PySem.W.findIn K (.ref C) "what" = some none
  ini : PySem.W.findIn K (.ref C) "__init__" = some (some (.ref fI))
  cl : PySem.W.isClsIn K C = true
  cc : PySem.W.findIn K (.ref C) "__class__" = some (some (.builtin "object.__class__"))
  mo : PySem.W.mroIn K C (.type "object") = some true
  se : PySem.W.subIn K (.ref C) (.ref C) = some true
/-- of the builtin that tells an object's class -/
structure ClsB (K : PySem.W.Frag) : Prop where
  sp : PySem.W.specialIn K (.builtin "object.__class__") "__get__" = some (some (.builtin "getset_descriptor.__get__"))
  tk : PySem.W.takesIn K (.builtin "object.__class__") = some true
theorem mk_what {K : PySem.W.Frag} {C fI : Addr} {v : V} {H1 : Hp} {Q : XK} {vs : List V} (T : ErrX K C fI) (ev : vs = [v]) (h : ∀ d, H1 d = none → Q (.ref C) (some d) (upd H1 d (.xd [("what", v)]))) :
    vs.length ≤ 1000 ∧ ∀ a, H1 a = none → spInit K (.ref a :: (vs ++ [])) (upd H1 a (exo a C none))
      (fun u H2 => u = .non ∧ ∃ (d : Addr) (fs : List (Str × V)), H2 a = some (exo a C (some d)) ∧ H2 d = some (exd d fs) ∧ H1 d = none ∧ Q (.ref C) (some d) (upd (del H2 a) d (.xd fs))) (fun _ _ _ => False) := by
  subst ev
  refine ⟨by show 1 ≤ 1000; decide, fun a ha => ⟨a, C, v, rfl, T.ox, T.nw, upd_same, fun dx hdx ne => ⟨rfl, dx, [("what", v)], upd_same, ?_, ?_, ?_⟩⟩⟩
  · rw [upd_ne ne, upd_same]
  · rw [upd_ne ne] at hdx
    exact hdx
  · rw [upd_ne ne] at hdx
    have e : upd (del (upd (upd (upd H1 a (exo a C none)) dx (exd dx [("what", v)])) a (exo a C (some dx))) a) dx (.xd [("what", v)]) = upd H1 dx (.xd [("what", v)]) := by
      funext b
      by_cases h1 : b = dx
      · rw [h1, upd_same, upd_same]
      · rw [upd_ne h1, upd_ne h1]
        by_cases h2 : b = a
        · rw [h2, del_same, ha]
        · rw [del_ne h2, upd_ne h2, upd_ne h1, upd_ne h2]
    rw [e]
    exact h dx hdx
/-- raise C(e) -/
def tRaised (C : Addr) (W : WX) (ta : TA) : TS := fun _ σ H => ta σ H fun vs H1 => ∃ v, vs = [v] ∧ ∀ d, H1 d = none → W (.ref C) (some d) σ (upd H1 d (.xd [("what", v)]))
section
variable {X : Cx} {C fI : Addr} {fd : FuncData} {x : Str} {p pos pos2 : Pos} {e : Expr} {ta : TA} {W : WX}
theorem PA.imp {es : List Expr} {t t' : TA} (h : PA X es t) (hi : ∀ σ H Q, t' σ H Q → t σ H Q) : PA X es t' := ⟨fun pos pins s σ H Q I q => h.run pos pins s σ H Q I (hi σ H Q q)⟩
theorem PS.imp {st : Stmt} {t t' : TS} (h : PS X st t) (hi : ∀ D σ H, t' D σ H → t D σ H) : PS X st t' := ⟨fun pins s σ H D I q => h.run pins s σ H D I (hi D σ H q)⟩
/-- a reading is monotone in its wish -/
def MonoA (t : TA) : Prop := ∀ σ H (Q Q' : List V → Hp → Prop), (∀ vs H1, Q vs H1 → Q' vs H1) → t σ H Q → t σ H Q'
theorem ps_raiseW (hc : X.calm = true) (T : ErrX X.K C fI) (G : FnOk X.prog X.w X.K X.mg X.base CX0 1 fI fd ["self", "what"] (spInit X.K)) (tI : PySem.W.typeIn X.K (.ref fI) = some (.type "function")) (bI : Binds X.K fd ["self", "what"] []) (hr : Room 2 X.A) (hm : X.mg x = some (.ref C))
    (tk : Takes X W) (ha : PA X (e :: []) ta) (mo : MonoA ta) (hg : Gl X x := by rfl) (hdb : (x == ("__debug__" : Str)) = false := by decide)
    (he : starEach (e :: []) X.env = (false, eval e X.env) :: starEach [] X.env := by rfl) (hpl : (backTo pos (starEach [] X.env)).any (·.1) = false := by rfl) :
    PS X (.Raise (some (.Call (.Name x p) (e :: []) [] pos)) none pos2) (tRaised C W ta) := by
  refine PS.imp (ps_raise hc tk (pmk_oex (pos := pos) T.ox T.ini tI G hr bI .nil pass0 hg hm ha hdb he hpl)) fun D σ H q => ?_
  refine mo σ H _ _ (fun vs H1 q => ?_) q
  obtain ⟨v, ev, h⟩ := q
  exact mk_what (Q := fun c d H' => W c d σ H') T ev h
theorem MonoA.nil : MonoA tNil := fun _ _ _ _ h q => h _ _ q
theorem MonoA.one {te : TE} (m : ∀ σ H (Q Q' : VK), (∀ v H1, Q v H1 → Q' v H1) → te σ H Q → te σ H Q') : MonoA (tCons te tNil) := fun σ H Q Q' h q => m σ H _ _ (fun v H1 z => h _ _ z) q
theorem mono_var {i : Nat} : ∀ σ H (Q Q' : VK), (∀ v H1, Q v H1 → Q' v H1) → tVar i σ H Q → tVar i σ H Q' := fun _ _ _ _ h ⟨v, e, q⟩ => ⟨v, e, h _ _ q⟩
theorem mono_c {v : V} : ∀ σ H (Q Q' : VK), (∀ v H1, Q v H1 → Q' v H1) → tC v σ H Q → tC v σ H Q' := fun _ _ _ _ h q => h _ _ q
end
/-- isinstance(e, c), isinstance(e, (c, ..)): e the exception that the suite holds -/
def cIsE (K : PySem.W.Frag) (D a dd : Addr) : List V → Hp → VK → Prop := fun xs H Q => ∃ (fs : List (Str × V)) (b : Bool), H dd = some (.xd fs) ∧
  ((∃ (c : V) (cv : Value), xs = [.ref a, c] ∧ ClsV c cv ∧ PySem.W.kitOne K (.ref D) cv = some b) ∨ ∃ (tp : Addr) (cs : List V) (us : List Value), xs = [.ref a, .ref tp] ∧ H tp = some (.tup cs) ∧ Paired ClsV cs us ∧ PySem.W.kitAny K (.ref D) us = some b) ∧ Q (.bl b) H
theorem call_isX {X : Cx} {a D dd fI : Addr} {oe : Obj} {pn : List (Addr × Obj)} (T : ErrX X.K D fI) (B : ClsB X.K) (hz : Zc (.ref D) (some dd) oe) (hf : ∃ vs, oe.data = .fields vs) : CallR (X.suite a ((a, oe) :: pn)) (.builtin "isinstance") (cIsE X.K D a dd) := by
  intro pins s σ H xs us Q I r h
  obtain ⟨fs, b, hdd, hc, q⟩ := h
  obtain ⟨mA, hns, _⟩ := (show ObjOk X.prog X.w H s.heap dd (.xd fs) from I.hok dd _ hdd)
  obtain ⟨od, ho, _⟩ := lookIn_ns hns
  obtain ⟨hget, _⟩ := I.pin (a, oe) (List.mem_append.mpr (.inl List.mem_cons_self))
  obtain ⟨vs, hv⟩ := hf
  have J : PySem.W.InstAt s.heap a oe D (some od) := ⟨hget, hz.1, by unfold PySem.W.notCls; rw [hv] <;> rfl, by rw [hz.2]; exact ho⟩
  have Z : PySem.W.KitX X.K (.ref a) (.ref D) (fun h => PySem.W.InstAt h a oe D (some od)) := PySem.W.kitx_exc T.cl T.xf.ga T.xf.gg T.xf.exC T.cc B.sp B.tk T.mo
  rcases hc with ⟨c, cv, rfl, hcv, e⟩ | ⟨tp, cs, ws, rfl, hT, hcs, e⟩
  · obtain ⟨u1, u2, rfl, r1, r2⟩ := vals2 r
    cases (show u1 = Value.ref a from r1)
    have e2 := hcv.eq r2
    subst e2
    exact PySem.W.kia_one Z I.kIn J e (fun z => nomatch z) fun tk => ⟨.bl b, H, I.tok tk, rfl, q⟩
  · obtain ⟨u1, u2, rfl, r1, r2⟩ := vals2 r
    cases (show u1 = Value.ref a from r1)
    cases (show u2 = Value.ref tp from r2)
    obtain ⟨_, its, rv, o, h1, h2, n, h3⟩ := (show ObjOk X.prog X.w H s.heap tp (.tup cs) from I.hok tp _ hT)
    have e3 := ClsV.all hcs rv
    subst e3
    obtain ⟨oc, od', dt, sl⟩ := o
    simp only at h2 h3
    subst h2 h3
    exact PySem.W.kia_tup Z I.kIn J h1 e (fun z => nomatch z) fun tk => ⟨.bl b, H, I.tok tk, rfl, q⟩
/-- an own class or a class of Python's beside it: what isinstance says -/
theorem kit_ref {K : PySem.W.Frag} {D C fI : Addr} {b : Bool} (T : ErrX K D fI) (cl : PySem.W.isClsIn K C = true) (ty : PySem.W.typeIn K (.ref C) = some (.type "type")) (s : PySem.W.subIn K (.ref D) (.ref C) = some b) : PySem.W.kitOne K (.ref D) (.ref C) = some b := by
  by_cases e : D = C
  · subst e
    rw [T.se] at s
    obtain rfl : true = b := Option.some.inj s
    unfold PySem.W.kitOne
    rw [if_pos (by simp)]
  · unfold PySem.W.kitOne
    rw [if_neg (by simp [e])]
    show (if ((PySem.W.clsIn K C).isSome && PySem.W.typeIn K (.ref C) == some (.type "type")) = true then PySem.W.subIn K (.ref D) (.ref C) else none) = some b
    have e1 : (PySem.W.clsIn K C).isSome = true := cl
    rw [e1, ty, s]
    rfl
theorem kit_bt {K : PySem.W.Frag} {D : Addr} {n : String} {b : Bool} (m : PySem.W.kitMeta n = true) (s : PySem.W.subIn K (.ref D) (.type n) = some b) : PySem.W.kitOne K (.ref D) (.type n) = some b := by
  unfold PySem.W.kitOne
  rw [if_neg (by simp)]
  show (if PySem.W.kitMeta n = true then PySem.W.subIn K (.ref D) (.type n) else none) = some b
  rw [if_pos m, s]

theorem PSs.exi {ι : Type} {X : Cx} {st : List Stmt} {P : ι → Prop} {t : ι → TS} (h : ∀ i, P i → PSs X st (t i)) : PSs X st (fun D σ H => ∃ i, P i ∧ t i D σ H) :=
  ⟨fun pins s σ H D I ⟨i, p, q⟩ => (h i p).run pins s σ H D I q⟩
/-- what a suite knows of its exception: its class, its dict, where the family's __init__ stands -/
structure Caught (K : PySem.W.Frag) (cls : Value) (d : Option Addr) (i : Addr × Addr × Addr) : Prop where
  c : cls = .ref i.1
  e : d = some i.2.1
  x : ErrX K i.1 i.2.2
theorem Caught.z {K : PySem.W.Frag} {cls : Value} {d : Option Addr} {i : Addr × Addr × Addr} {oe : Obj} (h : Caught K cls d i) (hz : Zc cls d oe) : Zc (.ref i.1) (some i.2.1) oe := ⟨hz.1.trans h.c, hz.2.trans h.e⟩
/-! ### reading of calls -/
section
variable {K : PySem.W.Frag} {σ : L2.St} {H : Hp} {Q : VK} {D : Ends} {tl : TA} {te ta tb : TE} {a : Int} {v x : V} {n : Nat} {W : WX} {C : Addr}
theorem rd_called {sp : Sp} (h : tl σ H fun vs H1 => sp vs H1 Q E0) : tCalled sp tl σ H Q := h
theorem rd_calledR {sp : Sp} (h : tl σ H fun vs H1 => sp vs H1 Q fun c d H2 => W c d σ H2) : tCalledR sp W tl σ H Q := h
theorem rd_raised (h : tl σ H fun vs H1 => ∃ v, vs = [v] ∧ ∀ d, H1 d = none → W (.ref C) (some d) σ (upd H1 d (.xd [("what", v)]))) : tRaised C W tl D σ H := h
theorem rd_raised1 {P : V → Prop} (h : P v) : ∃ v', [v] = [v'] ∧ P v' := ⟨v, rfl, h⟩
theorem rd_int (h : Q (.int a) H) : cInt [.int a] H Q := .inl ⟨a, rfl, h⟩
theorem rd_abs (h : Q (.int (if a < 0 then -a else a)) H) : cAbs [.int a] H Q := ⟨a, rfl, h⟩
theorem rd_lenL {p : Addr} {xs : List V} (e : SqL K H p xs) (h : Q (.int (xs.length : Nat)) H) : cLen K [.ref p] H Q := .inl ⟨_, _, rfl, .inl ⟨xs, e, rfl⟩, h⟩
theorem rd_lenT {p : Addr} {xs : List V} (e : SqT K H p xs) (h : Q (.int (xs.length : Nat)) H) : cLen K [.ref p] H Q := .inl ⟨_, _, rfl, .inr ⟨xs, e, rfl⟩, h⟩
theorem rd_lenS {z : Str} (e : z.length ≤ sizeLine) (h : Q (.int (z.length : Nat)) H) : cLen K [.str z] H Q := .inl ⟨_, _, rfl, ⟨e, rfl⟩, h⟩
theorem rd_ixL {p : Addr} {xs : List V} (e : SqL K H p xs) (ha : atI xs a = some v) (h : Q v H) : rIx K (.ref p) (.int a) H Q := .inl ⟨p, xs, a, v, rfl, rfl, e, ha, h⟩
theorem rd_ixT {p : Addr} {xs : List V} (e : SqT K H p xs) (ha : atI xs a = some v) (h : Q v H) : rIx K (.ref p) (.int a) H Q := .inr (.inl ⟨p, xs, a, v, rfl, rfl, e, ha, h⟩)
theorem rd_ixS {z : Str} {c : Nat} (e : z.length ≤ sizeLine) (ha : atI z.cps.toList a = some c) (h : Q (.str ⟨#[c]⟩) H) : rIx K (.str z) (.int a) H Q := .inr (.inr ⟨z, a, c, rfl, rfl, e, ha, h⟩)
theorem rd_inS {c : Nat} {z : Str} (h : Q (.bl (decide (c ∈ z.cps.toList))) H) : oIn K (.str ⟨#[c]⟩) (.str z) H Q := .inl ⟨c, z, rfl, rfl, h⟩
theorem rd_niS {c : Nat} {z : Str} (h : Q (.bl (!decide (c ∈ z.cps.toList))) H) : oNotIn K (.str ⟨#[c]⟩) (.str z) H Q := .inl ⟨c, z, rfl, rfl, h⟩
theorem rd_rng1 {ta : TA} {R : It → Hp → Prop} (h : ta σ H fun vs H1 => ∃ j : Int, vs = [.int j] ∧ -(2 ^ 62) ≤ j ∧ j < 2 ^ 62 ∧ R (Itr 0 j.toNat) H1) : iRng1 ta σ H R := h
theorem rd_rng2 {ta : TA} {R : It → Hp → Prop} (h : ta σ H fun vs H1 => ∃ i j : Int, vs = [.int i, .int j] ∧ (-(2 ^ 62) ≤ i ∧ i < 2 ^ 62 ∧ -(2 ^ 62) ≤ j ∧ j < 2 ^ 62) ∧ R (Itr i (j - i).toNat) H1) : iRng2 ta σ H R := h
theorem rd_bm {T : String} {r : V → List V → Hp → VK → Prop} {to : TE} {t : TA} (h : to σ H fun x H1 => tyV K T x H1 ∧ t σ H1 fun xs H2 => r x xs H2 Q) : tBM K T r to t σ H Q := h
theorem rd_andV (h : ta σ H fun x H1 => ∃ c, x = .bl c ∧ if c = true then tb σ H1 Q else Q (.bl false) H1) : tAndV ta tb σ H Q := h
theorem rd_orV (h : ta σ H fun x H1 => ∃ c, x = .bl c ∧ if c = true then Q (.bl true) H1 else tb σ H1 Q) : tOrV ta tb σ H Q := h
theorem rd_sl {r : V → Option Int → Option Int → Hp → VK → Prop} {tl th : TO} (h : te σ H fun x H1 => tl σ H1 fun l H2 => th σ H2 fun u H3 => r x l u H3 Q) : tSl r te tl th σ H Q := h
theorem rd_noPart {Q : Option Int → Hp → Prop} (h : Q none H) : tNoPart σ H Q := h
theorem rd_part {Q : Option Int → Hp → Prop} (h : te σ H fun x H1 => ∃ i, x = .int i ∧ Q (some i) H1) : tPart te σ H Q := h
theorem rd_intv {P : Int → Prop} (h : P a) : ∃ i, V.int a = .int i ∧ P i := ⟨a, rfl, h⟩
theorem rd_slS {z : Str} {lo hi : Option Int} (e : z.length ≤ sizeLine) (h : Q (.str (cutS z lo hi)) H) : oSl K (.str z) lo hi H Q := .inr (.inl ⟨z, rfl, e, h⟩)
end

section
variable {CX : CXT} {P : Program} {w : World} {K : PySem.W.Frag} {mg : Str → Option Value} {base : Heap} {N : List Str} {q : Str} {sc : Scope} {f : Addr} {cdv : Value} {A : Around} {outer : List Env} {s : Shared} {H : Hp} {E : XK}
theorem cxK : (cxOf CX P w K mg base N q sc f cdv A outer s H E).nox.K = K := rfl
theorem cxK' : (cxOf CX P w K mg base N q sc f cdv A outer s H E).K = K := rfl
end

/-! ### loops and comprehensions -/
def forB (g : TG) (tb : TS) (D : Ends) (σ : L2.St) (J : It) (H : Hp) : Prop := tFor (fun _ H R => R J H) g tb D σ H
def lcB (g : TG) (tt : TT) (te : TE) (vs : List Nat) (σ : L2.St) (Q : VK) (J : It) (H : Hp) : Prop := tLc (fun _ H R => R J H) g tt te vs σ H Q
section
variable {K : PySem.W.Frag} {σ : L2.St} {H : Hp} {Q : VK} {D : Ends} {wi : TI} {g : TG} {tb : TS} {tt : TT} {te : TE} {vs : List Nat} {J : It} {n : Nat} {G : Hp → Prop} {Y : Nat → Hp → V → Hp → Prop} {R : It → Hp → Prop}
theorem rd_for (h : wi σ H (forB g tb D σ)) : tFor wi g tb D σ H := h
theorem rd_lc (h : wi σ H (lcB g tt te vs σ Q)) : tLc wi g tt te vs σ H Q := h
theorem fo_range {n : Nat} (Pv : Nat → L2.St → Hp → Prop) (h0 : Pv 0 σ H) (hs : ∀ (i : Nat) σ H, i < n → Pv i σ H → g (.int (i : Int)) σ H fun σ2 H2 => tb { D with nx := Pv (i + 1), ct := Pv (i + 1), bk := D.nx } σ2 H2) (hd : ∀ σ H, Pv n σ H → D.nx σ H) : forB g tb D σ (Itr 0 n) H :=
  for_range (lo := 0) Pv h0 (fun i σ H hi p => by rw [Int.zero_add]; exact hs i σ H hi p) hd
theorem fo_range2 {lo : Int} {n : Nat} (Pv : Nat → L2.St → Hp → Prop) (h0 : Pv 0 σ H) (hs : ∀ (i : Nat) σ H, i < n → Pv i σ H → g (.int (lo + (i : Int))) σ H fun σ2 H2 => tb { D with nx := Pv (i + 1), ct := Pv (i + 1), bk := D.nx } σ2 H2) (hd : ∀ σ H, Pv n σ H → D.nx σ H) : forB g tb D σ (Itr lo n) H :=
  for_range (lo := lo) Pv h0 hs hd
theorem fo_it (w : Walk J n G Y) (Pv : Nat → L2.St → Hp → Prop) (h0 : Pv 0 σ H) (hG : ∀ i σ H, i ≤ n → Pv i σ H → G H)
    (hs : ∀ i x σ H H', i < n → Pv i σ H → Y i H x H' → g x σ H' fun σ2 H2 => tb { D with nx := Pv (i + 1), ct := Pv (i + 1), bk := D.nx } σ2 H2) (hd : ∀ σ H, Pv n σ H → D.nx σ H) : forB g tb D σ J H := for_it w Pv h0 hG hs hd
/-- over a text -/
theorem fo_str {z : Str} (Pv : Nat → L2.St → Hp → Prop) (h0 : Pv 0 σ H) (hs : ∀ (i : Nat) c σ H, z.cps.toList[i]? = some c → Pv i σ H → g (.str ⟨#[c]⟩) σ H fun σ2 H2 => tb { D with nx := Pv (i + 1), ct := Pv (i + 1), bk := D.nx } σ2 H2) (hd : ∀ σ H, Pv z.length σ H → D.nx σ H) : forB g tb D σ (Its z) H :=
  fo_it walk_str Pv h0 (fun _ _ _ _ _ => True.intro) (fun i x σ H H' hi p y => by
    obtain ⟨rfl, c, e, rfl⟩ := y
    exact hs i c σ _ (by rw [Array.getElem?_toList]; exact e) p) hd
theorem fo_list {a : Addr} {xs : List V} (Pv : Nat → L2.St → Hp → Prop) (h0 : Pv 0 σ H) (hl : ∀ i σ H, i ≤ xs.length → Pv i σ H → SqL K H a xs) (hs : ∀ (i : Nat) x σ H, xs[i]? = some x → Pv i σ H → g x σ H fun σ2 H2 => tb { D with nx := Pv (i + 1), ct := Pv (i + 1), bk := D.nx } σ2 H2)
    (hd : ∀ σ H, Pv xs.length σ H → D.nx σ H) : forB g tb D σ (Itl K a) H := for_list Pv h0 hl hs hd
theorem fo_tup {a : Addr} {xs : List V} (Pv : Nat → L2.St → Hp → Prop) (h0 : Pv 0 σ H) (hl : ∀ i σ H, i ≤ xs.length → Pv i σ H → SqT K H a xs) (hs : ∀ (i : Nat) x σ H, xs[i]? = some x → Pv i σ H → g x σ H fun σ2 H2 => tb { D with nx := Pv (i + 1), ct := Pv (i + 1), bk := D.nx } σ2 H2)
    (hd : ∀ σ H, Pv xs.length σ H → D.nx σ H) : forB g tb D σ (Itt K a) H := for_tup Pv h0 hl hs hd
/-- what is walked -/
theorem rd_anyL {a : Addr} {xs : List V} {te : TE} (he : ∀ Q : VK, Q (.ref a) H → te σ H Q) (hs : SqL K H a xs) (h : R (Itl K a) H) : iAny K te σ H R := .inl (he _ ⟨a, rfl, ⟨xs, hs⟩, h⟩)
theorem rd_anyT {a : Addr} {xs : List V} {te : TE} (he : ∀ Q : VK, Q (.ref a) H → te σ H Q) (hs : SqT K H a xs) (h : R (Itt K a) H) : iAny K te σ H R := .inr (.inl (he _ ⟨a, rfl, ⟨xs, hs⟩, h⟩))
theorem rd_anyS {z : Str} {te : TE} (he : ∀ Q : VK, Q (.str z) H → te σ H Q) (h : R (Its z) H) : iAny K te σ H R := .inr (.inr (he _ ⟨z, rfl, h⟩))
/-- a comprehension whose parts leave the heap -/
theorem lc_pure {j : Nat} {xs : Nat → V} {f : Nat → Bool} {v : Nat → V} (w : Walk J n G Y) (hY : ∀ i H x H', i < n → Y i H x H' → H' = H ∧ x = xs i) (hG : ∀ Hc, Ex H Hc → G Hc) (hn : n < 100000)
    (ht : ∀ i Hc, i < n → Ex H Hc → Ans tt ((wipe σ [j]).set j (some (xs i))) Hc (f i)) (he : ∀ i Hc, i < n → Ex H Hc → f i = true → Val te ((wipe σ [j]).set j (some (xs i))) Hc (v i))
    (h : ∀ L, H L = none → Q (.ref L) (upd H L (.lst (Evl.given n f v)))) : lcB (gName j) tt te [j] σ Q J H := by
  intro L hL
  have hz : ∀ m, m ≤ n → (Evl.given m f v).length < sizeLine := fun m hm => Nat.lt_of_le_of_lt (Evl.given_len m f v) (Nat.lt_of_le_of_lt hm (Nat.lt_trans hn (by decide)))
  refine lc_it w (fun i Hc => i ≤ n ∧ Hc = upd H L (.lst (Evl.given i f v))) ⟨Nat.zero_le _, rfl⟩ (fun i Hc _ p => ?_) (fun i x Hc H' hi p y => ?_) fun Hc p => ?_
  · obtain ⟨_, rfl⟩ := p
    exact hG _ (Evl.Ex.new hL)
  · obtain ⟨hi1, rfl⟩ := p
    obtain ⟨rfl, rfl⟩ := hY _ _ _ _ hi y
    have e0 := Evl.Ex.new (o := .lst (Evl.given i f v)) hL
    refine ⟨by simp [wipe], ?_⟩
    refine ht i _ hi e0 _ ?_
    cases hf : f i with
    | true =>
      refine rd_iteT ?_
      refine he i _ hi e0 hf _ ?_
      refine ⟨_, upd_same, hz i (Nat.le_of_lt hi), hi, ?_⟩
      rw [upd_upd, Evl.given_yes hf]
    | false =>
      refine rd_iteF ⟨hi, ?_⟩
      rw [Evl.given_no hf]
  · obtain ⟨_, rfl⟩ := p
    exact h L hL
theorem rd_yes {QB : Bool → Hp → Prop} (h : QB true H) : tYes σ H QB := h
theorem ans_yes : Ans tYes σ H true := fun _ q => q
end
/-- the list that is given -/
theorem given_eq {α : Type} (l : List α) (p : α → Bool) (f : α → V) (q : Nat → Bool) (v : Nat → V) (hq : ∀ i x, l[i]? = some x → q i = p x) (hv : ∀ i x, l[i]? = some x → v i = f x) : ∀ n, n ≤ l.length → Evl.given n q v = ((l.take n).filter p).map f
  | 0, _ => rfl
  | n + 1, h => by
    have hx : l[n]? = some (l[n]'h) := List.getElem?_eq_getElem h
    have ih := given_eq l p f q v hq hv n (Nat.le_of_lt h)
    rw [List.take_succ, hx]
    cases e : p (l[n]'h) with
    | true =>
      rw [Evl.given_yes ((hq _ _ hx).trans e), ih, List.filter_append, List.map_append, hv _ _ hx]
      simp [e]
    | false =>
      rw [Evl.given_no ((hq _ _ hx).trans e), ih, List.filter_append, List.map_append]
      simp [e]

theorem rd_gsub {to ti : TE} {t : TSet} {v : V} {σ : L2.St} {H : Hp} {Q : L2.St → Hp → Prop} (h : to σ H fun o H1 => ti σ H1 fun i H2 => t o i v H2 fun H3 => Q σ H3) : gSub to ti t v σ H Q := h
theorem rd_while {tt : TT} {tb : TS} {D : Ends} {σ : L2.St} {H : Hp} (Pv : L2.St → Hp → Prop) (μ : L2.St → Hp → Nat) (h0 : Pv σ H)
    (hs : ∀ σ H, Pv σ H → tt σ H fun b H1 => if b = true then tb { D with nx := fun σ' H' => Pv σ' H' ∧ μ σ' H' < μ σ H, ct := fun σ' H' => Pv σ' H' ∧ μ σ' H' < μ σ H, bk := D.nx } σ H1 else D.nx σ H1)
    (mono : ∀ σ H Q Q', (∀ b H1, Q b H1 → Q' b H1) → tt σ H Q → tt σ H Q') : tWhile tt tb D σ H := while_by Pv μ h0 hs mono

/-! ### the same, the written part named -/
section
variable {X : Cx} (K : PySem.W.Frag) (hK : X.K = K := by rfl)
include hK
theorem kAdd : OpR X (binaryOp .Add) (oAdd K) := hK ▸ op_addP
theorem kEq (hu : X.A.units + 64 < cLine) : OpR X (compareOp .Eq) (oEq K) := hK ▸ op_eqP hu
theorem kNe (hu : X.A.units + 64 < cLine) : OpR X (compareOp .NotEq) (oNe K) := hK ▸ op_neP hu
theorem kIn : OpR X (compareOp .In) (oIn K) := hK ▸ op_inP
theorem kNotIn : OpR X (compareOp .NotIn) (oNotIn K) := hK ▸ op_notInP
theorem kLen : CallR X (.builtin "len") (cLen K) := hK ▸ call_lenP
theorem kSl : SlR X (oSl K) := hK ▸ sl_P
theorem kIx : IxR X (rIx K) := hK ▸ ix_seq
theorem kAny {tg e : Expr} {te : TE} (he : PE X e te) : PI X tg e (iAny K te) := hK ▸ pi_any he
theorem kAll (hc : X.calm = true := by rfl) : CallR X (.builtin "all") (rAll K) := hK ▸ cr_all hc
theorem kAnyOf (hc : X.calm = true := by rfl) : CallR X (.builtin "any") (rAny K) := hK ▸ cr_any hc
theorem kSum (hc : X.calm = true := by rfl) : CallR X (.builtin "sum") (rSum K) := hK ▸ cr_sum hc
end
section
variable {X : Cx} {x : Str} {pos : Pos}
theorem pe_globS {s : Str} {t : Tok} (hg : Gl X x) (hm : X.mg x = some (.str s t)) (hd : (x == ("__debug__" : Str)) = false := by decide) : PE X (.Name x pos) (tC (.str s)) := pe_glob hg hm ⟨t, rfl⟩ hd
theorem pe_globI {i : Int} {t : Tok} (hg : Gl X x) (hm : X.mg x = some (.int i t)) (hd : (x == ("__debug__" : Str)) = false := by decide) : PE X (.Name x pos) (tC (.int i)) := pe_glob hg hm ⟨t, rfl⟩ hd
theorem pe_globR {a : Addr} (hg : Gl X x) (hm : X.mg x = some (.ref a)) (hd : (x == ("__debug__" : Str)) = false := by decide) : PE X (.Name x pos) (tC (.ref a)) := pe_glob (v := .ref a) hg hm rfl hd
end

theorem rd_iteNF {A B : Prop} (h : A) : if (!false) = true then A else B := iteT h
theorem rd_iteNT {A B : Prop} (h : B) : if (!true) = true then A else B := iteF h

section
variable {X : Cx} {x : Str} {pos : Pos}
theorem pe_blT {n : String} (hg : Gl X x) (hm : X.mg x = none) (hv : bootBuiltins x = some (.type n)) (hn : x ≠ "__name__" := by decide) (hd : (x == ("__debug__" : Str)) = false := by decide) : PE X (.Name x pos) (tC (.ty n)) := pe_bltn (v := .ty n) hg hm hv rfl hn hd
end
/-! ### lists of flat values compared -/
def okS (z : Str) : Prop := PyData.strOk z = true
theorem okS_iff {z : Str} : okS z ↔ ∀ c ∈ z.cps.toList, c < 0x110000 := by
  unfold okS PyData.strOk
  rw [← Array.all_toList, List.all_eq_true]
  exact ⟨fun h c hc => by simpa using h c hc, fun h c hc => by simpa using h c hc⟩
theorem okS_app {x y : Str} (hx : okS x) (hy : okS y) : okS (x ++ y) := okS_iff.mpr fun c hc => by
  have e : (x ++ y).cps.toList = x.cps.toList ++ y.cps.toList := TL.tl_append x y
  rw [e] at hc
  exact (List.mem_append.mp hc).elim (okS_iff.mp hx c) (okS_iff.mp hy c)
theorem okS_one {z : Str} {c : Nat} (hz : okS z) (hc : c ∈ z.cps.toList) : okS ⟨#[c]⟩ := okS_iff.mpr fun d hd => by
  have e : d = c := by simpa using hd
  rw [e]
  exact okS_iff.mp hz c hc
theorem okS_sub {x y : Str} (hy : okS y) (h : ∀ c ∈ x.cps.toList, c ∈ y.cps.toList) : okS x := okS_iff.mpr fun c hc => okS_iff.mp hy c (h c hc)
def dOf : V → PyData
  | .bl b => .bool b
  | .int i => .int i
  | .str x => .str x
  | _ => .none
def flat1 : V → Bool
  | .non => true
  | .bl _ => true
  | .int _ => true
  | .str x => PyData.strOk x
  | _ => false
theorem dp_flat {K : PySem.W.Frag} {H : Hp} {v : V} (h : flat1 v = true) : Dp K H v (dOf v) := by
  cases v with
  | non => exact .non
  | bl b => exact .bl b
  | int i => exact .int i
  | str x => exact .str x
  | byt _ => exact absurd h Bool.false_ne_true
  | flt _ => exact absurd h Bool.false_ne_true
  | ref _ => exact absurd h Bool.false_ne_true
  | ty _ => exact absurd h Bool.false_ne_true
theorem lay_flat {v : V} (h : flat1 v = true) : (dOf v).canLay0 = true ∧ (dOf v).depth = 0 := by
  cases v with
  | str x => exact ⟨h, rfl⟩
  | _ => exact ⟨rfl, rfl⟩
theorem dpAll_flat {K : PySem.W.Frag} {H : Hp} : ∀ {xs : List V}, xs.all flat1 = true → DpAll K H xs (xs.map dOf)
  | [], _ => .nil
  | v :: xs, h => by
    rw [List.all_cons, Bool.and_eq_true] at h
    exact .cons (dp_flat h.1) (dpAll_flat h.2)
theorem lay_all : ∀ {xs : List V}, xs.all flat1 = true → PyData.canLayAll0 (xs.map dOf) = true ∧ PyData.depthAll (xs.map dOf) = 0
  | [], _ => ⟨rfl, rfl⟩
  | v :: xs, h => by
    rw [List.all_cons, Bool.and_eq_true] at h
    obtain ⟨h1, h2⟩ := lay_flat h.1
    obtain ⟨h3, h4⟩ := lay_all h.2
    refine ⟨?_, ?_⟩
    · show ((dOf v).canLay0 && PyData.canLayAll0 (xs.map dOf)) = true
      rw [h1, h3]
      rfl
    · show max (dOf v).depth (PyData.depthAll (xs.map dOf)) = 0
      rw [h2, h4]
      rfl
theorem shaped_list {xs : List V} (h : xs.all flat1 = true) : SeqAt.shaped (.list (xs.map dOf)) = true := by
  obtain ⟨h1, h2⟩ := lay_all h
  refine Bool.and_eq_true_iff.mpr ⟨h1, decide_eq_true ?_⟩
  show PyData.depthAll (xs.map dOf) + 1 ≤ 64
  rw [h2]
  decide
theorem refl_list {xs : List V} (h : xs.all flat1 = true) : PyData.eqv (.list (xs.map dOf)) (.list (xs.map dOf)) = true := SeqAt.eqv_refl _ (lay_all h).1
section
variable {K : PySem.W.Frag} {p q : Addr} {xs : List V} {H : Hp} {Q : VK}
theorem rd_neL (hp : SqL K H p xs) (hq : SqL K H q xs) (hf : xs.all flat1 = true) (h : Q (.bl false) H) : oNe K (.ref p) (.ref q) H Q :=
  .inr ⟨_, _, .lst hp (dpAll_flat hf), .lst hq (dpAll_flat hf), shaped_list hf, shaped_list hf, by rw [refl_list hf]; exact h⟩
theorem rd_eqL (hp : SqL K H p xs) (hq : SqL K H q xs) (hf : xs.all flat1 = true) (h : Q (.bl true) H) : oEq K (.ref p) (.ref q) H Q :=
  .inr ⟨_, _, .lst hp (dpAll_flat hf), .lst hq (dpAll_flat hf), shaped_list hf, shaped_list hf, by rw [refl_list hf]; exact h⟩
theorem rd_eqNil (hp : SqL K H p xs) (hq : SqL K H q []) (hf : xs.all flat1 = true) (h : Q (.bl xs.isEmpty) H) : oEq K (.ref p) (.ref q) H Q :=
  .inr ⟨_, .list [], .lst hp (dpAll_flat hf), .lst hq .nil, shaped_list hf, rfl, by
    cases xs with
    | nil => exact h
    | cons a r => exact h⟩
end
theorem rd_reprB {b : Bool} {H : Hp} {Q : VK} (h : Q (.str (if b then "True" else "False")) H) : cRepr [.bl b] H Q := .inr ⟨b, rfl, h⟩

section
variable {σ : L2.St} {H : Hp} {Q : VK} {D : Ends} {t u : TS} {te ta tb : TE} {g : TG} {a b : Bool}
theorem rd_seqA (h : tAsg te g { D with nx := u D } σ H) : tSeq (tAsg te g) u D σ H := h
theorem rd_seqD (h : tDrop te { D with nx := u D } σ H) : tSeq (tDrop te) u D σ H := h
/-- a statement, then the rest: R is what holds between -/
theorem rd_cut (R : L2.St → Hp → Prop) (h1 : ∀ N : L2.St → Hp → Prop, (∀ σ H, R σ H → N σ H) → t { D with nx := N } σ H) (h2 : ∀ σ H, R σ H → u D σ H) : tSeq t u D σ H := h1 (u D) h2
theorem val_andV (h1 : Val ta σ H (.bl a)) (h2 : a = true → Val tb σ H (.bl b)) : Val (tAndV ta tb) σ H (.bl (a && b)) := fun Q q => h1 _ ⟨a, rfl, by
  cases a with
  | true => exact iteT (h2 rfl _ q)
  | false => exact iteF q⟩
theorem val_orV (h1 : Val ta σ H (.bl a)) (h2 : a = false → Val tb σ H (.bl b)) : Val (tOrV ta tb) σ H (.bl (a || b)) := fun Q q => h1 _ ⟨a, rfl, by
  cases a with
  | true => exact iteT q
  | false => exact iteF (h2 rfl _ q)⟩
theorem val_is {v w : V} (h : Val te σ H v) (e : v = w) : Val te σ H w := e ▸ h
theorem rd_val {v : V} (h : Val te σ H v) (q : Q v H) : te σ H Q := h Q q
end

theorem rd_idS {t u : TS} {D : Ends} {σ : L2.St} {H : Hp} (h : tSeq t u D σ H) : tSeq t u D σ H := h
theorem rd_idI {c : TT} {t u : TS} {D : Ends} {σ : L2.St} {H : Hp} (h : tIfS c t u D σ H) : tIfS c t u D σ H := h
end AT

set_option Elab.async false
set_option linter.all false
set_option maxRecDepth 100000
set_option maxHeartbeats 4000000
/-! own words, second part: objects that are made and asked where something may be raised; data; tuples -/
namespace AT
open PySem PySem.Spec L2
section
variable {X : Cx} {Cx1 : CXT} {n : Nat} {fa Ca : Addr} {fn : FuncData} {pr : List Str} {pm : Sp} {W : WX} {nm mt : Str} {q1 q2 q3 : Pos} {o a0 : Expr} {as : List Expr} {to : TE} {ta : TA}
/-- C(..) whose __init__ may raise -/
def tMakeR (C : Addr) (sp : Sp) (W : WX) (t : TA) : TE := fun σ H Q => t σ H fun vs H1 => ∀ x dx, H1 x = none → H1 dx = none → dx ≠ x → sp (.ref x :: vs) (upd (upd H1 dx (.own x)) x (.ins C dx [])) (fun v H2 => v = .non ∧ Q (.ref x) H2) fun c d H2 => W c d σ H2
theorem pe_makeR (M : Mk X.K Ca fa) (G : FnOk X.prog X.w X.K X.mg X.base (L2.CX X.prog X.w) n fa fn pr pm) (hr : Room (n + 1) X.A) (hm : X.mg nm = some (.ref Ca)) (hb : Binds X.K fn pr []) (tk : Takes X W) (ha : PA X (a0 :: as) ta) (hg : Gl X nm := by rfl)
    (hdb : (nm == ("__debug__" : Str)) = false := by decide) (he : starEach (a0 :: as) X.env = (false, eval a0 X.env) :: starEach as X.env := by rfl) (hpl : (backTo q2 (starEach as X.env)).any (·.1) = false := by rfl) :
    PE X (.Call (.Name nm q1) (a0 :: as) [] q2) (tMakeR Ca pm W ta) := by
  refine ⟨fun P s σ H Q I h => wpAny_Call_Name_kw (ld_glob I hg hm ?_ hdb)⟩
  refine PySem.W.callWith_K (h₀ := X.base) I.ok.mod.kin M.kp (thn (ha.run q2 P s σ H _ I h) fun us t ⟨vs, H1, J, rv, q⟩ => ⟨J.kIn, ?_⟩) he hpl
  have fresh1 := J.hok.fresh (Nat.le_succ t.heap.objs.size)
  have fresh0 := J.hok.fresh (Nat.le_refl t.heap.objs.size)
  have asked := q _ _ fresh1 fresh0 (Nat.ne_of_lt (Nat.lt_succ_self _))
  have J2 := Inv.made (C := Ca) J
  have rel : Vals (V.ref (t.heap.objs.size + 1) :: vs) (Value.ref (t.heap.objs.size + 1) :: us) := .cons rfl rv
  have len : (Value.ref (t.heap.objs.size + 1) :: us ++ []).length = pr.length := by
    rw [List.append_nil, ← rel.length]
    exact G.len _ _ _ _ asked
  have bind := hb _ (Value.ref (t.heap.objs.size + 1) :: us) J2.kIn len
  rw [List.append_nil] at bind
  have ran := G.run _ X.stack _ _ ⟨Value.ref (t.heap.objs.size + 1) :: us, []⟩ _ _ _ (fun c d H2 => W c d σ H2) (hr.make Ca us []) (J2.env0.make Ca us []) bind rel asked
  refine wpAny_call (make_map (f := fa) J.kIn M.makes M.init (beq_iff_eq.mp M.fn) (codeAny_mono ran fun res z hz => ?_))
  cases res with
  | error er => exact passAt tk σ _ _ _ _ _ J2 hz
  | ok fl =>
    cases fl with
    | ret u =>
      have back := J2.after hz
      obtain ⟨v, H3, J3, r3, e3, q3⟩ := back
      subst e3
      exact ⟨r3, .ref (t.heap.objs.size + 1), H3, J3, rfl, q3⟩
    | next => exact hz.elim
    | brk => exact hz.elim
    | cont => exact hz.elim
/-- o.m(..) whose m may raise -/
def tMethR (C : Addr) (m : Str) (sp : Sp) (W : WX) (to : TE) (t : TA) : TE := fun σ H Q => to σ H fun x H1 => ∃ a dx fs, x = .ref a ∧ H1 a = some (.ins C dx fs) ∧ fs.lookup m = none ∧ t σ H1 fun vs H2 => sp (x :: vs) H2 Q fun c d H3 => W c d σ H3
theorem pe_methRs {pl : Sem Bool} (hmt : Meth X.K Ca mt fa) (cl : Cls X.K Ca) (ho : PE X o to) (G : FnOk X.prog X.w X.K X.mg X.base (L2.CX X.prog X.w) n fa fn pr pm) (hr : Room n X.A) (hb : Binds X.K fn pr []) (tk : Takes X W) (ha : PA X (a0 :: as) ta)
    (hst : starEach (a0 :: as) X.env = (false, eval a0 X.env) :: starEach as X.env := by rfl) (hpl : (backTo q2 (starEach as X.env)).any (·.1) = false := by rfl)
    (ht : eval (.Call (.Attribute o mt q3) (a0 :: as) [] q2) X.env = (do
      let r ← eval o X.env
      standAt q3.atName
      let (g, more) ← holding [r] (getMethod r mt pl)
      callWith q2 g more (backTo q2 (starEach (a0 :: as) X.env)) (backToKw q2 (keywordEach [] X.env))) := by rfl) : PE X (.Call (.Attribute o mt q3) (a0 :: as) [] q2) (tMethR Ca mt pm W to ta) := by
  refine ⟨fun P s σ H Q I h => PySem.W.methodCall_KW (pl := pl) (thn (ho.run P s σ H _ I h) fun u t ⟨x, H1, J, rx, a, dx, fs, ex, ea, nl, q⟩ => ?_) ht⟩
  subst ex
  obtain rfl : u = Value.ref a := rx
  refine getmeth_ok J ea cl hmt nl (PySem.W.callWith_K (first := [.ref a]) (h₀ := X.base) J.ok.mod.kin hmt.kp (thn (ha.run q2 P t σ H1 _ J q) fun us t2 ⟨vs, H2, J2, rv, z⟩ => ⟨J2.kIn, ?_⟩) hst hpl)
  exact run_fnS (us := .ref a :: us) (vs := .ref a :: vs) (E := WE W) G hr hb (passAt tk σ) J2 (.cons rfl rv) z
theorem pe_methR0 {pl : Sem Bool} (hmt : Meth X.K Ca mt fa) (cl : Cls X.K Ca) (ho : PE X o to) (G : FnOk X.prog X.w X.K X.mg X.base (L2.CX X.prog X.w) n fa fn pr pm) (hr : Room n X.A) (hb : Binds X.K fn pr []) (tk : Takes X W)
    (ht : eval (.Call (.Attribute o mt q3) [] [] q2) X.env = (do
      let r ← eval o X.env
      standAt q3.atName
      let (g, more) ← holding [r] (getMethod r mt pl)
      callWith q2 g more (backTo q2 (starEach [] X.env)) (backToKw q2 (keywordEach [] X.env))) := by rfl) : PE X (.Call (.Attribute o mt q3) [] [] q2) (tMethR Ca mt pm W to tNil) := by
  refine ⟨fun P s σ H Q I h => PySem.W.methodCall_KW (pl := pl) (thn (ho.run P s σ H _ I h) fun u t ⟨x, H1, J, rx, a, dx, fs, ex, ea, nl, q⟩ => ?_) ht⟩
  subst ex
  obtain rfl : u = Value.ref a := rx
  refine getmeth_ok J ea cl hmt nl ?_
  exact PySem.W.callWith_K0 (first := [.ref a]) J.kIn hmt.kp (run_fnS (us := [.ref a]) (vs := [.ref a]) (E := WE W) G hr hb (passAt tk σ) J (.cons rfl .nil) q)
end

/-! ### the place of a sign in a text -/
section
open PySem.Builtin.Str PySem.StrLaws
theorem first_sign (x : Str) (c : Nat) (h : c ∈ x.cps.toList) : ∃ rest, occurrences x ⟨#[c]⟩ 0 x.length 1 = x.cps.toList.idxOf c :: rest := by
  have key := occ_first x ⟨#[c]⟩ x.length 1 (Nat.le_refl 1) (List.range' 0 (x.length + 1 - 0)) 0 fun _ _ => Nat.zero_le _
  rw [occ_eq]
  have sub := fun k => subAt_one x c k
  rcases key with ⟨_, hn⟩ | ⟨pre, i, post, e, h0, hi, hn⟩
  · obtain ⟨j, hj⟩ := List.getElem?_of_mem h
    have hlt : j < x.length := (List.getElem?_eq_some_iff.mp hj).1
    exact absurd ((sub j).mpr hj) (hn j (List.mem_range'.mpr ⟨j, by omega, by omega⟩))
  · have hx := (sub i).mp hi
    have before : ∀ k, k < i → x.cps.toList[k]? ≠ some c := fun k hk q => hn k (range'_split e k hk) ((sub k).mpr q)
    obtain ⟨hl, hv⟩ := List.getElem?_eq_some_iff.mp hx
    have e2 : x.cps.toList.idxOf c = i := by
      have hlt : x.cps.toList.idxOf c < x.cps.toList.length := List.idxOf_lt_length_iff.mpr h
      have hget : x.cps.toList[x.cps.toList.idxOf c] = c := List.getElem_idxOf hlt
      rcases Nat.lt_trichotomy (x.cps.toList.idxOf c) i with z | z | z
      · exact absurd (List.getElem?_eq_some_iff.mpr ⟨hlt, hget⟩) (before _ z)
      · exact z
      · exact absurd hv (by
          have := List.not_of_lt_findIdx (p := (· == c)) (xs := x.cps.toList) z
          simpa using this)
    rw [e2]
    generalize hg : (forIn (List.range' 0 (x.length + 1 - 0)) ((#[] : Array Nat), 0) (occBody x ⟨#[c]⟩ x.length 1)).run.fst = arr at h0
    cases hl : arr.toList with
    | nil =>
      rw [← Array.getElem?_toList, hl] at h0
      cases h0
    | cons a r =>
      rw [← Array.getElem?_toList, hl] at h0
      exact ⟨r, by rw [Option.some.inj (show some a = some i from h0)]⟩
end
def mIdx : V → List V → Hp → VK → Prop := fun x xs H Q => ∃ (a : Str) (c : Nat), x = .str a ∧ xs = [.str ⟨#[c]⟩] ∧ c ∈ a.cps.toList ∧ Q (.int (a.cps.toList.idxOf c : Nat)) H
section
variable {X : Cx}
theorem mt_strIdx : MtR X "str.index" mIdx := by
  intro P s σ H x xs v us Q I rx rs h
  obtain ⟨a, c, ex, es, hc, q⟩ := h
  obtain ⟨rest, e⟩ := first_sign a c hc
  exact mt_sindex P s σ H x xs v us Q I rx rs ⟨a, _, _, rest, ex, es, e, q⟩
/-! ### the least and the greatest of a tuple of ints -/
theorem reads_ints {hp : Heap} : ∀ {ns : List Int} {us : List Value}, Vals (ns.map V.int) us → ReadsAll hp us (ns.map PyData.int) []
  | [], _, r => by cases r; exact .nil
  | n :: ns, _, r => by
    cases r with
    | cons r1 r2 =>
      obtain ⟨t, rfl⟩ := r1
      exact ReadsAll.cons (as := []) (bs := []) (.int n t) (reads_ints r2)
theorem alike_ints (ns : List Int) : PySem.W.AlikeAll (ns.map PyData.int) := ⟨fun x hx y hy => by
  obtain ⟨a, _, rfl⟩ := List.mem_map.mp hx
  obtain ⟨b, _, rfl⟩ := List.mem_map.mp hy
  rfl, fun x hx => by
  obtain ⟨a, _, rfl⟩ := List.mem_map.mp hx
  exact fun z => by cases z⟩
theorem depth_ints : ∀ ns : List Int, PyData.depthAll (ns.map PyData.int) = 0
  | [] => rfl
  | n :: ns => by
    show max 0 (PyData.depthAll (ns.map PyData.int)) = 0
    rw [depth_ints ns]
    rfl
/-- min(t), max(t): t a tuple of ints, not empty -/
def cMinT (K : PySem.W.Frag) : List V → Hp → VK → Prop := fun vs H Q => ∃ (a : Addr) (n : Int) (ns : List Int), vs = [.ref a] ∧ SqT K H a ((n :: ns).map V.int) ∧ Q (.int (ns.foldl min n)) H
def cMaxT (K : PySem.W.Frag) : List V → Hp → VK → Prop := fun vs H Q => ∃ (a : Addr) (n : Int) (ns : List Int), vs = [.ref a] ∧ SqT K H a ((n :: ns).map V.int) ∧ Q (.int (ns.foldl max n)) H
theorem call_minT (hc : X.calm = true) (hu : X.A.units + 64 < cLine) : CallR X (.builtin "min") (cMinT X.K) := by
  intro P s σ H vs us Q I r h
  obtain ⟨a, n, ns, rfl, ht, q⟩ := h
  obtain ⟨u, rfl, ru⟩ := vals1 r
  cases (show u = Value.ref a from ru)
  obtain ⟨its, rv, pl, _⟩ := I.tuple ht
  refine PySem.W.min_tuple_data (x := .int n) (xs := ns.map .int) (I.ok.hd hc) pl (reads_ints (ns := n :: ns) rv) (alike_ints (n :: ns)) (by
    have e := depth_ints (n :: ns)
    rw [List.map_cons] at e
    rw [e]
    omega) fun i v h' tk bs hv hr hk => ?_
  rw [PySem.W.minD_ints] at hr
  cases hr with
  | int _ t => exact ⟨.int _, H, I.kept hk, ⟨t, rfl⟩, q⟩
theorem call_maxT (hc : X.calm = true) (hu : X.A.units + 64 < cLine) : CallR X (.builtin "max") (cMaxT X.K) := by
  intro P s σ H vs us Q I r h
  obtain ⟨a, n, ns, rfl, ht, q⟩ := h
  obtain ⟨u, rfl, ru⟩ := vals1 r
  cases (show u = Value.ref a from ru)
  obtain ⟨its, rv, pl, _⟩ := I.tuple ht
  refine PySem.W.max_tuple_data (x := .int n) (xs := ns.map .int) (I.ok.hd hc) pl (reads_ints (ns := n :: ns) rv) (alike_ints (n :: ns)) (by
    have e := depth_ints (n :: ns)
    rw [List.map_cons] at e
    rw [e]
    omega) fun i v h' tk bs hv hr hk => ?_
  rw [PySem.W.maxD_ints] at hr
  cases hr with
  | int _ t => exact ⟨.int _, H, I.kept hk, ⟨t, rfl⟩, q⟩
end

section
variable {X : Cx} (K : PySem.W.Frag) (hK : X.K = K := by rfl)
include hK
theorem kMin (hu : X.A.units + 64 < cLine) (hc : X.calm = true := by rfl) : CallR X (.builtin "min") (cMinT K) := hK ▸ call_minT hc hu
theorem kMax (hu : X.A.units + 64 < cLine) (hc : X.calm = true := by rfl) : CallR X (.builtin "max") (cMaxT K) := hK ▸ call_maxT hc hu
theorem kFld {o : Expr} {f : Str} {p : Pos} {te : TE} (h : PE X (.Attribute o f p) (tFld X.K te f)) : PE X (.Attribute o f p) (tFld K te f) := hK ▸ h
theorem kBm {e : Expr} {T : String} {r : V → List V → Hp → VK → Prop} {to : TE} {t : TA} (h : PE X e (tBM X.K T r to t)) : PE X e (tBM K T r to t) := hK ▸ h
theorem kBm0 {e : Expr} {T : String} {r : V → List V → Hp → VK → Prop} {to : TE} (h : PE X e (tBM0 X.K T r to)) : PE X e (tBM0 K T r to) := hK ▸ h
def cTupOf (K : PySem.W.Frag) : List V → Hp → VK → Prop := fun xs H Q => ∃ p ys, xs = [.ref p] ∧ ((SqL K H p ys ∧ ∀ l, H l = none → Q (.ref l) (upd H l (.tup ys))) ∨ (SqT K H p ys ∧ Q (.ref p) H))
def cLstOf (K : PySem.W.Frag) : List V → Hp → VK → Prop := fun xs H Q => ∃ p ys, xs = [.ref p] ∧ (SqL K H p ys ∨ SqT K H p ys) ∧ ∀ l, H l = none → Q (.ref l) (upd H l (.lst ys))
def mJoin (K : PySem.W.Frag) : V → List V → Hp → VK → Prop := fun x xs H Q => ∃ a p, ∃ ys : List Str, x = .str a ∧ xs = [.ref p] ∧ (SqL K H p (ys.map V.str) ∨ SqT K H p (ys.map V.str)) ∧ (ys.map (·.length)).sum + ys.length * a.length ≤ 16777216 ∧ Q (.str (Txt.join a ys)) H
theorem kTupOf : CallR X (.type "tuple") (cTupOf K) := hK ▸ call_tuple_of
theorem kLstOf : CallR X (.type "list") (cLstOf K) := hK ▸ call_list_of
theorem kJoin : MtR X "str.join" (mJoin K) := hK ▸ mt_join
end
/-! ### a text, several times -/
def oMulP : R2 := fun x y H Q => oMul x y H Q ∨ ∃ (z : Str) (n : Int), x = .str z ∧ y = .int n ∧ MulOk z n ∧ Q (.str (Txt.mul z n)) H
theorem op_mulS {X : Cx} : OpR X (binaryOp .Mult) (fun x y H Q => ∃ (z : Str) (n : Int), x = .str z ∧ y = .int n ∧ MulOk z n ∧ Q (.str (Txt.mul z n)) H) := by
  intro P s σ H x y v u Q I rx ry h
  obtain ⟨z, n, rfl, rfl, ok, q⟩ := h
  obtain ⟨t, rfl⟩ := rx
  obtain ⟨t2, rfl⟩ := ry
  exact PySem.SB.mul ok fun t' k => ⟨.str _, H, I.tok _, ⟨t', rfl⟩, q⟩
theorem op_mulPP {X : Cx} : OpR X (binaryOp .Mult) oMulP := OpR.or op_mulP op_mulS
section
variable {K : PySem.W.Frag} {σ : L2.St} {H : Hp} {Q : VK} {D : Ends} {te tv : TE} {f : Str} {a C dx : Addr} {fs : List (Str × V)} {v : V} {t : TA} {sp : Sp} {W : WX}
theorem rd_fld (h : te σ H fun x H1 => ∃ a C dx fs v, x = .ref a ∧ H1 a = some (.ins C dx fs) ∧ Cls K C ∧ NoAttr K C f ∧ fs.lookup f = some v ∧ Q v H1) : tFld K te f σ H Q := h
theorem rd_fldv {P : Addr → Prop} : True := True.intro
theorem rd_mulN {x y : Int} (c : CMul x y) (h : Q (.int (x * y)) H) : oMulP (.int x) (.int y) H Q := .inl ⟨x, y, rfl, rfl, c, h⟩
theorem rd_mulT {z : Str} {n : Int} (c : MulOk z n) (h : Q (.str (Txt.mul z n)) H) : oMulP (.str z) (.int n) H Q := .inr ⟨z, n, rfl, rfl, c, h⟩
theorem rd_tupL {p : Addr} {ys : List V} (e : SqL K H p ys) (h : ∀ l, H l = none → Q (.ref l) (upd H l (.tup ys))) : cTupOf K [.ref p] H Q := ⟨p, ys, rfl, .inl ⟨e, h⟩⟩
theorem rd_tupT {p : Addr} {ys : List V} (e : SqT K H p ys) (h : Q (.ref p) H) : cTupOf K [.ref p] H Q := ⟨p, ys, rfl, .inr ⟨e, h⟩⟩
theorem rd_lstL {p : Addr} {ys : List V} (e : SqL K H p ys ∨ SqT K H p ys) (h : ∀ l, H l = none → Q (.ref l) (upd H l (.lst ys))) : cLstOf K [.ref p] H Q := ⟨p, ys, rfl, e, h⟩
theorem rd_idx {z : Str} {c : Nat} (hc : c ∈ z.cps.toList) (h : Q (.int (z.cps.toList.idxOf c : Nat)) H) : mIdx (.str z) [.str ⟨#[c]⟩] H Q := ⟨z, c, rfl, rfl, hc, h⟩
end

/-! ### comprehensions whose parts change the heap: P of the new list's place, the turn, what is in it, the heap -/
theorem lc_gen {J : It} {n j : Nat} {G : Hp → Prop} {Y : Nat → Hp → V → Hp → Prop} {xs : Nat → V} {σ : L2.St} {H : Hp} {Q : VK} {te : TE} (P : Addr → Nat → List V → Hp → Prop) (w : Walk J n G Y) (hY : ∀ i H x H', i < n → Y i H x H' → H' = H ∧ x = xs i) (hn : n < 100000)
    (h0 : ∀ L, H L = none → P L 0 [] (upd H L (.lst []))) (hG : ∀ L i vs Hc, H L = none → P L i vs Hc → G Hc)
    (he : ∀ L i vs Hc, i < n → H L = none → Hc L = some (.lst vs) → vs.length = i → P L i vs Hc → ∀ N : VK, (∀ v H2, H2 L = some (.lst vs) → P L (i + 1) (vs ++ [v]) (upd H2 L (.lst (vs ++ [v]))) → N v H2) → te ((wipe σ [j]).set j (some (xs i))) Hc N)
    (h : ∀ L vs Hc, H L = none → Hc L = some (.lst vs) → vs.length = n → P L n vs Hc → Q (.ref L) Hc) : lcB (gName j) tYes te [j] σ Q J H := by
  intro L hL
  refine lc_it w (fun i Hc => ∃ vs, Hc L = some (.lst vs) ∧ vs.length = i ∧ P L i vs Hc) ⟨[], upd_same, rfl, h0 L hL⟩ (fun i Hc _ p => ?_) (fun i x Hc H' hi p y => ?_) fun Hc p => ?_
  · obtain ⟨vs, _, _, p⟩ := p
    exact hG L i vs Hc hL p
  · obtain ⟨vs, h1, h2, p⟩ := p
    obtain ⟨rfl, rfl⟩ := hY _ _ _ _ hi y
    refine ⟨by simp [wipe], rd_yes ?_⟩
    refine rd_iteT ?_
    refine he L i vs _ hi hL h1 h2 p _ fun v H2 z1 z2 => ?_
    exact ⟨vs, z1, Nat.lt_of_lt_of_le (by rw [h2]; omega : vs.length < 100000) (by decide), vs ++ [v], upd_same, by rw [List.length_append, h2]; rfl, z2⟩
  · obtain ⟨vs, h1, h2, p⟩ := p
    exact h L vs Hc hL h1 h2 p
/-- the heap but for one place -/
def hide (L : Addr) (H : Hp) : Hp := fun b => if b = L then none else H b
theorem hide_ne {L b : Addr} {H : Hp} (h : b ≠ L) : hide L H b = H b := if_neg h
theorem hide_ex {L : Addr} {H : Hp} : Ex (hide L H) H := fun b o e => by
  by_cases h : b = L
  · rw [h] at e
    have z : hide L H L = none := if_pos rfl
    rw [z] at e
    cases e
  · rw [hide_ne h] at e
    exact e
theorem hide_mono {L : Addr} {H H' : Hp} (k : ∀ b o, b ≠ L → H b = some o → H' b = some o) : Ex (hide L H) (hide L H') := fun b o e => by
  by_cases h : b = L
  · rw [h] at e
    have z : hide L H L = none := if_pos rfl
    rw [z] at e
    cases e
  · rw [hide_ne h] at e ⊢
    exact k b o h e
theorem ex_hide {L : Addr} {H H' : Hp} (hL : H L = none) (e : Ex H H') : Ex H (hide L H') := fun b o q => by
  rw [hide_ne (ne_of_none q hL)]
  exact e b o q
/-- each value is new or stood before: R of the turn, the value and the heap without the new list -/
theorem lc_new {J : It} {n j : Nat} {G : Hp → Prop} {Y : Nat → Hp → V → Hp → Prop} {xs : Nat → V} {σ : L2.St} {H : Hp} {Q : VK} {te : TE} (R : Nat → V → Hp → Prop) (w : Walk J n G Y) (hY : ∀ i H x H', i < n → Y i H x H' → H' = H ∧ x = xs i) (hn : n < 100000)
    (hG : ∀ Hc, Ex H Hc → G Hc) (mR : ∀ i v H1 H2, Ex H1 H2 → R i v H1 → R i v H2)
    (he : ∀ L i Hc, i < n → H L = none → (∃ vs, Hc L = some (.lst vs)) → Ex H Hc → ∀ N : VK, (∀ v H2, Ex Hc H2 → R i v (hide L H2) → N v H2) → te ((wipe σ [j]).set j (some (xs i))) Hc N)
    (h : ∀ L vs Hc, H L = none → Ex H Hc → Hc L = some (.lst vs) → vs.length = n → (∀ i v, vs[i]? = some v → R i v (hide L Hc)) → Q (.ref L) Hc) : lcB (gName j) tYes te [j] σ Q J H := by
  refine lc_gen (fun L i vs Hc => Ex H Hc ∧ ∀ i v, vs[i]? = some v → R i v (hide L Hc)) w hY hn (fun L hL => ⟨Evl.Ex.new hL, fun i v z => by cases z⟩) (fun L i vs Hc _ p => hG Hc p.1) (fun L i vs Hc hi hL h1 h2 p N hN => ?_) (fun L vs Hc hL h1 h2 p => h L vs Hc hL p.1 h1 h2 p.2)
  refine he L i Hc hi hL ⟨vs, h1⟩ p.1 N fun v H2 e2 r2 => hN v H2 (e2 L _ h1) ?_
  have kp : Ex (hide L H2) (hide L (upd H2 L (.lst (vs ++ [v])))) := hide_mono fun b o hb q => by rw [upd_ne hb]; exact q
  have kp0 : Ex (hide L Hc) (hide L H2) := hide_mono fun b o _ q => e2 b o q
  refine ⟨Evl.Ex.mut (p.1.trans e2) hL, fun i' v' hv => ?_⟩
  by_cases hlt : i' < vs.length
  · rw [List.getElem?_append_left hlt] at hv
    exact mR _ _ _ _ (kp0.trans kp) (p.2 i' v' hv)
  · rw [List.getElem?_append_right (by omega)] at hv
    have e0 : i' - vs.length = 0 := by
      rcases Nat.eq_zero_or_pos (i' - vs.length) with z | z
      · exact z
      · rw [List.getElem?_eq_none (by simp; omega)] at hv
        cases hv
    rw [e0] at hv
    obtain rfl : v = v' := Option.some.inj hv
    have e3 : i' = i := by omega
    rw [e3]
    exact mR _ _ _ _ kp r2

theorem rd_sfld {K : PySem.W.Frag} {ta tv : TE} {f : Str} {D : Ends} {σ : L2.St} {H : Hp} (h : tv σ H fun y H1 => ta σ H1 fun x H2 => ∃ a C dx fs, x = .ref a ∧ H2 a = some (.ins C dx fs) ∧ Cls K C ∧ NoAttr K C f ∧ fs.length < 1000 ∧ D.nx σ (upd H2 a (.ins C dx (putF f y fs)))) : sFld K ta tv f D σ H := h
theorem kSf {X : Cx} (K : PySem.W.Frag) (hK : X.K = K := by rfl) {st : Stmt} {ta tv : TE} {f : Str} (h : PS X st (sFld X.K ta tv f)) : PS X st (sFld K ta tv f) := hK ▸ h

section
variable {K : PySem.W.Frag} {σ : L2.St} {H : Hp} {Q : VK} {te to : TE} {t : TA} {C : Addr} {m f : Str} {sp : Sp} {W : WX} {dvs : List V} {E : XK}
theorem rd_makeR (h : t σ H fun vs H1 => ∀ x dx, H1 x = none → H1 dx = none → dx ≠ x → sp (.ref x :: vs) (upd (upd H1 dx (.own x)) x (.ins C dx [])) (fun v H2 => v = .non ∧ Q (.ref x) H2) fun c d H2 => W c d σ H2) : tMakeR C sp W t σ H Q := h
theorem rd_methR (h : to σ H fun x H1 => ∃ a dx fs, x = .ref a ∧ H1 a = some (.ins C dx fs) ∧ fs.lookup m = none ∧ t σ H1 fun vs H2 => sp (x :: vs) H2 Q fun c d H3 => W c d σ H3) : tMethR C m sp W to t σ H Q := h
theorem rd_meth (h : to σ H fun x H1 => ∃ a dx fs, x = .ref a ∧ H1 a = some (.ins C dx fs) ∧ fs.lookup m = none ∧ t σ H1 fun vs H2 => sp (x :: (vs ++ dvs)) H2 Q E) : tMeth C m sp dvs E to t σ H Q := h
theorem rd_notV (h : te σ H fun x H1 => ∃ c, x = .bl c ∧ Q (.bl (!c)) H1) : tNotV te σ H Q := h
theorem rd_xf {a : Addr} {cls : Value} {d : Option Addr} {C : Addr} {f : Str} (h : te σ H fun x H1 => x = .ref a ∧ cls = .ref C ∧ ∃ (dd : Addr) (fs : List (Str × V)) (v : V), d = some dd ∧ H1 dd = some (.xd fs) ∧ fs.lookup f = some v ∧ Q v H1) : tXf a cls d C f te σ H Q := h
end
/-! ### more on comprehensions, numbers, texts -/
theorem look_map {f : NameKind → Bool} : ∀ (l : List (Str × NameKind)) (y : Str), (l.lookup y = some .cell ∨ l.lookup y = some .free) → ∀ g : Str × NameKind → Str × NameKind, (∀ n k, g (n, k) = (n, k) ∨ (k = .free ∧ g (n, k) = (n, .cell))) → ((l.map g).lookup y = some .cell ∨ (l.map g).lookup y = some .free)
  | [], _, h, _, _ => by rcases h with h | h <;> cases h
  | (n, k) :: l, y, h, g, hg => by
    rw [List.map_cons]
    rw [List.lookup_cons] at h
    cases e : y == n with
    | true =>
      rw [e] at h
      rcases hg n k with z | ⟨z1, z2⟩
      · rw [z, List.lookup_cons, e]; exact h
      · rw [z2, List.lookup_cons, e]; exact .inl rfl
    | false =>
      rw [e] at h
      have ih := look_map (f := f) l y h g hg
      rcases hg n k with z | ⟨z1, z2⟩
      · rw [z, List.lookup_cons, e]; exact ih
      · rw [z2, List.lookup_cons, e]; exact ih
theorem blkOk_in {X : Cx} {N : List Str} (hN : X.N = N) {s : Shared} {H : Hp} {sc0 scope : Scope} {C : Addr} {cl : List (Str × Addr)} {fp : List Addr} {own : List (Str × Nat)} (h : blkC N sc0 scope own = true) :
    BlkOk (X.blk s H sc0 (compEnvC sc0 cl C X.env) fp).N (X.blk s H sc0 (compEnvC sc0 cl C X.env) fp).env.scope scope own := by
  subst hN
  have b := blkOk_by h
  refine ⟨b.kind, b.uniq, b.ix, fun y hy hf => ?_, b.own⟩
  refine look_map (f := fun _ => true) _ _ (b.free y hy hf) _ fun n k => ?_
  by_cases c : (k == NameKind.free && X.env.scope.kind == ScopeKind.function && X.env.kindOf n == some NameKind.cell) = true
  · right
    refine ⟨?_, if_pos c⟩
    have c1 : (k == NameKind.free) = true := by
      rw [Bool.and_eq_true, Bool.and_eq_true] at c
      exact c.1.1
    cases k <;> first | rfl | cases c1
  · left
    exact if_neg c
theorem given_range (v : Nat → V) : ∀ n, Evl.given n (fun _ => true) v = (List.range n).map v
  | 0 => rfl
  | n + 1 => by rw [Evl.given_yes rfl, given_range v n, List.range_succ, List.map_append]; rfl
/-- a comprehension whose parts leave the heap, without a test -/
theorem lc_map {J : It} {n j : Nat} {G : Hp → Prop} {Y : Nat → Hp → V → Hp → Prop} {xs v : Nat → V} {σ : L2.St} {H : Hp} {Q : VK} {te : TE} (w : Walk J n G Y) (hY : ∀ i H x H', i < n → Y i H x H' → H' = H ∧ x = xs i) (hG : ∀ Hc, Ex H Hc → G Hc) (hn : n < 100000)
    (he : ∀ i Hc, i < n → Ex H Hc → Val te ((wipe σ [j]).set j (some (xs i))) Hc (v i))
    (h : ∀ L, H L = none → Q (.ref L) (upd H L (.lst ((List.range n).map v)))) : lcB (gName j) tYes te [j] σ Q J H := by
  refine lc_pure (f := fun _ => true) w hY hG hn (fun _ _ _ _ => ans_yes) (fun i Hc hi e _ => he i Hc hi e) fun L hL => ?_
  rw [given_range]
  exact h L hL
theorem walk_range0 {n : Nat} : Walk (Itr 0 n) n (fun _ => True) fun i H x H' => H' = H ∧ x = V.int (i : Nat) := by
  obtain ⟨a, b, c⟩ := walk_range (lo := 0) (n := n)
  refine ⟨a, b, fun i H x H' hi g y => ?_⟩
  have := c i H x H' hi g y
  refine ⟨this.1, ?_⟩
  rw [this.2]
  show V.int (0 + (i : Int)) = _
  rw [Int.zero_add]
theorem fmod_nat (a m : Nat) : Int.fmod (a : Int) (m : Int) = ((a % m : Nat) : Int) := by
  rw [Int.fmod_eq_emod_of_nonneg _ (Int.natCast_nonneg m)]
  rfl
theorem fold_app (c : Nat) : ∀ (k : Nat) (a : Array Nat), (List.foldl (fun x y => x ++ y) a (List.replicate k #[c])).toList = a.toList ++ List.replicate k c
  | 0, a => by simp
  | k + 1, a => by
    rw [List.replicate_succ, List.foldl_cons, fold_app c k, List.replicate_succ]
    simp
theorem mul_sign (c : Nat) (n : Int) (h : 0 < n) : (Txt.mul ⟨#[c]⟩ n).cps.toList = List.replicate n.toNat c := by
  unfold Txt.mul
  rw [if_neg (by omega)]
  by_cases e : n = 1
  · subst e; rfl
  · have hb : (n == 1 || (⟨#[c]⟩ : Str).length == 0) = false := by
      have : (⟨#[c]⟩ : Str).length = 1 := rfl
      simp [e, this]
    rw [if_neg (by rw [hb]; decide)]
    show (List.foldl (fun x y => x ++ y) #[] (List.replicate n.toNat #[c])).toList = _
    rw [fold_app]
    rfl
theorem ixN_nat {n j : Nat} (h : j < n) : ixN n (j : Int) = some j := by
  unfold ixN
  rw [if_pos (Int.natCast_nonneg j), if_pos (by omega), Int.toNat_natCast]
theorem seqIndex_nat {n j : Nat} (h : j < n) : seqIndex? (j : Int) n = some j := by
  unfold seqIndex?
  have h0 : ¬ (j : Int) < 0 := by omega
  simp only [h0, if_false]
  rw [if_pos (by simp; omega), Int.toNat_natCast]
theorem erase_map {α β : Type} (f : α → β) : ∀ (l : List α) (j : Nat), (l.map f).eraseIdx j = (l.eraseIdx j).map f
  | [], _ => rfl
  | _ :: _, 0 => rfl
  | a :: l, j + 1 => by
    show f a :: (l.map f).eraseIdx j = f a :: (l.eraseIdx j).map f
    rw [erase_map f l j]
theorem mulOk_sign (c : Nat) {n : Int} (h0 : 0 < n) (h1 : n < 100000) : MulOk ⟨#[c]⟩ n := by
  have e : (⟨#[c]⟩ : Str).length = 1 := rfl
  refine ⟨by simp; omega, fun _ _ => ?_, fun _ _ => ?_⟩
  · rw [e]
    intro hh
    have : ((2:Int) ^ 63 - 1) / n ≥ 1 := by
      refine Int.le_ediv_of_mul_le h0 ?_
      omega
    omega
  · rw [e]
    unfold Builtin.Str.tooLong
    have : sizeLine ≥ 100000 := by decide
    exact decide_eq_false (by omega)
theorem first_at {l : List Nat} {c : Nat} {r : List Nat} (h : l = c :: r) : l.idxOf c = 0 := by
  rw [h]
  exact List.idxOf_cons_self
theorem atI_last {α : Type} {l : List α} (h : 0 < l.length) : atI l (-1) = some (l[l.length - 1]'(by omega)) := by
  have e : ixN l.length (-1) = some (l.length - 1) := by
    unfold ixN
    rw [if_neg (by decide), if_pos (by omega)]
    congr 1
    omega
  show (ixN l.length (-1)).bind (fun j => l[j]?) = _
  rw [e]
  exact List.getElem?_eq_getElem _
end AT

set_option Elab.async false
set_option linter.all false
set_option maxRecDepth 100000
set_option maxHeartbeats 4000000
/-! own words, third part: a law's own def, run where nothing is being shown; the repr of data -/
namespace AT
open PySem PySem.Spec L2
/-- as FnOk, but only where no repr is under way -/
structure FnG (P : Program) (w : World) (K : PySem.W.Frag) (mg : Str → Option Value) (base : Heap) (CX : CXT) (k : Nat) (f : Addr) (fd : FuncData) (ps : List Str) (sp : Sp) : Prop where
  len : ∀ vs H Q E, sp vs H Q E → vs.length = ps.length
  run : ∀ (A : Around) (outer : List Env) (s : Shared) (H : Hp) (args : Args) (us : List Value) (vs : List V) (Q : VK) (E : XK), A.guards = some [] → Room k A → Env0 P w K mg base A outer s H → BindsTo s fd args (ps.zip us) → Vals vs us → sp vs H Q E →
    codeAny (model P w) A (.call (.ref f) args) (CR CX outer P w H s Q E) s
theorem fn_ofG {CX : CXT} {P : Program} {w : World} {K : PySem.W.Frag} {mg : Str → Option Value} {base : Heap} {k : Nat} {f : Addr} {name qual : Str} {params : Arguments} {body : List Stmt} {scope : Scope} {dV kV doc pm cdv ct oc : Value} {an od : Option Addr} {osl : Array (Option Value)} {N ps : List Str} {sp : Sp}
    (lk : List.lookup f K = some { cls := oc, dict := od, data := Data.func (PySem.W.fnOf name qual params body scope dV kV doc pm an cdv ct), slots := osl }) (hcd : PySem.W.codeIn K cdv qual = true) (S : FnScope N ps scope)
    (len : ∀ vs H Q E, sp vs H Q E → vs.length = ps.length)
    (hb : ∀ (A : Around) (outer : List Env) (s : Shared) (H : Hp) (vs : List V) (Q : VK) (E : XK), A.guards = some [] → Room k (A.deeper (PyProof.Rows.envOfC qual scope s.heap.objs.size f cdv)) → sp vs H Q E →
      ∃ t, PSs (cxOf CX P w K mg base N qual scope f cdv A outer s H E) body t ∧ t { nx := fun _ H' => Q .non H', rt := Q } (L2.start N vs) H) :
    FnG P w K mg base CX (k + 1) f (PySem.W.fnOf name qual params body scope dV kV doc pm an cdv ct) ps sp := by
  refine ⟨len, fun A outer s H args us vs Q E hg hr e0 bd rv hsp => ?_⟩
  have hl := len vs H Q E hsp
  have KX : K.In s.heap := e0.mod.kin.keeps fun b o e => (e0.bs b o e).1
  have lim : s.heap.NoLimit := e0.mod.nolimit.keeps fun b o e => (e0.bs b o e).1
  refine codeAny_call_function hr.depth (KX f _ lk) rfl S.co S.gen rfl (PySem.W.codeRec_of KX hcd) (bd _ _ _ _ ?_)
  refine wpAny_newFunctionEnv_cells S.kind (fun x hx => ?_) fun env he s1 x => ?_
  · obtain ⟨n, v⟩ := x
    rcases S.par n (List.of_mem_zip hx).1 with q | q
    · exact .inl q
    · exact .inr ⟨q, PySem.W.cellsFrom_some scope.names (s.heap.objs.size + 1) [] (.inl q)⟩
  · subst he
    refine ⟨lim.keeps x.toInCall.keep, codeAny_func ?_⟩
    obtain ⟨t, ht, hq⟩ := hb A outer s H vs Q E hg (hr.deeper _) hsp
    have I := inv_start (CX := CX) (E := E) S hr.hd e0 hl rv x
    refine wpAny_mono (ht.run [] s1 (L2.start N vs) H _ I hq) (fun fl s' hs => ?_) fun e s' hs => hs
    cases fl with
    | next =>
      obtain ⟨σ', H', J, q⟩ := hs
      exact ⟨.non, H', J.os, J.bare, J.base, J.hok, rfl, q⟩
    | brk =>
      obtain ⟨_, _, _, q⟩ := hs
      exact q.elim
    | cont =>
      obtain ⟨_, _, _, q⟩ := hs
      exact q.elim
    | ret u =>
      obtain ⟨v, σ', H', J, rv, q⟩ := hs
      exact ⟨v, H', J.os, J.bare, J.base, J.hok, rv, q⟩
theorem _root_.L2.Fun.okG {P : Program} {w : World} {K : PySem.W.Frag} {mg : Str → Option Value} {base : Heap} {x qual : Str} {st : Stmt} {f : Addr} {fd : FuncData} {N ps : List Str} {k : Nat} {sp : Sp} (F : Fun K x qual st f fd) (S : FnScope N ps (defScope st)) (len : ∀ vs H Q E, sp vs H Q E → vs.length = ps.length)
    (hb : ∀ (cdv : Value) (A : Around) (outer : List Env) (s : Shared) (H : Hp) (vs : List V) (Q : VK) (E : XK), A.guards = some [] → Room k (A.deeper (PyProof.Rows.envOfC qual (defScope st) s.heap.objs.size f cdv)) → sp vs H Q E →
      ∃ t, PSs (cxOf CX0 P w K mg base N qual (defScope st) f cdv A outer s H E).nox (defBody st) t ∧ t { nx := fun _ H' => Q .non H', rt := Q } (L2.start N vs) H) : FnG P w K mg base CX0 (k + 1) f fd ps sp := by
  obtain ⟨oc, od, kV, doc, pm, an, cdv, ct, osl, rfl, lk, hcd⟩ := F.ex
  refine fn_ofG lk hcd S len fun A outer s H vs Q E hg hr hsp => ?_
  obtain ⟨t, h, q⟩ := hb cdv A outer s H vs Q E hg hr hsp
  exact ⟨t, PSs.nox h, q⟩
theorem law_callG {P : Program} {w : World} {K : PySem.W.Frag} {mg mb : Str → Option Value} {k : Nat} {fa a : Addr} {fd : FuncData} {x : Str} {sp : Sp} {s₁ : Shared} {vs : List Value} {ns : List Int}
    (KX : K.In s₁.heap) (hns : s₁.heap.Ns mainGlobals mg) (hb : s₁.heap.Ns builtinsNs mb) (hbb : ∀ x : Str, x ≠ "__name__" → mb x = bootBuiltins x) (hlim : s₁.heap.NoLimit) (hg : s₁.gens = #[]) (ha : s₁.heap.get? a = some { cls := .type "list", data := .seq vs.toArray })
    (hi : PyProof.Rows.IntsAre vs ns) (hl : ns.length ≤ sizeLine) (hr : Room k callerA) (F : ∀ base : Heap, K.In base → base.Ns mainGlobals mg → FnG P w K mg base CX0 k fa fd [x] sp) (hbind : ∀ (s : Shared) (u : Value), BindsTo s fd { pos := [u] } [(x, u)])
    (hsp : ∀ H : Hp, Only H → SqL K H a (ns.map V.int) → sp [.ref a] H (fun v _ => v = .bl true) E0) :
    codeAny (model P w) callerA (.call (.ref fa) { pos := [.ref a] }) (fun r s' => r = .ok (.ret (.bool true)) ∧ OldK s₁.heap s'.heap ∧ s'.os = s₁.os ∧ PyProof.Rows.AllBare s'.gens) s₁ := by
  have core : ∀ H : Hp, Only H → SqL K H a (ns.map V.int) → HOk P w H s₁.heap → (∀ b, H b ≠ none → b = a) → (H a ≠ none → K.lookup a = none) →
      codeAny (model P w) callerA (.call (.ref fa) { pos := [.ref a] }) (fun r s' => r = .ok (.ret (.bool true)) ∧ OldK s₁.heap s'.heap ∧ s'.os = s₁.os ∧ PyProof.Rows.AllBare s'.gens) s₁ := by
    intro H hO hS hok hA hK
    have nd : ∀ {b : Addr} {o : Obj} {es ep}, s₁.heap.get? b = some o → o.data = .dict es ep → H b = none := by
      intro b o es ep e d
      cases q : H b with
      | none => rfl
      | some u =>
        obtain rfl := hA b (by rw [q]; exact fun z => by cases z)
        rw [ha] at e
        obtain rfl := Option.some.inj e
        cases d
    have nsK : ∀ {b : Addr} {m : Str → Option Value}, s₁.heap.Ns b m → (hidT s₁.heap H).Ns b m := by
      rintro b m ⟨o, es, ep, e, d, r⟩
      exact ⟨o, es, ep, hidT_get e (nd e d), d, r⟩
    have hKb : K.In (hidT s₁.heap H) := fun b o e => hidT_get (KX b o e) (by
      cases q : H b with
      | none => rfl
      | some u =>
        have nb : H b ≠ none := by rw [q]; exact fun z => by cases z
        obtain rfl := hA b nb
        have z := hK nb
        rw [e] at z
        cases z)
    have hM : L2.Mod K mg (hidT s₁.heap H) := ⟨hKb, nsK hns, ⟨mb, nsK hb, hbb⟩, by
      obtain ⟨mc, h1, h2⟩ := hlim
      exact ⟨mc, nsK h1, h2⟩⟩
    have e0 : Env0 P w K mg (hidT s₁.heap H) callerA [] s₁ H := ⟨rfl, hM, fun b o e => of_hidT e, Nat.le_of_eq (hidT_size s₁.heap H), trivial, (fun b z => by cases z), hok, PyProof.Rows.AllBare.of_eq hg⟩
    refine codeAny_mono ((F (hidT s₁.heap H) hKb (nsK hns)).run callerA [] s₁ H { pos := [.ref a] } [.ref a] [.ref a] _ E0 rfl hr e0 (hbind s₁ (.ref a)) (.cons rfl .nil) (hsp H hO hS)) fun r s' z => ?_
    cases r with
    | error e => exact absurd z fun z => by cases z
    | ok fl =>
      cases fl with
      | next => exact z.elim
      | brk => exact z.elim
      | cont => exact z.elim
      | ret u =>
        obtain ⟨v, H', os, bare, un, hok', rv, rfl⟩ := z
        obtain rfl : u = .bool true := rv
        refine ⟨rfl, OldK.of_keep fun b o e => ?_, os, bare⟩
        cases q : H b with
        | none => exact un.keep b o e q (fun z => by cases z) (fun z => by cases z)
        | some u =>
          rcases hO b with z | ⟨ob, xs, z⟩
          · rw [z] at q; cases q
          · have z2 := un.frzs b ob (.lst xs) z
            have e1 := (hok b _ z).1
            have e2 := (hok' b _ z2).1
            rw [e] at e1
            rw [e2, e1]
  cases hk : K.lookup a with
  | none =>
    refine core (fun b => if b = a then some (.frz { cls := .type "list", data := .seq vs.toArray } (.lst (ns.map V.int))) else none) (fun b => ?_) (.inl (.inr ⟨_, if_pos rfl⟩)) (fun b u z => ?_) (fun b z => ?_) fun _ => hk
    · by_cases e : b = a
      · exact .inr ⟨_, _, if_pos e⟩
      · exact .inl (if_neg e)
    · by_cases e : b = a
      · subst e
        have z' := (if_pos rfl).symm.trans z
        obtain rfl := Option.some.inj z'
        exact ⟨ha, by rw [List.length_map]; exact hl, vs, _, vals_ints hi, ha⟩
      · have z' := (if_neg e).symm.trans z
        cases z'
    · by_cases e : b = a
      · exact e
      · exact absurd (if_neg e) z
  | some o =>
    refine core (fun _ => none) (fun _ => .inl rfl) ?_ (fun b u z => by cases z) (fun b z => absurd rfl z) fun z => absurd rfl z
    have e := KX a o hk
    rw [ha] at e
    obtain rfl := Option.some.inj e
    refine .inr ⟨_, vs.toArray, _, hk, rfl, rfl, rfl, ?_, vals_ints hi⟩
    have := PyProof.Rows.IntsAre.length hi
    rw [List.size_toArray]
    omega
theorem walk_ofG {l : PySem.W.OpenLaw} {n k : Nat} {q : Program} {loose : List Str} {XP : (Str → Option Value) → Heap → Prop} {YP : World → Heap → Prop} {d : DefRec} {K : Params → PySem.W.Frag} {sp : PySem.W.Frag → Sp} {x : Str}
    (hn : l.most = some n) (hn2 : n ≤ sizeLine) (hdf : d.params.defaults = []) (hr : Room k callerA) (hY : ∀ (w : World) (h : Heap), YP w h → (K w.params).In h)
    (F : ∀ (w : World) (mg : Str → Option Value) (fa : Addr) (h : Heap), (K w.params).In h → h.Ns mainGlobals mg → mg d.name = some (.ref fa) → ∃ fd, (∀ (s : Shared) (u : Value), BindsTo s fd { pos := [u] } [(x, u)]) ∧ ∀ base : Heap, (K w.params).In base → base.Ns mainGlobals mg → FnG l.prog w (K w.params) mg base CX0 k fa fd [x] (sp (K w.params)))
    (hsp : ∀ (K : PySem.W.Frag) (H : Hp) (a : Addr) (ns : List Int), ns.length ≤ n → Only H → SqL K H a (ns.map V.int) → sp K [.ref a] H (fun v _ => v = .bl true) E0) : PySem.W.WalkO q loose XP YP l.row.toRowW d [] fun f vs => PySem.call f vs :=
  Att.attach_call hn hdf fun w s₀ s₁ mg mb fa o pm cd doc a vs ns G Y ho hd hcd hmg hobj hints hlen hg => by
    obtain ⟨fd, hb, hF⟩ := F w mg fa s₁.heap (hY w s₁.heap Y) G.T.g hmg
    exact law_callG (hY w s₁.heap Y) G.T.g G.T.b G.T.builtins G.T.nolimit hg hobj hints (Nat.le_trans hlen hn2) hr hF hb fun H hO hS => hsp _ H a ns hlen hO hS
/-- repr(v): v lists and tuples of plain values -/
def cReprD (K : PySem.W.Frag) : List V → Hp → VK → Prop := fun xs H Q => cRepr xs H Q ∨ ∃ (a : Addr) (d : PyData), xs = [.ref a] ∧ Dp K H (.ref a) d ∧ d.showable = true ∧ d.hasDict = false ∧ d.depth ≤ 60 ∧ d.shown.length ≤ sizeLine ∧ Q (.str d.shown) H
theorem call_reprD {X : Cx} (hg : X.A.guards = some []) (hu : X.A.units + 64 < cLine) : CallR X (.builtin "repr") (cReprD X.K) := by
  refine CallR.or call_reprP ?_
  intro P s σ H vs us Q I r h
  obtain ⟨a, d, rfl, hd, sh, nd, dl, sl, q⟩ := h
  obtain ⟨u, rfl, ru⟩ := vals1 r
  cases (show u = Value.ref a from ru)
  obtain ⟨as, rd⟩ := Dp.reads I d _ _ hd ru
  refine repr_of_reads' rd sh (fun z => by rw [nd] at z; cases z) hg (by omega) (fun b o e => e) (fun h' u tk hk => ?_) sl
  exact ⟨.str d.shown, H, I.kept hk, ⟨u, rfl⟩, q⟩
/-! ### how long what is shown may be -/
theorem join_len (sep : Str) (B : Nat) : ∀ ss : List Str, (∀ s ∈ ss, s.length ≤ B) → (Str.join sep ss).length ≤ ss.length * (B + sep.length)
  | [], _ => by unfold Str.join; exact Nat.zero_le _
  | [x], h => by
    unfold Str.join
    have := h x List.mem_cons_self
    simp
    omega
  | x :: y :: r, h => by
    have ih := join_len sep B (y :: r) fun s hs => h s (List.mem_cons_of_mem _ hs)
    have hx := h x List.mem_cons_self
    unfold Str.join
    rw [TL.len_tl, TL.tl_append, TL.tl_append, List.length_append, List.length_append, ← TL.len_tl, ← TL.len_tl, ← TL.len_tl]
    rw [List.length_cons, Nat.succ_mul]
    omega
theorem tuple_len {B : Nat} {ss : List Str} (h : ∀ s ∈ ss, s.length ≤ B) : (tupleText ss).length ≤ ss.length * (B + 2) + 3 := by
  have j := join_len (Str.ofString ", ") B ss h
  have e2 : (Str.ofString ", ").length = 2 := by decide +kernel
  rw [e2] at j
  unfold tupleText
  rw [TL.len_tl, TL.tl_append, TL.tl_append, List.length_append, List.length_append, ← TL.len_tl, ← TL.len_tl, ← TL.len_tl]
  have e1 : (Str.ofString "(").length = 1 := by decide +kernel
  have e3 : (Str.ofString (if (ss.length == 1) = true then ",)" else ")")).length ≤ 2 := by
    cases (ss.length == 1) <;> decide +kernel
  omega
theorem foldl_len {f : Nat → Array Nat} {B : Nat} : ∀ (l : List Nat) (a : Array Nat), (∀ c ∈ l, (f c).size ≤ B) → (l.foldl (fun out c => out ++ f c) a).size ≤ a.size + l.length * B
  | [], a, _ => by simp
  | c :: l, a, h => by
    have ih := foldl_len (f := f) (B := B) l (a ++ f c) fun d hd => h d (List.mem_cons_of_mem _ hd)
    have hc := h c List.mem_cons_self
    rw [List.foldl_cons, List.length_cons, Nat.succ_mul]
    rw [Array.size_append] at ih
    omega
theorem repr_len {z : Str} {B : Nat} (h : ∀ c ∈ z.cps.toList, (Builtin.Str.reprChar (reprQuote z) c).length ≤ B) : (reprText z).length ≤ 2 + z.length * B := by
  show ((Array.foldl (fun out c => out ++ (Builtin.Str.reprChar (reprQuote z) c).toArray) #[reprQuote z] z.cps).push (reprQuote z)).size ≤ _
  rw [Array.size_push, ← Array.foldl_toList]
  have := foldl_len (f := fun c => (Builtin.Str.reprChar (reprQuote z) c).toArray) (B := B) z.cps.toList #[reprQuote z] (fun c hc => by rw [List.size_toArray]; exact h c hc)
  have e : z.cps.toList.length = z.length := rfl
  rw [e] at this
  have e1 : (#[reprQuote z] : Array Nat).size = 1 := rfl
  omega
theorem quote_or (z : Str) : reprQuote z = 34 ∨ reprQuote z = 39 := by
  unfold reprQuote
  split
  · exact .inl rfl
  · exact .inr rfl
theorem repr_pl : ∀ c ∈ ("abcdefghijklmnopqrstuvwxyzABCDEFGHIJKLMNOPQRSTUVWXYZ0123456789<>=:_@#" : Str).cps.toList, (Builtin.Str.reprChar 34 c).length ≤ 10 ∧ (Builtin.Str.reprChar 39 c).length ≤ 10 := by decide +kernel
theorem small_text : ∀ n : Nat, n < 100 → (Str.ofString (toString (n : Int))).length ≤ 4 ∧ (n : Int).natAbs.log2 < 1920 := by decide +kernel
/-- data that may be shown: at most so long, so deep -/
structure Okd (d : PyData) (L D : Nat) : Prop where
  sh : d.showable = true
  nd : d.hasDict = false
  dp : d.depth ≤ D
  ln : d.shown.length ≤ L
theorem Okd.mono {d : PyData} {L D L' D' : Nat} (h : Okd d L D) (h1 : L ≤ L') (h2 : D ≤ D') : Okd d L' D' := ⟨h.sh, h.nd, Nat.le_trans h.dp h2, Nat.le_trans h.ln h1⟩
theorem Okd.bool (b : Bool) : Okd (.bool b) 5 0 := ⟨rfl, rfl, Nat.le_refl 0, by cases b <;> decide +kernel⟩
theorem Okd.int {n : Nat} (h : n < 100) : Okd (.int (n : Int)) 4 0 := ⟨decide_eq_true (small_text n h).2, rfl, Nat.le_refl 0, (small_text n h).1⟩
theorem Okd.str {z : Str} (h : ∀ c ∈ z.cps.toList, c ∈ ("abcdefghijklmnopqrstuvwxyzABCDEFGHIJKLMNOPQRSTUVWXYZ0123456789<>=:_@#" : Str).cps.toList) : Okd (.str z) (2 + z.length * 10) 0 := ⟨rfl, rfl, Nat.le_refl 0, repr_len fun c hc => by
  rcases quote_or z with e | e <;> rw [e]
  · exact (repr_pl c (h c hc)).1
  · exact (repr_pl c (h c hc)).2⟩
theorem all_okd {L D : Nat} : ∀ xs : List PyData, (∀ x ∈ xs, Okd x L D) → PyData.showableAll xs = true ∧ PyData.hasDictAll xs = false ∧ PyData.depthAll xs ≤ D ∧ (∀ s ∈ PyData.shownAll xs, s.length ≤ L) ∧ (PyData.shownAll xs).length = xs.length
  | [], _ => ⟨rfl, rfl, Nat.zero_le _, (fun s hs => by cases hs), rfl⟩
  | x :: xs, h => by
    obtain ⟨a, b, c, d, e⟩ := all_okd xs fun y hy => h y (List.mem_cons_of_mem _ hy)
    have hx := h x List.mem_cons_self
    refine ⟨?_, ?_, ?_, fun s hs => ?_, ?_⟩
    · show (x.showable && PyData.showableAll xs) = true
      rw [hx.sh, a]; rfl
    · show (x.hasDict || PyData.hasDictAll xs) = false
      rw [hx.nd, b]; rfl
    · show max x.depth (PyData.depthAll xs) ≤ D
      exact Nat.max_le.mpr ⟨hx.dp, c⟩
    · have hs' : s ∈ x.shown :: PyData.shownAll xs := hs
      rcases List.mem_cons.mp hs' with z | z
      · rw [z]; exact hx.ln
      · exact d s z
    · show (x.shown :: PyData.shownAll xs).length = _
      rw [List.length_cons, e]
      rfl
theorem Okd.tuple {L D : Nat} {xs : List PyData} (h : ∀ x ∈ xs, Okd x L D) : Okd (.tuple xs) (xs.length * (L + 2) + 3) (D + 1) := by
  obtain ⟨a, b, c, d, e⟩ := all_okd xs h
  refine ⟨a, b, Nat.succ_le_succ c, ?_⟩
  have := tuple_len d
  rw [e] at this
  exact this
section
variable {X : Cx} (K : PySem.W.Frag)
theorem kReprD (hg : X.A.guards = some []) (hu : X.A.units + 64 < cLine) (hK : X.K = K := by rfl) : CallR X (.builtin "repr") (cReprD K) := hK ▸ call_reprD hg hu
end
theorem rd_reprBD {K : PySem.W.Frag} {b : Bool} {H : Hp} {Q : VK} (h : Q (.str (if b then "True" else "False")) H) : cReprD K [.bl b] H Q := .inl (rd_reprB h)
theorem rd_reprD {K : PySem.W.Frag} {a : Addr} {d : PyData} {L D : Nat} {H : Hp} {Q : VK} (h1 : Dp K H (.ref a) d) (h2 : Okd d L D) (hL : L ≤ sizeLine) (hD : D ≤ 60) (h : Q (.str d.shown) H) : cReprD K [.ref a] H Q := .inr ⟨a, d, rfl, h1, h2.sh, h2.nd, Nat.le_trans h2.dp hD, Nat.le_trans h2.ln hL, h⟩
/-! ### signs, joined -/
theorem fold_signs : ∀ (cs : List Nat) (a : Array Nat), (List.foldl (fun acc (p : Str) => acc ++ (Str.ofString "").cps ++ p.cps) a (cs.map fun c => (⟨#[c]⟩ : Str))).toList = a.toList ++ cs
  | [], a => by simp
  | c :: cs, a => by
    rw [List.map_cons, List.foldl_cons, fold_signs cs]
    have e : (Str.ofString "").cps = #[] := by decide +kernel
    rw [e]
    simp
theorem join_signs (cs : List Nat) : (Txt.join "" (cs.map fun c => (⟨#[c]⟩ : Str))).cps.toList = cs := by
  cases cs with
  | nil => rfl
  | cons c cs =>
    show (List.foldl (fun acc (p : Str) => acc ++ (Str.ofString "").cps ++ p.cps) #[c] (cs.map fun c => (⟨#[c]⟩ : Str))).toList = _
    rw [fold_signs cs #[c]]
    rfl
theorem sum_signs : ∀ cs : List Nat, ((cs.map fun c => (⟨#[c]⟩ : Str)).map (·.length)).sum = cs.length
  | [] => rfl
  | c :: cs => by
    rw [List.map_cons, List.map_cons, List.sum_cons, sum_signs cs, List.length_cons]
    show 1 + cs.length = cs.length + 1
    omega
end AT

set_option Elab.async false
set_option linter.all false
set_option maxRecDepth 100000
set_option maxHeartbeats 4000000
/-! own words, fourth part: values as data, a heap with a hidden part that changes -/
namespace AT
open PySem PySem.Spec L2
section
variable {K : PySem.W.Frag}
mutual
theorem Dp.ex' {H H' : Hp} (e : Ex H H') : ∀ (d : PyData) {v : V}, Dp K H v d → Dp K H' v d
  | .none, _, h => by cases h; exact .non
  | .bool b, _, h => by cases h; exact .bl b
  | .int i, _, h => by cases h; exact .int i
  | .str x, _, h => by cases h; exact .str x
  | .list ds, _, h => by
    cases h with
    | lst hs ha => exact .lst (Evl.ex_l e hs) (DpAll.ex' e ds ha)
  | .tuple ds, _, h => by
    cases h with
    | tup hs ha => exact .tup (Evl.ex_t e hs) (DpAll.ex' e ds ha)
  | .dict _, _, h => by cases h
theorem DpAll.ex' {H H' : Hp} (e : Ex H H') : ∀ (ds : List PyData) {vs : List V}, DpAll K H vs ds → DpAll K H' vs ds
  | [], _, h => by cases h; exact .nil
  | d :: ds, _, h => by
    cases h with
    | cons h1 h2 => exact .cons (Dp.ex' e d h1) (DpAll.ex' e ds h2)
end
theorem _root_.L2.Dp.ex {H H' : Hp} {v : V} {d : PyData} (h : Dp K H v d) (e : Ex H H') : Dp K H' v d := Dp.ex' e d h
theorem _root_.L2.DpAll.ex {H H' : Hp} {vs : List V} {ds : List PyData} (h : DpAll K H vs ds) (e : Ex H H') : DpAll K H' vs ds := DpAll.ex' e ds h
theorem _root_.L2.DpAll.len {H : Hp} : ∀ {vs : List V} {ds : List PyData}, DpAll K H vs ds → vs.length = ds.length
  | _, _, .nil => rfl
  | _, _, .cons _ t => by rw [List.length_cons, List.length_cons, t.len]
theorem _root_.L2.DpAll.get {H : Hp} : ∀ {vs : List V} {ds : List PyData} {i : Nat} {d : PyData}, DpAll K H vs ds → ds[i]? = some d → ∃ v, vs[i]? = some v ∧ Dp K H v d
  | _, _, i, d, .nil, e => by simp at e
  | _, _, 0, d, .cons (v := v) h _, e => by
    simp at e
    subst e
    exact ⟨v, rfl, h⟩
  | _, _, i + 1, d, .cons _ t, e => by
    obtain ⟨v, h1, h2⟩ := t.get (i := i) (d := d) (by simpa using e)
    exact ⟨v, by simpa using h1, h2⟩
theorem _root_.L2.DpAll.got {H : Hp} {vs : List V} {ds : List PyData} {i : Nat} {v : V} (h : DpAll K H vs ds) (e : vs[i]? = some v) : ∃ d, ds[i]? = some d ∧ Dp K H v d := by
  have hl : i < vs.length := (List.getElem?_eq_some_iff.mp e).1
  have hd : i < ds.length := by rw [← h.len]; exact hl
  obtain ⟨v', h1, h2⟩ := h.get (List.getElem?_eq_getElem hd)
  rw [h1] at e
  obtain rfl := Option.some.inj e
  exact ⟨_, List.getElem?_eq_getElem hd, h2⟩
theorem _root_.L2.DpAll.app {H : Hp} : ∀ {vs : List V} {ds : List PyData} {us : List V} {es : List PyData}, DpAll K H vs ds → DpAll K H us es → DpAll K H (vs ++ us) (ds ++ es)
  | _, _, _, _, .nil, h => h
  | _, _, _, _, .cons h t, q => .cons h (t.app q)
theorem _root_.L2.DpAll.snoc {H : Hp} {vs : List V} {ds : List PyData} {v : V} {d : PyData} (h : DpAll K H vs ds) (q : Dp K H v d) : DpAll K H (vs ++ [v]) (ds ++ [d]) := h.app (.cons q .nil)
theorem DpAll.of {H : Hp} : ∀ {vs : List V} {ds : List PyData}, vs.length = ds.length → (∀ (i : Nat) v d, vs[i]? = some v → ds[i]? = some d → Dp K H v d) → DpAll K H vs ds
  | [], [], _, _ => .nil
  | [], _ :: _, h, _ => by cases h
  | _ :: _, [], h, _ => by cases h
  | v :: vs, d :: ds, h, g => .cons (g 0 v d rfl rfl) (DpAll.of (Nat.succ.inj h) fun i v d h1 h2 => g (i + 1) v d (by simpa using h1) (by simpa using h2))
theorem _root_.L2.DpAll.erase {H : Hp} : ∀ {vs : List V} {ds : List PyData} (i : Nat), DpAll K H vs ds → DpAll K H (vs.eraseIdx i) (ds.eraseIdx i)
  | _, _, _, .nil => .nil
  | _, _, 0, .cons _ t => t
  | _, _, i + 1, .cons h t => .cons h (t.erase i)
theorem _root_.L2.DpAll.set {H : Hp} {v : V} {d : PyData} (q : Dp K H v d) : ∀ {vs : List V} {ds : List PyData} (i : Nat), DpAll K H vs ds → DpAll K H (vs.set i v) (ds.set i d)
  | _, _, _, .nil => .nil
  | _, _, 0, .cons _ t => .cons q t
  | _, _, i + 1, .cons h t => .cons h (t.set q i)
theorem DpAll.mapV {α : Type} {H : Hp} (f : α → V) (g : α → PyData) (l : List α) (h : ∀ x ∈ l, Dp K H (f x) (g x)) : DpAll K H (l.map f) (l.map g) := by
  induction l with
  | nil => exact .nil
  | cons x l ih => exact .cons (h x List.mem_cons_self) (ih fun y hy => h y (List.mem_cons_of_mem _ hy))
/-! the shapes of values -/
theorem Dp.non_iff {H : Hp} {v : V} (h : Dp K H v .none) : v = .non := by cases h; rfl
theorem Dp.int_iff {H : Hp} {v : V} {i : Int} (h : Dp K H v (.int i)) : v = .int i := by cases h; rfl
theorem Dp.str_iff {H : Hp} {v : V} {i : Str} (h : Dp K H v (.str i)) : v = .str i := by cases h; rfl
theorem Dp.bl_iff {H : Hp} {v : V} {i : Bool} (h : Dp K H v (.bool i)) : v = .bl i := by cases h; rfl
theorem Dp.lstv {H : Hp} {v : V} {ds : List PyData} (h : Dp K H v (.list ds)) : ∃ a vs, v = .ref a ∧ SqL K H a vs ∧ DpAll K H vs ds := by
  cases h with
  | lst hs ha => exact ⟨_, _, rfl, hs, ha⟩
theorem Dp.tupv {H : Hp} {v : V} {ds : List PyData} (h : Dp K H v (.tuple ds)) : ∃ a vs, v = .ref a ∧ SqT K H a vs ∧ DpAll K H vs ds := by
  cases h with
  | tup hs ha => exact ⟨_, _, rfl, hs, ha⟩
/-! ### the hidden part -/
def hid (S : List Addr) (H : Hp) : Hp := fun b => if b ∈ S then none else H b
theorem hid_at {S : List Addr} {H : Hp} {b : Addr} (h : b ∉ S) : hid S H b = H b := if_neg h
theorem hid_in {S : List Addr} {H : Hp} {b : Addr} (h : b ∈ S) : hid S H b = none := if_pos h
theorem hid_nil {H : Hp} : hid [] H = H := by
  funext b
  exact if_neg List.not_mem_nil
theorem hid_some {S : List Addr} {H : Hp} {b : Addr} {o : HO} (h : hid S H b = some o) : b ∉ S ∧ H b = some o := by
  by_cases z : b ∈ S
  · rw [hid_in z] at h; cases h
  · exact ⟨z, by rw [hid_at z] at h; exact h⟩
theorem hid_ex {S : List Addr} {H : Hp} : Ex (hid S H) H := fun b o h => (hid_some h).2
theorem hid_sub {S S' : List Addr} {H : Hp} (h : ∀ b ∈ S', b ∈ S) : Ex (hid S H) (hid S' H) := fun b o q => by
  obtain ⟨h1, h2⟩ := hid_some q
  rw [hid_at fun z => h1 (h b z)]
  exact h2
theorem hid_tail {q : Addr} {S : List Addr} {H : Hp} : Ex (hid (q :: S) H) (hid S H) := hid_sub fun _ hb => List.mem_cons_of_mem _ hb
/-- all but S stands -/
def Kp (S : List Addr) (H H' : Hp) : Prop := ∀ b o, b ∉ S → H b = some o → H' b = some o
theorem Kp.refl {S : List Addr} {H : Hp} : Kp S H H := fun _ _ _ h => h
theorem Kp.trans {S : List Addr} {H H1 H2 : Hp} (a : Kp S H H1) (b : Kp S H1 H2) : Kp S H H2 := fun x o hx h => b x o hx (a x o hx h)
theorem Kp.of_ex {S : List Addr} {H H' : Hp} (e : Ex H H') : Kp S H H' := fun b o _ h => e b o h
theorem Kp.ex {S : List Addr} {H H' : Hp} (k : Kp S H H') : Ex (hid S H) (hid S H') := fun b o q => by
  obtain ⟨h1, h2⟩ := hid_some q
  rw [hid_at h1]
  exact k b o h1 h2
theorem Kp.sub {S S' : List Addr} {H H' : Hp} (k : Kp S H H') (h : ∀ b ∈ S, b ∈ S') : Kp S' H H' := fun b o hb q => k b o (fun z => hb (h b z)) q
theorem Kp.put {S : List Addr} {H : Hp} {q : Addr} {o : HO} (h : q ∈ S) : Kp S H (upd H q o) := fun b u hb z => by
  rw [upd_ne (show b ≠ q from fun e => hb (by rw [e]; exact h))]
  exact z
theorem Kp.new {S : List Addr} {H : Hp} {q : Addr} {o : HO} (h : H q = none) : Kp S H (upd H q o) := Kp.of_ex (Evl.Ex.new h)
/-- from what stands in the one hidden part to the other -/
theorem Kp.up {M S : List Addr} {H0 H : Hp} (k : Kp M H0 H) (fr : ∀ q ∈ S, q ∉ M → H0 q = none) : Ex (hid M H0) (hid S H) := fun b o z => by
  obtain ⟨h1, h2⟩ := hid_some z
  rw [hid_at fun hb => ?_]
  · exact k b o h1 h2
  · have := fr b hb h1
    rw [h2] at this
    cases this
theorem Ex.hid {S : List Addr} {H H' : Hp} (e : Ex H H') : Ex (AT.hid S H) (AT.hid S H') := (Kp.of_ex (S := S) e).ex
/-- a list that was changed is let be -/
theorem Dp.frz {S : List Addr} {H : Hp} {q : Addr} {vs : List V} {ds : List PyData} (hq : H q = some (.lst vs)) (hn : q ∉ S) (h : DpAll K (hid (q :: S) H) vs ds) : Dp K (hid S H) (.ref q) (.list ds) :=
  .lst (SqL.of (by rw [hid_at hn]; exact hq)) (h.ex hid_tail)
theorem Dp.frz' {S : List Addr} {H : Hp} {q : Addr} {vs : List V} {ds : List PyData} (hq : H q = some (.lst vs)) (hn : q ∉ S) (h : DpAll K (hid S H) vs ds) : Dp K (hid S H) (.ref q) (.list ds) :=
  .lst (SqL.of (by rw [hid_at hn]; exact hq)) h
/-- a new list, a new tuple -/
theorem notin_of {S : List Addr} {H : Hp} {q : Addr} (hs : ∀ b ∈ S, ∃ o, H b = some o) (hq : H q = none) : q ∉ S := fun z => by
  obtain ⟨o, ho⟩ := hs q z
  rw [hq] at ho
  cases ho
theorem Dp.newT {S : List Addr} {H : Hp} {q : Addr} {vs : List V} {ds : List PyData} (hq : H q = none) (hn : q ∉ S) (h : DpAll K (hid S H) vs ds) : Dp K (hid S (upd H q (.tup vs))) (.ref q) (.tuple ds) :=
  .tup (Evl.st_of (by rw [hid_at hn, upd_same])) (h.ex (Ex.hid (Evl.Ex.new hq)))
theorem Dp.newL {S : List Addr} {H : Hp} {q : Addr} {vs : List V} {ds : List PyData} (hq : H q = none) (hn : q ∉ S) (h : DpAll K (hid S H) vs ds) : Dp K (hid S (upd H q (.lst vs))) (.ref q) (.list ds) :=
  .lst (SqL.of (by rw [hid_at hn, upd_same])) (h.ex (Ex.hid (Evl.Ex.new hq)))
/-! ### reading -/
section
variable {σ : L2.St} {H H0 : Hp} {Q : VK} {x : V} {ds : List PyData} {d : PyData} {i : Nat}
theorem rd_ixDT (e : Ex H0 H) (h : Dp K H0 x (.tuple ds)) (hi : ds[i]? = some d) (q : ∀ v, Dp K H0 v d → Q v H) : rIx K x (.int (i : Int)) H Q := by
  obtain ⟨a, vs, rfl, h1, h2⟩ := Dp.tupv h
  obtain ⟨v, hv, hd⟩ := h2.get hi
  exact rd_ixT (Evl.ex_t e h1) (atI_nat hv) (q v hd)
theorem rd_ixDL (e : Ex H0 H) (h : Dp K H0 x (.list ds)) (hi : ds[i]? = some d) (q : ∀ v, Dp K H0 v d → Q v H) : rIx K x (.int (i : Int)) H Q := by
  obtain ⟨a, vs, rfl, h1, h2⟩ := Dp.lstv h
  obtain ⟨v, hv, hd⟩ := h2.get hi
  exact rd_ixL (Evl.ex_l e h1) (atI_nat hv) (q v hd)
theorem rd_lenDT (e : Ex H0 H) (h : Dp K H0 x (.tuple ds)) (q : Q (.int (ds.length : Int)) H) : cLen K [x] H Q := by
  obtain ⟨a, vs, rfl, h1, h2⟩ := Dp.tupv h
  exact rd_lenT (Evl.ex_t e h1) (by rw [h2.len]; exact q)
theorem rd_lenDL (e : Ex H0 H) (h : Dp K H0 x (.list ds)) (q : Q (.int (ds.length : Int)) H) : cLen K [x] H Q := by
  obtain ⟨a, vs, rfl, h1, h2⟩ := Dp.lstv h
  exact rd_lenL (Evl.ex_l e h1) (by rw [h2.len]; exact q)
def oIs : R2 := fun x y H Q => y = .non ∧ Q (.bl (decide (x = .non))) H
theorem rd_is {P : Prop} (h : P) : V.non = V.non ∧ P := ⟨rfl, h⟩
/-- == of the same data -/
def Lay (d : PyData) : Prop := d.canLay0 = true ∧ d.depth ≤ 64
theorem Lay.sh {d : PyData} (h : Lay d) : SeqAt.shaped d = true := Bool.and_eq_true_iff.mpr ⟨h.1, decide_eq_true h.2⟩
theorem rd_eqD {y : V} {H1 : Hp} (e0 : Ex H0 H) (e1 : Ex H1 H) (hx : Dp K H0 x d) (hy : Dp K H1 y d) (hl : Lay d) (q : Q (.bl true) H) : oEq K x y H Q :=
  .inr ⟨d, d, hx.ex e0, hy.ex e1, hl.sh, hl.sh, by rw [SeqAt.eqv_refl d hl.1]; exact q⟩
theorem rd_neD {y : V} {H1 : Hp} (e0 : Ex H0 H) (e1 : Ex H1 H) (hx : Dp K H0 x d) (hy : Dp K H1 y d) (hl : Lay d) (q : Q (.bl false) H) : oNe K x y H Q :=
  .inr ⟨d, d, hx.ex e0, hy.ex e1, hl.sh, hl.sh, by rw [SeqAt.eqv_refl d hl.1]; exact q⟩
end
/-- data that may be compared: at most so deep -/
structure Ly (d : PyData) (n : Nat) : Prop where
  c : d.canLay0 = true
  p : d.depth ≤ n
theorem Ly.lay {d : PyData} {n : Nat} (h : Ly d n) (hn : n ≤ 64) : Lay d := ⟨h.c, Nat.le_trans h.p hn⟩
theorem Ly.mono {d : PyData} {n m : Nat} (h : Ly d n) (hn : n ≤ m) : Ly d m := ⟨h.c, Nat.le_trans h.p hn⟩
theorem Ly.none : Ly .none 0 := ⟨rfl, Nat.le_refl 0⟩
theorem Ly.bool {b : Bool} : Ly (.bool b) 0 := ⟨rfl, Nat.le_refl 0⟩
theorem Ly.int {i : Int} : Ly (.int i) 0 := ⟨rfl, Nat.le_refl 0⟩
theorem Ly.str {x : Str} (h : okS x) : Ly (.str x) 0 := ⟨h, Nat.le_refl 0⟩
theorem ly_all {n : Nat} : ∀ {ds : List PyData}, (∀ d ∈ ds, Ly d n) → PyData.canLayAll0 ds = true ∧ PyData.depthAll ds ≤ n
  | [], _ => ⟨rfl, Nat.zero_le _⟩
  | d :: ds, h => by
    obtain ⟨a, b⟩ := ly_all (ds := ds) fun y hy => h y (List.mem_cons_of_mem _ hy)
    have hx := h d List.mem_cons_self
    refine ⟨?_, Nat.max_le.mpr ⟨hx.p, b⟩⟩
    show (d.canLay0 && PyData.canLayAll0 ds) = true
    rw [hx.c, a]; rfl
theorem Ly.tuple {n : Nat} {ds : List PyData} (h : ∀ d ∈ ds, Ly d n) : Ly (.tuple ds) (n + 1) := ⟨(ly_all h).1, Nat.succ_le_succ (ly_all h).2⟩
theorem Ly.list {n : Nat} {ds : List PyData} (h : ∀ d ∈ ds, Ly d n) : Ly (.list ds) (n + 1) := ⟨(ly_all h).1, Nat.succ_le_succ (ly_all h).2⟩
/-! ### walks over data -/
def YD (K : PySem.W.Frag) (ds : List PyData) (H0 : Hp) : Nat → Hp → V → Hp → Prop := fun i H v H' => H' = H ∧ ∃ d, ds[i]? = some d ∧ Dp K H0 v d
abbrev Wd (K : PySem.W.Frag) (J : It) (ds : List PyData) (H0 : Hp) : Prop := Walk J ds.length (fun H => Ex H0 H) (YD K ds H0)
theorem wd_list {H0 : Hp} {a : Addr} {vs : List V} {ds : List PyData} (h : SqL K H0 a vs) (hd : DpAll K H0 vs ds) : Wd K (Itl K a) ds H0 := by
  rw [Wd, ← hd.len]
  exact walk_list.mono (fun H e => Evl.ex_l e h) fun i H x H' _ _ y => ⟨y.1, hd.got y.2⟩
theorem wd_tup {H0 : Hp} {a : Addr} {vs : List V} {ds : List PyData} (h : SqT K H0 a vs) (hd : DpAll K H0 vs ds) : Wd K (Itt K a) ds H0 := by
  rw [Wd, ← hd.len]
  exact walk_tup.mono (fun H e => Evl.ex_t e h) fun i H x H' _ _ y => ⟨y.1, hd.got y.2⟩
section
variable {σ : L2.St} {H H0 : Hp} {Q : VK} {te : TE} {R : It → Hp → Prop} {D : Ends} {g : TG} {tb : TS} {tt : TT} {J : It} {ds : List PyData} {x : V} {vs : List Nat}
theorem rd_anyL' (h : te σ H fun x H1 => ∃ a, x = .ref a ∧ (∃ xs, SqL K H1 a xs) ∧ R (Itl K a) H1) : iAny K te σ H R := .inl h
theorem rd_anyT' (h : te σ H fun x H1 => ∃ a, x = .ref a ∧ (∃ xs, SqT K H1 a xs) ∧ R (Itt K a) H1) : iAny K te σ H R := .inr (.inl h)
theorem rd_anyS' (h : te σ H fun v H1 => ∃ x, v = .str x ∧ R (Its x) H1) : iAny K te σ H R := .inr (.inr h)
theorem rd_itDL (e : Ex H0 H) (h : Dp K H0 x (.list ds)) (q : ∀ J, Wd K J ds H0 → R J H) : ∃ a, x = .ref a ∧ (∃ xs, SqL K H a xs) ∧ R (Itl K a) H := by
  obtain ⟨a, vs, rfl, h1, h2⟩ := Dp.lstv h
  exact ⟨a, rfl, ⟨vs, Evl.ex_l e h1⟩, q _ (wd_list h1 h2)⟩
theorem rd_itDT (e : Ex H0 H) (h : Dp K H0 x (.tuple ds)) (q : ∀ J, Wd K J ds H0 → R J H) : ∃ a, x = .ref a ∧ (∃ xs, SqT K H a xs) ∧ R (Itt K a) H := by
  obtain ⟨a, vs, rfl, h1, h2⟩ := Dp.tupv h
  exact ⟨a, rfl, ⟨vs, Evl.ex_t e h1⟩, q _ (wd_tup h1 h2)⟩
theorem rd_itS {z : Str} (q : R (Its z) H) : ∃ x, V.str z = .str x ∧ R (Its x) H := ⟨z, rfl, q⟩
theorem fo_D (w : Wd K J ds H0) (Pv : Nat → L2.St → Hp → Prop) (h0 : Pv 0 σ H) (hG : ∀ i σ H, i ≤ ds.length → Pv i σ H → Ex H0 H)
    (hs : ∀ (i : Nat) d v σ H, ds[i]? = some d → Dp K H0 v d → Pv i σ H → g v σ H fun σ2 H2 => tb { D with nx := Pv (i + 1), ct := Pv (i + 1), bk := D.nx } σ2 H2) (hd : ∀ σ H, Pv ds.length σ H → D.nx σ H) : forB g tb D σ J H :=
  fo_it w Pv h0 hG (fun i v σ H H' hi p y => by
    obtain ⟨rfl, d, h1, h2⟩ := y
    exact hs i d v σ _ h1 h2 p) hd
/-- how the heap goes on from H: S may change, the rest stands -/
structure Tr (S : List Addr) (H : Hp) (T : Hp → Hp → Prop) : Prop where
  rfl' : T H H
  here : ∀ {a}, T H a → T a a
  st : ∀ {a b c}, T a b → (∃ o, a c = some o) → ∃ o : HO, b c = some o
  trans : ∀ {a b c}, T a b → T b c → T a c
  put : ∀ {L Hc o}, H L = none → T H Hc → T H (upd Hc L o)
  kp : ∀ {a b}, T a b → Kp S a b
theorem tr_ex {S : List Addr} {H : Hp} : Tr S H Ex := ⟨Evl.Ex.refl H, fun {a} _ => Evl.Ex.refl a, fun e h => h.elim fun o z => ⟨o, e _ _ z⟩, fun a b => a.trans b, fun h e => Evl.Ex.mut e h, fun e => Kp.of_ex e⟩
/-- a comprehension with a test, each value told by its turn -/
theorem lc_F {S : List Addr} {T : Hp → Hp → Prop} {n : Nat} {G : Hp → Prop} {Y : Nat → Hp → V → Hp → Prop} {P : Nat → V → Prop} {P2 : Nat → L2.St → Prop} (t : Tr S H T) (hS : ∀ b ∈ S, ∃ o, H b = some o) (w : Walk J n G Y) (hY : ∀ i H x H', i < n → Y i H x H' → H' = H ∧ P i x) (hn : n < 100000)
    (hG : ∀ Hc, T H Hc → G Hc) (p : Nat → Bool) (f : Nat → PyData)
    (hg : ∀ i x Hc (N : L2.St → Hp → Prop), i < n → P i x → T H Hc → (∀ σ2, wipe σ2 vs = wipe σ vs → P2 i σ2 → N σ2 Hc) → g x (wipe σ vs) Hc N)
    (ht : ∀ L i σ2 Hc, i < n → P2 i σ2 → H L = none → L ∉ S → T H Hc → (∀ b ∈ L :: S, ∃ o, Hc b = some o) → Ex (hid S H) (hid (L :: S) Hc) → ∀ N : Bool → Hp → Prop, (∀ H2, T Hc H2 → N (p i) H2) → tt σ2 Hc N)
    (he : ∀ L i σ2 Hc, i < n → P2 i σ2 → p i = true → H L = none → L ∉ S → T H Hc → (∀ b ∈ L :: S, ∃ o, Hc b = some o) → Ex (hid S H) (hid (L :: S) Hc) → ∀ N : VK, (∀ v H2, T Hc H2 → Dp K (hid (L :: S) H2) v (f i) → N v H2) → te σ2 Hc N)
    (h : ∀ L us Hc, T H Hc → H L = none → L ∉ S → Hc L = some (.lst us) → DpAll K (hid (L :: S) Hc) us (((List.range n).filter p).map f) → Q (.ref L) Hc) : lcB g tt te vs σ Q J H := by
  intro L hL
  have nL : L ∉ S := notin_of hS hL
  have up : ∀ {Hc}, T H Hc → Ex (hid S H) (hid (L :: S) Hc) := fun q => (t.kp q).up fun b hb hn => by
    rcases List.mem_cons.mp hb with z | z
    · rw [z]; exact hL
    · exact absurd z hn
  have kL : ∀ {a b : Hp} {o}, T a b → a L = some o → b L = some o := fun q z => t.kp q L _ nL z
  have hz : ∀ m, m ≤ n → (((List.range m).filter p).map f).length < sizeLine := fun m hm => by
    rw [List.length_map]
    have := List.length_filter_le p (List.range m)
    rw [List.length_range] at this
    exact Nat.lt_of_le_of_lt (Nat.le_trans this hm) (Nat.lt_trans hn (by decide))
  refine lc_it w (fun i Hc => i ≤ n ∧ T H Hc ∧ ∃ us, Hc L = some (.lst us) ∧ DpAll K (hid (L :: S) Hc) us (((List.range i).filter p).map f)) ⟨Nat.zero_le _, t.put hL t.rfl', [], upd_same, .nil⟩ (fun i Hc _ q => hG Hc q.2.1) (fun i x Hc H' hi q y => ?_) fun Hc q => ?_
  · obtain ⟨hi1, t1, us, h1, h2⟩ := q
    obtain ⟨rfl, px⟩ := hY _ _ _ _ hi y
    refine hg i x _ _ hi px t1 fun σ2 hw p2 => ⟨hw, ?_⟩
    have hs1 : ∀ b ∈ L :: S, ∃ o, H' b = some o := fun b hb => by
      rcases List.mem_cons.mp hb with z | z
      · rw [z]; exact ⟨_, h1⟩
      · exact t.st t1 (hS b z)
    refine ht L i σ2 _ hi p2 hL nL t1 hs1 (up t1) _ fun H2 t2 => ?_
    cases hp : p i with
    | true =>
      refine rd_iteT ?_
      refine he L i σ2 H2 hi p2 hp hL nL (t.trans t1 t2) (fun b hb => t.st t2 (hs1 b hb)) (up (t.trans t1 t2)) _ fun v H3 t3 dv => ?_
      have k23 := (t.kp (t.trans t2 t3)).sub (S' := L :: S) fun b hb => List.mem_cons_of_mem _ hb
      refine ⟨us, kL t3 (kL t2 h1), by rw [h2.len]; exact hz i hi1, hi, t.put hL (t.trans (t.trans t1 t2) t3), us ++ [v], upd_same, ?_⟩
      rw [List.range_succ, List.filter_append, List.map_append]
      have e : ((List.filter p [i]).map f) = [f i] := by
        rw [List.filter_cons, if_pos hp]
        rfl
      rw [e]
      exact ((h2.ex k23.ex).snoc dv).ex (Kp.put List.mem_cons_self).ex
    | false =>
      refine rd_iteF ?_
      have k12 := (t.kp t2).sub (S' := L :: S) fun b hb => List.mem_cons_of_mem _ hb
      refine ⟨hi, t.trans t1 t2, us, kL t2 h1, ?_⟩
      rw [List.range_succ, List.filter_append, List.map_append]
      have e : ((List.filter p [i]).map f) = [] := by
        rw [List.filter_cons, if_neg (by rw [hp]; exact Bool.false_ne_true)]
        rfl
      rw [e, List.append_nil]
      exact h2.ex k12.ex
  · obtain ⟨_, t1, us, h1, h2⟩ := q
    exact h L us Hc t1 hL nL h1 h2
/-- a comprehension without a test, each value told by a relation -/
theorem lc_R {S : List Addr} {T : Hp → Hp → Prop} {n : Nat} {G : Hp → Prop} {Y : Nat → Hp → V → Hp → Prop} {P : Nat → V → Prop} {P2 : Nat → L2.St → Prop} (t : Tr S H T) (hS : ∀ b ∈ S, ∃ o, H b = some o) (w : Walk J n G Y) (hY : ∀ i H x H', i < n → Y i H x H' → H' = H ∧ P i x) (hn : n < 100000)
    (hG : ∀ Hc, T H Hc → G Hc) (R : Nat → PyData → Prop)
    (hg : ∀ i x Hc (N : L2.St → Hp → Prop), i < n → P i x → T H Hc → (∀ σ2, wipe σ2 vs = wipe σ vs → P2 i σ2 → N σ2 Hc) → g x (wipe σ vs) Hc N)
    (he : ∀ L i σ2 Hc, i < n → P2 i σ2 → H L = none → L ∉ S → T H Hc → (∀ b ∈ L :: S, ∃ o, Hc b = some o) → Ex (hid S H) (hid (L :: S) Hc) → ∀ N : VK, (∀ v d H2, T Hc H2 → Dp K (hid (L :: S) H2) v d → R i d → N v H2) → te σ2 Hc N)
    (h : ∀ L us Hc ds, T H Hc → H L = none → L ∉ S → Hc L = some (.lst us) → DpAll K (hid (L :: S) Hc) us ds → ds.length = n → (∀ i d, ds[i]? = some d → R i d) → Q (.ref L) Hc) : lcB g tYes te vs σ Q J H := by
  intro L hL
  have nL : L ∉ S := notin_of hS hL
  have up : ∀ {Hc}, T H Hc → Ex (hid S H) (hid (L :: S) Hc) := fun q => (t.kp q).up fun b hb hn => by
    rcases List.mem_cons.mp hb with z | z
    · rw [z]; exact hL
    · exact absurd z hn
  have kL : ∀ {a b : Hp} {o}, T a b → a L = some o → b L = some o := fun q z => t.kp q L _ nL z
  refine lc_it w (fun i Hc => i ≤ n ∧ T H Hc ∧ ∃ us ds, Hc L = some (.lst us) ∧ DpAll K (hid (L :: S) Hc) us ds ∧ ds.length = i ∧ ∀ i d, ds[i]? = some d → R i d) ⟨Nat.zero_le _, t.put hL t.rfl', [], [], upd_same, .nil, rfl, fun i d z => by simp at z⟩ (fun i Hc _ q => hG Hc q.2.1) (fun i x Hc H' hi q y => ?_) fun Hc q => ?_
  · obtain ⟨hi1, t1, us, ds, h1, h2, h3, h4⟩ := q
    obtain ⟨rfl, px⟩ := hY _ _ _ _ hi y
    refine hg i x _ _ hi px t1 fun σ2 hw p2 => ⟨hw, rd_yes ?_⟩
    refine rd_iteT ?_
    have hs1 : ∀ b ∈ L :: S, ∃ o, H' b = some o := fun b hb => by
      rcases List.mem_cons.mp hb with z | z
      · rw [z]; exact ⟨_, h1⟩
      · exact t.st t1 (hS b z)
    refine he L i σ2 _ hi p2 hL nL t1 hs1 (up t1) _ fun v d H3 t3 dv rv => ?_
    have k23 := (t.kp t3).sub (S' := L :: S) fun b hb => List.mem_cons_of_mem _ hb
    refine ⟨us, kL t3 h1, by rw [h2.len, h3]; exact Nat.lt_of_lt_of_le (Nat.lt_trans hi hn) (by decide), hi, t.put hL (t.trans t1 t3), us ++ [v], ds ++ [d], upd_same, ((h2.ex k23.ex).snoc dv).ex (Kp.put List.mem_cons_self).ex, by rw [List.length_append, h3]; rfl, fun i' d' hd' => ?_⟩
    by_cases hlt : i' < ds.length
    · rw [List.getElem?_append_left hlt] at hd'
      exact h4 i' d' hd'
    · rw [List.getElem?_append_right (by omega)] at hd'
      have e0 : i' - ds.length = 0 := by
        rcases Nat.eq_zero_or_pos (i' - ds.length) with z | z
        · exact z
        · rw [List.getElem?_eq_none (by simp; omega)] at hd'
          cases hd'
      rw [e0] at hd'
      obtain rfl : d = d' := Option.some.inj hd'
      have e3 : i' = i := by omega
      rw [e3]
      exact rv
  · obtain ⟨_, t1, us, ds, h1, h2, h3, h4⟩ := q
    exact h L us Hc ds t1 hL nL h1 h2 h3 h4
/-- one name as the target -/
theorem hg_name {T : Hp → Hp → Prop} {n j : Nat} {P : Nat → V → Prop} {H : Hp} (hw : ∀ v : V, wipe ((wipe σ [j]).set j (some v)) [j] = wipe σ [j]) : ∀ i x Hc (N : L2.St → Hp → Prop), i < n → P i x → T H Hc → (∀ σ2, wipe σ2 [j] = wipe σ [j] → (∃ v, P i v ∧ σ2 = (wipe σ [j]).set j (some v)) → N σ2 Hc) → gName j x (wipe σ [j]) Hc N :=
  fun i x Hc N _ p _ h => h _ (hw x) ⟨x, p, rfl⟩
theorem wd_Y {n : Nat} : ∀ (i : Nat) (H : Hp) (x : V) (H' : Hp), i < n → YD K ds H0 i H x H' → H' = H ∧ ∃ d, ds[i]? = some d ∧ Dp K H0 x d := fun _ _ _ _ _ y => y
theorem str_Y {z : Str} : ∀ (i : Nat) (H : Hp) (x : V) (H' : Hp), i < z.cps.size → (H' = H ∧ ∃ c, z.cps[i]? = some c ∧ x = .str ⟨#[c]⟩) → H' = H ∧ ∃ c, z.cps.toList[i]? = some c ∧ x = V.str ⟨#[c]⟩ := fun i H x H' _ y => ⟨y.1, by
  obtain ⟨c, h1, h2⟩ := y.2
  exact ⟨c, by rw [Array.getElem?_toList]; exact h1, h2⟩⟩
/-! over data, one name as the target -/
theorem getD_range {α β : Type} (l : List α) (a : α) (q : α → Bool) (f : α → β) : ((List.range l.length).filter (fun i => q (l.getD i a))).map (fun i => f (l.getD i a)) = (l.filter q).map f := by
  have e : (List.range l.length).map (fun i => l.getD i a) = l := by
    refine List.ext_getElem (by simp) fun i h1 h2 => ?_
    rw [List.getElem_map, List.getElem_range, List.getD_eq_getElem?_getD, List.getElem?_eq_getElem h2]
    rfl
  have h : ((List.range l.length).map (fun i => l.getD i a)).filter q = ((List.range l.length).filter (fun i => q (l.getD i a))).map (fun i => l.getD i a) := List.filter_map ..
  rw [e] at h
  rw [h, List.map_map]
  rfl
theorem lc_FD {S : List Addr} {T : Hp → Hp → Prop} {j : Nat} (t : Tr S H T) (hS : ∀ b ∈ S, ∃ o, H b = some o) (w : Wd K J ds H0) (e0 : Ex H0 (hid S H)) (hn : ds.length < 100000) (hw : ∀ v : V, wipe ((wipe σ [j]).set j (some v)) [j] = wipe σ [j])
    (q : PyData → Bool) (F : PyData → PyData)
    (ht : ∀ L d v Hc, d ∈ ds → Dp K (hid (L :: S) Hc) v d → H L = none → L ∉ S → T H Hc → (∀ b ∈ L :: S, ∃ o, Hc b = some o) → Ex (hid S H) (hid (L :: S) Hc) → ∀ N : Bool → Hp → Prop, (∀ H2, T Hc H2 → N (q d) H2) → tt ((wipe σ [j]).set j (some v)) Hc N)
    (he : ∀ L d v Hc, d ∈ ds → Dp K (hid (L :: S) Hc) v d → q d = true → H L = none → L ∉ S → T H Hc → (∀ b ∈ L :: S, ∃ o, Hc b = some o) → Ex (hid S H) (hid (L :: S) Hc) → ∀ N : VK, (∀ v H2, T Hc H2 → Dp K (hid (L :: S) H2) v (F d) → N v H2) → te ((wipe σ [j]).set j (some v)) Hc N)
    (h : ∀ L us Hc, T H Hc → H L = none → L ∉ S → Hc L = some (.lst us) → DpAll K (hid (L :: S) Hc) us ((ds.filter q).map F) → Q (.ref L) Hc) : lcB (gName j) tt te [j] σ Q J H := by
  have hd : ∀ {i : Nat} {d : PyData}, ds[i]? = some d → ds.getD i .none = d := fun z => by rw [List.getD_eq_getElem?_getD, z]; rfl
  refine lc_F (K := K) (P := fun i x => ∃ d, ds[i]? = some d ∧ Dp K H0 x d) t hS w wd_Y hn (fun Hc z => (e0.trans (t.kp z).ex).trans hid_ex) (fun i => q (ds.getD i .none)) (fun i => F (ds.getD i .none)) (hg_name hw) (fun L i σ2 Hc hi p2 hL nL t1 hs up N hN => ?_) (fun L i σ2 Hc hi p2 hp hL nL t1 hs up N hN => ?_) fun L us Hc t1 hL nL h1 h2 => ?_
  · obtain ⟨v, ⟨d, h1, h2⟩, rfl⟩ := p2
    exact ht L d v Hc (List.mem_of_getElem? h1) (h2.ex (e0.trans up)) hL nL t1 hs up N fun H2 t2 => by have := hN H2 t2; rw [hd h1] at this; exact this
  · obtain ⟨v, ⟨d, h1, h2⟩, rfl⟩ := p2
    rw [hd h1] at hp
    exact he L d v Hc (List.mem_of_getElem? h1) (h2.ex (e0.trans up)) hp hL nL t1 hs up N fun v2 H2 t2 d2 => hN v2 H2 t2 (by rw [hd h1]; exact d2)
  · rw [getD_range] at h2
    exact h L us Hc t1 hL nL h1 h2
theorem lc_MD {S : List Addr} {T : Hp → Hp → Prop} {j : Nat} (t : Tr S H T) (hS : ∀ b ∈ S, ∃ o, H b = some o) (w : Wd K J ds H0) (e0 : Ex H0 (hid S H)) (hn : ds.length < 100000) (hw : ∀ v : V, wipe ((wipe σ [j]).set j (some v)) [j] = wipe σ [j])
    (F : PyData → PyData)
    (he : ∀ L d v Hc, d ∈ ds → Dp K (hid (L :: S) Hc) v d → H L = none → L ∉ S → T H Hc → (∀ b ∈ L :: S, ∃ o, Hc b = some o) → Ex (hid S H) (hid (L :: S) Hc) → ∀ N : VK, (∀ v H2, T Hc H2 → Dp K (hid (L :: S) H2) v (F d) → N v H2) → te ((wipe σ [j]).set j (some v)) Hc N)
    (h : ∀ L us Hc, T H Hc → H L = none → L ∉ S → Hc L = some (.lst us) → DpAll K (hid (L :: S) Hc) us (ds.map F) → Q (.ref L) Hc) : lcB (gName j) tYes te [j] σ Q J H := by
  refine lc_FD (K := K) t hS w e0 hn hw (fun _ => true) F (fun L d v Hc _ _ _ _ t1 _ _ N hN => rd_yes (hN Hc (t.here t1))) (fun L d v Hc hm hd _ hL nL t1 hs up N hN => he L d v Hc hm hd hL nL t1 hs up N hN) fun L us Hc t1 hL nL h1 h2 => ?_
  rw [List.filter_eq_self.mpr fun _ _ => rfl] at h2
  exact h L us Hc t1 hL nL h1 h2
theorem ex_up1 {H H' : Hp} {q : Addr} (e : Ex H H') (hq : H q = none) : Ex H (hid [q] H') := fun b o z => by
  rw [hid_at (fun m => by rw [List.mem_singleton.mp m, hq] at z; cases z)]
  exact e b o z
theorem st1 {H : Hp} {q : Addr} {o : HO} (h : H q = some o) : ∀ b ∈ [q], ∃ o, H b = some o := fun b hb => by
  cases List.mem_singleton.mp hb
  exact ⟨o, h⟩
theorem sts_ex {S : List Addr} {H H' : Hp} (h : ∀ b ∈ S, ∃ o, H b = some o) (e : Ex H H') : ∀ b ∈ S, ∃ o, H' b = some o := fun b hb => by
  obtain ⟨o, z⟩ := h b hb
  exact ⟨o, e b o z⟩
theorem ex_nil {H H' : Hp} (e : Ex H H') : Ex H (hid [] H') := by rw [hid_nil]; exact e
def isN : PyData → Bool
  | .none => true
  | _ => false
theorem isN_dp {H : Hp} {v : V} {d : PyData} (h : Dp K H v d) : decide (v = .non) = isN d := by
  cases h <;> rfl
/-- the values of plain data -/
theorem dp_strs {H : Hp} : ∀ {vs : List V} {ss : List Str}, DpAll K H vs (ss.map PyData.str) → vs = ss.map V.str
  | _, [], h => by cases h; rfl
  | _, s :: ss, h => by
    cases h with
    | cons h1 h2 => rw [Dp.str_iff h1, dp_strs h2]; rfl
theorem dp_ints' {H : Hp} : ∀ {vs : List V} {ss : List Int}, DpAll K H vs (ss.map PyData.int) → vs = ss.map V.int
  | _, [], h => by cases h; rfl
  | _, s :: ss, h => by
    cases h with
    | cons h1 h2 => rw [Dp.int_iff h1, dp_ints' h2]; rfl
theorem dp_bls {H : Hp} : ∀ {vs : List V} {ss : List Bool}, DpAll K H vs (ss.map PyData.bool) → vs = ss.map V.bl
  | _, [], h => by cases h; rfl
  | _, s :: ss, h => by
    cases h with
    | cons h1 h2 => rw [Dp.bl_iff h1, dp_bls h2]; rfl
theorem dps_str {H : Hp} (ss : List Str) : DpAll K H (ss.map V.str) (ss.map PyData.str) := DpAll.mapV _ _ _ fun x _ => .str x
theorem dps_int {H : Hp} (ss : List Int) : DpAll K H (ss.map V.int) (ss.map PyData.int) := DpAll.mapV _ _ _ fun x _ => .int x
theorem dps_bl {H : Hp} (ss : List Bool) : DpAll K H (ss.map V.bl) (ss.map PyData.bool) := DpAll.mapV _ _ _ fun x _ => .bl x
end
end
section
variable {X : Cx} (K : PySem.W.Frag) (hK : X.K = K := by rfl)
include hK
theorem kGt {e : Expr} {n : Nat} {t : TGs} (h : PG X e (gTup X.K n t)) : PG X e (gTup K n t) := hK ▸ h
end
section
variable {K : PySem.W.Frag} {σ : L2.St} {H H0 : Hp} {v : V} {Q : L2.St → Hp → Prop} {t : TGs} {ds : List PyData}
/-- a, b = a tuple of data -/
theorem rd_gtD {n : Nat} (e : Ex H0 H) (h : Dp K H0 v (.tuple ds)) (hn : ds.length = n) (q : ∀ xs, DpAll K H0 xs ds → t xs σ H Q) : gTup K n t v σ H Q := by
  obtain ⟨a, vs, rfl, h1, h2⟩ := Dp.tupv h
  exact ⟨a, vs, rfl, Evl.ex_t e h1, by rw [h2.len, hn], q vs h2⟩
theorem dp2 {a b : PyData} {xs : List V} (h : DpAll K H0 xs [a, b]) : ∃ x y, xs = [x, y] ∧ Dp K H0 x a ∧ Dp K H0 y b := by
  cases h with
  | cons h1 h =>
    cases h with
    | cons h2 h =>
      cases h
      exact ⟨_, _, rfl, h1, h2⟩
theorem rd_gN {i : Nat} {tg : TGs} {x : V} {xs : List V} (h : tg xs (σ.set i (some x)) H Q) : gCons (gName i) tg (x :: xs) σ H Q := ⟨_, _, rfl, h⟩
theorem rd_gE (h : Q σ H) : gNil [] σ H Q := ⟨rfl, h⟩
end
/-! ### hiding what data can't reach -/
mutual
def noList : PyData → Bool
  | .list _ => false
  | .tuple ds => noListAll ds
  | _ => true
def noListAll : List PyData → Bool
  | [] => true
  | d :: ds => noList d && noListAll ds
end
section
variable {K : PySem.W.Frag} {S : List Addr} {H : Hp}
theorem sqt_hid (h : ∀ b ∈ S, (∃ C dx fs, H b = some (.ins C dx fs)) ∨ ∃ xs, H b = some (.lst xs)) {a : Addr} {vs : List V} (q : SqT K H a vs) : SqT K (hid S H) a vs := by
  rcases q with (q | ⟨o, q⟩) | q
  · refine .inl (.inl ?_)
    rw [hid_at fun hb => ?_]
    · exact q
    · rcases h a hb with ⟨_, _, _, z⟩ | ⟨_, z⟩ <;> rw [z] at q <;> cases q
  · refine .inl (.inr ⟨o, ?_⟩)
    rw [hid_at fun hb => ?_]
    · exact q
    · rcases h a hb with ⟨_, _, _, z⟩ | ⟨_, z⟩ <;> rw [z] at q <;> cases q
  · exact .inr q
theorem sql_hid (h : ∀ b ∈ S, ∃ C dx fs, H b = some (.ins C dx fs)) {a : Addr} {vs : List V} (q : SqL K H a vs) : SqL K (hid S H) a vs := by
  rcases q with (q | ⟨o, q⟩) | q
  · refine .inl (.inl ?_)
    rw [hid_at fun hb => ?_]
    · exact q
    · obtain ⟨_, _, _, z⟩ := h a hb
      rw [z] at q; cases q
  · refine .inl (.inr ⟨o, ?_⟩)
    rw [hid_at fun hb => ?_]
    · exact q
    · obtain ⟨_, _, _, z⟩ := h a hb
      rw [z] at q; cases q
  · exact .inr q
mutual
theorem Dp.hidI (h : ∀ b ∈ S, ∃ C dx fs, H b = some (.ins C dx fs)) : ∀ (d : PyData) {v : V}, Dp K H v d → Dp K (hid S H) v d
  | .none, _, q => by cases q; exact .non
  | .bool b, _, q => by cases q; exact .bl b
  | .int i, _, q => by cases q; exact .int i
  | .str x, _, q => by cases q; exact .str x
  | .list ds, _, q => by
    cases q with
    | lst hs ha => exact .lst (sql_hid h hs) (DpAll.hidI h ds ha)
  | .tuple ds, _, q => by
    cases q with
    | tup hs ha => exact .tup (sqt_hid (fun b hb => .inl (h b hb)) hs) (DpAll.hidI h ds ha)
  | .dict _, _, q => by cases q
theorem DpAll.hidI (h : ∀ b ∈ S, ∃ C dx fs, H b = some (.ins C dx fs)) : ∀ (ds : List PyData) {vs : List V}, DpAll K H vs ds → DpAll K (hid S H) vs ds
  | [], _, q => by cases q; exact .nil
  | d :: ds, _, q => by
    cases q with
    | cons h1 h2 => exact .cons (Dp.hidI h d h1) (DpAll.hidI h ds h2)
end
mutual
theorem Dp.hidT (h : ∀ b ∈ S, (∃ C dx fs, H b = some (.ins C dx fs)) ∨ ∃ xs, H b = some (.lst xs)) : ∀ (d : PyData) {v : V}, noList d = true → Dp K H v d → Dp K (hid S H) v d
  | .none, _, _, q => by cases q; exact .non
  | .bool b, _, _, q => by cases q; exact .bl b
  | .int i, _, _, q => by cases q; exact .int i
  | .str x, _, _, q => by cases q; exact .str x
  | .list ds, _, n, q => by cases n
  | .tuple ds, _, n, q => by
    cases q with
    | tup hs ha => exact .tup (sqt_hid h hs) (DpAll.hidT h ds n ha)
  | .dict _, _, _, q => by cases q
theorem DpAll.hidT (h : ∀ b ∈ S, (∃ C dx fs, H b = some (.ins C dx fs)) ∨ ∃ xs, H b = some (.lst xs)) : ∀ (ds : List PyData) {vs : List V}, noListAll ds = true → DpAll K H vs ds → DpAll K (hid S H) vs ds
  | [], _, _, q => by cases q; exact .nil
  | d :: ds, _, n, q => by
    obtain ⟨n1, n2⟩ := Bool.and_eq_true_iff.mp n
    cases q with
    | cons h1 h2 => exact .cons (Dp.hidT h d n1 h1) (DpAll.hidT h ds n2 h2)
end
theorem noList_all {ds : List PyData} (h : ∀ d ∈ ds, noList d = true) : noListAll ds = true := by
  induction ds with
  | nil => rfl
  | cons d ds ih =>
    show (noList d && noListAll ds) = true
    rw [h d List.mem_cons_self, ih fun e he => h e (List.mem_cons_of_mem _ he)]
    rfl
/-- a list or a tuple of data -/
def SqD (K : PySem.W.Frag) (H : Hp) (x : V) (ds : List PyData) : Prop := Dp K H x (.list ds) ∨ Dp K H x (.tuple ds)
theorem SqD.ex {H' : Hp} {x : V} {ds : List PyData} (h : SqD K H x ds) (e : Ex H H') : SqD K H' x ds := h.elim (fun z => .inl (z.ex e)) fun z => .inr (z.ex e)
theorem rd_anySq {σ : L2.St} {H0 : Hp} {te : TE} {x : V} {ds : List PyData} {R : It → Hp → Prop} (he : ∀ Q : VK, Q x H → te σ H Q) (e : Ex H0 H) (h : SqD K H0 x ds) (q : ∀ J, Wd K J ds H0 → R J H) : iAny K te σ H R := by
  rcases h with h | h
  · exact rd_anyL' (he _ (rd_itDL e h q))
  · exact rd_anyT' (he _ (rd_itDT e h q))
/-- tuple(x) -/
theorem rd_tupSq {S : List Addr} {H0 : Hp} {x : V} {ds : List PyData} {Q : VK} (hs : ∀ b ∈ S, ∃ o, H b = some o) (e : Ex H0 (hid S H)) (h : SqD K H0 x ds) (q : ∀ a H', Ex H H' → Dp K (hid S H') (.ref a) (.tuple ds) → Q (.ref a) H') : cTupOf K [x] H Q := by
  rcases h with h | h
  · obtain ⟨a, vs, rfl, h1, h2⟩ := Dp.lstv h
    exact rd_tupL (Evl.ex_l (e.trans hid_ex) h1) fun l hl => q l _ (Evl.Ex.new hl) (Dp.newT hl (notin_of hs hl) (h2.ex e))
  · obtain ⟨a, vs, rfl, h1, h2⟩ := Dp.tupv h
    exact rd_tupT (Evl.ex_t (e.trans hid_ex) h1) (q a H (Evl.Ex.refl H) (h.ex e))
/-- list(x) -/
theorem rd_lstSq {S : List Addr} {H0 : Hp} {x : V} {ds : List PyData} {Q : VK} (e : Ex H0 (hid S H)) (h : SqD K H0 x ds) (q : ∀ l vs, H l = none → DpAll K (hid S H) vs ds → Q (.ref l) (upd H l (.lst vs))) : cLstOf K [x] H Q := by
  rcases h with h | h
  · obtain ⟨a, vs, rfl, h1, h2⟩ := Dp.lstv h
    exact rd_lstL (.inl (Evl.ex_l (e.trans hid_ex) h1)) fun l hl => q l vs hl (h2.ex e)
  · obtain ⟨a, vs, rfl, h1, h2⟩ := Dp.tupv h
    exact rd_lstL (.inr (Evl.ex_t (e.trans hid_ex) h1)) fun l hl => q l vs hl (h2.ex e)
end
section
variable {K : PySem.W.Frag} {H : Hp}
theorem rd_lstSq0 {H0 : Hp} {x : V} {ds : List PyData} {Q : VK} (e : Ex H0 H) (h : SqD K H0 x ds) (q : ∀ l vs, H l = none → DpAll K H0 vs ds → Q (.ref l) (upd H l (.lst vs))) : cLstOf K [x] H Q := by
  rcases h with h | h
  · obtain ⟨a, vs, rfl, h1, h2⟩ := Dp.lstv h
    exact rd_lstL (.inl (Evl.ex_l e h1)) fun l hl => q l vs hl h2
  · obtain ⟨a, vs, rfl, h1, h2⟩ := Dp.tupv h
    exact rd_lstL (.inr (Evl.ex_t e h1)) fun l hl => q l vs hl h2
end
theorem rd_par3 {i j l : Nat} {ta : TA} {D : Ends} {σ : L2.St} {H : Hp} (h : ta σ H fun vs H1 => ∃ u v w, vs = [u, v, w] ∧ D.nx (((σ.set i (some u)).set j (some v)).set l (some w)) H1) : tPar3 i j l ta D σ H := h
theorem rd_v3 {u v w : V} {P : V → V → V → Prop} (h : P u v w) : ∃ u' v' w', [u, v, w] = [u', v', w'] ∧ P u' v' w' := ⟨u, v, w, rfl, h⟩
end AT

set_option Elab.async false
set_option linter.all false
set_option maxRecDepth 100000
set_option maxHeartbeats 4000000
/-! own words, fifth part: dicts whose keys are tuples, lists unpacked, while -/
namespace AT
open PySem PySem.Spec PyProof.Rows L2
/-- {k: v}, the key a tuple -/
def tDisp1T (tk tv : TE) : TE := fun σ H Q => ∀ p, H p = none → tk σ (upd H p (.dT [])) fun x H1 => tv σ H1 fun y H2 => H2 p = some (.dT []) ∧ ∃ (b : Addr) (k : List Key), x = .ref b ∧ H2 b = some (.tup (k.map kV)) ∧ Q (.ref p) (upd H2 p (.dT [(k, y)]))
section
variable {X : Cx} {pos : Pos} {k v : Expr} {tk tv : TE}
theorem pe_disp1T (hu : X.A.units + 1 < cLine) (hk : PE X k tk) (hv : PE X v tv) : PE X (.Dict [some k] [v] pos) (tDisp1T tk tv) := by
  refine ⟨fun pins s σ H Q I q => ?_⟩
  have hn := I.hok.fresh (Nat.le_refl s.heap.objs.size)
  have I1 := I.laid (a := s.heap.objs.size) (o := .dT []) (t' := s.toks) (fun _ _ z => Heap.get?_push_of_some _ z) (Nat.le_refl _) (dt_empty s.heap I.big)
  have hz := zip_pairTrees [some k] [v] X.env pos rfl rfl
  have hl : (pairTrees [some k] [v] X.env pos).length = 1 := pairTrees_length [some k] [v] X.env pos rfl rfl
  have hne : pairTrees [some k] [v] X.env pos ≠ [] := fun z => by rw [z] at hl; cases hl
  have room : (tupleKind (mixKind X.prog X.w)).room X.A := Nat.lt_of_succ_lt hu
  rw [arm_eval_Dict, hz, dictDisplay_pairs _ hne (by rw [hl]; decide)]
  refine wpAny_bind (wpAny_standAt (wpAny_bind ?_))
  refine wpAny_subDictH (knd := tupleKind (mixKind X.prog X.w)) room (by rw [hl]; decide) ?_
  refine pairTrees_cons_walk (thn (hk.run pins _ σ _ _ I1 (q _ hn)) fun u s1 ⟨x, H1, I1', rx, q1⟩ => thn (hv.run pins s1 σ H1 _ I1' q1) fun w2 s2 ⟨y, H2, I2, ry, q2⟩ => pairTrees_nil_walk ?_)
  obtain ⟨e, b, ks, rfl, eb, q3⟩ := q2
  cases (show u = Value.ref b from rx)
  obtain ⟨z, hd, xs0, r0, dd⟩ := dt_of I2.hok e
  cases r0
  refine ⟨[(ks, b, w2)], ⟨rfl, rfl, key_of I2.hok eb, True.intro⟩, dd, fun h' tk dd' hs => wpAny_pure ⟨.ref s.heap.objs.size, _, ?_, rfl, q3⟩⟩
  have e1 : storedAllH [] [(ks, b, w2)] = [(ks, b, w2)] := rfl
  rw [e1] at dd'
  obtain ⟨o, es, ep, ho, h2, h3, h4, h5, h6⟩ := dd'
  refine d_write I2 (by rw [e]; exact True.intro) hs ⟨o, ho⟩ ⟨by show 1 ≤ sizeLine; decide, hd, [(ks, b, w2)], .cons ⟨rfl, ?_, ry⟩ .nil, o, es, ep, ho, h2, h3, h4, h6⟩
  show upd H2 s.heap.objs.size _ b = _
  rw [upd_ne (ne_of eb e (fun z => nomatch z))]
  exact eb
end
section
variable {X : Cx} (K : PySem.W.Frag) (hK : X.K = K := by rfl)
include hK
theorem kGl {e : Expr} {n : Nat} {t : TGs} (h : PG X e (gLst X.K n t)) : PG X e (gLst K n t) := hK ▸ h
end
section
variable {K : PySem.W.Frag} {σ : L2.St} {H : Hp} {Q : VK} {D : Ends} {td ty tv tk : TE} {tt : TT} {tb : TS}
theorem rd_dget (h : td σ H fun x H1 => ty σ H1 fun y H2 => ∃ a v, x = .ref a ∧ DGet H2 a y (some v) ∧ Q v H2) : tDGet td ty σ H Q := h
theorem rd_din (h : ty σ H fun y H1 => td σ H1 fun x H2 => ∃ a o, x = .ref a ∧ DGet H2 a y o ∧ Q (.bl o.isSome) H2) : tDIn ty td σ H Q := h
theorem rd_dnin (h : ty σ H fun y H1 => td σ H1 fun x H2 => ∃ a o, x = .ref a ∧ DGet H2 a y o ∧ Q (.bl (!o.isSome)) H2) : tDNotIn ty td σ H Q := h
theorem rd_dput (h : tv σ H fun v H1 => td σ H1 fun x H2 => ty σ H2 fun y H3 => ∃ a H4, x = .ref a ∧ DPut H3 a y v H4 ∧ D.nx σ H4) : sDPut td ty tv D σ H := h
theorem rd_disp1T (h : ∀ p, H p = none → tk σ (upd H p (.dT [])) fun x H1 => tv σ H1 fun y H2 => H2 p = some (.dT []) ∧ ∃ (b : Addr) (k : List Key), x = .ref b ∧ H2 b = some (.tup (k.map kV)) ∧ Q (.ref p) (upd H2 p (.dT [(k, y)]))) : tDisp1T tk tv σ H Q := h
theorem rd_dnK (h : ∀ p, H p = none → Q (.ref p) (upd H p (.dK []))) : tDNewK σ H Q := h
theorem rd_dnT (h : ∀ p, H p = none → Q (.ref p) (upd H p (.dT []))) : tDNewT σ H Q := h
theorem rd_wh (W : Nat → L2.St → Hp → Prop) (m0 : Nat) (h0 : W m0 σ H) (hs : ∀ m σ' H', W m σ' H' → tt σ' H' fun b H1 => if b = true then ∃ N : L2.St → Hp → Prop, (∀ σ2 H2, N σ2 H2 → ∃ m', m' < m ∧ W m' σ2 H2) ∧ tb { D with nx := N, ct := N, bk := D.nx } σ' H1 else D.nx σ' H1) : tWhile tt tb D σ H := ⟨W, ⟨m0, h0⟩, hs⟩
end
end AT

set_option Elab.async false
set_option linter.all false
set_option maxRecDepth 100000
set_option maxHeartbeats 4000000
/-! own words, sixth part: enumerate over tuples and texts -/
namespace AT
open PySem PySem.Spec PyProof.Rows L2
open AutoSeq1 (wpAny_loadPart')
section
theorem tupIn {h : Heap} {a : Addr} {its : Array Value} (p : IsTup h a its) : h.IsTuple a its := by
  obtain ⟨o, e1, e2, n, e3⟩ := p
  exact ⟨o, e1, e2, n, e3⟩
/-- a tuple, item by item -/
theorem draws_tup {P : Program} {w : World} {B : Around} (calm : B.handled = none) (z q : Addr) (hq : q ≠ z) (vs : Array Value) :
    Draws P w B z [z, q] vs.size (fun k v => vs[k]? = some v) (fun k g => g.IsTupleIter z q k ∧ g.IsTuple q vs) := by
  refine ⟨fun _ _ st => ?_, fun _ _ _ st hk => ?_, fun k s Q E hk st hQ => ?_, fun s Q E st hE => ?_⟩
  · obtain ⟨⟨o, e, _⟩, _⟩ := st
    exact ⟨o, e⟩
  · exact ⟨Heap.IsTupleIter.at st.1 fun o e => hk z List.mem_cons_self o e, Heap.IsTuple.at st.2 fun o e => hk q (List.mem_cons_of_mem _ List.mem_cons_self) o e⟩
  · have hx : vs[k]? = some vs[k] := by simp [hk]
    exact RZ.nextOf_tuple_item st.1 st.2 hx fun g g1 g2 => hQ _ g s.toks hx ⟨g1, Heap.IsTuple.extBut st.2 g2.extBut hq⟩ g2
  · exact RZ.nextOf_tuple_end calm st.1 st.2 (by simp) hE
theorem enumNewT (q : Addr) (vs : Array Value) (k : Nat) (od : Option Addr) (sl : Array (Option Value)) :
    Meets (Builtin.«enumerate.__new__» ⟨[.type "enumerate", .ref q], []⟩) (fun _ R s => s.heap.get? q = some ⟨.type "tuple", od, .seq vs k, sl⟩ ∧
      R (.ok (.ret (.ref (s.heap.push { cls := .type "tuple_iterator", data := .fields #[.ref q, .int 0 0] }).objs.size)))
        ⟨(s.heap.push { cls := .type "tuple_iterator", data := .fields #[.ref q, .int 0 0] }).push { cls := .type "enumerate", data := .fields #[.none, .bool false, .ref s.heap.objs.size, rawInt 0, .none, .none] }, s.gens, s.drawn, s.toks, s.os⟩) :=
  .of_wp fun prog w A R s h => by
    obtain ⟨hp, g, d, tk, os⟩ := s
    obtain ⟨hl, h⟩ := h
    have sub := sub_enumerate
    have tup : Heap.IsTuple (Shared.heap ⟨hp, g, d, tk, os⟩) q vs := ⟨_, hl, rfl, k, rfl⟩
    wp_walk using wpAny_loadPart' hl
    refine wpAny_stack_any fun _ => wpAny_pure ?_
    split
    · rename_i c _ _ _ _ _
      cases (c == Value.type "enumerate") <;>
        (wp_walk using wpAny_loadPart' hl, wpAny_pyIter_tuple tup
         exact ⟨_, rfl, h⟩)
    · wp_walk using wpAny_loadPart' hl, wpAny_pyIter_tuple tup
      exact ⟨_, rfl, h⟩
theorem callEnumT {P : Program} {w : World} {B : Around} {E : Value → Shared → Prop} {s : Shared} {q : Addr} {vs : Array Value} {Q : Value → Shared → Prop} (tup : s.heap.IsTuple q vs)
    (hQ : ∀ g, IsEnum g (s.heap.objs.size + 1) s.heap.objs.size 0 .none → g.IsTupleIter s.heap.objs.size q 0 → (∀ b o, s.heap.get? b = some o → g.get? b = some o) → Q (.ref (s.heap.objs.size + 1)) { s with heap := g }) :
    wpAny (model P w) B (call (.type "enumerate") [.ref q]) Q E s := by
  obtain ⟨⟨c, od, dt, sl⟩, hl, hc, k, hd⟩ := tup
  obtain rfl : c = .type "tuple" := hc
  obtain rfl : dt = .seq vs k := hd
  refine callType_new F.called_enumerate (by decide) (F.typeCall_enumerate_1 _) (F.newCall_enumerate_1 _) (fun x => F.args_object_init_2 x _) F.entry_enumerate_new (enumNewT q vs k od sl) ⟨hl, ?_⟩
  have size1 : (s.heap.push { cls := .type "tuple_iterator", data := .fields #[.ref q, .int 0 0] }).objs.size = s.heap.objs.size + 1 := Heap.size_push ..
  show _ ∧ _
  rw [size1]
  have made : IsEnum ((s.heap.push { cls := .type "tuple_iterator", data := .fields #[.ref q, .int 0 0] }).push { cls := .type "enumerate", data := .fields #[.none, .bool false, .ref s.heap.objs.size, rawInt 0, .none, .none] }) (s.heap.objs.size + 1) s.heap.objs.size 0 .none := by
    have e := Heap.get?_push_size (s.heap.push { cls := .type "tuple_iterator", data := .fields #[.ref q, .int 0 0] }) (o := { cls := .type "enumerate", data := .fields #[.none, .bool false, .ref s.heap.objs.size, rawInt 0, .none, .none] }) rfl
    rw [size1] at e
    exact e
  exact ⟨⟨_, made, rfl⟩, hQ _ made ⟨_, Heap.get?_push_of_some _ (Heap.get?_push_size _ rfl), rfl, rfl⟩ fun b o z => Heap.get?_push_of_some _ (Heap.get?_push_of_some _ z)⟩
/-- the tuple at q, each item in a new pair -/
def ItEt (K : PySem.W.Frag) (q : Addr) : It where
  go := fun i H => ∃ (xs : List V) (x : V), SqT K H q xs ∧ xs[i]? = some x
  yld := fun i H v H' => ∃ T x, v = .ref T ∧ H T = none ∧ H' = upd H T (.tup [.int (i : Nat), x]) ∧ ∀ xs, SqT K H q xs → xs[i]? = some x
  stop := fun i H => ∃ xs : List V, SqT K H q xs ∧ xs.length = i
theorem turn_enumT {P : Program} {w : World} {K : PySem.W.Frag} {tgs : List Expr} {kk : Nat} {tp : Pos} (q e z : Addr) :
    Turn P w K (.Tuple tgs kk tp) (ItEt K q) [e, z] e (fun i g => (∃ old, IsEnum g e z ((i : Nat) : Int) old) ∧ g.IsTupleIter z q i ∧ e ≠ z ∧ q ≠ z ∧ q ≠ e) := by
  refine ⟨List.mem_cons_self, fun i g st b hb => ?_, fun i g g' st k => ?_, ?_, ?_, fun B i s Q E st h => ?_⟩
  · obtain ⟨⟨old, he⟩, ⟨o, ho, hc, hd⟩, _⟩ := st
    rcases List.mem_cons.mp hb with y | y
    · rw [y]; exact ⟨_, he, fun v t => nomatch t⟩
    · rw [List.mem_singleton.mp y]; exact ⟨o, ho, fun v t => by rw [hd] at t; cases t⟩
  · obtain ⟨⟨old, he⟩, hz, ne⟩ := st
    exact ⟨⟨old, k e List.mem_cons_self _ he⟩, Heap.IsTupleIter.at hz fun o t => k z (List.mem_cons_of_mem _ List.mem_cons_self) o t, ne⟩
  · intro X hP hw hK hc i pins s σ H E I hf st hg
    subst hP hw hK
    obtain ⟨⟨old, he⟩, hz, ne, n1, n2⟩ := st
    obtain ⟨xs, x, hq, hx⟩ := hg
    obtain ⟨its, rv, p, len⟩ := I.tuple hq
    obtain ⟨u, hu, ru⟩ := rv.get hx
    have lt : i < its.toArray.size := by
      have := (List.getElem?_eq_some_iff.mp hu).1
      simpa using this
    have heL : e < s.heap.objs.size := Heap.lt_size he
    have hzL : z < s.heap.objs.size := by obtain ⟨_, t, _⟩ := hz; exact Heap.lt_size t
    refine wpAny_pyNext_enum_itemD (draws_tup (P := X.prog) (w := X.w) (B := X.A.in1) (show X.A.in1.handled = none from I.ok.hd hc) z q n1 its.toArray) he ⟨hz, tupIn p⟩ lt ne (by simp [ne, Ne.symm n2]) fun u' g tk hu' ho st' hT hsz hk => ?_
    have eu : u' = u := by
      have a : its.toArray[i]? = some u := by simpa using hu
      rw [a] at hu'
      exact (Option.some.inj hu').symm
    subst eu
    refine ⟨_, rfl, wpAny_letOwnedTupleGo_enum (s := { s with heap := g, toks := tk + 1 }) ho fun g2 he' sb => ?_⟩
    have hT2 : g2.get? s.heap.objs.size = some { cls := .type "tuple", data := .seq #[.int i tk, u'] } := (sb.2 _ (Nat.ne_of_gt heL)).trans hT
    have fresh : ObjOk X.prog X.w (upd H s.heap.objs.size (.tup [.int (i : Nat), x])) g2 s.heap.objs.size (.tup [.int (i : Nat), x]) := ⟨by show 2 ≤ sizeLine; decide, [.int i tk, u'], .cons ⟨_, rfl⟩ (.cons ru .nil), ⟨_, hT2, rfl, _, rfl⟩⟩
    have I1 : Inv X pins σ (upd H s.heap.objs.size (.tup [.int (i : Nat), x])) { s with heap := g2, toks := tk + 1 } :=
      I.turnedNew (ch := [e, z]) (fun b ob hb t => (sb.2 b (fun y => hb (by simp [y]))).trans (hk b ob (fun y => hb (by simp [y])) (fun y => hb (by simp [y])) t)) hf (Nat.le_refl _) fresh
    refine ⟨.ref s.heap.objs.size, _, I1, rfl, ⟨_, x, rfl, I.hok.fresh (Nat.le_refl _), rfl, fun ys hy => by rw [I.tuple_inj hy hq]; exact hx⟩, ⟨⟨u', ?_⟩, Heap.IsTupleIter.at st'.1 fun o t => (sb.2 z (Ne.symm ne)).trans t, ne, n1, n2⟩, fun b hb => ?_⟩
    · have e1 : ((i + 1 : Nat) : Int) = (i : Int) + 1 := by omega
      rw [e1]
      exact he'
    · have hb' : b < s.heap.objs.size := by
        rcases List.mem_cons.mp hb with y | y
        · rw [y]; exact heL
        · rw [List.mem_singleton.mp y]; exact hzL
      rw [upd_ne (Nat.ne_of_lt hb')]
      exact (hf b hb).1
  · intro X hP hw hK hc i pins s σ H E I hf st hg
    subst hP hw hK
    obtain ⟨⟨old, he⟩, hz, ne, n1, n2⟩ := st
    obtain ⟨xs, hq, hx⟩ := hg
    obtain ⟨its, rv, p, len⟩ := I.tuple hq
    obtain ⟨f0, f1, f2, f3, f4, f5⟩ := hf z (List.mem_cons_of_mem _ List.mem_cons_self)
    have hl : i = its.toArray.size := by
      have := rv.length
      simp
      omega
    have he0 : IsEnum s.heap e z ((its.toArray.size : Nat) : Int) old := hl ▸ he
    have hz0 : s.heap.IsTupleIter z q its.toArray.size := hl ▸ hz
    refine wpAny_pyNext_enum_endD (draws_tup (P := X.prog) (w := X.w) (B := X.A.in1) (show X.A.in1.handled = none from I.ok.hd hc) z q n1 its.toArray) he0 ⟨hz0, tupIn p⟩ fun g eb => ⟨rfl, I.turned (t' := s.toks) (fun b o hb t => eb b o hb t) f0 f1 f3 f4 f5⟩
  · obtain ⟨⟨_, he⟩, _⟩ := st
    exact wpAny_pyIter_enum he h
def iEnumT (K : PySem.W.Frag) (ta : TA) : TI := fun σ H R => ta σ H fun vs H1 => ∃ q xs, vs = [.ref q] ∧ SqT K H1 q xs ∧ R (ItEt K q) H1
theorem pi_enumT {X : Cx} {e : Expr} {ta : TA} {p pos tp : Pos} {tgs : List Expr} {kk : Nat} (hg : Gl X "enumerate") (hm : X.mg "enumerate" = none) (ha : PA X [e] ta) (hs : starEach [e] X.env = [(false, eval e X.env)] := by rfl) :
    PI X (.Tuple tgs kk tp) (.Call (.Name "enumerate" p) [e] [] pos) (iEnumT X.K ta) := by
  refine ⟨fun pins s σ H R I h => Call_ (ld_blt I hg hm boot_enumerate (PyProof.Rows.callWith_type1 (thn (ha.run pos pins s σ H _ I h) fun us s1 ⟨vs, H1, I1, r1, q1⟩ => ?_) hs rfl))⟩
  obtain ⟨a, xs, ex, hq, q⟩ := q1
  subst ex
  obtain ⟨u, rfl, ru⟩ := vals1 r1
  cases (show u = Value.ref a from ru)
  obtain ⟨its, rv, p', hz⟩ := I1.tuple hq
  have old : a < s1.heap.objs.size := by obtain ⟨o, e1, _⟩ := p'; exact Heap.lt_size e1
  refine callEnumT (tupIn p') fun g he hit hk => wpAny_pyIter_enum he ?_
  have I2 : Inv X pins σ H1 { s1 with heap := g } := I1.kept (t' := s1.toks) hk
  refine ⟨s1.heap.objs.size + 1, [s1.heap.objs.size + 1, s1.heap.objs.size], _, _, H1, rfl, I2, turn_enumT a (s1.heap.objs.size + 1) s1.heap.objs.size, ⟨⟨.none, he⟩, hit, Nat.succ_ne_self _, Nat.ne_of_lt old, Nat.ne_of_lt (Nat.lt_succ_of_lt old)⟩, fun b hb => ?_, q⟩
  have hle : s1.heap.objs.size ≤ b := by
    rcases List.mem_cons.mp hb with y | y
    · rw [y]; exact Nat.le_add_right _ _
    · rw [List.mem_singleton.mp y]; exact Nat.le_refl _
  exact I1.fpOk hle (I1.hok.fresh hle)
theorem walk_enumT {K : PySem.W.Frag} {q : Addr} {xs : List V} : Walk (ItEt K q) xs.length (fun H => SqT K H q xs) (YPair (fun i => some (.int (i : Nat))) (fun i => xs[i]?)) := by
  refine ⟨fun i _ hi h => ⟨xs, xs[i], h, by simp [hi]⟩, fun _ h => ⟨xs, h, rfl⟩, fun i H v H' _ h y => ?_⟩
  obtain ⟨T, x, h1, h2, h3, h4⟩ := y
  exact ⟨T, .int (i : Nat), x, h1, h2, h3, rfl, h4 xs h⟩
/-- enumerate of a list or a tuple -/
def iEnumA (K : PySem.W.Frag) (ta : TA) : TI := fun σ H R => iEnum K ta σ H R ∨ iEnumT K ta σ H R
theorem pi_enumA {X : Cx} {e : Expr} {ta : TA} {p pos tp : Pos} {tgs : List Expr} {kk : Nat} (hg : Gl X "enumerate") (hm : X.mg "enumerate" = none) (ha : PA X [e] ta) (hs : starEach [e] X.env = [(false, eval e X.env)] := by rfl) :
    PI X (.Tuple tgs kk tp) (.Call (.Name "enumerate" p) [e] [] pos) (iEnumA X.K ta) := PI.or (pi_enum hg hm ha hs) (pi_enumT hg hm ha hs)
end
section
variable {X : Cx} (K : PySem.W.Frag) (hK : X.K = K := by rfl)
include hK
theorem kEn {tg e : Expr} {ta : TA} (h : PI X tg e (iEnumA X.K ta)) : PI X tg e (iEnumA K ta) := hK ▸ h
end
end AT

set_option Elab.async false
set_option linter.all false
set_option maxRecDepth 100000
set_option maxHeartbeats 8000000
/-! own words, seventh part: a name that is set to a dict comprehension on its own line -/
namespace AT
open PySem L2 PySem.Spec PyProof.Rows
/-- whatever the block of the comprehension is -/
abbrev InBlk (X : Cx) (sc : Scope) (R : Cx → Prop) : Prop := ∀ s H C cl fp, R (X.blk s H sc (compEnvC sc cl C X.env) fp)
/-- the comprehension, with one for -/
abbrev DC1 (a b t e : Expr) (cs : List Expr) (sc : Scope) (o : Pos) : Expr := .DictComp a b [⟨t, e, cs, 0⟩] sc o
theorem ps_setDc {X : Cx} {i : Nat} {n : Str} {np o so : Pos} {a b t e : Expr} {cs : List Expr} {sc : Scope} {own : List (Str × Nat)} {wi : TI} {g : TG} {tt : TT} {ta tb : TE}
    (calm : X.calm = true) (nd : X.N.Nodup) (at' : X.N[i]? = some n) (loc : X.env.scope.names.lookup n = some .local) (sw : swapsWith (DC1 a b t e cs sc o) (some (.Name n np)) so.line X.env = pure true)
    (pi : PI X t e wi) (bk : BlkOk X.N X.env.scope sc own) (pg : InBlk X sc fun Y => PG Y t g) (pt : InBlk X sc fun Y => PTs Y cs tt) (pa : InBlk X sc fun Y => PE Y a ta) (pb : InBlk X sc fun Y => PE Y b tb)
    (fo : ∀ x, foldedSetIterable e X.env x = pure x := by intro _; rfl) : PS X (.Assign [.Name n np] (DC1 a b t e cs sc o) so) (tAsg (tDc wi g tt ta tb (own.map (·.2))) (gName i)) :=
  ⟨fun P s σ H D J w => by
    rw [exec_Assign_Name_used n np _ so sw]
    apply wpAny_bind; apply wpAny_standAt; apply wpAny_bind
    refine wpAny_bind (thn ?core fun _ s2 h2 => wpAny_pure (wpAny_pure h2))
    refine dc_core (Qf := fun _ s2 => SP X P D .next s2) (Q := fun x H1 => gName i x σ H1 D.nx) calm nd J pi bk pg pt pa pb fo w fun L C s2 m H2 J2 h2 ns fp => ?_
    refine wpAny_assign_Name (store_ok2 (v := V.ref L) J2 nd at' (.inl loc) rfl (fun s3 J3 ⟨z, but, or⟩ => ⟨m, ns.sameBut but (or.elim (fun y => y ▸ fp.2.1) fun y q => fp.2.2.2.2.1 n z y q.symm), fun h4 but4 => ?_⟩) (.inr loc))
    exact ⟨_, H2, J3.turned (t' := s3.toks) (fun c u hc y => (but4.2 c hc).trans y) fp.1 fp.2.1 fp.2.2.2.1 fp.2.2.2.2.1 fp.2.2.2.2.2, h2⟩⟩
theorem sw_trueD {a b : Expr} {gs : List Comprehension} {sc : Scope} {o np : Pos} {n : Str} {l : Nat} {env : Env} (fn : env.scope.kind = .function) (loc : env.scope.names.lookup n = some .local) (ln : (np.line == o.line) = true)
    (no : (sc.names.any fun (m, k) => m == n && (k == .local || k == .cell)) = false) : swapsWith (.DictComp a b gs sc o) (some (.Name n np)) l env = pure true := by
  have k1 : env.kindOf n = some .local := loc
  have k2 : env.blockKind = .function := by simp only [Env.blockKind, fn]; decide
  simp only [swapsWith, k1, k2, no, Expr.pos, ln]
  rfl
end AT

set_option Elab.async false
set_option linter.all false
set_option maxRecDepth 100000
set_option maxHeartbeats 4000000
/-! own words, eighth part: defs and lambdas with captured names as values, called by whoever holds them -/
namespace AT
open PySem PySem.Spec PyProof.Rows L2 LamX NdefX
/-! ### cells that stand still -/
def frC (c : Addr) (o : Obj) : HO := .frz o (.ext fun h => h.get? c = some o)
theorem frC_ok {P : Program} {w : World} {H : Hp} {h : Heap} {c : Addr} {o : Obj} (e : h.get? c = some o) : ObjOk P w H h c (frC c o) :=
  ⟨e, e, ⟨o, e⟩, fun _ _ q k => k o q⟩
def fz (as : List Addr) (O : Addr → Obj) (H : Hp) : Hp := fun b => if b ∈ as then some (frC b (O b)) else H b
def rz (as : List Addr) (H H' : Hp) : Hp := fun b => if b ∈ as then H b else H' b
section
variable {as : List Addr} {O : Addr → Obj} {H H' : Hp} {b : Addr} {P : Program} {w : World} {h h' : Heap} {fs : List Addr}
theorem fz_in (hb : b ∈ as) : fz as O H b = some (frC b (O b)) := if_pos hb
theorem fz_at (hb : b ∉ as) : fz as O H b = H b := if_neg hb
theorem rz_in (hb : b ∈ as) : rz as H H' b = H b := if_pos hb
theorem rz_at (hb : b ∉ as) : rz as H H' b = H' b := if_neg hb
theorem fz_ex (W : ∀ c ∈ as, H c = none) : Ex H (fz as O H) := fun b o e => by
  rw [fz_at fun z => by rw [W b z] at e; cases e]
  exact e
theorem fz_hid (W : ∀ c ∈ as, H c = none) : hid as (fz as O H) = H := by
  funext b
  by_cases hb : b ∈ as
  · rw [hid_in hb, W b hb]
  · rw [hid_at hb, fz_at hb]
theorem rz_ex (e : Ex (hid as H) H') : Ex H (rz as H H') := fun b o q => by
  by_cases hb : b ∈ as
  · rw [rz_in hb]; exact q
  · rw [rz_at hb]; exact e b o (by rw [hid_at hb]; exact q)
theorem hok_fz (ok : HOk P w H h) (W : ∀ c ∈ as, h.get? c = some (O c) ∧ H c = none) : HOk P w (fz as O H) h := fun a o e => by
  have nin : ∀ {b u}, H b = some u → b ∉ as := fun {b u} q z => by rw [(W b z).2] at q; cases q
  by_cases ha : a ∈ as
  · rw [fz_in ha] at e
    cases e
    exact frC_ok (W a ha).1
  · rw [fz_at ha] at e
    exact (ok a o e).stay (fun _ _ _ z => z) (fun b q => by rw [fz_at (nin q)]; exact q) fun b xs q => by rw [fz_at (nin q)]; exact q
theorem hok_hid (ok : HOk P w H h) (W : ∀ c ∈ as, ∃ o u, H c = some (.frz o u)) : HOk P w (hid as H) h := fun a o e => by
  have nin : ∀ {b u}, H b = some u → (∀ o v, u ≠ .frz o v) → b ∉ as := fun {b u} q n z => by
    obtain ⟨o, v, e⟩ := W b z
    rw [q] at e
    exact n o v (Option.some.inj e)
  refine (ok a o (hid_some e).2).stay (fun _ _ _ z => z) (fun b q => ?_) fun b xs q => ?_
  · rw [hid_at (nin q fun o v z => by cases z)]; exact q
  · rw [hid_at (nin q fun o v z => by cases z)]; exact q
/-- behind a call that was told of the frame's own cells -/
theorem un_hid (W : ∀ c ∈ as, h.get? c = some (O c) ∧ H c = none) (u : Un fs [] (fz as O H) H' h h') (ok : HOk P w H' h') : Un fs [] H (hid as H') h h' := by
  have same : ∀ c, c ∈ as → h'.get? c = some (O c) := fun c hc => (ok c _ (u.frzs c _ _ (fz_in hc))).1
  have nin : ∀ {b v}, H b = some v → b ∉ as := fun {b v} q z => by rw [(W b z).2] at q; cases q
  have here : ∀ {b o}, h.get? b = some o → b ∈ as → h'.get? b = some o := fun {b o} e hb => by
    have q := (W b hb).1
    rw [e] at q
    rw [same b hb, Option.some.inj q]
  refine ⟨fun b o e n nf nx => ?_, fun b o e n nf nx => ?_, fun b o e n nx => ?_, u.there, fun b xs q => ?_, fun b o v q => ?_, fun b ps q => ?_⟩
  · by_cases hb : b ∈ as
    · exact here e hb
    · exact u.keep b o e (by rw [fz_at hb]; exact n) nf nx
  · by_cases hb : b ∈ as
    · exact ⟨o.slots, here e hb⟩
    · exact u.slot b o e (by rw [fz_at hb]; exact n) nf nx
  · by_cases hb : b ∈ as
    · exact hid_in hb
    · rw [hid_at hb]; exact u.free b o e (by rw [fz_at hb]; exact n) nx
  · rw [hid_at (nin q)]; exact u.tups b xs (by rw [fz_at (nin q)]; exact q)
  · rw [hid_at (nin q)]; exact u.frzs b o v (by rw [fz_at (nin q)]; exact q)
  · obtain ⟨m, z⟩ := u.tbls b ps (by rw [fz_at (nin q)]; exact q)
    exact ⟨m, by rw [hid_at (nin q)]; exact z⟩
/-- behind the call of a function whose cells stood still -/
theorem un_rz (W : ∀ c ∈ as, ∃ o, H c = some (frC c o) ∧ h.get? c = some o ∧ c ∉ fs) (u : Un fs [] (hid as H) H' h h') : Un fs [] H (rz as H H') h h' := by
  have nin : ∀ {b : Addr}, H b = none → b ∉ as := fun {b} q z => by
    obtain ⟨o, e, _⟩ := W b z
    rw [q] at e; cases e
  refine ⟨fun b o e n nf nx => ?_, fun b o e n nf nx => ?_, fun b o e n nx => ?_, u.there, fun b xs q => ?_, fun b o v q => ?_, fun b ps q => ?_⟩
  · exact u.keep b o e (by rw [hid_at (nin n)]; exact n) nf nx
  · exact u.slot b o e (by rw [hid_at (nin n)]; exact n) nf nx
  · rw [rz_at (nin n)]; exact u.free b o e (by rw [hid_at (nin n)]; exact n) nx
  all_goals by_cases hb : b ∈ as
  · rw [rz_in hb]; exact q
  · rw [rz_at hb]; exact u.tups b xs (by rw [hid_at hb]; exact q)
  · rw [rz_in hb]; exact q
  · rw [rz_at hb]; exact u.frzs b o v (by rw [hid_at hb]; exact q)
  · rw [rz_in hb]; exact ⟨#[], by rw [q]; simp⟩
  · rw [rz_at hb]; exact u.tbls b ps (by rw [hid_at hb]; exact q)
theorem hok_rz (W : ∀ c ∈ as, ∃ o, H c = some (frC c o) ∧ h.get? c = some o ∧ c ∉ fs) (u : Un fs [] (hid as H) H' h h') (ok : HOk P w H' h') : HOk P w (rz as H H') h' := fun a o e => by
  have gone : ∀ c, c ∈ as → H' c = none := fun c hc => by
    obtain ⟨o, _, e2, _⟩ := W c hc
    exact u.free c o e2 (hid_in hc) (by simp)
  have nin : ∀ {b v}, H' b = some v → b ∉ as := fun {b v} q z => by rw [gone b z] at q; cases q
  by_cases ha : a ∈ as
  · obtain ⟨o', e1, e2, nf⟩ := W a ha
    rw [rz_in ha, e1] at e
    cases e
    exact frC_ok (u.keep a o' e2 (hid_in ha) nf (by simp))
  · rw [rz_at ha] at e
    exact (ok a o e).stay (fun _ _ _ z => z) (fun b q => by rw [rz_at (nin q)]; exact q) fun b xs q => by rw [rz_at (nin q)]; exact q
end
/-! ### what holds a function -/
/-- what never changes while it is tracked so -/
def isX : HO → Prop
  | .ext _ => True
  | .frz _ _ => True
  | _ => False
def StX (H H' : Hp) : Prop := ∀ b o, H b = some o → isX o → H' b = some o
theorem StX.of_ex {H H' : Hp} (e : Ex H H') : StX H H' := fun b o q _ => e b o q
theorem StX.of_kp {S : List Addr} {H H' : Hp} (k : Kp S H H') (n : ∀ b ∈ S, ∀ o, H b = some o → ¬ isX o) : StX H H' := fun b o q x => k b o (fun z => n b z o q x) q
/-- f is a function that keeps sp where G stands -/
structure FV (P : Program) (w : World) (K : PySem.W.Frag) (mg : Str → Option Value) (base : Heap) (k : Nat) (f : Addr) (G : Hp → Prop) (sp : List V → Hp → VK → Prop) : Prop where
  fn : ∀ (H : Hp) (h : Heap), HOk P w H h → G H → PySem.W.FnAt f h
  st : ∀ H H', StX H H' → G H → G H'
  run : ∀ (A : Around) (outer : List Env) (s : Shared) (H : Hp) (us : List Value) (vs : List V) (Q : VK), Room k A → Env0 P w K mg base A outer s H → G H → Vals vs us → sp vs H Q →
    codeAny (model P w) A (.call (.ref f) ⟨us, []⟩) (CR L2.CX0 outer P w H s Q L2.E0) s
theorem FV.mono {P : Program} {w : World} {K : PySem.W.Frag} {mg : Str → Option Value} {base : Heap} {j k : Nat} {f : Addr} {G : Hp → Prop} {sp : List V → Hp → VK → Prop} (F : FV P w K mg base j f G sp) (h : j ≤ k) : FV P w K mg base k f G sp :=
  ⟨F.fn, F.st, fun A outer s H us vs Q hr => F.run A outer s H us vs Q (hr.mono h)⟩
def tCallQ (P : Program) (w : World) (K : PySem.W.Frag) (mg : Str → Option Value) (base : Heap) (k i : Nat) (t : TA) : TE := fun σ H Q => ∃ (f : Addr) (G : Hp → Prop) (sp : List V → Hp → VK → Prop), σ[i]? = some (some (.ref f)) ∧ FV P w K mg base k f G sp ∧ G H ∧ t σ H fun vs H1 => G H1 ∧ sp vs H1 Q
section
variable {X : Cx} {k i : Nat} {x : Str} {p pos : Pos} {e : Expr} {es : List Expr} {t : TA}
theorem run_fv {pins : List (Addr × Obj)} {σ : L2.St} {H : Hp} {s : Shared} {Q : VK} {f : Addr} {G : Hp → Prop} {sp : List V → Hp → VK → Prop} {us : List Value} {vs : List V} (F : FV X.prog X.w X.K X.mg X.base k f G sp) (hr : Room k X.A) (I : Inv X pins σ H s) (g : G H) (r : Vals vs us) (q : sp vs H Q) :
    wpAny (model X.prog X.w) X.A (call (.ref f) us) (EP X pins σ Q) X.xe s := by
  refine wpAny_call (codeAny_mono (F.run X.A X.stack s H us vs Q hr I.env0 g r q) fun res s' z => ?_)
  match res, z with
  | .error e, z => exact z.elim
  | .ok (.ret u), z => exact I.after z
  | .ok .next, z => exact z.elim
  | .ok .brk, z => exact z.elim
  | .ok .cont, z => exact z.elim
/-- x(..), x a name that holds a function -/
theorem pe_callQ (hr : Room k X.A) (hN : X.N[i]? = some x) (hv : Vis X.env.scope x) (ha : PA X (e :: es) t) (hd : (x == ("__debug__" : Str)) = false := by decide) (hcd : (x == ("__classdict__" : Str)) = false := by decide)
    (he : starEach (e :: es) X.env = (false, eval e X.env) :: starEach es X.env := by rfl) (hpl : (backTo pos (starEach es X.env)).any (·.1) = false := by rfl) : PE X (.Call (.Name x p) (e :: es) [] pos) (tCallQ X.prog X.w X.K X.mg X.base k i t) := by
  constructor
  intro pins s σ H Q I q
  obtain ⟨f, G, sp, hs, F, g, ht⟩ := q
  have hx := (pe_var (pos := p) hN hv hd hcd).run pins s σ H (fun v H1 => v = .ref f ∧ H1 = H) I ⟨_, hs, rfl, rfl⟩
  refine wpAny_Call_Name_kw (thn hx fun u s1 z => ?_)
  obtain ⟨v, H1, I1, rv, ev, eH⟩ := z
  subst ev eH
  obtain rfl : u = .ref f := rv
  refine PySem.W.callWith_F (first := []) (F.fn _ _ I1.hok g) (thn (ha.run pos pins s1 σ _ _ I1 ht) fun us s2 z => ?_) he hpl
  obtain ⟨vs, H2, I2, r, g2, q⟩ := z
  exact ⟨F.fn _ _ I2.hok g2, run_fv F hr I2 g2 r q⟩
end
/-! ### a frame's own cells, told to a callee -/
def ca (X : Cx) : List Addr := X.env.cells.filterMap fun p => X.env.cells.lookup p.1
theorem mem_ca {X : Cx} {c : Addr} : c ∈ ca X ↔ ∃ y, X.env.cells.lookup y = some c := by
  unfold ca
  rw [List.mem_filterMap]
  constructor
  · rintro ⟨p, _, e⟩
    exact ⟨_, e⟩
  · rintro ⟨y, e⟩
    exact ⟨(y, c), PySem.mem_of_lookup e, e⟩
structure OwnC (X : Cx) (σ : L2.St) (O : Addr → Obj) (H : Hp) : Prop where
  inj : ∀ x y c, X.env.cells.lookup x = some c → X.env.cells.lookup y = some c → x = y
  has : ∀ x, (X.env.kindOf x = some .cell ∨ X.env.kindOf x = some .free) → ∃ c, X.env.cells.lookup x = some c
  non : ∀ c ∈ ca X, H c = none
  dat : ∀ c ∈ ca X, ∃ v, (O c).data = .cell v
  val : ∀ (i : Nat) y v c, X.N[i]? = some y → σ[i]? = some (some v) → (X.env.scope.names.lookup y = some .cell ∨ X.env.scope.names.lookup y = some .free) → X.env.cells.lookup y = some c → ∃ u, L2.RelV v u ∧ (O c).data = .cell (some u)
def tCallZ (X : Cx) (sp : Sp) (t : TA) : TE := fun σ H Q => t σ H fun vs H1 => ∀ O, OwnC X σ O H1 → sp vs (fz (ca X) O H1) (fun v H2 => Q v (hid (ca X) H2)) L2.E0
section
variable {X : Cx} {k : Nat} {f : Addr} {fd : FuncData} {ps : List Str} {sp : Sp} {x : Str} {p pos : Pos} {e : Expr} {es : List Expr} {t : TA}
theorem own_of {pins : List (Addr × Obj)} {σ : L2.St} {H : Hp} {s : Shared} (I : Inv X pins σ H s) (hfn : ∀ y, X.fn y = true) :
    ∃ O : Addr → Obj, OwnC X σ O H ∧ (∀ c ∈ ca X, s.heap.get? c = some (O c) ∧ H c = none) ∧ (∀ c ∈ ca X, X.base.get? c = none) ∧ ∀ c ∈ ca X, c ∉ frs X.stack := by
  have at_ : ∀ c ∈ ca X, ∃ o v, s.heap.get? c = some o ∧ o.data = .cell v := fun c hc => by
    obtain ⟨y, e⟩ := mem_ca.mp hc
    obtain ⟨v, o, ho, hd⟩ := I.cell y c e
    exact ⟨o, v, ho, hd⟩
  have up : ∀ c ∈ ca X, X.s_0.heap.objs.size ≤ c := fun c hc => by
    obtain ⟨y, e⟩ := mem_ca.mp hc
    exact I.ok.cab y c (hfn y) e
  have nn : ∀ c ∈ ca X, H c = none := fun c hc => by
    obtain ⟨y, e⟩ := mem_ca.mp hc
    exact I.freeC y c e
  let O : Addr → Obj := fun c => (s.heap.get? c).getD default
  have hO : ∀ {c o}, s.heap.get? c = some o → O c = o := fun {c o} e => by
    show (s.heap.get? c).getD default = o
    rw [e]; rfl
  refine ⟨O, ⟨I.ok.inj, I.ok.has, nn, fun c hc => ?_, fun i y v c e1 e2 hk e3 => ?_⟩, fun c hc => ?_, fun c hc => ?_, fun c hc z => ?_⟩
  · obtain ⟨o, v, ho, hd⟩ := at_ c hc
    exact ⟨v, by rw [hO ho]; exact hd⟩
  · obtain ⟨m, _, hl⟩ := I.loc
    obtain ⟨u, r, l⟩ := hl i y v e1 e2 (hk.elim (fun z => .inr (.inl z)) fun z => .inr (.inr z))
    rcases l with ⟨z, _⟩ | ⟨_, c', e', o, ho, hd⟩
    · have z' : X.env.scope.names.lookup y = some .local := z
      rcases hk with hk | hk <;> rw [hk] at z' <;> cases z'
    · rw [e3] at e'
      cases e'
      exact ⟨u, r, by rw [hO ho]; exact hd⟩
  · obtain ⟨o, v, ho, hd⟩ := at_ c hc
    exact ⟨by rw [hO ho]; exact ho, nn c hc⟩
  · exact Heap.get?_none_of_le (Nat.le_trans I.ok.bsz (up c hc))
  · rcases List.mem_cons.mp (I.stkSub _ z) with e | hb
    · obtain ⟨y, e2⟩ := mem_ca.mp hc
      exact I.cne y c e2 e
    · obtain ⟨_, o, ho, _⟩ := I.ok.funs.mem hb
      exact Nat.lt_irrefl _ (Nat.lt_of_lt_of_le (Heap.lt_size ho) (up c hc))
/-- a call that hands on functions which captured this frame's names -/
theorem pe_callZ (F : FnOk X.prog X.w X.K X.mg X.base L2.CX0 k f fd ps sp) (hr : Room k X.A) (B : Own X.K X.mg x f fd ps) (hfn : ∀ y, X.fn y = true) (ha : PA X (e :: es) t) (hg : Gl X x := by rfl)
    (hdb : (x == ("__debug__" : Str)) = false := by decide) (he : starEach (e :: es) X.env = (false, eval e X.env) :: starEach es X.env := by rfl) (hpl : (backTo pos (starEach es X.env)).any (·.1) = false := by rfl) :
    PE X (.Call (.Name x p) (e :: es) [] pos) (tCallZ X sp t) := by
  constructor
  intro pins s σ H Q I q
  refine wpAny_Call_Name_kw (ld_glob I hg B.g ?_ hdb)
  refine PySem.W.callWith_K (h₀ := X.base) I.ok.mod.kin B.k (thn (ha.run pos pins s σ H _ I q) fun us s2 z => ?_) he hpl
  obtain ⟨vs, H2, I2, r, q2⟩ := z
  refine ⟨I2.kIn, ?_⟩
  obtain ⟨O, ow, W, nb, nf⟩ := own_of I2 hfn
  have q3 := q2 O ow
  have hl : us.length = ps.length := by rw [← r.length]; exact F.len _ _ _ _ q3
  have e0 := I2.env0
  have e1 : Env0 X.prog X.w X.K X.mg X.base X.A X.stack s2 (fz (ca X) O H2) := by
    refine ⟨e0.frames, e0.mod, fun b o z => ⟨(e0.bs b o z).1, ?_⟩, e0.bsz, e0.funs, fun b hb => ?_, hok_fz e0.hok W, e0.bare⟩
    · rw [fz_at fun m => by rw [nb b m] at z; cases z]
      exact (e0.bs b o z).2
    · rw [fz_at fun m => nf b m hb]
      exact e0.frf b hb
  have hb0 := B.b s2 us I2.kIn (by rw [List.append_nil]; exact hl)
  rw [List.append_nil] at hb0
  refine wpAny_call (codeAny_mono (F.run X.A X.stack s2 _ ⟨us, []⟩ us vs _ L2.E0 hr e1 hb0 r q3) fun res s' z => ?_)
  match res, z with
  | .error e, z => exact z.elim
  | .ok (.ret u), z =>
    obtain ⟨v, H', os, bare, un, hok, rv, qv⟩ := z
    refine I2.after ⟨v, hid (ca X) H', os, bare, un_hid W un hok, hok_hid hok fun c hc => ⟨_, _, un.frzs c _ _ (fz_in hc)⟩, rv, qv⟩
  | .ok .next, z => exact z.elim
  | .ok .brk, z => exact z.elim
  | .ok .cont, z => exact z.elim
end
/-! ### what a made function leans on -/
structure Clo (H : Hp) (f : Addr) (o : HO) (c : Addr) (q : Str) (cl : List (Str × Addr)) (fr : List Str) (ws : List (Option V)) : Prop where
  fn : H f = some o
  code : H c = some (CodeO c q)
  cel : ∀ a ∈ cl.map (·.2), ∃ u, H a = some (frC a u) ∧ ∃ v, u.data = .cell v
  inj : ∀ x y a, cl.lookup x = some a → cl.lookup y = some a → x = y
  len : ws.length = fr.length
  has : ∀ (i : Nat) (y : Str), fr[i]? = some y → ∃ a, cl.lookup y = some a ∧ ∀ v, ws[i]? = some (some v) → ∃ u o, H a = some (frC a o) ∧ L2.RelV v u ∧ o.data = .cell (some u)
theorem Clo.st {H H' : Hp} {f c : Addr} {o : HO} {q : Str} {cl : List (Str × Addr)} {fr : List Str} {ws : List (Option V)} (h : Clo H f o c q cl fr ws) (ho : isX o) (s : StX H H') : Clo H' f o c q cl fr ws :=
  ⟨s _ _ h.fn ho, s _ _ h.code True.intro, fun a ha => let ⟨u, e, r⟩ := h.cel a ha; ⟨u, s _ _ e True.intro, r⟩, h.inj, h.len, fun i y e => let ⟨a, e1, r⟩ := h.has i y e; ⟨a, e1, fun v ev => let ⟨u, o, e2, r2⟩ := r v ev; ⟨u, o, s _ _ e2 True.intro, r2⟩⟩⟩
/-- of the frame that made it -/
theorem clo_made {X : Cx} {σ : L2.St} {O : Addr → Obj} {H : Hp} {scope : Scope} {f c : Addr} {o : HO} {q : Str} {fr : List Str} {js : List Nat} (ow : OwnC X σ O H) (hf : H f = some o) (hc : H c = some (CodeO c q)) (hb : ndefB X.env.scope scope fr = true) (hjs : js.map (fun j => X.N[j]?) = fr.map some) :
    Clo (fz (ca X) O H) f o c q (cloFrom X.env.cells scope.names []) fr (js.map (slotAt σ)) := by
  have hfree : ∀ y ∈ scope.names, y.2 = .free → ∃ a, X.env.cells.lookup y.1 = some a := fun y hy e => ow.has _ (ndef_free hb y hy e)
  have up : ∀ {a u}, H a = some u → fz (ca X) O H a = some u := fun {a u} e => fz_ex ow.non a u e
  refine ⟨up hf, up hc, fun a ha => ?_, fun x y a e1 e2 => ow.inj x y a (clo_cm hfree e1) (clo_cm hfree e2), ?_, fun i y e => ?_⟩
  · obtain ⟨⟨y, a'⟩, hm, rfl⟩ := List.mem_map.mp ha
    obtain ⟨h1, h2⟩ := (cloFrom_mem hm).resolve_left (by simp)
    obtain ⟨a1, ha1⟩ := hfree _ h1 rfl
    have ha1 : X.env.cells.lookup y = some a1 := ha1
    have e : a' = a1 := by rw [h2, ha1]; rfl
    subst e
    have hi : a' ∈ ca X := mem_ca.mpr ⟨y, ha1⟩
    exact ⟨O a', fz_in hi, ow.dat a' hi⟩
  · have q := congrArg List.length hjs
    rw [List.length_map, List.length_map] at q
    rw [List.length_map]; exact q
  · have e2 : (js.map fun j => X.N[j]?)[i]? = some (some y) := by rw [hjs, List.getElem?_map, e]; rfl
    rw [List.getElem?_map] at e2
    obtain ⟨j, ej, hj⟩ : ∃ j, js[i]? = some j ∧ X.N[j]? = some y := by
      cases ej : js[i]? with
      | none => rw [ej] at e2; cases e2
      | some j => rw [ej] at e2; exact ⟨j, rfl, Option.some.inj e2⟩
    have hy : (y, NameKind.free) ∈ scope.names := ndef_fr hb y (List.mem_of_getElem? e)
    have hk := ndef_free hb _ hy rfl
    obtain ⟨a, ha⟩ := ow.has y hk
    refine ⟨a, clo_has hfree hy ha, fun v ev => ?_⟩
    rw [List.getElem?_map, ej] at ev
    obtain ⟨u, r, d⟩ := ow.val j y v a hj (slotAt_some (Option.some.inj ev)) hk ha
    exact ⟨u, O a, fz_in (mem_ca.mpr ⟨y, ha⟩), r, d⟩
section
variable {P : Program} {w : World} {K : PySem.W.Frag} {mg : Str → Option Value} {base : Heap} {A : Around} {outer : List Env} {s : Shared} {H : Hp}
theorem env0_hid {as : List Addr} (e0 : Env0 P w K mg base A outer s H) (W : ∀ c ∈ as, ∃ o u, H c = some (.frz o u)) : Env0 P w K mg base A outer s (hid as H) := by
  refine ⟨e0.frames, e0.mod, fun b o z => ⟨(e0.bs b o z).1, ?_⟩, e0.bsz, e0.funs, fun b hb => ?_, hok_hid e0.hok W, e0.bare⟩
  · by_cases hb : b ∈ as
    · exact hid_in hb
    · rw [hid_at hb]; exact (e0.bs b o z).2
  · by_cases m : b ∈ as
    · exact hid_in m
    · rw [hid_at m]; exact e0.frf b hb
theorem Clo.cells {f c : Addr} {o : HO} {q : Str} {cl : List (Str × Addr)} {fr : List Str} {ws : List (Option V)} (h : Clo H f o c q cl fr ws) (hok : HOk P w H s.heap) : CellsAt cl fr ws s.heap (hid (cl.map (·.2)) H) := by
  refine ⟨h.len, fun y a e => ?_, h.inj, fun i y e => ?_⟩
  · have ha : a ∈ cl.map (·.2) := List.mem_map.mpr ⟨(y, a), PySem.mem_of_lookup e, rfl⟩
    obtain ⟨u, e1, v, hd⟩ := h.cel a ha
    exact ⟨hid_in ha, v, u, (hok a _ e1).1, hd⟩
  · obtain ⟨a, e1, r⟩ := h.has i y e
    refine ⟨a, e1, fun v ev => ?_⟩
    obtain ⟨u, o, e2, rv, hd⟩ := r v ev
    exact ⟨u, rv, o, (hok a _ e2).1, hd⟩
/-- back from the function's own heap -/
theorem cr_rz {as : List Addr} {Q : VK} {res : Result} {s' : Shared} (e0 : Env0 P w K mg base A outer s H) (W : ∀ c ∈ as, ∃ o, H c = some (frC c o)) (z : CR L2.CX0 outer P w (hid as H) s (fun v H' => (∀ b ∈ as, H' b = none) → Q v (rz as H H')) L2.E0 res s') : CR L2.CX0 outer P w H s Q L2.E0 res s' := by
  match res, z with
  | .error e, z => exact z
  | .ok .next, z => exact z
  | .ok .brk, z => exact z
  | .ok .cont, z => exact z
  | .ok (.ret u), z =>
    obtain ⟨v, H', os, bare, un, hok, rv, q⟩ := z
    have W' : ∀ c ∈ as, ∃ o, H c = some (frC c o) ∧ s.heap.get? c = some o ∧ c ∉ frs outer := fun c hc => by
      obtain ⟨o, e⟩ := W c hc
      exact ⟨o, e, (e0.hok c _ e).1, fun m => by rw [e0.frf c m] at e; cases e⟩
    exact ⟨v, rz as H H', os, bare, un_rz W' un, hok_rz W' un hok, rv, q fun c hc => let ⟨o, _, e2, _⟩ := W' c hc; un.free c o e2 (hid_in hc) (by simp)⟩
end
section
variable {P : Program} {w : World} {K : PySem.W.Frag} {mg : Str → Option Value} {base : Heap} {k : Nat} {f : Addr} {ps fr : List Str} {ws : List (Option V)}
/-- a nested def as a value -/
theorem FV.of_nok {F : NF} {sp : List (Option V) → Sp} (N : NOk P w K mg base L2.CX0 k f F ps fr sp) :
    FV P w K mg base k f (fun H => Clo H f (FnO f F) F.c F.qual F.cl fr ws) (fun vs H Q => sp ws vs (hid (F.cl.map (·.2)) H) (fun v H' => (∀ b ∈ F.cl.map (·.2), H' b = none) → Q v (rz (F.cl.map (·.2)) H H')) L2.E0) := by
  refine ⟨fun H h ok g => ?_, fun H H' st g => g.st True.intro st, fun A outer s H us vs Q hr e0 g r q => ?_⟩
  · obtain ⟨od, sl, doc, pm, ctv, ho⟩ := fnO_at ok g.fn
    exact ⟨_, od, _, sl, ho⟩
  · have W : ∀ c ∈ F.cl.map (·.2), ∃ o, H c = some (frC c o) := fun c hc => let ⟨u, e, _⟩ := g.cel c hc; ⟨u, e⟩
    have nin : ∀ {b φ}, H b = some (.ext φ) → b ∉ F.cl.map (·.2) := fun {b φ} e m => by
      obtain ⟨u, z⟩ := W b m
      rw [e] at z; cases z
    have e1 := env0_hid e0 fun c hc => let ⟨u, e⟩ := W c hc; ⟨_, _, e⟩
    refine codeAny_mono (N.run A outer s _ us vs ws _ L2.E0 hr e1 ?_ ?_ (g.cells e0.hok) r q) fun res s' z => cr_rz e0 W z
    · rw [hid_at (nin g.fn)]; exact g.fn
    · rw [hid_at (nin g.code)]; exact g.code
/-! ### lambdas -/
/-- the object at f is the lambda F, its body an expression -/
def FnE (f : Addr) (F : NF) (body : Expr) : HO := .ext fun h => ∃ pm ctv, h.get? f = some (PySem.W.kla_obj F.name F.qual F.params body F.scope F.cl pm F.c ctv)
theorem FV.of_lam {N : List Str} {F : NF} {body : Expr} {sp : List (Option V) → Sp} (S : NScope N ps fr F.scope) (hb : ∀ (pm ctv : Value) (us : List Value), us.length = ps.length → bindArgs (PySem.W.kla_fn F.name F.qual F.params body F.scope F.cl pm (.ref F.c) ctv) ⟨us, []⟩ = pure (ps.zip us))
    (len : ∀ ws vs H Q E, sp ws vs H Q E → vs.length = ps.length)
    (hbody : ∀ (A : Around) (outer : List Env) (s : Shared) (H : Hp) (vs : List V) (Q : VK), Room k (A.deeper (envF F f s.heap.objs.size)) → ws.length = fr.length → sp ws vs H Q L2.E0 → ∃ t, PE (ncx L2.CX0 P w K mg base N F f A outer s H L2.E0) body t ∧ t (startF N vs ws) H Q) :
    FV P w K mg base (k + 1) f (fun H => Clo H f (FnE f F body) F.c F.qual F.cl fr ws) (fun vs H Q => sp ws vs (hid (F.cl.map (·.2)) H) (fun v H' => (∀ b ∈ F.cl.map (·.2), H' b = none) → Q v (rz (F.cl.map (·.2)) H H')) L2.E0) := by
  refine ⟨fun H h ok g => ?_, fun H H' st g => g.st True.intro st, fun A outer s H us vs Q hr e0 g r q => ?_⟩
  · obtain ⟨⟨pm, ctv, ho⟩, _⟩ := ok f _ g.fn
    exact ⟨_, _, _, _, ho⟩
  · have W : ∀ c ∈ F.cl.map (·.2), ∃ o, H c = some (frC c o) := fun c hc => let ⟨u, e, _⟩ := g.cel c hc; ⟨u, e⟩
    have e1 := env0_hid e0 fun c hc => let ⟨u, e⟩ := W c hc; ⟨_, _, e⟩
    obtain ⟨⟨pm, ctv, ho⟩, _⟩ := e0.hok f _ g.fn
    have hco := codeO_at e0.hok g.code
    have hl := len _ _ _ _ _ q
    have lim : s.heap.NoLimit := e0.mod.nolimit.keeps fun b o e => (e0.bs b o e).1
    have C := g.cells e0.hok
    suffices h : codeAny (model P w) A (.call (.ref f) ⟨us, []⟩) (CR L2.CX0 outer P w (hid (F.cl.map (·.2)) H) s (fun v H' => (∀ b ∈ F.cl.map (·.2), H' b = none) → Q v (rz (F.cl.map (·.2)) H H')) L2.E0) s from codeAny_mono h fun res s' z => cr_rz e0 W z
    refine PySem.W.kla_callFunE hr.depth ho rfl S.co S.gen rfl hco ?_
    rw [hb pm ctv us (by rw [← r.length]; exact hl)]
    refine wpAny_pure (wpAny_newFunctionEnv S.nocell (fun y hy => S.par y.1 (List.of_mem_zip (show (y.1, y.2) ∈ ps.zip us from hy)).1) (fun h₁ hns hsb => ⟨lim.fresh _ hsb, ?_⟩) S.kind)
    have kp : ∀ b o, s.heap.get? b = some o → h₁.get? b = some o := fun b o e => hsb.extBut b o (Nat.ne_of_lt (Heap.lt_size e)) (Heap.get?_push_of_some _ e)
    obtain ⟨t, ht, hq⟩ := hbody A outer s _ vs _ (hr.deeper _) g.len q
    have I := inv_startN (N := N) (F := F) (f := f) (CX := L2.CX0) (E := L2.E0) (tk := s.toks + (ps.zip us).length) S hr.hd e1 hl r C hns kp
    refine PySem.W.kla_codeExpr (wpAny_mono (ht.run [] _ _ _ _ I hq) (fun v s' z => ?_) fun e s' z => z)
    obtain ⟨v', H', J, rv, qv⟩ := z
    exact ⟨v', H', J.os, J.bare, J.base, J.hok, rv, qv⟩
end
end AT

set_option Elab.async false
set_option linter.all false
set_option maxRecDepth 100000
set_option maxHeartbeats 4000000
/-! own words, ninth part: making defs and lambdas within a def -/
namespace AT
open PySem PySem.Spec PyProof.Rows L2 LamX NdefX
/-- the makers' tables: one table of names for the whole text -/
def Tbs (nm : Nat → Nat → Str) (Ps : List Addr) (H : Hp) : Prop := ∀ P ∈ Ps, TabN H P nm
theorem Tbs.ex {nm : Nat → Nat → Str} {Ps : List Addr} {H H' : Hp} (t : Tbs nm Ps H) (e : Ex H H') : Tbs nm Ps H' := fun P hP => (t P hP).ext e
theorem TabN.isT {nm : Nat → Nat → Str} {H : Hp} {P : Addr} (t : TabN H P nm) : ∃ ps, H P = some (.tbl ps) := let ⟨ps, e, _⟩ := t; ⟨ps, e⟩
/-- kept by what changes other things -/
theorem Tbs.kp {nm : Nat → Nat → Str} {Ps S : List Addr} {H H' : Hp} (t : Tbs nm Ps H) (k : Kp S H H') (n : ∀ b ∈ S, ∀ o, H b = some o → ¬ isX o ∧ ∀ ps, o ≠ .tbl ps) : Tbs nm Ps H' := fun P hP => by
  obtain ⟨ps, e, h1, h2⟩ := t P hP
  refine ⟨ps, k P _ (fun z => (n P z _ e).2 _ rfl) e, h1, fun pos cv hc => ?_⟩
  obtain ⟨c, e1, e2⟩ := h2 pos cv hc
  exact ⟨c, e1, k c _ (fun z => (n c z _ e2).1 True.intro) e2⟩
section
variable {X : Cx} {pins : List (Addr × Obj)} {σ : L2.St} {H : Hp} {s : Shared} {nm : Nat → Nat → Str} {Ps : List Addr} {c P c' : Addr} {ps : Array Value} {pos : Pos} {q : Str} {ho : HO} {o : Obj} {h' : Heap} {tk : Tok}
/-- the code object found: the function alone is new -/
theorem inv_hit (I : Inv X pins σ H s) (hx : ∀ b o, s.heap.get? b = some o → h'.get? b = some o) (hsz : s.heap.objs.size ≤ h'.objs.size) (new : ∀ H1, ObjOk X.prog X.w H1 (h'.push o) h'.objs.size ho) :
    Inv X pins σ (upd H h'.objs.size ho) { s with heap := h'.push o, toks := tk } ∧ H h'.objs.size = none :=
  ⟨I.laid (fun b u e => Heap.get?_push_of_some _ (hx b u e)) hsz (new _), I.hok.fresh hsz⟩
/-- the code object made: the table grows, the code object and the function are new -/
theorem inv_made (I : Inv X pins σ H s) (T : Tbs nm Ps H) (hm : P ∈ Ps) (hP : H P = some (.tbl ps)) (ht : TriplesOk ps.toList) (ha : ∀ (p : Pos) cv, codeAmong p ps.toList = some cv → ∃ c, cv = .ref c ∧ H c = some (CodeO c (nm p.line p.col))) (hn : nm pos.line pos.col = q)
    (hx : Heap.ExtBut P s.heap h') (hge : s.heap.objs.size ≤ c') (hlt : c' < h'.objs.size) (hrec : h'.CodeRec (.ref c') q) (htb : h'.get? P = some (PySem.W.tabObj (ps ++ #[rawInt pos.line, rawInt pos.col, .ref c'])))
    (new : ∀ H1, ObjOk X.prog X.w H1 (h'.push o) h'.objs.size ho) :
    ∃ H1, Inv X pins σ H1 { s with heap := h'.push o, toks := tk } ∧ Kp [P] H H1 ∧ Tbs nm Ps H1 ∧ H h'.objs.size = none ∧ H1 h'.objs.size = some ho ∧ H1 c' = some (CodeO c' q) := by
  obtain ⟨c2, oc, vs, t, e2, hoc, hd, hv⟩ := hrec
  cases e2
  have nC : H c' = none := I.hok.fresh hge
  have hsz : s.heap.objs.size ≤ h'.objs.size := Nat.le_trans hge (Nat.le_of_lt hlt)
  have nF : H h'.objs.size = none := I.hok.fresh hsz
  have I1 := inv_table (t' := tk) (more := #[rawInt pos.line, rawInt pos.col, .ref c']) (h' := h') I hP (fun b o hb e => hx b o hb e) htb hge ⟨oc, vs, t, hoc, hd, hv⟩
  have hF1 : ∀ b, b ≠ P → b ≠ c' → upd (upd H P (.tbl (ps ++ #[rawInt pos.line, rawInt pos.col, .ref c']))) c' (CodeO c' q) b = H b := fun b h1 h2 => by rw [upd_ne h2, upd_ne h1]
  have nPc : P ≠ c' := ne_of_none hP nC
  have nPf : P ≠ h'.objs.size := ne_of_none hP nF
  have ncf : c' ≠ h'.objs.size := Nat.ne_of_lt hlt
  have I2 := I1.laid (a := h'.objs.size) (o := ho) (h' := h'.push o) (t' := tk) (fun b u e => Heap.get?_push_of_some _ e) (Nat.le_refl _) (new _)
  generalize hH2 : upd (upd (upd H P (.tbl (ps ++ #[rawInt pos.line, rawInt pos.col, .ref c']))) c' (CodeO c' q)) h'.objs.size ho = H2 at I2
  have old : ∀ b u, b ≠ P → H b = some u → H2 b = some u := fun b u hb e => by
    rw [← hH2, upd_ne (ne_of_none e nF), hF1 b hb (ne_of_none e nC)]
    exact e
  have atP : H2 P = some (.tbl (ps ++ #[rawInt pos.line, rawInt pos.col, .ref c'])) := by rw [← hH2, upd_ne nPf, upd_ne nPc, upd_same]
  have atc : H2 c' = some (CodeO c' q) := by rw [← hH2, upd_ne ncf, upd_same]
  have code : ∀ {b r}, H b = some (CodeO b r) → H2 b = some (CodeO b r) := fun {b r} e => old b _ (fun z => by rw [z, hP] at e; exact codeO_ne _ (Option.some.inj e).symm) e
  refine ⟨H2, I2, fun b u hb e => old b u (fun z => hb (by rw [z]; exact List.mem_cons_self)) e, fun R hR => ?_, nF, by rw [← hH2, upd_same], atc⟩
  by_cases hb : R = P
  · subst hb
    refine ⟨_, atP, ?_, fun p' cv hcv => ?_⟩
    · rw [Array.toList_append]; exact PySem.TriplesOk_snoc _ _ _ _ ht
    · rw [Array.toList_append] at hcv
      rcases among_app2 _ ht hcv with z | ⟨z, z1, z2⟩
      · obtain ⟨c0, e1, e2⟩ := ha p' cv z
        exact ⟨c0, e1, code e2⟩
      · exact ⟨c', z, by rw [← z1, ← z2, hn]; exact atc⟩
  · obtain ⟨ps', a1, a2, a3⟩ := T R hR
    refine ⟨ps', old R _ hb a1, a2, fun p' cv hcv => ?_⟩
    obtain ⟨c0, e1, e2⟩ := a3 p' cv hcv
    exact ⟨c0, e1, code e2⟩
end
/-! ### the statement «def name(..): ..» in a def -/
def tNdf (nm : Nat → Nat → Str) (Ps : List Addr) (P : Addr) (i : Nat) (mk : Addr → NF) : TS := fun D σ H => Tbs nm Ps H ∧ ∀ (f c' : Addr) (H1 : Hp), Kp [P] H H1 → Tbs nm Ps H1 → H f = none → H1 f = some (FnO f (mk c')) → H1 c' = some (CodeO c' (mk c').qual) → D.nx (σ.set i (some (.ref f))) H1
section
variable {X : Cx} {nm : Nat → Nat → Str} {Ps : List Addr} {c P : Addr}
theorem fnO_new {P : Program} {w : World} {F : NF} {h : Heap} {doc pm ctv : Value} {f : Addr} (e : h.get? f = some ({ cls := .type "function", data := .func (F.fd doc pm ctv) } : Obj)) (H1 : Hp) : ObjOk P w H1 h f (FnO f F) :=
  ⟨⟨_, _, doc, pm, ctv, e⟩, ⟨_, e⟩, fun _ _ ⟨od, sl, d, p, t, z⟩ st => ⟨od, sl, d, p, t, st _ z⟩⟩
theorem fnE_new {P : Program} {w : World} {F : NF} {body : Expr} {h : Heap} {pm ctv : Value} {f : Addr} (e : h.get? f = some (PySem.W.kla_obj F.name F.qual F.params body F.scope F.cl pm F.c ctv)) (H1 : Hp) : ObjOk P w H1 h f (FnE f F body) :=
  ⟨⟨pm, ctv, e⟩, ⟨_, e⟩, fun _ _ ⟨p, t, z⟩ st => ⟨p, t, st _ z⟩⟩
theorem ps_ndf {st : Stmt} {name : Str} {pos : Pos} {i : Nat} (hst : st = .FunctionDef name (C8.fnArgs st) (C8.fnBody st) [] none [] (C8.fnScope st) none name pos) (TB : TabB X.base X.mg c P) (hcode : X.env.code = .ref c) (hm : P ∈ Ps) (hn : nm pos.line pos.col = X.env.qual ++ name) {fr : List Str} (hfr : ndefB X.env.scope (C8.fnScope st) fr = true)
    (hd0 : (C8.fnArgs st).defaults = []) (hk0 : (C8.fnArgs st).kw_defaults = []) (ha : annTrees (C8.fnArgs st) none X.env = []) (hN : X.N.Nodup) (hi : X.N[i]? = some name) (hx : Loc X.env.scope name) (hf : X.fn name = true ∨ X.env.scope.names.lookup name = some .local) :
    PS X st (tNdf nm Ps P i (NF.of st name (X.env.qual ++ name) (cloFrom X.env.cells (C8.fnScope st).names []))) := by
  rw [hst]
  constructor
  intro pins s σ H D I q
  obtain ⟨T, q⟩ := q
  have hq : qualnameIn X.env name name = X.env.qual ++ name := by
    have hk : X.env.kindOf name = some .local ∨ X.env.kindOf name = some .cell := hx
    unfold qualnameIn
    rcases hk with k | k
    · rw [k]; rfl
    · rw [k]; exact if_neg (by decide)
  refine PySem.W.nestDef_K hd0 hk0 ha ?_
  rw [hq]
  have hfree : ∀ y ∈ (C8.fnScope st).names, y.2 = .free → ∃ a, X.env.cells.lookup y.1 = some a := fun y hy e => I.ok.has _ (ndef_free hfr y hy e)
  obtain ⟨ps, hP, ht, hal⟩ := T P hm
  have bP : s.heap.BuiltinsAt X.mg P := TB.bm.keeps I.bk
  have hP' : s.heap.get? P = some { cls := .none, data := .fields ps } := I.hok P _ hP
  have gl := I.mod.glob.keeps I.bk
  have cd := TB.code.keeps I.bk
  have go : ∀ (f c' : Addr) (H1 : Hp) (s' : Shared), Inv X pins σ H1 s' → Kp [P] H H1 → Tbs nm Ps H1 → H f = none → H1 f = some (FnO f (NF.of st name (X.env.qual ++ name) (cloFrom X.env.cells (C8.fnScope st).names []) c')) → H1 c' = some (CodeO c' (X.env.qual ++ name)) →
      wpAny (model X.prog X.w) X.A (storeName X.env name (.ref f)) (fun _ s'' => SP X pins D .next s'') X.xe s' := fun f c' H1 s' I1 k t n h1 h2 =>
    store_ok I1 hN hi hx (v := .ref f) rfl (fun s'' J => ⟨_, H1, J, q f c' H1 k t n h1 h2⟩) hf
  cases hc : codeAmong pos ps.toList with
  | some cv =>
    obtain ⟨c', rfl, hco⟩ := hal pos cv hc
    rw [hn] at hco
    refine PySem.W.makeFunction_hit (mg := X.mg) (closure_ok hfree) I.ok.glob gl hcode cd hP' ht hc bP fun ctv doc h' tk hx2 hsz => ?_
    obtain ⟨J, nF⟩ := inv_hit (tk := tk) (ho := FnO h'.objs.size (NF.of st name (X.env.qual ++ name) (cloFrom X.env.cells (C8.fnScope st).names []) c')) I hx2 hsz fun H1 => fnO_new (doc := doc) (pm := (X.mg "__name__").getD .none) (ctv := ctv) (Heap.get?_push_size _ rfl) H1
    have e := Evl.Ex.new (o := FnO h'.objs.size (NF.of st name (X.env.qual ++ name) (cloFrom X.env.cells (C8.fnScope st).names []) c')) nF
    exact go _ c' _ _ J (Kp.of_ex e) (T.ex e) nF upd_same (e _ _ hco)
  | none =>
    refine PySem.W.makeFunction_K (mg := X.mg) (closure_ok hfree) I.ok.glob gl hcode cd hP' ht hc TB.gP bP fun c' ctv doc h' tk hx2 hge hlt hrec htb => ?_
    obtain ⟨H1, J, k, t, n, h1, h2⟩ := inv_made (tk := tk) (ho := FnO h'.objs.size (NF.of st name (X.env.qual ++ name) (cloFrom X.env.cells (C8.fnScope st).names []) c')) I T hm hP ht hal hn hx2 hge hlt hrec htb fun H1 => fnO_new (doc := doc) (pm := (X.mg "__name__").getD .none) (ctv := ctv) (Heap.get?_push_size _ rfl) H1
    exact go _ c' _ _ J k t n h1 h2
/-! ### a lambda -/
def tLmd (nm : Nat → Nat → Str) (Ps : List Addr) (P : Addr) (mk : Addr → NF) (body : Expr) : TE := fun σ H Q => Tbs nm Ps H ∧ ∀ (f c' : Addr) (H1 : Hp), Kp [P] H H1 → Tbs nm Ps H1 → H f = none → H1 f = some (FnE f (mk c') body) → H1 c' = some (CodeO c' (mk c').qual) → Q (.ref f) H1
theorem pe_lmd {params : Arguments} {body : Expr} {scope : Scope} {pos : Pos} (TB : TabB X.base X.mg c P) (hcode : X.env.code = .ref c) (hm : P ∈ Ps) (hn : nm pos.line pos.col = X.env.qual ++ "<lambda>") {fr : List Str} (hfr : ndefB X.env.scope scope fr = true) (hdef : defaultsOf params X.env = ([], [])) :
    PE X (.Lambda params body scope pos) (tLmd nm Ps P (fun c' => ⟨"<lambda>", X.env.qual ++ "<lambda>", params, [], scope, cloFrom X.env.cells scope.names [], c'⟩) body) := by
  constructor
  intro pins s σ H Q I q
  obtain ⟨T, q⟩ := q
  refine PySem.W.kla_eval hdef ?_
  have hfree : ∀ y ∈ scope.names, y.2 = .free → ∃ a, X.env.cells.lookup y.1 = some a := fun y hy e => I.ok.has _ (ndef_free hfr y hy e)
  obtain ⟨ps, hP, ht, hal⟩ := T P hm
  have bP : s.heap.BuiltinsAt X.mg P := TB.bm.keeps I.bk
  have hP' : s.heap.get? P = some { cls := .none, data := .fields ps } := I.hok P _ hP
  have gl := I.mod.glob.keeps I.bk
  have cd := TB.code.keeps I.bk
  cases hc : codeAmong pos ps.toList with
  | some cv =>
    obtain ⟨c', rfl, hco⟩ := hal pos cv hc
    rw [hn] at hco
    refine PySem.W.kla_makeFunctionHit (mg := X.mg) (closure_ok hfree) I.ok.glob gl hcode cd hP' ht hc bP fun ctv h' tk hx2 hsz => ?_
    obtain ⟨J, nF⟩ := inv_hit (tk := tk) (ho := FnE h'.objs.size ⟨"<lambda>", X.env.qual ++ "<lambda>", params, [], scope, cloFrom X.env.cells scope.names [], c'⟩ body) I hx2 hsz fun H1 => fnE_new (pm := (X.mg "__name__").getD .none) (ctv := ctv) (Heap.get?_push_size _ rfl) H1
    have e := Evl.Ex.new (o := FnE h'.objs.size ⟨"<lambda>", X.env.qual ++ "<lambda>", params, [], scope, cloFrom X.env.cells scope.names [], c'⟩ body) nF
    exact ⟨.ref _, _, J, rfl, q _ c' _ (Kp.of_ex e) (T.ex e) nF upd_same (e _ _ hco)⟩
  | none =>
    refine PySem.W.kla_makeFunction (mg := X.mg) (closure_ok hfree) I.ok.glob gl hcode cd hP' ht hc TB.gP bP fun c' ctv h' tk hx2 hge hlt hrec htb => ?_
    obtain ⟨H1, J, k, t, n, h1, h2⟩ := inv_made (tk := tk) (ho := FnE h'.objs.size ⟨"<lambda>", X.env.qual ++ "<lambda>", params, [], scope, cloFrom X.env.cells scope.names [], c'⟩ body) I T hm hP ht hal hn hx2 hge hlt hrec htb fun H1 => fnE_new (pm := (X.mg "__name__").getD .none) (ctv := ctv) (Heap.get?_push_size _ rfl) H1
    exact ⟨.ref _, H1, J, rfl, q _ c' H1 k t n h1 h2⟩
end
/-! ### a maker of the text -/
structure FunT (K : PySem.W.Frag) (x qual : Str) (st : Stmt) (f : Addr) (fd : FuncData) (c : Addr) : Prop where
  ex : ∃ (oc : Value) (od : Option Addr) (kV doc pm : Value) (an : Option Addr) (ct : Value) (osl : Array (Option Value)), fd = PySem.W.fnOf x qual (defArgs st) (defBody st) (defScope st) .none kV doc pm an (.ref c) ct ∧ K.lookup f = some ⟨oc, od, .func fd, osl⟩ ∧ PySem.W.codeIn K (.ref c) qual = true
theorem funT_mk {K : PySem.W.Frag} {x qual : Str} {st : Stmt} {f c : Addr} {oc : Value} {od an : Option Addr} {osl : Array (Option Value)} {kV doc pm cd ct : Value} (l : K.lookup f = some ⟨oc, od, .func (PySem.W.fnOf x qual (defArgs st) (defBody st) (defScope st) .none kV doc pm an cd ct), osl⟩) (ec : cd = .ref c)
    (h : PySem.W.codeIn K cd qual = true) : FunT K x qual st f (PySem.W.fnOf x qual (defArgs st) (defBody st) (defScope st) .none kV doc pm an cd ct) c := by
  subst ec
  exact ⟨oc, od, kV, doc, pm, an, ct, osl, rfl, l, h⟩
/-- a maker, by its body -/
theorem FunT.ok {P : Program} {w : World} {K : PySem.W.Frag} {mg : Str → Option Value} {base : Heap} {x qual : Str} {st : Stmt} {f c : Addr} {fd : FuncData} {N ps : List Str} {k : Nat} {sp : Sp} (F : FunT K x qual st f fd c) (S : FnScope N ps (defScope st)) (len : ∀ vs H Q E, sp vs H Q E → vs.length = ps.length)
    (hb : ∀ (A : Around) (outer : List Env) (s : Shared) (H : Hp) (vs : List V) (Q : VK) (E : XK), Room k (A.deeper (PyProof.Rows.envOfC qual (defScope st) s.heap.objs.size f (.ref c))) → sp vs H Q E →
      ∃ t, PSs (cxOf L2.CX0 P w K mg base N qual (defScope st) f (.ref c) A outer s H E).nox (defBody st) t ∧ t { nx := fun _ H' => Q .non H', rt := Q } (L2.start N vs) H) : FnOk P w K mg base L2.CX0 (k + 1) f fd ps sp := by
  obtain ⟨oc, od, kV, doc, pm, an, ct, osl, rfl, lk, hcd⟩ := F.ex
  refine fn_of lk hcd S len fun A outer s H vs Q E hr hsp => ?_
  obtain ⟨t, h, q⟩ := hb A outer s H vs Q E hr hsp
  exact ⟨t, PSs.nox h, q⟩
/-- a nested def, by its body -/
theorem nok_by {P : Program} {w : World} {K : PySem.W.Frag} {mg : Str → Option Value} {base : Heap} {N ps fr : List Str} {F : NF} {f : Addr} {k : Nat} {sp : List (Option V) → Sp} (S : NScope N ps fr F.scope)
    (hb : ∀ (doc pm ctv : Value) (us : List Value), us.length = ps.length → bindArgs (F.fd doc pm ctv) ⟨us, []⟩ = pure (ps.zip us)) (len : ∀ ws vs H Q E, sp ws vs H Q E → vs.length = ps.length)
    (hbody : ∀ (A : Around) (outer : List Env) (s : Shared) (H : Hp) (vs : List V) (ws : List (Option V)) (Q : VK) (E : XK), Room k (A.deeper (envF F f s.heap.objs.size)) → ws.length = fr.length → sp ws vs H Q E →
      ∃ t, PSs (ncx L2.CX0 P w K mg base N F f A outer s H E).nox F.body t ∧ t { nx := fun _ H' => Q .non H', rt := Q } (startF N vs ws) H) : NOk P w K mg base L2.CX0 (k + 1) f F ps fr sp := by
  refine nok_of S hb len fun A outer s H vs ws Q E hr _ _ hl hsp => ?_
  obtain ⟨t, h, q⟩ := hbody A outer s H vs ws Q E hr hl hsp
  exact ⟨t, PSs.nox h, q⟩
def inBody (st : Stmt) (i : Nat) : Stmt := (defBody st).getD i (.Pass ⟨0, 0, 0, 0⟩)
/-- which table the code object at c has -/
def tabOf (K : PySem.W.Frag) (c : Addr) : Addr := match K.lookup c with
  | some ⟨_, _, .fields vs, _⟩ => match (vs[11]? : Option PySem.Value) with
    | some (.ref p) => p
    | _ => 0
  | _ => 0
theorem tab_is {K : PySem.W.Frag} {c : Addr} (h : PySem.W.codeHdIn K c (tabOf K c) = true) : PySem.W.codeHdIn K c (tabOf K c) = true := h
theorem mem_dec {p : Addr} {l : List Addr} (h : decide (p ∈ l) = true) : p ∈ l := of_decide_eq_true h
end AT

set_option Elab.async false
set_option linter.all false
set_option maxRecDepth 100000
set_option maxHeartbeats 4000000
/-! own words, tenth part: enumerate over a text; sep.join(reversed(a list)) -/
namespace AT
open PySem PySem.Spec PyProof.Rows L2
section
abbrev SgnP (x : Str) : Nat → Value → Prop := fun i v => ∃ c u, x.cps[i]? = some c ∧ v = .str ⟨#[c]⟩ u
theorem draws_sgn {P : Program} {w : World} {B : Around} (calm : B.handled = none) (z : Addr) (x : Str) (t : Tok) : Draws P w B z [z] x.cps.size (SgnP x) (fun i g => g.IsStrIter z (strIterType x) x t i) := by
  unfold strIterType
  cases x.cps.all (· < 128) with
  | true => exact Draws.strAscii calm z x t
  | false => exact Draws.strWide calm z x t
/-- the text x, each sign in a new pair with its place -/
def ItEs (x : Str) : It where
  go := fun i _ => i < x.cps.size
  yld := fun i H v H' => ∃ T c, v = .ref T ∧ H T = none ∧ x.cps[i]? = some c ∧ H' = upd H T (.tup [.int (i : Nat), .str ⟨#[c]⟩])
  stop := fun i _ => x.cps.size ≤ i
theorem turn_enumS {P : Program} {w : World} {K : PySem.W.Frag} {tgs : List Expr} {kk : Nat} {tp : Pos} (x : Str) (t : Tok) (e z : Addr) :
    Turn P w K (.Tuple tgs kk tp) (ItEs x) [e, z] e (fun i g => (∃ old, IsEnum g e z ((i : Nat) : Int) old) ∧ g.IsStrIter z (strIterType x) x t i ∧ e ≠ z ∧ i ≤ x.cps.size) := by
  refine ⟨List.mem_cons_self, fun i g st b hb => ?_, fun i g g' st k => ?_, ?_, ?_, fun B i s Q E st h => ?_⟩
  · obtain ⟨⟨old, he⟩, ⟨o, ho, hc, hd⟩, _⟩ := st
    rcases List.mem_cons.mp hb with y | y
    · rw [y]; exact ⟨_, he, fun v t => nomatch t⟩
    · rw [List.mem_singleton.mp y]; exact ⟨o, ho, fun v t => by rw [hd] at t; cases t⟩
  · obtain ⟨⟨old, he⟩, ⟨o, ho, r⟩, ne, hi⟩ := st
    exact ⟨⟨old, k e List.mem_cons_self _ he⟩, ⟨o, k z (List.mem_cons_of_mem _ List.mem_cons_self) _ ho, r⟩, ne, hi⟩
  · intro X hP hw hK hc i pins s σ H E I hf st hg
    subst hP hw hK
    obtain ⟨⟨old, he⟩, hz, ne, hi⟩ := st
    have lt : i < x.cps.size := hg
    have heL : e < s.heap.objs.size := Heap.lt_size he
    have hzL : z < s.heap.objs.size := by obtain ⟨_, q, _⟩ := hz; exact Heap.lt_size q
    refine wpAny_pyNext_enum_itemD (draws_sgn (P := X.prog) (w := X.w) (B := X.A.in1) (show X.A.in1.handled = none from I.ok.hd hc) z x t) he hz lt ne (by simp [ne]) fun u' g tk hu' ho st' hT hsz hk => ?_
    obtain ⟨c, tu, hc1, rfl⟩ := hu'
    refine ⟨_, rfl, wpAny_letOwnedTupleGo_enum (s := { s with heap := g, toks := tk + 1 }) ho fun g2 he' sb => ?_⟩
    have hT2 : g2.get? s.heap.objs.size = some { cls := .type "tuple", data := .seq #[.int i tk, .str ⟨#[c]⟩ tu] } := (sb.2 _ (Nat.ne_of_gt heL)).trans hT
    have new : ObjOk X.prog X.w (upd H s.heap.objs.size (.tup [.int (i : Nat), .str ⟨#[c]⟩])) g2 s.heap.objs.size (.tup [.int (i : Nat), .str ⟨#[c]⟩]) :=
      ⟨by show 2 ≤ sizeLine; decide, [.int i tk, .str ⟨#[c]⟩ tu], .cons ⟨_, rfl⟩ (.cons ⟨_, rfl⟩ .nil), ⟨_, hT2, rfl, _, rfl⟩⟩
    have I1 : Inv X pins σ (upd H s.heap.objs.size (.tup [.int (i : Nat), .str ⟨#[c]⟩])) { s with heap := g2, toks := tk + 1 } :=
      I.turnedNew (ch := [e, z]) (fun b ob hb t => (sb.2 b (fun y => hb (by simp [y]))).trans (hk b ob (fun y => hb (by simp [y])) (fun y => hb (by simp [y])) t)) hf (Nat.le_refl _) new
    refine ⟨.ref s.heap.objs.size, _, I1, rfl, ⟨_, c, rfl, I.hok.fresh (Nat.le_refl _), hc1, rfl⟩, ⟨⟨.str ⟨#[c]⟩ tu, ?_⟩, ?_, ne, lt⟩, fun b hb => ?_⟩
    · have e1 : ((i + 1 : Nat) : Int) = (i : Int) + 1 := by omega
      rw [e1]
      exact he'
    · obtain ⟨o, q, r⟩ := st'
      exact ⟨o, (sb.2 z (Ne.symm ne)).trans q, r⟩
    · have hb' : b < s.heap.objs.size := by
        rcases List.mem_cons.mp hb with y | y
        · exact y ▸ heL
        · exact List.mem_singleton.mp y ▸ hzL
      rw [upd_ne (Nat.ne_of_lt hb')]
      exact (hf b hb).1
  · intro X hP hw hK hc i pins s σ H E I hf st hg
    subst hP hw hK
    obtain ⟨⟨old, he⟩, hz, ne, hi⟩ := st
    obtain ⟨f0, f1, f2, f3, f4, f5⟩ := hf z (List.mem_cons_of_mem _ List.mem_cons_self)
    have hl : i = x.cps.size := Nat.le_antisymm hi hg
    rw [hl] at he hz
    refine wpAny_pyNext_enum_endD (draws_sgn (P := X.prog) (w := X.w) (B := X.A.in1) (show X.A.in1.handled = none from I.ok.hd hc) z x t) he hz fun g eb => ⟨rfl, I.turned (t' := s.toks) (fun b o hb t => eb b o hb t) f0 f1 f3 f4 f5⟩
  · obtain ⟨⟨_, he⟩, _⟩ := st
    exact wpAny_pyIter_enum he h
def iEnumS (ta : TA) : TI := fun σ H R => ta σ H fun vs H1 => ∃ x, vs = [.str x] ∧ R (ItEs x) H1
theorem pi_enumS {X : Cx} {e : Expr} {ta : TA} {p pos tp : Pos} {tgs : List Expr} {kk : Nat} (hg : Gl X "enumerate") (hm : X.mg "enumerate" = none) (ha : PA X [e] ta) (hs : starEach [e] X.env = [(false, eval e X.env)] := by rfl) :
    PI X (.Tuple tgs kk tp) (.Call (.Name "enumerate" p) [e] [] pos) (iEnumS ta) := by
  constructor
  intro pins s σ H R I h
  refine Call_ (ld_blt I hg hm boot_enumerate (PyProof.Rows.callWith_type1 (thn (ha.run pos pins s σ H _ I h) fun us s1 z => ?_) hs rfl))
  obtain ⟨vs, H1, I1, r1, x, ex, q⟩ := z
  subst ex
  obtain ⟨u, rfl, ru⟩ := vals1 r1
  obtain ⟨t, rfl⟩ := ru
  refine call_enumerate_str fun g he hit hsz hk => wpAny_pyIter_enum he ?_
  have I2 : Inv X pins σ H1 { s1 with heap := g } := I1.kept (t' := s1.toks) hk
  refine ⟨s1.heap.objs.size + 1, [s1.heap.objs.size + 1, s1.heap.objs.size], _, _, H1, rfl, I2, turn_enumS x t (s1.heap.objs.size + 1) s1.heap.objs.size, ⟨⟨.none, he⟩, hit, Nat.succ_ne_self _, Nat.zero_le _⟩, fun b hb => ?_, q⟩
  have hle : s1.heap.objs.size ≤ b := by
    rcases List.mem_cons.mp hb with y | y
    · rw [y]; exact Nat.le_succ _
    · rw [List.mem_singleton.mp y]; exact Nat.le_refl _
  exact I1.fpOk hle (I1.hok.fresh hle)
theorem walk_enumS {x : Str} : Walk (ItEs x) x.cps.size (fun _ => True) (fun i H v H' => ∃ T c, v = .ref T ∧ H T = none ∧ x.cps[i]? = some c ∧ H' = upd H T (.tup [.int (i : Nat), .str ⟨#[c]⟩])) :=
  ⟨fun i _ hi _ => hi, fun _ _ => Nat.le_refl _, fun i H v H' _ _ y => y⟩
/-- enumerate of a list, a tuple or a text -/
def iEnumX (K : PySem.W.Frag) (ta : TA) : TI := fun σ H R => iEnumS ta σ H R ∨ iEnumA K ta σ H R
theorem pi_enumX {X : Cx} {e : Expr} {ta : TA} {p pos tp : Pos} {tgs : List Expr} {kk : Nat} (hg : Gl X "enumerate") (hm : X.mg "enumerate" = none) (ha : PA X [e] ta) (hs : starEach [e] X.env = [(false, eval e X.env)] := by rfl) :
    PI X (.Tuple tgs kk tp) (.Call (.Name "enumerate" p) [e] [] pos) (iEnumX X.K ta) := PI.or (pi_enumS hg hm ha hs) (pi_enumA hg hm ha hs)
end
/-! ### sep.join(reversed(a list)) -/
section
variable {P : Program} {w : World} {A : Around} {E : Value → Shared → Prop} {s : Shared}
theorem join_rev {x : Str} {t : Tok} {it l : Addr} {its : Array Value} {ys : List Str} {Q : Value → Shared → Prop} (calm : A.handled = none) (hit : s.heap.IsRevIter it l ((its.size : Int) - 1)) (hl : s.heap.IsList l its) (hne : l ≠ it) (hn : its.size ≤ sizeLine)
    (hP : ∀ acc : Array Value, ItemsOf (fun i v => its[its.size - 1 - i]? = some v) acc its.size → StrsAre acc.toList ys) (hok : (ys.map (·.length)).sum + ys.length * x.length ≤ 16777216)
    (hq : ∀ h' tk t', (∀ b o, b ≠ it → s.heap.get? b = some o → h'.get? b = some o) → Q (.str (Txt.join x ys) t') { s with heap := h', toks := tk }) : wpAny (model P w) A (call (.builtin "str.join") [.str x t, .ref it]) Q E s := by
  refine wpAny_call (codeAny_call_builtin F.slot_str_join.plain F.entry_str_join (F.slot_str_join.check _ _ _ _ _ _ _ _ (typeIs_str _ _ _) (F.args_str_join_2 _ _) ?_))
  rw [join_tree_other]
  have ty : s.TypeIs (.ref it) "list_reverseiterator" := hit.typeIs
  refine wpAny_bind (wpAny_typeOf ty ?_)
  rw [if_neg (by decide)]
  refine wpAny_bind (wpAny_tryCatch (wpAny_pyIter_revIter hit ?_))
  have calm1 : A.in1.in1.handled = none := calm
  refine wpAny_bind (RT.collect_rev (A := A.in1) calm hit hl hne hn fun h' tk acc kp items => ?_)
  obtain ⟨ps, hps, es⟩ := strsAre_values (hP acc items)
  subst es
  rw [hps]
  have fit := joinOk_of hok
  unfold JoinOk at fit
  rw [Bool.not_eq_true'] at fit
  have g : Gives (PySem.joinTail x (strValues ps)) (joinMade x ps) := by
    have made := PySem.gives_joinTail x ps fit
    rcases ps with _ | ⟨one, _ | ⟨two, rest⟩⟩
    · exact made
    · exact made
    · exact made
  exact g P w A (wants Q E) _ (PySem.post_join ps ⟨PySem.joinFit_length fit, fun t' k => hq h' k t' kp⟩)
end
theorem strs_rev {ys : List Str} {its : List Value} {acc : Array Value} (r : Vals (ys.map V.str) its) (h : ItemsOf (fun i v => its.toArray[its.toArray.size - 1 - i]? = some v) acc its.toArray.size) : StrsAre acc.toList ys.reverse := by
  have r2 := RT.vals_rev r h
  rw [← List.map_reverse] at r2
  generalize ys.reverse = zs at r2
  generalize acc.toList = us at r2
  clear h r
  induction zs generalizing us with
  | nil => cases r2; exact .nil
  | cons z zs ih =>
    cases r2 with
    | cons r1 r3 =>
      obtain ⟨t, rfl⟩ := r1
      exact .cons z t (ih _ r3)
def tJoinRev (K : PySem.W.Frag) (to : TE) (ta : TA) : TE := fun σ H Q => to σ H fun v H1 => (∃ a : Str, v = .str a) ∧ ta σ H1 fun vs H2 => ∃ (a : Str) (q : Addr) (ys : List Str), v = .str a ∧ vs = [.ref q] ∧ SqL K H2 q (ys.map V.str) ∧
  (ys.map (·.length)).sum + ys.length * a.length ≤ 16777216 ∧ Q (.str (Txt.join a ys.reverse)) H2
theorem pe_joinRev {X : Cx} {o e : Expr} {to : TE} {ta : TA} {apos pos p2 pos2 : Pos} (calm : X.calm = true) (ho : PE X o to) (hg : Gl X "reversed") (hm : X.mg "reversed" = none) (ha : PA X [e] ta) (hs : starEach [e] X.env = [(false, eval e X.env)] := by rfl)
    (hs1 : starEach [.Call (.Name "reversed" p2) [e] [] pos2] X.env = [(false, eval (.Call (.Name "reversed" p2) [e] [] pos2) X.env)] := by rfl) (hbase : attributeBase o "join" X.env (eval o X.env) = eval o X.env := by rfl) (hline : (apos.endLine == pos.line) = true := by rfl) :
    PE X (.Call (.Attribute o "join" apos) [.Call (.Name "reversed" p2) [e] [] pos2] [] pos) (tJoinRev X.K to ta) := by
  constructor
  intro pins s σ H Q I h
  refine PySem.Call_method1 hbase hs1 hline (thn (ho.run pins s σ H _ I h) fun v s1 z => ?_)
  obtain ⟨x, H1, I1, r1, ⟨a, rfl⟩, q1⟩ := z
  obtain ⟨t, rfl⟩ := _root_.id r1
  refine ⟨"str", _, F.plainAttrs_str, F.slot_str_join, F.type_str_join, typeIs_str _ _ _, (fun _ e => nomatch e), Calls.callWith_builtin rfl (Calls.evalArgs_plain (Calls.spliced_cons ?_))⟩
  refine Call_ (ld_blt I1 hg hm PyProof.Rows.boot_reversed (PyProof.Rows.callWith_type1 (thn (ha.run pos2 pins s1 σ H1 _ I1 q1) fun us s2 z => ?_) hs rfl))
  obtain ⟨vs, H2, I2, r2, a', q, ys, ea, ev, hq, hz, q2⟩ := z
  cases ea
  subst ev
  obtain ⟨u, rfl, ru⟩ := vals1 r2
  cases (show u = Value.ref q from ru)
  obtain ⟨its, rv, p', hl⟩ := I2.list hq
  refine call_reversed_list p'.isList (Calls.spliced_nil ?_)
  have hol : q < s2.heap.objs.size := by obtain ⟨o, z, _⟩ := p'.isList; exact Heap.lt_size z
  have k0 : ∀ b o, s2.heap.get? b = some o → (s2.heap.push (revObj q ((its.toArray.size : Int) - 1))).get? b = some o := fun b o z => Heap.get?_push_of_some _ z
  have J : Inv X pins σ H2 { s2 with heap := s2.heap.push (revObj q ((its.toArray.size : Int) - 1)) } := I2.kept (t' := s2.toks) k0
  obtain ⟨f0, f1, f2, f3, f4, f5⟩ := I2.fpOk (H' := H2) (b := s2.heap.objs.size) (Nat.le_refl _) (I2.hok.fresh (Nat.le_refl _))
  refine join_rev (s := { s2 with heap := s2.heap.push (revObj q ((its.toArray.size : Int) - 1)) }) (ys := ys.reverse) (I2.ok.hd calm) ⟨_, Heap.get?_push_size _ rfl, rfl, rfl⟩ (p'.isList.push _) (Nat.ne_of_lt hol) ?_ (fun acc hi => strs_rev rv hi) ?_ fun h' tk t' kp => ?_
  · rw [List.size_toArray, ← rv.length]; exact hl
  · rw [List.map_reverse, List.sum_reverse, List.length_reverse]; exact hz
  · exact ⟨.str _, H2, J.turned (t' := tk) (fun b o hb z => kp b o hb z) f0 f1 f3 f4 f5, ⟨t', rfl⟩, q2⟩
section
variable {X : Cx} (K : PySem.W.Frag) (hK : X.K = K := by rfl)
include hK
theorem kJr {e : Expr} {to : TE} {ta : TA} (h : PE X e (tJoinRev X.K to ta)) : PE X e (tJoinRev K to ta) := hK ▸ h
end
section
variable {σ : L2.St} {H : Hp} {Q : VK} {D : Ends} {t : TA} {to : TE} {ta : TA} {nm : Nat → Nat → Str} {Ps : List Addr} {P : Addr} {i : Nat} {mk : Addr → NdefX.NF} {X : Cx} {sp : Sp} {R : It → Hp → Prop}
theorem rd_ndf (T : Tbs nm Ps H) (h : ∀ (f c' : Addr) (H1 : Hp), Kp [P] H H1 → Tbs nm Ps H1 → H f = none → H1 f = some (NdefX.FnO f (mk c')) → H1 c' = some (LamX.CodeO c' (mk c').qual) → D.nx (σ.set i (some (.ref f))) H1) : tNdf nm Ps P i mk D σ H := ⟨T, h⟩
theorem rd_callZ (h : t σ H fun vs H1 => ∀ O, OwnC X σ O H1 → sp vs (fz (ca X) O H1) (fun v H2 => Q v (hid (ca X) H2)) L2.E0) : tCallZ X sp t σ H Q := h
theorem rd_enS (h : ta σ H fun vs H1 => ∃ x, vs = [.str x] ∧ R (ItEs x) H1) : iEnumS ta σ H R := h
end
section
variable {X : Cx}
/-- t.index(True), t a tuple of truth values -/
def rIdxB (K : PySem.W.Frag) : V → List V → Hp → VK → Prop := fun x xs H Q => ∃ (p : Addr) (bs : List Bool) (j : Nat), x = .ref p ∧ xs = [.bl true] ∧ SqT K H p (bs.map V.bl) ∧ bs[j]? = some true ∧ (∀ m, m < j → bs[m]? ≠ some true) ∧ Q (.int (j : Nat)) H
theorem flat_bls : ∀ bs : List Bool, (bs.map V.bl).all flatV = true
  | [] => rfl
  | _ :: bs => flat_bls bs
theorem mt_tupIdxB : MtR X "tuple.index" (rIdxB X.K) := by
  intro pins s σ H x xs v us Q I rx rs h
  obtain ⟨p, bs, j, rfl, rfl, hq, hj, no, q⟩ := h
  cases rx
  obtain ⟨u, rfl, ru⟩ := vals1 rs
  cases (show u = Value.bool true from ru)
  obtain ⟨its, r, ⟨⟨cls, dd, dt, sl⟩, ho, hc, n, hd⟩, hz⟩ := I.tuple hq
  simp only at hc hd
  subst hc hd
  have len : its.toArray.size = bs.length := by
    have := r.length
    rw [List.length_map] at this
    rw [List.size_toArray]; exact this.symm
  have jl : j < its.toArray.size := by rw [len]; exact (List.getElem?_eq_some_iff.mp hj).1
  have here : ∀ (m : Nat) (hm : m < its.toArray.size), ∃ b, bs[m]? = some b ∧ its.toArray[m] = Value.bool b := fun m hm => by
    have hm' : m < bs.length := len ▸ hm
    obtain ⟨z, hz1, hz2⟩ := r.get (i := m) (x := .bl bs[m]) (by simp [hm'])
    refine ⟨bs[m], List.getElem?_eq_getElem hm', ?_⟩
    cases (show z = Value.bool bs[m] from hz2)
    simpa using (List.getElem?_eq_some_iff.mp hz1).2
  refine call_meets PySem.F.slot_tuple_index ⟨_, ho, rfl⟩ PySem.F.entry_tuple_index (PySem.F.args_tuple_index_2 _ _) (TI.tuple_indexAt p its.toArray n dd sl (.bool true) (eqU (.bl true)) j jl ?_ ?_) ⟨ho, fun z hz => mem_eqAt (x := .bl true) rfl rfl r (flat_bls bs) z (by simpa using hz), ⟨.int (j : Nat), H, I.tok _, ⟨_, rfl⟩, q⟩⟩
  · obtain ⟨b, h1, h2⟩ := here j jl
    rw [hj] at h1
    cases h1
    rw [h2]
    rfl
  · intro m hm hmj
    obtain ⟨b, h1, h2⟩ := here m hm
    rw [h2]
    cases b with
    | true => exact absurd h1 (no m hmj)
    | false => rfl
end
section
variable {X : Cx} (K : PySem.W.Frag) (hK : X.K = K := by rfl)
include hK
theorem kIdxB : MtR X "tuple.index" (rIdxB K) := hK ▸ mt_tupIdxB
end
theorem PE.or {X : Cx} {e : Expr} {t t' : TE} (h : PE X e t) (h' : PE X e t') : PE X e (fun σ H Q => t σ H Q ∨ t' σ H Q) := by
  constructor
  intro pins s σ H Q I q
  exact q.elim (h.run pins s σ H Q I) (h'.run pins s σ H Q I)
/-! ### what stands still hides no data -/
section
variable {K : PySem.W.Frag} {S : List Addr} {H H' : Hp}
theorem rz_hid : rz S H (hid S H) = H := by
  funext b
  by_cases hb : b ∈ S
  · rw [rz_in hb]
  · rw [rz_at hb, hid_at hb]
/-- all of S are things that no data leans on -/
def NoD (S : List Addr) (H : Hp) : Prop := ∀ b ∈ S, ∀ o, H b = some o → (∀ xs, o ≠ .lst xs) ∧ (∀ xs, o ≠ .tup xs) ∧ (∀ u xs, o ≠ .frz u (.lst xs)) ∧ ∀ u xs, o ≠ .frz u (.tup xs)
theorem NoD.of_fr (W : ∀ b ∈ S, ∃ o, H b = some (frC b o)) : NoD S H := fun b hb o e => by
  obtain ⟨u, z⟩ := W b hb
  rw [z] at e
  cases e
  exact ⟨fun xs z => (nomatch z), fun xs z => (nomatch z), (fun u xs z => by cases z), (fun u xs z => by cases z)⟩
theorem sqt_noD (h : NoD S H) {a : Addr} {vs : List V} (q : SqT K H a vs) : SqT K (hid S H) a vs := by
  rcases q with (q | ⟨o, q⟩) | q
  · exact .inl (.inl (by rw [hid_at fun hb => (h a hb _ q).2.1 _ rfl]; exact q))
  · exact .inl (.inr ⟨o, by rw [hid_at fun hb => (h a hb _ q).2.2.2 _ _ rfl]; exact q⟩)
  · exact .inr q
theorem sql_noD (h : NoD S H) {a : Addr} {vs : List V} (q : SqL K H a vs) : SqL K (hid S H) a vs := by
  rcases q with (q | ⟨o, q⟩) | q
  · exact .inl (.inl (by rw [hid_at fun hb => (h a hb _ q).1 _ rfl]; exact q))
  · exact .inl (.inr ⟨o, by rw [hid_at fun hb => (h a hb _ q).2.2.1 _ _ rfl]; exact q⟩)
  · exact .inr q
mutual
theorem Dp.hidF (h : NoD S H) : ∀ (d : PyData) {v : V}, Dp K H v d → Dp K (hid S H) v d
  | .none, _, q => by cases q; exact .non
  | .bool b, _, q => by cases q; exact .bl b
  | .int i, _, q => by cases q; exact .int i
  | .str x, _, q => by cases q; exact .str x
  | .list ds, _, q => by
    cases q with
    | lst hs ha => exact .lst (sql_noD h hs) (DpAll.hidF h ds ha)
  | .tuple ds, _, q => by
    cases q with
    | tup hs ha => exact .tup (sqt_noD h hs) (DpAll.hidF h ds ha)
  | .dict _, _, q => by cases q
theorem DpAll.hidF (h : NoD S H) : ∀ (ds : List PyData) {vs : List V}, DpAll K H vs ds → DpAll K (hid S H) vs ds
  | [], _, q => by cases q; exact .nil
  | d :: ds, _, q => by
    cases q with
    | cons h1 h2 => exact .cons (Dp.hidF h d h1) (DpAll.hidF h ds h2)
end
end
section
variable {nm : Nat → Nat → Str} {Ps S : List Addr} {H H' : Hp}
/-- the tables are no data -/
theorem Tbs.noD (t : Tbs nm Ps H) : NoD Ps H := fun b hb o e => by
  obtain ⟨ps, z⟩ := TabN.isT (t b hb)
  rw [z] at e
  cases e
  exact ⟨fun xs z => (nomatch z), fun xs z => (nomatch z), fun u xs z => (nomatch z), fun u xs z => (nomatch z)⟩
theorem kp_one {P : Addr} (hP : P ∈ Ps) (k : Kp [P] H H') : Kp Ps H H' := k.sub fun b hb => by rw [List.mem_singleton.mp hb]; exact hP
end
/-! ### made functions, for those who get them -/
section
open LamX NdefX
/-- the promise, the function's cells out of sight -/
def spC (as : List Addr) (sp : Sp) : List V → Hp → VK → Prop := fun vs H Q => (∀ b ∈ as, ∃ o, H b = some (frC b o)) → sp vs (hid as H) (fun v H' => (∀ b ∈ as, H' b = none) → Q v (rz as H H')) L2.E0
theorem FV.weak {P : Program} {w : World} {K : PySem.W.Frag} {mg : Str → Option Value} {base : Heap} {k : Nat} {f : Addr} {G : Hp → Prop} {sp sp' : List V → Hp → VK → Prop} (F : FV P w K mg base k f G sp) (h : ∀ vs H Q, G H → sp' vs H Q → sp vs H Q) : FV P w K mg base k f G sp' :=
  ⟨F.fn, F.st, fun A outer s H us vs Q hr e0 g r q => F.run A outer s H us vs Q hr e0 g r (h vs H Q g q)⟩
variable {X : Cx} {σ : L2.St} {O : Addr → Obj} {H : Hp} {f c : Addr} {name q : Str} {params : Arguments} {scope : Scope} {N ps fr : List Str} {js : List Nat} {k : Nat} {sp : List (Option V) → Sp}
theorem lam_made {body : Expr} (ow : OwnC X σ O H) (hf : H f = some (FnE f ⟨name, q, params, [], scope, cloFrom X.env.cells scope.names [], c⟩ body)) (hc : H c = some (CodeO c q)) (js : List Nat) (hb : ndefB X.env.scope scope fr = true) (hjs : js.map (fun j => X.N[j]?) = fr.map some) (S : NScope N ps fr scope)
    (hbind : ∀ (cl : List (Str × Addr)) (pm ctv : Value) (us : List Value), us.length = ps.length → bindArgs (PySem.W.kla_fn name q params body scope cl pm (.ref c) ctv) ⟨us, []⟩ = pure (ps.zip us)) (len : ∀ ws vs H Q E, sp ws vs H Q E → vs.length = ps.length)
    (hbody : ∀ (cl : List (Str × Addr)) (A : Around) (outer : List Env) (s : Shared) (H : Hp) (vs : List V) (ws : List (Option V)) (Q : VK), Room k (A.deeper (envF ⟨name, q, params, [], scope, cl, c⟩ f s.heap.objs.size)) → ws.length = fr.length → sp ws vs H Q L2.E0 →
      ∃ t, PE (ncx L2.CX0 X.prog X.w X.K X.mg X.base N ⟨name, q, params, [], scope, cl, c⟩ f A outer s H L2.E0) body t ∧ t (startF N vs ws) H Q) :
    ∃ (G : Hp → Prop) (as : List Addr), FV X.prog X.w X.K X.mg X.base (k + 1) f G (spC as (sp (js.map (slotAt σ)))) ∧ G (fz (ca X) O H) := by
  have F := FV.of_lam (P := X.prog) (w := X.w) (K := X.K) (mg := X.mg) (base := X.base) (f := f) (F := ⟨name, q, params, [], scope, cloFrom X.env.cells scope.names [], c⟩) (body := body) (ws := js.map (slotAt σ)) (sp := sp) S (hbind _) len fun A outer s H vs Q hr hl h => hbody _ A outer s H vs _ Q hr hl h
  exact ⟨_, _, F.weak fun vs H' Q g h => h fun b hb => let ⟨u, e, _⟩ := g.cel b hb; ⟨u, e⟩, clo_made ow hf hc hb hjs⟩
theorem ndf_made {body : List Stmt} (ow : OwnC X σ O H) (hf : H f = some (FnO f ⟨name, q, params, body, scope, cloFrom X.env.cells scope.names [], c⟩)) (hc : H c = some (CodeO c q)) (js : List Nat) (hb : ndefB X.env.scope scope fr = true) (hjs : js.map (fun j => X.N[j]?) = fr.map some)
    (Nk : ∀ cl, NOk X.prog X.w X.K X.mg X.base L2.CX0 k f ⟨name, q, params, body, scope, cl, c⟩ ps fr sp) :
    ∃ (G : Hp → Prop) (as : List Addr), FV X.prog X.w X.K X.mg X.base k f G (spC as (sp (js.map (slotAt σ)))) ∧ G (fz (ca X) O H) := by
  have F := FV.of_nok (ws := js.map (slotAt σ)) (Nk (cloFrom X.env.cells scope.names []))
  exact ⟨_, _, F.weak fun vs H' Q g h => h fun b hb => let ⟨u, e, _⟩ := g.cel b hb; ⟨u, e⟩, clo_made ow hf hc hb hjs⟩
end
theorem Tbs.kpX {nm : Nat → Nat → Str} {Ps : List Addr} {P : Addr} {H H' : Hp} (t : Tbs nm Ps H) (hP : P ∈ Ps) (k : Kp [P] H H') {b : Addr} {o : HO} (e : H b = some o) (x : isX o) : H' b = some o := by
  obtain ⟨ps, z⟩ := TabN.isT (t P hP)
  refine k b o (fun m => ?_) e
  rw [List.mem_singleton.mp m, z] at e
  cases e
  exact x
/-- the data that stands while a table grows -/
theorem Tbs.kpD {nm : Nat → Nat → Str} {Ps : List Addr} {P : Addr} {H H' : Hp} (t : Tbs nm Ps H) (hP : P ∈ Ps) (k : Kp [P] H H') {b : Addr} {o : HO} (e : H b = some o) (x : ∀ ps, o ≠ .tbl ps) : H' b = some o := by
  obtain ⟨ps, z⟩ := TabN.isT (t P hP)
  refine k b o (fun m => ?_) e
  rw [List.mem_singleton.mp m, z] at e
  cases e
  exact absurd rfl (x ps)
/-- out of the callee's heap, the cells left behind -/
theorem fz_out {as : List Addr} {O : Addr → Obj} {H H' : Hp} (n : ∀ c ∈ as, H c = none) (e : Ex (fz as O H) H') : Ex H (hid as H') := fun b o z => by
  have nb : b ∉ as := fun m => by rw [n b m] at z; cases z
  rw [hid_at nb]
  exact e b o (by rw [fz_at nb]; exact z)
section
open LamX NdefX
/-- what stands but for the cells -/
def StE (H H' : Hp) : Prop := ∀ b φ, H b = some (.ext φ) → H' b = some (.ext φ)
theorem StE.hid {S : List Addr} {H : Hp} (W : ∀ b ∈ S, ∃ o, H b = some (frC b o)) : StE H (hid S H) := fun b φ e => by
  rw [hid_at fun m => by obtain ⟨o, z⟩ := W b m; rw [z] at e; cases e]
  exact e
theorem StE.of_ex {H H' : Hp} (e : Ex H H') : StE H H' := fun b φ z => e b _ z
theorem StE.trans {H H1 H2 : Hp} (a : StE H H1) (b : StE H1 H2) : StE H H2 := fun x φ z => b x φ (a x φ z)
/-- a lambda that captured nothing -/
theorem lam_free {P : Program} {w : World} {K : PySem.W.Frag} {mg : Str → Option Value} {base : Heap} {f c : Addr} {name q : Str} {params : Arguments} {scope : Scope} {N ps : List Str} {k : Nat} {sp : Sp} {body : Expr} {H : Hp} {cl : List (Str × Addr)} (hf : H f = some (FnE f ⟨name, q, params, [], scope, cl, c⟩ body)) (hc : H c = some (CodeO c q)) (hcl : cl = [])
    (S : NScope N ps [] scope) (hbind : ∀ (pm ctv : Value) (us : List Value), us.length = ps.length → bindArgs (PySem.W.kla_fn name q params body scope [] pm (.ref c) ctv) ⟨us, []⟩ = pure (ps.zip us)) (len : ∀ vs H Q E, sp vs H Q E → vs.length = ps.length)
    (hbody : ∀ (A : Around) (outer : List Env) (s : Shared) (H : Hp) (vs : List V) (Q : VK), Room k (A.deeper (envF ⟨name, q, params, [], scope, [], c⟩ f s.heap.objs.size)) → sp vs H Q L2.E0 →
      ∃ t, PE (ncx L2.CX0 P w K mg base N ⟨name, q, params, [], scope, [], c⟩ f A outer s H L2.E0) body t ∧ t (startF N vs []) H Q) :
    ∃ G : Hp → Prop, FV P w K mg base (k + 1) f G (fun vs H Q => sp vs H Q L2.E0) ∧ G H ∧ ∀ H H', StE H H' → G H → G H' := by
  subst hcl
  have F := FV.of_lam (P := P) (w := w) (K := K) (mg := mg) (base := base) (f := f) (F := ⟨name, q, params, [], scope, [], c⟩) (body := body) (fr := []) (ws := []) (sp := fun _ => sp) S hbind (fun _ => len) fun A outer s H vs Q hr _ h => hbody A outer s H vs Q hr h
  have all : ∀ H, H f = some (FnE f ⟨name, q, params, [], scope, [], c⟩ body) ∧ H c = some (CodeO c q) → Clo H f (FnE f ⟨name, q, params, [], scope, [], c⟩ body) c q [] [] [] := fun H h =>
    ⟨h.1, h.2, (fun a ha => nomatch ha), (fun x y a e => nomatch e), rfl, fun i y e => by rw [List.getElem?_nil] at e; cases e⟩
  refine ⟨fun H => H f = some (FnE f ⟨name, q, params, [], scope, [], c⟩ body) ∧ H c = some (CodeO c q), ⟨fun H h ok g => F.fn H h ok (all H g), fun H H' st g => ⟨st _ _ g.1 True.intro, st _ _ g.2 True.intro⟩, fun A outer s H us vs Q hr e0 g r q => F.run A outer s H us vs Q hr e0 (all H g) r ?_⟩, ⟨hf, hc⟩, fun H H' st g => ⟨st _ _ g.1, st _ _ g.2⟩⟩
  show sp vs (hid [] H) (fun v H' => (∀ b ∈ ([] : List Addr), H' b = none) → Q v (rz [] H H')) L2.E0
  have e1 : (fun (v : V) (H' : Hp) => (∀ b ∈ ([] : List Addr), H' b = none) → Q v (rz [] H H')) = Q := by
    funext v H'
    have e2 : rz [] H H' = H' := by
      funext b
      exact rz_at (by simp)
    rw [e2]
    exact propext ⟨fun h => h fun b hb => (nomatch hb), fun h _ => h⟩
  rw [hid_nil, e1]
  exact q
end
theorem Tbs.hidC {nm : Nat → Nat → Str} {Ps as : List Addr} {H : Hp} (t : Tbs nm Ps H) (W : ∀ b ∈ as, ∃ o, H b = some (frC b o)) : Tbs nm Ps (hid as H) := fun P hP => by
  obtain ⟨ps, e, h1, h2⟩ := t P hP
  refine ⟨ps, by rw [hid_at fun m => by obtain ⟨o, z⟩ := W P m; rw [e] at z; cases z]; exact e, h1, fun pos cv hc => ?_⟩
  obtain ⟨c, e1, e2⟩ := h2 pos cv hc
  exact ⟨c, e1, by rw [hid_at fun m => by obtain ⟨o, z⟩ := W c m; rw [e2] at z; cases z]; exact e2⟩
/-- back from a callee that may make functions -/
theorem out_T {nm : Nat → Nat → Str} {Ps as : List Addr} {O : Addr → Obj} {H H' : Hp} (n : ∀ c ∈ as, H c = none) (t : Tbs nm Ps H) (k : Kp Ps (fz as O H) H') (t' : Tbs nm Ps H') : Kp Ps H (hid as H') ∧ Tbs nm Ps (hid as H') := by
  have np : ∀ b ∈ as, b ∉ Ps := fun b hb hP => by
    obtain ⟨ps, z⟩ := TabN.isT (t b hP)
    rw [n b hb] at z; cases z
  refine ⟨fun b o hb e => ?_, t'.hidC fun b hb => ⟨O b, k b _ (np b hb) (fz_in hb)⟩⟩
  have nb : b ∉ as := fun m => by rw [n b m] at e; cases e
  rw [hid_at nb]
  exact k b o hb (by rw [fz_at nb]; exact e)
theorem rd_neB {K : PySem.W.Frag} {x y : Bool} {H : Hp} {Q : VK} (h : Q (.bl (x != y)) H) : oNe K (.bl x) (.bl y) H Q := .inl ⟨rfl, by
  have e : (!decide (V.bl x = V.bl y)) = (x != y) := by cases x <;> cases y <;> rfl
  rw [e]; exact h⟩
theorem rd_eqB {K : PySem.W.Frag} {x y : Bool} {H : Hp} {Q : VK} (h : Q (.bl (x == y)) H) : oEq K (.bl x) (.bl y) H Q := .inl ⟨rfl, by
  have e : decide (V.bl x = V.bl y) = (x == y) := by cases x <;> cases y <;> rfl
  rw [e]; exact h⟩
/-! ### tuples that are known to the object: their methods -/
/-- a tuple with no dict of its own -/
def TupF (H : Hp) (p : Addr) (xs : List V) : Prop := ∃ o : Obj, H p = some (.frz o (.tup xs)) ∧ o.cls = .type "tuple" ∧ o.dict = none
theorem TupF.sq {K : PySem.W.Frag} {H : Hp} {p : Addr} {xs : List V} (h : TupF H p xs) : SqT K H p xs := let ⟨o, e, _⟩ := h; .inl (.inr ⟨o, e⟩)
theorem TupF.ex {H H' : Hp} {p : Addr} {xs : List V} (h : TupF H p xs) (e : Ex H H') : TupF H' p xs := let ⟨o, z, r⟩ := h; ⟨o, e _ _ z, r⟩
/-- tuple(a list): the new tuple, known to the object -/
def cTupF (K : PySem.W.Frag) : List V → Hp → VK → Prop := fun xs H Q => ∃ p ys, xs = [.ref p] ∧ SqL K H p ys ∧ ∀ l o, H l = none → o.cls = .type "tuple" → o.dict = none → Q (.ref l) (upd H l (.frz o (.tup ys)))
theorem call_tupF {X : Cx} : CallR X (.type "tuple") (cTupF X.K) := by
  intro pins s σ H xs us Q I r h
  obtain ⟨p, ys, rfl, hq, q⟩ := h
  obtain ⟨u, rfl, ru⟩ := vals1 r
  cases (show u = Value.ref p from ru)
  obtain ⟨its, rv, pl, hz⟩ := I.list hq
  have len := rv.length
  refine call_tuple_list pl.isList (fun h' kp => ?_) (by rw [List.size_toArray]; omega)
  have J : Inv X pins σ H { s with heap := h' } := I.kept (t' := s.toks) kp
  have got : (h'.push { cls := .type "tuple", data := .seq its.toArray }).get? h'.objs.size = some { cls := .type "tuple", data := .seq its.toArray } := Heap.get?_push_size _ rfl
  refine ⟨.ref h'.objs.size, _, J.laid (t' := s.toks) (o := .frz { cls := .type "tuple", data := .seq its.toArray } (.tup ys)) (fun b o e => Heap.get?_push_of_some _ e) (Nat.le_refl _) ⟨got, hz, its, rv, IsTup.new _ _⟩, rfl, q _ _ (J.hok.fresh (Nat.le_refl _)) rfl rfl⟩
/-- o.m(..), o a tuple that is known to the object -/
def tBMF (r : V → List V → Hp → VK → Prop) (to : TE) (t : TA) : TE := fun σ H Q => to σ H fun x H1 => (∃ p xs, x = .ref p ∧ TupF H1 p xs) ∧ t σ H1 fun vs H2 => r x vs H2 Q
theorem pe_bmF {X : Cx} {o e : Expr} {es : List Expr} {name : Str} {id : String} {r : V → List V → Hp → VK → Prop} {to : TE} {t : TA} {apos cpos : Pos} (pa : PlainAttrs "tuple") (slot : Slot "tuple" name id) (hty : typeOf (.builtin id) = pure (.type "method_descriptor")) (hm : MtR X id r) (ho : PE X o to) (ha : PA X (e :: es) t)
    (hbase : attributeBase o name X.env (eval o X.env) = eval o X.env := by rfl)
    (hfew : ((backTo cpos (starEach (e :: es) X.env)).all (fun x => !x.1) && (backToKw cpos (keywordEach [] X.env)).all (fun x => x.1.isSome) && decide ((e :: es).length + ([] : List Keyword).length + (if ([] : List Keyword).isEmpty then 0 else 1) < 30)) = true := by rfl)
    (hline : (apos.endLine == cpos.line) = true := by rfl) (hs : starEach (e :: es) X.env = (false, eval e X.env) :: starEach es X.env := by rfl) (hpl : (backTo cpos (starEach es X.env)).any (·.1) = false := by rfl) :
    PE X (.Call (.Attribute o name apos) (e :: es) [] cpos) (tBMF r to t) := by
  constructor
  intro pins s σ H Q I h
  refine wpAny_Call_method_late hbase hfew hline rfl (thn (ho.run pins s σ H _ I h) fun v s1 z => ?_)
  obtain ⟨x, H1, I1, r1, ⟨p, xs, rfl, u, hp, hc, hd⟩, q1⟩ := z
  have hv : v = Value.ref p := r1
  obtain ⟨got, _⟩ := I1.hok p _ hp
  refine ⟨"tuple", id, pa, slot, hty, by rw [hv]; exact ⟨u, got, hc⟩, fun a e => ?_, ?_⟩
  · rw [hv] at e
    cases e
    exact ⟨u, got, hd⟩
  have hA := ha.run cpos pins s1 σ H1 _ I1 q1
  rw [hs] at hA ⊢
  refine Calls.callWith_builtin (by show (false || (backTo cpos (starEach es X.env)).any (·.1)) = false; rw [hpl]; rfl) (Calls.evalArgs_plain ?_)
  exact thn hA fun us s2 z => by
    obtain ⟨vs, H2, I2, r2, q2⟩ := z
    exact hm pins s2 σ H2 _ vs v us Q I2 r1 r2 q2
section
variable {X : Cx} (K : PySem.W.Frag) (hK : X.K = K := by rfl)
include hK
theorem kTupF : CallR X (.type "tuple") (cTupF K) := hK ▸ call_tupF
end
theorem rd_bmF {r : V → List V → Hp → VK → Prop} {to : TE} {t : TA} {σ : L2.St} {H : Hp} {Q : VK} (h : to σ H fun x H1 => (∃ p xs, x = .ref p ∧ TupF H1 p xs) ∧ t σ H1 fun vs H2 => r x vs H2 Q) : tBMF r to t σ H Q := h
end AT

set_option Elab.async false
set_option linter.all false
set_option maxRecDepth 100000
set_option maxHeartbeats 4000000
/-! own words, eleventh part: calls of function values within comprehensions -/
namespace AT
open PySem PySem.Spec PyProof.Rows L2
section
variable {X : Cx} {k i : Nat} {x : Str} {p pos : Pos} {e : Expr} {es : List Expr} {t : TA} {P : Program} {w : World} {K : PySem.W.Frag} {mg : Str → Option Value} {base : Heap}
/-- x(..), x a name that holds a function, its parts named -/
theorem pe_callQB (h1 : X.prog = P) (h2 : X.w = w) (h3 : X.K = K) (h4 : X.mg = mg) (h5 : X.base = base) (hr : Room k X.A) (hN : X.N[i]? = some x) (hv : Vis X.env.scope x) (ha : PA X (e :: es) t) (hd : (x == ("__debug__" : Str)) = false := by decide) (hcd : (x == ("__classdict__" : Str)) = false := by decide)
    (he : starEach (e :: es) X.env = (false, eval e X.env) :: starEach es X.env := by rfl) (hpl : (backTo pos (starEach es X.env)).any (·.1) = false := by rfl) : PE X (.Call (.Name x p) (e :: es) [] pos) (tCallQ P w K mg base k i t) := by
  subst h1 h2 h3 h4 h5
  exact pe_callQ hr hN hv ha hd hcd he hpl
end
/-- o[i] of a tracked list, from its start, as `o[i] += ..` reads it -/
def gGetL : V → V → Hp → VK → Prop := fun x y H Q => ∃ p xs i v, x = .ref p ∧ y = .int i ∧ H p = some (.lst xs) ∧ 0 ≤ i ∧ xs[i.toNat]? = some v ∧ Q v H
theorem pget_list {X : Cx} : PGet X gGetL := by
  intro pins s σ H x y v u Q I rx ry h
  obtain ⟨p, xs, i, z, rfl, rfl, hq, h0, he, q⟩ := h
  cases rx
  obtain ⟨t, rfl⟩ := ry
  obtain ⟨its, r, pl, hz⟩ := I.list (.inl (.inl hq))
  obtain ⟨w, ew, rw'⟩ := r.get he
  have hl := r.length
  have hn := line63
  have hi : i.toNat < xs.length := (List.getElem?_eq_some_iff.mp he).1
  exact wpAny_mono (wpAny_getItem_list (Q := fun r s' => r = w ∧ s' = s) pl.isList h0 (by omega) (by simpa using ew) ⟨rfl, rfl⟩) (fun r s' e => by obtain ⟨rfl, rfl⟩ := e; exact ⟨z, H, I, rw', q⟩) fun _ _ z => z
theorem rd_augS {to ti te : TE} {tget : V → V → Hp → VK → Prop} {tip : TIp} {tset : TSet} {D : Ends} {σ : L2.St} {H : Hp} (h : to σ H fun o H1 => ti σ H1 fun i H2 => tget o i H2 fun x H3 => te σ H3 fun y H4 => tip x y H4 fun z H5 => tset o i z H5 fun H6 => D.nx σ H6) : tAugS to ti te tget tip tset D σ H := h
/-- d.setdefault(k, v), its reading -/
theorem rd_dsetd {td ty tx : TE} {σ : L2.St} {H : Hp} {Q : VK} (h : td σ H fun x H1 => ∃ a, x = .ref a ∧ IsD H1 a ∧ ty σ H1 fun y H2 => tx σ H2 fun z H3 => ∃ (kvs : List (L2.Key × V)) (k : L2.Key), H3 a = some (.dK kvs) ∧ y = kV k ∧ kvs.length < sizeLine ∧
  (∀ v, valV kvs k = some v → Q v H3) ∧ (valV kvs k = none → Q z (upd H3 a (.dK (putK kvs k z))))) : tDSetd td ty tx σ H Q := h
end AT

set_option Elab.async false
set_option linter.all false
set_option maxRecDepth 100000
set_option maxHeartbeats 4000000
/-! own words, twelfth part: dicts whose keys are truth values; setdefault -/
namespace AT
open PySem PySem.Spec PyProof.Rows L2
/-- a dict whose keys are truth values -/
def dB (P : Program) (w : World) (a : Addr) (kvs : List (Bool × V)) : HO := .ext fun h => kvs.length ≤ sizeLine ∧ (a == sysModules) = false ∧ ∃ vs, KV kvs vs ∧ h.DictOf (PpSet.boolK P w) a vs
section
variable {P : Program} {w : World} {H : Hp} {h : Heap} {a : Addr} {kvs : List (Bool × V)}
theorem dB_ok {vs : List (Bool × Value)} (z : kvs.length ≤ sizeLine) (hd : (a == sysModules) = false) (rel : KV kvs vs) (dd : h.DictOf (PpSet.boolK P w) a vs) : ObjOk P w H h a (dB P w a kvs) := by
  have he : ∃ q, h.get? a = some q := let ⟨q, _, _, hq, _⟩ := dd; ⟨q, hq⟩
  exact ⟨⟨z, hd, vs, rel, dd⟩, he, fun h1 h2 x k => by
    obtain ⟨z, y, vs, r, ob, es, ep, e, c⟩ := x
    exact ⟨z, y, vs, r, ob, es, ep, k _ e, c⟩⟩
theorem dB_rd (ok : HOk P w H h) (e : Rd H a (dB P w a kvs)) : kvs.length ≤ sizeLine ∧ (a == sysModules) = false ∧ ∃ vs, KV kvs vs ∧ h.DictOf (PpSet.boolK P w) a vs :=
  (show ObjOk P w H h a (dB P w a kvs) from rd_of ok e).1
theorem dB_of (ok : HOk P w H h) (e : H a = some (dB P w a kvs)) : kvs.length ≤ sizeLine ∧ (a == sysModules) = false ∧ ∃ vs, KV kvs vs ∧ h.DictOf (PpSet.boolK P w) a vs := dB_rd ok (.inl e)
theorem bl_is {k : Bool} {u : Value} (r : RelV (.bl k) u) : (PpSet.boolK P w).is k u = true := by
  obtain rfl : u = Value.bool k := r
  exact PpSet.boolK_is P w k
end
section
variable {X : Cx} {pins : List (Addr × Obj)} {σ : L2.St} {H : Hp} {s : Shared} {a : Addr} {u r : Value} {d : V} {k : Bool} {A : Around} {E : Value → Shared → Prop}
theorem d_setdB {kvs : List (Bool × V)} {Q : Value → Shared → Prop} (I : Inv X pins σ H s) (e : H a = some (dB X.prog X.w a kvs)) (ry : RelV (.bl k) u) (rd : RelV d r) (hl : kvs.length < sizeLine)
    (h1 : ∀ v, valV kvs k = some v → ∀ (w' : Value) (s' : Shared), Inv X pins σ H s' → RelV v w' → Q w' s') (h2 : valV kvs k = none → ∀ (w' : Value) (s' : Shared), Inv X pins σ (upd H a (dB X.prog X.w a (putK kvs k d))) s' → RelV d w' → Q w' s') :
    wpAny (model X.prog X.w) A (call (.builtin "dict.setdefault") [.ref a, u, r]) Q E s := by
  obtain ⟨z, hd, vs, rel, dd⟩ := dB_of I.hok e
  have hz : vs.length ≤ sizeLine := by
    rw [← rel.length]
    exact z
  refine call_meetsIn PySem.F.slot_dict_setdefault dd.typeIs PySem.F.entry_dict_setdefault (PySem.F.args_dict_setdefault_3 _ _ _) (kt_meets_setdefault (PpSet.boolK X.prog X.w) a (bl_is ry) hd r) ⟨vs, dd, hz, fun v hv => ?_, fun hn h' dd' hs => ?_⟩
  · have q := rel.val k
    rw [hv] at q
    cases q0 : valV kvs k with
    | none =>
      rw [q0] at q
      exact (show False from q).elim
    | some v0 =>
      rw [q0] at q
      exact h1 v0 q0 _ _ (I.tok _) q
  · have q := rel.val k
    rw [hn] at q
    cases q0 : valV kvs k with
    | some v0 =>
      rw [q0] at q
      exact (show False from q).elim
    | none =>
      have hl2 : (putK kvs k d).length ≤ sizeLine := by
        have := length_putK kvs k d
        omega
      have he : ∃ q, h'.get? a = some q := let ⟨q, _, _, hq, _⟩ := dd'; ⟨q, hq⟩
      exact h2 q0 _ _ (d_write (t' := s.toks + 1) I (by rw [e]; exact True.intro) hs he (dB_ok hl2 hd (rel.put k rd) dd')) rd
end
def tDNewB (P : Program) (w : World) : TE := fun _ H Q => ∀ p, H p = none → Q (.ref p) (upd H p (dB P w p []))
def tDSetdB (P : Program) (w : World) (td ty tx : TE) : TE := fun σ H Q => td σ H fun x H1 => (∃ a kvs, x = .ref a ∧ H1 a = some (dB P w a kvs)) ∧ ty σ H1 fun y H2 => tx σ H2 fun z H3 => ∃ (a : Addr) (kvs : List (Bool × V)) (k : Bool), x = .ref a ∧ H3 a = some (dB P w a kvs) ∧ y = .bl k ∧ kvs.length < sizeLine ∧
  (∀ v, valV kvs k = some v → Q v H3) ∧ (valV kvs k = none → Q z (upd H3 a (dB P w a (putK kvs k z))))
def tDGetB (P : Program) (w : World) (td ty : TE) : TE := fun σ H Q => td σ H fun x H1 => ty σ H1 fun y H2 => ∃ (a : Addr) (kvs : List (Bool × V)) (k : Bool) (v : V), x = .ref a ∧ Rd H2 a (dB P w a kvs) ∧ y = .bl k ∧ valV kvs k = some v ∧ Q v H2
section
variable {X : Cx} {o e f i : Expr} {td ty tx : TE} {apos cpos pos : Pos} (P : Program) (w : World) (hP : X.prog = P := by rfl) (hw : X.w = w := by rfl)
include hP hw
theorem pe_dnewB : PE X (.Dict [] [] pos) (tDNewB P w) := by
  subst hP hw
  exact ⟨fun pins s σ H Q I h =>
    wpAny_Dict_empty ⟨.ref s.heap.objs.size, _, I.laid (a := s.heap.objs.size) (o := dB X.prog X.w s.heap.objs.size []) (t' := s.toks) (fun _ _ q => Heap.get?_push_of_some _ q) (Nat.le_refl _)
      (dB_ok (Nat.zero_le _) (beq_eq_false_iff_ne.mpr (Ne.symm (Nat.ne_of_lt I.big))) .nil (Heap.DictOf.new s.heap)), rfl, h _ (I.hok.fresh (Nat.le_refl _))⟩⟩
theorem pe_dsetdB (ho : PE X o td) (he : PE X e ty) (hf : PE X f tx) (m : M2 X o "setdefault" apos e f cpos) : PE X (.Call (.Attribute o "setdefault" apos) [e, f] [] cpos) (tDSetdB P w td ty tx) := by
  subst hP hw
  refine ⟨fun pins s σ H Q I h => ?_⟩
  refine wpAny_Call_method m.base m.few m.line PySem.F.plainAttrs_dict PySem.F.slot_dict_setdefault PySem.F.type_dict_setdefault (thn (ho.run pins s σ H _ I h) fun u s1 ⟨x, H1, I1, rx, ⟨a, kvs0, ex, ea0⟩, q1⟩ => ?_)
  subst ex
  obtain rfl : u = Value.ref a := rx
  obtain ⟨_, _, vs, _, dd⟩ := dB_of I1.hok ea0
  refine ⟨dd.typeIs, dd.mapOf.noDict, ?_⟩
  rw [m.trees]
  refine Calls.callWith_builtin rfl (Calls.evalArgs_plain (Calls.spliced_cons (thn (he.run pins s1 σ H1 _ I1 q1) fun iv s2 ⟨y, H2, I2, ry, q2⟩ =>
    Calls.spliced_cons (thn (hf.run pins s2 σ H2 _ I2 q2) fun fv s3 ⟨z, H3, I3, rz, a', kvs, k, ex2, ea, ey, hl, q3, q4⟩ => Calls.spliced_nil ?_))))
  cases ex2
  subst ey
  exact d_setdB I3 ea ry rz hl (fun v hv w' s4 I4 rw' => ⟨v, _, I4, rw', q3 v hv⟩) fun hn w' s4 I4 rw' => ⟨z, _, I4, rw', q4 hn⟩
theorem pe_dgetB (ho : PE X o td) (hi : PE X i ty) (hs : NoSl i) : PE X (.Subscript o i pos) (tDGetB P w td ty) := by
  subst hP hw
  refine ⟨fun pins s σ H Q I h => ?_⟩
  refine subD_of PySem.F.slot_dict_getitem.lookup hs (thn (ho.run pins s σ H _ I h) fun u s1 ⟨x, H1, I1, rx, q1⟩ => thn (hi.run pins s1 σ H1 _ I1 q1) fun iv s2 ⟨y, H2, I2, ry, a, kvs, k, v, ex, g, ey, hv, q2⟩ => ?_)
  subst ex ey
  obtain rfl : u = Value.ref a := rx
  obtain ⟨z, hd, vs, rel, dd⟩ := dB_rd I2.hok g
  obtain ⟨w', hw, rw'⟩ := RelO.some_of (v := v) (o := valueAt vs k) (by rw [← hv]; exact rel.val k)
  exact ⟨dd.typeIs, wpAny_getItem_of (bl_is ry) dd.mapOf hw ⟨v, H2, I2.tok _, rw', q2⟩⟩
end
/-! the keys of a locked dict -/
section
variable {X : Cx} {pins : List (Addr × Obj)} {σ : L2.St} {H : Hp} {s : Shared} {d : Addr} {o : Obj}
theorem frzB {kvs : List (Bool × V)} (I : Inv X pins σ H s) (h : H d = some (.frz o (dB X.prog X.w d kvs))) :
    (d == sysModules) = false ∧ s.heap.get? d = some o ∧ o.ExactDict ∧ ∃ (es : Array DictEntry) (ep : Nat) (vs : List (Bool × Value)), o.data = .dict es ep ∧ es.size = kvs.length ∧ KV kvs vs ∧ s.heap.DictAt (PpSet.boolK X.prog X.w) d vs ep := by
  obtain ⟨hd, ⟨z, hs, vs, kv, o', es, ep, ho, hx, hdt, r⟩, _⟩ := I.hok d _ h
  rw [hd] at ho
  cases ho
  refine ⟨hs, hd, hx, es, ep, vs, hdt, ?_, kv, o, es, hd, hx, hdt, r⟩
  have l1 := r.2.1.length
  have l2 : kvs.length = vs.length := Paired.length kv
  rw [Array.length_toList] at l1
  omega
end
def Itb (P : Program) (w : World) (d : Addr) (o : Obj) (kvs : List (Bool × V)) : It :=
  ⟨fun i H => H d = some (.frz o (dB P w d kvs)) ∧ i < kvs.length, fun i H x H' => H' = H ∧ ∃ k v, kvs[i]? = some (k, v) ∧ x = .bl k, fun i H => H d = some (.frz o (dB P w d kvs)) ∧ kvs.length ≤ i⟩
theorem kvB_get {kvs : List (Bool × V)} {vs : List (Bool × Value)} (r : KV kvs vs) {i : Nat} {k : Bool} {v : V} (h : kvs[i]? = some (k, v)) : ∃ u, vs[i]? = some (k, u) ∧ RelV v u := by
  unfold KV at r
  induction r generalizing i with
  | nil => simp at h
  | @cons p q ps qs h1 t ih =>
    cases i with
    | zero =>
      simp only [List.getElem?_cons_zero, Option.some.injEq] at h
      subst h
      obtain ⟨h1, h2⟩ := h1
      exact ⟨q.2, by simp only [List.getElem?_cons_zero, Option.some.injEq]; exact Prod.ext h1.symm rfl, h2⟩
    | succ i =>
      simp only [List.getElem?_cons_succ] at h ⊢
      exact ih h
section
variable {P : Program} {w : World} {K : PySem.W.Frag} {tg : Expr} {d : Addr} {o : Obj} {es : Array DictEntry} {ep : Nat}
theorem turn_keysB {kvs : List (Bool × V)} (it : Addr) (hod : o.data = .dict es ep) : Turn P w K tg (Itb P w d o kvs) [it] it (fun i h => h.IsKeyIter it d i kvs.length ep) where
  mem := by simp
  obj := fun i h st b hb => by
    have e : b = it := by simpa using hb
    subst e
    obtain ⟨oi, e, c, dd⟩ := st
    exact ⟨oi, e, fun v z => by rw [dd] at z; cases z⟩
  keep := fun i h h' st k => st.at fun oi e => k it (by simp) oi e
  item := by
    intro X hP hw hK hc i pins s σ H E I hf st hg
    subst hP hw hK
    obtain ⟨hd, hi⟩ := hg
    obtain ⟨f0, f1, f2, f3, f4, f5⟩ := hf it (by simp)
    obtain ⟨hs, hgd, hx, es', ep', vs, hdt, hsz, kv, hm⟩ := frzB I hd
    obtain ⟨rfl, rfl⟩ := dict_ep hod hdt
    obtain ⟨⟨k, v⟩, hkv⟩ : ∃ p, kvs[i]? = some p := ⟨kvs[i], List.getElem?_eq_getElem hi⟩
    obtain ⟨u, hu, ru⟩ := kvB_get kv hkv
    have hl : kvs.length = vs.length := Paired.length kv
    rw [hl] at st
    refine wpAny_pyNext_dict_item st hm hu fun key h' hkey st' sb => ?_
    have I1 : Inv X pins σ H { s with heap := h' } := I.turned (t' := s.toks) (fun b ob hb e => (sb.2 b hb).trans e) f0 f1 f3 f4 f5
    obtain ⟨oi, e, c, dd⟩ := id st'
    refine ⟨key, rfl, go_of (s := { s with heap := h' }) e c dd (by decide) ⟨.bl k, H, I1, PpSet.isB_shape hkey, ⟨rfl, k, v, hkv, rfl⟩, ?_, fun b hb => (hf b hb).1⟩⟩
    show h'.IsKeyIter it d (i + 1) kvs.length _
    rw [hl]
    exact st'
  done := by
    intro X hP hw hK hc i pins s σ H E I hf st hg
    subst hP hw hK
    obtain ⟨hd, hi⟩ := hg
    obtain ⟨f0, f1, f2, f3, f4, f5⟩ := hf it (by simp)
    obtain ⟨hs, hgd, hx, es', ep', vs, hdt, hsz, kv, hm⟩ := frzB I hd
    obtain ⟨rfl, rfl⟩ := dict_ep hod hdt
    exact next_key_end (I.ok.hd hc) st hgd hdt hsz hi fun h' eb => ⟨rfl, I.turned (t' := s.toks) (fun b ob hb e => eb b ob hb e) f0 f1 f3 f4 f5⟩
  self := fun A i s Q E st h => wpAny_pyIter_keyiter st h
end
def iKeysB (P : Program) (w : World) (td : TE) : TI := fun σ H R => td σ H fun x H1 => ∃ d o kvs, x = .ref d ∧ H1 d = some (.frz o (dB P w d kvs)) ∧ R (Itb P w d o kvs) H1
theorem pi_keysB {X : Cx} {tg e : Expr} {td : TE} (P : Program) (w : World) (hP : X.prog = P) (hw : X.w = w) (he : PE X e td) : PI X tg e (iKeysB P w td) := by
  subst hP hw
  refine ⟨fun pins s σ H R I h => ?_⟩
  refine thn (he.run pins s σ H _ I h) fun u s1 ⟨x, H1, I1, rx, d, o, kvs, ex, hd, q⟩ => ?_
  subst ex
  obtain rfl : u = Value.ref d := rx
  obtain ⟨hs, hgd, hx, es, ep, vs, hdt, hsz, kv, hm⟩ := frzB I1 hd
  refine iter_keys hs hgd hx hdt (pi_one (tk := s1.toks) I1 _ (turn_keysB _ hdt) ⟨_, Heap.get?_push_size _ rfl, rfl, ?_⟩ q)
  rw [hsz] <;> rfl
theorem walk_keysB {P : Program} {w : World} {d : Addr} {o : Obj} {kvs : List (Bool × V)} : Walk (Itb P w d o kvs) kvs.length (fun H => H d = some (.frz o (dB P w d kvs))) (fun i H x H' => H' = H ∧ ∃ k v, kvs[i]? = some (k, v) ∧ x = .bl k) :=
  ⟨fun _ _ hi q => ⟨q, hi⟩, fun _ q => ⟨q, Nat.le_refl _⟩, fun _ _ _ _ _ _ y => y⟩
/-! reading -/
section
variable {K : PySem.W.Frag} {σ : L2.St} {H : Hp} {Q : VK} {td ty tx : TE} {P : Program} {w : World}
theorem rd_dsetdB (h : td σ H fun x H1 => (∃ a kvs, x = .ref a ∧ H1 a = some (dB P w a kvs)) ∧ ty σ H1 fun y H2 => tx σ H2 fun z H3 => ∃ (a : Addr) (kvs : List (Bool × V)) (k : Bool), x = .ref a ∧ H3 a = some (dB P w a kvs) ∧ y = .bl k ∧ kvs.length < sizeLine ∧
  (∀ v, valV kvs k = some v → Q v H3) ∧ (valV kvs k = none → Q z (upd H3 a (dB P w a (putK kvs k z))))) : tDSetdB P w td ty tx σ H Q := h
theorem rd_dgetB (h : td σ H fun x H1 => ty σ H1 fun y H2 => ∃ (a : Addr) (kvs : List (Bool × V)) (k : Bool) (v : V), x = .ref a ∧ Rd H2 a (dB P w a kvs) ∧ y = .bl k ∧ valV kvs k = some v ∧ Q v H2) : tDGetB P w td ty σ H Q := h
theorem rd_dnB (h : ∀ p, H p = none → Q (.ref p) (upd H p (dB P w p []))) : tDNewB P w σ H Q := h
end
end AT

set_option Elab.async false
set_option linter.all false
set_option maxRecDepth 100000
set_option maxHeartbeats 4000000
/-! own words, thirteenth part: a tuple, several times or once; sorted ints; list of a dict -/
namespace AT
open PySem PySem.Spec PyProof.Rows L2
theorem tuple_mul1 (l : Addr) (items : Array Value) (n : Nat) (dd : Option Addr) (sl : Array (Option Value)) (u : Tok) (c1 : items.isEmpty = false) :
    Meets (Builtin.«tuple.__mul__» ⟨[.ref l, .int 1 u], []⟩) (fun _ R s => s.heap.get? l = some { cls := .type "tuple", dict := dd, data := .seq items n, slots := sl } ∧ R (.ok (.ret (Value.ref l))) s) :=
  .of_wp fun prog w A R s h => by
    obtain ⟨hp, g, d, tk, os⟩ := s
    obtain ⟨hl, h⟩ := h
    have f1 := AutoSeq1.idx_int
    have c0 : (decide ((1 : Int) < -(2 ^ 63)) || decide ((1 : Int) ≥ 2 ^ 63)) = false := by decide
    have c2 : (items.isEmpty || (1 : Int) == 1) = true := by rw [c1]; rfl
    wp_walk using wpAny_loadPart' hl
    exact ⟨_, rfl, h⟩
/-- a tuple, once -/
def rRepT1 (K : PySem.W.Frag) : R2 := fun x y H Q => ∃ l xs, x = .ref l ∧ y = .int 1 ∧ SqT K H l xs ∧ xs ≠ [] ∧ Q (.ref l) H
section
variable {X : Cx}
theorem op_repT1 : OpR X (binaryOp .Mult) (rRepT1 X.K) := by
  intro pins s σ H x y v u Q I rx ry h
  obtain ⟨l, xs, rfl, rfl, hT, hne, q⟩ := h
  cases rx
  obtain ⟨t, rfl⟩ := ry
  obtain ⟨its, r, ⟨⟨cls, dd, data, sl⟩, ho, hc, n, hd⟩, hs⟩ := I.tuple hT
  simp only at hc hd
  subst hc hd
  have hle : its.length = xs.length := r.length.symm
  have hn : its ≠ [] := fun e => hne (by
    rw [e] at hle
    exact List.eq_nil_of_length_eq_zero hle.symm)
  have hi : its.toArray.isEmpty = false := by
    cases its with
    | nil => exact absurd rfl hn
    | cons a b => rfl
  refine wpAny_binaryOp_repeat_ref (T := "tuple") (U := "int") (by decide) ⟨_, ho, rfl⟩ (fun s' => typeIs_int s' 1 t) noFill_tuple_mul F.fills_int_mul F.slot_int_rmul repeat_tuple F.slot_int_index.lookup
    (call_meets F.slot_int_rmul (typeIs_int s 1 t) F.entry_int_rmul (F.args_int_rmul_2 _ _) (int_rmul_tuple 1 t l its.toArray n dd sl)
      ⟨ho, rfl, ⟨_, ho, rfl⟩, call_meets F.slot_tuple_mul ⟨_, ho, rfl⟩ F.entry_tuple_mul (F.args_tuple_mul_2 _ _) (tuple_mul1 l its.toArray n dd sl t hi) ⟨ho, ?_⟩⟩)
  exact ⟨.ref l, H, I, rfl, q⟩
end
/-- a tuple, several times or once -/
def oMulT (K : PySem.W.Frag) : R2 := fun x y H Q => rRepT K x y H Q ∨ rRepT1 K x y H Q
section
variable {X : Cx} (K : PySem.W.Frag) (hK : X.K = K := by rfl)
include hK
theorem kMulT : OpR X (binaryOp .Mult) (oMulT K) := hK ▸ OpR.or op_repT op_repT1
theorem kIndex : MtR X "list.index" (rIndex K) := hK ▸ mt_index
theorem kIsi : CallR X (.builtin "isinstance") (rIsi K) := hK ▸ call_isi
theorem kSortI : CallR X (.builtin "sorted") (rSortedI K) := hK ▸ cr_sortedI
end
section
variable {K : PySem.W.Frag} {H : Hp} {Q : VK}
theorem rd_isiL {a : Addr} {xs : List V} (h : H a = some (.lst xs)) (q : Q (.bl true) H) : rIsi K [.ref a, .ty "list"] H Q := ⟨_, _, _, _, true, rfl, .ty _, .base (.lst h), kit_ty (by decide +kernel), q⟩
theorem rd_lidx {a : Addr} {l : List Nat} {x : Nat} (h : SqL K H a (l.map fun n : Nat => V.int (n : Int))) (hx : x ∈ l) (q : Q (.int ((l.idxOf x : Nat) : Int)) H) : rIndex K (.ref a) [.int (x : Int)] H Q := by
  have hlt := List.idxOf_lt_length_iff.mpr hx
  have hg : l[l.idxOf x]? = some x := by rw [List.getElem?_eq_getElem hlt, List.getElem_idxOf hlt]
  refine ⟨a, _, .int (x : Int), l.idxOf x, .int (x : Int), rfl, rfl, h, rfl, List.all_eq_true.mpr fun y hy => ?_, by rw [List.getElem?_map, hg]; rfl, beq_self_eq_true _, fun m z' hm hz => ?_, q⟩
  · obtain ⟨n, _, rfl⟩ := List.mem_map.mp hy
    rfl
  · rw [List.getElem?_map] at hz
    obtain ⟨n, hn, rfl⟩ := Option.map_eq_some_iff.mp hz
    show (((n : Nat) : Int) == ((x : Nat) : Int)) = false
    refine beq_eq_false_iff_ne.mpr fun e => ?_
    have e : n = x := by omega
    have := List.not_of_lt_findIdx (p := (· == x)) (xs := l) hm
    obtain ⟨h1, h2⟩ := List.getElem?_eq_some_iff.mp hn
    rw [h2, e] at this
    simp at this
/-- (v,) * k -/
theorem rd_tupk {l : Addr} {v : V} {k : Nat} (h : H l = some (.tup [v])) (k0 : 0 < k) (k1 : k ≤ 1000) (q : ∀ p H', Ex H H' → H' p = some (.tup (List.replicate k v)) → (H p = none ∨ p = l) → Q (.ref p) H') : oMulT K (.ref l) (.int (k : Int)) H Q := by
  rcases Nat.lt_or_ge 1 k with z | z
  · refine .inl ⟨l, (k : Int), [v], rfl, rfl, Evl.st_of h, (fun z => nomatch z), by omega, by omega, by show 1 ≤ 1000; decide, fun p hp => ?_⟩
    have e : (List.replicate ((k : Int)).toNat [v]).flatten = List.replicate k v := by
      rw [Int.toNat_natCast, List.flatten_replicate_singleton]
    rw [e]
    exact q p _ (Evl.Ex.new hp) upd_same (.inl hp)
  · obtain rfl : k = 1 := by omega
    exact .inr ⟨l, [v], rfl, rfl, Evl.st_of h, (fun z => nomatch z), q l H (Evl.Ex.refl H) h (.inr rfl)⟩
theorem rd_catT {l m : Addr} {xs : List V} {v : V} (h1 : H l = some (.tup xs)) (h2 : H m = some (.tup [v])) (hx : xs ≠ []) (c : xs.length + 1 ≤ sizeLine) (h : ∀ p, H p = none → Q (.ref p) (upd H p (.tup (xs ++ [v])))) : oAdd K (.ref l) (.ref m) H Q :=
  .inr (.inr (.inr ⟨l, m, xs, [v], rfl, rfl, Evl.st_of h1, Evl.st_of h2, hx, c, fun z => (nomatch z), fun _ => h⟩))
end
end AT

set_option Elab.async false
set_option linter.all false
set_option maxRecDepth 100000
set_option maxHeartbeats 4000000
/-! own words, fourteenth part: dicts whose keys are tuples that may hold tuples -/
namespace AT
open PySem PySem.Spec PyProof.Rows L2
mutual
/-- v is this key, by what is tracked -/
inductive NV : Hp → NestedKey → V → Prop
  | non {H : Hp} : NV H .none .non
  | int {H : Hp} (i : Int) : NV H (.num i) (.int i)
  | str {H : Hp} (x : Str) : NV H (.text x) (.str x)
  | tup {H : Hp} {b : Addr} {vs : List V} {ks : List NestedKey} : H b = some (.tup vs) → NVs H ks vs → NV H (.tup ks) (.ref b)
inductive NVs : Hp → List NestedKey → List V → Prop
  | nil {H : Hp} : NVs H [] []
  | cons {H : Hp} {k : NestedKey} {v : V} {ks : List NestedKey} {vs : List V} : NV H k v → NVs H ks vs → NVs H (k :: ks) (v :: vs)
end
mutual
theorem NV.ex {H H' : Hp} (e : ∀ b xs, H b = some (.tup xs) → H' b = some (.tup xs)) {k : NestedKey} {v : V} : NV H k v → NV H' k v
  | .non => .non
  | .int i => .int i
  | .str x => .str x
  | .tup h r => .tup (e _ _ h) (NVs.ex e r)
theorem NVs.ex {H H' : Hp} (e : ∀ b xs, H b = some (.tup xs) → H' b = some (.tup xs)) {ks : List NestedKey} {vs : List V} : NVs H ks vs → NVs H' ks vs
  | .nil => .nil
  | .cons h r => .cons (NV.ex e h) (NVs.ex e r)
end
mutual
theorem NV.is {P : Program} {w : World} {H : Hp} {h : Heap} (ok : HOk P w H h) {k : NestedKey} {v : V} {u : Value} : NV H k v → RelV v u → NestedIs h k u
  | .non, r => by
    obtain rfl : u = Value.none := r
    exact .none
  | .int i, r => by
    obtain ⟨t, rfl⟩ : ∃ t, u = Value.int i t := r
    exact .int i t
  | .str x, r => by
    obtain ⟨t, rfl⟩ : ∃ t, u = Value.str x t := r
    exact .text x t
  | .tup (b := b) (vs := vs) hb q, r => by
    obtain rfl : u = Value.ref b := r
    obtain ⟨_, its, rel, o, h1, h2, n, h3⟩ := (show ObjOk P w H h b (.tup vs) from ok b _ hb)
    exact .tup h1 h2 h3 (by rw [List.toList_toArray]; exact NVs.is ok q rel)
theorem NVs.is {P : Program} {w : World} {H : Hp} {h : Heap} (ok : HOk P w H h) {ks : List NestedKey} {vs : List V} {us : List Value} : NVs H ks vs → Vals vs us → NestedAll h ks us
  | .nil, r => by
    cases r
    exact .nil
  | .cons q qs, r => by
    cases r with
    | cons r1 r2 => exact .cons (NV.is ok q r1) (NVs.is ok qs r2)
end
section
variable {X : Cx}
theorem PC.or {op : CmpOp} {a b : Expr} {t t' : TE} (h : PC X op a b t) (h' : PC X op a b t') : PC X op a b fun σ H Q => t σ H Q ∨ t' σ H Q :=
  ⟨fun pins s σ H Q I q => q.elim (h.run pins s σ H Q I) (h'.run pins s σ H Q I)⟩
theorem PS.or {st : Stmt} {t t' : TS} (h : PS X st t) (h' : PS X st t') : PS X st fun D σ H => t D σ H ∨ t' D σ H :=
  ⟨fun pins s σ H D I q => q.elim (h.run pins s σ H D I) (h'.run pins s σ H D I)⟩
end
end AT

set_option Elab.async false
set_option linter.all false
set_option maxRecDepth 100000
set_option maxHeartbeats 4000000
/-! own words, fifteenth part: dicts whose keys are None, numbers and tuples together -/
namespace AT
open PySem PySem.Spec PyProof.Rows L2
abbrev KVV := List (NestedKey × Value × Value)
def entV (w : World) (x : NestedKey × Value × Value) : DictEntry := { hash := NestedKey.hash w x.1, key := x.2.1, val := x.2.2 }
/-- no text: the finding of texts goes another way -/
def NoStr (v : Value) : Prop := ∀ x t, v ≠ .str x t
structure KeyVl (h : Heap) (k : NestedKey) (v : Value) : Prop where
  is : NestedIs h k v
  d : k.depth ≤ 8
  n : NoStr v
def DictV (w : World) (h : Heap) (d : Addr) (xs : KVV) : Prop := ∃ o es ep, h.get? d = some o ∧ o.ExactDict ∧ o.data = .dict es ep ∧ es.toList = xs.map (entV w) ∧ (xs.map (·.1)).Nodup
section
variable {P : Program} {w : World} {A : Around} {E : Value → Shared → Prop} {s : Shared}
theorem entV_at {es : Array DictEntry} {xs : KVV} (he : es.toList = xs.map (entV w)) (j : Nat) : es[j]? = xs[j]?.map (entV w) := by
  rw [← Array.getElem?_toList, he, List.getElem?_map]
theorem idV_unique {xs : KVV} (hn : (xs.map (·.1)).Nodup) {i j : Nat} {k : NestedKey} {p q : Value × Value} (hi : xs[i]? = some (k, p)) (hj : xs[j]? = some (k, q)) : i = j := by
  have l1 := (List.getElem?_eq_some_iff.mp hi).1
  refine (List.getElem?_inj (l := xs.map (·.1)) (by rw [List.length_map]; exact l1) hn).mp ?_
  rw [List.getElem?_map, List.getElem?_map, hi, hj]
  rfl
theorem eqV {x y : NestedKey} {a b : Value} {Q : Bool → Shared → Prop} (hx : KeyVl s.heap x a) (hy : KeyVl s.heap y b) (hu : A.units + 8 < cLine) (q : Q (decide (x = y)) s) : wpAny (model P w) A (eqBool a b) Q E s := by
  have h1 := hx.d
  have h2 := hy.d
  exact eqAt_key x y A s _ _ hx.is hy.is (by omega) _ _ _ _ (by rw [← NestedKey.decide_eq]; exact q)
theorem tellV {k : NestedKey} {key : Value} {stored : List Value} {Q : Bool → Shared → Prop} (hk : KeyVl s.heap k key) (hst : ∀ v ∈ stored, ∃ k', KeyVl s.heap k' v) (q : Q false s) : wpAny (model P w) A (tableMayTell key stored) Q E s := by
  unfold tableMayTell
  split
  · exact wpAny_pure q
  · refine wpAny_bind (quiet_key k key 8 s hk.is hk.d A E _ ?_)
    simp only [Bool.not_true, Bool.false_eq_true, if_false]
    refine wpAny_bind ?_
    refine wpAny_forIn_list _ (fun rest r s' => s' = s ∧ r = (none, ()) ∧ ∀ v ∈ rest, ∃ k', KeyVl s.heap k' v) _ ?_ ?_ _ _ ⟨rfl, rfl, hst⟩
    · rintro x rest r s' ⟨rfl, rfl, hr⟩
      obtain ⟨k', hb⟩ := hr x List.mem_cons_self
      refine wpAny_bind (quiet_key k' x 8 s' hb.is hb.d A E _ ?_)
      simp only [Bool.not_true, Bool.false_eq_true, if_false]
      exact wpAny_pure ⟨rfl, rfl, fun v hv => hr v (List.mem_cons_of_mem _ hv)⟩
    · rintro r s' ⟨rfl, rfl, _⟩
      exact wpAny_pure q
/-- found so far -/
def FndV (xs : KVV) (k : NestedKey) (i : Nat) (hit : Option Nat) : Prop := (hit = none ∧ ∀ (j : Nat) p, j < i → xs[j]? ≠ some (k, p)) ∨ ∃ (j : Nat) (p : Value × Value), hit = some j ∧ j < i ∧ xs[j]? = some (k, p)
section
variable {d : Addr} {o : Obj} {es : Array DictEntry} {ep : Nat} {xs : KVV} {k : NestedKey} {key : Value} {Q : Option Nat → Shared → Prop}
abbrev plV (w : World) (es : Array DictEntry) (k : NestedKey) (i : Nat) : List Nat := (List.range' i (es.size - i)).filter fun i => (es[i]?.map (·.hash)) == some (NestedKey.hash w k)
theorem hasV (he : es.toList = xs.map (entV w)) {j : Nat} {p : Value × Value} (hj : xs[j]? = some (k, p)) : ((es[j]?.map (·.hash)) == some (NestedKey.hash w k)) = true := by
  rw [entV_at he j, hj]
  simp [entV]
/-- the next place of this hash -/
theorem nextV (he : es.toList = xs.map (entV w)) {i x : Nat} {rest : List Nat} {hit : Option Nat} (hr : x :: rest = plV w es k i) (hi : i ≤ es.size) (F : FndV xs k i hit) :
    x < es.size ∧ rest = plV w es k (x + 1) ∧ FndV xs k x hit ∧ ∃ k' u v, xs[x]? = some (k', u, v) ∧ es[x]? = some ⟨NestedKey.hash w k', u, v⟩ ∧ (k' ≠ k → FndV xs k (x + 1) hit) := by
  obtain ⟨hix, hxn, hpx, hskip, hrest⟩ := filter_range'_cons _ _ _ _ _ hr.symm
  have hlt : x < es.size := by omega
  have hsz : es.size = xs.length := by rw [← Array.length_toList, he, List.length_map]
  obtain ⟨⟨k', u, v⟩, hkv⟩ : ∃ y, xs[x]? = some y := ⟨xs[x]'(by rw [← hsz]; exact hlt), List.getElem?_eq_getElem _⟩
  have Fx : FndV xs k x hit := by
    rcases F with ⟨h0, hno⟩ | ⟨j, p, h1, hji, hj⟩
    · refine .inl ⟨h0, fun j p hjx hj => ?_⟩
      rcases Nat.lt_or_ge j i with h | h
      · exact hno j p h hj
      · have := hskip j h hjx
        rw [hasV he hj] at this
        cases this
    · exact .inr ⟨j, p, h1, by omega, hj⟩
  refine ⟨hlt, by rw [hrest]; show _ = List.filter _ _; congr 2; omega, Fx, k', u, v, hkv, by rw [entV_at he x, hkv]; rfl, fun ne => ?_⟩
  rcases Fx with ⟨h0, hno⟩ | ⟨j, p, h1, hjx, hj⟩
  · refine .inl ⟨h0, fun j p hjx hj => ?_⟩
    rcases Nat.lt_or_ge j x with h | h
    · exact hno j p h hj
    · obtain rfl : j = x := by omega
      rw [hkv] at hj
      exact ne (congrArg (fun z : NestedKey × Value × Value => z.1) (Option.some.inj hj))
  · exact .inr ⟨j, p, h1, by omega, hj⟩
theorem doneV (he : es.toList = xs.map (entV w)) {i : Nat} {hit : Option Nat} (hr : [] = plV w es k i) (F : FndV xs k i hit)
    (hnone : (∀ (j : Nat) p, xs[j]? ≠ some (k, p)) → Q none s) (hsome : ∀ (j : Nat) p, xs[j]? = some (k, p) → Q (some j) s) : Q hit s := by
  have hsz : es.size = xs.length := by rw [← Array.length_toList, he, List.length_map]
  rcases F with ⟨rfl, hno⟩ | ⟨j, p, rfl, _, hj⟩
  · refine hnone fun j p hj => ?_
    rcases Nat.lt_or_ge j i with h | h
    · exact hno j p h hj
    · have hl := (List.getElem?_eq_some_iff.mp hj).1
      have := List.filter_eq_nil_iff.mp hr.symm j (List.mem_range'_1.mpr ⟨h, by omega⟩)
      exact this (hasV he hj)
  · exact hsome j p hj
theorem walkV (hu : A.units + 8 < cLine) (hkey : KeyVl s.heap k key) (ho : s.heap.get? d = some o) (hd : o.data = .dict es ep) (he : es.toList = xs.map (entV w)) (his : ∀ x ∈ xs, KeyVl s.heap x.1 x.2.1) (hn : (xs.map (·.1)).Nodup)
    (hnone : (∀ (j : Nat) p, xs[j]? ≠ some (k, p)) → Q none s) (hsome : ∀ (j : Nat) p, xs[j]? = some (k, p) → Q (some j) s) :
    wpAny (model P w) A (dictWalkPlain d key (NestedKey.hash w k) es (placesWithHash es.size (fun i => es[i]?.map (·.hash)) (NestedKey.hash w k))) Q E s := by
  unfold dictWalkPlain
  refine wpAny_bind ?_
  refine wpAny_forIn_list _ (fun rest b s' => s' = s ∧ b = (none, ()) ∧ ∃ i, rest = plV w es k i ∧ i ≤ es.size ∧ FndV xs k i none) _ ?_ ?_ _ _
    ⟨rfl, rfl, 0, by rw [placesWithHash, List.range_eq_range', plV, Nat.sub_zero], Nat.zero_le _, .inl ⟨rfl, fun _ _ h => absurd h (Nat.not_lt_zero _)⟩⟩
  · rintro x rest b s' ⟨rfl, rfl, i, hr, hi, F⟩
    obtain ⟨hlt, hrest, Fx, k', u, v, hkv, hex, hstay⟩ := nextV he hr hi F
    have hib := his _ (List.mem_of_getElem? hkv)
    rw [hex]
    dsimp only
    by_cases hh : (NestedKey.hash w k' == NestedKey.hash w k) = true
    · rw [if_pos hh]
      refine wpAny_bind (wpAny_dictEpoch ho hd (wpAny_bind (eqV (x := k') (y := k) hib hkey hu (wpAny_bind (wpAny_dictEpoch ho hd ?_)))))
      show wpAny _ _ (if (ep != ep) = true then _ else _) _ E _
      rw [if_neg (by simp)]
      by_cases hkk : k' = k
      · rw [decide_eq_true hkk]
        subst hkk
        show wpAny _ _ (if true = true then _ else _) _ E _
        rw [if_pos rfl]
        exact wpAny_bind (wpAny_rule (wpAny_pure (wpAny_pure (hsome x _ hkv))))
      · rw [decide_eq_false hkk]
        show wpAny _ _ (if false = true then _ else _) _ E _
        rw [if_neg (by decide)]
        exact wpAny_bind (wpAny_rule (wpAny_pure ⟨rfl, rfl, x + 1, hrest, hlt, hstay hkk⟩))
    · rw [if_neg hh]
      refine wpAny_pure ⟨rfl, rfl, x + 1, hrest, hlt, hstay fun e => ?_⟩
      rw [e] at hh; simp at hh
  · rintro b s' ⟨rfl, rfl, i, hr, hi, F⟩
    exact wpAny_pure (doneV he hr F hnone hsome)
theorem wpIte {α : Type} {M : Model} {c : Prop} [Decidable c] {a b : Sem α} {Q : α → Shared → Prop} (h1 : c → wpAny M A a Q E s) (h2 : ¬ c → wpAny M A b Q E s) : wpAny M A (if c then a else b) Q E s := by
  by_cases h : c
  · rw [if_pos h]; exact h1 h
  · rw [if_neg h]; exact h2 h
theorem findV (hu : A.units + 8 < cLine) (hkey : KeyVl s.heap k key) (ho : s.heap.get? d = some o) (hd : o.data = .dict es ep) (he : es.toList = xs.map (entV w)) (his : ∀ x ∈ xs, KeyVl s.heap x.1 x.2.1) (hn : (xs.map (·.1)).Nodup)
    (hnone : (∀ (j : Nat) p, xs[j]? ≠ some (k, p)) → Q none s) (hsome : ∀ (j : Nat) p, xs[j]? = some (k, p) → Q (some j) s) :
    wpAny (model P w) A (dictFind d key (NestedKey.hash w k)) Q E s := by
  have hmem : ∀ e ∈ es, ∃ x ∈ xs, e = entV w x := by
    intro e hin
    have : e ∈ xs.map (entV w) := he ▸ Array.mem_toList_iff.mpr hin
    obtain ⟨x, hx, rfl⟩ := List.mem_map.mp this
    exact ⟨x, hx, rfl⟩
  have hany : ∀ a, key = .ref a → ¬ (es.any fun e => e.key == Value.ref a && e.hash != NestedKey.hash w k) = true := by
    rintro a rfl
    rw [← Array.any_toList, List.any_eq_true]
    rintro ⟨e, hin, hc⟩
    obtain ⟨x, hx, rfl⟩ := hmem e (Array.mem_toList_iff.mp hin)
    simp only [entV, Bool.and_eq_true, beq_iff_eq, bne_iff_ne, ne_eq] at hc
    obtain ⟨hxa, hne⟩ := hc
    have := (his x hx).is
    rw [hxa] at this
    exact hne (by rw [NestedIs.inj _ _ _ this hkey.is])
  have hst : ∀ v ∈ (placesWithHash es.size (fun i => es[i]?.map (·.hash)) (NestedKey.hash w k)).filterMap (fun i => es[i]?.map (·.key)), ∃ k', KeyVl s.heap k' v := by
    intro v hv
    obtain ⟨i, _, hi⟩ := List.mem_filterMap.mp hv
    cases hei : es[i]? with
    | none => rw [hei] at hi; cases hi
    | some e =>
      rw [hei] at hi
      obtain rfl : e.key = v := by simpa using hi
      obtain ⟨x, hx, rfl⟩ := hmem e (Array.mem_of_getElem? hei)
      exact ⟨x.1, his x hx⟩
  have hW := walkV (P := P) (E := E) (Q := Q) hu hkey ho hd he his hn hnone hsome
  by_cases hr : ∃ a, key = .ref a
  · obtain ⟨a, rfl⟩ := hr
    unfold dictFind
    try with_reducible refine wpAny_holding ?_
    refine wpAny_bind (wpAny_dictEntries ho hd ?_)
    dsimp only
    rw [if_neg (show ¬ ((Value.ref a :: (placesWithHash es.size (fun i => es[i]?.map (·.hash)) (NestedKey.hash w k)).filterMap (fun i => es[i]?.map (·.key))).all carriedByValue) = true by simp [carriedByValue])]
    rw [if_neg (hany a rfl)]
    clear hW
    by_cases hone : (((placesWithHash es.size (fun i => es[i]?.map (·.hash)) (NestedKey.hash w k)).filterMap (fun i => es[i]?.map (·.key))) == [Value.ref a]) = true <;>
    (first | rw [if_pos hone] | rw [if_neg hone]) <;> (first | refine wpAny_bind (wpAny_pure ?_) | refine wpAny_bind (tellV hkey hst ?_)) <;> (
    rw [if_neg (by simp)]
    refine wpAny_bind ?_
    refine wpAny_forIn_list _ (fun rest b s' => s' = s ∧ ∃ i hit, b = (none, hit) ∧ rest = plV w es k i ∧ i ≤ es.size ∧ FndV xs k i hit) _ ?_ ?_ _ _
      ⟨rfl, 0, none, rfl, by rw [placesWithHash, List.range_eq_range', plV, Nat.sub_zero], Nat.zero_le _, .inl ⟨rfl, fun _ _ h => absurd h (Nat.not_lt_zero _)⟩⟩
    · rintro x rest b s' ⟨rfl, i, hit, rfl, hr, hi, F⟩
      obtain ⟨hlt, hrest, Fx, k', u, v, hkv, hex, hstay⟩ := nextV he hr hi F
      have hib := his _ (List.mem_of_getElem? hkv)
      rw [hex]
      dsimp only
      by_cases hh : (NestedKey.hash w k' == NestedKey.hash w k) = true
      · rw [if_pos hh]
        refine wpAny_bind (wpAny_dictEpoch ho hd (wpAny_bind (eqV (x := k') (y := k) hib hkey hu (wpAny_bind (wpAny_dictEpoch ho hd ?_)))))
        show wpAny _ _ (if (ep != ep) = true then _ else _) _ E _
        rw [if_neg (by simp)]
        by_cases hkk : k' = k
        · rw [decide_eq_true hkk]
          subst hkk
          rcases Fx with ⟨rfl, _⟩ | ⟨j, p, _, hjx, hj⟩
          · first | rw [if_pos rfl] | skip
            simp only [Option.isSome_none, Bool.false_eq_true, if_false]
            first | refine wpAny_bind (wpAny_pure ?_) | skip
            refine wpAny_bind (wpAny_rule ?_)
            split
            · exact wpAny_pure (wpAny_pure (hsome x _ hkv))
            · exact wpAny_pure ⟨rfl, x + 1, some x, rfl, hrest, hlt, .inr ⟨x, _, rfl, Nat.lt_succ_self x, hkv⟩⟩
          · exact absurd (idV_unique hn hj hkv) (by omega)
        · rw [decide_eq_false hkk]
          simp only [Bool.false_eq_true, if_false]
          refine wpAny_bind (wpAny_rule ?_)
          first | rw [if_neg (by simp)] | skip
          first
            | exact wpAny_pure ⟨rfl, x + 1, hit, rfl, hrest, hlt, hstay hkk⟩
            | exact wpAny_bind (wpAny_pure (wpAny_pure ⟨rfl, x + 1, hit, rfl, hrest, hlt, hstay hkk⟩))
      · rw [if_neg hh]
        refine wpAny_pure ⟨rfl, x + 1, hit, rfl, hrest, hlt, hstay fun e => ?_⟩
        rw [e] at hh; simp at hh
    · rintro b s' ⟨rfl, i, hit, rfl, hr, hi, F⟩
      exact wpAny_pure (doneV he hr F hnone hsome))
  · by_cases hall : ((key :: (placesWithHash es.size (fun i => es[i]?.map (·.hash)) (NestedKey.hash w k)).filterMap (fun i => es[i]?.map (·.key))).all carriedByValue) = true
    · unfold dictFind
      try with_reducible refine wpAny_holding ?_
      refine wpAny_bind (wpAny_dictEntries ho hd ?_)
      cases key with
      | str x t => exact absurd rfl (hkey.n x t)
      | ref a => exact absurd ⟨a, rfl⟩ hr
      | _ =>
        dsimp only
        rw [if_pos hall]
        exact hW
    · clear hW
      unfold dictFind
      try with_reducible refine wpAny_holding ?_
      refine wpAny_bind (wpAny_dictEntries ho hd ?_)
      cases key with
      | str x t => exact absurd rfl (hkey.n x t)
      | ref a => exact absurd ⟨a, rfl⟩ hr
      | _ =>
        dsimp only
        rw [if_neg hall]
        refine wpIte (fun _ => wpAny_bind (wpAny_pure ?_)) (fun _ => wpAny_bind (tellV hkey hst ?_)) <;> (
    rw [if_neg (by simp)]
    refine wpAny_bind ?_
    refine wpAny_forIn_list _ (fun rest b s' => s' = s ∧ ∃ i hit, b = (none, hit) ∧ rest = plV w es k i ∧ i ≤ es.size ∧ FndV xs k i hit) _ ?_ ?_ _ _
      ⟨rfl, 0, none, rfl, by rw [placesWithHash, List.range_eq_range', plV, Nat.sub_zero], Nat.zero_le _, .inl ⟨rfl, fun _ _ h => absurd h (Nat.not_lt_zero _)⟩⟩
    · rintro x rest b s' ⟨rfl, i, hit, rfl, hr, hi, F⟩
      obtain ⟨hlt, hrest, Fx, k', u, v, hkv, hex, hstay⟩ := nextV he hr hi F
      have hib := his _ (List.mem_of_getElem? hkv)
      rw [hex]
      dsimp only
      by_cases hh : (NestedKey.hash w k' == NestedKey.hash w k) = true
      · rw [if_pos hh]
        refine wpAny_bind (wpAny_dictEpoch ho hd (wpAny_bind (eqV (x := k') (y := k) hib hkey hu (wpAny_bind (wpAny_dictEpoch ho hd ?_)))))
        show wpAny _ _ (if (ep != ep) = true then _ else _) _ E _
        rw [if_neg (by simp)]
        by_cases hkk : k' = k
        · rw [decide_eq_true hkk]
          subst hkk
          rcases Fx with ⟨rfl, _⟩ | ⟨j, p, _, hjx, hj⟩
          · first | rw [if_pos rfl] | skip
            simp only [Option.isSome_none, Bool.false_eq_true, if_false]
            first | refine wpAny_bind (wpAny_pure ?_) | skip
            refine wpAny_bind (wpAny_rule ?_)
            split
            · exact wpAny_pure (wpAny_pure (hsome x _ hkv))
            · exact wpAny_pure ⟨rfl, x + 1, some x, rfl, hrest, hlt, .inr ⟨x, _, rfl, Nat.lt_succ_self x, hkv⟩⟩
          · exact absurd (idV_unique hn hj hkv) (by omega)
        · rw [decide_eq_false hkk]
          simp only [Bool.false_eq_true, if_false]
          refine wpAny_bind (wpAny_rule ?_)
          first | rw [if_neg (by simp)] | skip
          first
            | exact wpAny_pure ⟨rfl, x + 1, hit, rfl, hrest, hlt, hstay hkk⟩
            | exact wpAny_bind (wpAny_pure (wpAny_pure ⟨rfl, x + 1, hit, rfl, hrest, hlt, hstay hkk⟩))
      · rw [if_neg hh]
        refine wpAny_pure ⟨rfl, x + 1, hit, rfl, hrest, hlt, hstay fun e => ?_⟩
        rw [e] at hh; simp at hh
    · rintro b s' ⟨rfl, i, hit, rfl, hr, hi, F⟩
      exact wpAny_pure (doneV he hr F hnone hsome))
end
end
section
variable {P : Program} {w : World} {A : Around} {E : Value → Shared → Prop} {s : Shared} {d : Addr} {xs : KVV} {k : NestedKey} {key : Value}
def atV (xs : KVV) (k : NestedKey) : Option (Value × Value) := (xs.find? fun x => decide (x.1 = k)).map (·.2)
theorem atV_none (h : ∀ (j : Nat) p, xs[j]? ≠ some (k, p)) : atV xs k = none := by
  have : (xs.find? fun x => decide (x.1 = k)) = none := by
    rw [List.find?_eq_none]
    intro x hx hk
    obtain ⟨j, hj⟩ := List.mem_iff_getElem?.mp hx
    exact h j x.2 (by rw [hj, ← of_decide_eq_true hk])
  rw [atV, this]; rfl
theorem atV_some (hn : (xs.map (·.1)).Nodup) {j : Nat} {p : Value × Value} (h : xs[j]? = some (k, p)) : atV xs k = some p := by
  obtain ⟨x, hx⟩ : ∃ x, (xs.find? fun x => decide (x.1 = k)) = some x := by
    cases e : xs.find? fun x => decide (x.1 = k) with
    | some x => exact ⟨x, rfl⟩
    | none => exact absurd (decide_eq_true rfl) (List.find?_eq_none.mp e _ (List.mem_of_getElem? h))
  have h0 := List.find?_some hx
  have h1 : x.1 = k := of_decide_eq_true h0
  obtain ⟨i, hi⟩ := List.mem_iff_getElem?.mp (List.mem_of_find?_eq_some hx)
  obtain ⟨x1, x2⟩ := x
  obtain rfl : x1 = k := h1
  have e := idV_unique hn hi h
  rw [e, h] at hi
  rw [atV, hx]
  exact congrArg (fun z : NestedKey × Value × Value => some z.2) (Option.some.inj hi).symm
theorem atV_out (h : atV xs k = none) : ∀ (j : Nat) p, xs[j]? ≠ some (k, p) := fun j p hj => by
  have h' : (xs.find? fun x => decide (x.1 = k)) = none := by
    cases e : xs.find? fun x => decide (x.1 = k) with
    | none => rfl
    | some x => rw [atV, e] at h; cases h
  exact List.find?_eq_none.mp h' _ (List.mem_of_getElem? hj) (decide_eq_true rfl)
theorem DictV.typeIs (hm : DictV w s.heap d xs) : s.TypeIs (.ref d) "dict" := let ⟨o, _, _, ho, hc, _⟩ := hm; ⟨o, ho, hc.1⟩
theorem getV_ {Q : Option Value → Shared → Prop} (hu : A.units + 8 < cLine) (hkey : KeyVl s.heap k key) (hm : DictV w s.heap d xs) (his : ∀ x ∈ xs, KeyVl s.heap x.1 x.2.1)
    (h : Q ((atV xs k).map (·.2)) { s with toks := s.toks + k.draws }) : wpAny (model P w) A (dictGet d key) Q E s := by
  obtain ⟨o, es, ep, ho, _, hd, he, hn⟩ := hm
  have hdp := hkey.d
  unfold dictGet
  try with_reducible refine wpAny_holding ?_
  refine wpAny_bind (pyHash_key k key A s _ hkey.is (by omega) (wpAny_bind (findV (s := { s with toks := s.toks + k.draws }) hu hkey ho hd he his hn ?_ ?_)))
  · intro hno
    rw [atV_none hno] at h
    exact wpAny_pure h
  · intro j p hj
    rw [atV_some hn hj] at h
    refine wpAny_bind (wpAny_dictEntries (s := { s with toks := s.toks + k.draws }) ho hd ?_)
    rw [entV_at he j, hj]
    exact wpAny_pure h
/-- d[k] = v, k new -/
theorem setV_ {v : Value} {Q : Unit → Shared → Prop} (hu : A.units + 8 < cLine) (hkey : KeyVl s.heap k key) (hm : DictV w s.heap d xs) (his : ∀ x ∈ xs, KeyVl s.heap x.1 x.2.1) (hno : atV xs k = none)
    (hQ : ∀ h', DictV w h' d (xs ++ [(k, key, v)]) → Heap.SameBut d s.heap h' → Q () { s with heap := h', toks := s.toks + k.draws })
    (hsz : xs.length ≤ sizeLine) : wpAny (model P w) A (dictSet d key v) Q E s := by
  obtain ⟨o, es, ep, ho, hc, hd, he, hn⟩ := hm
  have hdp := hkey.d
  have hsize : es.size = xs.length := by rw [← Array.length_toList, he, List.length_map]
  have hno := atV_out hno
  unfold dictSet
  try with_reducible refine wpAny_holding ?_
  refine wpAny_bind (pyHash_key k key A s _ hkey.is (by omega) ?_)
  unfold dictSetHashed
  try with_reducible refine wpAny_holding ?_
  refine wpAny_bind (findV (s := { s with toks := s.toks + k.draws }) hu hkey ho hd he his hn ?_ ?_)
  · intro _
    refine wpAny_bind (wpAny_rule (wpAny_updateDictKeys (hz := by omega) (s := { s with toks := s.toks + k.draws }) ho hd (hQ _ ⟨_, _, ep + 1, Heap.get?_update_self _ ho (Obj.isFreed_of_dict (Obj.data_mapDictKeys hd _)),
      hc.mapDictKeys _, Obj.data_mapDictKeys hd _, ?_, ?_⟩ (Heap.SameBut.update ..))))
    · simp [he, entV]
    · rw [List.map_append, List.nodup_append]
      refine ⟨hn, by simp, ?_⟩
      intro x hx y hy
      simp only [List.map_cons, List.map_nil, List.mem_singleton] at hy
      subst hy
      rintro rfl
      obtain ⟨p, hp, rfl⟩ := List.mem_map.mp hx
      obtain ⟨j, hj⟩ := List.mem_iff_getElem?.mp hp
      exact hno j p.2 (by rw [hj])
  · intro j p hj
    exact absurd hj (hno j p)
theorem getItemV {v : Value} {Q : Value → Shared → Prop} (hu : A.units + 9 < cLine) (hkey : KeyVl s.heap k key) (hm : DictV w s.heap d xs) (his : ∀ x ∈ xs, KeyVl s.heap x.1 x.2.1) (hp : (atV xs k).map (·.2) = some v)
    (h : Q v { s with toks := s.toks + k.draws }) : wpAny (model P w) A (getItem (.ref d) key) Q E s := by
  have hu1 : A.in1.units + 8 < cLine := by show A.units + 1 + 8 < cLine; omega
  unfold getItem
  try with_reducible refine wpAny_holding ?_
  refine wpAny_bind (wpAny_sequenceKey hm.typeIs (by decide) ?_)
  refine wpAny_bind (wpAny_callSpecial?_slot (name := Str.ofString "__getitem__") hm.typeIs slot_dict_getitem
    (wpAny_call_entry slot_dict_getitem hm.typeIs entry_dict_getitem ?_ (args_dict_getitem _ _)))
  show wpAny _ _ (dictGet d key >>= _) _ _ s
  refine wpAny_bind (getV_ hu1 hkey hm his ?_)
  rw [hp]
  exact wpAny_pure ⟨v, rfl, wpAny_pure h⟩
theorem containsV {Q : Bool → Shared → Prop} (hu : A.units + 9 < cLine) (hkey : KeyVl s.heap k key) (hd : (d == sysModules) = false) (hm : DictV w s.heap d xs) (his : ∀ x ∈ xs, KeyVl s.heap x.1 x.2.1)
    (h : Q (atV xs k).isSome { s with toks := s.toks + k.draws }) : wpAny (model P w) A (contains (.ref d) key) Q E s := by
  have hu1 : A.in1.units + 8 < cLine := by show A.units + 1 + 8 < cLine; omega
  unfold contains
  try with_reducible refine wpAny_holding ?_
  refine wpAny_bind (wpAny_specialOf hm.typeIs slot_dict_contains.lookup ?_)
  show wpAny _ _ (if (some (Value.builtin "dict.__contains__") == some Value.none) = true then _ else _) _ E s
  rw [if_neg (by rw [beq_builtin_none]; exact Bool.false_ne_true)]
  refine wpAny_bind (wpAny_callSpecialUnlessNone?_slot (name := Str.ofString "__contains__") hm.typeIs slot_dict_contains
    (wpAny_call_entry slot_dict_contains hm.typeIs entry_dict_contains ?_ (args_dict_contains _ _)))
  show wpAny _ _ (dictGet d key >>= _) _ _ s
  refine wpAny_bind (getV_ hu1 hkey hm his ?_)
  cases hf : atV xs k with
  | some p =>
    rw [hf] at h
    show wpAny _ _ (ret (.bool true)) _ _ _
    exact wpAny_pure ⟨_, rfl, wpAny_truthy_bool h⟩
  | none =>
    rw [hf] at h
    show wpAny _ _ (Builtin.Dict.pendingKey? d key >>= _) _ _ _
    exact wpAny_bind (wpAny_pendingKey_other hd (wpAny_pure ⟨_, rfl, wpAny_truthy_bool h⟩))
theorem notInV {Q : Value → Shared → Prop} (hu : A.units + 9 < cLine) (hkey : KeyVl s.heap k key) (hd : (d == sysModules) = false) (hm : DictV w s.heap d xs) (his : ∀ x ∈ xs, KeyVl s.heap x.1 x.2.1)
    (h : Q (.bool (!(atV xs k).isSome)) { s with toks := s.toks + k.draws }) : wpAny (model P w) A (compareOp .NotIn key (.ref d)) Q E s := by
  show wpAny _ _ (do return .bool (!(← contains (.ref d) key))) Q E s
  exact wpAny_bind (containsV hu hkey hd hm his (wpAny_pure h))
theorem setItemV {v : Value} {Q : Unit → Shared → Prop} (hu : A.units + 9 < cLine) (hkey : KeyVl s.heap k key) (hm : DictV w s.heap d xs) (his : ∀ x ∈ xs, KeyVl s.heap x.1 x.2.1) (hno : atV xs k = none)
    (hQ : ∀ h', DictV w h' d (xs ++ [(k, key, v)]) → Heap.SameBut d s.heap h' → Q () { s with heap := h', toks := s.toks + k.draws }) (hsz : xs.length ≤ sizeLine) :
    wpAny (model P w) A (setItem (.ref d) key v) Q E s := by
  have hu1 : A.in1.units + 8 < cLine := by show A.units + 1 + 8 < cLine; omega
  unfold setItem
  try with_reducible refine wpAny_holding ?_
  refine wpAny_bind (wpAny_sequenceKey hm.typeIs (by decide) ?_)
  refine wpAny_bind (wpAny_callSpecial?_slot (name := Str.ofString "__setitem__") hm.typeIs slot_dict_setitem
    (wpAny_call_entry slot_dict_setitem hm.typeIs entry_dict_setitem ?_ (args_dict_setitem _ _ _)))
  show wpAny _ _ (Builtin.Dict.notOrdered "__setitem__" ⟨[.ref d, key, v], []⟩ >>= _) _ _ s
  refine wpAny_bind (wpAny_notOrdered_dict hm.typeIs ?_)
  show wpAny _ _ (dictSet d key v >>= _) _ _ s
  exact wpAny_bind (setV_ hu1 hkey hm his hno (fun h' hm' hs' => wpAny_pure ⟨.none, rfl, wpAny_pure (hQ h' hm' hs')⟩) hsz)
end
/-! the object, by what is tracked -/
/-- v is the key k -/
structure KyN (H : Hp) (k : NestedKey) (v : V) : Prop where
  nv : NV H k v
  d : k.depth ≤ 8
  n : ∀ x, v ≠ .str x
theorem KyN.ex {H H' : Hp} {k : NestedKey} {v : V} (h : KyN H k v) (e : ∀ b xs, H b = some (.tup xs) → H' b = some (.tup xs)) : KyN H' k v := ⟨h.nv.ex e, h.d, h.n⟩
theorem KyN.is {P : Program} {w : World} {H : Hp} {h : Heap} {k : NestedKey} {v : V} {u : Value} (q : KyN H k v) (ok : HOk P w H h) (r : RelV v u) : KeyVl h k u := by
  refine ⟨q.nv.is ok r, q.d, fun x t e => ?_⟩
  subst e
  have hv := q.nv
  have hn := q.n
  cases hv with
  | non => cases (show Value.str x t = Value.none from r)
  | int i =>
    obtain ⟨t', e⟩ : ∃ t', Value.str x t = Value.int i t' := r
    cases e
  | str y => exact hn y rfl
  | tup h1 h2 => cases (show Value.str x t = Value.ref _ from r)
abbrev KA := List (NestedKey × V × V)
def KX (kvs : KA) (xs : KVV) : Prop := Paired (fun p q => p.1 = q.1 ∧ RelV p.2.1 q.2.1 ∧ RelV p.2.2 q.2.2) kvs xs
/-- a dict whose keys are None, numbers, tuples that may hold tuples -/
def dN (w : World) (a : Addr) (kvs : KA) : HO := .ext fun h => kvs.length ≤ sizeLine ∧ (a == sysModules) = false ∧ ∃ xs, KX kvs xs ∧ DictV w h a xs
def KsN (H : Hp) (kvs : KA) : Prop := ∀ p ∈ kvs, KyN H p.1 p.2.1
theorem KsN.ex {H H' : Hp} {kvs : KA} (h : KsN H kvs) (e : ∀ b xs, H b = some (.tup xs) → H' b = some (.tup xs)) : KsN H' kvs := fun p hp => (h p hp).ex e
def valN : KA → NestedKey → Option V
  | [], _ => none
  | p :: kvs, k => if p.1 = k then some p.2.2 else valN kvs k
section
variable {P : Program} {w : World} {H : Hp} {h : Heap} {a : Addr} {kvs : KA}
theorem KX.val {xs : KVV} (r : KX kvs xs) (k : NestedKey) : RelO (valN kvs k) ((atV xs k).map (·.2)) := by
  induction r with
  | nil => exact True.intro
  | @cons p q ps qs hq t ih =>
    obtain ⟨h1, h2, h3⟩ := hq
    unfold valN
    by_cases e : p.1 = k
    · rw [if_pos e]
      have e2 : q.1 = k := by rw [← h1]; exact e
      have : atV (q :: qs) k = some q.2 := by simp [atV, e2]
      rw [this]
      exact h3
    · rw [if_neg e]
      have e2 : ¬ q.1 = k := by rw [← h1]; exact e
      have : atV (q :: qs) k = atV qs k := by simp [atV, e2]
      rw [this]
      exact ih
theorem KX.mem {xs : KVV} (r : KX kvs xs) (ks : KsN H kvs) (ok : HOk P w H h) : ∀ x ∈ xs, KeyVl h x.1 x.2.1 := by
  unfold KsN at ks
  induction r with
  | nil => intro x hx; cases hx
  | @cons p q ps qs hq t ih =>
    intro x hx
    rcases List.mem_cons.mp hx with e | hx
    · rw [e, ← hq.1]
      exact (ks p List.mem_cons_self).is ok hq.2.1
    · exact ih (fun y hy => ks y (List.mem_cons_of_mem _ hy)) x hx
theorem dN_of (ok : HOk P w H h) (e : H a = some (dN w a kvs)) (ks : KsN H kvs) : kvs.length ≤ sizeLine ∧ (a == sysModules) = false ∧ ∃ xs, KX kvs xs ∧ DictV w h a xs ∧ ∀ x ∈ xs, KeyVl h x.1 x.2.1 := by
  obtain ⟨z, y, xs, r, dd⟩ := (show ObjOk P w H h a (dN w a kvs) from ok a _ e).1
  exact ⟨z, y, xs, r, dd, r.mem ks ok⟩
theorem dN_ok {xs : KVV} (z : kvs.length ≤ sizeLine) (hd : (a == sysModules) = false) (r : KX kvs xs) (dd : DictV w h a xs) : ObjOk P w H h a (dN w a kvs) := by
  refine ⟨⟨z, hd, xs, r, dd⟩, let ⟨o, _, _, h1, _⟩ := dd; ⟨o, h1⟩, fun g1 g2 x k => ?_⟩
  obtain ⟨z, y, xs, r, o, es, ep, h1, h2, h3, h4, h5⟩ := x
  exact ⟨z, y, xs, r, o, es, ep, k _ h1, h2, h3, h4, h5⟩
theorem dN_new {h : Heap} (hb : sysModules < h.objs.size) : ObjOk P w H (h.push { cls := .type "dict", data := .dict #[] }) h.objs.size (dN w h.objs.size []) := by
  obtain ⟨o, es, ep, h1, h2, h3, h4, _, h5⟩ := Heap.DictOfH.new (knd := nestedKind P w) h
  exact dN_ok (Nat.zero_le _) (beq_eq_false_iff_ne.mpr (Ne.symm (Nat.ne_of_lt hb))) .nil ⟨o, es, ep, h1, h2, h3, by rw [h4]; rfl, h5⟩
end
/-- what is asked of the dict and of the key -/
def AtN (w : World) (H : Hp) (a : Addr) (kvs : KA) (y : V) (k : NestedKey) : Prop := H a = some (dN w a kvs) ∧ KsN H kvs ∧ KyN H k y
/-- in a dict of ints, texts, flat tuples, or of keys of any kind -/
def DGX (w : World) (H : Hp) (a : Addr) (y : V) (r : Option V) : Prop := DGet H a y r ∨ ∃ kvs k, AtN w H a kvs y k ∧ r = valN kvs k
def DPX (w : World) (H : Hp) (a : Addr) (y v : V) (H' : Hp) : Prop := DPut H a y v H' ∨ ∃ kvs k, AtN w H a kvs y k ∧ valN kvs k = none ∧ kvs.length < sizeLine ∧ H' = upd H a (dN w a (kvs ++ [(k, y, v)]))
def tDGetX (w : World) (td ty : TE) : TE := fun σ H Q => td σ H fun x H1 => ty σ H1 fun y H2 => ∃ a v, x = .ref a ∧ DGX w H2 a y (some v) ∧ Q v H2
def tDNotInX (w : World) (ty td : TE) : TE := fun σ H Q => ty σ H fun y H1 => td σ H1 fun x H2 => ∃ a o, x = .ref a ∧ DGX w H2 a y o ∧ Q (.bl (!o.isSome)) H2
def sDPutX (w : World) (td ty tv : TE) : TS := fun D σ H => tv σ H fun v H1 => td σ H1 fun x H2 => ty σ H2 fun y H3 => ∃ a H4, x = .ref a ∧ DPX w H3 a y v H4 ∧ D.nx σ H4
/-- {k: v}, k a tuple -/
def tDisp1N (w : World) (tk tv : TE) : TE := fun σ H Q => ∀ p, H p = none → tk σ (upd H p (dN w p [])) fun x H1 => tv σ H1 fun y H2 => H2 p = some (dN w p []) ∧ ∃ (b : Addr) (k : NestedKey), x = .ref b ∧ KyN H2 k (.ref b) ∧ Q (.ref p) (upd H2 p (dN w p [(k, .ref b, y)]))
def tDNewN (w : World) : TE := fun _ H Q => ∀ p, H p = none → Q (.ref p) (upd H p (dN w p []))
section
variable {X : Cx} {i o e value k v : Expr} {pos pos' : Pos} {td ty tv tk : TE} (w : World) (hw : X.w = w := by rfl)
include hw
theorem pe_dgetX (hu : X.A.units + 40 < cLine) (ho : PE X o td) (hi : PE X i ty) (hs : NoSl i) : PE X (.Subscript o i pos) (tDGetX w td ty) := by
  subst hw
  refine ⟨fun pins s σ H Q I h => ?_⟩
  refine subD_of PySem.F.slot_dict_getitem.lookup hs (thn (ho.run pins s σ H _ I h) fun u s1 ⟨x, H1, I1, rx, q1⟩ => thn (hi.run pins s1 σ H1 _ I1 q1) fun iv s2 ⟨y, H2, I2, ry, a, v, ex, g, q2⟩ => ?_)
  subst ex
  obtain rfl : u = Value.ref a := rx
  rcases g with g | ⟨kvs, k, ⟨e, ks, kb⟩, hv⟩
  · exact ⟨dict_typeIs I2 g, d_getItem (by omega) I2 g ry fun w' s3 I3 rw' => ⟨v, H2, I3, rw', q2⟩⟩
  obtain ⟨z, hd, xs, rel, dd, his⟩ := dN_of I2.hok e ks
  obtain ⟨w', hw, rw'⟩ := RelO.some_of (v := v) (o := (atV xs k).map (·.2)) (by rw [hv]; exact rel.val k)
  exact ⟨dd.typeIs, getItemV (by omega) (kb.is I2.hok ry) dd his hw ⟨v, H2, I2.tok _, rw', q2⟩⟩
theorem pc_dnotinX (hu : X.A.units + 40 < cLine) (hi : PE X i ty) (ho : PE X o td) : PC X .NotIn i o (tDNotInX w ty td) := by
  subst hw
  refine ⟨fun pins s σ H Q I h => ?_⟩
  refine thn (hi.run pins s σ H _ I h) fun iv s1 ⟨y, H1, I1, ry, q1⟩ => thn (ho.run pins s1 σ H1 _ I1 q1) fun u s2 ⟨x, H2, I2, rx, a, ov, ex, g, q2⟩ => ?_
  subst ex
  obtain rfl : u = Value.ref a := rx
  rcases g with g | ⟨kvs, k, ⟨e, ks, kb⟩, hv⟩
  · exact d_notIn (by omega) I2 g ry fun s3 I3 => ⟨.bl (!ov.isSome), H2, I3, rfl, q2⟩
  obtain ⟨z, hd, xs, rel, dd, his⟩ := dN_of I2.hok e ks
  refine notInV (by omega) (kb.is I2.hok ry) hd dd his ?_
  have q := (rel.val k).isSome_eq
  rw [Option.isSome_map, ← hv] at q
  rw [← q]
  exact ⟨.bl (!ov.isSome), H2, I2.tok _, rfl, q2⟩
theorem ps_dputX (hu : X.A.units + 40 < cLine) (ho : PE X o td) (hi : PE X i ty) (hv : PE X value tv) (hs : swapsWith value (some (.Subscript o i pos')) pos.line X.env = pure false) :
    PS X (.Assign [.Subscript o i pos'] value pos) (sDPutX w td ty tv) := by
  subst hw
  refine ⟨fun pins s σ H D I h => ?_⟩
  refine wpAny_Assign_Subscript (thn (hv.run pins s σ H _ I h) fun r s1 ⟨v, H1, I1, rv, q1⟩ => thn (ho.run pins s1 σ H1 _ I1 q1) fun u s2 ⟨x, H2, I2, rx, q2⟩ => thn (hi.run pins s2 σ H2 _ I2 q2) fun iv s3 ⟨y, H3, I3, ry, a, H4, ex, g, q3⟩ => ?_) hs
  subst ex
  obtain rfl : u = Value.ref a := rx
  rcases g with g | ⟨kvs, k, ⟨e, ks, kb⟩, hn, hl, rfl⟩
  · exact d_setItem (by omega) I3 g ry rv fun s4 I4 => ⟨σ, H4, I4, q3⟩
  obtain ⟨z, hd, xs, rel, dd, his⟩ := dN_of I3.hok e ks
  have hz : xs.length ≤ sizeLine := by rw [← Paired.length rel]; exact z
  have hl2 : (kvs ++ [(k, y, v)]).length ≤ sizeLine := by rw [List.length_append, List.length_singleton]; omega
  have q := (rel.val k).isSome_eq
  rw [hn, Option.isSome_map] at q
  have hno : atV xs k = none := by
    cases e : atV xs k with
    | none => rfl
    | some p => rw [e] at q; cases q
  refine setItemV (by omega) (kb.is I3.hok ry) dd his hno (fun h' dd' hs => ?_) hz
  have he : ∃ q, h'.get? a = some q := let ⟨q, _, _, hq, _⟩ := dd'; ⟨q, hq⟩
  exact ⟨σ, _, d_write I3 (by rw [e]; exact True.intro) hs he (dN_ok hl2 hd (Paired.snoc rel ⟨rfl, ry, rv⟩) dd'), q3⟩
theorem pe_dnewN : PE X (.Dict [] [] pos) (tDNewN w) := by
  subst hw
  exact ⟨fun pins s σ H Q I h =>
    wpAny_Dict_empty ⟨.ref s.heap.objs.size, _, I.laid (a := s.heap.objs.size) (o := dN X.w s.heap.objs.size []) (t' := s.toks) (fun _ _ q => Heap.get?_push_of_some _ q) (Nat.le_refl _) (dN_new I.big), rfl, h _ (I.hok.fresh (Nat.le_refl _))⟩⟩
theorem pe_disp1N (hu : X.A.units + 40 < cLine) (hk : PE X k tk) (hv : PE X v tv) : PE X (.Dict [some k] [v] pos) (tDisp1N w tk tv) := by
  subst hw
  refine ⟨fun pins s σ H Q I q => ?_⟩
  have hn := I.hok.fresh (Nat.le_refl s.heap.objs.size)
  have I1 := I.laid (a := s.heap.objs.size) (o := dN X.w s.heap.objs.size []) (t' := s.toks) (fun _ _ z => Heap.get?_push_of_some _ z) (Nat.le_refl _) (dN_new I.big)
  have hz := zip_pairTrees [some k] [v] X.env pos rfl rfl
  have hl : (pairTrees [some k] [v] X.env pos).length = 1 := pairTrees_length [some k] [v] X.env pos rfl rfl
  have hne : pairTrees [some k] [v] X.env pos ≠ [] := fun z => by rw [z] at hl; cases hl
  have room : (nestedKind X.prog X.w).room X.A := by show X.A.units + 8 < cLine; omega
  rw [arm_eval_Dict, hz, dictDisplay_pairs _ hne (by rw [hl]; decide)]
  refine wpAny_bind (wpAny_standAt (wpAny_bind ?_))
  refine wpAny_subDictH (knd := nestedKind X.prog X.w) room (by rw [hl]; decide) ?_
  refine pairTrees_cons_walk (thn (hk.run pins _ σ _ _ I1 (q _ hn)) fun u s1 ⟨x, H1, I1', rx, q1⟩ => thn (hv.run pins s1 σ H1 _ I1' q1) fun w2 s2 ⟨y, H2, I2, ry, q2⟩ => pairTrees_nil_walk ?_)
  obtain ⟨e, b, ks, rfl, kb, q3⟩ := q2
  cases (show u = Value.ref b from rx)
  obtain ⟨z, hd, xs0, r0, dd, _⟩ := dN_of I2.hok e (fun p hp => nomatch hp)
  cases r0
  have kb2 := kb.is I2.hok (u := .ref b) rfl
  obtain ⟨o0, es0, ep0, d1, d2, d3, d4, d5⟩ := dd
  refine ⟨[(ks, b, w2)], ⟨rfl, rfl, ⟨kb2.is, kb2.d⟩, True.intro⟩, ⟨o0, es0, ep0, d1, d2, d3, by rw [d4]; rfl, (fun x hx => nomatch hx), List.nodup_nil⟩, fun h' tk dd' hs => wpAny_pure ⟨.ref s.heap.objs.size, _, ?_, rfl, q3⟩⟩
  have e1 : storedAllH [] [(ks, b, w2)] = [(ks, b, w2)] := rfl
  rw [e1] at dd'
  obtain ⟨o, es, ep, ho, h2, h3, h4, h5, h6⟩ := dd'
  exact d_write I2 (by rw [e]; exact True.intro) hs ⟨o, ho⟩ (dN_ok (xs := [(ks, .ref b, w2)]) (by show 1 ≤ sizeLine; decide) hd (.cons ⟨rfl, (rfl : Value.ref b = Value.ref b), ry⟩ .nil) ⟨o, es, ep, ho, h2, h3, by rw [h4]; rfl, h6⟩)
end
section
variable {w : World} {σ : L2.St} {H : Hp} {Q : VK} {td ty tv tk : TE} {D : Ends}
theorem rd_dgetX (h : td σ H fun x H1 => ty σ H1 fun y H2 => ∃ a v, x = .ref a ∧ DGX w H2 a y (some v) ∧ Q v H2) : tDGetX w td ty σ H Q := h
theorem rd_dninX (h : ty σ H fun y H1 => td σ H1 fun x H2 => ∃ a o, x = .ref a ∧ DGX w H2 a y o ∧ Q (.bl (!o.isSome)) H2) : tDNotInX w ty td σ H Q := h
theorem rd_dputX (h : tv σ H fun v H1 => td σ H1 fun x H2 => ty σ H2 fun y H3 => ∃ a H4, x = .ref a ∧ DPX w H3 a y v H4 ∧ D.nx σ H4) : sDPutX w td ty tv D σ H := h
theorem rd_disp1N (h : ∀ p, H p = none → tk σ (upd H p (dN w p [])) fun x H1 => tv σ H1 fun y H2 => H2 p = some (dN w p []) ∧ ∃ (b : Addr) (k : NestedKey), x = .ref b ∧ KyN H2 k (.ref b) ∧ Q (.ref p) (upd H2 p (dN w p [(k, .ref b, y)]))) : tDisp1N w tk tv σ H Q := h
end
theorem hu40 {k : Nat} {A : Around} (r : Room k A) : A.units + 40 < cLine := by have := r.un; omega
end AT

set_option Elab.async false
set_option linter.all false
set_option maxRecDepth 100000
set_option maxHeartbeats 4000000
local macro_rules | `(tactic| walk_at "rd1") => `(tactic| with_reducible first
  | refine AT.rd_seq ?_ | refine AT.rd_is ?_ | refine AT.rd_asg ?_ | refine AT.rd_name ?_ | refine AT.rd_var (by with_unfolding_all rfl) ?_ | refine AT.rd_c ?_ | refine AT.rd_op ?_ | refine AT.rd_ret ?_ | refine AT.rd_retN ?_ | refine AT.rd_if ?_ | refine AT.rd_ife ?_ | refine AT.rd_next ?_ | refine AT.rd_drop ?_
  | refine AT.rd_test ?_ | refine AT.rd_tB ?_ | refine AT.rd_bl ?_ | refine AT.rd_not ?_ | refine AT.rd_and ?_ | refine AT.rd_or ?_ | refine AT.rd_nil ?_ | refine AT.rd_cons ?_ | refine AT.rd_lst ?_ | refine AT.rd_tup ?_ | refine AT.rd_cb ?_ | refine AT.rd_chain ?_
  | refine AT.rd_called ?_ | refine AT.rd_calledR ?_ | refine AT.rd_raised ?_ | refine AT.rd_iteT ?_ | refine AT.rd_iteF ?_ | refine AT.rd_iteNF ?_ | refine AT.rd_iteNT ?_ | refine AT.rd_addI ?_ | refine AT.rd_subI ?_ | refine AT.rd_lt ?_ | refine AT.rd_le ?_ | refine AT.rd_gt ?_ | refine AT.rd_ge ?_ | refine AT.rd_eqI ?_ | refine AT.rd_neI ?_ | refine AT.rd_eqS ?_ | refine AT.rd_neS ?_
  | refine AT.rd_int ?_ | refine AT.rd_abs ?_ | refine AT.rd_inS ?_ | refine AT.rd_niS ?_ | refine AT.rd_rng1 ?_ | refine AT.rd_rng2 ?_ | refine AT.rd_bm ?_ | refine AT.rd_fld ?_ | refine AT.rd_sfld ?_ | refine AT.rd_makeR ?_ | refine AT.rd_methR ?_ | refine AT.rd_meth ?_ | refine AT.rd_notV ?_ | refine AT.rd_xf ?_ | refine AT.rd_andV ?_ | refine AT.rd_orV ?_ | refine AT.rd_sl ?_ | refine AT.rd_noPart ?_ | refine AT.rd_part ?_ | refine AT.rd_intv ?_ | refine AT.rd_raised1 ?_ | refine AT.rd_gsub ?_ | refine AT.rd_gN ?_ | refine AT.rd_par3 ?_ | refine AT.rd_dget ?_ | refine AT.rd_din ?_ | refine AT.rd_dnin ?_ | refine AT.rd_dput ?_ | refine AT.rd_disp1T ?_ | refine AT.rd_dnK ?_ | refine AT.rd_dnT ?_ | refine AT.rd_v3 ?_ | refine AT.rd_gE ?_ | refine AT.rd_for ?_ | refine AT.rd_lc ?_ | refine AT.rd_lenL (by assumption) ?_ | refine AT.rd_dsetd ?_ | refine AT.rd_dgetX ?_ | refine AT.rd_dninX ?_ | refine AT.rd_dputX ?_ | refine AT.rd_dsetdB ?_ | refine AT.rd_dgetB ?_ | refine AT.rd_dnB ?_ | refine AT.rd_lenT (by assumption) ?_)
local macro_rules | `(tactic| walk_at "rd") => `(tactic| (repeat walk_at "rd1"))
local macro_rules | `(tactic| walk_at "rc1") => `(tactic| with_reducible first
  | refine AT.rd_seqA ?_ | refine AT.rd_is ?_ | refine AT.rd_seqD ?_ | refine AT.rd_asg ?_ | refine AT.rd_name ?_ | refine AT.rd_var (by with_unfolding_all rfl) ?_ | refine AT.rd_c ?_ | refine AT.rd_op ?_ | refine AT.rd_ret ?_ | refine AT.rd_retN ?_ | refine AT.rd_if ?_ | refine AT.rd_next ?_ | refine AT.rd_drop ?_
  | refine AT.rd_test ?_ | refine AT.rd_tB ?_ | refine AT.rd_bl ?_ | refine AT.rd_not ?_ | refine AT.rd_and ?_ | refine AT.rd_or ?_ | refine AT.rd_nil ?_ | refine AT.rd_cons ?_ | refine AT.rd_lst ?_ | refine AT.rd_tup ?_ | refine AT.rd_cb ?_ | refine AT.rd_chain ?_
  | refine AT.rd_called ?_ | refine AT.rd_calledR ?_ | refine AT.rd_raised ?_ | refine AT.rd_iteT ?_ | refine AT.rd_iteF ?_ | refine AT.rd_iteNF ?_ | refine AT.rd_iteNT ?_ | refine AT.rd_addI ?_ | refine AT.rd_subI ?_ | refine AT.rd_lt ?_ | refine AT.rd_le ?_ | refine AT.rd_gt ?_ | refine AT.rd_ge ?_ | refine AT.rd_eqI ?_ | refine AT.rd_neI ?_ | refine AT.rd_eqS ?_ | refine AT.rd_neS ?_
  | refine AT.rd_int ?_ | refine AT.rd_abs ?_ | refine AT.rd_inS ?_ | refine AT.rd_niS ?_ | refine AT.rd_rng1 ?_ | refine AT.rd_rng2 ?_ | refine AT.rd_bm ?_ | refine AT.rd_fld ?_ | refine AT.rd_sfld ?_ | refine AT.rd_makeR ?_ | refine AT.rd_methR ?_ | refine AT.rd_meth ?_ | refine AT.rd_notV ?_ | refine AT.rd_xf ?_ | refine AT.rd_sl ?_ | refine AT.rd_noPart ?_ | refine AT.rd_part ?_ | refine AT.rd_intv ?_ | refine AT.rd_raised1 ?_ | refine AT.rd_gsub ?_ | refine AT.rd_gN ?_ | refine AT.rd_par3 ?_ | refine AT.rd_dget ?_ | refine AT.rd_din ?_ | refine AT.rd_dnin ?_ | refine AT.rd_dput ?_ | refine AT.rd_disp1T ?_ | refine AT.rd_dnK ?_ | refine AT.rd_dnT ?_ | refine AT.rd_v3 ?_ | refine AT.rd_gE ?_ | refine AT.rd_for ?_ | refine AT.rd_lc ?_ | refine AT.rd_lenL (by assumption) ?_ | refine AT.rd_dsetd ?_ | refine AT.rd_dgetX ?_ | refine AT.rd_dninX ?_ | refine AT.rd_dputX ?_ | refine AT.rd_dsetdB ?_ | refine AT.rd_dgetB ?_ | refine AT.rd_dnB ?_ | refine AT.rd_lenT (by assumption) ?_)
local macro_rules | `(tactic| walk_at "rc") => `(tactic| ((repeat walk_at "rc1"); (try with_reducible refine AT.rd_idS ?_)))
local macro_rules | `(tactic| walk_at "rs") => `(tactic| with_reducible refine AT.rd_seq ?_)

namespace AT
open PySem L2
def top (i : Nat) : Stmt := PySem.Challenge.pw_anytext_k20_images_before.main.body.getD i (.Pass ⟨0, 0, 0, 0⟩)
abbrev s__wall : Stmt := top 0
theorem sc__wall : FnScope ["k"] ["k"] (defScope s__wall) := ⟨rfl, rfl, rfl, by decide +kernel, rfl, by decide +kernel, by decide +kernel⟩
abbrev s_block_numbers : Stmt := top 2
theorem sc_block_numbers : FnScope ["kinds", "sources", "blocks", "waiting", "goals", "sources_of", "goal", "source", "numbers", "block"] ["kinds", "sources"] (defScope s_block_numbers) := ⟨rfl, rfl, rfl, by decide +kernel, rfl, by decide +kernel, by decide +kernel⟩
abbrev s_first_states : Stmt := top 3
theorem sc_first_states : FnScope ["numbers", "found", "state", "number"] ["numbers"] (defScope s_first_states) := ⟨rfl, rfl, rfl, by decide +kernel, rfl, by decide +kernel, by decide +kernel⟩
abbrev s__blocks_of_kinds : Stmt := top 4
theorem sc__blocks_of_kinds : FnScope ["kinds", "lots", "state", "kind", "blocks"] ["kinds"] (defScope s__blocks_of_kinds) := ⟨rfl, rfl, rfl, by decide +kernel, rfl, by decide +kernel, by decide +kernel⟩
abbrev s_explored : Stmt := top 14
theorem sc_explored : FnScope ["letters", "start", "step", "accepts", "numbers", "keys", "table", "row", "index", "key"] ["letters", "start", "step", "accepts"] (defScope s_explored) := ⟨rfl, rfl, rfl, by decide +kernel, rfl, by decide +kernel, by decide +kernel⟩
abbrev s_ways_back : Stmt := top 16
theorem sc_ways_back : FnScope ["nexts", "found", "_", "state", "afters", "after"] ["nexts"] (defScope s_ways_back) := ⟨rfl, rfl, rfl, by decide +kernel, rfl, by decide +kernel, by decide +kernel⟩
abbrev s_least_explored : Stmt := top 18
theorem sc_least_explored : FnScope ["letters", "start", "step", "accepts"] ["letters", "start", "step", "accepts"] (defScope s_least_explored) := ⟨rfl, rfl, rfl, by decide +kernel, rfl, by decide +kernel, by decide +kernel⟩
abbrev s__merged : Stmt := top 19
theorem sc__merged : FnScope ["machine", "sources", "index", "numbers", "firsts", "state", "after"] ["machine"] (defScope s__merged) := ⟨rfl, rfl, rfl, by decide +kernel, rfl, by decide +kernel, by decide +kernel⟩
abbrev s_sources_by : Stmt := top 20
theorem sc_sources_by : FnScope ["machine", "index", "row"] ["machine", "index"] (defScope s_sources_by) := ⟨rfl, rfl, rfl, by decide +kernel, rfl, by decide +kernel, by decide +kernel⟩
abbrev s_domain : Stmt := top 22
theorem sc_domain : FnScope ["rewriter"] ["rewriter"] (defScope s_domain) := ⟨rfl, rfl, rfl, by decide +kernel, rfl, by decide +kernel, by decide +kernel⟩
abbrev s_before_image : Stmt := top 23
theorem sc_before_image : FnScope ["rewriter", "machine", "step", "accepts"] ["rewriter", "machine"] (defScope s_before_image) := ⟨rfl, rfl, rfl, by decide +kernel, rfl, by decide +kernel, by decide +kernel⟩
abbrev s_is_text : Stmt := top 25
theorem sc_is_text : FnScope ["letters", "text", "letter"] ["letters", "text"] (defScope s_is_text) := ⟨rfl, rfl, rfl, by decide +kernel, rfl, by decide +kernel, by decide +kernel⟩
abbrev s_cell : Stmt := top 29
theorem sc_cell : FnScope ["script", "k"] ["script", "k"] (defScope s_cell) := ⟨rfl, rfl, rfl, by decide +kernel, rfl, by decide +kernel, by decide +kernel⟩
abbrev s_numbers : Stmt := top 30
theorem sc_numbers : FnScope ["cell", "many", "rest", "whole", "numbers", "k", "mixed"] ["cell", "many"] (defScope s_numbers) := ⟨rfl, rfl, rfl, by decide +kernel, rfl, by decide +kernel, by decide +kernel⟩
abbrev s_state : Stmt := top 31
theorem sc_state : FnScope ["script", "start", "many", "numbers", "k", "cell"] ["script", "start", "many"] (defScope s_state) := ⟨rfl, rfl, rfl, by decide +kernel, rfl, by decide +kernel, by decide +kernel⟩
abbrev s_next : Stmt := top 32
theorem sc_next : FnScope ["state", "many", "numbers", "place"] ["state", "many"] (defScope s_next) := ⟨rfl, rfl, rfl, by decide +kernel, rfl, by decide +kernel, by decide +kernel⟩
abbrev s_letters : Stmt := top 33
theorem sc_letters : FnScope ["state", "most", "pool", "letters", "k", "letter"] ["state", "most"] (defScope s_letters) := ⟨rfl, rfl, rfl, by decide +kernel, rfl, by decide +kernel, by decide +kernel⟩
abbrev s_texts : Stmt := top 34
theorem sc_texts : FnScope ["letters", "most", "last", "rows", "k", "longer", "text", "letter"] ["letters", "most"] (defScope s_texts) := ⟨rfl, rfl, rfl, by decide +kernel, rfl, by decide +kernel, by decide +kernel⟩
abbrev s_parts : Stmt := top 35
theorem sc_parts : FnScope ["letters", "state", "most", "many", "accepting", "k", "table", "letter"] ["letters", "state", "most"] (defScope s_parts) := ⟨rfl, rfl, rfl, by decide +kernel, rfl, by decide +kernel, by decide +kernel⟩
abbrev s_accepts : Stmt := top 36
theorem sc_accepts : FnScope ["letters", "accepting", "table", "text", "at", "letter"] ["letters", "accepting", "table", "text"] (defScope s_accepts) := ⟨rfl, rfl, rfl, by decide +kernel, rfl, by decide +kernel, by decide +kernel⟩
abbrev s_law_least : Stmt := top 37
theorem sc_law_least : FnScope ["letters", "accepting", "table", "many", "far", "a", "b", "turn", "k", "order", "at", "rows", "j", "following"] ["letters", "accepting", "table"] (defScope s_law_least) := ⟨rfl, rfl, rfl, by decide +kernel, rfl, by decide +kernel, by decide +kernel⟩
abbrev s_word : Stmt := top 38
theorem sc_word : FnScope ["letters", "state", "most", "k"] ["letters", "state", "most"] (defScope s_word) := ⟨rfl, rfl, rfl, by decide +kernel, rfl, by decide +kernel, by decide +kernel⟩
abbrev s_maker : Stmt := top 39
theorem sc_maker : FnScope ["letters", "state", "most", "many", "finals", "k", "table", "row", "letter", "way"] ["letters", "state", "most"] (defScope s_maker) := ⟨rfl, rfl, rfl, by decide +kernel, rfl, by decide +kernel, by decide +kernel⟩
abbrev s_rewrite : Stmt := top 40
theorem sc_rewrite : FnScope ["letters", "parts", "text", "at", "written", "letter", "way"] ["letters", "parts", "text"] (defScope s_rewrite) := ⟨rfl, rfl, rfl, by decide +kernel, rfl, by decide +kernel, by decide +kernel⟩
abbrev s_long_text : Stmt := top 41
theorem sc_long_text : FnScope ["letters", "state", "k"] ["letters", "state"] (defScope s_long_text) := ⟨rfl, rfl, rfl, by decide +kernel, rfl, by decide +kernel, by decide +kernel⟩
abbrev s_law : Stmt := top 42
theorem sc_law : FnScope ["script", "state", "letters", "k", "parts", "accepting", "table", "rewriter", "taken", "before", "texts", "j", "text", "made", "good", "told"] ["script"] (defScope s_law) := ⟨rfl, rfl, rfl, by decide +kernel, rfl, by decide +kernel, by decide +kernel⟩
abbrev s_init : Stmt := inClass (top 7) 0
theorem sc_init : FnScope ["self", "what"] ["self", "what"] (defScope s_init) := ⟨rfl, rfl, rfl, by decide +kernel, rfl, by decide +kernel, by decide +kernel⟩
abbrev s_Blocks_init : Stmt := inClass (top 5) 0
theorem sc_Blocks_init : FnScope ["self", "many"] ["self", "many"] (defScope s_Blocks_init) := ⟨rfl, rfl, rfl, by decide +kernel, rfl, by decide +kernel, by decide +kernel⟩
abbrev s_Blocks_states_in : Stmt := inClass (top 5) 1
theorem sc_Blocks_states_in : FnScope ["self", "block"] ["self", "block"] (defScope s_Blocks_states_in) := ⟨rfl, rfl, rfl, by decide +kernel, rfl, by decide +kernel, by decide +kernel⟩
abbrev s_Blocks_mark : Stmt := inClass (top 5) 2
theorem sc_Blocks_mark : FnScope ["self", "state", "block", "goal", "place", "other"] ["self", "state"] (defScope s_Blocks_mark) := ⟨rfl, rfl, rfl, by decide +kernel, rfl, by decide +kernel, by decide +kernel⟩
abbrev s_Blocks_cut : Stmt := inClass (top 5) 3
theorem sc_Blocks_cut : FnScope ["self", "made", "block", "start", "end", "middle"] ["self"] (defScope s_Blocks_cut) := ⟨rfl, rfl, rfl, by decide +kernel, rfl, by decide +kernel, by decide +kernel⟩
abbrev s_Blocks_take_out : Stmt := inClass (top 5) 4
theorem sc_Blocks_take_out : FnScope ["self", "start", "end", "state"] ["self", "start", "end"] (defScope s_Blocks_take_out) := ⟨rfl, rfl, rfl, by decide +kernel, rfl, by decide +kernel, by decide +kernel⟩
abbrev s_Machine_init : Stmt := inClass (top 12) 0
theorem sc_Machine_init : FnScope ["self", "letters", "accepting", "table", "row"] ["self", "letters", "accepting", "table"] (defScope s_Machine_init) := ⟨rfl, rfl, rfl, by decide +kernel, rfl, by decide +kernel, by decide +kernel⟩
abbrev s_Machine_check : Stmt := inClass (top 12) 1
theorem sc_Machine_check : FnScope ["self", "states", "row"] ["self"] (defScope s_Machine_check) := ⟨rfl, rfl, rfl, by decide +kernel, rfl, by decide +kernel, by decide +kernel⟩
abbrev s_Machine_run : Stmt := inClass (top 12) 2
theorem sc_Machine_run : FnScope ["self", "text"] ["self", "text"] (defScope s_Machine_run) := ⟨rfl, rfl, rfl, by decide +kernel, rfl, by decide +kernel, by decide +kernel⟩
abbrev s_Machine_run_from : Stmt := inClass (top 12) 3
theorem sc_Machine_run_from : FnScope ["self", "state", "text", "letter"] ["self", "state", "text"] (defScope s_Machine_run_from) := ⟨rfl, rfl, rfl, by decide +kernel, rfl, by decide +kernel, by decide +kernel⟩
abbrev s_Machine_accepts : Stmt := inClass (top 12) 4
theorem sc_Machine_accepts : FnScope ["self", "text"] ["self", "text"] (defScope s_Machine_accepts) := ⟨rfl, rfl, rfl, by decide +kernel, rfl, by decide +kernel, by decide +kernel⟩
abbrev s_Machine_picture : Stmt := inClass (top 12) 5
theorem sc_Machine_picture : FnScope ["self"] ["self"] (defScope s_Machine_picture) := ⟨rfl, rfl, rfl, by decide +kernel, rfl, by decide +kernel, by decide +kernel⟩
abbrev s_Rewriter_init : Stmt := inClass (top 27) 0
theorem sc_Rewriter_init : FnScope ["self", "letters", "lead", "finals", "table", "way", "row"] ["self", "letters", "lead", "finals", "table"] (defScope s_Rewriter_init) := ⟨rfl, rfl, rfl, by decide +kernel, rfl, by decide +kernel, by decide +kernel⟩
abbrev s_Rewriter_check : Stmt := inClass (top 27) 1
theorem sc_Rewriter_check : FnScope ["self", "states", "written", "final", "row", "after", "text", "way"] ["self"] (defScope s_Rewriter_check) := ⟨rfl, rfl, rfl, by decide +kernel, rfl, by decide +kernel, by decide +kernel⟩
abbrev s_Rewriter_rewrite : Stmt := inClass (top 27) 2
theorem sc_Rewriter_rewrite : FnScope ["self", "text"] ["self", "text"] (defScope s_Rewriter_rewrite) := ⟨rfl, rfl, rfl, by decide +kernel, rfl, by decide +kernel, by decide +kernel⟩
abbrev s_Rewriter_rewrite_from : Stmt := inClass (top 27) 3
theorem sc_Rewriter_rewrite_from : FnScope ["self", "state", "text"] ["self", "state", "text"] (defScope s_Rewriter_rewrite_from) := ⟨rfl, rfl, rfl, by decide +kernel, rfl, by decide +kernel, by decide +kernel⟩
abbrev s_Rewriter_picture : Stmt := inClass (top 27) 4
theorem sc_Rewriter_picture : FnScope ["self"] ["self"] (defScope s_Rewriter_picture) := ⟨rfl, rfl, rfl, by decide +kernel, rfl, by decide +kernel, by decide +kernel⟩
abbrev s_before_image_step : Stmt := inBody s_before_image 0
theorem sc_before_image_step : NdefX.NScope ["key", "index", "rewriter", "machine", "way"] ["key", "index"] ["rewriter", "machine"] (C8.fnScope s_before_image_step) := NdefX.nscope_by (by decide +kernel)
abbrev s_before_image_accepts : Stmt := inBody s_before_image 1
theorem sc_before_image_accepts : NdefX.NScope ["key", "rewriter", "machine", "final"] ["key"] ["rewriter", "machine"] (C8.fnScope s_before_image_accepts) := NdefX.nscope_by (by decide +kernel)
/-- which name the code object made at a place has -/
def nmT (l c : Nat) : Str := if l = 163 ∧ c = 4 then "before_image.<locals>.step" else if l = 169 ∧ c = 4 then "before_image.<locals>.accepts" else ""
structure Txt (K : PySem.W.Frag) (mg : Str → Option Value) where
  a__wall : Addr
  d__wall : FuncData
  f__wall : Fun K "_wall" "_wall" s__wall a__wall d__wall
  o__wall : Own K mg "_wall" a__wall d__wall ["k"]
  a_block_numbers : Addr
  d_block_numbers : FuncData
  f_block_numbers : Fun K "block_numbers" "block_numbers" s_block_numbers a_block_numbers d_block_numbers
  o_block_numbers : Own K mg "block_numbers" a_block_numbers d_block_numbers ["kinds", "sources"]
  a_first_states : Addr
  d_first_states : FuncData
  f_first_states : Fun K "first_states" "first_states" s_first_states a_first_states d_first_states
  o_first_states : Own K mg "first_states" a_first_states d_first_states ["numbers"]
  a__blocks_of_kinds : Addr
  d__blocks_of_kinds : FuncData
  f__blocks_of_kinds : Fun K "_blocks_of_kinds" "_blocks_of_kinds" s__blocks_of_kinds a__blocks_of_kinds d__blocks_of_kinds
  o__blocks_of_kinds : Own K mg "_blocks_of_kinds" a__blocks_of_kinds d__blocks_of_kinds ["kinds"]
  a_explored : Addr
  d_explored : FuncData
  f_explored : Fun K "explored" "explored" s_explored a_explored d_explored
  o_explored : Own K mg "explored" a_explored d_explored ["letters", "start", "step", "accepts"]
  a_ways_back : Addr
  d_ways_back : FuncData
  f_ways_back : Fun K "ways_back" "ways_back" s_ways_back a_ways_back d_ways_back
  o_ways_back : Own K mg "ways_back" a_ways_back d_ways_back ["nexts"]
  a_least_explored : Addr
  d_least_explored : FuncData
  f_least_explored : Fun K "least_explored" "least_explored" s_least_explored a_least_explored d_least_explored
  o_least_explored : Own K mg "least_explored" a_least_explored d_least_explored ["letters", "start", "step", "accepts"]
  a__merged : Addr
  d__merged : FuncData
  f__merged : Fun K "_merged" "_merged" s__merged a__merged d__merged
  o__merged : Own K mg "_merged" a__merged d__merged ["machine"]
  a_sources_by : Addr
  d_sources_by : FuncData
  f_sources_by : Fun K "sources_by" "sources_by" s_sources_by a_sources_by d_sources_by
  o_sources_by : Own K mg "sources_by" a_sources_by d_sources_by ["machine", "index"]
  a_domain : Addr
  d_domain : FuncData
  f_domain : Fun K "domain" "domain" s_domain a_domain d_domain
  o_domain : Own K mg "domain" a_domain d_domain ["rewriter"]
  a_before_image : Addr
  d_before_image : FuncData
  f_before_image : Fun K "before_image" "before_image" s_before_image a_before_image d_before_image
  o_before_image : Own K mg "before_image" a_before_image d_before_image ["rewriter", "machine"]
  a_is_text : Addr
  d_is_text : FuncData
  f_is_text : Fun K "is_text" "is_text" s_is_text a_is_text d_is_text
  o_is_text : Own K mg "is_text" a_is_text d_is_text ["letters", "text"]
  a_cell : Addr
  d_cell : FuncData
  f_cell : Fun K "_law_cell" "_law_cell" s_cell a_cell d_cell
  o_cell : Own K mg "_law_cell" a_cell d_cell ["script", "k"]
  a_numbers : Addr
  d_numbers : FuncData
  f_numbers : Fun K "_law_numbers" "_law_numbers" s_numbers a_numbers d_numbers
  o_numbers : Own K mg "_law_numbers" a_numbers d_numbers ["cell", "many"]
  a_state : Addr
  d_state : FuncData
  f_state : Fun K "_law_state" "_law_state" s_state a_state d_state
  o_state : Own K mg "_law_state" a_state d_state ["script", "start", "many"]
  a_next : Addr
  d_next : FuncData
  f_next : Fun K "_law_next" "_law_next" s_next a_next d_next
  o_next : Own K mg "_law_next" a_next d_next ["state", "many"]
  a_letters : Addr
  d_letters : FuncData
  f_letters : Fun K "_law_letters" "_law_letters" s_letters a_letters d_letters
  o_letters : Own K mg "_law_letters" a_letters d_letters ["state", "most"]
  a_texts : Addr
  d_texts : FuncData
  f_texts : Fun K "_law_texts" "_law_texts" s_texts a_texts d_texts
  o_texts : Own K mg "_law_texts" a_texts d_texts ["letters", "most"]
  a_parts : Addr
  d_parts : FuncData
  f_parts : Fun K "_law_parts" "_law_parts" s_parts a_parts d_parts
  o_parts : Own K mg "_law_parts" a_parts d_parts ["letters", "state", "most"]
  a_accepts : Addr
  d_accepts : FuncData
  f_accepts : Fun K "_law_accepts" "_law_accepts" s_accepts a_accepts d_accepts
  o_accepts : Own K mg "_law_accepts" a_accepts d_accepts ["letters", "accepting", "table", "text"]
  a_law_least : Addr
  d_law_least : FuncData
  f_law_least : Fun K "_law_least" "_law_least" s_law_least a_law_least d_law_least
  o_law_least : Own K mg "_law_least" a_law_least d_law_least ["letters", "accepting", "table"]
  a_word : Addr
  d_word : FuncData
  f_word : Fun K "_law_word" "_law_word" s_word a_word d_word
  o_word : Own K mg "_law_word" a_word d_word ["letters", "state", "most"]
  a_maker : Addr
  d_maker : FuncData
  f_maker : Fun K "_law_maker" "_law_maker" s_maker a_maker d_maker
  o_maker : Own K mg "_law_maker" a_maker d_maker ["letters", "state", "most"]
  a_rewrite : Addr
  d_rewrite : FuncData
  f_rewrite : Fun K "_law_rewrite" "_law_rewrite" s_rewrite a_rewrite d_rewrite
  o_rewrite : Own K mg "_law_rewrite" a_rewrite d_rewrite ["letters", "parts", "text"]
  a_long_text : Addr
  d_long_text : FuncData
  f_long_text : Fun K "_law_long_text" "_law_long_text" s_long_text a_long_text d_long_text
  o_long_text : Own K mg "_law_long_text" a_long_text d_long_text ["letters", "state"]
  a_law : Addr
  d_law : FuncData
  f_law : Fun K "law" "law" s_law a_law d_law
  o_law : Own K mg "law" a_law d_law ["script"]
  a_init : Addr
  d_init : FuncData
  T_init : Addr
  f_init : FunD K "__init__" "AnytextError.__init__" (defArgs s_init) (defBody s_init) (defScope s_init) [.non] [] a_init d_init
  tI : PySem.W.typeIn K (.ref a_init) = some (.type "function")
  bI : Binds K d_init ["self", "what"] []
  C_AnytextError : Addr
  C_MachineError : Addr
  C_BadMachine : Addr
  C_BadRewriter : Addr
  g_BadMachine : mg "BadMachine" = some (.ref C_BadMachine)
  g_BadRewriter : mg "BadRewriter" = some (.ref C_BadRewriter)
  x_BadMachine : ErrX K C_BadMachine a_init
  x_BadRewriter : ErrX K C_BadRewriter a_init
  clsB : ClsB K
  C_Blocks : Addr
  g_Blocks : mg "Blocks" = some (.ref C_Blocks)
  cl_Blocks : Cls K C_Blocks
  na_Blocks_members : NoAttr K C_Blocks "members"
  na_Blocks_places : NoAttr K C_Blocks "places"
  na_Blocks_block_of : NoAttr K C_Blocks "block_of"
  na_Blocks_starts : NoAttr K C_Blocks "starts"
  na_Blocks_ends : NoAttr K C_Blocks "ends"
  na_Blocks_marks : NoAttr K C_Blocks "marks"
  na_Blocks_touched : NoAttr K C_Blocks "touched"
  a_Blocks_init : Addr
  d_Blocks_init : FuncData
  f_Blocks_init : Fun K "__init__" "Blocks.__init__" s_Blocks_init a_Blocks_init d_Blocks_init
  b_Blocks_init : Binds K d_Blocks_init ["self", "many"] []
  mk_Blocks : Mk K C_Blocks a_Blocks_init
  a_Blocks_states_in : Addr
  d_Blocks_states_in : FuncData
  f_Blocks_states_in : Fun K "states_in" "Blocks.states_in" s_Blocks_states_in a_Blocks_states_in d_Blocks_states_in
  b_Blocks_states_in : Binds K d_Blocks_states_in ["self", "block"] []
  m_Blocks_states_in : Meth K C_Blocks "states_in" a_Blocks_states_in
  a_Blocks_mark : Addr
  d_Blocks_mark : FuncData
  f_Blocks_mark : Fun K "mark" "Blocks.mark" s_Blocks_mark a_Blocks_mark d_Blocks_mark
  b_Blocks_mark : Binds K d_Blocks_mark ["self", "state"] []
  m_Blocks_mark : Meth K C_Blocks "mark" a_Blocks_mark
  a_Blocks_cut : Addr
  d_Blocks_cut : FuncData
  f_Blocks_cut : Fun K "cut" "Blocks.cut" s_Blocks_cut a_Blocks_cut d_Blocks_cut
  b_Blocks_cut : Binds K d_Blocks_cut ["self"] []
  m_Blocks_cut : Meth K C_Blocks "cut" a_Blocks_cut
  a_Blocks_take_out : Addr
  d_Blocks_take_out : FuncData
  f_Blocks_take_out : Fun K "take_out" "Blocks.take_out" s_Blocks_take_out a_Blocks_take_out d_Blocks_take_out
  b_Blocks_take_out : Binds K d_Blocks_take_out ["self", "start", "end"] []
  m_Blocks_take_out : Meth K C_Blocks "take_out" a_Blocks_take_out
  C_Machine : Addr
  g_Machine : mg "Machine" = some (.ref C_Machine)
  cl_Machine : Cls K C_Machine
  na_Machine_letters : NoAttr K C_Machine "letters"
  na_Machine_accepting : NoAttr K C_Machine "accepting"
  na_Machine_table : NoAttr K C_Machine "table"
  a_Machine_init : Addr
  d_Machine_init : FuncData
  f_Machine_init : Fun K "__init__" "Machine.__init__" s_Machine_init a_Machine_init d_Machine_init
  b_Machine_init : Binds K d_Machine_init ["self", "letters", "accepting", "table"] []
  mk_Machine : Mk K C_Machine a_Machine_init
  a_Machine_check : Addr
  d_Machine_check : FuncData
  f_Machine_check : Fun K "check" "Machine.check" s_Machine_check a_Machine_check d_Machine_check
  b_Machine_check : Binds K d_Machine_check ["self"] []
  m_Machine_check : Meth K C_Machine "check" a_Machine_check
  a_Machine_run : Addr
  d_Machine_run : FuncData
  f_Machine_run : Fun K "run" "Machine.run" s_Machine_run a_Machine_run d_Machine_run
  b_Machine_run : Binds K d_Machine_run ["self", "text"] []
  m_Machine_run : Meth K C_Machine "run" a_Machine_run
  a_Machine_run_from : Addr
  d_Machine_run_from : FuncData
  f_Machine_run_from : Fun K "run_from" "Machine.run_from" s_Machine_run_from a_Machine_run_from d_Machine_run_from
  b_Machine_run_from : Binds K d_Machine_run_from ["self", "state", "text"] []
  m_Machine_run_from : Meth K C_Machine "run_from" a_Machine_run_from
  a_Machine_accepts : Addr
  d_Machine_accepts : FuncData
  f_Machine_accepts : Fun K "accepts" "Machine.accepts" s_Machine_accepts a_Machine_accepts d_Machine_accepts
  b_Machine_accepts : Binds K d_Machine_accepts ["self", "text"] []
  m_Machine_accepts : Meth K C_Machine "accepts" a_Machine_accepts
  a_Machine_picture : Addr
  d_Machine_picture : FuncData
  f_Machine_picture : Fun K "picture" "Machine.picture" s_Machine_picture a_Machine_picture d_Machine_picture
  b_Machine_picture : Binds K d_Machine_picture ["self"] []
  m_Machine_picture : Meth K C_Machine "picture" a_Machine_picture
  C_Rewriter : Addr
  g_Rewriter : mg "Rewriter" = some (.ref C_Rewriter)
  cl_Rewriter : Cls K C_Rewriter
  na_Rewriter_letters : NoAttr K C_Rewriter "letters"
  na_Rewriter_lead : NoAttr K C_Rewriter "lead"
  na_Rewriter_finals : NoAttr K C_Rewriter "finals"
  na_Rewriter_table : NoAttr K C_Rewriter "table"
  a_Rewriter_init : Addr
  d_Rewriter_init : FuncData
  f_Rewriter_init : Fun K "__init__" "Rewriter.__init__" s_Rewriter_init a_Rewriter_init d_Rewriter_init
  b_Rewriter_init : Binds K d_Rewriter_init ["self", "letters", "lead", "finals", "table"] []
  mk_Rewriter : Mk K C_Rewriter a_Rewriter_init
  a_Rewriter_check : Addr
  d_Rewriter_check : FuncData
  f_Rewriter_check : Fun K "check" "Rewriter.check" s_Rewriter_check a_Rewriter_check d_Rewriter_check
  b_Rewriter_check : Binds K d_Rewriter_check ["self"] []
  m_Rewriter_check : Meth K C_Rewriter "check" a_Rewriter_check
  a_Rewriter_rewrite : Addr
  d_Rewriter_rewrite : FuncData
  f_Rewriter_rewrite : Fun K "rewrite" "Rewriter.rewrite" s_Rewriter_rewrite a_Rewriter_rewrite d_Rewriter_rewrite
  b_Rewriter_rewrite : Binds K d_Rewriter_rewrite ["self", "text"] []
  m_Rewriter_rewrite : Meth K C_Rewriter "rewrite" a_Rewriter_rewrite
  a_Rewriter_rewrite_from : Addr
  d_Rewriter_rewrite_from : FuncData
  f_Rewriter_rewrite_from : Fun K "rewrite_from" "Rewriter.rewrite_from" s_Rewriter_rewrite_from a_Rewriter_rewrite_from d_Rewriter_rewrite_from
  b_Rewriter_rewrite_from : Binds K d_Rewriter_rewrite_from ["self", "state", "text"] []
  m_Rewriter_rewrite_from : Meth K C_Rewriter "rewrite_from" a_Rewriter_rewrite_from
  a_Rewriter_picture : Addr
  d_Rewriter_picture : FuncData
  f_Rewriter_picture : Fun K "picture" "Rewriter.picture" s_Rewriter_picture a_Rewriter_picture d_Rewriter_picture
  b_Rewriter_picture : Binds K d_Rewriter_picture ["self"] []
  m_Rewriter_picture : Meth K C_Rewriter "picture" a_Rewriter_picture
  c_before_image : Addr
  P_before_image : Addr
  t_before_image : FunT K "before_image" "before_image" s_before_image a_before_image d_before_image c_before_image
  nb_abs : mg "abs" = none
  nb_all : mg "all" = none
  nb_enumerate : mg "enumerate" = none
  nb_int : mg "int" = none
  nb_len : mg "len" = none
  nb_list : mg "list" = none
  nb_max : mg "max" = none
  nb_min : mg "min" = none
  nb_range : mg "range" = none
  nb_repr : mg "repr" = none
  nb_tuple : mg "tuple" = none
def Ps {K : PySem.W.Frag} {mg : Str → Option Value} (T : Txt K mg) : List Addr := [T.P_before_image]
structure Bs {K : PySem.W.Frag} {mg : Str → Option Value} (T : Txt K mg) (base : Heap) : Prop where
  tb_before_image : LamX.TabB base mg T.c_before_image T.P_before_image
  in_before_image : T.P_before_image ∈ Ps T
section
variable {P : Program} {w : World} {K : PySem.W.Frag} {mg : Str → Option Value} {base : Heap}
/-! ### the helpers that all laws have: cells of the script, numbers, a state, the next drawn number -/
def spCell (K : PySem.W.Frag) : Sp := fun vs H Q _ => ∃ (l : Addr) (ns : List Int) (k : Int), vs = [.ref l, .int k] ∧ SqL K H l (ns.map V.int) ∧ 0 ≤ k ∧ ∀ z, Q (.int z) H
theorem ok_cell (T : Txt K mg) : FnOk P w K mg base CX0 1 T.a_cell T.d_cell ["script", "k"] (spCell K) := by
  refine T.f_cell.ok sc_cell (fun vs H Q E h => ?_) (fun cdv A outer s H vs Q E hr h => ?_)
  · obtain ⟨_, _, _, rfl, _⟩ := h; rfl
  · obtain ⟨l, ns, k, rfl, hs, h0, q⟩ := h
    refine ⟨_, (pss_cons (ps_if (pt_cmpR op_ltP (pv 1) (pe_callB (kLen K) (by rfl) T.nb_len (by decide +kernel) (pa_cons (pv 0) pa_nil)) (by first | rfl | exact nomark _))
    (pss_one (ps_ret (pe_ix (kIx K) (pv 0) (pv 1) (fun _ _ => rfl))))
    pss_nil)
  (pss_one (ps_ret pe_int))), ?_⟩
    walk_at "rd"
    refine rd_iteD (fun h1 => ?_) (fun h1 => ?_)
    · walk_at "rd"
      rw [List.length_map] at h1
      refine rd_ixL (v := .int (ns.getD k.toNat 0)) hs ?_ (q _)
      have e : k = (k.toNat : Int) := (Int.toNat_of_nonneg h0).symm
      rw [e]
      refine atI_nat ?_
      rw [List.getElem?_map, Int.toNat_natCast, List.getD_eq_getElem?_getD, List.getElem?_eq_getElem (show k.toNat < ns.length by omega)]
      rfl
    · walk_at "rd"
      exact q 0
/-- numbers from 0 to 999 -/
def Small (ns : List Int) : Prop := ∀ x ∈ ns, 0 ≤ x ∧ x < 1000
theorem Small.more {ns : List Int} {x : Int} (h : Small ns) (h0 : 0 ≤ x) (h1 : x < 1000) : Small (ns ++ [x]) := fun y hy => by
  rcases List.mem_append.mp hy with hy | hy
  · exact h y hy
  · rw [List.mem_singleton.mp hy]; exact ⟨h0, h1⟩
theorem Small.app {ns ms : List Int} (h : Small ns) (k : Small ms) : Small (ns ++ ms) := fun y hy => (List.mem_append.mp hy).elim (h y) (k y)
theorem fmod_small {a m : Int} (h : 0 < m) : 0 ≤ a.fmod m ∧ a.fmod m < m := by
  rw [Int.fmod_eq_emod_of_nonneg _ (Int.le_of_lt h)]
  exact ⟨Int.emod_nonneg _ (by omega), Int.emod_lt_of_pos _ h⟩
/-- a new list of small numbers -/
def spNumbers : Sp := fun vs H Q _ => ∃ (c m : Int), vs = [.int c, .int m] ∧ 0 ≤ m ∧ m ≤ 1000 ∧ ∀ (p : Addr) (ns : List Int) (H' : Hp), H p = none → Ex H H' → H' p = some (.lst (ns.map V.int)) → (ns.length : Int) = m → Small ns → Q (.ref p) H'
theorem append_int {H' : Hp} {p : Addr} {ns : List Int} {D : VK} {K : PySem.W.Frag} {i : Nat} {x : Int} (hp : H' p = some (.lst (ns.map V.int))) (hi : ns.length = i) (hl : i < 100000) (q : D .non (upd H' p (.lst ((ns ++ [x]).map V.int)))) :
    rAppend (.ref p) [.int x] H' D := ⟨p, ns.map V.int, .int x, rfl, rfl, hp, Nat.lt_of_lt_of_le (by rw [List.length_map, hi]; exact hl) (by decide), by rw [List.map_append] at q; exact q⟩
theorem ok_numbers (T : Txt K mg) : FnOk P w K mg base CX0 1 T.a_numbers T.d_numbers ["cell", "many"] spNumbers := by
  refine T.f_numbers.ok sc_numbers (fun vs H Q E h => ?_) (fun cdv A outer s H vs Q E hr h => ?_)
  · obtain ⟨_, _, rfl, _⟩ := h; rfl
  · obtain ⟨c, m, rfl, h0, h1, q⟩ := h
    refine ⟨_, (pss_cons (ps_set (i := 2) sc_numbers.nd rfl (by first | exact Or.inl rfl | exact Or.inr rfl) (pe_callB call_absP (by rfl) T.nb_abs (by decide +kernel) (pa_cons (pv 0) pa_nil)))
  (pss_cons (ps_set (i := 3) sc_numbers.nd rfl (by first | exact Or.inl rfl | exact Or.inr rfl) (pv 2))
  (pss_cons (ps_set (i := 4) sc_numbers.nd rfl (by first | exact Or.inl rfl | exact Or.inr rfl) (pe_lst pa_nil))
  (pss_cons (ps_for PassesOwn.never rfl (pi_range1 (by rfl) T.nb_range (pa_cons (pv 1) pa_nil)) (pg_name (i := 5) sc_numbers.nd rfl (by first | exact Or.inl rfl | exact Or.inr rfl))
    (pss_one (ps_if (PW.pt (pw_and (pt_cmpR op_geP (pv 3) (pe_op op_powP pe_int pe_int) (by first | rfl | exact nomark _)) (pw_and1 (pt_cmpR op_gtP (pv 2) pe_int (by first | rfl | exact nomark _)))))
    (pss_cons (ps_expr (kBm K rfl (pe_bm PySem.F.plainAttrs_list PySem.F.slot_list_append PySem.F.type_list_append mt_append (pv 4) (pa_cons (pe_op op_modP (pe_callTy call_intP (by rfl) T.nb_int (by decide +kernel) (pa_cons (pv 2) pa_nil)) pe_int) pa_nil))))
  (pss_one (ps_set (i := 2) sc_numbers.nd rfl (by first | exact Or.inl rfl | exact Or.inr rfl) (pe_op op_divP (pv 2) pe_int))))
    (pss_cons (ps_set (i := 6) sc_numbers.nd rfl (by first | exact Or.inl rfl | exact Or.inr rfl) (pe_op op_modP (pe_callTy call_intP (by rfl) T.nb_int (by decide +kernel) (pa_cons (pe_op (kAdd K) (pe_op (kAdd K) (pe_op op_mulPP (pv 3) pe_int) (pe_op op_mulPP (pv 5) pe_int)) pe_int) pa_nil)) pe_int))
  (pss_cons (ps_set (i := 6) sc_numbers.nd rfl (by first | exact Or.inl rfl | exact Or.inr rfl) (pe_op op_modP (pe_callTy call_intP (by rfl) T.nb_int (by decide +kernel) (pa_cons (pe_op (kAdd K) (pe_op (kAdd K) (pe_op op_mulPP (pv 6) (pv 6)) (pe_op op_mulPP pe_int (pv 5))) pe_int) pa_nil)) pe_int))
  (pss_one (ps_expr (kBm K rfl (pe_bm PySem.F.plainAttrs_list PySem.F.slot_list_append PySem.F.type_list_append mt_append (pv 4) (pa_cons (pe_op op_modP (pe_callTy call_intP (by rfl) T.nb_int (by decide +kernel) (pa_cons (pe_op op_divP (pv 6) pe_int) pa_nil)) pe_int) pa_nil))))))))))
  (pss_one (ps_ret (pv 4))))))), ?_⟩
    walk_at "rd"
    refine ⟨by decide, fun p hp => ?_⟩
    walk_at "rd"
    refine ⟨_, rfl, by omega, by omega, fo_range (n := m.toNat) (fun i σ H' => ∃ (r : Int) (ns : List Int) (kk mm : Option V), σ = [some (.int c), some (.int m), some (.int r), some (.int (if c < 0 then -c else c)), some (.ref p), kk, mm] ∧ Ex H H' ∧ H' p = some (.lst (ns.map V.int)) ∧ ns.length = i ∧ Small ns)
      ⟨_, [], none, none, rfl, Evl.Ex.new hp, upd_same, rfl, fun x hx => by cases hx⟩ ?_ ?_⟩
    · rintro i σ H' hi ⟨r, ns, kk, mm, rfl, e, hl, hn, sm⟩
      have tl : tyV K "list" (.ref p) H' := .inl ⟨rfl, _, SqL.of hl⟩
      walk_at "rd"
      refine rd_powI ⟨by decide, by decide, by decide⟩ ?_
      walk_at "rd"
      refine rd_ite (fun h2 => ?_) (fun h2 => ?_)
      · walk_at "rd"
        refine rd_ite (fun h3 => ?_) (fun h3 => ?_)
        · walk_at "rd"
          refine ⟨tl, ?_⟩
          walk_at "rd"
          refine rd_modI (by decide) ?_
          walk_at "rd"
          refine append_int (K := K) hl hn (by omega) ?_
          walk_at "rd"
          refine rd_divI ⟨by decide, by decide⟩ ?_
          walk_at "rd"
          have fm := fmod_small (a := r) (m := 1000) (by decide)
          exact ⟨_, ns ++ [_], _, _, rfl, Evl.Ex.mut e hp, upd_same, by rw [List.length_append, hn]; rfl, sm.more fm.1 fm.2⟩
        · walk_at "rd"
          refine rd_mulN (.inr ⟨by decide, by decide⟩) ?_
          walk_at "rd"
          refine rd_mulN (.inr ⟨by decide, by decide⟩) ?_
          walk_at "rd"
          refine rd_modI (by decide) ?_
          walk_at "rd"
          have fa := fmod_small (a := (if c < 0 then -c else c) * 48271 + (i : Int) * 69621 + 11) (m := 2147483647) (by decide)
          refine rd_mulN (.inl ⟨by omega, by omega⟩) ?_
          walk_at "rd"
          refine rd_mulN (.inl ⟨by decide, by decide⟩) ?_
          walk_at "rd"
          refine rd_modI (by decide) ?_
          walk_at "rd"
          refine ⟨tl, ?_⟩
          walk_at "rd"
          refine rd_divI ⟨by decide, by decide⟩ ?_
          walk_at "rd"
          refine rd_modI (by decide) ?_
          walk_at "rd"
          refine append_int (K := K) hl hn (by omega) ?_
          have fm := fun a : Int => fmod_small (a := a) (m := 1000) (by decide)
          exact ⟨_, ns ++ [_], _, _, rfl, Evl.Ex.mut e hp, upd_same, by rw [List.length_append, hn]; rfl, sm.more (fm _).1 (fm _).2⟩
      · walk_at "rd"
        refine rd_mulN (.inr ⟨by decide, by decide⟩) ?_
        walk_at "rd"
        refine rd_mulN (.inr ⟨by decide, by decide⟩) ?_
        walk_at "rd"
        refine rd_modI (by decide) ?_
        walk_at "rd"
        have fa := fmod_small (a := (if c < 0 then -c else c) * 48271 + (i : Int) * 69621 + 11) (m := 2147483647) (by decide)
        refine rd_mulN (.inl ⟨by omega, by omega⟩) ?_
        walk_at "rd"
        refine rd_mulN (.inl ⟨by decide, by decide⟩) ?_
        walk_at "rd"
        refine rd_modI (by decide) ?_
        walk_at "rd"
        refine ⟨tl, ?_⟩
        walk_at "rd"
        refine rd_divI ⟨by decide, by decide⟩ ?_
        walk_at "rd"
        refine rd_modI (by decide) ?_
        walk_at "rd"
        refine append_int (K := K) hl hn (by omega) ?_
        have fm := fun a : Int => fmod_small (a := a) (m := 1000) (by decide)
        exact ⟨_, ns ++ [_], _, _, rfl, Evl.Ex.mut e hp, upd_same, by rw [List.length_append, hn]; rfl, sm.more (fm _).1 (fm _).2⟩
    · rintro σ H' ⟨r, ns, kk, mm, rfl, e, hl, hn, sm⟩
      walk_at "rd"
      exact q p ns H' hp e hl (by omega) sm
/-- a state: the numbers, the place -/
def StAt (H : Hp) (p : Addr) : Prop := ∃ (l : Addr) (ns : List Int) (place : Int), H p = some (.lst [.ref l, .int place]) ∧ H l = some (.lst (ns.map V.int)) ∧ Small ns ∧ 0 < ns.length ∧ ns.length ≤ 100000 ∧ 0 ≤ place
theorem StAt.ex {H H' : Hp} {p : Addr} (h : StAt H p) (e : Ex H H') : StAt H' p := by
  obtain ⟨l, ns, pl, h1, h2, h3⟩ := h
  exact ⟨l, ns, pl, e _ _ h1, e _ _ h2, h3⟩
def spState (K : PySem.W.Frag) : Sp := fun vs H Q _ => ∃ (l : Addr) (ns : List Int) (st many : Int), vs = [.ref l, .int st, .int many] ∧ SqL K H l (ns.map V.int) ∧ 0 ≤ st ∧ st ≤ 1000 ∧ 0 < many ∧ many ≤ 1000 ∧
  ∀ (p : Addr) (H' : Hp), H p = none → Ex H H' → StAt H' p → Q (.ref p) H'
theorem ok_state (T : Txt K mg) : FnOk P w K mg base CX0 2 T.a_state T.d_state ["script", "start", "many"] (spState K) := by
  refine T.f_state.ok sc_state (fun vs H Q E h => ?_) (fun cdv A outer s H vs Q E hr h => ?_)
  · obtain ⟨_, _, _, _, rfl, _⟩ := h; rfl
  · obtain ⟨l, ns, st, many, rfl, hs, h0, h1, h2, h3, q⟩ := h
    refine ⟨_, (pss_cons (ps_set (i := 3) sc_state.nd rfl (by first | exact Or.inl rfl | exact Or.inr rfl) (pe_lst pa_nil))
  (pss_cons (ps_for PassesOwn.never rfl (pi_range2 (by rfl) T.nb_range (pa_cons (pv 1) (pa_cons (pe_op (kAdd K) (pv 1) (pv 2)) pa_nil))) (pg_name (i := 4) sc_state.nd rfl (by first | exact Or.inl rfl | exact Or.inr rfl))
    (pss_cons (ps_set (i := 5) sc_state.nd rfl (by first | exact Or.inl rfl | exact Or.inr rfl) (pe_callE (ok_cell T) (hr.mono (by decide)) T.o_cell (pa_cons (pv 0) (pa_cons (pv 4) pa_nil))))
  (pss_cons (ps_if (pt_cmpR op_ltP (pe_callB call_absP (by rfl) T.nb_abs (by decide +kernel) (pa_cons (pv 5) pa_nil)) (pe_op op_powP pe_int pe_int) (by first | rfl | exact nomark _))
    (pss_one (ps_set (i := 5) sc_state.nd rfl (by first | exact Or.inl rfl | exact Or.inr rfl) (pe_op (kAdd K) (pe_op op_mulPP (pv 5) pe_int) (pv 4))))
    pss_nil)
  (pss_one (ps_set (i := 3) sc_state.nd rfl (by first | exact Or.inl rfl | exact Or.inr rfl) (pe_op (kAdd K) (pv 3) (pe_callE (ok_numbers T) (hr.mono (by decide)) T.o_numbers (pa_cons (pv 5) (pa_cons pe_int pa_nil)))))))))
  (pss_one (ps_ret (pe_lst (pa_cons (pv 3) (pa_cons pe_int pa_nil))))))), ?_⟩
    walk_at "rd"
    refine ⟨by decide, fun p hp => ?_⟩
    walk_at "rd"
    refine ⟨_, _, rfl, ⟨by omega, by omega, by omega, by omega⟩, fo_range2 (lo := st) (n := (st + many - st).toNat) (fun i σ H' => ∃ (p2 : Addr) (ms : List Int) (kk cc : Option V), σ = [some (.ref l), some (.int st), some (.int many), some (.ref p2), kk, cc] ∧ Ex H H' ∧ H p2 = none ∧ H' p2 = some (.lst (ms.map V.int)) ∧ ms.length = i * 20 ∧ Small ms)
      ⟨p, [], none, none, rfl, Evl.Ex.new hp, hp, upd_same, rfl, fun x hx => by cases hx⟩ ?_ ?_⟩
    · rintro i σ H' hi ⟨p2, ms, kk, cc, rfl, e, hp2, hl, hn, sm⟩
      walk_at "rd"
      refine ⟨l, ns, _, rfl, Evl.ex_l e hs, by omega, fun z => ?_⟩
      walk_at "rd"
      refine rd_powI ⟨by decide, by decide, by decide⟩ ?_
      walk_at "rd"
      have hi2 : i < 1000 := by omega
      have fin : ∀ (z2 : Int) (cc : Option V), cc = some (.int z2) → tAsg (tOp (oAdd K) (tVar 3) (tCalled spNumbers (tCons (tVar 5) (tCons (tC (.int 20)) tNil)))) (gName 3)
          { nx := fun σ H' => ∃ (p2 : Addr) (ms : List Int) (kk cc : Option V), σ = [some (.ref l), some (.int st), some (.int many), some (.ref p2), kk, cc] ∧ Ex H H' ∧ H p2 = none ∧ H' p2 = some (.lst (ms.map V.int)) ∧ ms.length = (i + 1) * 20 ∧ Small ms, rt := Q } [some (.ref l), some (.int st), some (.int many), some (.ref p2), some (.int (st + (i : Int))), cc] H' := by
        rintro z2 cc rfl
        walk_at "rd"
        refine ⟨z2, 20, rfl, by decide, by decide, fun p3 ns3 H3 hp3 e3 hl3 hn3 sm3 => ?_⟩
        refine rd_cat (e3 _ _ hl) hl3 ?_ fun p4 hp4 => ?_
        · rw [List.length_map, List.length_map, hn]
          refine Nat.le_trans (show i * 20 + ns3.length ≤ 100000 by omega) (by decide)
        · walk_at "rd"
          refine ⟨p4, ms ++ ns3, _, _, rfl, ex_upd (e.trans e3) hp4, Evl.fresh_back (e.trans e3) hp4, ?_, ?_, sm.app sm3⟩
          · rw [upd_same, List.map_append]
          · rw [List.length_append, hn]; omega
      refine rd_ite (fun h4 => ?_) (fun h4 => ?_)
      · walk_at "rd"
        refine rd_mulN (.inr ⟨by decide, by decide⟩) ?_
        walk_at "rd1"
        walk_at "rd1"
        walk_at "rd1"
        walk_at "rd1"
        exact fin _ _ rfl
      · exact fin _ _ rfl
    · rintro σ H' ⟨p2, ms, kk, cc, rfl, e, hp2, hl, hn, sm⟩
      walk_at "rd"
      refine ⟨by show 2 ≤ sizeLine; decide, fun p3 hp3 => ?_⟩
      refine q p3 _ (Evl.fresh_back e hp3) (ex_upd e hp3) ⟨p2, ms, 0, upd_same, ?_, sm, by omega, by omega, by decide⟩
      rw [upd_ne (ne_of_none hl hp3)]
      exact hl
/-- the same list within -/
def SameIn (p : Addr) (H H' : Hp) : Prop := ∀ (l : Addr) (n : V), H p = some (.lst [.ref l, n]) → ∃ n', H' p = some (.lst [.ref l, n'])
theorem SameIn.trans {p : Addr} {H H1 H2 : Hp} (a : SameIn p H H1) (b : SameIn p H1 H2) : SameIn p H H2 := fun l n e => by
  obtain ⟨n1, e1⟩ := a l n e
  exact b l n1 e1
theorem SameIn.ex {p : Addr} {H H1 H2 : Hp} (a : SameIn p H H1) (b : Ex H1 H2) : SameIn p H H2 := fun l n e => by
  obtain ⟨n1, e1⟩ := a l n e
  exact ⟨n1, b _ _ e1⟩
/-- the next number below many: any -/
def spNext : Sp := fun vs H Q _ => ∃ (p : Addr) (many : Int), vs = [.ref p, .int many] ∧ 0 < many ∧ StAt H p ∧ ∀ (r : Int) (H' : Hp), 0 ≤ r → r < many → StAt H' p → (∀ b o, b ≠ p → H b = some o → H' b = some o) → ((∀ b, H b = none → H' b = none) ∧ SameIn p H H') → Q (.int r) H'
theorem ok_next (T : Txt K mg) : FnOk P w K mg base CX0 1 T.a_next T.d_next ["state", "many"] spNext := by
  refine T.f_next.ok sc_next (fun vs H Q E h => ?_) (fun cdv A outer s H vs Q E hr h => ?_)
  · obtain ⟨_, _, rfl, _⟩ := h; rfl
  · obtain ⟨p, many, rfl, hm, ⟨l, ns, place, h1, h2, sm, l0, l1, p0⟩, q⟩ := h
    have lp : l ≠ p := fun z => by
      rw [z, h1] at h2
      have y := HO.lst.inj (Option.some.inj h2)
      cases ns with
      | nil => cases l0
      | cons a r => cases y
    refine ⟨_, (pss_cons (ps_set (i := 2) sc_next.nd rfl (by first | exact Or.inl rfl | exact Or.inr rfl) (pe_ix (kIx K) (pv 0) pe_int (fun _ _ => rfl)))
  (pss_cons (ps_set (i := 3) sc_next.nd rfl (by first | exact Or.inl rfl | exact Or.inr rfl) (pe_ix (kIx K) (pv 0) pe_int (fun _ _ => rfl)))
  (pss_cons (ps_asg (pe_op (kAdd K) (pv 3) pe_int) (pg_sub (pv 0) pe_int set_list))
  (pss_one (ps_ret (pe_op op_modP (pe_callTy call_intP (by rfl) T.nb_int (by decide +kernel) (pa_cons (pe_op (kAdd K) (pe_ix (kIx K) (pv 2) (pe_op op_modP (pv 3) (pe_callB (kLen K) (by rfl) T.nb_len (by decide +kernel) (pa_cons (pv 2) pa_nil))) (fun _ _ => rfl)) (pe_op op_mulPP (pe_op op_divP (pv 3) (pe_callB (kLen K) (by rfl) T.nb_len (by decide +kernel) (pa_cons (pv 2) pa_nil))) pe_int)) pa_nil)) (pv 1))))))), ?_⟩
    walk_at "rd"
    refine rd_ixL (v := .ref l) (SqL.of h1) (atI_nat (j := 0) rfl) ?_
    walk_at "rd"
    refine rd_ixL (v := .int place) (SqL.of h1) (atI_nat (j := 1) rfl) ?_
    walk_at "rd"
    refine ⟨p, _, 1, 1, rfl, rfl, h1, rfl, ?_⟩
    have h2' : upd H p (.lst (([.ref l, .int place] : List V).set 1 (.int (place + 1)))) l = some (.lst (ns.map V.int)) := by rw [upd_ne lp]; exact h2
    have hq : SqL K (upd H p (.lst (([.ref l, .int place] : List V).set 1 (.int (place + 1))))) l (ns.map V.int) := SqL.of h2'
    walk_at "rd"
    have lz : ((ns.map V.int).length : Int) = ns.length := by rw [List.length_map]
    refine rd_modI (by rw [lz]; omega) ?_
    rw [lz]
    have fm := fmod_small (a := place) (m := (ns.length : Int)) (by omega)
    have e : place.fmod (ns.length : Int) = ((place.fmod (ns.length : Int)).toNat : Int) := (Int.toNat_of_nonneg fm.1).symm
    refine rd_ixL (v := .int (ns.getD (place.fmod (ns.length : Int)).toNat 0)) hq ?_ ?_
    · rw [e]
      refine atI_nat ?_
      rw [List.getElem?_map, Int.toNat_natCast, List.getD_eq_getElem?_getD, List.getElem?_eq_getElem (show (place.fmod (ns.length : Int)).toNat < ns.length by omega)]
      rfl
    · walk_at "rd"
      refine rd_divI ⟨by rw [lz]; omega, by rw [lz]; omega⟩ ?_
      walk_at "rd"
      refine rd_mulN (.inr ⟨by decide, by decide⟩) ?_
      walk_at "rd"
      refine rd_modI (by omega) ?_
      have fr := fun a : Int => fmod_small (a := a) (m := many) hm
      refine q _ _ (fr _).1 (fr _).2 ⟨l, ns, place + 1, upd_same, h2', sm, l0, l1, by omega⟩ (fun b o hb ho => ?_) ⟨fun b hb => ?_, fun l' n' e => ⟨.int (place + 1), ?_⟩⟩
      · rw [upd_ne hb]; exact ho
      · rw [upd_ne (fun z => by rw [z, h1] at hb; cases hb)]; exact hb
      · rw [h1] at e
        have e2 := HO.lst.inj (Option.some.inj e)
        rw [upd_same, ← (List.cons.inj e2).1]
        rfl
/-! ### letters and texts -/
theorem ok_init (T : Txt K mg) : FnOk P w K mg base CX0 1 T.a_init T.d_init ["self", "what"] (spInit K) := by
  refine T.f_init.ok sc_init (fun vs H Q E h => ?_) (fun cdv A outer s H vs Q E hr h => ?_)
  · obtain ⟨_, _, _, rfl, _⟩ := h; rfl
  · obtain ⟨a, C, v, rfl, T1, nw, ha, q⟩ := h
    refine ⟨_, pss_one (ps_ost (pv 0) (pv 1)), ?_⟩
    exact ⟨_, rfl, _, rfl, a, C, rfl, T1, nw, .inl ⟨ha, q⟩⟩
/-! ### drawn letters -/
/-- the state at p goes on; what stood stands -/
structure Dr (p : Addr) (H H' : Hp) : Prop where
  st : StAt H' p
  old : ∀ b o, b ≠ p → H b = some o → H' b = some o
  inn : SameIn p H H'
theorem Dr.trans {p : Addr} {H H1 H2 : Hp} (a : Dr p H H1) (b : Dr p H1 H2) : Dr p H H2 := ⟨b.st, fun c o hc q => b.old c o hc (a.old c o hc q), a.inn.trans b.inn⟩
theorem Dr.ex {p : Addr} {H H1 H2 : Hp} (a : Dr p H H1) (e : Ex H1 H2) : Dr p H H2 := ⟨a.st.ex e, fun c o hc q => e c o (a.old c o hc q), a.inn.ex e⟩
theorem Dr.refl {p : Addr} {H : Hp} (h : StAt H p) : Dr p H H := ⟨h, fun _ _ _ q => q, fun _ n e => ⟨n, e⟩⟩
theorem StAt.some {H : Hp} {p : Addr} (h : StAt H p) : ∃ o, H p = some o := by
  obtain ⟨l, ns, pl, h1, _⟩ := h
  exact ⟨_, h1⟩
/-- new since H0: all of H0 stands -/
theorem Dr.from {p : Addr} {H0 H H' : Hp} (e : Ex H0 H) (hp : H0 p = none) (d : Dr p H H') : Ex H0 H' := fun b o q => d.old b o (ne_of_none q hp) (e b o q)
abbrev PL : Str := "abcdefghijklmnopqrstuvwxyzABCDEFGHIJKLMNOPQRSTUVWXYZ0123456789<>=:_@#"
theorem okS_PL : okS PL := by unfold okS; decide +kernel
theorem pl_len : PL.length = 69 := by decide +kernel
theorem okS_nil : okS "" := by unfold okS; decide +kernel
theorem str_len (x y : Str) : (x ++ y).length = x.length + y.length := by
  rw [TL.len_tl, TL.len_tl, TL.len_tl, TL.tl_append, List.length_append]
theorem at_str {z : Str} {r : Int} (h0 : 0 ≤ r) (h : r < z.length) : ∃ c, atI z.cps.toList r = some c ∧ c ∈ z.cps.toList := by
  obtain ⟨n, rfl⟩ := Int.eq_ofNat_of_zero_le h0
  have hl : n < z.cps.toList.length := by
    have : z.cps.toList.length = z.length := rfl
    omega
  exact ⟨z.cps.toList[n], atI_nat (List.getElem?_eq_getElem hl), List.getElem_mem hl⟩
/-- an alphabet of at most so many letters -/
structure Alpha (z : Str) (most : Nat) : Prop where
  l0 : 0 < z.length
  l1 : z.length ≤ most
  ok : okS z
  nd : z.cps.toList.Nodup
  pl : ∀ c ∈ z.cps.toList, c ∈ PL.cps.toList
def spLetters : Sp := fun vs H Q _ => ∃ (p : Addr) (most : Nat), vs = [.ref p, .int (most : Int)] ∧ 0 < most ∧ most ≤ 100 ∧ StAt H p ∧ ∀ (z : Str) (H' : Hp), Alpha z most → Dr p H H' → Q (.str z) H'
theorem ok_letters (T : Txt K mg) : FnOk P w K mg base CX0 2 T.a_letters T.d_letters ["state", "most"] spLetters := by
  refine T.f_letters.ok sc_letters (fun vs H Q E h => ?_) (fun cdv A outer s H vs Q E hr h => ?_)
  · obtain ⟨_, _, rfl, _⟩ := h; rfl
  · obtain ⟨p, most, rfl, h0, h1, hS, q⟩ := h
    refine ⟨_, (pss_cons (ps_set (i := 2) sc_letters.nd rfl (by first | exact Or.inl rfl | exact Or.inr rfl) pe_str)
  (pss_cons (ps_set (i := 3) sc_letters.nd rfl (by first | exact Or.inl rfl | exact Or.inr rfl) pe_str)
  (pss_cons (ps_for PassesOwn.never rfl (pi_range1 (by rfl) T.nb_range (pa_cons (pe_op (kAdd K) pe_int (pe_callE (ok_next T) (hr.mono (by decide)) T.o_next (pa_cons (pv 0) (pa_cons (pv 1) pa_nil)))) pa_nil)) (pg_name (i := 4) sc_letters.nd rfl (by first | exact Or.inl rfl | exact Or.inr rfl))
    (pss_cons (ps_set (i := 5) sc_letters.nd rfl (by first | exact Or.inl rfl | exact Or.inr rfl) (pe_ix (kIx K) (pv 2) (pe_callE (ok_next T) (hr.mono (by decide)) T.o_next (pa_cons (pv 0) (pa_cons pe_int pa_nil))) (fun _ _ => rfl)))
  (pss_one (ps_if (pt_cmpR (kNotIn K) (pv 5) (pv 3) (by first | rfl | exact nomark _))
    (pss_one (ps_set (i := 3) sc_letters.nd rfl (by first | exact Or.inl rfl | exact Or.inr rfl) (pe_op (kAdd K) (pv 3) (pv 5))))
    pss_nil))))
  (pss_one (ps_ret (pv 3)))))), ?_⟩
    walk_at "rc"
    walk_at "rs"
    walk_at "rc"
    refine ⟨p, most, rfl, by omega, hS, fun r H1 r0 r1 S1 k1 i1 => ?_⟩
    walk_at "rc"
    refine ⟨1 + r, rfl, by omega, by omega, fo_range (n := (1 + r).toNat) (fun i σ H' => ∃ (z : Str) (kk ll : Option V), σ = [some (.ref p), some (.int (most : Int)), some (.str PL), some (.str z), kk, ll] ∧ (0 < i → 0 < z.length) ∧ z.length ≤ i ∧ okS z ∧ z.cps.toList.Nodup ∧ (∀ c ∈ z.cps.toList, c ∈ PL.cps.toList) ∧ Dr p H H')
      ⟨"", none, none, rfl, fun z => absurd z (Nat.lt_irrefl 0), Nat.le_refl 0, okS_nil, List.nodup_nil, (fun c hc => nomatch hc), ⟨S1, k1, i1.2⟩⟩ ?_ ?_⟩
    · rintro i σ H' hi ⟨z, kk, ll, rfl, g0, g1, g2, g3, g4, g5⟩
      walk_at "rc"
      refine ⟨p, 69, rfl, by decide, g5.st, fun r2 H2 r20 r21 S2 k2 i2 => ?_⟩
      obtain ⟨c, hc, cm⟩ := at_str (z := PL) r20 (by rw [pl_len]; exact r21)
      refine rd_ixS (by rw [pl_len]; decide) hc ?_
      walk_at "rc"
      have d2 : Dr p H H2 := g5.trans ⟨S2, k2, i2.2⟩
      refine rd_iteN (fun h3 => ?_) (fun h3 => ?_)
      · walk_at "rc"
        refine rd_addS (Nat.le_trans (show z.length + 1 ≤ 1000 by omega) (by decide)) ?_
        walk_at "rc"
        have e : (z ++ (⟨#[c]⟩ : Str)).cps.toList = z.cps.toList ++ [c] := TL.tl_append z ⟨#[c]⟩
        refine ⟨_, _, _, rfl, fun _ => by rw [str_len]; exact Nat.succ_pos _, by rw [str_len]; exact Nat.succ_le_succ g1, okS_app g2 (okS_one okS_PL cm), ?_, fun d hd => ?_, d2⟩
        · rw [e]
          exact List.nodup_append.mpr ⟨g3, List.nodup_cons.mpr ⟨List.not_mem_nil, List.nodup_nil⟩, fun a ha b hb q => by
            rw [List.mem_singleton.mp hb] at q
            rw [q] at ha
            exact h3 ha⟩
        · rw [e] at hd
          rcases List.mem_append.mp hd with y | y
          · exact g4 d y
          · rw [List.mem_singleton.mp y]; exact cm
      · walk_at "rc"
        refine ⟨_, _, _, rfl, fun _ => ?_, Nat.le_succ_of_le g1, g2, g3, g4, d2⟩
        cases e : z.cps.toList with
        | nil => rw [e] at h3; cases h3
        | cons a l =>
          have e2 : z.length = z.cps.toList.length := rfl
          rw [e2, e]
          exact Nat.succ_pos _
    · rintro σ H' ⟨z, kk, ll, rfl, g0, g1, g2, g3, g4, g5⟩
      walk_at "rc"
      exact q z H' ⟨g0 (by omega), by omega, g2, g3, g4⟩ g5
/-! ### drawing, with data -/
/-- a list that was not there may change -/
theorem Dr.put {p r : Addr} {H H' : Hp} {o : HO} (hS : StAt H p) (d : Dr p H H') (hr : H r = none) : Dr p H (upd H' r o) := by
  obtain ⟨l, ns, pl, h1, h2, _⟩ := hS
  have nS : ∀ b u, b ≠ r → H' b = some u → upd H' r o b = some u := fun b u hb z => by rw [upd_ne hb]; exact z
  have rp : p ≠ r := ne_of_none h1 hr
  obtain ⟨n1, e1⟩ := d.inn l _ h1
  refine ⟨?_, fun b u hb z => nS _ _ (ne_of_none z hr) (d.old b u hb z), fun l2 n2 e2 => ?_⟩
  · obtain ⟨l3, ns3, pl3, g1, g2, g3⟩ := d.st
    rw [e1] at g1
    have e4 := (List.cons.inj (HO.lst.inj (Option.some.inj g1))).1
    have e5 : l = l3 := by cases e4; rfl
    subst e5
    refine ⟨l, ns3, pl3, nS _ _ rp ?_, nS _ _ (ne_of_none h2 hr) g2, g3⟩
    rw [e1, g1]
  · obtain ⟨n3, e3⟩ := d.inn l2 n2 e2
    exact ⟨n3, nS _ _ rp e3⟩
theorem Dr.back {p r : Addr} {H H' : Hp} (hS : StAt H p) (d : Dr p H H') (h : H' r = none) : H r = none := by
  cases q : H r with
  | none => rfl
  | some o =>
    by_cases e : r = p
    · subst e
      obtain ⟨o2, h2⟩ := d.st.some
      rw [h] at h2; cases h2
    · rw [d.old r o e q] at h; cases h
theorem Dr.kp {p : Addr} {S : List Addr} {H H' : Hp} (d : Dr p H H') (hp : p ∈ S) : Kp S H H' := fun b o hb q => d.old b o (fun z => hb (z ▸ hp)) q
theorem Dr.st' {p c : Addr} {H H' : Hp} (d : Dr p H H') (h : ∃ o, H c = some o) : ∃ o, H' c = some o := by
  obtain ⟨o, h⟩ := h
  by_cases e : c = p
  · rw [e]; exact d.st.some
  · exact ⟨o, d.old c o e h⟩
theorem tr_dr {p : Addr} {S : List Addr} {H : Hp} (hS : StAt H p) (hp : p ∈ S) : Tr S H (Dr p) :=
  ⟨Dr.refl hS, fun d => Dr.refl d.st, fun d h => d.st' h, fun a b => a.trans b, fun h d => d.put hS h, fun d => d.kp hp⟩
theorem map_ofD {α : Type} {f : α → PyData} {S : α → Prop} : ∀ (vs : List PyData), (∀ (i : Nat) v, vs[i]? = some v → ∃ a, v = f a ∧ S a) → ∃ as : List α, vs = as.map f ∧ ∀ a ∈ as, S a
  | [], _ => ⟨[], rfl, fun a h => by cases h⟩
  | v :: vs, h => by
    obtain ⟨a, e, s⟩ := h 0 v rfl
    obtain ⟨as, e2, s2⟩ := map_ofD vs fun i v hv => h (i + 1) v (by simpa using hv)
    exact ⟨a :: as, by rw [e, e2]; rfl, fun b hb => by
      rcases List.mem_cons.mp hb with z | z
      · rw [z]; exact s
      · exact s2 b z⟩
theorem rng_Y {n : Nat} : ∀ (i : Nat) (H : Hp) (x : V) (H' : Hp), i < n → (H' = H ∧ x = V.int (i : Nat)) → H' = H ∧ (x = V.int (i : Nat)) := fun _ _ _ _ _ y => y
/-! ### machines -/
/-- a list or a tuple of these values stands there -/
def SqA (K : PySem.W.Frag) (H : Hp) (a : Addr) (xs : List V) : Prop := SqL K H a xs ∨ SqT K H a xs
theorem SqA.ex {H H' : Hp} {a : Addr} {xs : List V} (h : SqA K H a xs) (e : Ex H H') : SqA K H' a xs := h.elim (fun z => .inl (Evl.ex_l e z)) fun z => .inr (Evl.ex_t e z)
/-- rows of ints: where each stands -/
inductive RowsA (K : PySem.W.Frag) (H : Hp) : List Addr → List (List Int) → Prop
  | nil : RowsA K H [] []
  | cons {r : Addr} {rs : List Addr} {ns : List Int} {tab : List (List Int)} : SqA K H r (ns.map V.int) → RowsA K H rs tab → RowsA K H (r :: rs) (ns :: tab)
inductive RowsT (K : PySem.W.Frag) (H : Hp) : List Addr → List (List Int) → Prop
  | nil : RowsT K H [] []
  | cons {r : Addr} {rs : List Addr} {ns : List Int} {tab : List (List Int)} : SqT K H r (ns.map V.int) → RowsT K H rs tab → RowsT K H (r :: rs) (ns :: tab)
theorem RowsA.len {H : Hp} : ∀ {rs : List Addr} {tab : List (List Int)}, RowsA K H rs tab → rs.length = tab.length
  | _, _, .nil => rfl
  | _, _, .cons _ t => congrArg Nat.succ t.len
theorem RowsT.len {H : Hp} : ∀ {rs : List Addr} {tab : List (List Int)}, RowsT K H rs tab → rs.length = tab.length
  | _, _, .nil => rfl
  | _, _, .cons _ t => congrArg Nat.succ t.len
theorem RowsA.ex {H H' : Hp} (e : Ex H H') : ∀ {rs : List Addr} {tab : List (List Int)}, RowsA K H rs tab → RowsA K H' rs tab
  | _, _, .nil => .nil
  | _, _, .cons h t => .cons (h.ex e) (t.ex e)
theorem RowsT.ex {H H' : Hp} (e : Ex H H') : ∀ {rs : List Addr} {tab : List (List Int)}, RowsT K H rs tab → RowsT K H' rs tab
  | _, _, .nil => .nil
  | _, _, .cons h t => .cons (Evl.ex_t e h) (t.ex e)
theorem RowsA.get {H : Hp} : ∀ {rs : List Addr} {tab : List (List Int)} {i : Nat} {r : Addr}, RowsA K H rs tab → rs[i]? = some r → ∃ ns, tab[i]? = some ns ∧ SqA K H r (ns.map V.int)
  | _, _, _, _, .nil, e => by simp at e
  | _, _, 0, _, .cons h _, e => by simp at e; subst e; exact ⟨_, rfl, h⟩
  | _, _, i + 1, _, .cons _ t, e => by
    obtain ⟨ns, h1, h2⟩ := t.get (i := i) (by simpa using e)
    exact ⟨ns, by simpa using h1, h2⟩
theorem RowsT.get {H : Hp} : ∀ {rs : List Addr} {tab : List (List Int)} {i : Nat} {r : Addr}, RowsT K H rs tab → rs[i]? = some r → ∃ ns, tab[i]? = some ns ∧ SqT K H r (ns.map V.int)
  | _, _, _, _, .nil, e => by simp at e
  | _, _, 0, _, .cons h _, e => by simp at e; subst e; exact ⟨_, rfl, h⟩
  | _, _, i + 1, _, .cons _ t, e => by
    obtain ⟨ns, h1, h2⟩ := t.get (i := i) (by simpa using e)
    exact ⟨ns, by simpa using h1, h2⟩
theorem RowsT.get2 {H : Hp} : ∀ {rs : List Addr} {tab : List (List Int)} {i : Nat} {ns : List Int}, RowsT K H rs tab → tab[i]? = some ns → ∃ r, rs[i]? = some r ∧ SqT K H r (ns.map V.int)
  | _, _, _, _, .nil, e => by simp at e
  | _, _, 0, _, .cons h _, e => by simp at e; subst e; exact ⟨_, rfl, h⟩
  | _, _, i + 1, _, .cons _ t, e => by
    obtain ⟨r, h1, h2⟩ := t.get2 (i := i) (by simpa using e)
    exact ⟨r, by simpa using h1, h2⟩
/-- rows, one by one -/
theorem RowsT.of {H : Hp} : ∀ {tab : List (List Int)} {vs : List V}, vs.length = tab.length → (∀ (i : Nat) v, vs[i]? = some v → ∃ (r : Addr) (ns : List Int), v = V.ref r ∧ tab[i]? = some ns ∧ SqT K H r (ns.map V.int)) → ∃ rs, vs = rs.map V.ref ∧ RowsT K H rs tab
  | [], [], _, _ => ⟨[], rfl, .nil⟩
  | [], _ :: _, h, _ => by cases h
  | _ :: _, [], h, _ => by cases h
  | ns :: tab, v :: vs, h, g => by
    obtain ⟨r, ms, e1, e2, e3⟩ := g 0 v rfl
    have e2' : ns = ms := Option.some.inj e2
    subst e2'
    subst e1
    obtain ⟨rs, e4, e5⟩ := RowsT.of (tab := tab) (vs := vs) (Nat.succ.inj h) fun i v hv => g (i + 1) v (by simpa using hv)
    exact ⟨r :: rs, by rw [e4]; rfl, .cons e3 e5⟩
def mFields (ls : Str) (ta tt : Addr) : List (Str × V) := [("letters", .str ls), ("accepting", .ref ta), ("table", .ref tt)]
/-- a machine stands at m -/
def MachineAt (K : PySem.W.Frag) (C : Addr) (H : Hp) (m : Addr) (ls : Str) (acc : List Bool) (tab : List (List Int)) : Prop := ∃ (dx ta tt : Addr) (rs : List Addr), H m = some (.ins C dx (mFields ls ta tt)) ∧ SqT K H ta (acc.map V.bl) ∧ SqT K H tt (rs.map V.ref) ∧ RowsT K H rs tab
theorem MachineAt.ex {C : Addr} {H H' : Hp} {m : Addr} {ls : Str} {acc : List Bool} {tab : List (List Int)} (h : MachineAt K C H m ls acc tab) (e : Ex H H') : MachineAt K C H' m ls acc tab := by
  obtain ⟨dx, ta, tt, rs, h1, h2, h3, h4⟩ := h
  exact ⟨dx, ta, tt, rs, e _ _ h1, Evl.ex_t e h2, Evl.ex_t e h3, h4.ex e⟩
def goodM (ls : Str) (acc : List Bool) (tab : List (List Int)) : Prop := acc.length ≠ 0 ∧ tab.length = acc.length ∧ ∀ row ∈ tab, row.length = ls.length ∧ ∀ x ∈ row, 0 ≤ x ∧ x < (acc.length : Int)
/-- what stood is as it was, but at m -/
def But (m : Addr) (H H' : Hp) : Prop := ∀ b o, b ≠ m → H b = some o → H' b = some o
theorem But.ex {m : Addr} {H H' H2 : Hp} (h : But m H H') (e : Ex H' H2) : But m H H2 := fun b o hb q => e b o (h b o hb q)
theorem foldl_min_le (n : Int) : ∀ ns : List Int, (∀ x ∈ n :: ns, ns.foldl min n ≤ x) ∧ ns.foldl min n ∈ n :: ns
  | [] => ⟨fun x hx => by rw [List.mem_singleton.mp hx]; exact Int.le_refl _, List.mem_cons_self⟩
  | k :: ns => by
    have ih := foldl_min_le (min n k) ns
    rw [List.foldl_cons]
    have h0 := ih.1 _ List.mem_cons_self
    refine ⟨fun x hx => ?_, ?_⟩
    · rcases List.mem_cons.mp hx with e | hx
      · rw [e]; omega
      · rcases List.mem_cons.mp hx with e | hx
        · rw [e]; omega
        · exact ih.1 x (List.mem_cons_of_mem _ hx)
    · rcases List.mem_cons.mp ih.2 with e | e
      · rw [e]
        rcases Int.le_total n k with z | z
        · rw [Int.min_eq_left z]; exact List.mem_cons_self
        · rw [Int.min_eq_right z]; exact List.mem_cons_of_mem _ List.mem_cons_self
      · exact List.mem_cons_of_mem _ (List.mem_cons_of_mem _ e)
theorem foldl_max_ge (n : Int) : ∀ ns : List Int, (∀ x ∈ n :: ns, x ≤ ns.foldl max n) ∧ ns.foldl max n ∈ n :: ns
  | [] => ⟨fun x hx => by rw [List.mem_singleton.mp hx]; exact Int.le_refl _, List.mem_cons_self⟩
  | k :: ns => by
    have ih := foldl_max_ge (max n k) ns
    rw [List.foldl_cons]
    have h0 := ih.1 _ List.mem_cons_self
    refine ⟨fun x hx => ?_, ?_⟩
    · rcases List.mem_cons.mp hx with e | hx
      · rw [e]; omega
      · rcases List.mem_cons.mp hx with e | hx
        · rw [e]; omega
        · exact ih.1 x (List.mem_cons_of_mem _ hx)
    · rcases List.mem_cons.mp ih.2 with e | e
      · rw [e]
        rcases Int.le_total n k with z | z
        · rw [Int.max_eq_right z]; exact List.mem_cons_of_mem _ List.mem_cons_self
        · rw [Int.max_eq_left z]; exact List.mem_cons_self
      · exact List.mem_cons_of_mem _ (List.mem_cons_of_mem _ e)
section
variable (T : Txt K mg)
def spCheck : Sp := fun vs H Q E => ∃ (m : Addr) (ls : Str) (acc : List Bool) (tab : List (List Int)), vs = [.ref m] ∧ 0 < ls.length ∧ ls.length ≤ 1000000 ∧ MachineAt K T.C_Machine H m ls acc tab ∧ (goodM ls acc tab → Q .non H) ∧ (¬ goodM ls acc tab → ∀ d, H d = none → E (.ref T.C_BadMachine) (some d) (upd H d (.xd [("what", .non)])))
theorem ok_Machine_check : FnOk P w K mg base (L2.CX P w) 4 T.a_Machine_check T.d_Machine_check ["self"] (spCheck T) := by
  refine T.f_Machine_check.okX sc_Machine_check (fun vs H Q E h => ?_) (fun cdv A outer s H vs Q E hr h => ?_)
  · obtain ⟨_, _, _, _, rfl, _⟩ := h; rfl
  · obtain ⟨m, ls, acc, tab, rfl, l0, l1, ⟨dx, ta, tt, rs, hm, hA, hT, hR⟩, qy, qn⟩ := h
    have lz : ls.length ≤ sizeLine := Nat.le_trans l1 (by decide)
    have rl := hR.len
    refine ⟨_, (pss_cons (ps_set (i := 1) sc_Machine_check.nd rfl (by first | exact Or.inl rfl | exact Or.inr rfl) (pe_callB (kLen K) (by rfl) T.nb_len (by decide +kernel) (pa_cons (kFld K rfl (pe_fld (pv 0) rfl)) pa_nil)))
  (pss_cons (ps_if (PW.pt (pw_or (pt_cmpR (kEq K rfl hr.units) (pv 1) pe_int (by first | rfl | exact nomark _)) (pw_or1 (pt_cmpR (kNe K rfl hr.units) (pe_callB (kLen K) (by rfl) T.nb_len (by decide +kernel) (pa_cons (kFld K rfl (pe_fld (pv 0) rfl)) pa_nil)) (pv 1) (by first | rfl | exact nomark _)))))
    (pss_one (ps_raiseW rfl T.x_BadMachine (ok_init T) T.tI T.bI (hr.mono (by decide)) T.g_BadMachine (takes_of rfl rfl rfl rfl) (pa_cons pe_non pa_nil) (MonoA.one mono_c)))
    pss_nil)
  (pss_one (ps_for (passes_of rfl) rfl (kAny K rfl (kFld K rfl (pe_fld (pv 0) rfl))) (pg_name (i := 2) sc_Machine_check.nd rfl (by first | exact Or.inl rfl | exact Or.inr rfl))
    (pss_one (ps_if (PW.pt (pw_or (pt_cmpR (kNe K rfl hr.units) (pe_callB (kLen K) (by rfl) T.nb_len (by decide +kernel) (pa_cons (pv 2) pa_nil)) (pe_callB (kLen K) (by rfl) T.nb_len (by decide +kernel) (pa_cons (kFld K rfl (pe_fld (pv 0) rfl)) pa_nil)) (by first | rfl | exact nomark _)) (pw_or (pt_cmpR op_ltP (pe_callB (kMin K rfl hr.units) (by rfl) T.nb_min (by decide +kernel) (pa_cons (pv 2) pa_nil)) pe_int (by first | rfl | exact nomark _)) (pw_or1 (pt_cmpR op_geP (pe_callB (kMax K rfl hr.units) (by rfl) T.nb_max (by decide +kernel) (pa_cons (pv 2) pa_nil)) (pv 1) (by first | rfl | exact nomark _))))))
    (pss_one (ps_raiseW rfl T.x_BadMachine (ok_init T) T.tI T.bI (hr.mono (by decide)) T.g_BadMachine (takes_of rfl rfl rfl rfl) (pa_cons pe_non pa_nil) (MonoA.one mono_c)))
    pss_nil)))))), ?_⟩
    walk_at "rc"
    refine ⟨m, T.C_Machine, dx, _, _, rfl, hm, T.cl_Machine, T.na_Machine_accepting, rfl, ?_⟩
    walk_at "rc"
    walk_at "rs"
    walk_at "rc"
    refine rd_iteD (fun h1 => ?_) (fun h1 => ?_)
    · walk_at "rc"
      exact qn fun g => g.1 (by rw [List.length_map] at h1; omega)
    · walk_at "rc"
      refine ⟨m, T.C_Machine, dx, _, _, rfl, hm, T.cl_Machine, T.na_Machine_table, rfl, ?_⟩
      walk_at "rc"
      refine rd_iteN (fun h2 => ?_) (fun h2 => ?_)
      · walk_at "rc"
        exact qn fun g => h2 (by rw [List.length_map, List.length_map, rl, g.2.1])
      · rw [List.length_map, List.length_map, rl] at h2
        walk_at "rc"
        refine rd_anyT (a := tt) (xs := rs.map V.ref) (fun Q q => ?_) hT (fo_tup (fun i σ H' => (∃ v, σ = [some (.ref m), some (.int ((acc.map V.bl).length : Nat)), v]) ∧ H' = H ∧ ∀ row ∈ tab.take i, row.length = ls.length ∧ ∀ x ∈ row, 0 ≤ x ∧ x < (acc.length : Int)) ⟨⟨none, rfl⟩, rfl, fun row hrow => by rw [List.take_zero] at hrow; cases hrow⟩ (fun i σ H' _ p => by rw [p.2.1]; exact hT) ?_ ?_)
        · walk_at "rc"
          exact ⟨m, T.C_Machine, dx, _, _, rfl, hm, T.cl_Machine, T.na_Machine_table, rfl, q⟩
        · rintro i x σ H' hi ⟨⟨v, rfl⟩, rfl, hp⟩
          rw [List.getElem?_map] at hi
          cases hri : rs[i]? with
          | none => rw [hri] at hi; cases hi
          | some r =>
            rw [hri] at hi
            obtain rfl : V.ref r = x := Option.some.inj hi
            obtain ⟨ns, ht, hs⟩ := hR.get hri
            have hmem : ns ∈ tab := List.mem_of_getElem? ht
            walk_at "rc"
            refine ⟨m, T.C_Machine, dx, _, _, rfl, hm, T.cl_Machine, T.na_Machine_letters, rfl, ?_⟩
            walk_at "rc"
            refine rd_lenS lz ?_
            walk_at "rc"
            refine rd_iteN (fun h3 => ?_) (fun h3 => ?_)
            · walk_at "rc"
              exact qn fun g => h3 (by rw [List.length_map, (g.2.2 ns hmem).1])
            · rw [List.length_map] at h3
              walk_at "rc"
              cases ns with
              | nil => have z : (0 : Int) = ls.length := h3; omega
              | cons n0 ns =>
                have mn := foldl_min_le n0 ns
                have mx := foldl_max_ge n0 ns
                refine ⟨r, n0, ns, rfl, hs, ?_⟩
                walk_at "rc"
                refine rd_iteD (fun h4 => ?_) (fun h4 => ?_)
                · walk_at "rc"
                  exact qn fun g => by have := ((g.2.2 _ hmem).2 _ mn.2).1; omega
                · walk_at "rc"
                  refine ⟨r, n0, ns, rfl, hs, ?_⟩
                  walk_at "rc"
                  rw [List.length_map]
                  refine rd_iteD (fun h5 => ?_) (fun h5 => ?_)
                  · walk_at "rc"
                    exact qn fun g => by have := ((g.2.2 _ hmem).2 _ mx.2).2; omega
                  · walk_at "rc"
                    refine ⟨⟨_, rfl⟩, rfl, fun row hrow => ?_⟩
                    rw [List.take_succ, ht] at hrow
                    rcases List.mem_append.mp hrow with z | z
                    · exact hp row z
                    · have e : row = n0 :: ns := by simpa using z
                      rw [e]
                      exact ⟨by omega, fun x hx => ⟨by have := mn.1 x hx; omega, by have := mx.1 x hx; omega⟩⟩
        · rintro σ H' ⟨⟨v, rfl⟩, rfl, hp⟩
          rw [List.length_map, rl, List.take_length] at hp
          exact qy ⟨fun z => h1 (by rw [List.length_map, z]; rfl), by omega, hp⟩
/-- Machine(letters, accepting, table) -/
def spMInit : Sp := fun vs H Q E => ∃ (m dx pa pt : Addr) (ls : Str) (acc : List Bool) (rs : List Addr) (tab : List (List Int)), vs = [.ref m, .str ls, .ref pa, .ref pt] ∧ 0 < ls.length ∧ ls.length ≤ 1000000 ∧ H m = some (.ins T.C_Machine dx []) ∧
  SqA K H pa (acc.map V.bl) ∧ SqA K H pt (rs.map V.ref) ∧ RowsA K H rs tab ∧ tab.length < 100000 ∧
  (goodM ls acc tab → ∀ H', But m H H' → MachineAt K T.C_Machine H' m ls acc tab → (SqL K H pa (acc.map V.bl) → ∃ dx' ta tt, H' m = some (.ins T.C_Machine dx' (mFields ls ta tt)) ∧ TupF H' ta (acc.map V.bl)) → Q .non H') ∧ (¬ goodM ls acc tab → ∀ d H', But m H H' → H d = none → H' d = some (.xd [("what", .non)]) → E (.ref T.C_BadMachine) (some d) H')
theorem SqA.tup {pa : Addr} {xs : List V} {H : Hp} {Q : VK} (h : SqA K H pa xs) (q : ∀ ta H', Ex H H' → SqT K H' ta xs → (∀ b, H b = none ∧ H' b ≠ none → b = ta) → Q (.ref ta) H') : cTupOf K [.ref pa] H Q := by
  rcases h with h | h
  · refine rd_tupL h fun l hl => q l _ (Evl.Ex.new hl) (Evl.st_of upd_same) fun b hb => ?_
    by_cases e : b = l
    · exact e
    · rw [upd_ne e] at hb
      exact absurd hb.1 hb.2
  · exact rd_tupT h (q pa _ (Evl.Ex.refl H) h fun b hb => absurd hb.1 hb.2)
theorem SqA.tupF {pa : Addr} {xs : List V} {H : Hp} {Q : VK} (h : SqA K H pa xs) (q : ∀ ta H', Ex H H' → SqT K H' ta xs → (SqL K H pa xs → TupF H' ta xs) → Q (.ref ta) H') : cTupOf K [.ref pa] H Q ∨ cTupF K [.ref pa] H Q := by
  by_cases z : SqL K H pa xs
  · refine .inr ⟨pa, xs, rfl, z, fun l o hl hc hd => ?_⟩
    have tf : TupF (upd H l (.frz o (.tup xs))) l xs := ⟨o, upd_same, hc, hd⟩
    exact q l _ (Evl.Ex.new hl) tf.sq fun _ => tf
  · exact .inl (h.tup fun ta H' e ht _ => q ta H' e ht fun y => absurd y z)
theorem But.of_upd {m : Addr} {H : Hp} {o : HO} : But m H (upd H m o) := fun b u hb q => by rw [upd_ne hb]; exact q
theorem But.trans {m : Addr} {H H1 H2 : Hp} (a : But m H H1) (b : But m H1 H2) : But m H H2 := fun c o hc q => b c o hc (a c o hc q)
theorem Ex.but {m : Addr} {H H' : Hp} (e : Ex H H') : But m H H' := fun b o _ q => e b o q
theorem But.sqt {m a : Addr} {H H' : Hp} {xs : List V} {o : HO} (k : But m H H') (hm : H m = some o) (no : ∀ ys, o ≠ .tup ys) (nf : ∀ ob u, o ≠ .frz ob u) (h : SqT K H a xs) : SqT K H' a xs := by
  rcases h with (h | ⟨ob, h⟩) | h
  · exact .inl (.inl (k _ _ (fun z => by rw [z, hm] at h; exact no _ (Option.some.inj h)) h))
  · exact .inl (.inr ⟨ob, k _ _ (fun z => by rw [z, hm] at h; exact nf _ _ (Option.some.inj h)) h⟩)
  · exact .inr h
theorem But.sql {m a : Addr} {H H' : Hp} {xs : List V} {o : HO} (k : But m H H') (hm : H m = some o) (no : ∀ ys, o ≠ .lst ys) (nf : ∀ ob u, o ≠ .frz ob u) (h : SqL K H a xs) : SqL K H' a xs := by
  rcases h with (h | ⟨ob, h⟩) | h
  · exact .inl (.inl (k _ _ (fun z => by rw [z, hm] at h; exact no _ (Option.some.inj h)) h))
  · exact .inl (.inr ⟨ob, k _ _ (fun z => by rw [z, hm] at h; exact nf _ _ (Option.some.inj h)) h⟩)
  · exact .inr h
theorem But.sqa {m a C dx : Addr} {H H' : Hp} {xs : List V} {fs : List (Str × V)} (k : But m H H') (hm : H m = some (.ins C dx fs)) (h : SqA K H a xs) : SqA K H' a xs :=
  h.elim (fun z => .inl (k.sql hm (fun _ z => by cases z) (fun _ _ z => by cases z) z)) fun z => .inr (k.sqt hm (fun _ z => by cases z) (fun _ _ z => by cases z) z)
theorem But.rowsA {m C dx : Addr} {H H' : Hp} {fs : List (Str × V)} (k : But m H H') (hm : H m = some (.ins C dx fs)) : ∀ {rs : List Addr} {tab : List (List Int)}, RowsA K H rs tab → RowsA K H' rs tab
  | _, _, .nil => .nil
  | _, _, .cons h t => .cons (k.sqa hm h) (k.rowsA hm t)
theorem But.rowsT {m C dx : Addr} {H H' : Hp} {fs : List (Str × V)} (k : But m H H') (hm : H m = some (.ins C dx fs)) : ∀ {rs : List Addr} {tab : List (List Int)}, RowsT K H rs tab → RowsT K H' rs tab
  | _, _, .nil => .nil
  | _, _, .cons h t => .cons (k.sqt hm (fun _ z => by cases z) (fun _ _ z => by cases z) h) (k.rowsT hm t)
theorem sqt_hide {L r : Addr} {H : Hp} {xs vs : List V} (hL : H L = some (.lst vs)) (h : SqT K H r xs) : SqT K (hide L H) r xs := by
  rcases h with (h | ⟨ob, h⟩) | h
  · exact .inl (.inl (by rw [hide_ne (fun z => by rw [z, hL] at h; cases h)]; exact h))
  · exact .inl (.inr ⟨ob, by rw [hide_ne (fun z => by rw [z, hL] at h; cases h)]; exact h⟩)
  · exact .inr h
theorem RowsA.get2 {H : Hp} : ∀ {rs : List Addr} {tab : List (List Int)} {i : Nat}, RowsA K H rs tab → i < rs.length → ∃ r ns, rs[i]? = some r ∧ tab[i]? = some ns ∧ SqA K H r (ns.map V.int)
  | _, _, _, .nil, e => by cases e
  | _, _, 0, .cons h _, _ => ⟨_, _, rfl, rfl, h⟩
  | _, _, i + 1, .cons _ t, e => by
    obtain ⟨r, ns, h1, h2, h3⟩ := t.get2 (i := i) (Nat.lt_of_succ_lt_succ e)
    exact ⟨r, ns, by simpa using h1, by simpa using h2, h3⟩
/-- [tuple(row) for row in table] -/
theorem lc_rows {j : Nat} {σ : L2.St} {H : Hp} {Q : VK} {pt : Addr} {rs : List Addr} {tab : List (List Int)} {te : TE} (he : ∀ Q : VK, Q (.ref pt) H → te σ H Q) (hj : ∀ v : V, ((wipe σ [j]).set j (some v))[j]? = some (some v)) (hn : tab.length < 100000) (hT : SqA K H pt (rs.map V.ref)) (hR : RowsA K H rs tab)
    (h : ∀ L rs2 Hc, H L = none → Ex H Hc → Hc L = some (.lst (rs2.map V.ref)) → RowsT K (hide L Hc) rs2 tab → Q (.ref L) Hc) : iAny K te σ H (lcB (gName j) tYes (tCB (cTupOf K) (tCons (tVar j) tNil)) [j] σ Q) := by
  have rl := hR.len
  have xl : (rs.map V.ref).length = rs.length := List.length_map ..
  have el : ∀ L i Hc, i < (rs.map V.ref).length → H L = none → (∃ vs, Hc L = some (.lst vs)) → Ex H Hc → ∀ N : VK, (∀ v H2, Ex Hc H2 → (∃ (r : Addr) (ns : List Int), v = V.ref r ∧ tab[i]? = some ns ∧ SqT K (hide L H2) r (ns.map V.int)) → N v H2) →
      tCB (cTupOf K) (tCons (tVar j) tNil) ((wipe σ [j]).set j (some ((rs.map V.ref).getD i .non))) Hc N := by
    intro L i Hc hi hL ⟨vs, hv⟩ e N hN
    rw [xl] at hi
    obtain ⟨r, ns, h1, h2, h3⟩ := hR.get2 hi
    have ex : (rs.map V.ref).getD i .non = .ref r := by rw [List.getD_eq_getElem?_getD, List.getElem?_map, h1]; rfl
    rw [ex]
    refine ⟨_, hj _, ?_⟩
    rcases h3.ex e with h3 | h3
    · refine rd_tupL h3 fun l hl => hN _ _ (Evl.Ex.new hl) ⟨l, ns, rfl, h2, ?_⟩
      refine .inl (.inl ?_)
      rw [hide_ne (Ne.symm (ne_of_none hv hl)), upd_same]
    · exact rd_tupT h3 (hN _ _ (Evl.Ex.refl _) ⟨r, ns, rfl, h2, sqt_hide hv h3⟩)
  have fin : ∀ L vs Hc, H L = none → Ex H Hc → Hc L = some (.lst vs) → vs.length = (rs.map V.ref).length → (∀ (i : Nat) v, vs[i]? = some v → ∃ (r : Addr) (ns : List Int), v = V.ref r ∧ tab[i]? = some ns ∧ SqT K (hide L Hc) r (ns.map V.int)) → Q (.ref L) Hc := by
    intro L vs Hc hL e hv hl g
    obtain ⟨rs2, rfl, h2⟩ := RowsT.of (tab := tab) (by rw [hl, xl, rl]) g
    exact h L rs2 Hc hL e hv h2
  have yl : ∀ (i : Nat) (H : Hp) (x : V) (H' : Hp), i < (rs.map V.ref).length → YAt (rs.map V.ref) i H x H' → H' = H ∧ x = (rs.map V.ref).getD i .non := fun i H x H' _ y => ⟨y.1, by rw [List.getD_eq_getElem?_getD, y.2]; rfl⟩
  have mR : ∀ (i : Nat) (v : V) (H1 H2 : Hp), Ex H1 H2 → (∃ (r : Addr) (ns : List Int), v = V.ref r ∧ tab[i]? = some ns ∧ SqT K H1 r (ns.map V.int)) → ∃ (r : Addr) (ns : List Int), v = V.ref r ∧ tab[i]? = some ns ∧ SqT K H2 r (ns.map V.int) := fun i v H1 H2 e ⟨r, ns, a, b, c⟩ => ⟨r, ns, a, b, Evl.ex_t e c⟩
  rcases hT with hT | hT
  · exact rd_anyL he hT (lc_new (fun i v H => ∃ (r : Addr) (ns : List Int), v = V.ref r ∧ tab[i]? = some ns ∧ SqT K H r (ns.map V.int)) walk_list yl (by rw [xl, rl]; exact hn) (fun Hc e => Evl.ex_l e hT) mR el fin)
  · exact rd_anyT he hT (lc_new (fun i v H => ∃ (r : Addr) (ns : List Int), v = V.ref r ∧ tab[i]? = some ns ∧ SqT K H r (ns.map V.int)) walk_tup yl (by rw [xl, rl]; exact hn) (fun Hc e => Evl.ex_t e hT) mR el fin)
theorem ok_Machine_init : FnOk P w K mg base (L2.CX P w) 5 T.a_Machine_init T.d_Machine_init ["self", "letters", "accepting", "table"] (spMInit T) := by
  refine T.f_Machine_init.okX sc_Machine_init (fun vs H Q E h => ?_) (fun cdv A outer s H vs Q E hr h => ?_)
  · obtain ⟨_, _, _, _, _, _, _, _, rfl, _⟩ := h; rfl
  · obtain ⟨m, dx, pa, pt, ls, acc, rs, tab, rfl, l0, l1, hm, hA, hT, hR, hn, qy, qn⟩ := h
    refine ⟨_, (pss_cons (kSf K rfl (ps_fld (pv 0) (pv 1) rfl))
  (pss_cons (kSf K rfl (ps_fld (pv 0) (pe_callTy (CallR.or (kTupOf K) (kTupF K)) (by rfl) T.nb_tuple (by decide +kernel) (pa_cons (pv 2) pa_nil)) rfl))
  (pss_cons (kSf K rfl (ps_fld (pv 0) (pe_callTy (kTupOf K) (by rfl) T.nb_tuple (by decide +kernel) (pa_cons (pe_lc (own := [("row", 4)]) (g := gName 4) (tt := tYes) (by rfl) sc_Machine_init.nd (kAny K rfl (pv 3)) (blkOk_by (own := [("row", 4)]) (N := ["self", "letters", "accepting", "table", "row"]) (sc := defScope s_Machine_init) (by decide +kernel)) (fun _ _ _ _ _ => (pg_name (i := 4) sc_Machine_init.nd rfl (by first | exact Or.inl rfl | exact Or.inr rfl))) (fun _ _ _ _ _ => pts_nil) (fun _ _ _ _ _ => (pe_callTy (kTupOf K) (by rfl) T.nb_tuple (by decide +kernel) (pa_cons (pv 4) pa_nil)))) pa_nil)) rfl))
  (pss_one (ps_expr (pe_methR0 T.m_Machine_check T.cl_Machine (pv 0) (ok_Machine_check T) (hr.mono (by decide)) T.b_Machine_check (takes_of rfl rfl rfl rfl))))))), ?_⟩
    walk_at "rs"
    walk_at "rc"
    refine ⟨m, T.C_Machine, dx, [], rfl, hm, T.cl_Machine, T.na_Machine_letters, by show 0 < 1000; decide, ?_⟩
    have k1 : But m H (upd H m (.ins T.C_Machine dx (putF "letters" (.str ls) []))) := But.of_upd
    generalize hH1 : upd H m (.ins T.C_Machine dx (putF "letters" (.str ls) [])) = H1 at k1
    have m1 : H1 m = some (.ins T.C_Machine dx [("letters", .str ls)]) := by rw [← hH1]; exact upd_same
    walk_at "rs"
    walk_at "rc"
    refine (k1.sqa hm hA).tupF fun ta H2 e2 hta htf => ?_
    have m2 := e2 _ _ m1
    walk_at "rc"
    refine ⟨m, T.C_Machine, dx, _, rfl, m2, T.cl_Machine, T.na_Machine_accepting, by show 1 < 1000; decide, ?_⟩
    have k3 : But m H2 (upd H2 m (.ins T.C_Machine dx (putF "accepting" (.ref ta) [("letters", .str ls)]))) := But.of_upd
    generalize hH3 : upd H2 m (.ins T.C_Machine dx (putF "accepting" (.ref ta) [("letters", .str ls)])) = H3 at k3
    have m3 : H3 m = some (.ins T.C_Machine dx [("letters", .str ls), ("accepting", .ref ta)]) := by rw [← hH3]; exact upd_same
    have ka : But m H H3 := (k1.ex e2).trans k3
    have hta3 : SqT K H3 ta (acc.map V.bl) := k3.sqt m2 (fun _ z => by cases z) (fun _ _ z => by cases z) hta
    walk_at "rs"
    walk_at "rc"
    refine lc_rows (fun Q q => ⟨_, rfl, q⟩) (fun v => rfl) hn (ka.sqa hm hT) (ka.rowsA hm hR) fun L rs2 Hc hL ec hLc hRc => ?_
    walk_at "rc"
    refine rd_tupL (SqL.of hLc) fun tt htt => ?_
    have e5 : Ex Hc (upd Hc tt (.tup (rs2.map V.ref))) := Evl.Ex.new htt
    have hRT := (hRc.ex hide_ex).ex e5
    generalize hH5 : upd Hc tt (.tup (rs2.map V.ref)) = H5 at e5 hRT
    have htt5 : SqT K H5 tt (rs2.map V.ref) := by rw [← hH5]; exact Evl.st_of upd_same
    have m5 := e5 _ _ (ec _ _ m3)
    walk_at "rc"
    refine ⟨m, T.C_Machine, dx, _, rfl, m5, T.cl_Machine, T.na_Machine_table, by show 2 < 1000; decide, ?_⟩
    have k6 : But m H5 (upd H5 m (.ins T.C_Machine dx (putF "table" (.ref tt) [("letters", .str ls), ("accepting", .ref ta)]))) := But.of_upd
    generalize hH6 : upd H5 m (.ins T.C_Machine dx (putF "table" (.ref tt) [("letters", .str ls), ("accepting", .ref ta)])) = H6 at k6
    have m6 : H6 m = some (.ins T.C_Machine dx (mFields ls ta tt)) := by rw [← hH6]; exact upd_same
    have kz : But m H H6 := ((ka.ex ec).ex e5).trans k6
    have ma : MachineAt K T.C_Machine H6 m ls acc tab := ⟨dx, ta, tt, rs2, m6, k6.sqt m5 (fun _ z => by cases z) (fun _ _ z => by cases z) (Evl.ex_t (ec.trans e5) hta3), k6.sqt m5 (fun _ z => by cases z) (fun _ _ z => by cases z) htt5, k6.rowsT m5 hRT⟩
    walk_at "rc"
    refine ⟨m, dx, _, rfl, m6, rfl, ?_⟩
    walk_at "rc"
    refine ⟨m, ls, acc, tab, rfl, l0, l1, ma, fun g => ?_, fun g d hd => ?_⟩
    · refine qy g H6 kz ma fun z => ⟨dx, ta, tt, m6, ?_⟩
      obtain ⟨o, z1, z2⟩ := htf (k1.sql hm (fun _ z => by cases z) (fun _ _ z => by cases z) z)
      have nm : ta ≠ m := fun y => by rw [y, m2] at z1; cases z1
      exact ⟨o, k6 ta _ nm ((ec.trans e5) _ _ (k3 ta _ nm z1)), z2⟩
    · refine qn g d _ (kz.ex (Evl.Ex.new hd)) ?_ upd_same
      cases q0 : H d with
      | none => rfl
      | some o =>
        by_cases hdm : d = m
        · rw [hdm, m6] at hd; cases hd
        · rw [kz d o hdm q0] at hd; cases hd
end
/-! ### states that are led to -/
def nI (n : Nat) : PyData := .int (n : Int)
/-- rows of numbers, in lists or in tuples -/
def RowsN (ds : List PyData) (tab : List (List Nat)) : Prop := ds.length = tab.length ∧ ∀ (i : Nat) d row, ds[i]? = some d → tab[i]? = some row → d = .list (row.map nI) ∨ d = .tuple (row.map nI)
structure Grf (tab : List (List Nat)) : Prop where
  n : tab.length ≤ 1000
  b : ∀ row ∈ tab, ∀ x ∈ row, x < tab.length
inductive Rch (tab : List (List Nat)) (st : List Nat) : Nat → Prop
  | st {s : Nat} : s ∈ st → Rch tab st s
  | go {s t : Nat} : Rch tab st s → t ∈ tab.getD s [] → Rch tab st t
theorem RowsN.get {K : PySem.W.Frag} {H : Hp} {ds : List PyData} {tab : List (List Nat)} {i : Nat} {d : PyData} {v : V} (h : RowsN ds tab) (hd : ds[i]? = some d) (q : Dp K H v d) : ∃ row, tab[i]? = some row ∧ tab.getD i [] = row ∧ SqD K H v (row.map nI) := by
  have hl : i < tab.length := by rw [← h.1]; exact (List.getElem?_eq_some_iff.mp hd).1
  have e : tab[i]? = some tab[i] := List.getElem?_eq_getElem hl
  refine ⟨_, e, by rw [List.getD_eq_getElem?_getD, e]; rfl, ?_⟩
  rcases h.2 i d _ hd e with z | z <;> subst z
  · exact .inl q
  · exact .inr q
theorem rd_ixSq {K : PySem.W.Frag} {H0 H : Hp} {x : V} {ds : List PyData} {i : Nat} {d : PyData} {Q : VK} (e : Ex H0 H) (h : SqD K H0 x ds) (hi : ds[i]? = some d) (q : ∀ v, Dp K H0 v d → Q v H) : rIx K x (.int (i : Int)) H Q := by
  rcases h with h | h
  · exact rd_ixDL e h hi q
  · exact rd_ixDT e h hi q
theorem sq_at {K : PySem.W.Frag} {H0 : Hp} {x : V} {ds : List PyData} {i : Nat} {d : PyData} (h : SqD K H0 x ds) (hi : ds[i]? = some d) : ∃ v, Dp K H0 v d ∧ ∀ H, Ex H0 H → ∀ Q : VK, Q v H → rIx K x (.int (i : Int)) H Q := by
  rcases h with h | h
  · obtain ⟨a, vs, rfl, h1, h2⟩ := Dp.lstv h
    obtain ⟨v, g1, g2⟩ := h2.get hi
    exact ⟨v, g2, fun H e Q q => rd_ixL (Evl.ex_l e h1) (atI_nat g1) q⟩
  · obtain ⟨a, vs, rfl, h1, h2⟩ := Dp.tupv h
    obtain ⟨v, g1, g2⟩ := h2.get hi
    exact ⟨v, g2, fun H e Q q => rd_ixT (Evl.ex_t e h1) (atI_nat g1) q⟩
theorem rd_lenSq {K : PySem.W.Frag} {H0 H : Hp} {x : V} {ds : List PyData} {Q : VK} (e : Ex H0 H) (h : SqD K H0 x ds) (q : Q (.int (ds.length : Int)) H) : cLen K [x] H Q := by
  rcases h with h | h
  · exact rd_lenDL e h q
  · exact rd_lenDT e h q
def vI (n : Nat) : V := .int (n : Int)
theorem dp_nats {K : PySem.W.Frag} {H : Hp} : ∀ {vs : List V} {ss : List Nat}, DpAll K H vs (ss.map nI) → vs = ss.map vI
  | _, [], .nil => rfl
  | _, s :: ss, .cons h t => by
    cases Dp.int_iff h
    rw [dp_nats t]
    rfl
theorem rep_bl (n : Nat) : (List.replicate n [V.bl false]).flatten = (List.replicate n false).map V.bl := by
  induction n with
  | zero => rfl
  | succ n ih =>
    rw [List.replicate_succ, List.flatten_cons, ih, List.replicate_succ]
    rfl
theorem rd_bm0 {K : PySem.W.Frag} {T : String} {r : V → List V → Hp → VK → Prop} {to : TE} {σ : L2.St} {H : Hp} {Q : VK} (h : to σ H fun x H1 => tyV K T x H1 ∧ r x [] H1 Q) : tBM0 K T r to σ H Q := h
/-- what is found, what waits -/
def nT (tab : List (List Nat)) : PyData := .tuple (tab.map fun row => .tuple (row.map nI))
def nL (tab : List (List Nat)) : PyData := .list (tab.map fun row => .list (row.map nI))
theorem rowsN_T (tab : List (List Nat)) : RowsN (tab.map fun row => .tuple (row.map nI)) tab := ⟨List.length_map .., fun i d row h1 h2 => by
  rw [List.getElem?_map, h2] at h1
  exact .inr (Option.some.inj h1).symm⟩
theorem rowsN_L (tab : List (List Nat)) : RowsN (tab.map fun row => .list (row.map nI)) tab := ⟨List.length_map .., fun i d row h1 h2 => by
  rw [List.getElem?_map, h2] at h1
  exact .inl (Option.some.inj h1).symm⟩
theorem getD_set {bk : List (List Nat)} {t : Nat} {r : List Nat} (h : t < bk.length) (u : Nat) : (bk.set t r).getD u [] = if u = t then r else bk.getD u [] := by
  rw [List.getD_eq_getElem?_getD, List.getD_eq_getElem?_getD]
  by_cases e : u = t
  · rw [if_pos e, e, List.getElem?_set_self h]; rfl
  · rw [if_neg e, List.getElem?_set_ne (Ne.symm e)]
/-! ### useful states -/
def MachD (K : PySem.W.Frag) (C : Addr) (H : Hp) (m : Addr) (ls : Str) (acc : List Bool) (tab : List (List Nat)) : Prop := ∃ dx ta tt, H m = some (.ins C dx (mFields ls ta tt)) ∧ Dp K H (.ref ta) (.tuple (acc.map PyData.bool)) ∧ Dp K H (.ref tt) (nT tab)
theorem MachD.ex {C : Addr} {H H' : Hp} {m : Addr} {ls : Str} {acc : List Bool} {tab : List (List Nat)} (h : MachD K C H m ls acc tab) (e : Ex H H') : MachD K C H' m ls acc tab := by
  obtain ⟨dx, ta, tt, h1, h2, h3⟩ := h
  exact ⟨dx, ta, tt, e _ _ h1, h2.ex e, h3.ex e⟩
inductive Lv (acc : List Bool) (tab : List (List Nat)) : Nat → Prop
  | st {s : Nat} : acc[s]? = some true → Lv acc tab s
  | go {s t : Nat} : t ∈ tab.getD s [] → Lv acc tab t → Lv acc tab s
structure GM (acc : List Bool) (tab : List (List Nat)) : Prop where
  p : 0 < acc.length
  e : tab.length = acc.length
  g : Grf tab
  w : ∀ row ∈ tab, row.length ≤ 100
def Usf (acc : List Bool) (tab : List (List Nat)) (s : Nat) : Prop := Rch tab [0] s ∧ Lv acc tab s
theorem Grf.at' {tab : List (List Nat)} (g : Grf tab) {s t : Nat} (h : t ∈ tab.getD s []) : s < tab.length ∧ t < tab.length := by
  rcases Nat.lt_or_ge s tab.length with hs | hs
  · have e : tab.getD s [] = tab[s] := by rw [List.getD_eq_getElem?_getD, List.getElem?_eq_getElem hs]; rfl
    rw [e] at h
    exact ⟨hs, g.b _ (List.getElem_mem hs) t h⟩
  · rw [List.getD_eq_getElem?_getD, List.getElem?_eq_none hs] at h
    cases h
theorem Rch.lt {tab : List (List Nat)} {st : List Nat} (g : Grf tab) (hst : ∀ s ∈ st, s < tab.length) {s : Nat} (h : Rch tab st s) : s < tab.length := by
  cases h with
  | st h => exact hst _ h
  | go _ h => exact (g.at' h).2
theorem Lv.lt {acc : List Bool} {tab : List (List Nat)} (m : GM acc tab) {s : Nat} (h : Lv acc tab s) : s < acc.length := by
  cases h with
  | st h => exact (List.getElem?_eq_some_iff.mp h).1
  | go h _ => rw [← m.e]; exact (m.g.at' h).1
def tabF (n w : Nat) (f : Nat → Nat → Nat) : List (List Nat) := (List.range n).map fun s => (List.range w).map (f s)
theorem tabF_mem {n w : Nat} {f : Nat → Nat → Nat} {s t : Nat} : t ∈ (tabF n w f).getD s [] ↔ s < n ∧ ∃ j, j < w ∧ f s j = t := by
  unfold tabF
  rw [List.getD_eq_getElem?_getD, List.getElem?_map]
  rcases Nat.lt_or_ge s n with h | h
  · rw [List.getElem?_range h]
    show t ∈ (List.range w).map (f s) ↔ _
    rw [List.mem_map]
    exact ⟨fun ⟨j, hj, e⟩ => ⟨h, j, List.mem_range.mp hj, e⟩, fun ⟨_, j, hj, e⟩ => ⟨j, List.mem_range.mpr hj, e⟩⟩
  · rw [List.getElem?_eq_none (by rw [List.length_range]; exact h)]
    exact ⟨fun z => (nomatch z), fun z => absurd z.1 (by omega)⟩
theorem tabF_gm {n w : Nat} {f : Nat → Nat → Nat} {acc : List Bool} (n0 : 0 < n) (n1 : n ≤ 1000) (w1 : w ≤ 100) (h : ∀ s j, s < n → j < w → f s j < n) (ha : acc.length = n) : GM acc (tabF n w f) ∧ ∀ row ∈ tabF n w f, row.length = w := by
  have hl : (tabF n w f).length = n := by unfold tabF; rw [List.length_map, List.length_range]
  have hw : ∀ row ∈ tabF n w f, row.length = w := fun row hr => by
    obtain ⟨s, _, rfl⟩ := List.mem_map.mp hr
    rw [List.length_map, List.length_range]
  refine ⟨⟨by omega, by omega, ⟨by omega, fun row hr x hx => ?_⟩, fun row hr => by rw [hw row hr]; exact w1⟩, hw⟩
  obtain ⟨s, hs, rfl⟩ := List.mem_map.mp hr
  obtain ⟨j, hj, rfl⟩ := List.mem_map.mp hx
  rw [hl]
  exact h s j (List.mem_range.mp hs) (List.mem_range.mp hj)
/-! ### machines out of data -/
def iN (row : List Nat) : List Int := row.map Int.ofNat
theorem dp_iN {H : Hp} {vs : List V} {row : List Nat} (h : DpAll K H vs (row.map nI)) : vs = (iN row).map V.int := by
  rw [dp_nats h]
  unfold iN
  rw [List.map_map]
  rfl
theorem rowsA_D {H : Hp} : ∀ {vs : List V} {tab : List (List Nat)}, DpAll K H vs (tab.map fun row => .list (row.map nI)) → ∃ rs, vs = rs.map V.ref ∧ RowsA K H rs (tab.map iN)
  | _, [], .nil => ⟨[], rfl, .nil⟩
  | _, row :: tab, .cons h t => by
    obtain ⟨rs, rfl, hr⟩ := rowsA_D t
    obtain ⟨a, vs, rfl, h1, h2⟩ := Dp.lstv h
    obtain rfl := dp_iN h2
    exact ⟨a :: rs, rfl, .cons (.inl h1) hr⟩
theorem dp_ofN {H : Hp} : ∀ (row : List Nat), DpAll K H ((iN row).map V.int) (row.map nI)
  | [] => .nil
  | _ :: row => .cons (.int _) (dp_ofN row)
theorem rowsT_D {H : Hp} : ∀ {rs : List Addr} {tab : List (List Nat)}, RowsT K H rs (tab.map iN) → DpAll K H (rs.map V.ref) (tab.map fun row => .tuple (row.map nI))
  | _, [], .nil => .nil
  | _, row :: tab, .cons h t => .cons (.tup h (dp_ofN row)) (rowsT_D t)
theorem MachineAt.D {C : Addr} {H : Hp} {m : Addr} {ls : Str} {acc : List Bool} {tab : List (List Nat)} (h : MachineAt K C H m ls acc (tab.map iN)) : MachD K C H m ls acc tab := by
  obtain ⟨dx, ta, tt, rs, h1, h2, h3, h4⟩ := h
  exact ⟨dx, ta, tt, h1, .tup h2 (dps_bl acc), .tup h3 (rowsT_D h4)⟩
theorem good_N {ls : Str} {acc : List Bool} {tab : List (List Nat)} (g : GM acc tab) (hw : ∀ row ∈ tab, row.length = ls.length) : goodM ls acc (tab.map iN) := by
  have gp := g.p
  refine ⟨by omega, by rw [List.length_map]; exact g.e, fun row hr => ?_⟩
  obtain ⟨r, hr2, rfl⟩ := List.mem_map.mp hr
  refine ⟨by unfold iN; rw [List.length_map]; exact hw r hr2, fun x hx => ?_⟩
  obtain ⟨n, hn, rfl⟩ := List.mem_map.mp hx
  have := g.g.b r hr2 n hn
  have := g.e
  have e : (Int.ofNat n) = (n : Int) := rfl
  rw [e]
  omega
theorem sqa_made {C x dx a : Addr} {H : Hp} (hx : H x = none) (hd : H dx = none) {xs : List V} (h : SqA K H a xs) : SqA K (upd (upd H dx (.own x)) x (.ins C dx [])) a xs :=
  h.ex fun b o q => by rw [upd_ne (ne_of_none q hx), upd_ne (ne_of_none q hd)]; exact q
section
variable (T : Txt K mg)
/-- its accepting, as it was made of a list -/
def MachF (C : Addr) (H : Hp) (m : Addr) (ls : Str) (acc : List Bool) : Prop := ∃ dx ta tt, H m = some (.ins C dx (mFields ls ta tt)) ∧ TupF H ta (acc.map V.bl)
theorem MachF.ex {C : Addr} {H H' : Hp} {m : Addr} {ls : Str} {acc : List Bool} (h : MachF C H m ls acc) (e : Ex H H') : MachF C H' m ls acc := by
  obtain ⟨dx, ta, tt, h1, h2⟩ := h
  exact ⟨dx, ta, tt, e _ _ h1, h2.ex e⟩
theorem made_F {x dx : Addr} {va vt : V} {ls : Str} {acc : List Bool} {tab : List (List Nat)} {H : Hp} {Q : VK} {E : XK} (hx : H x = none) (hdx : H dx = none) (ne : dx ≠ x) (l0 : 0 < ls.length) (l1 : ls.length ≤ 1000) (hA : Dp K H va (.list (acc.map PyData.bool))) (hT : Dp K H vt (nL tab)) (g : GM acc tab) (hw : ∀ row ∈ tab, row.length = ls.length)
    (q : ∀ H', Ex H H' → MachD K T.C_Machine H' x ls acc tab → MachF T.C_Machine H' x ls acc → Q .non H') : spMInit T [.ref x, .str ls, va, vt] (upd (upd H dx (.own x)) x (.ins T.C_Machine dx [])) Q E := by
  obtain ⟨pa, vs, rfl, a1, a2⟩ := Dp.lstv hA
  obtain rfl := dp_bls a2
  obtain ⟨pt, ws, rfl, t1, t2⟩ := Dp.lstv hT
  obtain ⟨rs, rfl, hR⟩ := rowsA_D t2
  have e : Ex H (upd (upd H dx (.own x)) x (.ins T.C_Machine dx [])) := fun b o q => by rw [upd_ne (ne_of_none q hx), upd_ne (ne_of_none q hdx)]; exact q
  have gn := g.g.n
  refine ⟨x, dx, pa, pt, ls, acc, rs, tab.map iN, rfl, l0, by omega, upd_same, SqA.ex (.inl a1) e, SqA.ex (.inl t1) e, hR.ex e, by rw [List.length_map]; omega, fun _ H' k hm hf => ?_, fun z => absurd (good_N g hw) z⟩
  exact q H' (fun b o z => k b o (ne_of_none z hx) (e b o z)) hm.D (hf (Evl.ex_l e a1))
theorem made_D {x dx : Addr} {va vt : V} {ls : Str} {acc : List Bool} {tab : List (List Nat)} {H : Hp} {Q : VK} {E : XK} (hx : H x = none) (hdx : H dx = none) (ne : dx ≠ x) (l0 : 0 < ls.length) (l1 : ls.length ≤ 1000) (hA : Dp K H va (.list (acc.map PyData.bool))) (hT : Dp K H vt (nL tab)) (g : GM acc tab) (hw : ∀ row ∈ tab, row.length = ls.length)
    (q : ∀ H', Ex H H' → MachD K T.C_Machine H' x ls acc tab → Q .non H') : spMInit T [.ref x, .str ls, va, vt] (upd (upd H dx (.own x)) x (.ins T.C_Machine dx [])) Q E :=
  made_F T hx hdx ne l0 l1 hA hT g hw fun H' e m _ => q H' e m
end
section
/-! ### words and their order: the code of a word is its place among all words -/
def cd (w : Nat) (u : List Nat) : Nat := u.foldl (fun a j => w * a + j + 1) 0
theorem cd_nil {w : Nat} : cd w [] = 0 := rfl
theorem cd_snoc (w : Nat) (u : List Nat) (j : Nat) : cd w (u ++ [j]) = w * cd w u + j + 1 := by unfold cd; rw [List.foldl_append]; rfl
def Lw (w : Nat) (u : List Nat) : Prop := ∀ j ∈ u, j < w
theorem Lw.nil {w : Nat} : Lw w [] := fun _ h => nomatch h
theorem Lw.snoc {w : Nat} {u : List Nat} {j : Nat} (h : Lw w u) (hj : j < w) : Lw w (u ++ [j]) := fun x hx => by
  rcases List.mem_append.mp hx with z | z
  · exact h x z
  · rw [List.mem_singleton.mp z]; exact hj
theorem Lw.init {w : Nat} {u : List Nat} {j : Nat} (h : Lw w (u ++ [j])) : Lw w u ∧ j < w := ⟨fun x hx => h x (List.mem_append.mpr (.inl hx)), h j (List.mem_append.mpr (.inr List.mem_cons_self))⟩
theorem mul_lt_of {w a b i : Nat} (h : w * a + i + 1 ≤ w * b) : a < b := by
  rcases Nat.lt_or_ge a b with z | z
  · exact z
  · exact absurd (Nat.mul_le_mul_left w z) (by omega)
/-- words of the same letters by their last letters -/
theorem cd_cmp {w a b i j : Nat} (hi : i < w) (hj : j < w) (h : w * a + i + 1 ≤ w * b + j + 1) : a < b ∨ (a = b ∧ i ≤ j) := by
  rcases Nat.lt_trichotomy a b with z | z | z
  · exact .inl z
  · subst z; exact .inr ⟨rfl, by omega⟩
  · have := Nat.mul_le_mul_left w (show b + 1 ≤ a from z)
    rw [Nat.mul_succ] at this
    omega
theorem snoc_ind {P : List Nat → Prop} (h0 : P []) (hs : ∀ u j, P u → P (u ++ [j])) : ∀ u, P u := by
  intro u
  rw [← List.reverse_reverse u]
  induction u.reverse with
  | nil => exact h0
  | cons x l ih => rw [List.reverse_cons]; exact hs _ x ih
theorem cd_inj {w : Nat} : ∀ {u v : List Nat}, Lw w u → Lw w v → cd w u = cd w v → u = v := by
  intro u
  refine snoc_ind (P := fun u => ∀ {v : List Nat}, Lw w u → Lw w v → cd w u = cd w v → u = v) ?_ ?_ u
  · intro v _ _ e
    rcases List.eq_nil_or_concat v with z | ⟨y, j, z⟩
    · rw [z]
    · rw [z, List.concat_eq_append, cd_snoc] at e
      cases (show (0 : Nat) = _ from e)
  · intro x i ih v hu hv e
    rcases List.eq_nil_or_concat v with z | ⟨y, j, z⟩
    · rw [z, cd_snoc] at e
      cases (show _ = (0 : Nat) from e)
    · rw [List.concat_eq_append] at z
      subst z
      rw [cd_snoc, cd_snoc] at e
      rcases cd_cmp hu.init.2 hv.init.2 (Nat.le_of_eq e) with a | ⟨a, _⟩
      · rcases cd_cmp hv.init.2 hu.init.2 (Nat.le_of_eq e.symm) with b | ⟨b, _⟩ <;> omega
      · rw [a] at e
        rw [ih hu.init.1 hv.init.1 a, show i = j by omega]
/-- a shorter word has a smaller code -/
theorem cd_len {w : Nat} : ∀ {u v : List Nat}, Lw w u → Lw w v → u.length < v.length → cd w u < cd w v := by
  intro u
  refine snoc_ind (P := fun u => ∀ {v : List Nat}, Lw w u → Lw w v → u.length < v.length → cd w u < cd w v) ?_ ?_ u
  · intro v _ _ e
    rcases List.eq_nil_or_concat v with z | ⟨y, j, z⟩
    · rw [z] at e; cases e
    · rw [z, List.concat_eq_append, cd_snoc]; exact Nat.succ_pos _
  · intro x i ih v hu hv e
    rcases List.eq_nil_or_concat v with z | ⟨y, j, z⟩
    · rw [z] at e; cases e
    · rw [List.concat_eq_append] at z
      subst z
      rw [List.length_append, List.length_append] at e
      have h := ih hu.init.1 hv.init.1 (by simpa using e)
      rw [cd_snoc, cd_snoc]
      have := Nat.mul_le_mul_left w (show cd w x + 1 ≤ cd w y from h)
      rw [Nat.mul_succ] at this
      have := hu.init.2
      omega
/-! ### going through all keys in the order of their least words -/
section
variable {κ : Type} {w : Nat} {nx : κ → Nat → κ} {st : κ} {ks : List κ} {ws : List (List Nat)}
structure Bf (w : Nat) (nx : κ → Nat → κ) (st : κ) (ks : List κ) (ws : List (List Nat)) : Prop where
  len : ws.length = ks.length
  hw : ws[0]? = some []
  nd : ks.Nodup
  run : ∀ (i : Nat) u k, ws[i]? = some u → ks[i]? = some k → u.foldl nx st = k
  lw : ∀ (i : Nat) u, ws[i]? = some u → Lw w u
  inc : ∀ (i j : Nat) u v, i < j → ws[i]? = some u → ws[j]? = some v → cd w u < cd w v
  ln : ∀ (i : Nat) u, ws[i]? = some u → u.length ≤ i
/-- every word below B leads to a known key, whose word is not larger -/
def Sn (w : Nat) (nx : κ → Nat → κ) (st : κ) (ks : List κ) (ws : List (List Nat)) (B : Nat) : Prop := ∀ u, Lw w u → cd w u < B → ∃ (i : Nat) (v : List Nat) (k : κ), ws[i]? = some v ∧ ks[i]? = some k ∧ u.foldl nx st = k ∧ cd w v ≤ cd w u
/-- the n-th key is at work, j of its letters are done -/
structure Pg (w : Nat) (nx : κ → Nat → κ) (st : κ) (ks : List κ) (ws : List (List Nat)) (n j : Nat) (u0 : List Nat) (k0 : κ) : Prop where
  b : Bf w nx st ks ws
  hu : ws[n]? = some u0
  hk : ks[n]? = some k0
  top : ∀ (i : Nat) v, ws[i]? = some v → cd w v < w * cd w u0 + j + 1
  sn : Sn w nx st ks ws (w * cd w u0 + j + 1)
theorem getQ {α : Type} {l : List α} {i : Nat} (h : i < l.length) : ∃ a, l[i]? = some a := ⟨l[i], List.getElem?_eq_getElem h⟩
theorem ltQ {α : Type} {l : List α} {i : Nat} {a : α} (h : l[i]? = some a) : i < l.length := (List.getElem?_eq_some_iff.mp h).1
theorem Bf.word (h : Bf w nx st ks ws) {i : Nat} {k : κ} (e : ks[i]? = some k) : ∃ u, ws[i]? = some u := getQ (by rw [h.len]; exact ltQ e)
theorem Bf.init : Bf w nx st [st] [[]] := by
  refine ⟨rfl, rfl, List.nodup_cons.mpr ⟨(fun h => nomatch h), List.nodup_nil⟩, fun i u k h1 h2 => ?_, fun i u h => ?_, fun i j u v hij h1 h2 => ?_, fun i u h => ?_⟩
  · have := ltQ h1
    obtain rfl : i = 0 := by simpa using this
    cases h1; cases h2; rfl
  · have := ltQ h
    obtain rfl : i = 0 := by simpa using this
    cases h; exact Lw.nil
  · have := ltQ h2
    have : j < 1 := this
    omega
  · have := ltQ h
    obtain rfl : i = 0 := by simpa using this
    cases h; exact Nat.le_refl 0
theorem Pg.init : Pg w nx st [st] [[]] 0 0 [] st := by
  refine ⟨Bf.init, rfl, rfl, fun i v h => ?_, fun u hu hc => ?_⟩
  · have := ltQ h
    obtain rfl : i = 0 := by simpa using this
    cases h; exact Nat.succ_pos _
  · have e : cd w u = cd w [] := by rw [cd_nil] at hc ⊢; omega
    have := cd_inj hu Lw.nil e
    subst this
    exact ⟨0, [], st, rfl, rfl, rfl, Nat.le_refl _⟩
theorem run_snoc (u : List Nat) (j : Nat) : (u ++ [j]).foldl nx st = nx (u.foldl nx st) j := by rw [List.foldl_append]; rfl
/-- the key behind the letter is known -/
theorem Pg.old {n j i : Nat} {u0 : List Nat} {k0 : κ} (h : Pg w nx st ks ws n j u0 k0) (hj : j < w) (hi : ks[i]? = some (nx k0 j)) : Pg w nx st ks ws n (j + 1) u0 k0 := by
  refine ⟨h.b, h.hu, h.hk, fun i v e => Nat.lt_succ_of_lt (h.top i v e), fun u hu hc => ?_⟩
  rcases Nat.lt_or_ge (cd w u) (w * cd w u0 + j + 1) with z | z
  · exact h.sn u hu z
  · have e : cd w u = cd w (u0 ++ [j]) := by rw [cd_snoc]; omega
    have eu := cd_inj hu ((h.b.lw n u0 h.hu).snoc hj) e
    subst eu
    obtain ⟨v, hv⟩ := h.b.word hi
    refine ⟨i, v, _, hv, hi, ?_, ?_⟩
    · rw [run_snoc, h.b.run n u0 k0 h.hu h.hk]
    · have := h.top i v hv
      rw [cd_snoc]; omega
theorem app_at {α : Type} {l : List α} {a b : α} {i : Nat} (h : (l ++ [a])[i]? = some b) : l[i]? = some b ∨ (i = l.length ∧ a = b) := by
  rcases Nat.lt_or_ge i l.length with z | z
  · rw [List.getElem?_append_left z] at h; exact .inl h
  · have := ltQ h
    rw [List.length_append, List.length_singleton] at this
    have e : i = l.length := by omega
    subst e
    rw [List.getElem?_append_right (Nat.le_refl _), Nat.sub_self] at h
    exact .inr ⟨rfl, Option.some.inj h⟩
theorem app_l {α : Type} {l : List α} {a b : α} {i : Nat} (h : l[i]? = some b) : (l ++ [a])[i]? = some b := by rw [List.getElem?_append_left (ltQ h)]; exact h
theorem app_r {α : Type} {l : List α} {a : α} : (l ++ [a])[l.length]? = some a := by rw [List.getElem?_append_right (Nat.le_refl _), Nat.sub_self]; rfl
/-- it is new -/
theorem Pg.new {n j : Nat} {u0 : List Nat} {k0 : κ} (h : Pg w nx st ks ws n j u0 k0) (hj : j < w) (hi : nx k0 j ∉ ks) : Pg w nx st (ks ++ [nx k0 j]) (ws ++ [u0 ++ [j]]) n (j + 1) u0 k0 := by
  have hc := cd_snoc w u0 j
  have l0 := (h.b.lw n u0 h.hu).snoc hj
  have r0 : (u0 ++ [j]).foldl nx st = nx k0 j := by rw [run_snoc, h.b.run n u0 k0 h.hu h.hk]
  have b : Bf w nx st (ks ++ [nx k0 j]) (ws ++ [u0 ++ [j]]) := by
    refine ⟨by simp [h.b.len], app_l h.b.hw, List.nodup_append.mpr ⟨h.b.nd, List.nodup_cons.mpr ⟨(fun h => nomatch h), List.nodup_nil⟩, fun a ha b hb e => hi (by rw [← List.mem_singleton.mp hb, ← e]; exact ha)⟩, fun i u k h1 h2 => ?_, fun i u h1 => ?_, fun i i' u v hii h1 h2 => ?_, fun i u h1 => ?_⟩
    · rcases app_at h1 with a | ⟨a, a'⟩
      · rcases app_at h2 with c | ⟨c, _⟩
        · exact h.b.run i u k a c
        · have := ltQ a; rw [h.b.len] at this; omega
      · rcases app_at h2 with c | ⟨_, c⟩
        · have := ltQ c; rw [← h.b.len] at this; omega
        · rw [← a', ← c]; exact r0
    · rcases app_at h1 with a | ⟨_, a⟩
      · exact h.b.lw i u a
      · rw [← a]; exact l0
    · rcases app_at h2 with c | ⟨c, c'⟩
      · rcases app_at h1 with a | ⟨a, _⟩
        · exact h.b.inc i i' u v hii a c
        · have := ltQ c; omega
      · rcases app_at h1 with a | ⟨a, _⟩
        · have := h.top i u a
          rw [← c', hc]; exact this
        · omega
    · rcases app_at h1 with a | ⟨a, a'⟩
      · exact h.b.ln i u a
      · have := h.b.ln n u0 h.hu
        have := ltQ h.hu
        rw [← a', List.length_append, List.length_singleton]; omega
  refine ⟨b, app_l h.hu, app_l h.hk, fun i v e => ?_, fun u hu hcu => ?_⟩
  · rcases app_at e with a | ⟨_, a⟩
    · exact Nat.lt_succ_of_lt (h.top i v a)
    · rw [← a, hc]; omega
  · rcases Nat.lt_or_ge (cd w u) (w * cd w u0 + j + 1) with z | z
    · obtain ⟨i, v, k, h1, h2, h3, h4⟩ := h.sn u hu z
      exact ⟨i, v, k, app_l h1, app_l h2, h3, h4⟩
    · have eu := cd_inj hu l0 (by rw [hc]; omega)
      subst eu
      exact ⟨ws.length, _, _, app_r, by rw [h.b.len]; exact app_r, r0, Nat.le_refl _⟩
/-- what is known once all letters of the n-th key are done: all words below the next key's -/
theorem Pg.all {n : Nat} {u0 : List Nat} {k0 : κ} (h : Pg w nx st ks ws n w u0 k0) (w0 : 0 < w) {c : Nat} (hc : ∀ (i : Nat) v, n < i → ws[i]? = some v → c ≤ cd w v) : Sn w nx st ks ws (w * c + 1) := by
  intro u
  refine snoc_ind (P := fun u => Lw w u → cd w u < w * c + 1 → ∃ (i : Nat) (v : List Nat) (k : κ), ws[i]? = some v ∧ ks[i]? = some k ∧ u.foldl nx st = k ∧ cd w v ≤ cd w u) ?_ ?_ u
  · intro hl _
    obtain ⟨k, hk⟩ := getQ (l := ks) (i := 0) (by rw [← h.b.len]; exact ltQ h.b.hw)
    exact ⟨0, [], k, h.b.hw, hk, h.b.run 0 [] k h.b.hw hk, Nat.le_refl _⟩
  · intro x j ih hl hcu
    obtain ⟨hx, hj⟩ := hl.init
    rw [cd_snoc] at hcu ⊢
    have xc : cd w x < c := mul_lt_of (i := j) (w := w) (by omega)
    have xw : c ≤ w * c := Nat.le_mul_of_pos_left c w0
    obtain ⟨i, v, k, h1, h2, h3, h4⟩ := ih hx (by omega)
    have hin : i ≤ n := by
      rcases Nat.lt_or_ge n i with z | z
      · have := hc i v z h1; omega
      · exact z
    have hv0 : cd w v ≤ cd w u0 := by
      rcases Nat.lt_or_ge i n with z | z
      · exact Nat.le_of_lt (h.b.inc i n v u0 z h1 h.hu)
      · have e : i = n := by omega
        subst e
        rw [h.hu] at h1; cases h1; exact Nat.le_refl _
    have m1 := Nat.mul_le_mul_left w hv0
    have m2 := Nat.mul_le_mul_left w h4
    obtain ⟨i', v', k', g1, g2, g3, g4⟩ := h.sn (v ++ [j]) ((h.b.lw i v h1).snoc hj) (by rw [cd_snoc]; omega)
    refine ⟨i', v', k', g1, g2, ?_, ?_⟩
    · rw [run_snoc, h3, ← g3, run_snoc, h.b.run i v k h1 h2]
    · rw [cd_snoc] at g4; omega
theorem Pg.next {n : Nat} {u0 : List Nat} {k0 : κ} (h : Pg w nx st ks ws n w u0 k0) (w0 : 0 < w) {k1 : κ} (hk : ks[n + 1]? = some k1) : ∃ u1, Pg w nx st ks ws (n + 1) 0 u1 k1 := by
  obtain ⟨u1, hu⟩ := h.b.word hk
  have i01 := h.b.inc n (n + 1) u0 u1 (Nat.lt_succ_self n) h.hu hu
  refine ⟨u1, h.b, hu, hk, fun i v e => ?_, ?_⟩
  · have := h.top i v e
    have := Nat.mul_le_mul_left w (show cd w u0 + 1 ≤ cd w u1 from i01)
    rw [Nat.mul_succ] at this
    omega
  · refine h.all w0 fun i v hi hv => ?_
    rcases Nat.lt_or_ge (n + 1) i with z | z
    · exact Nat.le_of_lt (h.b.inc (n + 1) i u1 v z hu hv)
    · have e : i = n + 1 := by omega
      subst e
      rw [hu] at hv; cases hv; exact Nat.le_refl _
/-- the least word that leads to an accepting key, below a bound of its length -/
def Lst (w : Nat) (nx : κ → Nat → κ) (st : κ) (acc : κ → Bool) (m : Nat) : Option (List Nat) → Prop
  | none => ∀ u, Lw w u → acc (u.foldl nx st) = false
  | some u => Lw w u ∧ acc (u.foldl nx st) = true ∧ u.length < m ∧ ∀ v, Lw w v → cd w v < cd w u → acc (v.foldl nx st) = false
theorem Pg.found {n m : Nat} {u0 : List Nat} {k0 : κ} {acc : κ → Bool} (h : Pg w nx st ks ws n 0 u0 k0) (w0 : 0 < w) (hm : ks.length ≤ m) (no : ∀ (i : Nat) k, i < n → ks[i]? = some k → acc k = false) (yes : acc k0 = true) : Lst w nx st acc m (some u0) := by
  refine ⟨h.b.lw n u0 h.hu, by rw [h.b.run n u0 k0 h.hu h.hk]; exact yes, ?_, fun v hv hc => ?_⟩
  · have := h.b.ln n u0 h.hu
    have := ltQ h.hk
    omega
  · have : cd w u0 ≤ w * cd w u0 := Nat.le_mul_of_pos_left _ w0
    obtain ⟨i, x, k, h1, h2, h3, h4⟩ := h.sn v hv (by omega)
    rw [h3]
    refine no i k ?_ h2
    rcases Nat.lt_or_ge i n with z | z
    · exact z
    · rcases Nat.lt_or_ge n i with y | y
      · have := h.b.inc n i u0 x y h.hu h1; omega
      · have e : i = n := by omega
        subst e
        rw [h.hu] at h1; cases h1; omega
theorem Pg.none {n m : Nat} {u0 : List Nat} {k0 : κ} {acc : κ → Bool} (h : Pg w nx st ks ws n w u0 k0) (w0 : 0 < w) (hn : n + 1 = ks.length) (no : ∀ (i : Nat) k, i < n + 1 → ks[i]? = some k → acc k = false) : Lst w nx st acc m none := by
  intro u hu
  have hs := h.all w0 (c := cd w u + 1) fun i v hi hv => by
    have := ltQ hv
    rw [h.b.len] at this; omega
  have : cd w u + 1 ≤ w * (cd w u + 1) := Nat.le_mul_of_pos_left _ w0
  obtain ⟨i, v, k, h1, h2, h3, _⟩ := hs u hu (by omega)
  rw [h3]
  exact no i k (by rw [hn]; exact ltQ h2) h2
/-- the keys lie in a finite set -/
theorem nodup_leK {α : Type} [BEq α] [LawfulBEq α] : ∀ (l m : List α), l.Nodup → (∀ c ∈ l, c ∈ m) → l.length ≤ m.length
  | [], _, _, _ => Nat.zero_le _
  | x :: l, m, nd, h => by
    have hx := h x List.mem_cons_self
    have nd' := List.nodup_cons.mp nd
    have := nodup_leK l (m.erase x) nd'.2 fun c hc => (List.mem_erase_of_ne fun (e : c = x) => nd'.1 (by rw [← e]; exact hc)).mpr (h c (List.mem_cons_of_mem _ hc))
    rw [List.length_erase_of_mem hx] at this
    have := List.length_pos_of_mem hx
    rw [List.length_cons]; omega
end
/-! ### all words of few letters, in order -/
def lvW (w : Nat) : Nat → List (List Nat)
  | 0 => [[]]
  | n + 1 => (lvW w n).flatMap fun u => (List.range w).map fun j => u ++ [j]
def rowsW (w : Nat) : Nat → List (List Nat)
  | 0 => [[]]
  | n + 1 => rowsW w n ++ lvW w (n + 1)
theorem mem_lvW {w : Nat} : ∀ {n : Nat} {u : List Nat}, u ∈ lvW w n ↔ Lw w u ∧ u.length = n
  | 0, u => by
    show u ∈ [[]] ↔ _
    rw [List.mem_singleton]
    exact ⟨fun e => by subst e; exact ⟨Lw.nil, rfl⟩, fun h => List.eq_nil_of_length_eq_zero h.2⟩
  | n + 1, u => by
    show u ∈ (lvW w n).flatMap _ ↔ _
    rw [List.mem_flatMap]
    constructor
    · rintro ⟨x, hx, hu⟩
      obtain ⟨j, hj, rfl⟩ := List.mem_map.mp hu
      obtain ⟨h1, h2⟩ := mem_lvW.mp hx
      exact ⟨h1.snoc (List.mem_range.mp hj), by rw [List.length_append, h2]; rfl⟩
    · rintro ⟨h1, h2⟩
      rcases List.eq_nil_or_concat u with z | ⟨y, j, z⟩
      · rw [z] at h2; cases h2
      · rw [List.concat_eq_append] at z
        subst z
        rw [List.length_append] at h2
        exact ⟨y, mem_lvW.mpr ⟨h1.init.1, by simpa using h2⟩, List.mem_map.mpr ⟨j, List.mem_range.mpr h1.init.2, rfl⟩⟩
theorem mem_rowsW {w : Nat} : ∀ {n : Nat} {u : List Nat}, u ∈ rowsW w n ↔ Lw w u ∧ u.length ≤ n
  | 0, u => by
    show u ∈ lvW w 0 ↔ _
    rw [mem_lvW]
    exact ⟨fun h => ⟨h.1, Nat.le_of_eq h.2⟩, fun h => ⟨h.1, Nat.le_zero.mp h.2⟩⟩
  | n + 1, u => by
    show u ∈ rowsW w n ++ lvW w (n + 1) ↔ _
    rw [List.mem_append, mem_rowsW, mem_lvW]
    constructor
    · rintro (h | h)
      · exact ⟨h.1, Nat.le_succ_of_le h.2⟩
      · exact ⟨h.1, Nat.le_of_eq h.2⟩
    · rintro ⟨h1, h2⟩
      rcases Nat.lt_or_ge u.length (n + 1) with z | z
      · exact .inl ⟨h1, Nat.le_of_lt_succ z⟩
      · exact .inr ⟨h1, Nat.le_antisymm h2 z⟩
theorem pw_flat {α : Type} {R : List Nat → List Nat → Prop} {f : α → List (List Nat)} : ∀ {l : List α}, (∀ a ∈ l, (f a).Pairwise R) → l.Pairwise (fun a b => ∀ x ∈ f a, ∀ y ∈ f b, R x y) → (l.flatMap f).Pairwise R
  | [], _, _ => List.Pairwise.nil
  | a :: l, h1, h2 => by
    rw [List.flatMap_cons]
    obtain ⟨p1, p2⟩ := List.pairwise_cons.mp h2
    refine List.pairwise_append.mpr ⟨h1 a List.mem_cons_self, pw_flat (fun b hb => h1 b (List.mem_cons_of_mem _ hb)) p2, fun x hx y hy => ?_⟩
    obtain ⟨b, hb, hyb⟩ := List.mem_flatMap.mp hy
    exact p1 b hb x hx y hyb
theorem pw_lvW {w : Nat} : ∀ n : Nat, (lvW w n).Pairwise fun u v => cd w u < cd w v
  | 0 => List.pairwise_singleton _ _
  | n + 1 => by
    refine pw_flat (fun a ha => ?_) ?_
    · rw [List.pairwise_map]
      refine List.Pairwise.imp (fun {i j} h => ?_) List.pairwise_lt_range
      rw [cd_snoc, cd_snoc]; omega
    · refine List.Pairwise.imp (fun {a b} h x hx y hy => ?_) (pw_lvW n)
      obtain ⟨i, hi, rfl⟩ := List.mem_map.mp hx
      obtain ⟨j, hj, rfl⟩ := List.mem_map.mp hy
      rw [cd_snoc, cd_snoc]
      have := Nat.mul_le_mul_left w (show cd w a + 1 ≤ cd w b from h)
      rw [Nat.mul_succ] at this
      have := List.mem_range.mp hi
      omega
theorem pw_rowsW {w : Nat} : ∀ n : Nat, (rowsW w n).Pairwise fun u v => cd w u < cd w v
  | 0 => List.pairwise_singleton _ _
  | n + 1 => List.pairwise_append.mpr ⟨pw_rowsW n, pw_lvW (n + 1), fun u hu v hv => by
    obtain ⟨h1, h2⟩ := mem_rowsW.mp hu
    obtain ⟨h3, h4⟩ := mem_lvW.mp hv
    exact cd_len h1 h3 (by omega)⟩
/-- the first one of an ordered list that has a property -/
theorem find_least {α : Type} {R : α → α → Prop} {p : α → Bool} {a : α} : ∀ {l : List α}, l.Pairwise R → a ∈ l → p a = true → (∀ b, R b a → p b = false) → l.find? p = some a
  | b :: l, h, ha, hp, hn => by
    obtain ⟨h1, h2⟩ := List.pairwise_cons.mp h
    rcases List.mem_cons.mp ha with e | hm
    · subst e
      exact List.find?_cons_of_pos hp
    · rw [List.find?_cons_of_neg (by rw [hn b (h1 a hm)]; exact Bool.false_ne_true)]
      exact find_least h2 hm hp hn
theorem Lst.find {κ : Type} {w : Nat} {nx : κ → Nat → κ} {st : κ} {acc : κ → Bool} {m n : Nat} {r : Option (List Nat)} (h : Lst w nx st acc m r) (hm : m ≤ n + 1) : (rowsW w n).find? (fun u => acc (u.foldl nx st)) = r := by
  cases r with
  | none => exact List.find?_eq_none.mpr fun u hu => by rw [h u (mem_rowsW.mp hu).1]; exact Bool.false_ne_true
  | some u =>
    obtain ⟨h1, h2, h3, h4⟩ := h
    refine find_least_w h1 h2 h3 h4 hm
where
  find_least_w {κ : Type} {w : Nat} {nx : κ → Nat → κ} {st : κ} {acc : κ → Bool} {m n : Nat} {u : List Nat} (h1 : Lw w u) (h2 : acc (u.foldl nx st) = true) (h3 : u.length < m) (h4 : ∀ v, Lw w v → cd w v < cd w u → acc (v.foldl nx st) = false) (hm : m ≤ n + 1) : (rowsW w n).find? (fun u => acc (u.foldl nx st)) = some u := by
    refine find_least (R := fun a b => cd w a < cd w b ∧ Lw w a) ?_ (mem_rowsW.mpr ⟨h1, by omega⟩) h2 fun b hb => h4 b hb.2 hb.1
    have := pw_rowsW (w := w) n
    refine List.Pairwise.imp_of_mem (fun {a b} ha hb h => ⟨h, (mem_rowsW.mp ha).1⟩) this
end
section
/-! ### keys: a number, or None or a tuple that may hold tuples -/
inductive KE where
  | i (n : Nat) | k (x : NestedKey)
  deriving DecidableEq
def isI : KE → Bool
  | .i _ => true
  | .k _ => false
def KeyV (H : Hp) (v : V) : KE → Prop
  | .i n => v = .int (n : Int)
  | .k x => KyN H x v
theorem KeyV.ex {H H' : Hp} {v : V} {k : KE} (h : KeyV H v k) (e : ∀ b xs, H b = some (.tup xs) → H' b = some (.tup xs)) : KeyV H' v k := by
  cases k with
  | i n => exact h
  | k x => exact KyN.ex h e
theorem idx_app_old {α : Type} [BEq α] [LawfulBEq α] {l : List α} {a b : α} (h : a ∈ l) : (l ++ [b]).idxOf a = l.idxOf a := by rw [List.idxOf_append, if_pos h]
theorem idx_app_new {α : Type} [BEq α] [LawfulBEq α] {l : List α} {a : α} (h : a ∉ l) : (l ++ [a]).idxOf a = l.length := by
  rw [List.idxOf_append, if_neg h]; simp
theorem valN_snoc {k k2 : NestedKey} {b : V} {v : V} : ∀ {kvs : KA}, valN kvs k2 = none → valN (kvs ++ [(k2, b, v)]) k = if k = k2 then some v else valN kvs k
  | [], _ => by
    show (if k2 = k then some v else none) = if k = k2 then some v else none
    by_cases e : k = k2
    · rw [if_pos e, if_pos e.symm]
    · rw [if_neg e, if_neg fun z => e z.symm]
  | p :: kvs, h => by
    have h' : (if p.1 = k2 then some p.2.2 else valN kvs k2) = none := h
    have hp : ¬ p.1 = k2 := fun z => by rw [if_pos z] at h'; cases h'
    rw [if_neg hp] at h'
    show (if p.1 = k then some p.2.2 else valN (kvs ++ [(k2, b, v)]) k) = if k = k2 then some v else if p.1 = k then some p.2.2 else valN kvs k
    rw [valN_snoc h']
    by_cases e : k = k2
    · rw [if_pos e, if_pos e, if_neg fun z => hp (z.trans e)]
    · rw [if_neg e, if_neg e]
/-- a dict of keys, each with what its place says -/
inductive DM (W : World) (H : Hp) (d : Addr) (ks : List KE) (val : Nat → V) : Prop
  | i (kvs : List (L2.Key × V)) (h : H d = some (.dK kvs)) (l : kvs.length ≤ ks.length) (v : ∀ n : Nat, valV kvs (.inl (n : Int)) = if KE.i n ∈ ks then some (val (ks.idxOf (KE.i n))) else none) (o : ∀ k ∈ ks, isI k = true)
  | k (kvs : KA) (h : H d = some (dN W d kvs)) (l : kvs.length ≤ ks.length) (n : KsN H kvs) (v : ∀ x : NestedKey, valN kvs x = if KE.k x ∈ ks then some (val (ks.idxOf (KE.k x))) else none) (o : ∀ k ∈ ks, isI k = false)
section
variable {W : World} {H H' : Hp} {d : Addr} {ks : List KE} {val : Nat → V} {k : KE} {v x : V}
theorem DM.obj (h : DM W H d ks val) : ∃ o, H d = some o ∧ ∀ xs, o ≠ .tup xs := by
  cases h with
  | i kvs h => exact ⟨_, h, fun _ z => nomatch z⟩
  | k kvs h => exact ⟨_, h, fun _ z => nomatch z⟩
theorem DM.ex (h : DM W H d ks val) (e : H' d = H d) (t : ∀ b xs, H b = some (.tup xs) → H' b = some (.tup xs)) : DM W H' d ks val := by
  cases h with
  | i kvs h l v o => exact .i kvs (e.trans h) l v o
  | k kvs h l n v o => exact .k kvs (e.trans h) l (n.ex t) v o
theorem DM.get (h : DM W H d ks val) (hv : KeyV H x k) (hk : ∀ k' ∈ ks, isI k' = isI k) (ne : ks ≠ []) : DGX W H d x (if k ∈ ks then some (val (ks.idxOf k)) else none) := by
  obtain ⟨k0, hk0⟩ := List.exists_mem_of_ne_nil ks ne
  cases h with
  | i kvs h l w o =>
    cases k with
    | i n =>
      obtain rfl : x = .int (n : Int) := hv
      rw [← w n]
      exact .inl (DGet.k (k := .inl (n : Int)) h)
    | k m =>
      have := hk k0 hk0
      rw [o k0 hk0] at this
      cases this
  | k kvs h l n w o =>
    cases k with
    | i n =>
      have := hk k0 hk0
      rw [o k0 hk0] at this
      cases this
    | k m =>
      rw [← w m]
      exact .inr ⟨kvs, _, ⟨h, n, hv⟩, rfl⟩
theorem DM.put (h : DM W H d ks val) (hv : KeyV H x k) (hk : ∀ k' ∈ ks, isI k' = isI k) (ne : ks ≠ []) (no : k ∉ ks) (hl : ks.length < 1000000) : ∃ o, DPX W H d x (val ks.length) (upd H d o) ∧ DM W (upd H d o) d (ks ++ [k]) val ∧ ∀ xs, o ≠ .tup xs := by
  obtain ⟨k0, hk0⟩ := List.exists_mem_of_ne_nil ks ne
  have sl : 1000000 ≤ sizeLine := by decide
  cases h with
  | i kvs h l w o =>
    cases k with
    | i n =>
      obtain rfl : x = .int (n : Int) := hv
      refine ⟨_, .inl (DPut.k (k := .inl (n : Int)) h (by omega)), .i _ upd_same ?_ (fun m => ?_) fun k' hk' => ?_, fun _ z => nomatch z⟩
      · have := length_putK kvs (.inl (n : Int) : L2.Key) (val ks.length)
        rw [List.length_append, List.length_singleton]; omega
      · rw [valV_put]
        by_cases e : m = n
        · subst e
          rw [if_pos rfl, if_pos (List.mem_append.mpr (.inr List.mem_cons_self)), idx_app_new no]
        · have e2 : (.inl (m : Int) : L2.Key) ≠ .inl (n : Int) := fun z => e (Int.ofNat.inj (Sum.inl.inj z))
          have e3 : (KE.i m ∈ ks ++ [KE.i n]) ↔ KE.i m ∈ ks := by
            rw [List.mem_append, List.mem_singleton]
            exact ⟨fun z => z.resolve_right fun y => e (KE.i.inj y), .inl⟩
          rw [if_neg e2, w m]
          by_cases hm : KE.i m ∈ ks
          · rw [if_pos hm, if_pos (e3.mpr hm), idx_app_old hm]
          · rw [if_neg hm, if_neg fun z => hm (e3.mp z)]
      · rcases List.mem_append.mp hk' with z | z
        · exact o k' z
        · rw [List.mem_singleton.mp z]; rfl
    | k m =>
      have := hk k0 hk0
      rw [o k0 hk0] at this
      cases this
  | k kvs h l nn w o =>
    cases k with
    | i n =>
      have := hk k0 hk0
      rw [o k0 hk0] at this
      cases this
    | k n =>
      have hnone : valN kvs n = none := by rw [w n, if_neg no]
      have tk : ∀ c xs, H c = some (.tup xs) → upd H d (dN W d (kvs ++ [(n, x, val ks.length)])) c = some (.tup xs) := fun c xs z => by
        rw [upd_ne fun y => by rw [y, h] at z; cases z]; exact z
      refine ⟨_, .inr ⟨kvs, _, ⟨h, nn, hv⟩, hnone, by omega, rfl⟩, .k _ upd_same ?_ (fun p hp => ?_) (fun m => ?_) fun k' hk' => ?_, fun _ z => nomatch z⟩
      · rw [List.length_append, List.length_append, List.length_singleton, List.length_singleton]; omega
      · rcases List.mem_append.mp hp with z | z
        · exact (nn p z).ex tk
        · rw [List.mem_singleton.mp z]; exact KyN.ex hv tk
      · rw [valN_snoc hnone]
        by_cases e : m = n
        · subst e
          rw [if_pos rfl, if_pos (List.mem_append.mpr (.inr List.mem_cons_self)), idx_app_new no]
        · have e3 : (KE.k m ∈ ks ++ [KE.k n]) ↔ KE.k m ∈ ks := by
            rw [List.mem_append, List.mem_singleton]
            exact ⟨fun z => z.resolve_right fun y => e (KE.k.inj y), .inl⟩
          rw [if_neg e, w m]
          by_cases hm : KE.k m ∈ ks
          · rw [if_pos hm, if_pos (e3.mpr hm), idx_app_old hm]
          · rw [if_neg hm, if_neg fun z => hm (e3.mp z)]
      · rcases List.mem_append.mp hk' with z | z
        · exact o k' z
        · rw [List.mem_singleton.mp z]; rfl
end
/-- {start: x} -/
theorem dm_start {W : World} {tk tv : TE} {σ : L2.St} {H : Hp} {Q : VK} {kv x : V} {k : KE} (hk : ∀ H' Q, Q kv H' → tk σ H' Q) (hv : ∀ H' Q, Q x H' → tv σ H' Q) (hkv : KeyV H kv k) (hrf : isI k = false → ∃ b, kv = .ref b) (q : ∀ d o, H d = none → DM W (upd H d o) d [k] (fun _ => x) → (∀ xs, o ≠ .tup xs) → Q (.ref d) (upd H d o)) :
    tDisp [(tk, tv)] σ H Q ∨ tDisp1N W tk tv σ H Q := by
  cases k with
  | i n =>
    obtain rfl : kv = .int (n : Int) := hkv
    refine .inl fun p hp => hk _ _ (hv _ _ ⟨upd_same, [(.inl (n : Int), x)], rfl, by show 1 ≤ 15; decide, ?_⟩)
    rw [upd_upd]
    refine q p _ hp (.i _ upd_same (Nat.le_refl _) (fun m => ?_) fun k' hk' => by rw [List.mem_singleton.mp hk']; rfl) (fun _ z => nomatch z)
    by_cases e : m = n
    · subst e; simp [valV, mergeK, putK]
    · have e2 : ¬ ((n : Int) = (m : Int)) := fun z => e (Int.ofNat.inj z).symm
      simp [valV, mergeK, putK, e, e2]
  | k x0 =>
    obtain ⟨b, rfl⟩ := hrf rfl
    have tk : ∀ (p : Addr) (o : HO), H p = none → ∀ c xs, H c = some (.tup xs) → upd H p o c = some (.tup xs) := fun p o hp c xs z => by
      rw [upd_ne (ne_of_none z hp)]; exact z
    refine .inr fun p hp => hk _ _ (hv _ _ ⟨upd_same, b, x0, rfl, KyN.ex hkv (tk p _ hp), ?_⟩)
    rw [upd_upd]
    refine q p _ hp (.k _ upd_same (Nat.le_refl _) (fun y hy => by rw [List.mem_singleton.mp hy]; exact KyN.ex hkv (tk p _ hp)) (fun m => ?_) fun k' hk' => by rw [List.mem_singleton.mp hk']; rfl) (fun _ z => nomatch z)
    show (if x0 = m then some x else none) = _
    by_cases e : m = x0
    · subst e; rw [if_pos rfl, if_pos List.mem_cons_self]
    · rw [if_neg fun z => e z.symm, if_neg fun z => e (KE.k.inj (List.mem_singleton.mp z))]
end
section
/-- what the two functions tell: the key behind a letter, whether a key accepts -/
structure Ky (P : Program) (w : World) (K : PySem.W.Frag) (mg : Str → Option Value) (base : Heap) (k : Nat) (H : Hp) (n : Nat) (f g : Addr) (nx : KE → Nat → KE) (acc : KE → Bool) (U : List KE) : Prop where
  f : ∃ (G : Hp → Prop) (sp : List V → Hp → VK → Prop), FV P w K mg base k f G sp ∧ G H ∧ ∀ H1 v kk (j : Nat) (Q : VK), Ex H H1 → KeyV H1 v kk → kk ∈ U → j < n → (∀ v' H2, Ex H1 H2 → KeyV H2 v' (nx kk j) → Q v' H2) → sp [v, .int (j : Int)] H1 Q
  g : ∃ (G : Hp → Prop) (sp : List V → Hp → VK → Prop), FV P w K mg base k g G sp ∧ G H ∧ ∀ H1 v kk (Q : VK), Ex H H1 → KeyV H1 v kk → kk ∈ U → (∀ H2, Ex H1 H2 → Q (.bl (acc kk)) H2) → sp [v] H1 Q
  nx : ∀ kk ∈ U, ∀ j, j < n → nx kk j ∈ U
  kd : ∀ a ∈ U, ∀ b ∈ U, isI a = isI b
end
section
/-! ### the least text of a machine -/
theorem MachD.hidF {C : Addr} {S : List Addr} {H : Hp} {m : Addr} {ls : Str} {acc : List Bool} {tab : List (List Nat)} (h : MachD K C H m ls acc tab) (n : NoD S H) (ni : ∀ b ∈ S, ∀ C dx fs, H b ≠ some (.ins C dx fs)) : MachD K C (hid S H) m ls acc tab := by
  obtain ⟨dx, ta, tt, h1, h2, h3⟩ := h
  exact ⟨dx, ta, tt, by rw [hid_at fun z => ni m z _ _ _ h1]; exact h1, Dp.hidF n _ h2, Dp.hidF n _ h3⟩
theorem MachD.fr {C : Addr} {S : List Addr} {H : Hp} {m : Addr} {ls : Str} {acc : List Bool} {tab : List (List Nat)} (h : MachD K C H m ls acc tab) (W : ∀ b ∈ S, ∃ o, H b = some (frC b o)) : MachD K C (hid S H) m ls acc tab :=
  h.hidF (.of_fr W) fun b hb C dx fs z => by
    obtain ⟨o, e⟩ := W b hb
    rw [z] at e; cases e
theorem MachD.tbl {nm : Nat → Nat → Str} {Pl : List Addr} {R C : Addr} {H H' : Hp} {m : Addr} {ls : Str} {acc : List Bool} {tab : List (List Nat)} (h : MachD K C H m ls acc tab) (t : Tbs nm Pl H) (hR : R ∈ Pl) (k : Kp [R] H H') : MachD K C H' m ls acc tab := by
  obtain ⟨ps, z⟩ := TabN.isT (t R hR)
  have n1 : NoD [R] H := fun b hb o e => t.noD b (by rw [List.mem_singleton.mp hb]; exact hR) o e
  have h2 : MachD K C (hid [R] H) m ls acc tab := h.hidF n1 fun b hb C dx fs e => by
    rw [List.mem_singleton.mp hb, z] at e; cases e
  exact h2.ex (k.ex.trans hid_ex)
/-- one machine's states as keys -/
def nxM (tab : List (List Nat)) : KE → Nat → KE
  | .i s, j => .i ((tab.getD s []).getD j 0)
  | k, _ => k
def acM (acc : List Bool) : KE → Bool
  | .i s => acc.getD s false
  | _ => false
structure GMw (ls : Str) (acc : List Bool) (tab : List (List Nat)) : Prop where
  m : GM acc tab
  w : ∀ row ∈ tab, row.length = ls.length
theorem GMw.at' {ls : Str} {acc : List Bool} {tab : List (List Nat)} (g : GMw ls acc tab) {s j : Nat} (hs : s < acc.length) (hj : j < ls.length) : ∃ row x, tab[s]? = some row ∧ row[j]? = some x ∧ tab.getD s [] = row ∧ (tab.getD s []).getD j 0 = x ∧ x < acc.length := by
  have hst : s < tab.length := by rw [g.m.e]; exact hs
  obtain ⟨row, hr⟩ := getQ hst
  have hrl := g.w row (List.mem_of_getElem? hr)
  obtain ⟨x, hx⟩ := getQ (l := row) (i := j) (by omega)
  have e1 : tab.getD s [] = row := by rw [List.getD_eq_getElem?_getD, hr]; rfl
  refine ⟨row, x, hr, hx, e1, by rw [e1, List.getD_eq_getElem?_getD, hx]; rfl, ?_⟩
  have := (g.m.g.at' (s := s) (t := x) (by rw [e1]; exact List.mem_of_getElem? hx)).2
  rw [← g.m.e]; exact this
/-- reading a place of a machine's table -/
theorem rd_cell {H0 H : Hp} {tt : Addr} {ls : Str} {acc : List Bool} {tab : List (List Nat)} {s j : Nat} {Q : VK} (e : Ex H0 H) (h : Dp K H0 (.ref tt) (nT tab)) (g : GMw ls acc tab) (hs : s < acc.length) (hj : j < ls.length) {Q1 : VK} (q1 : ∀ v, rIx K v (.int (j : Int)) H Q → Q1 v H) (q : Q (.int (((tab.getD s []).getD j 0 : Nat) : Int)) H) :
    rIx K (.ref tt) (.int (s : Int)) H Q1 := by
  obtain ⟨row, x, hr, hx, e1, e2, _⟩ := g.at' hs hj
  refine rd_ixDT e h (d := .tuple (row.map nI)) (by rw [List.getElem?_map, hr]; rfl) fun v hv => ?_
  refine q1 v (rd_ixDT e hv (d := nI x) (by rw [List.getElem?_map, hx]; rfl) fun v2 hv2 => ?_)
  cases Dp.int_iff hv2
  rw [e2] at q
  exact q
theorem rd_flag {H0 H : Hp} {ta : Addr} {acc : List Bool} {s : Nat} {Q : VK} (e : Ex H0 H) (h : Dp K H0 (.ref ta) (.tuple (acc.map PyData.bool))) (hs : s < acc.length) (q : Q (.bl (acc.getD s false)) H) : rIx K (.ref ta) (.int (s : Int)) H Q := by
  obtain ⟨b, hb⟩ := getQ hs
  refine rd_ixDT e h (d := .bool b) (by rw [List.getElem?_map, hb]; rfl) fun v hv => ?_
  cases Dp.bl_iff hv
  rw [List.getD_eq_getElem?_getD, hb] at q
  exact q
end
section
/-! ### least machines -/
def rn (tab : List (List Nat)) (s : Nat) (u : List Nat) : Nat := u.foldl (fun s j => (tab.getD s []).getD j 0) s
theorem rn_snoc (tab : List (List Nat)) (s : Nat) (u : List Nat) (j : Nat) : rn tab s (u ++ [j]) = (tab.getD (rn tab s u) []).getD j 0 := by unfold rn; rw [List.foldl_append]; rfl
theorem rn_app (tab : List (List Nat)) (s : Nat) (u v : List Nat) : rn tab s (u ++ v) = rn tab (rn tab s u) v := by unfold rn; rw [List.foldl_append]
theorem rn_M (tab : List (List Nat)) : ∀ (u : List Nat) (s : Nat), u.foldl (nxM tab) (.i s) = .i (rn tab s u)
  | [], _ => rfl
  | j :: u, s => rn_M tab u ((tab.getD s []).getD j 0)
/-- a table of n rows of w numbers below n -/
structure Tb (n w : Nat) (tab : List (List Nat)) : Prop where
  p : 0 < n
  l : tab.length = n
  b : ∀ s j, s < n → j < w → (tab.getD s []).getD j 0 < n
  w : ∀ row ∈ tab, row.length = w
theorem Tb.rn {n w : Nat} {tab : List (List Nat)} (h : Tb n w tab) : ∀ {u : List Nat} {s : Nat}, Lw w u → s < n → rn tab s u < n
  | [], _, _, hs => hs
  | j :: u, s, hu, hs => Tb.rn h (u := u) (s := (tab.getD s []).getD j 0) (fun x hx => hu x (List.mem_cons_of_mem _ hx)) (h.b s j hs (hu j List.mem_cons_self))
/-- the same texts from there on -/
def Eqv (w : Nat) (acc : List Bool) (tab : List (List Nat)) (s t : Nat) : Prop := ∀ u, Lw w u → acc.getD (rn tab s u) false = acc.getD (rn tab t u) false
structure Cano (w : Nat) (acc : List Bool) (tab : List (List Nat)) : Prop where
  t : Tb acc.length w tab
  far : ∀ s t, s < acc.length → t < acc.length → Eqv w acc tab s t → s = t
  ws : ∃ W : List (List Nat), W.length = acc.length ∧ W.Pairwise (fun u v => cd w u < cd w v) ∧ ∀ i u, W[i]? = some u → Lw w u ∧ rn tab 0 u = i ∧ ∀ v, Lw w v → rn tab 0 v = i → cd w u ≤ cd w v
theorem Lw.app {w : Nat} {u v : List Nat} (hu : Lw w u) (hv : Lw w v) : Lw w (u ++ v) := fun x hx => (List.mem_append.mp hx).elim (hu x) (hv x)
theorem Cano.cls {w : Nat} {acc : List Bool} {tab : List (List Nat)} (h : Cano w acc tab) {u v : List Nat} (hu : Lw w u) (hv : Lw w v) : rn tab 0 u = rn tab 0 v ↔ ∀ x, Lw w x → acc.getD (rn tab 0 (u ++ x)) false = acc.getD (rn tab 0 (v ++ x)) false := by
  constructor
  · intro e x hx
    rw [rn_app, rn_app, e]
  · intro e
    refine h.far _ _ (h.t.rn hu h.t.p) (h.t.rn hv h.t.p) fun x hx => ?_
    rw [← rn_app, ← rn_app]
    exact e x hx
theorem sorted_eq {w : Nat} : ∀ {A B : List (List Nat)}, A.Pairwise (fun u v => cd w u < cd w v) → B.Pairwise (fun u v => cd w u < cd w v) → (∀ u, u ∈ A ↔ u ∈ B) → A = B
  | [], [], _, _, _ => rfl
  | [], b :: B, _, _, h => nomatch (h b).mpr List.mem_cons_self
  | a :: A, [], _, _, h => nomatch (h a).mp List.mem_cons_self
  | a :: A, b :: B, hA, hB, h => by
    obtain ⟨a1, a2⟩ := List.pairwise_cons.mp hA
    obtain ⟨b1, b2⟩ := List.pairwise_cons.mp hB
    have e : a = b := by
      rcases List.mem_cons.mp ((h a).mp List.mem_cons_self) with z | z
      · exact z
      · rcases List.mem_cons.mp ((h b).mpr List.mem_cons_self) with y | y
        · exact y.symm
        · have := a1 b y
          have := b1 a z
          omega
    subst e
    have ne : ∀ {C : List (List Nat)}, (∀ x ∈ C, cd w a < cd w x) → a ∉ C := fun hc z => by have := hc a z; omega
    rw [sorted_eq a2 b2 fun u => ⟨fun z => ?_, fun z => ?_⟩]
    · rcases List.mem_cons.mp ((h u).mp (List.mem_cons_of_mem _ z)) with y | y
      · subst y; exact absurd z (ne a1)
      · exact y
    · rcases List.mem_cons.mp ((h u).mpr (List.mem_cons_of_mem _ z)) with y | y
      · subst y; exact absurd z (ne b1)
      · exact y
/-- the least machine of a language is one -/
theorem Cano.uniq {w : Nat} {a1 a2 : List Bool} {t1 t2 : List (List Nat)} (h1 : Cano w a1 t1) (h2 : Cano w a2 t2) (e : ∀ u, Lw w u → a1.getD (rn t1 0 u) false = a2.getD (rn t2 0 u) false) : a1 = a2 ∧ t1 = t2 := by
  have cls : ∀ {u v : List Nat}, Lw w u → Lw w v → (rn t1 0 u = rn t1 0 v ↔ rn t2 0 u = rn t2 0 v) := fun hu hv => by
    rw [h1.cls hu hv, h2.cls hu hv]
    exact ⟨fun z x hx => by rw [← e _ (hu.app hx), ← e _ (hv.app hx)]; exact z x hx, fun z x hx => by rw [e _ (hu.app hx), e _ (hv.app hx)]; exact z x hx⟩
  obtain ⟨W1, l1, s1, p1⟩ := h1.ws
  obtain ⟨W2, l2, s2, p2⟩ := h2.ws
  have mem : ∀ {a : List Bool} {t : List (List Nat)} {W : List (List Nat)}, Cano w a t → W.length = a.length → (∀ i u, W[i]? = some u → Lw w u ∧ rn t 0 u = i ∧ ∀ v, Lw w v → rn t 0 v = i → cd w u ≤ cd w v) → ∀ u, u ∈ W ↔ Lw w u ∧ ∀ v, Lw w v → rn t 0 v = rn t 0 u → cd w u ≤ cd w v := by
    intro a t W h l p u
    constructor
    · intro hu
      obtain ⟨i, hi⟩ := List.getElem?_of_mem hu
      obtain ⟨q1, q2, q3⟩ := p i u hi
      exact ⟨q1, fun v hv z => q3 v hv (z.trans q2)⟩
    · rintro ⟨q1, q2⟩
      have hl : rn t 0 u < W.length := by rw [l]; exact h.t.rn q1 h.t.p
      obtain ⟨x, hx⟩ := getQ hl
      obtain ⟨y1, y2, y3⟩ := p _ x hx
      have c1 := q2 x y1 y2
      have c2 := y3 u q1 rfl
      rw [cd_inj q1 y1 (Nat.le_antisymm c1 c2)]
      exact List.mem_of_getElem? hx
  have eW : W1 = W2 := sorted_eq s1 s2 fun u => by
    rw [mem h1 l1 p1 u, mem h2 l2 p2 u]
    exact ⟨fun ⟨q1, q2⟩ => ⟨q1, fun v hv z => q2 v hv ((cls hv q1).mpr z)⟩, fun ⟨q1, q2⟩ => ⟨q1, fun v hv z => q2 v hv ((cls hv q1).mp z)⟩⟩
  subst eW
  have ln : a1.length = a2.length := l1.symm.trans l2
  have rows : ∀ {a : List Bool} {t : List (List Nat)}, Tb a.length w t → ∀ i, i < a.length → ∃ row, t[i]? = some row ∧ row.length = w ∧ t.getD i [] = row := fun {a t} h i hi => by
    obtain ⟨row, hr⟩ := getQ (l := t) (i := i) (by rw [h.l]; exact hi)
    exact ⟨row, hr, h.w row (List.mem_of_getElem? hr), by rw [List.getD_eq_getElem?_getD, hr]; rfl⟩
  refine ⟨?_, ?_⟩
  · refine List.ext_getElem? fun i => ?_
    rcases Nat.lt_or_ge i a1.length with hi | hi
    · obtain ⟨u, hu⟩ := getQ (l := W1) (i := i) (by rw [l1]; exact hi)
      obtain ⟨q1, q2, _⟩ := p1 i u hu
      obtain ⟨_, y2, _⟩ := p2 i u hu
      have := e u q1
      rw [q2, y2] at this
      obtain ⟨b1, g1⟩ := getQ hi
      obtain ⟨b2, g2⟩ := getQ (l := a2) (i := i) (by rw [← ln]; exact hi)
      rw [List.getD_eq_getElem?_getD, List.getD_eq_getElem?_getD, g1, g2] at this
      rw [g1, g2]
      exact congrArg some this
    · rw [List.getElem?_eq_none hi, List.getElem?_eq_none (by rw [← ln]; exact hi)]
  · refine List.ext_getElem? fun i => ?_
    rcases Nat.lt_or_ge i a1.length with hi | hi
    · obtain ⟨r1, g1, w1, d1⟩ := rows h1.t i hi
      obtain ⟨r2, g2, w2, d2⟩ := rows h2.t i (by rw [← ln]; exact hi)
      rw [g1, g2]
      congr 1
      refine List.ext_getElem? fun j => ?_
      rcases Nat.lt_or_ge j w with hj | hj
      · obtain ⟨u, hu⟩ := getQ (l := W1) (i := i) (by rw [l1]; exact hi)
        obtain ⟨q1, q2, _⟩ := p1 i u hu
        obtain ⟨_, y2, _⟩ := p2 i u hu
        have k1 : rn t1 0 (u ++ [j]) = r1.getD j 0 := by rw [rn_snoc, q2, d1]
        have k2 : rn t2 0 (u ++ [j]) = r2.getD j 0 := by rw [rn_snoc, y2, d2]
        have hk : r1.getD j 0 < W1.length := by rw [l1, ← k1]; exact h1.t.rn (q1.snoc hj) h1.t.p
        obtain ⟨v, hv⟩ := getQ hk
        obtain ⟨v1, v2, _⟩ := p1 _ v hv
        obtain ⟨_, v4, _⟩ := p2 _ v hv
        have := (cls (q1.snoc hj) v1).mp (by rw [k1, v2])
        rw [k2, v4] at this
        obtain ⟨x1, z1⟩ := getQ (l := r1) (i := j) (by omega)
        obtain ⟨x2, z2⟩ := getQ (l := r2) (i := j) (by omega)
        rw [List.getD_eq_getElem?_getD, List.getD_eq_getElem?_getD, z1, z2] at this
        rw [z1, z2]
        exact congrArg some this.symm
      · rw [List.getElem?_eq_none (by omega), List.getElem?_eq_none (by omega)]
    · rw [List.getElem?_eq_none (by rw [h1.t.l]; exact hi), List.getElem?_eq_none (by rw [h2.t.l, ← ln]; exact hi)]
end
section
/-! ### finer and finer partitions -/
def dl (tab : List (List Nat)) (s j : Nat) : Nat := (tab.getD s []).getD j 0
theorem Eqv.step {w : Nat} {acc : List Bool} {tab : List (List Nat)} {s t j : Nat} (h : Eqv w acc tab s t) (hj : j < w) : Eqv w acc tab (dl tab s j) (dl tab t j) := fun u hu => h (j :: u) fun x hx => (List.mem_cons.mp hx).elim (fun e => e ▸ hj) (hu x)
theorem Eqv.nil {w : Nat} {acc : List Bool} {tab : List (List Nat)} {s t : Nat} (h : Eqv w acc tab s t) : acc.getD s false = acc.getD t false := h [] Lw.nil
theorem cong_eqv {n w : Nat} {acc : List Bool} {tab : List (List Nat)} (T : Tb n w tab) {R : Nat → Nat → Prop} (h0 : ∀ s t, s < n → t < n → R s t → acc.getD s false = acc.getD t false) (h1 : ∀ s t j, s < n → t < n → j < w → R s t → R (dl tab s j) (dl tab t j)) :
    ∀ (u : List Nat) (s t : Nat), Lw w u → s < n → t < n → R s t → acc.getD (rn tab s u) false = acc.getD (rn tab t u) false
  | [], s, t, _, hs, ht, r => h0 s t hs ht r
  | j :: u, s, t, hu, hs, ht, r => cong_eqv T h0 h1 u (dl tab s j) (dl tab t j) (fun x hx => hu x (List.mem_cons_of_mem _ hx)) (T.b s j hs (hu j List.mem_cons_self)) (T.b t j ht (hu j List.mem_cons_self)) (h1 s t j hs ht (hu j List.mem_cons_self) r)
/-- between two blocks that wait -/
structure HI (n w : Nat) (acc : List Bool) (tab : List (List Nat)) (blo : Nat → Nat) (W : List Nat) : Prop where
  co : ∀ s t, s < n → t < n → Eqv w acc tab s t → blo s = blo t
  kn : ∀ s t, s < n → t < n → blo s = blo t → acc.getD s false = acc.getD t false
  iv : ∀ s t, s < n → t < n → blo s = blo t → ∀ j, j < w → blo (dl tab s j) = blo (dl tab t j) ∨ blo (dl tab s j) ∈ W ∨ blo (dl tab t j) ∈ W
/-- between two letters: a of them are done with the states of G -/
structure HP (n w : Nat) (acc : List Bool) (tab : List (List Nat)) (G : Nat → Prop) (a : Nat) (blo : Nat → Nat) (W : List Nat) : Prop where
  co : ∀ s t, s < n → t < n → Eqv w acc tab s t → blo s = blo t
  kn : ∀ s t, s < n → t < n → blo s = blo t → acc.getD s false = acc.getD t false
  gc : ∀ s t, s < n → t < n → blo s = blo t → (G s ↔ G t)
  dn : ∀ s t, s < n → t < n → blo s = blo t → ∀ j, j < a → j < w → (G (dl tab s j) ↔ G (dl tab t j))
  iv : ∀ s t, s < n → t < n → blo s = blo t → ∀ j, j < w → blo (dl tab s j) = blo (dl tab t j) ∨ blo (dl tab s j) ∈ W ∨ blo (dl tab t j) ∈ W ∨ (a ≤ j ∧ ¬ (G (dl tab s j) ↔ G (dl tab t j)))
/-- what a cut does: the marked states of each block and its others are parted; one of the two parts is among the new blocks -/
structure Cut (n : Nat) (M : Nat → Prop) (blo blo' : Nat → Nat) (made : List Nat) : Prop where
  eq : ∀ s t, s < n → t < n → (blo' s = blo' t ↔ blo s = blo t ∧ (M s ↔ M t))
  nw : ∀ s, s < n → blo' s = blo s ∨ blo' s ∈ made
theorem HI.pop {n w b : Nat} {acc : List Bool} {tab : List (List Nat)} {blo : Nat → Nat} {W : List Nat} (h : HI n w acc tab blo (W ++ [b])) : HP n w acc tab (fun s => blo s = b) 0 blo W := by
  refine ⟨h.co, h.kn, fun s t _ _ e => by rw [e], fun s t _ _ _ j hj => absurd hj (Nat.not_lt_zero j), fun s t hs ht e j hj => ?_⟩
  by_cases g : blo (dl tab s j) = blo (dl tab t j)
  · exact .inl g
  · have : ∀ x, x ∈ W ++ [b] → x ∈ W ∨ x = b := fun x hx => (List.mem_append.mp hx).imp id List.mem_singleton.mp
    rcases h.iv s t hs ht e j hj with z | z | z
    · exact .inl z
    · rcases this _ z with z | z
      · exact .inr (.inl z)
      · exact .inr (.inr (.inr ⟨Nat.zero_le _, fun y => g (z.trans (y.mp z).symm)⟩))
    · rcases this _ z with z | z
      · exact .inr (.inr (.inl z))
      · exact .inr (.inr (.inr ⟨Nat.zero_le _, fun y => g ((y.mpr z).trans z.symm)⟩))
theorem HP.next {n w a : Nat} {acc : List Bool} {tab : List (List Nat)} {G : Nat → Prop} {blo blo' : Nat → Nat} {W made : List Nat} (T : Tb n w tab) (h : HP n w acc tab G a blo W) (ha : a < w) (c : Cut n (fun s => G (dl tab s a)) blo blo' made) : HP n w acc tab G (a + 1) blo' (W ++ made) := by
  have cl : ∀ {s j}, s < n → j < w → dl tab s j < n := fun hs hj => T.b _ _ hs hj
  refine ⟨fun s t hs ht e => ?_, fun s t hs ht e => ?_, fun s t hs ht e => ?_, fun s t hs ht e j hj hw => ?_, fun s t hs ht e j hj => ?_⟩
  · exact (c.eq s t hs ht).mpr ⟨h.co s t hs ht e, h.gc _ _ (cl hs ha) (cl ht ha) (h.co _ _ (cl hs ha) (cl ht ha) (e.step ha))⟩
  · exact h.kn s t hs ht ((c.eq s t hs ht).mp e).1
  · exact h.gc s t hs ht ((c.eq s t hs ht).mp e).1
  · obtain ⟨e1, e2⟩ := (c.eq s t hs ht).mp e
    rcases Nat.lt_or_ge j a with z | z
    · exact h.dn s t hs ht e1 j z hw
    · obtain rfl : j = a := by omega
      exact e2
  · obtain ⟨e1, e2⟩ := (c.eq s t hs ht).mp e
    have inW : ∀ {x}, x < n → blo x ∈ W → blo' x ∈ W ++ made := fun hx z => by
      rcases c.nw _ hx with y | y
      · rw [y]; exact List.mem_append.mpr (.inl z)
      · exact List.mem_append.mpr (.inr y)
    rcases h.iv s t hs ht e1 j hj with z | z | z | ⟨z1, z2⟩
    · rcases c.nw _ (cl hs hj) with y | y
      · rcases c.nw _ (cl ht hj) with x | x
        · exact .inl (y.trans (z.trans x.symm))
        · exact .inr (.inr (.inl (List.mem_append.mpr (.inr x))))
      · exact .inr (.inl (List.mem_append.mpr (.inr y)))
    · exact .inr (.inl (inW (cl hs hj) z))
    · exact .inr (.inr (.inl (inW (cl ht hj) z)))
    · refine .inr (.inr (.inr ⟨?_, z2⟩))
      rcases Nat.lt_or_ge a j with y | y
      · exact y
      · obtain rfl : j = a := by omega
        exact absurd e2 z2
theorem HP.last {n w : Nat} {acc : List Bool} {tab : List (List Nat)} {G : Nat → Prop} {blo : Nat → Nat} {W : List Nat} (h : HP n w acc tab G w blo W) : HI n w acc tab blo W :=
  ⟨h.co, h.kn, fun s t hs ht e j hj => by
    rcases h.iv s t hs ht e j hj with z | z | z | ⟨z, _⟩
    · exact .inl z
    · exact .inr (.inl z)
    · exact .inr (.inr z)
    · omega⟩
theorem HI.done {n w : Nat} {acc : List Bool} {tab : List (List Nat)} {blo : Nat → Nat} (T : Tb n w tab) (h : HI n w acc tab blo []) {s t : Nat} (hs : s < n) (ht : t < n) : blo s = blo t ↔ Eqv w acc tab s t := by
  refine ⟨fun e u hu => cong_eqv T (R := fun s t => blo s = blo t) h.kn (fun s t j hs ht hj r => ?_) u s t hu hs ht e, h.co s t hs ht⟩
  rcases h.iv s t hs ht r j hj with z | z | z
  · exact z
  · cases z
  · cases z
theorem HI.start {n w : Nat} {acc : List Bool} {tab : List (List Nat)} {blo : Nat → Nat} {W : List Nat} (hk : ∀ s t, s < n → t < n → (blo s = blo t ↔ acc.getD s false = acc.getD t false)) (hW : ∀ s, s < n → blo s ∈ W) (T : Tb n w tab) : HI n w acc tab blo W :=
  ⟨fun s t hs ht e => (hk s t hs ht).mpr e.nil, fun s t hs ht e => (hk s t hs ht).mp e, fun s t hs ht e j hj => .inr (.inl (hW _ (T.b s j hs hj)))⟩
/-! ### numbers in the order of the first states -/
structure Num (n : Nat) (E : Nat → Nat → Prop) (num : List Nat) : Prop where
  l : num.length = n
  nw : ∀ i, i < n → ∀ c, c < num.getD i 0 → ∃ s, s < i ∧ num.getD s 0 = c
  eq : ∀ s t, s < n → t < n → (num.getD s 0 = num.getD t 0 ↔ E s t)
structure Fst (n : Nat) (num f : List Nat) : Prop where
  lt : ∀ k, k < f.length → f.getD k 0 < n ∧ num.getD (f.getD k 0) 0 = k
  le : ∀ s, s < n → num.getD s 0 < f.length ∧ f.getD (num.getD s 0) 0 ≤ s
  up : f.Pairwise (· < ·)
theorem getD_app_l {l : List Nat} {a k d : Nat} (h : k < l.length) : (l ++ [a]).getD k d = l.getD k d := by
  rw [List.getD_eq_getElem?_getD, List.getD_eq_getElem?_getD, List.getElem?_append_left h]
theorem getD_app_r {l : List Nat} {a d : Nat} : (l ++ [a]).getD l.length d = a := by
  rw [List.getD_eq_getElem?_getD, app_r]; rfl
theorem Fst.none {num : List Nat} : Fst 0 num [] := ⟨fun k hk => absurd hk (Nat.not_lt_zero k), fun s hs => absurd hs (Nat.not_lt_zero s), List.Pairwise.nil⟩
theorem Fst.old {i : Nat} {num f : List Nat} (h : Fst i num f) (hn : num.getD i 0 ≠ f.length) (nw : ∀ c, c < num.getD i 0 → ∃ s, s < i ∧ num.getD s 0 = c) : Fst (i + 1) num f := by
  refine ⟨fun k hk => ⟨Nat.lt_succ_of_lt (h.lt k hk).1, (h.lt k hk).2⟩, fun s hs => ?_, h.up⟩
  rcases Nat.lt_or_ge s i with z | z
  · exact h.le s z
  · obtain rfl : s = i := by omega
    have hlt : num.getD s 0 < f.length := by
      rcases Nat.lt_or_ge f.length (num.getD s 0) with y | y
      · obtain ⟨t, ht, e⟩ := nw _ y
        have := (h.le t ht).1
        omega
      · omega
    exact ⟨hlt, Nat.le_of_lt (h.lt _ hlt).1⟩
theorem Fst.new {i : Nat} {num f : List Nat} (h : Fst i num f) (hn : num.getD i 0 = f.length) : Fst (i + 1) num (f ++ [i]) := by
  refine ⟨fun k hk => ?_, fun s hs => ?_, List.pairwise_append.mpr ⟨h.up, List.pairwise_singleton _ _, fun a ha b hb => ?_⟩⟩
  · rw [List.length_append, List.length_singleton] at hk
    rcases Nat.lt_or_ge k f.length with z | z
    · rw [getD_app_l z]
      exact ⟨Nat.lt_succ_of_lt (h.lt k z).1, (h.lt k z).2⟩
    · obtain rfl : k = f.length := by omega
      rw [getD_app_r]
      exact ⟨Nat.lt_succ_self _, hn⟩
  · rw [List.length_append, List.length_singleton]
    rcases Nat.lt_or_ge s i with z | z
    · have := h.le s z
      rw [getD_app_l this.1]
      exact ⟨Nat.lt_succ_of_lt this.1, this.2⟩
    · obtain rfl : s = i := by omega
      rw [hn, getD_app_r]
      exact ⟨Nat.lt_succ_self _, Nat.le_refl _⟩
  · rw [List.mem_singleton.mp hb]
    obtain ⟨k, hk⟩ := List.getElem?_of_mem ha
    have := (h.lt k (ltQ hk)).1
    rw [List.getD_eq_getElem?_getD, hk] at this
    exact this
/-- the machine of the blocks -/
def mgA (acc : List Bool) (f : List Nat) : List Bool := f.map fun s => acc.getD s false
def mgT (tab : List (List Nat)) (num f : List Nat) : List (List Nat) := f.map fun s => (tab.getD s []).map fun t => num.getD t 0
theorem map_at {α : Type} {f : List Nat} {g : Nat → α} {k : Nat} (d : α) (h : k < f.length) : (f.map g).getD k d = g (f.getD k 0) := by
  obtain ⟨x, hx⟩ := getQ h
  rw [List.getD_eq_getElem?_getD, List.getElem?_map, hx, List.getD_eq_getElem?_getD, hx]
  rfl
theorem merged {n w : Nat} {acc : List Bool} {tab : List (List Nat)} {num f : List Nat} {W : List (List Nat)} (hn : acc.length = n) (T : Tb n w tab) (N : Num n (Eqv w acc tab) num) (F : Fst n num f) (hW : W.length = n) (sW : W.Pairwise (fun u v => cd w u < cd w v))
    (pW : ∀ i u, W[i]? = some u → Lw w u ∧ rn tab 0 u = i ∧ ∀ v, Lw w v → rn tab 0 v = i → cd w u ≤ cd w v) : Cano w (mgA acc f) (mgT tab num f) ∧ ∀ u, Lw w u → (mgA acc f).getD (rn (mgT tab num f) 0 u) false = acc.getD (rn tab 0 u) false := by
  have row : ∀ s, s < n → (tab.getD s []).length = w := fun s hs => by
    obtain ⟨r, hr⟩ := getQ (l := tab) (i := s) (by rw [T.l]; exact hs)
    rw [List.getD_eq_getElem?_getD, hr]
    exact T.w r (List.mem_of_getElem? hr)
  have stp : ∀ s j, s < n → j < w → dl (mgT tab num f) (num.getD s 0) j = num.getD (dl tab s j) 0 := fun s j hs hj => by
    obtain ⟨h1, h2⟩ := F.le s hs
    obtain ⟨h3, h4⟩ := F.lt _ h1
    unfold dl mgT
    rw [map_at [] h1, map_at 0 (by rw [row _ h3]; exact hj)]
    refine (N.eq _ _ (T.b _ _ h3 hj) (T.b _ _ hs hj)).mpr ?_
    exact ((N.eq _ _ h3 hs).mp h4).step hj
  have run : ∀ (u : List Nat) (s : Nat), s < n → Lw w u → rn (mgT tab num f) (num.getD s 0) u = num.getD (rn tab s u) 0 := by
    intro u
    induction u with
    | nil => exact fun s _ _ => rfl
    | cons j u ih =>
      intro s hs hu
      have hj := hu j List.mem_cons_self
      show rn _ (dl (mgT tab num f) (num.getD s 0) j) u = num.getD (rn tab (dl tab s j) u) 0
      rw [stp s j hs hj]
      exact ih _ (T.b s j hs hj) fun x hx => hu x (List.mem_cons_of_mem _ hx)
  have n0 : num.getD 0 0 = 0 := by
    have h := F.le 0 T.p
    rcases Nat.eq_zero_or_pos (num.getD 0 0) with z | z
    · exact z
    · obtain ⟨s, hs, _⟩ := N.nw 0 T.p 0 z
      omega
  have acc' : ∀ s, s < n → (mgA acc f).getD (num.getD s 0) false = acc.getD s false := fun s hs => by
    obtain ⟨h1, h2⟩ := F.le s hs
    obtain ⟨h3, h4⟩ := F.lt _ h1
    unfold mgA
    rw [map_at false h1]
    exact ((N.eq _ _ h3 hs).mp h4).nil
  have fl : 0 < f.length := Nat.lt_of_le_of_lt (Nat.zero_le _) (F.le 0 T.p).1
  have la : (mgA acc f).length = f.length := List.length_map _
  refine ⟨⟨⟨by rw [la]; exact fl, by rw [la]; exact List.length_map _, fun s j hs hj => ?_, fun r hr => ?_⟩, fun s t hs ht e => ?_, ?_⟩, fun u hu => ?_⟩
  · rw [la] at hs ⊢
    obtain ⟨h3, h4⟩ := F.lt s hs
    have := stp _ j h3 hj
    rw [h4] at this
    show dl _ s j < _
    rw [this]
    exact (F.le _ (T.b _ _ h3 hj)).1
  · obtain ⟨s, hs, rfl⟩ := List.mem_map.mp hr
    obtain ⟨k, hk⟩ := List.getElem?_of_mem hs
    have := (F.lt k (ltQ hk)).1
    rw [List.getD_eq_getElem?_getD, hk] at this
    rw [List.length_map]
    exact row s this
  · rw [la] at hs ht
    obtain ⟨a1, a2⟩ := F.lt s hs
    obtain ⟨b1, b2⟩ := F.lt t ht
    have : num.getD (f.getD s 0) 0 = num.getD (f.getD t 0) 0 := (N.eq _ _ a1 b1).mpr fun u hu => by
      have := e u hu
      rw [← a2, ← b2, run u _ a1 hu, run u _ b1 hu, acc' _ (T.rn hu a1), acc' _ (T.rn hu b1)] at this
      exact this
    rw [a2, b2] at this
    exact this
  · refine ⟨f.map fun s => W.getD s [], by rw [List.length_map, la], List.pairwise_map.mpr (List.Pairwise.imp_of_mem (fun {a b} ha hb hab => ?_) F.up), fun k u hk => ?_⟩
    · have lt : ∀ x ∈ f, x < W.length := fun x hx => by
        obtain ⟨k, hk⟩ := List.getElem?_of_mem hx
        have := (F.lt k (ltQ hk)).1
        rw [List.getD_eq_getElem?_getD, hk] at this
        rw [hW]; exact this
      rw [List.getD_eq_getElem?_getD, List.getD_eq_getElem?_getD, List.getElem?_eq_getElem (lt a ha), List.getElem?_eq_getElem (lt b hb)]
      exact List.pairwise_iff_getElem.mp sW a b (lt a ha) (lt b hb) hab
    · rw [List.getElem?_map] at hk
      obtain ⟨s, hs, e⟩ := Option.map_eq_some_iff.mp hk
      obtain ⟨h1, h2⟩ := F.lt k (ltQ hs)
      have fk : f.getD k 0 = s := by rw [List.getD_eq_getElem?_getD, hs]; rfl
      rw [fk] at h1 h2
      obtain ⟨x, hx⟩ := getQ (l := W) (i := s) (by rw [hW]; exact h1)
      rw [List.getD_eq_getElem?_getD, hx] at e
      obtain rfl : x = u := e
      obtain ⟨q1, q2, q3⟩ := pW s x hx
      refine ⟨q1, by rw [← n0, run x 0 T.p q1, q2, h2], fun v hv z => ?_⟩
      rw [← n0, run v 0 T.p hv] at z
      have lt := T.rn hv T.p
      obtain ⟨y, hy⟩ := getQ (l := W) (i := rn tab 0 v) (by rw [hW]; exact lt)
      obtain ⟨y1, y2, y3⟩ := pW _ y hy
      have c2 := y3 v hv rfl
      have hle := (F.le _ lt).2
      rw [z, fk] at hle
      rcases Nat.lt_or_eq_of_le hle with g | g
      · obtain ⟨i1, i2⟩ := List.getElem?_eq_some_iff.mp hx
        obtain ⟨j1, j2⟩ := List.getElem?_eq_some_iff.mp hy
        have := List.pairwise_iff_getElem.mp sW s _ i1 j1 g
        rw [i2, j2] at this
        omega
      · rw [← g, hx] at hy
        cases hy
        exact c2
  · have := run u 0 T.p hu
    rw [n0] at this
    rw [this, acc' _ (T.rn hu T.p)]
end
section
/-! ### from key to key -/
abbrev lvQ_explored := 3
/-- what stands while the keys are gone through -/
structure XW (W : World) (w : Nat) (nx : KE → Nat → KE) (H0 H : Hp) (d a tb : Addr) (ks : List KE) (kv : List V) (rs : List Addr) (tab : List (List Nat)) : Prop where
  ex : Ex H0 H
  nd : H0 d = none
  na : H0 a = none
  nt : H0 tb = none
  ne : d ≠ a ∧ d ≠ tb ∧ a ≠ tb
  dm : DM W H d ks (fun i => .int (i : Int))
  la : H a = some (.lst kv)
  lt : H tb = some (.lst (rs.map V.ref))
  l : kv.length = ks.length
  kv : ∀ (i : Nat) v k, kv[i]? = some v → ks[i]? = some k → KeyV H v k
  rl : rs.length = tab.length
  rw : ∀ (i : Nat) r row, rs[i]? = some r → tab[i]? = some row → H r = some (.lst (row.map vI)) ∧ r ≠ a ∧ r ≠ tb ∧ r ≠ d
  tv : ∀ (i : Nat) row k, tab[i]? = some row → ks[i]? = some k → row.length = w ∧ ∀ j, j < w → ∃ m, row[j]? = some m ∧ ks[m]? = some (nx k j)
theorem XW.grow {W : World} {w : Nat} {nx : KE → Nat → KE} {H0 H H' : Hp} {d a tb : Addr} {ks : List KE} {kv : List V} {rs : List Addr} {tab : List (List Nat)} (h : XW W w nx H0 H d a tb ks kv rs tab) (e : Ex H H') : XW W w nx H0 H' d a tb ks kv rs tab := by
  obtain ⟨ob, ho, _⟩ := h.dm.obj
  exact ⟨h.ex.trans e, h.nd, h.na, h.nt, h.ne, h.dm.ex ((e _ _ ho).trans ho.symm) (fun b xs z => e b _ z), e _ _ h.la, e _ _ h.lt, h.l, fun i v k h1 h2 => (h.kv i v k h1 h2).ex fun b xs z => e b _ z, h.rl, fun i r row h1 h2 => ⟨e _ _ (h.rw i r row h1 h2).1, (h.rw i r row h1 h2).2⟩, h.tv⟩
theorem XW.put {W : World} {w : Nat} {nx : KE → Nat → KE} {H0 H : Hp} {d a tb cur : Addr} {ks : List KE} {kv xs ys : List V} {rs : List Addr} {tab : List (List Nat)} (h : XW W w nx H0 H d a tb ks kv rs tab) (n1 : cur ≠ a) (n2 : cur ≠ tb) (n3 : cur ≠ d) (n4 : cur ∉ rs) (hc : H cur = some (.lst xs)) (h0 : H0 cur = none) : XW W w nx H0 (upd H cur (.lst ys)) d a tb ks kv rs tab := by
  refine ⟨fun b o z => by rw [upd_ne (ne_of_none z h0)]; exact h.ex b o z, h.nd, h.na, h.nt, h.ne, h.dm.ex (upd_ne (Ne.symm n3)) (fun b xs z => by rw [upd_ne fun y => by rw [y, hc] at z; cases z]; exact z), by rw [upd_ne (Ne.symm n1)]; exact h.la, by rw [upd_ne (Ne.symm n2)]; exact h.lt, h.l, fun i v k h1 h2 => (h.kv i v k h1 h2).ex fun b xs z => ?_, h.rl, fun i r row h1 h2 => ⟨?_, (h.rw i r row h1 h2).2⟩, h.tv⟩
  · rw [upd_ne fun y => by rw [y, hc] at z; cases z]
    exact z
  · rw [upd_ne fun y => n4 (by rw [← y]; exact List.mem_of_getElem? h1)]
    exact (h.rw i r row h1 h2).1
theorem XW.row {W : World} {w : Nat} {nx : KE → Nat → KE} {H0 H : Hp} {d a tb cur : Addr} {ks : List KE} {kv : List V} {rs : List Addr} {tab : List (List Nat)} {row : List Nat} {k1 : KE} (h : XW W w nx H0 H d a tb ks kv rs tab) (n1 : cur ≠ a) (n2 : cur ≠ tb) (n3 : cur ≠ d) (hc : H cur = some (.lst (row.map vI))) (hk : ks[tab.length]? = some k1) (hl : row.length = w) (hr : ∀ j, j < w → ∃ m, row[j]? = some m ∧ ks[m]? = some (nx k1 j)) :
    XW W w nx H0 (upd H tb (.lst (rs.map V.ref ++ [.ref cur]))) d a tb ks kv (rs ++ [cur]) (tab ++ [row]) := by
  refine ⟨fun b o z => by rw [upd_ne (ne_of_none z h.nt)]; exact h.ex b o z, h.nd, h.na, h.nt, h.ne, h.dm.ex (upd_ne h.ne.2.1) (fun b xs z => by rw [upd_ne fun y => by rw [y, h.lt] at z; cases z]; exact z), by rw [upd_ne h.ne.2.2]; exact h.la, by rw [upd_same, List.map_append]; rfl, h.l, fun i v k h1 h2 => (h.kv i v k h1 h2).ex fun b xs z => ?_, by simp [h.rl], fun i r ro h1 h2 => ?_, fun i ro k h1 h2 => ?_⟩
  · rw [upd_ne fun y => by rw [y, h.lt] at z; cases z]
    exact z
  · rcases app_at h1 with z | ⟨z, z'⟩
    · rcases app_at h2 with y | ⟨y, _⟩
      · have := h.rw i r ro z y
        exact ⟨by rw [upd_ne this.2.2.1]; exact this.1, this.2⟩
      · have := ltQ z; rw [h.rl] at this; omega
    · rcases app_at h2 with y | ⟨_, y⟩
      · have := ltQ y; rw [← h.rl] at this; omega
      · rw [← z', ← y]
        exact ⟨by rw [upd_ne n2]; exact hc, n1, n2, n3⟩
  · rcases app_at h1 with z | ⟨z, z'⟩
    · exact h.tv i ro k z h2
    · rw [z, hk] at h2
      cases h2
      rw [← z']
      exact ⟨hl, hr⟩
/-- between two keys: n rows are done -/
def xwInv (W : World) (w : Nat) (H0 : Hp) (ls : Str) (k0 : V) (f g d a tb : Addr) (nx : KE → Nat → KE) (U : List KE) (st : KE) (n : Nat) (σ : L2.St) (H : Hp) : Prop := ∃ (ks : List KE) (ws : List (List Nat)) (kv : List V) (rs : List Addr) (tab : List (List Nat)) (k7 k8 k9 : Option V),
  σ = [some (.str ls), some k0, some (.ref f), some (.ref g), some (.ref d), some (.ref a), some (.ref tb), k7, k8, k9] ∧ XW W w nx H0 H d a tb ks kv rs tab ∧ tab.length = n ∧ (∀ k ∈ ks, k ∈ U) ∧ Bf w nx st ks ws ∧ n ≤ ks.length ∧
  (∀ k1, ks[n]? = some k1 → ∃ u1, Pg w nx st ks ws n 0 u1 k1) ∧ (n = ks.length → ∀ c, Sn w nx st ks ws c)
/-- between two letters of the n-th key: the row cur is being made -/
def xwIn (W : World) (w : Nat) (H0 : Hp) (ls : Str) (k0 : V) (f g d a tb cur : Addr) (nx : KE → Nat → KE) (U : List KE) (st : KE) (n : Nat) (u1 : List Nat) (k1 : KE) (rs : List Addr) (j : Nat) (σ : L2.St) (H : Hp) : Prop := ∃ (ks : List KE) (ws : List (List Nat)) (kv : List V) (tab : List (List Nat)) (row : List Nat) (k8 k9 : Option V),
  σ = [some (.str ls), some k0, some (.ref f), some (.ref g), some (.ref d), some (.ref a), some (.ref tb), some (.ref cur), k8, k9] ∧ XW W w nx H0 H d a tb ks kv rs tab ∧ tab.length = n ∧ (∀ k ∈ ks, k ∈ U) ∧ Pg w nx st ks ws n j u1 k1 ∧
  H cur = some (.lst (row.map vI)) ∧ cur ≠ a ∧ cur ≠ tb ∧ cur ≠ d ∧ cur ∉ rs ∧ row.length = j ∧ ∀ i, i < j → ∃ m, row[i]? = some m ∧ ks[m]? = some (nx k1 i)
/-- the machine of all keys -/
structure Expl (w : Nat) (nx : KE → Nat → KE) (st : KE) (acc : KE → Bool) (m : Nat) (as : List Bool) (tab : List (List Nat)) : Prop where
  t : Tb as.length w tab
  m : as.length ≤ m
  ac : ∀ u, Lw w u → as.getD (rn tab 0 u) false = acc (u.foldl nx st)
  ws : ∃ W : List (List Nat), W.length = as.length ∧ W.Pairwise (fun u v => cd w u < cd w v) ∧ ∀ i u, W[i]? = some u → Lw w u ∧ rn tab 0 u = i ∧ ∀ v, Lw w v → rn tab 0 v = i → cd w u ≤ cd w v
theorem Expl.of {w : Nat} {nx : KE → Nat → KE} {st : KE} {acc : KE → Bool} {m : Nat} {ks : List KE} {ws : List (List Nat)} {tab : List (List Nat)} (b : Bf w nx st ks ws) (sn : ∀ c, Sn w nx st ks ws c) (hl : tab.length = ks.length) (hm : ks.length ≤ m)
    (tv : ∀ (i : Nat) row k, tab[i]? = some row → ks[i]? = some k → row.length = w ∧ ∀ j, j < w → ∃ m, row[j]? = some m ∧ ks[m]? = some (nx k j)) : Expl w nx st acc m (ks.map acc) tab := by
  have la : (ks.map acc).length = ks.length := List.length_map _
  have p0 : 0 < ks.length := by have := ltQ b.hw; rw [b.len] at this; exact this
  have dl1 : ∀ s j k, ks[s]? = some k → j < w → ks[(tab.getD s []).getD j 0]? = some (nx k j) := fun s j k hs hj => by
    obtain ⟨row, hr⟩ := getQ (l := tab) (i := s) (by rw [hl]; exact ltQ hs)
    obtain ⟨_, h⟩ := tv s row k hr hs
    obtain ⟨x, h1, h2⟩ := h j hj
    have er : tab.getD s [] = row := by rw [List.getD_eq_getElem?_getD, hr]; rfl
    have ex : row.getD j 0 = x := by rw [List.getD_eq_getElem?_getD, h1]; rfl
    rw [er, ex]
    exact h2
  have run : ∀ (u : List Nat) (s : Nat) k, ks[s]? = some k → Lw w u → ks[rn tab s u]? = some (u.foldl nx k) := by
    intro u
    induction u with
    | nil => exact fun s k h _ => h
    | cons j u ih => exact fun s k h hu => ih _ _ (dl1 s j k h (hu j List.mem_cons_self)) fun x hx => hu x (List.mem_cons_of_mem _ hx)
  have k0 : ks[0]? = some st := by
    obtain ⟨k, hk⟩ := getQ p0
    have := b.run 0 [] k b.hw hk
    rw [hk, ← this]; rfl
  refine ⟨⟨by rw [la]; exact p0, by rw [la]; exact hl, fun s j hs hj => ?_, fun row hr => ?_⟩, by rw [la]; exact hm, fun u hu => ?_, ws, by rw [la]; exact b.len, List.pairwise_iff_getElem.mpr fun i j hi hj hij => b.inc i j _ _ hij (List.getElem?_eq_getElem hi) (List.getElem?_eq_getElem hj), fun i u hi => ?_⟩
  · rw [la] at hs ⊢
    obtain ⟨k, hk⟩ := getQ hs
    exact ltQ (dl1 s j k hk hj)
  · obtain ⟨i, hi⟩ := List.getElem?_of_mem hr
    obtain ⟨k, hk⟩ := getQ (l := ks) (i := i) (by rw [← hl]; exact ltQ hi)
    exact (tv i row k hi hk).1
  · rw [List.getD_eq_getElem?_getD, List.getElem?_map, run u 0 st k0 hu]
    rfl
  · have hil : i < ks.length := by rw [← b.len]; exact ltQ hi
    obtain ⟨k, hk⟩ := getQ hil
    have lw := b.lw i u hi
    have nodup : ∀ {s t : Nat} {k : KE}, ks[s]? = some k → ks[t]? = some k → s = t := fun {s t k} h1 h2 => by
      exact (List.getElem?_inj (ltQ h1) b.nd).mp (h1.trans h2.symm)
    have ri : rn tab 0 u = i := by
      have := run u 0 st k0 lw
      rw [b.run i u k hi hk] at this
      exact nodup this hk
    refine ⟨lw, ri, fun v hv z => ?_⟩
    obtain ⟨i', x, k', h1, h2, h3, h4⟩ := sn (cd w v + 1) v hv (Nat.lt_succ_self _)
    have := run v 0 st k0 hv
    rw [h3, z] at this
    rw [nodup this h2, h1] at hi
    cases hi
    exact h4
end
section
theorem map_getE {α β : Type} (l : List α) (d : α) (f : α → β) : (List.range l.length).map (fun j => f (l.getD j d)) = l.map f := by
  refine List.ext_getElem (by simp) fun i h1 h2 => ?_
  rw [List.getElem_map, List.getElem_range, List.getElem_map, List.getD_eq_getElem?_getD, List.getElem?_eq_getElem (by simpa using h2)]
  rfl
theorem dp_vI {K : PySem.W.Frag} {H : Hp} : ∀ (row : List Nat), DpAll K H (row.map vI) (row.map nI)
  | [] => .nil
  | _ :: row => .cons (.int _) (dp_vI row)
theorem tb_gm {ls : Str} {as : List Bool} {tab : List (List Nat)} (h : Tb as.length ls.length tab) (h1 : as.length ≤ 1000) (h2 : ls.length ≤ 100) : GMw ls as tab := by
  refine ⟨⟨h.p, h.l, ⟨by rw [h.l]; exact h1, fun row hr x hx => ?_⟩, fun row hr => by rw [h.w row hr]; exact h2⟩, h.w⟩
  obtain ⟨s, hs⟩ := List.getElem?_of_mem hr
  obtain ⟨j, hj⟩ := List.getElem?_of_mem hx
  have := h.b s j (by rw [← h.l]; exact ltQ hs) (by rw [← h.w row hr]; exact ltQ hj)
  have er : tab.getD s [] = row := by rw [List.getD_eq_getElem?_getD, hs]; rfl
  have ex : row.getD j 0 = x := by rw [List.getD_eq_getElem?_getD, hj]; rfl
  rw [er, ex] at this
  rw [h.l]; exact this
theorem DM.one {W : World} {H : Hp} {d : Addr} {st : KE} {val : Nat → V} {x : V} (hx : val 0 = x) (h : DM W H d [st] (fun _ => x)) : DM W H d [st] val := by
  have id0 : ∀ k ∈ [st], [st].idxOf k = 0 := fun k hk => by rw [List.mem_singleton.mp hk]; simp
  cases h with
  | i kvs h l v o => exact .i kvs h l (fun n => by
      rw [v n]
      by_cases e : KE.i n ∈ [st]
      · rw [if_pos e, if_pos e, id0 _ e, hx]
      · rw [if_neg e, if_neg e]) o
  | k kvs h l n v o => exact .k kvs h l n (fun n => by
      rw [v n]
      by_cases e : KE.k n ∈ [st]
      · rw [if_pos e, if_pos e, id0 _ e, hx]
      · rw [if_neg e, if_neg e]) o
def spExplored (T : Txt K mg) (P : Program) (w : World) (base : Heap) : Sp := fun vs H Q _ => ∃ (ls : Str) (kv : V) (f g : Addr) (st : KE) (nx : KE → Nat → KE) (acc : KE → Bool) (U : List KE), vs = [.str ls, kv, .ref f, .ref g] ∧ KeyV H kv st ∧ (isI st = false → ∃ b, kv = .ref b) ∧ 0 < ls.length ∧ ls.length ≤ 100 ∧ Ky P w K mg base 3 H ls.length f g nx acc U ∧
  st ∈ U ∧ U.length ≤ 1000 ∧ ∀ m as tab H', Ex H H' → MachD K T.C_Machine H' m ls as tab → GMw ls as tab → Expl ls.length nx st acc U.length as tab → Q (.ref m) H'
theorem ok_explored (T : Txt K mg) : FnOk P w K mg base CX0 7 T.a_explored T.d_explored ["letters", "start", "step", "accepts"] (spExplored T P w base) := by
  refine T.f_explored.ok sc_explored (fun vs H Q E h => ?_) (fun cdv A outer s H vs Q E hr h => ?_)
  · obtain ⟨_, _, _, _, _, _, _, _, rfl, _⟩ := h; rfl
  · obtain ⟨ls, k0, f, g, st, nx, acc, U, rfl, hk0, hrf, l0, l1, ky, hU, hUl, q⟩ := h
    obtain ⟨Gf, sf, Ff, gf, qf⟩ := ky.f
    obtain ⟨Gg, sg, Fg, gg, qg⟩ := ky.g
    refine ⟨_, (pss_cons (ps_set (i := 4) sc_explored.nd rfl (by first | exact Or.inl rfl | exact Or.inr rfl) (PE.or (pe_disp (pps_cons (pv 1) pe_int pps_nil) (by rfl) (by rfl) (fun z => by cases z) (by decide)) (pe_disp1N w rfl (hu40 hr) (pv 1) pe_int)))
  (pss_cons (ps_set (i := 5) sc_explored.nd rfl (by first | exact Or.inl rfl | exact Or.inr rfl) (pe_lst (pa_cons (pv 1) pa_nil)))
  (pss_cons (ps_set (i := 6) sc_explored.nd rfl (by first | exact Or.inl rfl | exact Or.inr rfl) (pe_lst pa_nil))
  (pss_cons (ps_while PassesOwn.never (pt_cmpR op_ltP (pe_callB (kLen K) (by rfl) T.nb_len (by decide +kernel) (pa_cons (pv 6) pa_nil)) (pe_callB (kLen K) (by rfl) T.nb_len (by decide +kernel) (pa_cons (pv 5) pa_nil)) (by first | rfl | exact nomark _))
    (pss_cons (ps_set (i := 7) sc_explored.nd rfl (by first | exact Or.inl rfl | exact Or.inr rfl) (pe_lst pa_nil))
  (pss_cons (ps_for PassesOwn.never rfl (pi_range1 (by rfl) T.nb_range (pa_cons (pe_callB (kLen K) (by rfl) T.nb_len (by decide +kernel) (pa_cons (pv 0) pa_nil)) pa_nil)) (pg_name (i := 8) sc_explored.nd rfl (by first | exact Or.inl rfl | exact Or.inr rfl))
    (pss_cons (ps_set (i := 9) sc_explored.nd rfl (by first | exact Or.inl rfl | exact Or.inr rfl) (pe_callQB (P := P) (w := w) (K := K) (mg := mg) (base := base) rfl rfl rfl rfl rfl (k := lvQ_explored) (i := 2) (hr.mono (by decide)) rfl (by first | exact Or.inl rfl | exact Or.inr (Or.inl rfl) | exact Or.inr (Or.inr rfl)) (pa_cons (pe_ix (kIx K) (pv 5) (pe_callB (kLen K) (by rfl) T.nb_len (by decide +kernel) (pa_cons (pv 6) pa_nil)) (fun _ _ => rfl)) (pa_cons (pv 8) pa_nil))))
  (pss_cons (ps_if (pt_cmp (pc_dnotinX w rfl (hu40 hr) (pv 9) (pv 4)))
    (pss_cons (ps_dputX w rfl (hu40 hr) (pv 4) (pv 9) (pe_callB (kLen K) (by rfl) T.nb_len (by decide +kernel) (pa_cons (pv 5) pa_nil)) rfl)
  (pss_one (ps_expr (kBm K rfl (pe_bm PySem.F.plainAttrs_list PySem.F.slot_list_append PySem.F.type_list_append mt_append (pv 5) (pa_cons (pv 9) pa_nil))))))
    pss_nil)
  (pss_one (ps_expr (kBm K rfl (pe_bm PySem.F.plainAttrs_list PySem.F.slot_list_append PySem.F.type_list_append mt_append (pv 7) (pa_cons (pe_dgetX w rfl (hu40 hr) (pv 4) (pv 9) (fun _ _ => rfl)) pa_nil))))))))
  (pss_one (ps_expr (kBm K rfl (pe_bm PySem.F.plainAttrs_list PySem.F.slot_list_append PySem.F.type_list_append mt_append (pv 6) (pa_cons (pv 7) pa_nil))))))))
  (pss_one (ps_ret (pe_makeR T.mk_Machine (ok_Machine_init T) (hr.mono (by decide)) T.g_Machine T.b_Machine_init takes0 (pa_cons (pv 0) (pa_cons (pe_lc (own := [("key", 9)]) (g := gName 9) (tt := tYes) (by rfl) sc_explored.nd (kAny K rfl (pv 5)) (blkOk_by (own := [("key", 9)]) (N := ["letters", "start", "step", "accepts", "numbers", "keys", "table", "row", "index", "key"]) (sc := defScope s_explored) (by decide +kernel)) (fun _ _ _ _ _ => (pg_name (i := 9) sc_explored.nd rfl (by first | exact Or.inl rfl | exact Or.inr rfl))) (fun _ _ _ _ _ => pts_nil) (fun _ _ _ _ _ => (pe_callQB (P := P) (w := w) (K := K) (mg := mg) (base := base) rfl rfl rfl rfl rfl (k := lvQ_explored) (i := 3) (hr.mono (by decide)) rfl (by first | exact Or.inl rfl | exact Or.inr (Or.inl rfl) | exact Or.inr (Or.inr rfl)) (pa_cons (pv 9) pa_nil)))) (pa_cons (pv 6) pa_nil)))))))))), ?_⟩
    walk_at "rc"
    refine dm_start (kv := k0) (x := .int 0) (k := st) (fun H' Q q => rd_var (by rfl) q) (fun H' Q q => rd_c q) hk0 hrf fun d od hd hdm _ => ?_
    have e1 : Ex H (upd H d od) := Evl.Ex.new hd
    generalize upd H d od = H1 at hdm e1
    walk_at "rc"
    refine ⟨by show 1 ≤ sizeLine; decide, fun a ha => ?_⟩
    have e2 : Ex H1 (upd H1 a (.lst [k0])) := Evl.Ex.new ha
    have h2 : upd H1 a (.lst [k0]) a = some (.lst [k0]) := upd_same
    generalize upd H1 a (.lst [k0]) = H2 at e2 h2
    walk_at "rc"
    refine ⟨by show 0 ≤ sizeLine; decide, fun tb htb => ?_⟩
    have e3 : Ex H2 (upd H2 tb (.lst [])) := Evl.Ex.new htb
    have h3 : upd H2 tb (.lst []) tb = some (.lst (([] : List Addr).map V.ref)) := upd_same
    generalize upd H2 tb (.lst []) = H3 at e3 h3
    obtain ⟨ob, hob, _⟩ := hdm.obj
    have old : ∀ {x : Addr} {Ha : Hp}, Ex H Ha → Ha x = none → H x = none := fun {x Ha} e z => by
      cases y : H x with
      | none => rfl
      | some u => rw [e x u y] at z; cases z
    have W0 : XW w ls.length nx H H3 d a tb [st] [k0] [] [] := by
      refine ⟨(e1.trans e2).trans e3, hd, old e1 ha, old (e1.trans e2) htb, ⟨ne_of_none hob ha, fun z => ?_, ne_of_none h2 htb⟩, ?_, e3 _ _ h2, h3, rfl, fun i v k g1 g2 => ?_, rfl, fun i r row z => (nomatch z), fun i row k z => (nomatch z)⟩
      · rw [← z, e2 _ _ hob] at htb; cases htb
      · exact DM.one (x := .int 0) rfl (hdm.ex (((e2.trans e3) _ _ hob).trans hob.symm) fun b xs z => (e2.trans e3) b _ z)
      · have := ltQ g1
        obtain rfl : i = 0 := by simpa using this
        cases g1; cases g2
        exact hk0.ex fun b xs z => e3 _ _ (e2 _ _ (e1 _ _ z))
    clear h3 h2 e1 e2 e3 ha htb hdm hob
    walk_at "rc"
    walk_at "rs"
    refine rd_wh (W := fun m σ H' => ∃ n, m = U.length - n ∧ xwInv w ls.length H ls k0 f g d a tb nx U st n σ H') U.length ?_ ?_
    · refine ⟨0, rfl, [st], [[]], [k0], [], [], _, _, _, rfl, W0, rfl, fun k hk => by rw [List.mem_singleton.mp hk]; exact hU, Bf.init, Nat.zero_le _, fun k1 hk1 => ?_, fun z => absurd (show (0 : Nat) = 1 from z) (by decide)⟩
      cases hk1
      exact ⟨[], Pg.init⟩
    rintro m σ H5 ⟨n, rfl, ks, ws, kv, rs, tab, k7, k8, k9, rfl, W, hn, hks, bf, hnk, hpg, hend⟩
    have kU : ks.length ≤ U.length := nodup_leK ks U bf.nd hks
    have sl : 1000000 ≤ sizeLine := by decide
    walk_at "rc"
    refine rd_lenL (SqL.of W.lt) ?_
    walk_at "rc"
    refine rd_lenL (SqL.of W.la) ?_
    rw [W.l, List.length_map, W.rl, hn]
    walk_at "rc"
    refine rd_iteD (fun hi => ?_) fun hi => ?_
    · have hnl : n < ks.length := by omega
      obtain ⟨k1, hk1⟩ := getQ hnl
      obtain ⟨u1, pg⟩ := hpg k1 hk1
      have hK1 := hks k1 (List.mem_of_getElem? hk1)
      refine ⟨fun σ3 H3 => ∃ m', m' < U.length - n ∧ ∃ n', m' = U.length - n' ∧ xwInv w ls.length H ls k0 f g d a tb nx U st n' σ3 H3, fun _ _ z => z, ?_⟩
      walk_at "rc"
      refine ⟨by show 0 ≤ sizeLine; decide, fun cur hcur => ?_⟩
      have W6 := W.grow (Evl.Ex.new (o := .lst []) hcur)
      have hcH : H cur = none := old W.ex hcur
      have h6 : upd H5 cur (.lst []) cur = some (.lst (([] : List Nat).map vI)) := upd_same
      have nc : cur ≠ a ∧ cur ≠ tb ∧ cur ≠ d ∧ cur ∉ rs := by
        refine ⟨fun z => ?_, fun z => ?_, fun z => ?_, fun z => ?_⟩
        · rw [z, W.la] at hcur; cases hcur
        · rw [z, W.lt] at hcur; cases hcur
        · obtain ⟨o, ho, _⟩ := W.dm.obj
          rw [z, ho] at hcur; cases hcur
        · obtain ⟨i, hi'⟩ := List.getElem?_of_mem z
          obtain ⟨row, hr⟩ := getQ (l := tab) (i := i) (by rw [← W.rl]; exact ltQ hi')
          rw [(W.rw i cur row hi' hr).1] at hcur; cases hcur
      generalize upd H5 cur (.lst []) = H6 at W6 h6
      walk_at "rc"
      walk_at "rs"
      walk_at "rc"
      refine rd_lenS (z := ls) (by omega) ?_
      walk_at "rc"
      refine ⟨(ls.length : Int), rfl, by omega, by omega, ?_⟩
      rw [Int.toNat_natCast]
      refine fo_range (n := ls.length) (fun j σ H' => xwIn w ls.length H ls k0 f g d a tb cur nx U st n u1 k1 rs j σ H') ⟨ks, ws, kv, tab, [], _, _, rfl, W6, hn, hks, pg, h6, nc.1, nc.2.1, nc.2.2.1, nc.2.2.2, rfl, fun i hi => absurd hi (Nat.not_lt_zero i)⟩ ?_ ?_
      · clear W W6 hpg hend bf hks kU hi pg hk1 hnl hnk hn h6 nc hcur
        rintro j σ H7 hjl ⟨ks, ws, kv, tab, row, k8, k9, rfl, W7, hn, hks, pg, hc7, n1, n2, n3, n4, hrl, hrow⟩
        have kU : ks.length ≤ U.length := nodup_leK ks U pg.b.nd hks
        obtain ⟨v1, hv1⟩ : ∃ v, kv[n]? = some v := getQ (by rw [W7.l]; exact ltQ pg.hk)
        walk_at "rc"
        refine ⟨f, Gf, sf, rfl, Ff, Ff.st _ _ (StX.of_ex W7.ex) gf, ?_⟩
        walk_at "rc"
        refine rd_lenL (SqL.of W7.lt) ?_
        rw [List.length_map, W7.rl, hn]
        refine rd_ixL (SqL.of W7.la) (atI_nat hv1) ?_
        walk_at "rc"
        refine ⟨Ff.st _ _ (StX.of_ex W7.ex) gf, qf H7 v1 k1 j _ W7.ex (W7.kv n v1 k1 hv1 pg.hk) hK1 hjl fun v2 H8 e8 hv2 => ?_⟩
        have W8 := W7.grow e8
        have hc8 := e8 _ _ hc7
        have hk2 : nx k1 j ∈ U := ky.nx k1 hK1 j hjl
        have nek : ∀ {ks : List KE} {ws}, Pg ls.length nx st ks ws n j u1 k1 → ks ≠ [] := fun pg z => by have := pg.hk; rw [z] at this; cases this
        have hkd : ∀ k' ∈ ks, isI k' = isI (nx k1 j) := fun k' hk' => ky.kd k' (hks k' hk') _ hk2
        walk_at "rc"
        refine rd_cut (fun σ H' => ∃ (ks : List KE) (ws : List (List Nat)) (kv : List V), σ = [some (.str ls), some k0, some (.ref f), some (.ref g), some (.ref d), some (.ref a), some (.ref tb), some (.ref cur), some (.int (j : Nat)), some v2] ∧ XW w ls.length nx H H' d a tb ks kv rs tab ∧ (∀ k ∈ ks, k ∈ U) ∧ Pg ls.length nx st ks ws n (j + 1) u1 k1 ∧ nx k1 j ∈ ks ∧ KeyV H' v2 (nx k1 j) ∧
          H' cur = some (.lst (row.map vI)) ∧ ∀ i, i < j → ∃ m, row[i]? = some m ∧ ks[m]? = some (nx k1 i)) (fun N hN => ?_) ?_
        · walk_at "rc"
          refine ⟨d, _, rfl, W8.dm.get hv2 hkd (nek pg), ?_⟩
          by_cases hin : nx k1 j ∈ ks
          · rw [if_pos hin]
            obtain ⟨i, hi⟩ := List.mem_iff_getElem?.mp hin
            refine ⟨_, rfl, rd_itef rfl ?_⟩
            walk_at "rc"
            exact hN _ _ ⟨ks, ws, kv, rfl, W8, hks, pg.old hjl hi, hin, hv2, hc8, hrow⟩
          · rw [if_neg hin]
            refine ⟨_, rfl, rd_itet rfl ?_⟩
            obtain ⟨od, hput, hdm, hkind⟩ := W8.dm.put hv2 hkd (nek pg) hin (by omega)
            walk_at "rs"
            walk_at "rc"
            refine rd_lenL (SqL.of W8.la) ?_
            rw [W8.l]
            walk_at "rc"
            refine ⟨d, _, rfl, hput, ?_⟩
            obtain ⟨od0, hd0, hk0'⟩ := W8.dm.obj
            have nT : ∀ b xs, H8 b = some (.tup xs) → b ≠ d := fun b xs z y => by
              rw [y, hd0] at z
              exact hk0' xs (Option.some.inj z)
            have keep9 : ∀ b ob, b ≠ d → H8 b = some ob → upd H8 d od b = some ob := fun b ob hb z => by rw [upd_ne hb]; exact z
            generalize upd H8 d od = H9 at hdm keep9
            have ha9 := keep9 a _ (Ne.symm W8.ne.1) W8.la
            walk_at "rc"
            refine ⟨.inl ⟨rfl, _, SqL.of ha9⟩, ?_⟩
            walk_at "rc"
            refine ⟨a, _, _, rfl, rfl, ha9, by rw [W8.l]; omega, ?_⟩
            have keepA : ∀ b ob, b ≠ a → H9 b = some ob → upd H9 a (.lst (kv ++ [v2])) b = some ob := fun b ob hb z => by rw [upd_ne hb]; exact z
            have hA : upd H9 a (.lst (kv ++ [v2])) a = some (.lst (kv ++ [v2])) := upd_same
            have hdA : upd H9 a (.lst (kv ++ [v2])) d = H9 d := upd_ne W8.ne.1
            generalize upd H9 a (.lst (kv ++ [v2])) = HA at keepA hA hdA
            have hdd : ∀ b xs, H8 b = some (.tup xs) → HA b = some (.tup xs) := fun b xs z => keepA b _ (fun y => by rw [y, W8.la] at z; cases z) (keep9 b _ (nT b xs z) z)
            walk_at "rc"
            refine hN _ _ ⟨ks ++ [nx k1 j], ws ++ [u1 ++ [j]], kv ++ [v2], rfl, ⟨fun b ob z => keepA b _ (ne_of_none z W8.na) (keep9 b _ (ne_of_none z W8.nd) (W8.ex b ob z)), W8.nd, W8.na, W8.nt, W8.ne, hdm.ex hdA (fun b xs z => keepA b _ (fun y => by rw [y, ha9] at z; cases z) z), hA, keepA tb _ (Ne.symm W8.ne.2.2) (keep9 tb _ (Ne.symm W8.ne.2.1) W8.lt), by simp [W8.l], fun i v k g1 g2 => ?_, W8.rl, fun i r ro g1 g2 => ?_, fun i ro k g1 g2 => ?_⟩, fun k hk => ?_, pg.new hjl hin, List.mem_append.mpr (.inr List.mem_cons_self), hv2.ex hdd, keepA cur _ n1 (keep9 cur _ n3 hc8), fun i hi => ?_⟩
            · rcases app_at g1 with z | ⟨z, z'⟩
              · rcases app_at g2 with y | ⟨y, _⟩
                · exact (W8.kv i v k z y).ex hdd
                · have := ltQ z; rw [W8.l] at this; omega
              · rcases app_at g2 with y | ⟨_, y⟩
                · have := ltQ y; rw [← W8.l] at this; omega
                · rw [← z', ← y]; exact hv2.ex hdd
            · have := W8.rw i r ro g1 g2
              exact ⟨keepA r _ this.2.1 (keep9 r _ this.2.2.2 this.1), this.2⟩
            · rcases app_at g2 with y | ⟨y, _⟩
              · obtain ⟨x1, x2⟩ := W8.tv i ro k g1 y
                exact ⟨x1, fun j hj => let ⟨m, z1, z2⟩ := x2 j hj; ⟨m, z1, app_l z2⟩⟩
              · have := ltQ g1
                have := ltQ pg.hk
                omega
            · rcases List.mem_append.mp hk with z | z
              · exact hks k z
              · rw [List.mem_singleton.mp z]; exact hk2
            · obtain ⟨m, z1, z2⟩ := hrow i hi
              exact ⟨m, z1, app_l z2⟩
        · rintro _ H9 ⟨ks, ws, kv, rfl, W9, hks, pg, hin, hv2, hc9, hrow⟩
          have nek : ks ≠ [] := fun z => by have := pg.hk; rw [z] at this; cases this
          have hkd : ∀ k' ∈ ks, isI k' = isI (nx k1 j) := fun k' hk' => ky.kd k' (hks k' hk') _ hk2
          have hg := W9.dm.get hv2 hkd nek
          rw [if_pos hin] at hg
          walk_at "rc"
          refine ⟨.inl ⟨rfl, _, SqL.of hc9⟩, ?_⟩
          walk_at "rc"
          refine ⟨d, _, rfl, hg, ?_⟩
          walk_at "rc"
          refine ⟨cur, _, _, rfl, rfl, hc9, by rw [List.length_map]; omega, ?_⟩
          walk_at "rc"
          have er : row.map vI ++ [V.int ((ks.idxOf (nx k1 j) : Nat) : Int)] = (row ++ [ks.idxOf (nx k1 j)]).map vI := by rw [List.map_append]; rfl
          refine ⟨ks, ws, kv, tab, row ++ [ks.idxOf (nx k1 j)], _, _, rfl, W9.put n1 n2 n3 n4 hc9 hcH, hn, hks, pg, by rw [upd_same, ← er], n1, n2, n3, n4, by simp [hrl], fun i hi => ?_⟩
          rcases Nat.lt_or_ge i j with z | z
          · obtain ⟨m, z1, z2⟩ := hrow i z
            exact ⟨m, app_l z1, z2⟩
          · obtain rfl : i = j := by omega
            refine ⟨ks.idxOf (nx k1 i), by rw [← hrl]; exact app_r, ?_⟩
            rw [List.getElem?_eq_getElem (List.idxOf_lt_length_of_mem hin), List.getElem_idxOf]
      · clear W W6 hpg hend bf hks kU hi pg hk1 hnl hnk hn h6 nc hcur
        rintro σ H7 ⟨ks, ws, kv, tab, row, k8, k9, rfl, W7, hn, hks, pg, hc7, n1, n2, n3, n4, hrl, hrow⟩
        have kU : ks.length ≤ U.length := nodup_leK ks U pg.b.nd hks
        have hnk := ltQ pg.hk
        walk_at "rc"
        refine ⟨.inl ⟨rfl, _, SqL.of W7.lt⟩, ?_⟩
        walk_at "rc"
        refine ⟨tb, _, _, rfl, rfl, W7.lt, by rw [List.length_map, W7.rl]; omega, ?_⟩
        walk_at "rc"
        refine ⟨U.length - (n + 1), by omega, n + 1, rfl, ks, ws, kv, rs ++ [cur], tab ++ [row], _, _, _, rfl, W7.row n1 n2 n3 hc7 (by rw [hn]; exact pg.hk) hrl hrow, by simp [hn], hks, pg.b, hnk, fun k2 h2 => pg.next l0 h2, fun z c => ?_⟩
        have := pg.all l0 (c := c) fun i v hi hv => by
          have := ltQ hv
          rw [pg.b.len] at this; omega
        exact fun u hu hc => this u hu (by have := Nat.le_mul_of_pos_left c l0; omega)
    · have e : n = ks.length := by omega
      have ex := Expl.of (acc := acc) (m := U.length) bf (hend e) (by rw [hn]; exact e) kU W.tv
      walk_at "rc"
      refine rd_anyL (fun Q q => ⟨_, rfl, q⟩) (SqL.of W.la) ?_
      refine lc_F (K := K) (S := []) (P := fun i x => kv[i]? = some x) (G := fun Hc => SqL K Hc a kv) tr_ex (fun b hb => nomatch hb) (walk_list (xs := kv)) (fun i H x H' _ y => y) (by rw [W.l]; omega) (fun Hc e => SqL.of (e _ _ W.la)) (fun _ => true) (fun i => .bool (acc (ks.getD i (.i 0)))) (hg_name fun v => rfl) (fun L i σ2 Hc hi p2 hL nL t1 hs1 up N hN => rd_yes (hN Hc (Evl.Ex.refl Hc))) (fun L i σ2 Hc hi p2 _ hL nL t1 hs1 up N hN => ?_) fun La us H6 e6 hLa nLa hua hda => ?_
      · obtain ⟨v, hv, rfl⟩ := p2
        obtain ⟨k, hk⟩ := getQ (l := ks) (i := i) (by rw [← W.l]; exact hi)
        walk_at "rc"
        refine ⟨g, Gg, sg, rfl, Fg, Fg.st _ _ (StX.of_ex (W.ex.trans t1)) gg, ?_⟩
        walk_at "rc"
        refine ⟨Fg.st _ _ (StX.of_ex (W.ex.trans t1)) gg, qg Hc v k _ (W.ex.trans t1) ((W.kv i v k hv hk).ex fun b xs z => t1 b _ z) (hks k (List.mem_of_getElem? hk)) fun H7 e7 => hN _ H7 e7 ?_⟩
        have ek : ks.getD i (.i 0) = k := by rw [List.getD_eq_getElem?_getD, hk]; rfl
        rw [ek]
        exact .bl _
      have W6 := W.grow e6
      have ea : ((List.range kv.length).filter fun _ => true).map (fun i => PyData.bool (acc (ks.getD i (.i 0)))) = (ks.map acc).map PyData.bool := by
        rw [List.filter_eq_self.mpr fun _ _ => rfl, W.l, List.map_map]
        exact map_getE ks (.i 0) fun k => PyData.bool (acc k)
      rw [ea] at hda
      have dA := (Dp.frz (K := K) hua nLa hda).ex hid_ex
      have dT : Dp K H6 (.ref tb) (nL tab) := .lst (SqL.of W6.lt) (DpAll.of (by rw [List.length_map, List.length_map]; exact W6.rl) fun i v dd h1 h2 => by
        rw [List.getElem?_map] at h1 h2
        obtain ⟨r, hr1, rfl⟩ := Option.map_eq_some_iff.mp h1
        obtain ⟨row, hr2, rfl⟩ := Option.map_eq_some_iff.mp h2
        exact .lst (SqL.of (W6.rw i r row hr1 hr2).1) (dp_vI row))
      have g := tb_gm ex.t (Nat.le_trans ex.m hUl) l1
      walk_at "rc"
      intro x dx hx hdx ne
      exact made_D T hx hdx ne l0 (by omega) dA dT g.m g.w fun H7 e7 hm7 => ⟨rfl, q x _ _ H7 (W6.ex.trans e7) hm7 g ex⟩
end
section
/-! ### blocks of states -/
def bkF (A : List Addr) : List (Str × V) := (["members", "places", "block_of", "starts", "ends", "marks", "touched"] : List Str).zip (A.map V.ref)
structure BL (C : Addr) (H : Hp) (o dx : Addr) (A : List Addr) (L : List (List Nat)) : Prop where
  ob : H o = some (.ins C dx (bkF A))
  nd : (o :: A).Nodup
  l : L.length = A.length
  at' : ∀ (i : Nat) a l, A[i]? = some a → L[i]? = some l → H a = some (.lst (l.map vI))
section
variable {C o dx : Addr} {H H' : Hp} {A : List Addr} {L : List (List Nat)}
theorem BL.ne (h : BL C H o dx A L) {i : Nat} {a : Addr} (ha : A[i]? = some a) : o ≠ a := fun z => (List.nodup_cons.mp h.nd).1 (z ▸ List.mem_of_getElem? ha)
theorem BL.set (h : BL C H o dx A L) {i : Nat} {a : Addr} {l : List Nat} (ha : A[i]? = some a) : BL C (upd H a (.lst (l.map vI))) o dx A (L.set i l) := by
  refine ⟨by rw [upd_ne (h.ne ha)]; exact h.ob, h.nd, by rw [List.length_set]; exact h.l, fun i' a' l' h1 h2 => ?_⟩
  by_cases e : i' = i
  · subst e
    rw [ha] at h1
    cases h1
    rw [List.getElem?_set_self (by rw [h.l]; exact ltQ ha)] at h2
    cases h2
    exact upd_same
  · rw [List.getElem?_set_ne (Ne.symm e)] at h2
    rw [upd_ne fun z => e ((List.getElem?_inj (ltQ h1) (List.nodup_cons.mp h.nd).2).mp (by rw [h1, ha, z]))]
    exact h.at' i' a' l' h1 h2
theorem BL.ex (h : BL C H o dx A L) (e : Ex H H') : BL C H' o dx A L := ⟨e _ _ h.ob, h.nd, h.l, fun i a l h1 h2 => e _ _ (h.at' i a l h1 h2)⟩
end
theorem vI_set (l : List Nat) (i x : Nat) : (l.map vI).set i (.int (x : Int)) = (l.set i x).map vI := (List.map_set ..).symm
theorem vI_at {l : List Nat} {i x : Nat} (h : l[i]? = some x) : (l.map vI)[i]? = some (.int (x : Int)) := by rw [List.getElem?_map, h]; rfl
theorem vI_app (l : List Nat) (x : Nat) : l.map vI ++ [.int (x : Int)] = (l ++ [x]).map vI := by rw [List.map_append]; rfl
theorem rd_setN {l : List Nat} {p : Addr} {i : Nat} {v : V} {H : Hp} {Q : Hp → Prop} (h : H p = some (.lst (l.map vI))) (hi : i < l.length) (q : Q (upd H p (.lst ((l.map vI).set i v)))) : rSetL (.ref p) (.int (i : Int)) v H Q :=
  ⟨p, _, _, i, rfl, rfl, h, by
    have e : (l.map vI).length = l.length := List.length_map _
    rw [e]
    exact ixN_nat hi, q⟩
def cutL (l : List Nat) (a b : Nat) : List Nat := (l.drop a).take (b - a)
theorem rd_slN {K : PySem.W.Frag} {l : List Nat} {a : Addr} {i j : Nat} {H : Hp} {Q : VK} (h : H a = some (.lst (l.map vI))) (h1 : i ≤ j) (h2 : j ≤ l.length) (q : ∀ p, H p = none → Q (.ref p) (upd H p (.lst ((cutL l i j).map vI)))) : oSl K (.ref a) (some (i : Int)) (some (j : Int)) H Q :=
  .inl ⟨a, _, rfl, SqL.of h, fun p hp => by
    have e : cutV (l.map vI) (some (i : Int)) (some (j : Int)) = (cutL l i j).map vI := by
      unfold cutV cutL
      rw [HT.sIx_nat, HT.sIx_nat, List.length_map, Nat.min_eq_left (by omega), Nat.min_eq_left (by omega), ← List.map_drop, ← List.map_take]
    rw [e]
    exact q p hp⟩
theorem fold_set_len (x : Nat) : ∀ (l bl : List Nat), (l.foldl (fun bl s => bl.set s x) bl).length = bl.length
  | [], _ => rfl
  | s :: l, bl => by
    show (l.foldl (fun bl s => bl.set s x) (bl.set s x)).length = _
    rw [fold_set_len x l, List.length_set]
/-- what changes in a cut -/
structure CS where
  blo : List Nat
  sta : List Nat
  en : List Nat
  mar : List Nat
  made : List Nat
def putB (l : List Nat) (x : Nat) (bl : List Nat) : List Nat := l.foldl (fun bl s => bl.set s x) bl
def cut1 (mem : List Nat) (c : CS) (k : Nat) : CS :=
  if c.sta.getD k 0 + c.mar.getD k 0 = c.en.getD k 0 then ⟨c.blo, c.sta, c.en, c.mar.set k 0, c.made⟩
  else if c.mar.getD k 0 ≤ c.en.getD k 0 - (c.sta.getD k 0 + c.mar.getD k 0) then
    ⟨putB (cutL mem (c.sta.getD k 0) (c.sta.getD k 0 + c.mar.getD k 0)) c.sta.length c.blo, c.sta.set k (c.sta.getD k 0 + c.mar.getD k 0) ++ [c.sta.getD k 0], c.en ++ [c.sta.getD k 0 + c.mar.getD k 0], c.mar.set k 0 ++ [0], c.made ++ [c.sta.length]⟩
  else
    ⟨putB (cutL mem (c.sta.getD k 0 + c.mar.getD k 0) (c.en.getD k 0)) c.sta.length c.blo, c.sta ++ [c.sta.getD k 0 + c.mar.getD k 0], c.en.set k (c.sta.getD k 0 + c.mar.getD k 0) ++ [c.en.getD k 0], c.mar.set k 0 ++ [0], c.made ++ [c.sta.length]⟩
/-- a block may be cut -/
structure CutOk (mem : List Nat) (c : CS) (k : Nat) : Prop where
  lt : k < c.sta.length
  e : c.en.length = c.sta.length
  m : c.mar.length = c.sta.length
  le : c.sta.getD k 0 + c.mar.getD k 0 ≤ c.en.getD k 0
  em : c.en.getD k 0 ≤ mem.length
  s1 : c.sta.length ≤ 10000
  d : c.made.length ≤ 10000
  b : ∀ x ∈ mem, x < c.blo.length
theorem at_getD {l : List Nat} {i : Nat} (h : i < l.length) : l[i]? = some (l.getD i 0) := by
  obtain ⟨x, hx⟩ := getQ h
  rw [List.getD_eq_getElem?_getD, hx]
  rfl
end
section
variable (T : Txt K mg)
def spMark : Sp := fun vs H Q _ => ∃ (o dx : Addr) (A : List Addr) (mem pla blo sta en mar tou : List Nat) (s k st mk pl ot : Nat), vs = [.ref o, .int (s : Int)] ∧ A.length = 7 ∧ BL T.C_Blocks H o dx A [mem, pla, blo, sta, en, mar, tou] ∧ blo[s]? = some k ∧ sta[k]? = some st ∧ mar[k]? = some mk ∧ pla[s]? = some pl ∧ mem[st + mk]? = some ot ∧ pl < mem.length ∧ ot < pla.length ∧ tou.length < 100000 ∧
  ∀ H', BL T.C_Blocks H' o dx A [(mem.set (st + mk) s).set pl ot, (pla.set s (st + mk)).set ot pl, blo, sta, en, mar.set k (mk + 1), if mk = 0 then tou ++ [k] else tou] → Kp A H H' → Q .non H'
theorem ok_Blocks_mark : FnOk P w K mg base CX0 1 T.a_Blocks_mark T.d_Blocks_mark ["self", "state"] (spMark T) := by
  refine T.f_Blocks_mark.ok sc_Blocks_mark (fun vs H Q E h => ?_) (fun cdv A outer s H vs Q E hr h => ?_)
  · obtain ⟨_, _, _, _, _, _, _, _, _, _, _, _, _, _, _, _, rfl, _⟩ := h; rfl
  · obtain ⟨o, dx, A7, mem, pla, blo, sta, en, mar, tou, s1, k, st, mk, pl, ot, rfl, hA, B, h1, h2, h3, h4, h5, h6, h7, h8, q⟩ := h
    match A7, hA with
    | [ms, ps, bo, ss, es, ks, tc], _ =>
    refine ⟨_, (pss_cons (ps_set (i := 2) sc_Blocks_mark.nd rfl (by first | exact Or.inl rfl | exact Or.inr rfl) (pe_ix (kIx K) (kFld K rfl (pe_fld (pv 0) rfl)) (pv 1) (fun _ _ => rfl)))
  (pss_cons (ps_set (i := 3) sc_Blocks_mark.nd rfl (by first | exact Or.inl rfl | exact Or.inr rfl) (pe_op (kAdd K) (pe_ix (kIx K) (kFld K rfl (pe_fld (pv 0) rfl)) (pv 2) (fun _ _ => rfl)) (pe_ix (kIx K) (kFld K rfl (pe_fld (pv 0) rfl)) (pv 2) (fun _ _ => rfl))))
  (pss_cons (ps_set (i := 4) sc_Blocks_mark.nd rfl (by first | exact Or.inl rfl | exact Or.inr rfl) (pe_ix (kIx K) (kFld K rfl (pe_fld (pv 0) rfl)) (pv 1) (fun _ _ => rfl)))
  (pss_cons (ps_if (pt_cmpR (kEq K rfl hr.units) (pe_ix (kIx K) (kFld K rfl (pe_fld (pv 0) rfl)) (pv 2) (fun _ _ => rfl)) pe_int (by first | rfl | exact nomark _))
    (pss_one (ps_expr (kBm K rfl (pe_bm PySem.F.plainAttrs_list PySem.F.slot_list_append PySem.F.type_list_append mt_append (kFld K rfl (pe_fld (pv 0) rfl)) (pa_cons (pv 2) pa_nil)))))
    pss_nil)
  (pss_cons (ps_augS (kFld K rfl (pe_fld (pv 0) rfl)) (pv 2) pget_list pe_int ip_add set_list)
  (pss_cons (ps_set (i := 5) sc_Blocks_mark.nd rfl (by first | exact Or.inl rfl | exact Or.inr rfl) (pe_ix (kIx K) (kFld K rfl (pe_fld (pv 0) rfl)) (pv 3) (fun _ _ => rfl)))
  (pss_cons (ps_asg (pv 1) (pg_sub (kFld K rfl (pe_fld (pv 0) rfl)) (pv 3) set_list))
  (pss_cons (ps_asg (pv 5) (pg_sub (kFld K rfl (pe_fld (pv 0) rfl)) (pv 4) set_list))
  (pss_cons (ps_asg (pv 3) (pg_sub (kFld K rfl (pe_fld (pv 0) rfl)) (pv 1) set_list))
  (pss_one (ps_asg (pv 4) (pg_sub (kFld K rfl (pe_fld (pv 0) rfl)) (pv 5) set_list)))))))))))), ?_⟩
    have ho := B.ob
    walk_at "rc"
    refine ⟨o, _, dx, _, _, rfl, ho, T.cl_Blocks, T.na_Blocks_block_of, rfl, ?_⟩
    walk_at "rc"
    refine rd_ixL (SqL.of (B.at' 2 bo blo rfl rfl)) (atI_nat (vI_at h1)) ?_
    walk_at "rc"
    refine ⟨o, _, dx, _, _, rfl, ho, T.cl_Blocks, T.na_Blocks_starts, rfl, ?_⟩
    walk_at "rc"
    refine rd_ixL (SqL.of (B.at' 3 ss sta rfl rfl)) (atI_nat (vI_at h2)) ?_
    walk_at "rc"
    refine ⟨o, _, dx, _, _, rfl, ho, T.cl_Blocks, T.na_Blocks_marks, rfl, ?_⟩
    walk_at "rc"
    refine rd_ixL (SqL.of (B.at' 5 ks mar rfl rfl)) (atI_nat (vI_at h3)) ?_
    walk_at "rc"
    rw [show ((st : Int) + (mk : Int)) = ((st + mk : Nat) : Int) by omega]
    refine ⟨o, _, dx, _, _, rfl, ho, T.cl_Blocks, T.na_Blocks_places, rfl, ?_⟩
    walk_at "rc"
    refine rd_ixL (SqL.of (B.at' 1 ps pla rfl rfl)) (atI_nat (vI_at h4)) ?_
    walk_at "rc"
    refine rd_cut (fun σ H' => ∃ k5, σ = [some (.ref o), some (.int (s1 : Int)), some (.int (k : Int)), some (.int ((st + mk : Nat) : Int)), some (.int (pl : Int)), k5] ∧ BL T.C_Blocks H' o dx [ms, ps, bo, ss, es, ks, tc] [mem, pla, blo, sta, en, mar, if mk = 0 then tou ++ [k] else tou] ∧ Kp [ms, ps, bo, ss, es, ks, tc] H H') (fun N hN => ?_) ?_
    · walk_at "rc"
      refine ⟨o, _, dx, _, _, rfl, ho, T.cl_Blocks, T.na_Blocks_marks, rfl, ?_⟩
      walk_at "rc"
      refine rd_ixL (SqL.of (B.at' 5 ks mar rfl rfl)) (atI_nat (vI_at h3)) ?_
      walk_at "rc"
      refine rd_iteD (fun z => ?_) fun z => ?_
      · have z0 : mk = 0 := by omega
        rw [if_pos z0] at hN
        walk_at "rc"
        refine ⟨o, _, dx, _, _, rfl, ho, T.cl_Blocks, T.na_Blocks_touched, rfl, ?_⟩
        walk_at "rc"
        refine ⟨.inl ⟨rfl, _, SqL.of (B.at' 6 tc tou rfl rfl)⟩, ?_⟩
        walk_at "rc"
        refine ⟨tc, _, _, rfl, rfl, B.at' 6 tc tou rfl rfl, by rw [List.length_map]; have : 1000000 ≤ sizeLine := by decide
                                                               omega, ?_⟩
        walk_at "rc"
        rw [vI_app]
        exact hN _ _ ⟨_, rfl, B.set (i := 6) rfl, Kp.put (by simp)⟩
      · have z0 : mk ≠ 0 := by omega
        rw [if_neg z0] at hN
        walk_at "rc"
        exact hN _ _ ⟨_, rfl, B, Kp.refl⟩
    · clear B ho
      rintro _ H2 ⟨k5, rfl, B, k2⟩
      have ho := B.ob
      walk_at "rc"
      refine rd_augS ?_
      walk_at "rc"
      refine ⟨o, _, dx, _, _, rfl, ho, T.cl_Blocks, T.na_Blocks_marks, rfl, ?_⟩
      walk_at "rc"
      refine ⟨ks, _, k, _, rfl, rfl, B.at' 5 ks mar rfl rfl, by omega, by rw [Int.toNat_natCast]; exact vI_at h3, ?_⟩
      walk_at "rc"
      refine ⟨_, _, rfl, rfl, ?_⟩
      show rSetL (V.ref ks) (V.int (k : Int)) (V.int ((mk : Int) + 1)) H2 _
      rw [show (mk : Int) + 1 = ((mk + 1 : Nat) : Int) by omega]
      refine rd_setN (B.at' 5 ks mar rfl rfl) (ltQ h3) ?_
      rw [vI_set]
      have B3 := B.set (i := 5) (a := ks) (l := mar.set k (mk + 1)) rfl
      have k3 : Kp [ms, ps, bo, ss, es, ks, tc] H _ := k2.trans (Kp.put (q := ks) (o := .lst ((mar.set k (mk + 1)).map vI)) (by simp))
      generalize upd H2 ks (.lst ((mar.set k (mk + 1)).map vI)) = H3 at B3 k3
      clear B ho
      have ho := B3.ob
      walk_at "rc"
      refine ⟨o, _, dx, _, _, rfl, ho, T.cl_Blocks, T.na_Blocks_members, rfl, ?_⟩
      walk_at "rc"
      refine rd_ixL (SqL.of (B3.at' 0 ms mem rfl rfl)) (atI_nat (vI_at h5)) ?_
      walk_at "rc"
      refine ⟨o, _, dx, _, _, rfl, ho, T.cl_Blocks, T.na_Blocks_members, rfl, ?_⟩
      walk_at "rc"
      refine rd_setN (B3.at' 0 ms mem rfl rfl) (ltQ h5) ?_
      rw [vI_set]
      have B4 := B3.set (i := 0) (a := ms) (l := mem.set (st + mk) s1) rfl
      have k4 := k3.trans (Kp.put (q := ms) (o := .lst ((mem.set (st + mk) s1).map vI)) (by simp))
      generalize upd H3 ms (.lst ((mem.set (st + mk) s1).map vI)) = H4 at B4 k4
      clear B3 ho
      have ho := B4.ob
      walk_at "rc"
      refine ⟨o, _, dx, _, _, rfl, ho, T.cl_Blocks, T.na_Blocks_members, rfl, ?_⟩
      walk_at "rc"
      refine rd_setN (B4.at' 0 ms (mem.set (st + mk) s1) rfl rfl) (by rw [List.length_set]; exact h6) ?_
      rw [vI_set]
      have B5 := B4.set (i := 0) (a := ms) (l := (mem.set (st + mk) s1).set pl ot) rfl
      have k5' := k4.trans (Kp.put (q := ms) (o := .lst (((mem.set (st + mk) s1).set pl ot).map vI)) (by simp))
      generalize upd H4 ms (.lst (((mem.set (st + mk) s1).set pl ot).map vI)) = H5 at B5 k5'
      clear B4 ho
      have ho := B5.ob
      walk_at "rc"
      refine ⟨o, _, dx, _, _, rfl, ho, T.cl_Blocks, T.na_Blocks_places, rfl, ?_⟩
      walk_at "rc"
      refine rd_setN (B5.at' 1 ps pla rfl rfl) (ltQ h4) ?_
      rw [vI_set]
      have B6 := B5.set (i := 1) (a := ps) (l := pla.set s1 (st + mk)) rfl
      have k6 := k5'.trans (Kp.put (q := ps) (o := .lst ((pla.set s1 (st + mk)).map vI)) (by simp))
      generalize upd H5 ps (.lst ((pla.set s1 (st + mk)).map vI)) = H6 at B6 k6
      clear B5 ho
      have ho := B6.ob
      walk_at "rc"
      refine ⟨o, _, dx, _, _, rfl, ho, T.cl_Blocks, T.na_Blocks_places, rfl, ?_⟩
      walk_at "rc"
      refine rd_setN (B6.at' 1 ps (pla.set s1 (st + mk)) rfl rfl) (by rw [List.length_set]; exact h7) ?_
      rw [vI_set]
      exact q _ (B6.set (i := 1) (a := ps) (l := (pla.set s1 (st + mk)).set ot pl) rfl) (k6.trans (Kp.put (q := ps) (by simp)))
def spStatesIn : Sp := fun vs H Q _ => ∃ (o dx : Addr) (A : List Addr) (mem pla blo sta en mar tou : List Nat) (k st e : Nat), vs = [.ref o, .int (k : Int)] ∧ A.length = 7 ∧ BL T.C_Blocks H o dx A [mem, pla, blo, sta, en, mar, tou] ∧ sta[k]? = some st ∧ en[k]? = some e ∧ st ≤ e ∧ e ≤ mem.length ∧ mem.length ≤ 100000 ∧
  ∀ p H', H p = none → Ex H H' → H' p = some (.lst ((cutL mem st e).map vI)) → Q (.ref p) H'
theorem ok_Blocks_states_in : FnOk P w K mg base CX0 1 T.a_Blocks_states_in T.d_Blocks_states_in ["self", "block"] (spStatesIn T) := by
  refine T.f_Blocks_states_in.ok sc_Blocks_states_in (fun vs H Q E h => ?_) (fun cdv A outer s H vs Q E hr h => ?_)
  · obtain ⟨_, _, _, _, _, _, _, _, _, _, _, _, _, rfl, _⟩ := h; rfl
  · obtain ⟨o, dx, A7, mem, pla, blo, sta, en, mar, tou, k, st, e, rfl, hA, B, h1, h2, h3, h4, h5, q⟩ := h
    match A7, hA with
    | [ms, ps, bo, ss, es, ks, tc], _ =>
    refine ⟨_, (pss_one (ps_ret (pe_slice (kSl K) (kFld K rfl (pe_fld (pv 0) rfl)) (po_some (pe_ix (kIx K) (kFld K rfl (pe_fld (pv 0) rfl)) (pv 1) (fun _ _ => rfl))) (po_some (pe_ix (kIx K) (kFld K rfl (pe_fld (pv 0) rfl)) (pv 1) (fun _ _ => rfl)))))), ?_⟩
    have ho := B.ob
    walk_at "rc"
    refine ⟨o, _, dx, _, _, rfl, ho, T.cl_Blocks, T.na_Blocks_members, rfl, ?_⟩
    walk_at "rc"
    refine ⟨o, _, dx, _, _, rfl, ho, T.cl_Blocks, T.na_Blocks_starts, rfl, ?_⟩
    walk_at "rc"
    refine rd_ixL (SqL.of (B.at' 3 ss sta rfl rfl)) (atI_nat (vI_at h1)) ?_
    walk_at "rc"
    refine ⟨o, _, dx, _, _, rfl, ho, T.cl_Blocks, T.na_Blocks_ends, rfl, ?_⟩
    walk_at "rc"
    refine rd_ixL (SqL.of (B.at' 4 es en rfl rfl)) (atI_nat (vI_at h2)) ?_
    walk_at "rc"
    refine rd_slN (B.at' 0 ms mem rfl rfl) h3 h4 fun p hp => ?_
    exact q p _ hp (Evl.Ex.new hp) upd_same
def spTakeOut : Sp := fun vs H Q _ => ∃ (o dx : Addr) (A : List Addr) (mem pla blo sta en mar tou : List Nat) (a b : Nat), vs = [.ref o, .int (a : Int), .int (b : Int)] ∧ A.length = 7 ∧ BL T.C_Blocks H o dx A [mem, pla, blo, sta, en, mar, tou] ∧ a ≤ b ∧ b ≤ mem.length ∧ mem.length ≤ 100000 ∧ sta.length ≤ 100000 ∧ en.length ≤ 100000 ∧ mar.length ≤ 100000 ∧ (∀ x ∈ mem, x < blo.length) ∧
  ∀ H', BL T.C_Blocks H' o dx A [mem, pla, (cutL mem a b).foldl (fun bl x => bl.set x sta.length) blo, sta ++ [a], en ++ [b], mar ++ [0], tou] → Kp A H H' → Q .non H'
theorem ok_Blocks_take_out : FnOk P w K mg base CX0 1 T.a_Blocks_take_out T.d_Blocks_take_out ["self", "start", "end"] (spTakeOut T) := by
  refine T.f_Blocks_take_out.ok sc_Blocks_take_out (fun vs H Q E h => ?_) (fun cdv A outer s H vs Q E hr h => ?_)
  · obtain ⟨_, _, _, _, _, _, _, _, _, _, _, _, rfl, _⟩ := h; rfl
  · obtain ⟨o, dx, A7, mem, pla, blo, sta, en, mar, tou, a, b, rfl, hA, B, h1, h2, h3, h4, h5, h6, h7, q⟩ := h
    match A7, hA with
    | [ms, ps, bo, ss, es, ks, tc], _ =>
    refine ⟨_, (pss_cons (ps_for PassesOwn.never rfl (kAny K rfl (pe_slice (kSl K) (kFld K rfl (pe_fld (pv 0) rfl)) (po_some (pv 1)) (po_some (pv 2)))) (pg_name (i := 3) sc_Blocks_take_out.nd rfl (by first | exact Or.inl rfl | exact Or.inr rfl))
    (pss_one (ps_asg (pe_callB (kLen K) (by rfl) T.nb_len (by decide +kernel) (pa_cons (kFld K rfl (pe_fld (pv 0) rfl)) pa_nil)) (pg_sub (kFld K rfl (pe_fld (pv 0) rfl)) (pv 3) set_list))))
  (pss_cons (ps_expr (kBm K rfl (pe_bm PySem.F.plainAttrs_list PySem.F.slot_list_append PySem.F.type_list_append mt_append (kFld K rfl (pe_fld (pv 0) rfl)) (pa_cons (pv 1) pa_nil))))
  (pss_cons (ps_expr (kBm K rfl (pe_bm PySem.F.plainAttrs_list PySem.F.slot_list_append PySem.F.type_list_append mt_append (kFld K rfl (pe_fld (pv 0) rfl)) (pa_cons (pv 2) pa_nil))))
  (pss_one (ps_expr (kBm K rfl (pe_bm PySem.F.plainAttrs_list PySem.F.slot_list_append PySem.F.type_list_append mt_append (kFld K rfl (pe_fld (pv 0) rfl)) (pa_cons pe_int pa_nil)))))))), ?_⟩
    have ho := B.ob
    walk_at "rc"
    walk_at "rs"
    walk_at "rc"
    refine rd_anyL' ?_
    walk_at "rc"
    refine ⟨o, _, dx, _, _, rfl, ho, T.cl_Blocks, T.na_Blocks_members, rfl, ?_⟩
    walk_at "rc"
    refine rd_slN (B.at' 0 ms mem rfl rfl) h1 h2 fun p hp => ?_
    obtain ⟨sl, hsl⟩ : ∃ sl, cutL mem a b = sl := ⟨_, rfl⟩
    have slm : ∀ x ∈ sl, x < blo.length := fun x hx => h7 x (by rw [← hsl] at hx; exact List.mem_of_mem_drop (List.mem_of_mem_take hx))
    rw [hsl] at q ⊢
    have e1 : Ex H (upd H p (.lst (sl.map vI))) := Evl.Ex.new hp
    have hp1 : upd H p (.lst (sl.map vI)) p = some (.lst (sl.map vI)) := upd_same
    have npA : ∀ x ∈ [ms, ps, bo, ss, es, ks, tc], p ≠ x := fun x hx z => by
      obtain ⟨i, hi⟩ := List.getElem?_of_mem hx
      obtain ⟨l, hl⟩ := getQ (l := [mem, pla, blo, sta, en, mar, tou]) (i := i) (by rw [B.l]; exact ltQ hi)
      rw [z, B.at' i x l hi hl] at hp; cases hp
    have B1 := B.ex e1
    generalize upd H p (.lst (sl.map vI)) = H1 at e1 hp1 B1
    refine ⟨p, rfl, ⟨_, SqL.of hp1⟩, ?_⟩
    refine fo_list (fun i σ H' => (∃ k3 : Option V, σ = [some (.ref o), some (.int (a : Int)), some (.int (b : Int)), k3]) ∧ BL T.C_Blocks H' o dx [ms, ps, bo, ss, es, ks, tc] [mem, pla, (sl.take i).foldl (fun bl x => bl.set x sta.length) blo, sta, en, mar, tou] ∧ Kp [ms, ps, bo, ss, es, ks, tc] H1 H') ⟨⟨_, rfl⟩, B1, Kp.refl⟩ (fun i σ H' _ z => SqL.of (z.2.2 _ _ (fun m => npA p m rfl) hp1)) ?_ ?_
    · rintro i x σ H2 hi ⟨⟨k3, rfl⟩, B2, k2⟩
      rw [List.getElem?_map] at hi
      obtain ⟨y, hy, rfl⟩ := Option.map_eq_some_iff.mp hi
      have ho := B2.ob
      walk_at "rc"
      refine ⟨o, _, dx, _, _, rfl, ho, T.cl_Blocks, T.na_Blocks_starts, rfl, ?_⟩
      walk_at "rc"
      refine rd_lenL (SqL.of (B2.at' 3 ss sta rfl rfl)) ?_
      rw [List.length_map]
      walk_at "rc"
      refine ⟨o, _, dx, _, _, rfl, ho, T.cl_Blocks, T.na_Blocks_block_of, rfl, ?_⟩
      walk_at "rc"
      refine rd_setN (B2.at' 2 bo _ rfl rfl) (by rw [fold_set_len]; exact slm y (List.mem_of_getElem? hy)) ?_
      rw [vI_set]
      have e : (sl.take (i + 1)).foldl (fun bl x => bl.set x sta.length) blo = ((sl.take i).foldl (fun bl x => bl.set x sta.length) blo).set y sta.length := by
        rw [List.take_succ, hy, List.foldl_append]; rfl
      rw [e]
      exact ⟨⟨_, rfl⟩, B2.set (i := 2) rfl, k2.trans (Kp.put (by simp))⟩
    · rintro σ H2 ⟨⟨k3, rfl⟩, B2, k2⟩
      rw [List.length_map, List.take_length] at B2
      have sz : 1000000 ≤ sizeLine := by decide
      have k02 : Kp [ms, ps, bo, ss, es, ks, tc] H H2 := (Kp.of_ex e1).trans k2
      clear B B1 ho
      have ho := B2.ob
      walk_at "rc"
      refine ⟨o, _, dx, _, _, rfl, ho, T.cl_Blocks, T.na_Blocks_starts, rfl, ?_⟩
      walk_at "rc"
      refine ⟨.inl ⟨rfl, _, SqL.of (B2.at' 3 ss sta rfl rfl)⟩, ?_⟩
      walk_at "rc"
      refine ⟨ss, _, _, rfl, rfl, B2.at' 3 ss sta rfl rfl, by rw [List.length_map]; omega, ?_⟩
      rw [vI_app]
      have B3 := B2.set (i := 3) (a := ss) (l := sta ++ [a]) rfl
      have k03 := k02.trans (Kp.put (q := ss) (o := .lst ((sta ++ [a]).map vI)) (by simp))
      generalize upd H2 ss (.lst ((sta ++ [a]).map vI)) = H3 at B3 k03
      clear B2 ho
      have ho := B3.ob
      walk_at "rc"
      refine ⟨o, _, dx, _, _, rfl, ho, T.cl_Blocks, T.na_Blocks_ends, rfl, ?_⟩
      walk_at "rc"
      refine ⟨.inl ⟨rfl, _, SqL.of (B3.at' 4 es en rfl rfl)⟩, ?_⟩
      walk_at "rc"
      refine ⟨es, _, _, rfl, rfl, B3.at' 4 es en rfl rfl, by rw [List.length_map]; omega, ?_⟩
      rw [vI_app]
      have B4 := B3.set (i := 4) (a := es) (l := en ++ [b]) rfl
      have k04 := k03.trans (Kp.put (q := es) (o := .lst ((en ++ [b]).map vI)) (by simp))
      generalize upd H3 es (.lst ((en ++ [b]).map vI)) = H4 at B4 k04
      clear B3 ho
      have ho := B4.ob
      walk_at "rc"
      refine ⟨o, _, dx, _, _, rfl, ho, T.cl_Blocks, T.na_Blocks_marks, rfl, ?_⟩
      walk_at "rc"
      refine ⟨.inl ⟨rfl, _, SqL.of (B4.at' 5 ks mar rfl rfl)⟩, ?_⟩
      walk_at "rc"
      refine ⟨ks, _, _, rfl, rfl, B4.at' 5 ks mar rfl rfl, by rw [List.length_map]; omega, ?_⟩
      rw [show mar.map vI ++ [V.int 0] = (mar ++ [0]).map vI from vI_app mar 0]
      exact q _ (B4.set (i := 5) rfl) (k04.trans (Kp.put (by simp)))
end
section
/-! ### how the blocks lie -/
theorem gset {l : List Nat} {i x : Nat} (h : i < l.length) (j : Nat) : (l.set i x).getD j 0 = if j = i then x else l.getD j 0 := by
  rw [List.getD_eq_getElem?_getD, List.getD_eq_getElem?_getD]
  by_cases e : j = i
  · rw [if_pos e, e, List.getElem?_set_self h]; rfl
  · rw [if_neg e, List.getElem?_set_ne (Ne.symm e)]
structure LayB (n : Nat) (mem pla blo sta en mar tou : List Nat) : Prop where
  lm : mem.length = n
  lp : pla.length = n
  lb : blo.length = n
  le : en.length = sta.length
  lk : mar.length = sta.length
  mp : ∀ i, i < n → mem.getD i 0 < n ∧ pla.getD (mem.getD i 0) 0 = i
  pm : ∀ s, s < n → pla.getD s 0 < n ∧ mem.getD (pla.getD s 0) 0 = s
  bl : ∀ s, s < n → blo.getD s 0 < sta.length ∧ sta.getD (blo.getD s 0) 0 ≤ pla.getD s 0 ∧ pla.getD s 0 < en.getD (blo.getD s 0) 0
  bn : ∀ k, k < sta.length → sta.getD k 0 + mar.getD k 0 ≤ en.getD k 0 ∧ en.getD k 0 ≤ n ∧ sta.getD k 0 < en.getD k 0
  un : ∀ k i, k < sta.length → sta.getD k 0 ≤ i → i < en.getD k 0 → blo.getD (mem.getD i 0) 0 = k
  to : ∀ k, k ∈ tou ↔ k < sta.length ∧ 0 < mar.getD k 0
  tn : tou.Nodup
def Mkd (pla blo sta mar : List Nat) (s : Nat) : Prop := pla.getD s 0 < sta.getD (blo.getD s 0) 0 + mar.getD (blo.getD s 0) 0
section
variable {n : Nat} {mem pla blo sta en mar tou : List Nat}
theorem LayB.few (h : LayB n mem pla blo sta en mar tou) : sta.length ≤ n := by
  have nd : ((List.range sta.length).map fun k => mem.getD (sta.getD k 0) 0).Nodup := by
    refine List.pairwise_map.mpr (List.Pairwise.imp_of_mem (fun {a b} ha hb ne z => ne ?_) (List.nodup_range (n := sta.length)))
    have ha := List.mem_range.mp ha
    have hb := List.mem_range.mp hb
    rw [← h.un a _ ha (Nat.le_refl _) (h.bn a ha).2.2, z, h.un b _ hb (Nat.le_refl _) (h.bn b hb).2.2]
  have := nodup_leK _ (List.range n) nd fun x hx => by
    obtain ⟨k, hk, rfl⟩ := List.mem_map.mp hx
    have b := h.bn k (List.mem_range.mp hk)
    exact List.mem_range.mpr (h.mp _ (by omega)).1
  rw [List.length_map, List.length_range, List.length_range] at this
  exact this
theorem LayB.mark (h : LayB n mem pla blo sta en mar tou) {s k g p o : Nat} (hs : s < n) (hm : ¬ Mkd pla blo sta mar s) (hk : blo.getD s 0 = k) (hg : sta.getD k 0 + mar.getD k 0 = g) (hp : pla.getD s 0 = p) (ho : mem.getD g 0 = o) :
    LayB n ((mem.set g s).set p o) ((pla.set s g).set o p) blo sta en (mar.set k (mar.getD k 0 + 1)) (if mar.getD k 0 = 0 then tou ++ [k] else tou) ∧ ∀ t, t < n → (Mkd ((pla.set s g).set o p) blo sta (mar.set k (mar.getD k 0 + 1)) t ↔ Mkd pla blo sta mar t ∨ t = s) := by
  obtain ⟨b1, b2, b3⟩ := h.bl s hs
  obtain ⟨m1, m2⟩ := h.pm s hs
  rw [hk] at b1 b2 b3
  rw [hp] at b2 b3 m1 m2
  have gp : g ≤ p := by
    unfold Mkd at hm
    rw [hk, hp] at hm
    omega
  obtain ⟨c1, c2, c3⟩ := h.bn k b1
  have gn : g < n := by omega
  obtain ⟨o1, o2⟩ := h.mp g gn
  rw [ho] at o1 o2
  have bo : blo.getD o 0 = k := by rw [← ho]; exact h.un k g b1 (by omega) (by omega)
  have M : ∀ j, ((mem.set g s).set p o).getD j 0 = if j = p then o else if j = g then s else mem.getD j 0 := fun j => by
    rw [gset (by rw [List.length_set, h.lm]; exact m1), gset (by rw [h.lm]; exact gn)]
  have Pl : ∀ j, ((pla.set s g).set o p).getD j 0 = if j = o then p else if j = s then g else pla.getD j 0 := fun j => by
    rw [gset (by rw [List.length_set, h.lp]; exact o1), gset (by rw [h.lp]; exact hs)]
  have Mr : ∀ j, (mar.set k (mar.getD k 0 + 1)).getD j 0 = if j = k then mar.getD k 0 + 1 else mar.getD j 0 := fun j => gset (by rw [h.lk]; exact b1) j
  have eo : o = s → p = g := fun z => by rw [z, hp] at o2; exact o2
  refine ⟨⟨by rw [List.length_set, List.length_set]; exact h.lm, by rw [List.length_set, List.length_set]; exact h.lp, h.lb, h.le, by rw [List.length_set]; exact h.lk, fun i hi => ?_, fun t ht => ?_, fun t ht => ?_, fun j hj => ?_, fun j i hj h1 h2 => ?_, fun j => ?_, ?_⟩, fun t ht => ?_⟩
  · rw [M i, Pl]
    by_cases e1 : i = p
    · rw [if_pos e1, if_pos rfl]; exact ⟨o1, e1.symm⟩
    · rw [if_neg e1]
      by_cases e2 : i = g
      · rw [if_pos e2]
        by_cases e3 : s = o
        · exact absurd (e2.trans (eo e3.symm).symm) e1
        · rw [if_neg e3, if_pos rfl]; exact ⟨hs, e2.symm⟩
      · rw [if_neg e2]
        obtain ⟨q1, q2⟩ := h.mp i hi
        rw [if_neg fun z => e2 (by rw [z, o2] at q2; exact q2.symm), if_neg fun z => e1 (by rw [z, hp] at q2; exact q2.symm)]
        exact ⟨q1, q2⟩
  · rw [Pl t, M]
    by_cases e1 : t = o
    · rw [if_pos e1, if_pos rfl]; exact ⟨m1, e1.symm⟩
    · rw [if_neg e1]
      by_cases e2 : t = s
      · rw [if_pos e2]
        by_cases e3 : g = p
        · refine absurd (e2.trans ?_) e1
          rw [← m2, ← e3, ho]
        · rw [if_neg e3, if_pos rfl]; exact ⟨gn, e2.symm⟩
      · rw [if_neg e2]
        obtain ⟨q1, q2⟩ := h.pm t ht
        rw [if_neg fun z => e2 (by rw [z, m2] at q2; exact q2.symm), if_neg fun z => e1 (by rw [z, ho] at q2; exact q2.symm)]
        exact ⟨q1, q2⟩
  · rw [Pl t]
    by_cases e1 : t = o
    · rw [if_pos e1, e1, bo]; exact ⟨b1, b2, b3⟩
    · rw [if_neg e1]
      by_cases e2 : t = s
      · rw [if_pos e2, e2, hk]; exact ⟨b1, by omega, by omega⟩
      · rw [if_neg e2]; exact h.bl t ht
  · rw [Mr j]
    by_cases e : j = k
    · rw [if_pos e, e]; exact ⟨by omega, c2, c3⟩
    · rw [if_neg e]; exact h.bn j hj
  · rw [M i]
    by_cases e1 : i = p
    · rw [if_pos e1, bo]
      have := h.un j i hj h1 h2
      rw [e1, m2, hk] at this
      exact this
    · rw [if_neg e1]
      by_cases e2 : i = g
      · rw [if_pos e2, hk]
        have := h.un j i hj h1 h2
        rw [e2, ho, bo] at this
        exact this
      · rw [if_neg e2]; exact h.un j i hj h1 h2
  · rw [Mr j]
    by_cases e : j = k
    · rw [if_pos e]
      split
      · exact ⟨fun _ => ⟨e ▸ b1, by omega⟩, fun _ => List.mem_append.mpr (.inr (by rw [e]; exact List.mem_cons_self))⟩
      · rename_i z
        exact ⟨fun _ => ⟨e ▸ b1, by omega⟩, fun _ => (h.to j).mpr ⟨e ▸ b1, by rw [e]; omega⟩⟩
    · rw [if_neg e, ← h.to j]
      split
      · rw [List.mem_append, List.mem_singleton]
        exact ⟨fun z => z.resolve_right e, .inl⟩
      · exact Iff.rfl
  · split
    · rename_i z
      exact List.nodup_append.mpr ⟨h.tn, List.nodup_cons.mpr ⟨(fun z => nomatch z), List.nodup_nil⟩, fun x hx y hy e => by
        rw [List.mem_singleton.mp hy] at e
        have := ((h.to x).mp hx).2
        rw [e, z] at this
        omega⟩
    · exact h.tn
  · unfold Mkd
    rw [Pl t, Mr]
    by_cases e2 : t = s
    · rw [e2, hk, if_pos rfl]
      refine ⟨fun _ => .inr rfl, fun _ => ?_⟩
      by_cases e1 : s = o
      · rw [if_pos e1, if_pos rfl]; have := eo e1.symm; omega
      · rw [if_neg e1, if_pos rfl]; omega
    · by_cases e1 : t = o
      · rw [if_pos e1, e1, bo, if_pos rfl, o2]
        have : p ≠ g := fun z => e2 (by rw [e1, ← ho, ← z, m2])
        exact ⟨fun z => by omega, fun z => by rcases z with z | z; (· omega); (· exact absurd (e1.trans z) e2)⟩
      · rw [if_neg e1, if_neg e2]
        have png : pla.getD t 0 ≠ g := fun z => e1 (by rw [← (h.pm t ht).2, z, ho])
        by_cases e3 : blo.getD t 0 = k
        · rw [e3, if_pos rfl]
          exact ⟨fun z => .inl (by omega), fun z => by rcases z with z | z; (· omega); (· exact absurd z e2)⟩
        · rw [if_neg e3]
          exact ⟨fun z => .inl z, fun z => z.resolve_right e2⟩
end
end
section
theorem gapp (l : List Nat) (x j : Nat) : (l ++ [x]).getD j 0 = if j = l.length then x else l.getD j 0 := by
  rw [List.getD_eq_getElem?_getD, List.getD_eq_getElem?_getD]
  by_cases e : j = l.length
  · rw [if_pos e, e, app_r]; rfl
  · rw [if_neg e]
    rcases Nat.lt_or_ge j l.length with z | z
    · rw [List.getElem?_append_left z]
    · rw [List.getElem?_eq_none (by rw [List.length_append, List.length_singleton]; omega), List.getElem?_eq_none z]
theorem putB_at (x : Nat) : ∀ (l bl : List Nat) (s : Nat), s < bl.length → (putB l x bl).getD s 0 = if s ∈ l then x else bl.getD s 0
  | [], bl, s, _ => by rw [if_neg (fun z => nomatch z)]; rfl
  | y :: l, bl, s, hs => by
    show (putB l x (bl.set y x)).getD s 0 = _
    rw [putB_at x l (bl.set y x) s (by rw [List.length_set]; exact hs)]
    by_cases e : s ∈ l
    · rw [if_pos e, if_pos (List.mem_cons_of_mem _ e)]
    · rw [if_neg e]
      by_cases e2 : s = y
      · rw [if_pos (by rw [e2]; exact List.mem_cons_self), e2, gset (by rw [← e2]; exact hs), if_pos rfl]
      · rw [if_neg fun z => (List.mem_cons.mp z).elim e2 e, List.getD_eq_getElem?_getD, List.getD_eq_getElem?_getD, List.getElem?_set_ne (Ne.symm e2)]
section
variable {n : Nat} {mem pla blo sta en mar rest : List Nat} {k : Nat}
theorem LayB.inCut (h : LayB n mem pla blo sta en mar rest) {a b s : Nat} (hb : b ≤ n) (hs : s < n) : s ∈ cutL mem a b ↔ a ≤ pla.getD s 0 ∧ pla.getD s 0 < b := by
  obtain ⟨p1, p2⟩ := h.pm s hs
  unfold cutL
  rw [List.mem_iff_getElem?]
  constructor
  · rintro ⟨i, hi⟩
    have h1 : i < b - a := by
      have := ltQ hi
      rw [List.length_take] at this
      omega
    rw [List.getElem?_take_of_lt h1, List.getElem?_drop] at hi
    have hl : a + i < n := by rw [← h.lm]; exact ltQ hi
    have e : mem.getD (a + i) 0 = s := by rw [List.getD_eq_getElem?_getD, hi]; rfl
    have := (h.mp _ hl).2
    rw [e] at this
    omega
  · rintro ⟨z1, z2⟩
    refine ⟨pla.getD s 0 - a, ?_⟩
    rw [List.getElem?_take_of_lt (by omega), List.getElem?_drop, show a + (pla.getD s 0 - a) = pla.getD s 0 by omega, at_getD (by rw [h.lm]; exact p1), p2]
/-- what the cut of one block does -/
structure Cut1 (n : Nat) (mem pla blo sta mar : List Nat) (k : Nat) (rest blo' sta' en' mar' : List Nat) (made : List Nat) : Prop where
  l : LayB n mem pla blo' sta' en' mar' rest
  eq : ∀ s t, s < n → t < n → (blo'.getD s 0 = blo'.getD t 0 ↔ blo.getD s 0 = blo.getD t 0 ∧ (blo.getD s 0 = k → (Mkd pla blo sta mar s ↔ Mkd pla blo sta mar t)))
  nw : ∀ s, s < n → blo'.getD s 0 = blo.getD s 0 ∨ blo'.getD s 0 ∈ made
  mkd : ∀ s, s < n → (Mkd pla blo' sta' mar' s ↔ Mkd pla blo sta mar s ∧ blo.getD s 0 ≠ k)
  ln : sta'.length = sta.length + made.length
  ge : ∀ s, s < n → blo'.getD s 0 ∈ made → blo.getD s 0 = k
  md : ∀ x ∈ made, x = sta.length
theorem LayB.whole (h : LayB n mem pla blo sta en mar (k :: rest)) (hw : sta.getD k 0 + mar.getD k 0 = en.getD k 0) : Cut1 n mem pla blo sta mar k rest blo sta en (mar.set k 0) [] := by
  obtain ⟨hk, hm⟩ := (h.to k).mp List.mem_cons_self
  have Mr : ∀ j, (mar.set k 0).getD j 0 = if j = k then 0 else mar.getD j 0 := fun j => gset (by rw [h.lk]; exact hk) j
  obtain ⟨nk, nr⟩ := List.nodup_cons.mp h.tn
  have all : ∀ s, s < n → blo.getD s 0 = k → Mkd pla blo sta mar s := fun s hs e => by
    have := (h.bl s hs).2.2
    unfold Mkd
    rw [e] at this ⊢
    omega
  refine ⟨⟨h.lm, h.lp, h.lb, h.le, by rw [List.length_set]; exact h.lk, h.mp, h.pm, h.bl, fun j hj => ?_, h.un, fun j => ?_, nr⟩, fun s t hs ht => ?_, fun s _ => .inl rfl, fun s hs => ?_, rfl, (fun s _ z => nomatch z), (fun x z => nomatch z)⟩
  · have := h.bn j hj
    rw [Mr j]
    split <;> omega
  · rw [Mr j]
    by_cases e : j = k
    · rw [if_pos e]
      exact ⟨fun z => absurd (e ▸ z) nk, fun z => absurd z.2 (Nat.lt_irrefl 0)⟩
    · rw [if_neg e, ← h.to j]
      exact ⟨List.mem_cons_of_mem _, fun z => (List.mem_cons.mp z).resolve_left e⟩
  · exact ⟨fun e => ⟨e, fun ek => ⟨fun _ => all t ht (e ▸ ek), fun _ => all s hs ek⟩⟩, fun z => z.1⟩
  · unfold Mkd
    rw [Mr]
    by_cases e : blo.getD s 0 = k
    · rw [if_pos e]
      have := (h.bl s hs).2.1
      exact ⟨fun z => by omega, fun z => absurd e z.2⟩
    · rw [if_neg e]
      exact ⟨fun z => ⟨z, e⟩, fun z => z.1⟩
theorem LayB.split (h : LayB n mem pla blo sta en mar (k :: rest)) {st mid e a b a' b' : Nat} (h1 : sta.getD k 0 = st) (h2 : st + mar.getD k 0 = mid) (h3 : en.getD k 0 = e) (ne : mid ≠ e) (hab : (a = st ∧ b = mid ∧ a' = mid ∧ b' = e) ∨ (a = mid ∧ b = e ∧ a' = st ∧ b' = mid))
    {blo' sta' en' mar' : List Nat} (lb : blo'.length = n) (ls : sta'.length = sta.length + 1) (le : en'.length = sta.length + 1) (lr : mar'.length = sta.length + 1) (Bl : ∀ s, s < n → blo'.getD s 0 = if a ≤ pla.getD s 0 ∧ pla.getD s 0 < b then sta.length else blo.getD s 0)
    (Ss : ∀ j, sta'.getD j 0 = if j = sta.length then a else if j = k then a' else sta.getD j 0) (Es : ∀ j, en'.getD j 0 = if j = sta.length then b else if j = k then b' else en.getD j 0) (Mr : ∀ j, mar'.getD j 0 = if j = sta.length then 0 else if j = k then 0 else mar.getD j 0) : Cut1 n mem pla blo sta mar k rest blo' sta' en' mar' [sta.length] := by
  obtain ⟨hk, hm⟩ := (h.to k).mp List.mem_cons_self
  obtain ⟨nk, nr⟩ := List.nodup_cons.mp h.tn
  obtain ⟨b1, b2, b3⟩ := h.bn k hk
  rw [h1, h3] at b1 b3
  rw [h3] at b2
  have inK : ∀ s, s < n → st ≤ pla.getD s 0 → pla.getD s 0 < e → blo.getD s 0 = k := fun s hs z1 z2 => by
    have := h.un k _ hk (by rw [h1]; exact z1) (by rw [h3]; exact z2)
    rw [(h.pm s hs).2] at this
    exact this
  have rK : ∀ s, s < n → blo.getD s 0 = k → st ≤ pla.getD s 0 ∧ pla.getD s 0 < e := fun s hs z => by
    have := (h.bl s hs).2
    rw [z, h1, h3] at this
    exact this
  have bs : ∀ s, s < n → blo.getD s 0 < sta.length := fun s hs => (h.bl s hs).1
  have mkK : ∀ s, blo.getD s 0 = k → (Mkd pla blo sta mar s ↔ pla.getD s 0 < mid) := fun s z => by
    unfold Mkd
    rw [z, h1, h2]
  have side : ∀ s, s < n → blo.getD s 0 = k → ((a ≤ pla.getD s 0 ∧ pla.getD s 0 < b) ↔ ¬ (a' ≤ pla.getD s 0 ∧ pla.getD s 0 < b')) := fun s hs z => by
    have := rK s hs z
    omega
  have out : ∀ s, s < n → blo.getD s 0 ≠ k → ¬ (a ≤ pla.getD s 0 ∧ pla.getD s 0 < b) := fun s hs z y => z (inK s hs (by omega) (by omega))
  have bl' : ∀ s, s < n → blo'.getD s 0 < sta.length + 1 ∧ sta'.getD (blo'.getD s 0) 0 ≤ pla.getD s 0 ∧ pla.getD s 0 < en'.getD (blo'.getD s 0) 0 := fun s hs => by
    rw [Bl s hs]
    by_cases z : a ≤ pla.getD s 0 ∧ pla.getD s 0 < b
    · rw [if_pos z, Ss, Es, if_pos rfl, if_pos rfl]
      exact ⟨Nat.lt_succ_self _, z⟩
    · have hb := bs s hs
      have nB : blo.getD s 0 ≠ sta.length := by omega
      rw [if_neg z, Ss, Es, if_neg nB, if_neg nB]
      refine ⟨by omega, ?_⟩
      by_cases y : blo.getD s 0 = k
      · rw [if_pos y, if_pos y]
        have := Classical.byContradiction fun w => z ((side s hs y).mpr w)
        omega
      · rw [if_neg y, if_neg y]
        exact (h.bl s hs).2
  refine ⟨⟨h.lm, h.lp, lb, by omega, by omega, h.mp, h.pm, fun s hs => by rw [ls]; exact bl' s hs, fun j hj => ?_, fun j i hj z1 z2 => ?_, fun j => ?_, nr⟩, fun s t hs ht => ?_, fun s hs => ?_, fun s hs => ?_, by rw [ls]; rfl, fun s hs z => ?_, fun x hx => List.mem_singleton.mp hx⟩
  · rw [ls] at hj
    rw [Ss, Es, Mr]
    by_cases y : j = sta.length
    · rw [if_pos y, if_pos y, if_pos y]; omega
    · rw [if_neg y, if_neg y, if_neg y]
      by_cases x : j = k
      · rw [if_pos x, if_pos x, if_pos x]; omega
      · rw [if_neg x, if_neg x, if_neg x]; exact h.bn j (by omega)
  · rw [ls] at hj
    rw [Ss] at z1
    rw [Es] at z2
    have hi : i < n := by
      by_cases y : j = sta.length
      · rw [if_pos y] at z2; omega
      · rw [if_neg y] at z2
        by_cases x : j = k
        · rw [if_pos x] at z2; omega
        · rw [if_neg x] at z2
          have := (h.bn j (by omega)).2.1
          omega
    obtain ⟨m1, m2⟩ := h.mp i hi
    rw [Bl _ m1, m2]
    by_cases y : j = sta.length
    · rw [if_pos y] at z1 z2
      rw [if_pos ⟨z1, z2⟩, y]
    · rw [if_neg y] at z1 z2
      by_cases x : j = k
      · rw [if_pos x] at z1 z2
        rw [if_neg (by omega), x]
        exact h.un k i hk (by omega) (by omega)
      · rw [if_neg x] at z1 z2
        have hu := h.un j i (by omega) z1 z2
        rw [if_neg fun w => out _ m1 (by rw [hu]; exact x) (by rw [m2]; exact w)]
        exact hu
  · rw [ls, Mr]
    by_cases y : j = sta.length
    · rw [if_pos y]
      refine ⟨fun z => ?_, fun z => absurd z.2 (Nat.lt_irrefl 0)⟩
      have := ((h.to j).mp (List.mem_cons_of_mem _ z)).1
      omega
    · rw [if_neg y]
      by_cases x : j = k
      · rw [if_pos x]
        exact ⟨fun z => absurd (x ▸ z) nk, fun z => absurd z.2 (Nat.lt_irrefl 0)⟩
      · rw [if_neg x]
        have := h.to j
        refine ⟨fun z => ?_, fun z => ?_⟩
        · have := this.mp (List.mem_cons_of_mem _ z)
          exact ⟨by omega, this.2⟩
        · exact (List.mem_cons.mp (this.mpr ⟨by omega, z.2⟩)).resolve_left x
  · have hbs := bs s hs
    have hbt := bs t ht
    rw [Bl s hs, Bl t ht]
    by_cases zs : a ≤ pla.getD s 0 ∧ pla.getD s 0 < b
    · have ks : blo.getD s 0 = k := by
        rcases Nat.decEq (blo.getD s 0) k with y | y
        · exact absurd zs (out s hs y)
        · exact y
      rw [if_pos zs, ks]
      by_cases zt : a ≤ pla.getD t 0 ∧ pla.getD t 0 < b
      · have kt : blo.getD t 0 = k := by
          rcases Nat.decEq (blo.getD t 0) k with y | y
          · exact absurd zt (out t ht y)
          · exact y
        rw [if_pos zt, kt, mkK s ks, mkK t kt]
        refine ⟨fun _ => ⟨rfl, fun _ => ?_⟩, fun _ => rfl⟩
        omega
      · rw [if_neg zt]
        refine ⟨fun w => by omega, fun w => ?_⟩
        have kt := w.1.symm
        have := w.2 rfl
        rw [mkK s ks, mkK t kt] at this
        have := rK t ht kt
        omega
    · rw [if_neg zs]
      by_cases zt : a ≤ pla.getD t 0 ∧ pla.getD t 0 < b
      · have kt : blo.getD t 0 = k := by
          rcases Nat.decEq (blo.getD t 0) k with y | y
          · exact absurd zt (out t ht y)
          · exact y
        rw [if_pos zt]
        refine ⟨fun w => by omega, fun w => ?_⟩
        have ks : blo.getD s 0 = k := w.1.trans kt
        have := w.2 ks
        rw [mkK s ks, mkK t kt] at this
        have := rK s hs ks
        omega
      · rw [if_neg zt]
        refine ⟨fun w => ⟨w, fun ks => ?_⟩, fun w => w.1⟩
        have kt : blo.getD t 0 = k := w ▸ ks
        rw [mkK s ks, mkK t kt]
        have := rK s hs ks
        have := rK t ht kt
        omega
  · rw [Bl s hs]
    split
    · exact .inr List.mem_cons_self
    · exact .inl rfl
  · have hbs := bs s hs
    unfold Mkd
    rw [Bl s hs]
    by_cases z : a ≤ pla.getD s 0 ∧ pla.getD s 0 < b
    · have ks : blo.getD s 0 = k := by
        rcases Nat.decEq (blo.getD s 0) k with y | y
        · exact absurd z (out s hs y)
        · exact y
      rw [if_pos z, Ss, Mr, if_pos rfl, if_pos rfl]
      exact ⟨fun w => by omega, fun w => absurd ks w.2⟩
    · have nB : blo.getD s 0 ≠ sta.length := by omega
      rw [if_neg z, Ss, Mr, if_neg nB, if_neg nB]
      by_cases y : blo.getD s 0 = k
      · rw [if_pos y, if_pos y]
        have := Classical.byContradiction fun w => z ((side s hs y).mpr w)
        exact ⟨fun w => by omega, fun w => absurd y w.2⟩
      · rw [if_neg y, if_neg y]
        exact ⟨fun w => ⟨w, y⟩, fun w => w.1⟩
  · rw [Bl s hs] at z
    have hbs := bs s hs
    by_cases y : a ≤ pla.getD s 0 ∧ pla.getD s 0 < b
    · rcases Nat.decEq (blo.getD s 0) k with x | x
      · exact absurd y (out s hs x)
      · exact x
    · rw [if_neg y] at z
      have := List.mem_singleton.mp z
      omega
end
theorem cut1_is {n k : Nat} {mem pla rest : List Nat} {c : CS} (h : LayB n mem pla c.blo c.sta c.en c.mar (k :: rest)) : ∃ m, (cut1 mem c k).made = c.made ++ m ∧ Cut1 n mem pla c.blo c.sta c.mar k rest (cut1 mem c k).blo (cut1 mem c k).sta (cut1 mem c k).en (cut1 mem c k).mar m := by
  obtain ⟨hk, hm⟩ := (h.to k).mp List.mem_cons_self
  obtain ⟨b1, b2, b3⟩ := h.bn k hk
  have lm : k < c.mar.length := by rw [h.lk]; exact hk
  have le : k < c.en.length := by rw [h.le]; exact hk
  by_cases e : c.sta.getD k 0 + c.mar.getD k 0 = c.en.getD k 0
  · have ec : cut1 mem c k = ⟨c.blo, c.sta, c.en, c.mar.set k 0, c.made⟩ := by unfold cut1; rw [if_pos e]
    rw [ec]
    exact ⟨[], (List.append_nil _).symm, h.whole e⟩
  · have M : ∀ j, (c.mar.set k 0 ++ [0]).getD j 0 = if j = c.sta.length then 0 else if j = k then 0 else c.mar.getD j 0 := fun j => by
      rw [gapp, gset lm, List.length_set, h.lk]
    by_cases y : c.mar.getD k 0 ≤ c.en.getD k 0 - (c.sta.getD k 0 + c.mar.getD k 0)
    · have ec : cut1 mem c k = ⟨putB (cutL mem (c.sta.getD k 0) (c.sta.getD k 0 + c.mar.getD k 0)) c.sta.length c.blo, c.sta.set k (c.sta.getD k 0 + c.mar.getD k 0) ++ [c.sta.getD k 0], c.en ++ [c.sta.getD k 0 + c.mar.getD k 0], c.mar.set k 0 ++ [0], c.made ++ [c.sta.length]⟩ := by unfold cut1; rw [if_neg e, if_pos y]
      rw [ec]
      refine ⟨[c.sta.length], rfl, h.split rfl rfl rfl e (.inl ⟨rfl, rfl, rfl, rfl⟩) ?_ ?_ ?_ ?_ (fun s hs => ?_) (fun j => ?_) (fun j => ?_) M⟩
      · unfold putB; rw [fold_set_len]; exact h.lb
      · simp
      · simp [h.le]
      · simp [h.lk]
      · rw [putB_at _ _ _ _ (by rw [h.lb]; exact hs)]
        by_cases z : s ∈ cutL mem (c.sta.getD k 0) (c.sta.getD k 0 + c.mar.getD k 0)
        · rw [if_pos z, if_pos ((h.inCut (by omega) hs).mp z)]
        · rw [if_neg z, if_neg fun w => z ((h.inCut (by omega) hs).mpr w)]
      · rw [gapp, gset hk, List.length_set]
      · rw [gapp, h.le]
        by_cases x : j = c.sta.length
        · rw [if_pos x, if_pos x]
        · rw [if_neg x, if_neg x]
          split
          · rename_i w; rw [w]
          · rfl
    · have ec : cut1 mem c k = ⟨putB (cutL mem (c.sta.getD k 0 + c.mar.getD k 0) (c.en.getD k 0)) c.sta.length c.blo, c.sta ++ [c.sta.getD k 0 + c.mar.getD k 0], c.en.set k (c.sta.getD k 0 + c.mar.getD k 0) ++ [c.en.getD k 0], c.mar.set k 0 ++ [0], c.made ++ [c.sta.length]⟩ := by unfold cut1; rw [if_neg e, if_neg y]
      rw [ec]
      refine ⟨[c.sta.length], rfl, h.split rfl rfl rfl e (.inr ⟨rfl, rfl, rfl, rfl⟩) ?_ ?_ ?_ ?_ (fun s hs => ?_) (fun j => ?_) (fun j => ?_) M⟩
      · unfold putB; rw [fold_set_len]; exact h.lb
      · simp
      · simp [h.le]
      · simp [h.lk]
      · rw [putB_at _ _ _ _ (by rw [h.lb]; exact hs)]
        by_cases z : s ∈ cutL mem (c.sta.getD k 0 + c.mar.getD k 0) (c.en.getD k 0)
        · rw [if_pos z, if_pos ((h.inCut b2 hs).mp z)]
        · rw [if_neg z, if_neg fun w => z ((h.inCut b2 hs).mpr w)]
      · rw [gapp]
        by_cases x : j = c.sta.length
        · rw [if_pos x, if_pos x]
        · rw [if_neg x, if_neg x]
          split
          · rename_i w; rw [w]
          · rfl
      · rw [gapp, gset le, List.length_set, h.le]
/-- what the cut of all touched blocks does -/
structure Cuts (n : Nat) (mem pla tou : List Nat) (c c' : CS) : Prop where
  l : LayB n mem pla c'.blo c'.sta c'.en c'.mar []
  eq : ∀ s t, s < n → t < n → (c'.blo.getD s 0 = c'.blo.getD t 0 ↔ c.blo.getD s 0 = c.blo.getD t 0 ∧ (c.blo.getD s 0 ∈ tou → (Mkd pla c.blo c.sta c.mar s ↔ Mkd pla c.blo c.sta c.mar t)))
  nw : ∀ s, s < n → c'.blo.getD s 0 = c.blo.getD s 0 ∨ c'.blo.getD s 0 ∈ c'.made
  mo : ∀ x ∈ c.made, x ∈ c'.made
  ln : c'.sta.length + c.made.length = c.sta.length + c'.made.length
theorem cuts_ok {n : Nat} {mem pla : List Nat} (hn : n ≤ 10000) : ∀ (tou : List Nat) (c : CS), LayB n mem pla c.blo c.sta c.en c.mar tou → c.made.length ≤ c.sta.length → Cuts n mem pla tou c (tou.foldl (cut1 mem) c) ∧ ∀ i k, tou[i]? = some k → CutOk mem ((tou.take i).foldl (cut1 mem) c) k
  | [], c, h, _ => ⟨⟨h, fun s t _ _ => ⟨fun e => ⟨e, fun z => nomatch z⟩, fun z => z.1⟩, fun s _ => .inl rfl, fun x hx => hx, rfl⟩, fun i k z => nomatch z⟩
  | k :: rest, c, h, hd => by
    obtain ⟨m, hm, C⟩ := cut1_is h
    have lc : m.length + c.made.length = (cut1 mem c k).made.length := by rw [hm, List.length_append]; omega
    obtain ⟨R, O⟩ := cuts_ok hn rest (cut1 mem c k) C.l (by rw [C.ln]; omega)
    obtain ⟨hk, _⟩ := (h.to k).mp List.mem_cons_self
    obtain ⟨nk, _⟩ := List.nodup_cons.mp h.tn
    have nm : ∀ x ∈ m, x ∉ rest := fun x hx z => by
      have := ((h.to x).mp (List.mem_cons_of_mem _ z)).1
      rw [C.md x hx] at this
      omega
    refine ⟨⟨R.l, fun s t hs ht => ?_, fun s hs => ?_, fun x hx => R.mo x (by rw [hm]; exact List.mem_append.mpr (.inl hx)), ?_⟩, fun i k' hi => ?_⟩
    · refine (R.eq s t hs ht).trans ?_
      rw [C.eq s t hs ht, C.mkd s hs, C.mkd t ht]
      constructor
      · rintro ⟨⟨e, e1⟩, e2⟩
        refine ⟨e, fun z => ?_⟩
        rcases List.mem_cons.mp z with z | z
        · exact e1 z
        · have n1 : c.blo.getD s 0 ≠ k := fun y => nk (y ▸ z)
          have same : (cut1 mem c k).blo.getD s 0 = c.blo.getD s 0 := (C.nw s hs).resolve_right fun y => n1 (C.ge s hs y)
          have := e2 (by rw [same]; exact z)
          exact ⟨fun y => (this.mp ⟨y, n1⟩).1, fun y => (this.mpr ⟨y, by rw [← e]; exact n1⟩).1⟩
      · rintro ⟨e, e1⟩
        refine ⟨⟨e, fun z => e1 (by rw [z]; exact List.mem_cons_self)⟩, fun z => ?_⟩
        have same : (cut1 mem c k).blo.getD s 0 = c.blo.getD s 0 := (C.nw s hs).resolve_right fun y => nm _ y z
        have := e1 (List.mem_cons_of_mem _ (by rw [← same]; exact z))
        rw [this, e]
    · rcases R.nw s hs with z | z
      · rcases C.nw s hs with y | y
        · exact .inl (z.trans y)
        · exact .inr (show (rest.foldl (cut1 mem) (cut1 mem c k)).blo.getD s 0 ∈ (rest.foldl (cut1 mem) (cut1 mem c k)).made by rw [z]; exact R.mo _ (by rw [hm]; exact List.mem_append.mpr (.inr y)))
      · exact .inr z
    · have := R.ln
      have := C.ln
      show (rest.foldl (cut1 mem) (cut1 mem c k)).sta.length + c.made.length = c.sta.length + (rest.foldl (cut1 mem) (cut1 mem c k)).made.length
      omega
    · cases i with
      | zero =>
        cases hi
        obtain ⟨b1, b2, b3⟩ := h.bn k hk
        have := h.few
        exact ⟨hk, h.le, h.lk, b1, by rw [h.lm]; exact b2, by show c.sta.length ≤ 10000; omega, by show c.made.length ≤ 10000; omega, fun x hx => by
          obtain ⟨j, hj⟩ := List.getElem?_of_mem hx
          have := (h.mp j (by rw [← h.lm]; exact ltQ hj)).1
          rw [List.getD_eq_getElem?_getD, hj] at this
          show x < c.blo.length
          rw [h.lb]; exact this⟩
      | succ i => exact O i k' hi
end
section
variable (T : Txt K mg)
def spCut : Sp := fun vs H Q _ => ∃ (o dx : Addr) (ms ps bo ss es ks tc : Addr) (mem pla blo sta en mar tou : List Nat), vs = [.ref o] ∧ BL T.C_Blocks H o dx [ms, ps, bo, ss, es, ks, tc] [mem, pla, blo, sta, en, mar, tou] ∧ mem.length ≤ 10000 ∧ (∀ i k, tou[i]? = some k → CutOk mem ((tou.take i).foldl (cut1 mem) ⟨blo, sta, en, mar, []⟩) k) ∧
  ∀ p tc' c H', tou.foldl (cut1 mem) ⟨blo, sta, en, mar, []⟩ = c → BL T.C_Blocks H' o dx [ms, ps, bo, ss, es, ks, tc'] [mem, pla, c.blo, c.sta, c.en, c.mar, []] → H tc' = none → Kp [o, ms, ps, bo, ss, es, ks, tc] H H' → H p = none → p ∉ [o, ms, ps, bo, ss, es, ks, tc'] → H' p = some (.lst (c.made.map vI)) → Q (.ref p) H'
theorem ok_Blocks_cut : FnOk P w K mg base CX0 2 T.a_Blocks_cut T.d_Blocks_cut ["self"] (spCut T) := by
  refine T.f_Blocks_cut.ok sc_Blocks_cut (fun vs H Q E h => ?_) (fun cdv A outer s H vs Q E hr h => ?_)
  · obtain ⟨_, _, _, _, _, _, _, _, _, _, _, _, _, _, _, _, rfl, _⟩ := h; rfl
  · obtain ⟨o, dx, ms, ps, bo, ss, es, ks, tc, mem, pla, blo, sta, en, mar, tou, rfl, B, hm, ok, q⟩ := h
    refine ⟨_, (pss_cons (ps_set (i := 1) sc_Blocks_cut.nd rfl (by first | exact Or.inl rfl | exact Or.inr rfl) (pe_lst pa_nil))
  (pss_cons (ps_for PassesOwn.never rfl (kAny K rfl (kFld K rfl (pe_fld (pv 0) rfl))) (pg_name (i := 2) sc_Blocks_cut.nd rfl (by first | exact Or.inl rfl | exact Or.inr rfl))
    (pss_cons (ps_set (i := 3) sc_Blocks_cut.nd rfl (by first | exact Or.inl rfl | exact Or.inr rfl) (pe_ix (kIx K) (kFld K rfl (pe_fld (pv 0) rfl)) (pv 2) (fun _ _ => rfl)))
  (pss_cons (ps_set (i := 4) sc_Blocks_cut.nd rfl (by first | exact Or.inl rfl | exact Or.inr rfl) (pe_ix (kIx K) (kFld K rfl (pe_fld (pv 0) rfl)) (pv 2) (fun _ _ => rfl)))
  (pss_cons (ps_set (i := 5) sc_Blocks_cut.nd rfl (by first | exact Or.inl rfl | exact Or.inr rfl) (pe_op (kAdd K) (pv 3) (pe_ix (kIx K) (kFld K rfl (pe_fld (pv 0) rfl)) (pv 2) (fun _ _ => rfl))))
  (pss_cons (ps_asg pe_int (pg_sub (kFld K rfl (pe_fld (pv 0) rfl)) (pv 2) set_list))
  (pss_cons (ps_if (pt_cmpR (kEq K rfl hr.units) (pv 5) (pv 4) (by first | rfl | exact nomark _))
    (pss_one ps_continue)
    pss_nil)
  (pss_cons (ps_expr (kBm K rfl (pe_bm PySem.F.plainAttrs_list PySem.F.slot_list_append PySem.F.type_list_append mt_append (pv 1) (pa_cons (pe_callB (kLen K) (by rfl) T.nb_len (by decide +kernel) (pa_cons (kFld K rfl (pe_fld (pv 0) rfl)) pa_nil)) pa_nil))))
  (pss_one (ps_if (pt_cmpR op_leP (pe_op op_subP (pv 5) (pv 3)) (pe_op op_subP (pv 4) (pv 5)) (by first | rfl | exact nomark _))
    (pss_cons (ps_asg (pv 5) (pg_sub (kFld K rfl (pe_fld (pv 0) rfl)) (pv 2) set_list))
  (pss_one (ps_expr (pe_meth (pv 0) T.cl_Blocks T.m_Blocks_take_out (ok_Blocks_take_out T) (hr.mono (by decide)) T.b_Blocks_take_out .nil pass0 (pa_cons (pv 3) (pa_cons (pv 5) pa_nil))))))
    (pss_cons (ps_asg (pv 5) (pg_sub (kFld K rfl (pe_fld (pv 0) rfl)) (pv 2) set_list))
  (pss_one (ps_expr (pe_meth (pv 0) T.cl_Blocks T.m_Blocks_take_out (ok_Blocks_take_out T) (hr.mono (by decide)) T.b_Blocks_take_out .nil pass0 (pa_cons (pv 5) (pa_cons (pv 4) pa_nil)))))))))))))))
  (pss_cons (kSf K rfl (ps_fld (pv 0) (pe_lst pa_nil) rfl))
  (pss_one (ps_ret (pv 1)))))), ?_⟩
    have sz : 1000000 ≤ sizeLine := by decide
    walk_at "rc"
    refine ⟨by show 0 ≤ sizeLine; decide, fun p hp => ?_⟩
    have e1 : Ex H (upd H p (.lst [])) := Evl.Ex.new hp
    have hp1 : upd H p (.lst []) p = some (.lst (([] : List Nat).map vI)) := upd_same
    have np : p ∉ [o, ms, ps, bo, ss, es, ks, tc] := fun z => by
      rcases List.mem_cons.mp z with z | z
      · rw [z, B.ob] at hp; cases hp
      · obtain ⟨i, hi⟩ := List.getElem?_of_mem z
        obtain ⟨l, hl⟩ := getQ (l := [mem, pla, blo, sta, en, mar, tou]) (i := i) (by rw [B.l]; exact ltQ hi)
        rw [B.at' i p l hi hl] at hp; cases hp
    have B1 := B.ex e1
    generalize upd H p (.lst []) = H1 at e1 hp1 B1
    clear B
    have ho := B1.ob
    walk_at "rc"
    walk_at "rs"
    walk_at "rc"
    refine rd_anyL' ?_
    walk_at "rc"
    refine ⟨o, _, dx, _, _, rfl, ho, T.cl_Blocks, T.na_Blocks_touched, rfl, ?_⟩
    refine ⟨tc, rfl, ⟨_, SqL.of (B1.at' 6 tc tou rfl rfl)⟩, ?_⟩
    refine fo_list (xs := tou.map vI) (fun i σ H' => ∃ (k2 k3 k4 k5 : Option V) (c : CS), σ = [some (.ref o), some (.ref p), k2, k3, k4, k5] ∧ (tou.take i).foldl (cut1 mem) ⟨blo, sta, en, mar, []⟩ = c ∧ BL T.C_Blocks H' o dx [ms, ps, bo, ss, es, ks, tc] [mem, pla, c.blo, c.sta, c.en, c.mar, tou] ∧ Kp [ms, ps, bo, ss, es, ks, tc, p] H1 H' ∧ H' p = some (.lst (c.made.map vI)))
      ⟨_, _, _, _, _, rfl, rfl, B1, Kp.refl, hp1⟩ (fun i σ H' _ z => ?_) ?_ ?_
    · obtain ⟨_, _, _, _, c, _, _, z, _⟩ := z
      exact SqL.of (z.at' 6 tc tou rfl rfl)
    · rintro i x σ H2 hi ⟨k2, k3, k4, k5, c, rfl, hc, B2, kp2, hp2⟩
      rw [List.getElem?_map] at hi
      obtain ⟨k, hk, rfl⟩ := Option.map_eq_some_iff.mp hi
      have co := ok i k hk
      rw [hc] at co
      have step : (tou.take (i + 1)).foldl (cut1 mem) ⟨blo, sta, en, mar, []⟩ = cut1 mem c k := by
        rw [List.take_succ, hk, List.foldl_append, hc]; rfl
      rw [step]
      have ho := B2.ob
      walk_at "rc"
      refine ⟨o, _, dx, _, _, rfl, ho, T.cl_Blocks, T.na_Blocks_starts, rfl, ?_⟩
      walk_at "rc"
      refine rd_ixL (SqL.of (B2.at' 3 ss c.sta rfl rfl)) (atI_nat (vI_at (at_getD co.lt))) ?_
      walk_at "rc"
      refine ⟨o, _, dx, _, _, rfl, ho, T.cl_Blocks, T.na_Blocks_ends, rfl, ?_⟩
      walk_at "rc"
      refine rd_ixL (SqL.of (B2.at' 4 es c.en rfl rfl)) (atI_nat (vI_at (at_getD (by rw [co.e]; exact co.lt)))) ?_
      walk_at "rc"
      refine ⟨o, _, dx, _, _, rfl, ho, T.cl_Blocks, T.na_Blocks_marks, rfl, ?_⟩
      walk_at "rc"
      refine rd_ixL (SqL.of (B2.at' 5 ks c.mar rfl rfl)) (atI_nat (vI_at (at_getD (by rw [co.m]; exact co.lt)))) ?_
      have le := co.le
      have em := co.em
      obtain ⟨st, hst⟩ : ∃ st, c.sta.getD k 0 = st := ⟨_, rfl⟩
      obtain ⟨e, he⟩ : ∃ e, c.en.getD k 0 = e := ⟨_, rfl⟩
      obtain ⟨mk, hmk⟩ : ∃ mk, c.mar.getD k 0 = mk := ⟨_, rfl⟩
      rw [hst, he, hmk] at le ⊢
      rw [he] at em
      walk_at "rc"
      rw [show (st : Int) + (mk : Int) = ((st + mk : Nat) : Int) by omega]
      refine ⟨o, _, dx, _, _, rfl, ho, T.cl_Blocks, T.na_Blocks_marks, rfl, ?_⟩
      walk_at "rc"
      have hlm : k < c.mar.length := by rw [co.m]; exact co.lt
      refine rd_setN (B2.at' 5 ks c.mar rfl rfl) hlm ?_
      rw [show (c.mar.map vI).set k (V.int 0) = (c.mar.set k 0).map vI from vI_set c.mar k 0]
      have B3 := B2.set (i := 5) (a := ks) (l := c.mar.set k 0) rfl
      have k3' : Kp [ms, ps, bo, ss, es, ks, tc, p] H1 _ := kp2.trans (Kp.put (q := ks) (o := .lst ((c.mar.set k 0).map vI)) (by simp))
      have npk : p ≠ ks := fun z => np (by rw [z]; simp)
      have hp3 : upd H2 ks (.lst ((c.mar.set k 0).map vI)) p = some (.lst (c.made.map vI)) := by rw [upd_ne npk]; exact hp2
      generalize upd H2 ks (.lst ((c.mar.set k 0).map vI)) = H3 at B3 k3' hp3
      clear B2 ho
      have ho := B3.ob
      walk_at "rc"
      walk_at "rs"
      walk_at "rc"
      refine rd_iteD (fun z => ?_) fun z => ?_
      · have z0 : st + mk = e := by omega
        have ec : cut1 mem c k = ⟨c.blo, c.sta, c.en, c.mar.set k 0, c.made⟩ := by unfold cut1; rw [hst, he, hmk, if_pos z0]
        rw [ec]
        exact ⟨_, _, _, _, _, rfl, rfl, B3, k3', hp3⟩
      · have z0 : st + mk ≠ e := by omega
        walk_at "rc"
        refine ⟨.inl ⟨rfl, _, SqL.of hp3⟩, ?_⟩
        walk_at "rc"
        refine ⟨o, _, dx, _, _, rfl, ho, T.cl_Blocks, T.na_Blocks_starts, rfl, ?_⟩
        walk_at "rc"
        refine rd_lenL (SqL.of (B3.at' 3 ss c.sta rfl rfl)) ?_
        rw [List.length_map]
        have := co.d
        refine ⟨p, _, _, rfl, rfl, hp3, by rw [List.length_map]; omega, ?_⟩
        rw [vI_app]
        have B4 : BL T.C_Blocks (upd H3 p (.lst ((c.made ++ [c.sta.length]).map vI))) o dx [ms, ps, bo, ss, es, ks, tc] [mem, pla, c.blo, c.sta, c.en, c.mar.set k 0, tou] := by
          refine ⟨by rw [upd_ne (fun z => np (by rw [← z]; simp))]; exact B3.ob, B3.nd, B3.l, fun i a l h1 h2 => ?_⟩
          rw [upd_ne (fun z => np (by rw [← z]; exact List.mem_cons_of_mem _ (List.mem_of_getElem? h1)))]
          exact B3.at' i a l h1 h2
        have k4' := k3'.trans (Kp.put (q := p) (o := .lst ((c.made ++ [c.sta.length]).map vI)) (by simp))
        have hp4 : upd H3 p (.lst ((c.made ++ [c.sta.length]).map vI)) p = some (.lst ((c.made ++ [c.sta.length]).map vI)) := upd_same
        generalize upd H3 p (.lst ((c.made ++ [c.sta.length]).map vI)) = H4 at B4 k4' hp4
        clear B3 ho
        have ho := B4.ob
        walk_at "rc"
        have sub : ∀ {Ha Hb : Hp}, Kp [ms, ps, bo, ss, es, ks, tc] Ha Hb → Kp [ms, ps, bo, ss, es, ks, tc, p] Ha Hb := fun k => k.sub fun b hb => by
          simp only [List.mem_cons, List.not_mem_nil, or_false] at hb ⊢
          rcases hb with h | h | h | h | h | h | h <;> simp [h]
        have npA : p ∉ [ms, ps, bo, ss, es, ks, tc] := fun z => np (List.mem_cons_of_mem _ z)
        have lm := co.m
        have le1 := co.e
        have s1 := co.s1
        refine rd_iteD (fun y => ?_) fun y => ?_
        · have y0 : mk ≤ e - (st + mk) := by omega
          have ec : cut1 mem c k = ⟨putB (cutL mem st (st + mk)) c.sta.length c.blo, c.sta.set k (st + mk) ++ [st], c.en ++ [st + mk], c.mar.set k 0 ++ [0], c.made ++ [c.sta.length]⟩ := by unfold cut1; rw [hst, he, hmk, if_neg z0, if_pos y0]
          rw [ec]
          walk_at "rc"
          refine ⟨o, _, dx, _, _, rfl, ho, T.cl_Blocks, T.na_Blocks_starts, rfl, ?_⟩
          walk_at "rc"
          refine rd_setN (B4.at' 3 ss c.sta rfl rfl) co.lt ?_
          rw [vI_set]
          have B5 := B4.set (i := 3) (a := ss) (l := c.sta.set k (st + mk)) rfl
          have k5' := k4'.trans (Kp.put (q := ss) (o := .lst ((c.sta.set k (st + mk)).map vI)) (by simp))
          have hp5 : upd H4 ss (.lst ((c.sta.set k (st + mk)).map vI)) p = some (.lst ((c.made ++ [c.sta.length]).map vI)) := by rw [upd_ne (fun z => np (by rw [z]; simp))]; exact hp4
          generalize upd H4 ss (.lst ((c.sta.set k (st + mk)).map vI)) = H5 at B5 k5' hp5
          clear B4 ho
          have ho := B5.ob
          walk_at "rc"
          refine ⟨o, dx, _, rfl, ho, rfl, ?_⟩
          walk_at "rc"
          refine ⟨o, dx, _, mem, pla, c.blo, c.sta.set k (st + mk), c.en, c.mar.set k 0, tou, st, st + mk, rfl, rfl, B5, by omega, by omega, by omega, by rw [List.length_set]; omega, by omega, by rw [List.length_set]; omega, co.b, fun H6 B6 k6 => ?_⟩
          walk_at "rc"
          rw [List.length_set] at B6
          exact ⟨_, _, _, _, _, rfl, rfl, B6, k5'.trans (sub k6), k6 p _ npA hp5⟩
        · have y0 : ¬ mk ≤ e - (st + mk) := by omega
          have ec : cut1 mem c k = ⟨putB (cutL mem (st + mk) e) c.sta.length c.blo, c.sta ++ [st + mk], c.en.set k (st + mk) ++ [e], c.mar.set k 0 ++ [0], c.made ++ [c.sta.length]⟩ := by unfold cut1; rw [hst, he, hmk, if_neg z0, if_neg y0]
          rw [ec]
          walk_at "rc"
          refine ⟨o, _, dx, _, _, rfl, ho, T.cl_Blocks, T.na_Blocks_ends, rfl, ?_⟩
          walk_at "rc"
          refine rd_setN (B4.at' 4 es c.en rfl rfl) (by rw [le1]; exact co.lt) ?_
          rw [vI_set]
          have B5 := B4.set (i := 4) (a := es) (l := c.en.set k (st + mk)) rfl
          have k5' := k4'.trans (Kp.put (q := es) (o := .lst ((c.en.set k (st + mk)).map vI)) (by simp))
          have hp5 : upd H4 es (.lst ((c.en.set k (st + mk)).map vI)) p = some (.lst ((c.made ++ [c.sta.length]).map vI)) := by rw [upd_ne (fun z => np (by rw [z]; simp))]; exact hp4
          generalize upd H4 es (.lst ((c.en.set k (st + mk)).map vI)) = H5 at B5 k5' hp5
          clear B4 ho
          have ho := B5.ob
          walk_at "rc"
          refine ⟨o, dx, _, rfl, ho, rfl, ?_⟩
          walk_at "rc"
          refine ⟨o, dx, _, mem, pla, c.blo, c.sta, c.en.set k (st + mk), c.mar.set k 0, tou, st + mk, e, rfl, rfl, B5, by omega, by omega, by omega, by omega, by rw [List.length_set]; omega, by rw [List.length_set]; omega, co.b, fun H6 B6 k6 => ?_⟩
          walk_at "rc"
          exact ⟨_, _, _, _, _, rfl, rfl, B6, k5'.trans (sub k6), k6 p _ npA hp5⟩
    · rintro σ H2 ⟨k2, k3, k4, k5, c, rfl, hc, B2, kp2, hp2⟩
      have ho := B2.ob
      walk_at "rc"
      walk_at "rs"
      walk_at "rc"
      rw [List.length_map, List.take_length] at hc
      refine ⟨by show 0 ≤ sizeLine; decide, fun tc' htc => ?_⟩
      have in2 : ∀ x ∈ [o, ms, ps, bo, ss, es, ks, tc], ∃ ob, H2 x = some ob := fun x hx => by
        rcases List.mem_cons.mp hx with z | z
        · exact ⟨_, z ▸ ho⟩
        · obtain ⟨i, hi⟩ := List.getElem?_of_mem z
          obtain ⟨l, hl⟩ := getQ (l := [mem, pla, c.blo, c.sta, c.en, c.mar, tou]) (i := i) (by rw [B2.l]; exact ltQ hi)
          exact ⟨_, B2.at' i x l hi hl⟩
      have nt : tc' ∉ [o, ms, ps, bo, ss, es, ks, tc] := fun z => by obtain ⟨ob, y⟩ := in2 _ z; rw [htc] at y; cases y
      have ntp : p ≠ tc' := fun z => by rw [z, htc] at hp2; cases hp2
      have no : o ≠ tc' := fun z => nt (by rw [← z]; simp)
      have npo : p ≠ o := fun z => np (by rw [z]; simp)
      walk_at "rc"
      refine ⟨o, _, dx, _, rfl, by rw [upd_ne no]; exact ho, T.cl_Blocks, T.na_Blocks_touched, by show 7 < 1000; decide, ?_⟩
      have keep : ∀ x ob, x ≠ o → H2 x = some ob → upd (upd H2 tc' (.lst [])) o (.ins T.C_Blocks dx (putF (Str.ofString "touched") (V.ref tc') (bkF [ms, ps, bo, ss, es, ks, tc]))) x = some ob := fun x ob n z => by
        rw [upd_ne n, upd_ne (ne_of_none z htc)]; exact z
      have htc2 : upd (upd H2 tc' (.lst [])) o (.ins T.C_Blocks dx (putF (Str.ofString "touched") (V.ref tc') (bkF [ms, ps, bo, ss, es, ks, tc]))) tc' = some (.lst (([] : List Nat).map vI)) := by
        rw [upd_ne (Ne.symm no), upd_same]; rfl
      have ho2 : upd (upd H2 tc' (.lst [])) o (.ins T.C_Blocks dx (putF (Str.ofString "touched") (V.ref tc') (bkF [ms, ps, bo, ss, es, ks, tc]))) o = some (.ins T.C_Blocks dx (bkF [ms, ps, bo, ss, es, ks, tc'])) := by
        rw [upd_same]; rfl
      generalize upd (upd H2 tc' (.lst [])) o (.ins T.C_Blocks dx (putF (Str.ofString "touched") (V.ref tc') (bkF [ms, ps, bo, ss, es, ks, tc]))) = H3 at keep htc2 ho2
      walk_at "rc"
      have nd : ([o, ms, ps, bo, ss, es, ks] ++ [tc]).Nodup := B2.nd
      obtain ⟨nd1, _, _⟩ := List.nodup_append.mp nd
      have htc0 : H tc' = none := by
        cases y : H tc' with
        | none => rfl
        | some ob =>
          have := kp2 tc' ob (fun z => by
            simp only [List.mem_cons, List.not_mem_nil, or_false] at z nt
            rcases z with h | h | h | h | h | h | h | h
            · exact nt (.inr (.inl h))
            · exact nt (.inr (.inr (.inl h)))
            · exact nt (.inr (.inr (.inr (.inl h))))
            · exact nt (.inr (.inr (.inr (.inr (.inl h)))))
            · exact nt (.inr (.inr (.inr (.inr (.inr (.inl h))))))
            · exact nt (.inr (.inr (.inr (.inr (.inr (.inr (.inl h)))))))
            · exact nt (.inr (.inr (.inr (.inr (.inr (.inr (.inr h)))))))
            · exact ntp h.symm) (e1 _ _ y)
          rw [htc] at this; cases this
      refine q p tc' c H3 hc ⟨ho2, ?_, rfl, fun i a l h1 h2 => ?_⟩ htc0 (fun b ob hb z => ?_) hp (fun z => ?_) (keep p _ npo hp2)
      · show ([o, ms, ps, bo, ss, es, ks] ++ [tc']).Nodup
        refine List.nodup_append.mpr ⟨nd1, List.nodup_cons.mpr ⟨(fun z => nomatch z), List.nodup_nil⟩, fun x hx y hy e => nt ?_⟩
        rw [List.mem_singleton.mp hy] at e
        rw [← e]
        exact List.mem_append.mpr (.inl hx : x ∈ [o, ms, ps, bo, ss, es, ks] ∨ x ∈ [tc])
      · have on : ∀ {i : Nat} {a : Addr}, [ms, ps, bo, ss, es, ks, tc][i]? = some a → a ≠ o := fun h => Ne.symm (B2.ne h)
        match i, h1, h2 with
        | 0, h1, h2 => cases h1; cases h2; exact keep _ _ (on (i := 0) rfl) (B2.at' 0 _ _ rfl rfl)
        | 1, h1, h2 => cases h1; cases h2; exact keep _ _ (on (i := 1) rfl) (B2.at' 1 _ _ rfl rfl)
        | 2, h1, h2 => cases h1; cases h2; exact keep _ _ (on (i := 2) rfl) (B2.at' 2 _ _ rfl rfl)
        | 3, h1, h2 => cases h1; cases h2; exact keep _ _ (on (i := 3) rfl) (B2.at' 3 _ _ rfl rfl)
        | 4, h1, h2 => cases h1; cases h2; exact keep _ _ (on (i := 4) rfl) (B2.at' 4 _ _ rfl rfl)
        | 5, h1, h2 => cases h1; cases h2; exact keep _ _ (on (i := 5) rfl) (B2.at' 5 _ _ rfl rfl)
        | 6, h1, h2 => cases h1; cases h2; exact htc2
        | (i + 7), h1, _ => cases h1
      · have nbp : b ≠ p := ne_of_none z hp
        have nbo : b ≠ o := fun y => hb (by rw [y]; simp)
        refine keep b ob nbo (kp2 b ob (fun y => ?_) (e1 _ _ z))
        have y : b ∈ [ms, ps, bo, ss, es, ks, tc] ++ [p] := y
        rcases List.mem_append.mp y with y | y
        · exact hb (List.mem_cons_of_mem _ y)
        · exact nbp (List.mem_singleton.mp y)
      · have z : p ∈ [o, ms, ps, bo, ss, es, ks] ++ [tc'] := z
        rcases List.mem_append.mp z with y | y
        · exact np (List.mem_append.mpr (.inl y) : p ∈ [o, ms, ps, bo, ss, es, ks] ++ [tc])
        · exact ntp (List.mem_singleton.mp y)
end
section
theorem Cuts.cut {n : Nat} {mem pla tou : List Nat} {c c' : CS} {en0 : List Nat} (h : LayB n mem pla c.blo c.sta c.en c.mar tou) (C : Cuts n mem pla tou c c') : Cut n (Mkd pla c.blo c.sta c.mar) (fun s => c.blo.getD s 0) (fun s => c'.blo.getD s 0) c'.made := by
  refine ⟨fun s t hs ht => (C.eq s t hs ht).trans ⟨fun ⟨e, z⟩ => ⟨e, ?_⟩, fun ⟨e, z⟩ => ⟨e, fun _ => z⟩⟩, C.nw⟩
  by_cases y : c.blo.getD s 0 ∈ tou
  · exact z y
  · have none : ∀ x, x < n → c.blo.getD x 0 = c.blo.getD s 0 → ¬ Mkd pla c.blo c.sta c.mar x := fun x hx ex w => by
      obtain ⟨b1, b2, _⟩ := h.bl x hx
      refine y ((h.to _).mpr ⟨ex ▸ b1, ?_⟩)
      unfold Mkd at w
      rw [← ex]
      omega
    exact ⟨fun w => absurd w (none s hs rfl), fun w => absurd w (none t ht e.symm)⟩
theorem rd_enL {K : PySem.W.Frag} {ta : TA} {σ : L2.St} {H : Hp} {R : It → Hp → Prop} (h : ta σ H fun vs H1 => ∃ q xs, vs = [.ref q] ∧ SqL K H1 q xs ∧ R (Ite K q) H1) : iEnumA K ta σ H R := .inl h
def spFirsts : Sp := fun vs H Q _ => ∃ (a : Addr) (num : List Nat) (n : Nat), vs = [.ref a] ∧ H a = some (.lst (num.map vI)) ∧ num.length = n ∧ n ≤ 10000 ∧ (∀ i, i < n → ∀ c, c < num.getD i 0 → ∃ s, s < i ∧ num.getD s 0 = c) ∧ ∀ p f H', Ex H H' → H' p = some (.lst (f.map vI)) → Fst n num f → Q (.ref p) H'
theorem ok_first_states (T : Txt K mg) : FnOk P w K mg base CX0 1 T.a_first_states T.d_first_states ["numbers"] spFirsts := by
  refine T.f_first_states.ok sc_first_states (fun vs H Q E h => ?_) (fun cdv A outer s H vs Q E hr h => ?_)
  · obtain ⟨_, _, _, rfl, _⟩ := h; rfl
  · obtain ⟨a, num, n, rfl, ha, hn, hn1, nw, q⟩ := h
    refine ⟨_, (pss_cons (ps_set (i := 1) sc_first_states.nd rfl (by first | exact Or.inl rfl | exact Or.inr rfl) (pe_lst pa_nil))
  (pss_cons (ps_for PassesOwn.never rfl (kEn K rfl (pi_enumA (by rfl) T.nb_enumerate (pa_cons (pv 0) pa_nil))) (kGt K rfl (pg_tup (n := 2) (by rfl) (pgs_cons (pg_name (i := 2) sc_first_states.nd rfl (by first | exact Or.inl rfl | exact Or.inr rfl)) (pgs_cons (pg_name (i := 3) sc_first_states.nd rfl (by first | exact Or.inl rfl | exact Or.inr rfl)) pgs_nil))))
    (pss_one (ps_if (pt_cmpR (kEq K rfl hr.units) (pv 3) (pe_callB (kLen K) (by rfl) T.nb_len (by decide +kernel) (pa_cons (pv 1) pa_nil)) (by first | rfl | exact nomark _))
    (pss_one (ps_expr (kBm K rfl (pe_bm PySem.F.plainAttrs_list PySem.F.slot_list_append PySem.F.type_list_append mt_append (pv 1) (pa_cons (pv 2) pa_nil)))))
    pss_nil)))
  (pss_one (ps_ret (pv 1))))), ?_⟩
    have sz : 1000000 ≤ sizeLine := by decide
    walk_at "rc"
    refine ⟨by show 0 ≤ sizeLine; decide, fun p hp => ?_⟩
    have e1 : Ex H (upd H p (.lst [])) := Evl.Ex.new hp
    have h1 : upd H p (.lst []) p = some (.lst (([] : List Nat).map vI)) := upd_same
    generalize upd H p (.lst []) = H1 at e1 h1
    walk_at "rc"
    walk_at "rs"
    walk_at "rc"
    refine rd_enL ?_
    walk_at "rc"
    refine ⟨a, num.map vI, rfl, SqL.of (e1 _ _ ha), ?_⟩
    refine fo_it (walk_enum (xs := num.map vI)) (fun i σ H' => ∃ (f : List Nat) (k2 k3 : Option V), σ = [some (.ref a), some (.ref p), k2, k3] ∧ (∀ b o, b ≠ p → H1 b = some o → H' b = some o) ∧ H' p = some (.lst (f.map vI)) ∧ Fst i num f ∧ f.length ≤ i) ⟨[], _, _, rfl, fun b o _ z => z, h1, Fst.none, Nat.le_refl _⟩ (fun i σ H' _ z => ?_) ?_ ?_
    · obtain ⟨f, _, _, _, z, _⟩ := z
      exact SqL.of (z a _ (ne_of_none ha hp) (e1 _ _ ha))
    · rintro i x σ H2 H3 hi ⟨f, k2, k3, rfl, old, hf, hF, hfl⟩ ⟨t, v1, v2, rfl, ht, rfl, hv1, hv2⟩
      rw [List.length_map, hn] at hi
      cases hv1
      obtain ⟨y, hy, rfl⟩ : ∃ y, num[i]? = some y ∧ v2 = .int ((y : Nat) : Int) := by
        have hv2 : (num.map vI)[i]? = some v2 := hv2
        rw [List.getElem?_map] at hv2
        obtain ⟨y, h1, h2⟩ := Option.map_eq_some_iff.mp hv2
        exact ⟨y, h1, h2.symm⟩
      have ey : num.getD i 0 = y := by rw [List.getD_eq_getElem?_getD, hy]; rfl
      have e3 : Ex H2 (upd H2 t (.tup [.int (i : Nat), .int ((y : Nat) : Int)])) := Evl.Ex.new ht
      have h3 : upd H2 t (.tup [.int (i : Nat), .int ((y : Nat) : Int)]) t = some (.tup [.int ((i : Nat) : Int), .int ((y : Nat) : Int)]) := upd_same
      generalize upd H2 t (.tup [.int (i : Nat), .int ((y : Nat) : Int)]) = H3 at e3 h3
      have hf3 := e3 _ _ hf
      have old3 : ∀ b o, b ≠ p → H1 b = some o → H3 b = some o := fun b o n z => e3 _ _ (old b o n z)
      refine ⟨t, _, rfl, Evl.st_of h3, rfl, ?_⟩
      walk_at "rc"
      refine rd_lenL (SqL.of hf3) ?_
      rw [List.length_map]
      walk_at "rc"
      refine rd_iteD (fun z => ?_) fun z => ?_
      · have z0 : num.getD i 0 = f.length := by omega
        walk_at "rc"
        refine ⟨.inl ⟨rfl, _, SqL.of hf3⟩, ?_⟩
        walk_at "rc"
        refine ⟨p, _, _, rfl, rfl, hf3, by rw [List.length_map]; omega, ?_⟩
        rw [vI_app]
        exact ⟨f ++ [i], _, _, rfl, fun b o n w => by rw [upd_ne n]; exact old3 b o n w, upd_same, hF.new z0, by rw [List.length_append, List.length_singleton]; omega⟩
      · walk_at "rc"
        exact ⟨f, _, _, rfl, old3, hf3, hF.old (by omega) (nw i hi), by omega⟩
    · rintro σ H2 ⟨f, k2, k3, rfl, old, hf, hF, _⟩
      rw [List.length_map, hn] at hF
      walk_at "rc"
      exact q p f H2 (fun b o z => old b o (ne_of_none z hp) (e1 b o z)) hf hF
end
section
theorem rd_lrgB {te : L2.St → Hp → (Int → Int → Hp → Prop) → Prop} {σ : L2.St} {H : Hp} {Q : VK} (h : te σ H fun a b H1 => RgOk a b ∧ ∀ q, H1 q = none → Q (.ref q) (upd H1 q (.lst (rgV a b)))) : tLstRg te σ H Q := h
theorem rd_rg1B {ta : TE} {σ : L2.St} {H : Hp} {Q : Int → Int → Hp → Prop} (h : ta σ H fun x H1 => ∃ n, x = .int n ∧ Q 0 n H1) : tRg1 ta σ H Q := h
theorem rgV0B (n : Nat) : rgV 0 (n : Int) = (List.range n).map vI := by
  unfold rgV
  rw [show ((n : Int) - 0).toNat = n by omega]
  exact List.map_congr_left fun i _ => by rw [Int.zero_add]; rfl
theorem BL.push {C H : _} {o dx p : Addr} {A : List Addr} {L : List (List Nat)} {l : List Nat} (h : BL C H o dx A L) (hp : H p = none) : BL C (upd (upd H p (.lst (l.map vI))) o (.ins C dx (bkF (A ++ [p])))) o dx (A ++ [p]) (L ++ [l]) := by
  have po : o ≠ p := ne_of_none h.ob hp
  have in2 : ∀ x ∈ A, ∃ ob, H x = some ob := fun x hx => by
    obtain ⟨i, hi⟩ := List.getElem?_of_mem hx
    obtain ⟨l, hl⟩ := getQ (l := L) (i := i) (by rw [h.l]; exact ltQ hi)
    exact ⟨_, h.at' i x l hi hl⟩
  refine ⟨upd_same, ?_, by simp [h.l], fun i a l' h1 h2 => ?_⟩
  · show ((o :: A) ++ [p]).Nodup
    refine List.nodup_append.mpr ⟨h.nd, List.nodup_cons.mpr ⟨(fun z => nomatch z), List.nodup_nil⟩, fun x hx y hy e => ?_⟩
    rw [List.mem_singleton.mp hy] at e
    rcases List.mem_cons.mp hx with z | z
    · exact po (z.symm.trans e)
    · obtain ⟨ob, y⟩ := in2 x z
      rw [e, hp] at y; cases y
  · rcases app_at h1 with z | ⟨z, z'⟩
    · rcases app_at h2 with y | ⟨y, _⟩
      · rw [upd_ne (Ne.symm (h.ne z)), upd_ne (ne_of_none (h.at' i a l' z y) hp)]
        exact h.at' i a l' z y
      · have := ltQ z; rw [← h.l] at this; omega
    · rcases app_at h2 with y | ⟨_, y⟩
      · have := ltQ y; rw [h.l] at this; omega
      · rw [← z', ← y, upd_ne (Ne.symm po), upd_same]
variable (T : Txt K mg)
def spBInit : Sp := fun vs H Q _ => ∃ (o dx : Addr) (n : Nat), vs = [.ref o, .int (n : Int)] ∧ H o = some (.ins T.C_Blocks dx []) ∧ n ≤ 10000 ∧ ∀ (A : List Addr) H', A.length = 7 → (∀ x ∈ A, H x = none) → Kp [o] H H' → BL T.C_Blocks H' o dx A [List.range n, List.range n, List.replicate n 0, [0], [n], [0], []] → Q .non H'
theorem ok_Blocks_init : FnOk P w K mg base CX0 1 T.a_Blocks_init T.d_Blocks_init ["self", "many"] (spBInit T) := by
  refine T.f_Blocks_init.ok sc_Blocks_init (fun vs H Q E h => ?_) (fun cdv A outer s H vs Q E hr h => ?_)
  · obtain ⟨_, _, _, rfl, _⟩ := h; rfl
  · obtain ⟨o, dx, n, rfl, ho, hn, q⟩ := h
    refine ⟨_, (pss_cons (kSf K rfl (ps_fld (pv 0) (pe_listRg rfl (by rfl) T.nb_list (prg_1 (by rfl) T.nb_range (pv 1))) rfl))
  (pss_cons (kSf K rfl (ps_fld (pv 0) (pe_listRg rfl (by rfl) T.nb_list (prg_1 (by rfl) T.nb_range (pv 1))) rfl))
  (pss_cons (kSf K rfl (ps_fld (pv 0) (pe_op op_rep (pe_lst (pa_cons pe_int pa_nil)) (pv 1)) rfl))
  (pss_cons (kSf K rfl (ps_fld (pv 0) (pe_lst (pa_cons pe_int pa_nil)) rfl))
  (pss_cons (kSf K rfl (ps_fld (pv 0) (pe_lst (pa_cons (pv 1) pa_nil)) rfl))
  (pss_cons (kSf K rfl (ps_fld (pv 0) (pe_lst (pa_cons pe_int pa_nil)) rfl))
  (pss_one (kSf K rfl (ps_fld (pv 0) (pe_lst pa_nil) rfl))))))))), ?_⟩
    have sz : 1000000 ≤ sizeLine := by decide
    have B0 : BL T.C_Blocks H o dx [] [] := ⟨ho, List.nodup_cons.mpr ⟨(fun z => nomatch z), List.nodup_nil⟩, rfl, fun i a l z => (nomatch z)⟩
    have k0 : Kp [o] H H := Kp.refl
    have fresh : ∀ {Ha : Hp} {p : Addr}, Kp [o] H Ha → Ha o = some (.ins T.C_Blocks dx []) ∨ (∃ ob, Ha o = some ob) → Ha p = none → H p = none := fun {Ha p} k hob z => by
      cases y : H p with
      | none => rfl
      | some ob =>
        have np : p ≠ o := fun w => by
          rcases hob with h | ⟨_, h⟩ <;> (rw [← w, z] at h; cases h)
        rw [k p ob (fun w => np (List.mem_singleton.mp w)) y] at z; cases z
    walk_at "rc"
    walk_at "rs"
    walk_at "rc"
    refine rd_lrgB ?_
    refine rd_rg1B ?_
    walk_at "rc"
    refine ⟨RgOk.of_le (by decide) (by omega) (by decide) (by omega), fun p0 hp0 => ?_⟩
    rw [rgV0B]
    have f0 := fresh k0 (.inr ⟨_, B0.ob⟩) hp0
    have no0 : o ≠ p0 := ne_of_none B0.ob hp0
    walk_at "rc"
    refine ⟨o, _, dx, _, rfl, by rw [upd_ne no0]; exact B0.ob, T.cl_Blocks, T.na_Blocks_members, by show 0 < 1000; decide, ?_⟩
    have B1 : BL T.C_Blocks (upd (upd H p0 (.lst ((List.range n : List Nat).map vI))) o (.ins T.C_Blocks dx (bkF [p0]))) o dx [p0] [List.range n] := B0.push (l := List.range n) hp0
    have k1 := (k0.trans (Kp.new (o := .lst ((List.range n : List Nat).map vI)) hp0)).trans (Kp.put (S := [o]) (q := o) (o := .ins T.C_Blocks dx (bkF [p0])) List.mem_cons_self)
    generalize hg0 : upd (upd H p0 (.lst ((List.range n : List Nat).map vI))) o (.ins T.C_Blocks dx (bkF [p0])) = H1 at B1 k1
    have eq0 : upd (upd H p0 (.lst ((List.range n : List Nat).map vI))) o (.ins T.C_Blocks dx (putF (Str.ofString "members") (V.ref p0) (bkF []))) = upd (upd H p0 (.lst ((List.range n : List Nat).map vI))) o (.ins T.C_Blocks dx (bkF [p0])) := rfl
    rw [hg0] at eq0
    rw [eq0]
    clear eq0 hg0
    walk_at "rc"
    walk_at "rs"
    walk_at "rc"
    refine rd_lrgB ?_
    refine rd_rg1B ?_
    walk_at "rc"
    refine ⟨RgOk.of_le (by decide) (by omega) (by decide) (by omega), fun p1 hp1 => ?_⟩
    rw [rgV0B]
    have f1 := fresh k1 (.inr ⟨_, B1.ob⟩) hp1
    have no1 : o ≠ p1 := ne_of_none B1.ob hp1
    walk_at "rc"
    refine ⟨o, _, dx, _, rfl, by rw [upd_ne no1]; exact B1.ob, T.cl_Blocks, T.na_Blocks_places, by show 1 < 1000; decide, ?_⟩
    have B2 : BL T.C_Blocks (upd (upd H1 p1 (.lst ((List.range n : List Nat).map vI))) o (.ins T.C_Blocks dx (bkF [p0, p1]))) o dx [p0, p1] [List.range n, List.range n] := B1.push (l := List.range n) hp1
    have k2 := (k1.trans (Kp.new (o := .lst ((List.range n : List Nat).map vI)) hp1)).trans (Kp.put (S := [o]) (q := o) (o := .ins T.C_Blocks dx (bkF [p0, p1])) List.mem_cons_self)
    have eq1 : upd (upd H1 p1 (.lst ((List.range n : List Nat).map vI))) o (.ins T.C_Blocks dx (putF (Str.ofString "places") (V.ref p1) (bkF [p0]))) = upd (upd H1 p1 (.lst ((List.range n : List Nat).map vI))) o (.ins T.C_Blocks dx (bkF [p0, p1])) := rfl
    generalize hg1 : upd (upd H1 p1 (.lst ((List.range n : List Nat).map vI))) o (.ins T.C_Blocks dx (bkF [p0, p1])) = H2 at B2 k2
    rw [hg1] at eq1
    rw [eq1]
    clear eq1 hg1
    walk_at "rc"
    walk_at "rs"
    walk_at "rc"
    refine ⟨by show 1 ≤ sizeLine; decide, fun z hz => ?_⟩
    have eZ : Ex H2 (upd H2 z (.lst [.int 0])) := Evl.Ex.new hz
    have hZ : upd H2 z (.lst [.int 0]) z = some (.lst [.int 0]) := upd_same
    have k2 := k2.trans (Kp.of_ex eZ)
    have B2 := B2.ex eZ
    generalize upd H2 z (.lst [.int 0]) = H2 at eZ hZ k2 B2
    walk_at "rc"
    refine ⟨z, _, _, rfl, rfl, hZ, by omega, by omega, by rw [Int.toNat_natCast]; show 1 * n ≤ sizeLine; omega, fun p2 hp2 => ?_⟩
    rw [Int.toNat_natCast, show (List.replicate n [V.int 0]).flatten = (List.replicate n 0).map vI by rw [List.map_replicate, List.flatten_replicate_singleton]; rfl]
    have f2 := fresh k2 (.inr ⟨_, B2.ob⟩) hp2
    have no2 : o ≠ p2 := ne_of_none B2.ob hp2
    walk_at "rc"
    refine ⟨o, _, dx, _, rfl, by rw [upd_ne no2]; exact B2.ob, T.cl_Blocks, T.na_Blocks_block_of, by show 2 < 1000; decide, ?_⟩
    have B3 : BL T.C_Blocks (upd (upd H2 p2 (.lst ((List.replicate n 0 : List Nat).map vI))) o (.ins T.C_Blocks dx (bkF [p0, p1, p2]))) o dx [p0, p1, p2] [List.range n, List.range n, List.replicate n 0] := B2.push (l := List.replicate n 0) hp2
    have k3 := (k2.trans (Kp.new (o := .lst ((List.replicate n 0 : List Nat).map vI)) hp2)).trans (Kp.put (S := [o]) (q := o) (o := .ins T.C_Blocks dx (bkF [p0, p1, p2])) List.mem_cons_self)
    have eq2 : upd (upd H2 p2 (.lst ((List.replicate n 0 : List Nat).map vI))) o (.ins T.C_Blocks dx (putF (Str.ofString "block_of") (V.ref p2) (bkF [p0, p1]))) = upd (upd H2 p2 (.lst ((List.replicate n 0 : List Nat).map vI))) o (.ins T.C_Blocks dx (bkF [p0, p1, p2])) := rfl
    generalize hg2 : upd (upd H2 p2 (.lst ((List.replicate n 0 : List Nat).map vI))) o (.ins T.C_Blocks dx (bkF [p0, p1, p2])) = H3 at B3 k3
    rw [hg2] at eq2
    rw [eq2]
    clear eq2 hg2
    walk_at "rc"
    walk_at "rs"
    walk_at "rc"
    refine ⟨by show 1 ≤ sizeLine; decide, fun p3 hp3 => ?_⟩
    rw [show ([V.int 0] : List V) = ([0] : List Nat).map vI from rfl]
    have f3 := fresh k3 (.inr ⟨_, B3.ob⟩) hp3
    have no3 : o ≠ p3 := ne_of_none B3.ob hp3
    walk_at "rc"
    refine ⟨o, _, dx, _, rfl, by rw [upd_ne no3]; exact B3.ob, T.cl_Blocks, T.na_Blocks_starts, by show 3 < 1000; decide, ?_⟩
    have B4 : BL T.C_Blocks (upd (upd H3 p3 (.lst (([0] : List Nat).map vI))) o (.ins T.C_Blocks dx (bkF [p0, p1, p2, p3]))) o dx [p0, p1, p2, p3] [List.range n, List.range n, List.replicate n 0, [0]] := B3.push (l := [0]) hp3
    have k4 := (k3.trans (Kp.new (o := .lst (([0] : List Nat).map vI)) hp3)).trans (Kp.put (S := [o]) (q := o) (o := .ins T.C_Blocks dx (bkF [p0, p1, p2, p3])) List.mem_cons_self)
    have eq3 : upd (upd H3 p3 (.lst (([0] : List Nat).map vI))) o (.ins T.C_Blocks dx (putF (Str.ofString "starts") (V.ref p3) (bkF [p0, p1, p2]))) = upd (upd H3 p3 (.lst (([0] : List Nat).map vI))) o (.ins T.C_Blocks dx (bkF [p0, p1, p2, p3])) := rfl
    generalize hg3 : upd (upd H3 p3 (.lst (([0] : List Nat).map vI))) o (.ins T.C_Blocks dx (bkF [p0, p1, p2, p3])) = H4 at B4 k4
    rw [hg3] at eq3
    rw [eq3]
    clear eq3 hg3
    walk_at "rc"
    walk_at "rs"
    walk_at "rc"
    refine ⟨by show 1 ≤ sizeLine; decide, fun p4 hp4 => ?_⟩
    rw [show ([V.int (n : Int)] : List V) = ([n] : List Nat).map vI from rfl]
    have f4 := fresh k4 (.inr ⟨_, B4.ob⟩) hp4
    have no4 : o ≠ p4 := ne_of_none B4.ob hp4
    walk_at "rc"
    refine ⟨o, _, dx, _, rfl, by rw [upd_ne no4]; exact B4.ob, T.cl_Blocks, T.na_Blocks_ends, by show 4 < 1000; decide, ?_⟩
    have B5 : BL T.C_Blocks (upd (upd H4 p4 (.lst (([n] : List Nat).map vI))) o (.ins T.C_Blocks dx (bkF [p0, p1, p2, p3, p4]))) o dx [p0, p1, p2, p3, p4] [List.range n, List.range n, List.replicate n 0, [0], [n]] := B4.push (l := [n]) hp4
    have k5 := (k4.trans (Kp.new (o := .lst (([n] : List Nat).map vI)) hp4)).trans (Kp.put (S := [o]) (q := o) (o := .ins T.C_Blocks dx (bkF [p0, p1, p2, p3, p4])) List.mem_cons_self)
    have eq4 : upd (upd H4 p4 (.lst (([n] : List Nat).map vI))) o (.ins T.C_Blocks dx (putF (Str.ofString "ends") (V.ref p4) (bkF [p0, p1, p2, p3]))) = upd (upd H4 p4 (.lst (([n] : List Nat).map vI))) o (.ins T.C_Blocks dx (bkF [p0, p1, p2, p3, p4])) := rfl
    generalize hg4 : upd (upd H4 p4 (.lst (([n] : List Nat).map vI))) o (.ins T.C_Blocks dx (bkF [p0, p1, p2, p3, p4])) = H5 at B5 k5
    rw [hg4] at eq4
    rw [eq4]
    clear eq4 hg4
    walk_at "rc"
    walk_at "rs"
    walk_at "rc"
    refine ⟨by show 1 ≤ sizeLine; decide, fun p5 hp5 => ?_⟩
    rw [show ([V.int 0] : List V) = ([0] : List Nat).map vI from rfl]
    have f5 := fresh k5 (.inr ⟨_, B5.ob⟩) hp5
    have no5 : o ≠ p5 := ne_of_none B5.ob hp5
    walk_at "rc"
    refine ⟨o, _, dx, _, rfl, by rw [upd_ne no5]; exact B5.ob, T.cl_Blocks, T.na_Blocks_marks, by show 5 < 1000; decide, ?_⟩
    have B6 : BL T.C_Blocks (upd (upd H5 p5 (.lst (([0] : List Nat).map vI))) o (.ins T.C_Blocks dx (bkF [p0, p1, p2, p3, p4, p5]))) o dx [p0, p1, p2, p3, p4, p5] [List.range n, List.range n, List.replicate n 0, [0], [n], [0]] := B5.push (l := [0]) hp5
    have k6 := (k5.trans (Kp.new (o := .lst (([0] : List Nat).map vI)) hp5)).trans (Kp.put (S := [o]) (q := o) (o := .ins T.C_Blocks dx (bkF [p0, p1, p2, p3, p4, p5])) List.mem_cons_self)
    have eq5 : upd (upd H5 p5 (.lst (([0] : List Nat).map vI))) o (.ins T.C_Blocks dx (putF (Str.ofString "marks") (V.ref p5) (bkF [p0, p1, p2, p3, p4]))) = upd (upd H5 p5 (.lst (([0] : List Nat).map vI))) o (.ins T.C_Blocks dx (bkF [p0, p1, p2, p3, p4, p5])) := rfl
    generalize hg5 : upd (upd H5 p5 (.lst (([0] : List Nat).map vI))) o (.ins T.C_Blocks dx (bkF [p0, p1, p2, p3, p4, p5])) = H6 at B6 k6
    rw [hg5] at eq5
    rw [eq5]
    clear eq5 hg5
    walk_at "rc"
    refine ⟨by show 0 ≤ sizeLine; decide, fun p6 hp6 => ?_⟩
    rw [show ([] : List V) = ([] : List Nat).map vI from rfl]
    have f6 := fresh k6 (.inr ⟨_, B6.ob⟩) hp6
    have no6 : o ≠ p6 := ne_of_none B6.ob hp6
    walk_at "rc"
    refine ⟨o, _, dx, _, rfl, by rw [upd_ne no6]; exact B6.ob, T.cl_Blocks, T.na_Blocks_touched, by show 6 < 1000; decide, ?_⟩
    have B7 : BL T.C_Blocks (upd (upd H6 p6 (.lst (([] : List Nat).map vI))) o (.ins T.C_Blocks dx (bkF [p0, p1, p2, p3, p4, p5, p6]))) o dx [p0, p1, p2, p3, p4, p5, p6] [List.range n, List.range n, List.replicate n 0, [0], [n], [0], []] := B6.push (l := []) hp6
    have k7 := (k6.trans (Kp.new (o := .lst (([] : List Nat).map vI)) hp6)).trans (Kp.put (S := [o]) (q := o) (o := .ins T.C_Blocks dx (bkF [p0, p1, p2, p3, p4, p5, p6])) List.mem_cons_self)
    refine q [p0, p1, p2, p3, p4, p5, p6] _ rfl (fun x hx => ?_) k7 B7
    simp only [List.mem_cons, List.not_mem_nil, or_false] at hx
    rcases hx with h | h | h | h | h | h | h
    · rw [h]; exact f0
    · rw [h]; exact f1
    · rw [h]; exact f2
    · rw [h]; exact f3
    · rw [h]; exact f4
    · rw [h]; exact f5
    · rw [h]; exact f6
end
section
/-- rows in lists of their own, in the hidden part -/
structure RowsM (K : PySem.W.Frag) (S : List Addr) (H : Hp) (rs : List Addr) (ts : List (List PyData)) : Prop where
  nd : rs.Nodup
  len : rs.length = ts.length
  sub : ∀ r ∈ rs, r ∈ S
  at' : ∀ (i : Nat) (r : Addr) (es : List PyData), rs[i]? = some r → ts[i]? = some es → ∃ ws, H r = some (.lst ws) ∧ DpAll K (hid S H) ws es
theorem RowsM.mono {S : List Addr} {H H' : Hp} {rs : List Addr} {ts : List (List PyData)} (h : RowsM K S H rs ts) (k : Kp S H H') (kr : ∀ r ∈ rs, ∀ o, H r = some o → H' r = some o) : RowsM K S H' rs ts :=
  ⟨h.nd, h.len, h.sub, fun i r es h1 h2 => by
    obtain ⟨ws, a, b⟩ := h.at' i r es h1 h2
    exact ⟨ws, kr r (List.mem_of_getElem? h1) _ a, b.ex k.ex⟩⟩
theorem RowsM.set {S : List Addr} {H : Hp} {rs : List Addr} {ts : List (List PyData)} {i : Nat} {r : Addr} {ws : List V} {es : List PyData} (h : RowsM K S H rs ts) (hr : rs[i]? = some r) (hd : DpAll K (hid S H) ws es) : RowsM K S (upd H r (.lst ws)) rs (ts.set i es) := by
  have rm : r ∈ S := h.sub r (List.mem_of_getElem? hr)
  have k : Kp S H (upd H r (.lst ws)) := Kp.put rm
  refine ⟨h.nd, by rw [List.length_set]; exact h.len, h.sub, fun i' q es' h1 h2 => ?_⟩
  have hl : i < rs.length := (List.getElem?_eq_some_iff.mp hr).1
  by_cases e : i' = i
  · subst e
    rw [hr] at h1
    obtain rfl := Option.some.inj h1
    rw [List.getElem?_set_self (by rw [← h.len]; exact hl)] at h2
    obtain rfl := Option.some.inj h2
    exact ⟨ws, upd_same, hd.ex k.ex⟩
  · rw [List.getElem?_set_ne (fun z => e z.symm)] at h2
    have hne : q ≠ r := fun z => by
      subst z
      have hil : i' < rs.length := (List.getElem?_eq_some_iff.mp h1).1
      exact e ((List.getElem?_inj hil h.nd).mp (h1.trans hr.symm))
    obtain ⟨ws', a, b⟩ := h.at' i' q es' h1 h2
    exact ⟨ws', by rw [upd_ne hne]; exact a, b.ex k.ex⟩
theorem RowsM.dp {S : List Addr} {H : Hp} {rs : List Addr} {ts : List (List PyData)} (h : RowsM K S H rs ts) : DpAll K H (rs.map V.ref) (ts.map PyData.list) :=
  DpAll.of (by rw [List.length_map, List.length_map, h.len]) fun i v d h1 h2 => by
    rw [List.getElem?_map] at h1 h2
    obtain ⟨r, hr, rfl⟩ := Option.map_eq_some_iff.mp h1
    obtain ⟨es, he, rfl⟩ := Option.map_eq_some_iff.mp h2
    obtain ⟨ws, a, b⟩ := h.at' i r es hr he
    exact .lst (SqL.of a) (b.ex hid_ex)

/-- [[] for row in rows] -/
theorem lc_newM {S : List Addr} {j : Nat} {σ : L2.St} {H H0 : Hp} {Q : VK} {J : It} {ds : List PyData} (hS : ∀ b ∈ S, ∃ o, H b = some o) (w : Wd K J ds H0) (e0 : Ex H0 (hid S H)) (hn : ds.length < 100000) (hw : ∀ v : V, wipe ((wipe σ [j]).set j (some v)) [j] = wipe σ [j])
    (h : ∀ L rs Hc, Ex H Hc → H L = none → L ∉ S → Hc L = some (.lst (rs.map V.ref)) → (∀ r ∈ rs, H r = none) → L ∉ rs → RowsM K (rs ++ L :: S) Hc rs (List.replicate ds.length []) → Q (.ref L) Hc) : lcB (gName j) tYes (tLst tNil) [j] σ Q J H := by
  generalize hts : List.replicate ds.length ([] : List PyData) = ts at h
  have hl : ds.length = ts.length := by rw [← hts, List.length_replicate]
  have htn : ∀ (i : Nat) es, ts[i]? = some es → es = [] := fun i es q => by
    rw [← hts, List.getElem?_replicate] at q
    split at q
    · exact (Option.some.inj q).symm
    · cases q
  intro L hL
  have nL : L ∉ S := notin_of hS hL
  refine lc_it w (fun i Hc => Ex H Hc ∧ ∃ rs : List Addr, Hc L = some (.lst (rs.map V.ref)) ∧ rs.length = i ∧ rs.Nodup ∧ (∀ r ∈ rs, H r = none) ∧ L ∉ rs ∧ ∀ (i' : Nat) (r : Addr) (es : List PyData), rs[i']? = some r → ts[i']? = some es → ∃ ws, Hc r = some (.lst ws) ∧ DpAll K (hid S H) ws es)
    ⟨Evl.Ex.new hL, [], upd_same, rfl, List.nodup_nil, (fun r hr => nomatch hr), List.not_mem_nil, fun i' r es z => by simp at z⟩ (fun i Hc _ q => e0.trans ((Ex.hid q.1).trans hid_ex)) (fun i x Hc H' hi q y => ?_) fun Hc q => ?_
  · obtain ⟨e1, rs, h1, h2, h3, h4, h5, h6⟩ := q
    obtain ⟨rfl, d, hd1, hd2⟩ := y
    refine ⟨hw x, rd_yes ?_⟩
    refine rd_iteT ?_
    have hti : i < ts.length := by rw [← hl]; exact hi
    refine rd_lst ?_
    refine rd_nil ?_
    refine ⟨by decide, fun l hl' => ?_⟩
    have nlL : l ≠ L := fun z => by rw [z, h1] at hl'; cases hl'
    have nlr : l ∉ rs := fun z => by
      obtain ⟨i', hi'⟩ := List.getElem?_of_mem z
      have hlt := (List.getElem?_eq_some_iff.mp hi').1
      obtain ⟨ws, a, _⟩ := h6 i' l _ hi' (List.getElem?_eq_getElem (show i' < ts.length by omega))
      rw [hl'] at a; cases a
    have fl : H l = none := Evl.fresh_back e1 hl'
    refine ⟨rs.map V.ref, by rw [upd_ne (Ne.symm nlL)]; exact h1, ?_, Evl.Ex.mut (ex_upd e1 hl') hL, rs ++ [l], by rw [upd_same, List.map_append]; rfl, by rw [List.length_append, h2]; rfl, ?_, fun r hr => ?_, fun z => ?_, fun i' r es g1 g2 => ?_⟩
    · rw [List.length_map, h2]
      exact Nat.lt_of_lt_of_le (Nat.lt_trans hi hn) (by decide)
    · exact List.nodup_append.mpr ⟨h3, List.nodup_cons.mpr ⟨List.not_mem_nil, List.nodup_nil⟩, fun a ha b hb q => by
        rw [List.mem_singleton.mp hb] at q
        rw [q] at ha
        exact nlr ha⟩
    · rcases List.mem_append.mp hr with y | y
      · exact h4 r y
      · rw [List.mem_singleton.mp y]; exact fl
    · rcases List.mem_append.mp z with y | y
      · exact h5 y
      · exact nlL (List.mem_singleton.mp y).symm
    · by_cases hlt : i' < rs.length
      · rw [List.getElem?_append_left hlt] at g1
        obtain ⟨ws, a, b⟩ := h6 i' r es g1 g2
        have rm := List.mem_of_getElem? g1
        refine ⟨ws, ?_, b⟩
        rw [upd_ne (show r ≠ L from fun z => h5 (by rw [← z]; exact rm)), upd_ne (show r ≠ l from fun z => nlr (by rw [← z]; exact rm))]
        exact a
      · rw [List.getElem?_append_right (by omega)] at g1
        have e0' : i' - rs.length = 0 := by
          rcases Nat.eq_zero_or_pos (i' - rs.length) with z | z
          · exact z
          · rw [List.getElem?_eq_none (by simp; omega)] at g1
            cases g1
        rw [e0'] at g1
        obtain rfl : l = r := Option.some.inj g1
        have e3 : i' = i := by omega
        subst e3
        rw [List.getElem?_eq_getElem hti] at g2
        obtain rfl := Option.some.inj g2
        have ee := htn _ _ (List.getElem?_eq_getElem hti)
        rw [ee]
        exact ⟨[], by rw [upd_ne nlL, upd_same], .nil⟩
  · obtain ⟨e1, rs, h1, h2, h3, h4, h5, h6⟩ := q
    refine h L rs Hc e1 hL nL h1 h4 h5 ⟨h3, by omega, fun r hr => List.mem_append.mpr (.inl hr), fun i' r es g1 g2 => ?_⟩
    obtain ⟨ws, a, b⟩ := h6 i' r es g1 g2
    refine ⟨ws, a, b.ex ((Kp.of_ex (S := S) e1).up fun b hb hn => ?_)⟩
    rcases List.mem_append.mp hb with z | z
    · exact h4 b z
    · rcases List.mem_cons.mp z with z | z
      · rw [z]; exact hL
      · exact absurd z hn

/-- the ways back, up to the j-th of the i-th row -/
structure BkL (tab : List (List Nat)) (i j : Nat) (bk : List (List Nat)) : Prop where
  n : bk.length = tab.length
  l : ∀ row ∈ bk, row.length ≤ i * 100 + j
  m : ∀ t s : Nat, s ∈ bk.getD t [] ↔ (s < i ∧ t ∈ tab.getD s []) ∨ (s = i ∧ t ∈ (tab.getD i []).take j)
  nd : (∀ row ∈ tab, row.length ≤ 1) → ∀ t, (bk.getD t []).Nodup
theorem BkL.put {tab : List (List Nat)} {i j t : Nat} {bk : List (List Nat)} (h : BkL tab i j bk) (ht : (tab.getD i [])[j]? = some t) (tl : t < tab.length) : BkL tab i (j + 1) (bk.set t (bk.getD t [] ++ [i])) := by
  have tl' : t < bk.length := by rw [h.n]; exact tl
  refine ⟨by rw [List.length_set]; exact h.n, fun row hr => ?_, fun u s => ?_, fun h1 u => ?_⟩
  · rcases List.mem_or_eq_of_mem_set hr with z | z
    · have := h.l row z; omega
    · rw [z, List.length_append, List.length_singleton]
      have : bk.getD t [] ∈ bk := by
        rw [List.getD_eq_getElem?_getD, List.getElem?_eq_getElem tl']
        exact List.getElem_mem tl'
      have := h.l _ this
      omega
  · rw [getD_set tl', List.take_succ, ht]
    by_cases e : u = t
    · rw [if_pos e, e, List.mem_append, h.m]
      simp only [List.mem_singleton, List.mem_append, Option.toList_some]
      constructor
      · rintro (z | z)
        · exact z.imp id fun z => ⟨z.1, .inl z.2⟩
        · exact .inr ⟨z, .inr True.intro⟩
      · rintro (z | ⟨z, y | _⟩)
        · exact .inl (.inl z)
        · exact .inl (.inr ⟨z, y⟩)
        · exact .inr z
    · rw [if_neg e, h.m]
      simp only [List.mem_append, Option.toList_some, List.mem_singleton]
      constructor
      · exact fun z => z.imp id fun z => ⟨z.1, .inl z.2⟩
      · exact fun z => z.imp id fun z => ⟨z.1, z.2.resolve_right e⟩
  · rw [getD_set tl']
    by_cases e : u = t
    · rw [if_pos e]
      have j0 : j = 0 := by
        rcases Nat.lt_or_ge i tab.length with z | z
        · have er : tab.getD i [] = tab[i] := by rw [List.getD_eq_getElem?_getD, List.getElem?_eq_getElem z]; rfl
          have := h1 tab[i] (List.getElem_mem z)
          rw [er] at ht
          have := ltQ ht
          omega
        · rw [List.getD_eq_getElem?_getD, List.getElem?_eq_none z] at ht
          cases ht
      refine List.nodup_append.mpr ⟨h.nd h1 t, List.nodup_cons.mpr ⟨(fun z => nomatch z), List.nodup_nil⟩, fun x hx y hy e => ?_⟩
      rw [List.mem_singleton.mp hy] at e
      rw [e, h.m, j0, List.take_zero] at hx
      rcases hx with z | z
      · omega
      · cases z.2
    · rw [if_neg e]
      exact h.nd h1 u
theorem BkL.next {tab : List (List Nat)} {i : Nat} {bk : List (List Nat)} (h : BkL tab i (tab.getD i []).length bk) (hw : (tab.getD i []).length ≤ 100) : BkL tab (i + 1) 0 bk := by
  refine ⟨h.n, fun row hr => ?_, fun t s => ?_, h.nd⟩
  · have := h.l row hr; omega
  · rw [h.m, List.take_length]
    simp only [List.take_zero, List.not_mem_nil, and_false, or_false]
    constructor
    · rintro (⟨a, b⟩ | ⟨a, b⟩)
      · exact ⟨by omega, b⟩
      · rw [a]; exact ⟨by omega, b⟩
    · rintro ⟨a, b⟩
      by_cases e : s = i
      · rw [e] at b; exact .inr ⟨e, b⟩
      · exact .inl ⟨by omega, b⟩
/-- new data: nothing of it stood before -/
def Nw (K : PySem.W.Frag) (H H' : Hp) (v : V) (d : PyData) : Prop := ∀ S : List Addr, (∀ b ∈ S, ∃ o, H b = some o) → Dp K (hid S H') v d
theorem Nw.dp {H H' : Hp} {v : V} {d : PyData} (h : Nw K H H' v d) : Dp K H' v d := by
  have := h [] (fun b hb => nomatch hb)
  rw [hid_nil] at this
  exact this
theorem Nw.up {H H1 H' : Hp} {v : V} {d : PyData} (h : Nw K H1 H' v d) (e : Ex H H1) : Nw K H H' v d := fun S hS => h S fun b hb => by
  obtain ⟨o, z⟩ := hS b hb
  exact ⟨o, e b o z⟩
theorem Nw.ex {H H1 H' : Hp} {v : V} {d : PyData} (h : Nw K H H1 v d) (e : Ex H1 H') : Nw K H H' v d := fun S hS => (h S hS).ex (Ex.hid e)
def spWaysL : Sp := fun vs H Q _ => ∃ (y : V) (tab : List (List Nat)), vs = [y] ∧ Dp K H y (nL tab) ∧ Grf tab ∧ (∀ row ∈ tab, row.length ≤ 100) ∧
  ∀ (f : Addr) (bk : List (List Nat)) (H' : Hp), Ex H H' → Nw K H H' (.ref f) (nL bk) → bk.length = tab.length → (∀ t s : Nat, s ∈ bk.getD t [] ↔ t ∈ tab.getD s []) → ((∀ row ∈ tab, row.length ≤ 1) → ∀ t, (bk.getD t []).Nodup) → Q (.ref f) H'
theorem ok_ways_back (T : Txt K mg) : FnOk P w K mg base CX0 1 T.a_ways_back T.d_ways_back ["nexts"] (spWaysL (K := K)) := by
  refine T.f_ways_back.ok sc_ways_back (fun vs H Q E h => ?_) (fun cdv A outer s H vs Q E hr h => ?_)
  · obtain ⟨_, _, rfl, _⟩ := h; rfl
  · obtain ⟨y, tab, rfl, hy, g, hw, q⟩ := h
    have gn := g.n
    have hsl : 1000000 ≤ sizeLine := by decide
    refine ⟨_, (pss_cons (ps_setLc (i := 1) (own := [("_", 2)]) (g := gName 2) (tt := tYes) (by rfl) sc_ways_back.nd rfl rfl (sw_true rfl rfl rfl (by decide +kernel)) (kAny K rfl (pv 0)) (blkOk_by (own := [("_", 2)]) (N := ["nexts", "found", "_", "state", "afters", "after"]) (sc := defScope s_ways_back) (by decide +kernel)) (fun _ _ _ _ _ => (pg_name (i := 2) sc_ways_back.nd rfl (by first | exact Or.inl rfl | exact Or.inr rfl))) (fun _ _ _ _ _ => pts_nil) (fun _ _ _ _ _ => (pe_lst pa_nil)))
  (pss_cons (ps_for PassesOwn.never rfl (kEn K rfl (pi_enumA (by rfl) T.nb_enumerate (pa_cons (pv 0) pa_nil))) (kGt K rfl (pg_tup (n := 2) (by rfl) (pgs_cons (pg_name (i := 3) sc_ways_back.nd rfl (by first | exact Or.inl rfl | exact Or.inr rfl)) (pgs_cons (pg_name (i := 4) sc_ways_back.nd rfl (by first | exact Or.inl rfl | exact Or.inr rfl)) pgs_nil))))
    (pss_one (ps_for PassesOwn.never rfl (kAny K rfl (pv 4)) (pg_name (i := 5) sc_ways_back.nd rfl (by first | exact Or.inl rfl | exact Or.inr rfl))
    (pss_one (ps_expr (kBm K rfl (pe_bm PySem.F.plainAttrs_list PySem.F.slot_list_append PySem.F.type_list_append mt_append (pe_ix (kIx K) (pv 1) (pv 5) (fun _ _ => rfl)) (pa_cons (pv 3) pa_nil))))))))
  (pss_one (ps_ret (pv 1))))), ?_⟩
    walk_at "rc"
    refine rd_anySq (fun Q q => ⟨_, rfl, q⟩) (Evl.Ex.refl H) (.inl hy) fun J wJ => ?_
    refine lc_newM (K := K) (S := []) (fun b hb => nomatch hb) wJ (by rw [hid_nil]; exact Evl.Ex.refl H) (by rw [List.length_map]; omega) (fun v => rfl) fun L rs H1 e1 hL _ hL1 frs nLr rm => ?_
    rw [List.length_map] at rm
    have rm0 : RowsM K (rs ++ [L]) H1 rs ((List.replicate tab.length ([] : List Nat)).map fun row => row.map nI) := by
      have e : (List.replicate tab.length ([] : List Nat)).map (fun row => row.map nI) = List.replicate tab.length [] := by rw [List.map_replicate]; rfl
      rw [e]; exact rm
    walk_at "rc"
    walk_at "rs"
    walk_at "rc"
    obtain ⟨qa, ys, rfl, hq, hys⟩ := Dp.lstv hy
    refine .inl ⟨_, rfl, qa, ys, rfl, Evl.ex_l e1 hq, ?_⟩
    have yl : ys.length = tab.length := by rw [hys.len, List.length_map]
    refine fo_it walk_enum (fun i σ H' => ∃ (bk : List (List Nat)) (k2 k3 k4 k5 : Option V), σ = [some (.ref qa), some (.ref L), k2, k3, k4, k5] ∧ Ex H H' ∧ H' L = some (.lst (rs.map V.ref)) ∧ RowsM K (rs ++ [L]) H' rs (bk.map fun row => row.map nI) ∧ BkL tab i 0 bk)
      ⟨_, _, _, _, _, rfl, e1, hL1, rm0, ⟨List.length_replicate, fun row hr => ?_, fun t s => ?_, fun _ t => ?_⟩⟩ (fun i σ H' _ p => p.elim fun _ p => p.elim fun _ p => p.elim fun _ p => p.elim fun _ p => p.elim fun _ p => Evl.ex_l p.2.1 hq) ?_ ?_
    · rw [(List.mem_replicate.mp hr).2]; exact Nat.zero_le _
    · have e : (List.replicate tab.length ([] : List Nat)).getD t [] = [] := by
        rw [List.getD_eq_getElem?_getD, List.getElem?_replicate]
        split <;> rfl
      rw [e, List.take_zero]
      simp
    · have e : (List.replicate tab.length ([] : List Nat)).getD t [] = [] := by
        rw [List.getD_eq_getElem?_getD, List.getElem?_replicate]
        split <;> rfl
      rw [e]
      exact List.nodup_nil
    · rintro i x σ H2 H3 hi ⟨bk, k2, k3, k4, k5, rfl, e2, hL2, rm2, hb⟩ ⟨A, u, v, rfl, hA, rfl, hu, hv⟩
      cases hu
      rw [yl] at hi
      obtain ⟨d, hd, hvd⟩ := hys.got hv
      rw [List.getElem?_map] at hd
      obtain ⟨row, hrow, rfl⟩ := Option.map_eq_some_iff.mp hd
      have hrm := List.mem_of_getElem? hrow
      have rb := g.b row hrm
      have rw' := hw row hrm
      have erow : tab.getD i [] = row := by rw [List.getD_eq_getElem?_getD, hrow]; rfl
      have e3 : Ex H (upd H2 A (.tup [.int (i : Nat), v])) := ex_upd e2 hA
      have nAL : L ≠ A := fun z => by rw [← z, hL2] at hA; cases hA
      have hL3 : upd H2 A (.tup [.int (i : Nat), v]) L = some (.lst (rs.map V.ref)) := by rw [upd_ne nAL]; exact hL2
      have rm3 : RowsM K (rs ++ [L]) (upd H2 A (.tup [.int (i : Nat), v])) rs (bk.map fun row => row.map nI) := rm2.mono (Kp.new hA) fun r _ o z => Evl.Ex.new hA r o z
      have hA3 : SqT K (upd H2 A (.tup [.int (i : Nat), v])) A [.int (i : Nat), v] := Evl.st_of upd_same
      generalize upd H2 A (.tup [.int (i : Nat), v]) = H3 at e3 hL3 rm3 hA3
      refine ⟨A, _, rfl, hA3, rfl, ?_⟩
      walk_at "rc"
      refine rd_anySq (fun Q q => ⟨_, rfl, q⟩) e3 (.inl hvd) fun J2 wJ2 => ?_
      refine fo_D wJ2 (fun j σ H' => ∃ (bk : List (List Nat)) (k5 : Option V), σ = [some (.ref qa), some (.ref L), k2, some (.int (i : Nat)), some v, k5] ∧ Ex H H' ∧ H' L = some (.lst (rs.map V.ref)) ∧ RowsM K (rs ++ [L]) H' rs (bk.map fun row => row.map nI) ∧ BkL tab i j bk)
        ⟨bk, _, rfl, e3, hL3, rm3, hb⟩ (fun i σ H' _ p => p.elim fun _ p => p.elim fun _ p => p.2.1) ?_ ?_
      · rintro j d w σ H4 hd hv4 ⟨bk, k5, rfl, e4, hL4, rm4, hb4⟩
        rw [List.getElem?_map] at hd
        obtain ⟨t, ht, rfl⟩ := Option.map_eq_some_iff.mp hd
        cases Dp.int_iff hv4
        have htm := List.mem_of_getElem? ht
        have htl : t < tab.length := rb t htm
        have rsl : rs.length = tab.length := by rw [rm4.len, List.length_map, hb4.n]
        have hrs : rs[t]? = some rs[t] := List.getElem?_eq_getElem (by omega)
        have hbt : bk[t]? = some (bk.getD t []) := by
          rw [List.getD_eq_getElem?_getD, List.getElem?_eq_getElem (by rw [hb4.n]; exact htl)]; rfl
        obtain ⟨ws, hws, hwd⟩ := rm4.at' t _ ((bk.getD t []).map nI) hrs (by rw [List.getElem?_map, hbt]; rfl)
        have bl := hb4.l _ (List.mem_of_getElem? hbt)
        have wl := hwd.len
        rw [List.length_map] at wl
        have jl := (List.getElem?_eq_some_iff.mp ht).1
        walk_at "rc"
        refine rd_ixL (v := V.ref rs[t]) (SqL.of hL4) (atI_nat (j := t) (by rw [List.getElem?_map, hrs]; rfl)) ?_
        walk_at "rc"
        refine ⟨.inl ⟨rfl, _, SqL.of hws⟩, ?_⟩
        walk_at "rc"
        have hrm4 : rs[t] ∈ rs := List.mem_of_getElem? hrs
        refine ⟨rs[t], ws, _, rfl, rfl, hws, by omega, ?_⟩
        have nLt : L ≠ rs[t] := fun z => nLr (by rw [z]; exact hrm4)
        have st := rm4.set (ws := ws ++ [.int (i : Nat)]) hrs (hwd.snoc (d := nI i) (.int _))
        refine ⟨bk.set t (bk.getD t [] ++ [i]), _, rfl, Evl.Ex.mut e4 (frs _ hrm4), by rw [upd_ne nLt]; exact hL4, ?_, hb4.put (by rw [erow]; exact ht) htl⟩
        rw [List.map_set, List.map_append]
        exact st
      · rintro σ H4 ⟨bk, k5, rfl, e4, hL4, rm4, hb4⟩
        rw [List.length_map, ← erow] at hb4
        exact ⟨bk, _, _, _, _, rfl, e4, hL4, rm4, hb4.next (by rw [erow]; exact rw')⟩
    · rintro σ H2 ⟨bk, k2, k3, k4, k5, rfl, e2, hL2, rm2, hb⟩
      rw [yl] at hb
      walk_at "rc"
      refine q L bk H2 e2 (fun S hS => ?_) hb.n (fun t s => ?_) hb.nd
      · have nS : ∀ x, H x = none → x ∉ S := fun x hx z => by
          obtain ⟨o, y⟩ := hS x z
          rw [hx] at y; cases y
        refine .lst (SqL.of (by rw [hid_at (nS L hL)]; exact hL2)) (DpAll.of (by rw [List.length_map, List.length_map, rm2.len, List.length_map]) fun i v d h1 h2 => ?_)
        rw [List.getElem?_map] at h1 h2
        obtain ⟨r, hr, rfl⟩ := Option.map_eq_some_iff.mp h1
        obtain ⟨row, hrow, rfl⟩ := Option.map_eq_some_iff.mp h2
        obtain ⟨ws, w1, w2⟩ := rm2.at' i r (row.map nI) hr (by rw [List.getElem?_map, hrow]; rfl)
        have w3 : ws = row.map vI := by
          have w4 : DpAll K (hid (rs ++ [L]) H2) ws ((row.map Int.ofNat).map PyData.int) := by rw [List.map_map]; exact w2
          rw [dp_ints' w4, List.map_map]; rfl
        have frr := frs r (List.mem_of_getElem? hr)
        refine .lst (SqL.of (by rw [hid_at (nS r frr)]; exact w1)) ?_
        rw [w3]
        exact DpAll.mapV _ _ _ fun x _ => .int x
      · rw [hb.m, List.take_zero]
        constructor
        · rintro (⟨_, z⟩ | ⟨_, z⟩)
          · exact z
          · cases z
        · intro z
          refine .inl ⟨?_, z⟩
          rcases Nat.lt_or_ge s tab.length with h | h
          · exact h
          · rw [List.getD_eq_getElem?_getD, List.getElem?_eq_none h] at z
            cases z

end
section
def spSources (T : Txt K mg) : Sp := fun vs H Q _ => ∃ (m : Addr) (ls : Str) (acc : List Bool) (tab : List (List Nat)) (j : Nat), vs = [.ref m, .int (j : Int)] ∧ MachD K T.C_Machine H m ls acc tab ∧ GMw ls acc tab ∧ j < ls.length ∧
  ∀ (f : Addr) (bk : List (List Nat)) (H' : Hp), Ex H H' → Nw K H H' (.ref f) (nL bk) → bk.length = tab.length → (∀ t s : Nat, s ∈ bk.getD t [] ↔ s < tab.length ∧ dl tab s j = t) → (∀ t, (bk.getD t []).Nodup) → Q (.ref f) H'
theorem ok_sources_by (T : Txt K mg) : FnOk P w K mg base CX0 2 T.a_sources_by T.d_sources_by ["machine", "index"] (spSources T) := by
  refine T.f_sources_by.ok sc_sources_by (fun vs H Q E h => ?_) (fun cdv A outer s H vs Q E hr h => ?_)
  · obtain ⟨_, _, _, _, _, rfl, _⟩ := h; rfl
  · obtain ⟨m, ls, acc, tab, j, rfl, hM, g, hj, q⟩ := h
    obtain ⟨dx, ta, tt, hm, hA, hT⟩ := id hM
    have gn := g.m.g.n
    have row : ∀ s, s < tab.length → ∃ ro x, tab[s]? = some ro ∧ ro[j]? = some x ∧ dl tab s j = x ∧ x < tab.length := fun s hs => by
      obtain ⟨ro, x, h1, h2, _, h3, h4⟩ := g.at' (s := s) (by rw [← g.m.e]; exact hs) hj
      exact ⟨ro, x, h1, h2, h3, by rw [g.m.e]; exact h4⟩
    refine ⟨_, (pss_one (ps_ret (pe_callE (ok_ways_back T) (hr.mono (by decide)) T.o_ways_back (pa_cons (pe_lc (own := [("row", 2)]) (g := gName 2) (tt := tYes) (by rfl) sc_sources_by.nd (kAny K rfl (kFld K rfl (pe_fld (pv 0) rfl))) (blkOk_by (own := [("row", 2)]) (N := ["machine", "index", "row"]) (sc := defScope s_sources_by) (by decide +kernel)) (fun _ _ _ _ _ => (pg_name (i := 2) sc_sources_by.nd rfl (by first | exact Or.inl rfl | exact Or.inr rfl))) (fun _ _ _ _ _ => pts_nil) (fun _ _ _ _ _ => (pe_lst (pa_cons (pe_ix (kIx K) (pv 2) (pv 1) (fun _ _ => rfl)) pa_nil)))) pa_nil)))), ?_⟩
    walk_at "rc"
    refine rd_anySq (fun Q q => rd_fld (rd_var (by rfl) ⟨m, _, dx, _, _, rfl, hm, T.cl_Machine, T.na_Machine_table, rfl, q⟩)) (Evl.Ex.refl H) (.inr hT) fun J wJ => ?_
    refine lc_MD (K := K) (S := []) tr_ex (fun b hb => nomatch hb) wJ (by rw [hid_nil]; exact Evl.Ex.refl H) (by rw [List.length_map]; omega) (fun v => rfl) (fun d => .list [match d with | .tuple ds => ds.getD j .none | _ => .none]) (fun L d v Hc hd hv hL nL eHc hs1 up N hN => ?_) fun L us H1 e1 hL nLs hL1 hd1 => ?_
    · obtain ⟨ro, hro, rfl⟩ := List.mem_map.mp hd
      obtain ⟨s1, hs1'⟩ := List.getElem?_of_mem hro
      obtain ⟨ro', x, h1, h2, _, _⟩ := row s1 (ltQ hs1')
      rw [hs1'] at h1
      cases h1
      walk_at "rc"
      refine rd_ixDT hid_ex hv (d := nI x) (by rw [List.getElem?_map, h2]; rfl) fun v2 hv2 => ?_
      walk_at "rc"
      refine ⟨by show 1 ≤ sizeLine; decide, fun p hp => ?_⟩
      refine hN _ _ (Evl.Ex.new hp) ?_
      have e : (ro.map nI).getD j .none = nI x := by rw [List.getD_eq_getElem?_getD, List.getElem?_map, h2]; rfl
      show Dp K _ (.ref p) (.list [(ro.map nI).getD j .none])
      rw [e]
      cases Dp.int_iff hv2
      have np : p ∉ L :: ([] : List Addr) := fun z => by
        obtain ⟨o, y⟩ := hs1 p z
        rw [hp] at y; cases y
      exact .lst (SqL.of (by rw [hid_at np]; exact upd_same)) (.cons (.int _) .nil)
    · have ed : (tab.map fun ro => PyData.tuple (ro.map nI)).map (fun d => PyData.list [match d with | .tuple ds => ds.getD j .none | _ => .none]) = (tab.map fun ro => [ro.getD j 0]).map fun ro => PyData.list (ro.map nI) := by
        rw [List.map_map, List.map_map]
        refine List.map_congr_left fun ro hro => ?_
        obtain ⟨s1, hs1'⟩ := List.getElem?_of_mem hro
        obtain ⟨ro', x, h1, h2, _, _⟩ := row s1 (ltQ hs1')
        rw [hs1'] at h1
        cases h1
        show PyData.list [(ro.map nI).getD j .none] = PyData.list [nI (ro.getD j 0)]
        rw [List.getD_eq_getElem?_getD, List.getElem?_map, List.getD_eq_getElem?_getD, h2]
        rfl
      rw [ed] at hd1
      have hD : Dp K H1 (.ref L) (nL (tab.map fun ro => [ro.getD j 0])) := (Dp.frz hL1 nLs hd1).ex hid_ex
      have hg1 : ∀ s, (tab.map fun ro => [ro.getD j 0]).getD s [] = if s < tab.length then [dl tab s j] else [] := fun s => by
        rw [List.getD_eq_getElem?_getD, List.getElem?_map]
        by_cases hs : s < tab.length
        · obtain ⟨ro, hro⟩ := getQ hs
          rw [if_pos hs, hro]
          show [ro.getD j 0] = [(tab.getD s []).getD j 0]
          rw [show tab.getD s [] = ro by rw [List.getD_eq_getElem?_getD, hro]; rfl]
        · rw [if_neg hs, List.getElem?_eq_none (by omega)]
          rfl
      walk_at "rc"
      refine ⟨.ref L, _, rfl, hD, ⟨by rw [List.length_map]; exact gn, fun ro hr x hx => ?_⟩, fun ro hr => ?_, fun f bk H2 e2 hb hl hmm hnd => ?_⟩
      · obtain ⟨ro', hr', rfl⟩ := List.mem_map.mp hr
        obtain ⟨s1, hs1'⟩ := List.getElem?_of_mem hr'
        obtain ⟨ro2, y, h1, h2, _, h4⟩ := row s1 (ltQ hs1')
        rw [hs1'] at h1
        cases h1
        rw [List.mem_singleton.mp hx, List.length_map, List.getD_eq_getElem?_getD, h2]
        exact h4
      · obtain ⟨_, _, rfl⟩ := List.mem_map.mp hr
        show 1 ≤ 100
        decide
      · refine q f bk H2 (e1.trans e2) (hb.up e1) (by rw [hl, List.length_map]) (fun t s => ?_) (hnd fun ro hr => by obtain ⟨_, _, rfl⟩ := List.mem_map.mp hr; exact Nat.le_refl 1)
        rw [hmm, hg1]
        split
        · rename_i h
          rw [List.mem_singleton]
          exact ⟨fun z => ⟨h, z.symm⟩, fun z => z.2.symm⟩
        · rename_i h
          exact ⟨fun z => (nomatch z), fun z => absurd z.1 h⟩
end
section
/-! ### the states of a kind, in two lots -/
def stK (acc : List Bool) (i : Nat) (k : Bool) : List Nat := (List.range i).filter fun s => decide (acc.getD s false = k)
theorem stK_succ (acc : List Bool) (i : Nat) (k : Bool) : stK acc (i + 1) k = if acc.getD i false = k then stK acc i k ++ [i] else stK acc i k := by
  unfold stK
  rw [List.range_succ, List.filter_append]
  by_cases e : acc.getD i false = k
  · rw [if_pos e, List.filter_cons_of_pos (by simpa using e)]; rfl
  · rw [if_neg e, List.filter_cons_of_neg (by simpa using e), List.filter_nil, List.append_nil]
theorem stK_mem {acc : List Bool} {i : Nat} {k : Bool} {s : Nat} : s ∈ stK acc i k ↔ s < i ∧ acc.getD s false = k := by
  unfold stK
  rw [List.mem_filter, List.mem_range, decide_eq_true_iff]
theorem stK_nd (acc : List Bool) (i : Nat) (k : Bool) : (stK acc i k).Nodup := List.Nodup.sublist List.filter_sublist List.nodup_range
def dbV (kvs : List (Bool × Addr)) : List (Bool × V) := kvs.map fun p => (p.1, V.ref p.2)
structure KdI (P : Program) (w : World) (H H' : Hp) (D : Addr) (acc : List Bool) (i : Nat) (kvs : List (Bool × Addr)) : Prop where
  e : Ex H H'
  d : H' D = some (dB P w D (dbV kvs))
  hd : H D = none
  nk : (kvs.map (·.1)).Nodup
  na : (D :: kvs.map (·.2)).Nodup
  fr : ∀ a ∈ kvs.map (·.2), H a = none
  st : ∀ p ∈ kvs, H' p.2 = some (.lst ((stK acc i p.1).map vI))
  al : ∀ s, s < i → acc.getD s false ∈ kvs.map (·.1)
  ll : kvs.length ≤ 2
theorem two_keys {l : List Bool} (h : l.Nodup) : l.length ≤ 2 := by
  match l, h with
  | [], _ => exact Nat.zero_le _
  | [_], _ => exact Nat.le_succ 1
  | [_, _], _ => exact Nat.le_refl 2
  | a :: b :: c :: r, h =>
    rw [List.nodup_cons, List.nodup_cons, List.nodup_cons] at h
    obtain ⟨h1, h2, _⟩ := h
    simp only [List.mem_cons, not_or] at h1 h2
    obtain ⟨n1, n2, _⟩ := h1
    obtain ⟨n3, _⟩ := h2
    cases a <;> cases b <;> cases c <;> simp_all
theorem valV_db {kvs : List (Bool × Addr)} (nk : (kvs.map (·.1)).Nodup) {k : Bool} {v : V} : valV (dbV kvs) k = some v ↔ ∃ a, (k, a) ∈ kvs ∧ v = .ref a := by
  induction kvs with
  | nil => exact ⟨fun z => (nomatch z), fun ⟨_, z, _⟩ => (nomatch z)⟩
  | cons p r ih =>
    rw [List.map_cons, List.nodup_cons] at nk
    show valV ((p.1, V.ref p.2) :: dbV r) k = some v ↔ _
    by_cases e : p.1 = k
    · rw [valV_pos (p := (p.1, V.ref p.2)) e]
      refine ⟨fun z => ⟨p.2, ?_, (Option.some.inj z).symm⟩, fun ⟨a, h1, h2⟩ => ?_⟩
      · rw [← e]; exact List.mem_cons_self
      · rcases List.mem_cons.mp h1 with z | z
        · rw [h2, ← z]
        · exact absurd (List.mem_map.mpr ⟨_, z, rfl⟩) (by rw [← e]; exact nk.1)
    · rw [valV_neg (p := (p.1, V.ref p.2)) e, ih nk.2]
      refine ⟨fun ⟨a, h1, h2⟩ => ⟨a, List.mem_cons_of_mem _ h1, h2⟩, fun ⟨a, h1, h2⟩ => ⟨a, (List.mem_cons.mp h1).resolve_left fun z => e (by rw [← z]), h2⟩⟩
theorem valV_dbN {kvs : List (Bool × Addr)} {k : Bool} (h : valV (dbV kvs) k = none) : k ∉ kvs.map (·.1) := by
  induction kvs with
  | nil => exact fun z => nomatch z
  | cons p r ih =>
    have h : valV ((p.1, V.ref p.2) :: dbV r) k = none := h
    by_cases e : p.1 = k
    · rw [valV_pos (p := (p.1, V.ref p.2)) e] at h; cases h
    · rw [valV_neg (p := (p.1, V.ref p.2)) e] at h
      exact fun z => (List.mem_cons.mp z).elim (fun y => e y.symm) (ih h)
/-- the list of a kind grows -/
theorem KdI.old {P : Program} {w : World} {H H' H2 : Hp} {D : Addr} {acc : List Bool} {i : Nat} {kvs : List (Bool × Addr)} (h : KdI P w H H' D acc i kvs) (e2 : Ex H' H2) {a : Addr} (ha : (acc.getD i false, a) ∈ kvs) :
    KdI P w H (upd H2 a (.lst ((stK acc i (acc.getD i false)).map vI ++ [.int (i : Int)]))) D acc (i + 1) kvs := by
  have ma : a ∈ kvs.map (·.2) := List.mem_map.mpr ⟨_, ha, rfl⟩
  have nD : D ≠ a := fun z => (List.nodup_cons.mp h.na).1 (by rw [z]; exact ma)
  refine ⟨Evl.Ex.mut (h.e.trans e2) (h.fr a ma), by rw [upd_ne nD]; exact e2 _ _ h.d, h.hd, h.nk, h.na, h.fr, fun p hp => ?_, fun s hs => ?_, h.ll⟩
  · by_cases e : p.2 = a
    · have : p = (acc.getD i false, a) := by
        obtain ⟨x, hx⟩ := List.getElem?_of_mem hp
        obtain ⟨y, hy⟩ := List.getElem?_of_mem ha
        have nd := (List.nodup_cons.mp h.na).2
        have z : x = y := (List.getElem?_inj (by rw [List.length_map]; exact ltQ hx) nd).mp (by rw [List.getElem?_map, List.getElem?_map, hx, hy]; exact congrArg some e)
        rw [z, hy] at hx
        exact (Option.some.inj hx).symm
      rw [this, upd_same, stK_succ, if_pos rfl, vI_app]
    · rw [upd_ne e, stK_succ, if_neg fun z => ?_]
      · exact e2 _ _ (h.st p hp)
      · obtain ⟨x, hx⟩ := List.getElem?_of_mem hp
        obtain ⟨y, hy⟩ := List.getElem?_of_mem ha
        have z' : x = y := (List.getElem?_inj (by rw [List.length_map]; exact ltQ hx) h.nk).mp (by rw [List.getElem?_map, List.getElem?_map, hx, hy]; exact congrArg some z.symm)
        rw [z', hy] at hx
        exact e (by rw [← Option.some.inj hx])
  · rcases Nat.lt_or_ge s i with z | z
    · exact h.al s z
    · obtain rfl : s = i := by omega
      exact List.mem_map.mpr ⟨_, ha, rfl⟩
theorem KdI.new {P : Program} {w : World} {H H' : Hp} {D p : Addr} {acc : List Bool} {i : Nat} {kvs : List (Bool × Addr)} (h : KdI P w H H' D acc i kvs) (hp : H' p = none) (hk : acc.getD i false ∉ kvs.map (·.1)) :
    KdI P w H (upd (upd (upd H' p (.lst [])) D (dB P w D (dbV (kvs ++ [(acc.getD i false, p)])))) p (.lst [.int (i : Int)])) D acc (i + 1) (kvs ++ [(acc.getD i false, p)]) := by
  have pD : D ≠ p := fun z => by rw [← z, h.d] at hp; cases hp
  have hpH : H p = none := by
    cases y : H p with
    | none => rfl
    | some ob => rw [h.e p ob y] at hp; cases hp
  have pk : p ∉ kvs.map (·.2) := fun z => by
    obtain ⟨q, hq, e⟩ := List.mem_map.mp z
    rw [← e, h.st q hq] at hp; cases hp
  have e2 : Ex H (upd (upd (upd H' p (.lst [])) D (dB P w D (dbV (kvs ++ [(acc.getD i false, p)])))) p (.lst [.int (i : Int)])) := Evl.Ex.mut (Evl.Ex.mut (Evl.Ex.mut h.e hpH) h.hd) hpH
  have nk' : ((kvs ++ [(acc.getD i false, p)]).map (·.1)).Nodup := by
    rw [List.map_append]
    exact List.nodup_append.mpr ⟨h.nk, List.nodup_cons.mpr ⟨(fun z => nomatch z), List.nodup_nil⟩, fun x hx y hy e => hk (by rw [List.mem_singleton.mp hy] at e; rw [show x = acc.getD i false from e] at hx; exact hx)⟩
  refine ⟨e2, by rw [upd_ne pD, upd_same], h.hd, nk', ?_, fun a ha => ?_, fun q hq => ?_, fun s hs => ?_, ?_⟩
  · rw [List.map_append]
    refine List.nodup_cons.mpr ⟨fun z => (List.mem_append.mp z).elim (List.nodup_cons.mp h.na).1 fun y => pD (List.mem_singleton.mp y), List.nodup_append.mpr ⟨(List.nodup_cons.mp h.na).2, List.nodup_cons.mpr ⟨(fun z => nomatch z), List.nodup_nil⟩, fun x hx y hy e => pk (by rw [List.mem_singleton.mp hy] at e; rw [show x = p from e] at hx; exact hx)⟩⟩
  · rw [List.map_append] at ha
    rcases List.mem_append.mp ha with z | z
    · exact h.fr a z
    · rw [List.mem_singleton.mp z]; exact hpH
  · rcases List.mem_append.mp hq with z | z
    · have m1 : q.2 ∈ kvs.map (·.2) := List.mem_map.mpr ⟨_, z, rfl⟩
      have n1 : q.2 ≠ p := fun y => pk (y ▸ m1)
      have n2 : q.2 ≠ D := fun y => (List.nodup_cons.mp h.na).1 (y ▸ m1)
      rw [upd_ne n1, upd_ne n2, upd_ne n1, h.st q z, stK_succ, if_neg fun y => hk (by rw [y]; exact List.mem_map.mpr ⟨_, z, rfl⟩)]
    · rw [List.mem_singleton.mp z]
      show upd _ p _ p = _
      rw [upd_same, stK_succ, if_pos rfl]
      have : stK acc i (acc.getD i false) = [] := List.eq_nil_iff_forall_not_mem.mpr fun s hs => hk (by
        obtain ⟨h1, h2⟩ := stK_mem.mp hs
        rw [← h2]; exact h.al s h1)
      rw [this]; rfl
  · rw [List.map_append]
    rcases Nat.lt_or_ge s i with z | z
    · exact List.mem_append.mpr (.inl (h.al s z))
    · obtain rfl : s = i := by omega
      exact List.mem_append.mpr (.inr List.mem_cons_self)
  · have := two_keys nk'
    rw [List.length_map] at this
    exact this
theorem rd_enTu {K : PySem.W.Frag} {ta : TA} {σ : L2.St} {H : Hp} {R : It → Hp → Prop} (h : ta σ H fun vs H1 => ∃ q xs, vs = [.ref q] ∧ SqT K H1 q xs ∧ R (ItEt K q) H1) : iEnumA K ta σ H R := .inr h
theorem rd_makeN {C : Addr} {sp : Sp} {dvs : List V} {E : XK} {t : TA} {σ : L2.St} {H : Hp} {Q : VK} (h : t σ H fun vs H1 => ∀ x dx, H1 x = none → H1 dx = none → dx ≠ x →
  sp (.ref x :: (vs ++ dvs)) (upd (upd H1 dx (.own x)) x (.ins C dx [])) (fun v H2 => v = .non ∧ Q (.ref x) H2) E) : tMake C sp dvs E t σ H Q := h
theorem rd_keysB {P : Program} {w : World} {td : TE} {σ : L2.St} {H : Hp} {R : It → Hp → Prop} (h : td σ H fun x H1 => ∃ d o kvs, x = .ref d ∧ H1 d = some (.frz o (dB P w d kvs)) ∧ R (Itb P w d o kvs) H1) : iKeysB P w td σ H R := h
theorem bk_mark {A : List Addr} (h : A.length = 7) : (bkF A).lookup (Str.ofString "mark") = none ∧ (bkF A).lookup (Str.ofString "cut") = none ∧ (bkF A).lookup (Str.ofString "states_in") = none := by
  match A, h with
  | [_, _, _, _, _, _, _], _ => exact ⟨rfl, rfl, rfl⟩
theorem gr0 {n i : Nat} (h : i < n) : (List.range n).getD i 0 = i := by
  rw [List.getD_eq_getElem?_getD, List.getElem?_range h]; rfl
theorem gp0 {n i : Nat} : (List.replicate n 0).getD i 0 = 0 := by
  rw [List.getD_eq_getElem?_getD, List.getElem?_replicate]
  split <;> rfl
theorem LayB.init {n : Nat} (h : 0 < n) : LayB n (List.range n) (List.range n) (List.replicate n 0) [0] [n] [0] [] := by
  refine ⟨List.length_range, List.length_range, List.length_replicate, rfl, rfl, fun i hi => ?_, fun i hi => ?_, fun s hs => ?_, fun k hk => ?_, fun k i hk h1 h2 => ?_, fun k => ?_, List.nodup_nil⟩
  · rw [gr0 hi, gr0 hi]; exact ⟨hi, rfl⟩
  · rw [gr0 hi, gr0 hi]; exact ⟨hi, rfl⟩
  · rw [gp0, gr0 hs]; exact ⟨Nat.zero_lt_one, Nat.zero_le _, hs⟩
  · obtain rfl : k = 0 := Nat.lt_one_iff.mp hk
    exact ⟨Nat.zero_le _, Nat.le_refl _, h⟩
  · obtain rfl : k = 0 := Nat.lt_one_iff.mp hk
    exact gp0
  · refine ⟨fun z => (nomatch z), fun z => ?_⟩
    obtain rfl : k = 0 := Nat.lt_one_iff.mp z.1
    exact absurd z.2 (Nat.lt_irrefl 0)
theorem LayB.tl {n : Nat} {mem pla blo sta en mar tou : List Nat} (h : LayB n mem pla blo sta en mar tou) : tou.length ≤ n := by
  have := nodup_leK tou (List.range sta.length) h.tn fun x hx => List.mem_range.mpr ((h.to x).mp hx).1
  rw [List.length_range] at this
  exact Nat.le_trans this h.few
theorem LayB.nomk {n : Nat} {mem pla blo sta en mar : List Nat} (h : LayB n mem pla blo sta en mar []) {s : Nat} (hs : s < n) : ¬ Mkd pla blo sta mar s := fun z => by
  obtain ⟨b1, b2, b3⟩ := h.bl s hs
  unfold Mkd at z
  exact absurd ((h.to _).mpr ⟨b1, by omega⟩) (fun w => nomatch w)
variable (T : Txt K mg)
theorem mark_sp {n : Nat} {o dx : Addr} {A : List Addr} {mem pla blo sta en mar tou : List Nat} {H : Hp} {Q : VK} {E : XK} (h : LayB n mem pla blo sta en mar tou) (hn : n ≤ 1000) (hA : A.length = 7) (B : BL T.C_Blocks H o dx A [mem, pla, blo, sta, en, mar, tou]) {s : Nat} (hs : s < n) (hm : ¬ Mkd pla blo sta mar s)
    (q : ∀ H' mem' pla' mar' tou', BL T.C_Blocks H' o dx A [mem', pla', blo, sta, en, mar', tou'] → LayB n mem' pla' blo sta en mar' tou' → (∀ t, t < n → (Mkd pla' blo sta mar' t ↔ Mkd pla blo sta mar t ∨ t = s)) → Kp A H H' → Q .non H') : spMark T [.ref o, .int (s : Int)] H Q E := by
  obtain ⟨L, M⟩ := h.mark hs hm rfl rfl rfl rfl
  obtain ⟨b1, b2, b3⟩ := h.bl s hs
  obtain ⟨c1, c2, c3⟩ := h.bn _ b1
  have gp : sta.getD (blo.getD s 0) 0 + mar.getD (blo.getD s 0) 0 ≤ pla.getD s 0 := by
    unfold Mkd at hm
    omega
  obtain ⟨m1, m2⟩ := h.pm s hs
  have g1 : sta.getD (blo.getD s 0) 0 + mar.getD (blo.getD s 0) 0 < n := by omega
  obtain ⟨o1, o2⟩ := h.mp _ g1
  have tl := h.tl
  exact ⟨o, dx, A, mem, pla, blo, sta, en, mar, tou, s, _, _, _, _, _, rfl, hA, B, at_getD (by rw [h.lb]; exact hs), at_getD b1, at_getD (by rw [h.lk]; exact b1), at_getD (by rw [h.lp]; exact hs), at_getD (by rw [h.lm]; exact g1), by rw [h.lm]; exact m1, by rw [h.lp]; exact o1, by omega, fun H' B' k' => q H' _ _ _ _ B' L M k'⟩
theorem cuts_made {n : Nat} {mem pla : List Nat} : ∀ (tou : List Nat) (c : CS), LayB n mem pla c.blo c.sta c.en c.mar tou → c.sta.length ≤ (tou.foldl (cut1 mem) c).sta.length ∧ ∀ x ∈ (tou.foldl (cut1 mem) c).made, x ∈ c.made ∨ x < (tou.foldl (cut1 mem) c).sta.length
  | [], c, _ => ⟨Nat.le_refl _, fun x hx => .inl hx⟩
  | k :: rest, c, h => by
    obtain ⟨m, hm, C⟩ := cut1_is h
    obtain ⟨h1, h2⟩ := cuts_made rest (cut1 mem c k) C.l
    have ln := C.ln
    refine ⟨by show _ ≤ (rest.foldl (cut1 mem) (cut1 mem c k)).sta.length; omega, fun x hx => ?_⟩
    rcases h2 x hx with z | z
    · rw [hm] at z
      rcases List.mem_append.mp z with z | z
      · exact .inl z
      · have := C.md x z
        have : 0 < m.length := List.length_pos_of_mem z
        refine .inr ?_
        show x < (rest.foldl (cut1 mem) (cut1 mem c k)).sta.length
        omega
    · exact .inr z
theorem cut_sp {n : Nat} {o dx : Addr} {A : List Addr} {mem pla blo sta en mar tou : List Nat} {H : Hp} {Q : VK} {E : XK} (h : LayB n mem pla blo sta en mar tou) (hn : n ≤ 1000) (hA : A.length = 7) (B : BL T.C_Blocks H o dx A [mem, pla, blo, sta, en, mar, tou])
    (q : ∀ p A' blo' sta' en' mar' made H', A'.length = 7 → (∀ x ∈ A', x ∈ A ∨ H x = none) → BL T.C_Blocks H' o dx A' [mem, pla, blo', sta', en', mar', []] → LayB n mem pla blo' sta' en' mar' [] → Cut n (Mkd pla blo sta mar) (fun s => blo.getD s 0) (fun s => blo'.getD s 0) made →
      sta'.length = sta.length + made.length → (∀ x ∈ made, x < sta'.length) → Kp (o :: A) H H' → H p = none → p ∉ o :: A' → H' p = some (.lst (made.map vI)) → Q (.ref p) H') : spCut T [.ref o] H Q E := by
  match A, hA with
  | [ms, ps, bo, ss, es, ks, tc], _ =>
  obtain ⟨C, O⟩ := cuts_ok (by omega) tou ⟨blo, sta, en, mar, []⟩ h (Nat.zero_le _)
  obtain ⟨_, M2⟩ := cuts_made tou ⟨blo, sta, en, mar, []⟩ h
  refine ⟨o, dx, ms, ps, bo, ss, es, ks, tc, mem, pla, blo, sta, en, mar, tou, rfl, B, by rw [h.lm]; omega, O, fun p tc' c H' ec B' ht k' hp np hp' => ?_⟩
  rw [ec] at C M2
  refine q p _ c.blo c.sta c.en c.mar c.made H' rfl (fun x hx => ?_) B' C.l (C.cut (en0 := []) h) (by have := C.ln; simpa using this) (fun x hx => (M2 x hx).resolve_left fun z => nomatch z) k' hp np hp'
  simp only [List.mem_cons, List.not_mem_nil, or_false] at hx ⊢
  rcases hx with rfl | rfl | rfl | rfl | rfl | rfl | rfl
  · exact .inl (.inl rfl)
  · exact .inl (.inr (.inl rfl))
  · exact .inl (.inr (.inr (.inl rfl)))
  · exact .inl (.inr (.inr (.inr (.inl rfl))))
  · exact .inl (.inr (.inr (.inr (.inr (.inl rfl)))))
  · exact .inl (.inr (.inr (.inr (.inr (.inr (.inl rfl))))))
  · exact .inr ht
def spKinds : Sp := fun vs H Q _ => ∃ (v : V) (acc : List Bool), vs = [v] ∧ Dp K H v (.tuple (acc.map PyData.bool)) ∧ 0 < acc.length ∧ acc.length ≤ 1000 ∧
  ∀ (o dx : Addr) (A : List Addr) (mem pla blo sta en mar : List Nat) (H' : Hp), Ex H H' → A.length = 7 → (∀ x ∈ o :: A, H x = none) → BL T.C_Blocks H' o dx A [mem, pla, blo, sta, en, mar, []] → LayB acc.length mem pla blo sta en mar [] →
  (∀ s t, s < acc.length → t < acc.length → (blo.getD s 0 = blo.getD t 0 ↔ acc.getD s false = acc.getD t false)) → Q (.ref o) H'
theorem ok__blocks_of_kinds : FnOk P w K mg base CX0 3 T.a__blocks_of_kinds T.d__blocks_of_kinds ["kinds"] (spKinds (K := K) T) := by
  refine T.f__blocks_of_kinds.ok sc__blocks_of_kinds (fun vs H Q E h => ?_) (fun cdv A outer s H vs Q E hr h => ?_)
  · obtain ⟨_, _, rfl, _⟩ := h; rfl
  · obtain ⟨v, acc, rfl, hk, n0, hn, q⟩ := h
    have sz : 1000000 ≤ sizeLine := by decide
    obtain ⟨va, vs, rfl, hvt, hva⟩ := Dp.tupv hk
    rw [dp_bls hva] at hvt
    clear hva
    refine ⟨_, (pss_cons (ps_set (i := 1) sc__blocks_of_kinds.nd rfl (by first | exact Or.inl rfl | exact Or.inr rfl) (pe_dnewB P w))
  (pss_cons (ps_for PassesOwn.never rfl (kEn K rfl (pi_enumA (by rfl) T.nb_enumerate (pa_cons (pv 0) pa_nil))) (kGt K rfl (pg_tup (n := 2) (by rfl) (pgs_cons (pg_name (i := 2) sc__blocks_of_kinds.nd rfl (by first | exact Or.inl rfl | exact Or.inr rfl)) (pgs_cons (pg_name (i := 3) sc__blocks_of_kinds.nd rfl (by first | exact Or.inl rfl | exact Or.inr rfl)) pgs_nil))))
    (pss_one (ps_expr (kBm K rfl (pe_bm PySem.F.plainAttrs_list PySem.F.slot_list_append PySem.F.type_list_append mt_append (pe_dsetdB P w rfl rfl (pv 1) (pv 3) (pe_lst pa_nil) ⟨by rfl, by rfl, by rfl, by rfl⟩) (pa_cons (pv 2) pa_nil))))))
  (pss_cons (ps_set (i := 4) sc__blocks_of_kinds.nd rfl (by first | exact Or.inl rfl | exact Or.inr rfl) (pe_make T.mk_Blocks (ok_Blocks_init T) (hr.mono (by decide)) (by rfl) T.g_Blocks T.b_Blocks_init .nil pass0 (pa_cons (pe_callB (kLen K) (by rfl) T.nb_len (by decide +kernel) (pa_cons (pv 0) pa_nil)) pa_nil)))
  (pss_cons (ps_lock (ps_for PassesOwn.never rfl (pi_keysB P w rfl rfl (pv 1)) (pg_name (i := 3) sc__blocks_of_kinds.nd rfl (by first | exact Or.inl rfl | exact Or.inr rfl))
    (pss_cons (ps_for PassesOwn.never rfl (kAny K rfl (pe_dgetB P w rfl rfl (pv 1) (pv 3) (fun _ _ => rfl))) (pg_name (i := 2) sc__blocks_of_kinds.nd rfl (by first | exact Or.inl rfl | exact Or.inr rfl))
    (pss_one (ps_expr (pe_meth (pv 4) T.cl_Blocks T.m_Blocks_mark (ok_Blocks_mark T) (hr.mono (by decide)) T.b_Blocks_mark .nil pass0 (pa_cons (pv 2) pa_nil)))))
  (pss_one (ps_expr (pe_meth0 (pv 4) T.cl_Blocks T.m_Blocks_cut (ok_Blocks_cut T) (hr.mono (by decide)) T.b_Blocks_cut .nil pass0))))))
  (pss_one (ps_ret (pv 4))))))), ?_⟩
    walk_at "rc"
    intro D hD
    have K0 : KdI P w H (upd H D (dB P w D (dbV []))) D acc 0 [] := ⟨Evl.Ex.new hD, upd_same, hD, List.nodup_nil, List.nodup_cons.mpr ⟨(fun z => nomatch z), List.nodup_nil⟩, (fun a z => nomatch z), (fun a z => nomatch z), fun s hs => absurd hs (Nat.not_lt_zero _), Nat.zero_le _⟩
    have eD : upd H D (dB P w D []) = upd H D (dB P w D (dbV [])) := rfl
    rw [eD]
    generalize upd H D (dB P w D (dbV [])) = H1 at K0
    walk_at "rc"
    walk_at "rs"
    walk_at "rc"
    refine rd_enTu ?_
    walk_at "rc"
    refine ⟨va, _, rfl, Evl.ex_t K0.e hvt, ?_⟩
    refine fo_it (walk_enumT (xs := acc.map V.bl)) (fun i σ H' => ∃ (kvs : List (Bool × Addr)) (k2 k3 : Option V), σ = [some (.ref va), some (.ref D), k2, k3, none] ∧ KdI P w H H' D acc i kvs) ⟨[], _, _, rfl, K0⟩ (fun i σ H' _ z => ?_) ?_ ?_
    · obtain ⟨_, _, _, _, z⟩ := z
      exact Evl.ex_t z.e hvt
    · rintro i x σ H2 H3 hi ⟨kvs, k2, k3, rfl, KI⟩ ⟨t, v1, v2, rfl, ht, rfl, hv1, hv2⟩
      rw [List.length_map] at hi
      cases hv1
      obtain ⟨y, hy, rfl⟩ : ∃ y, acc[i]? = some y ∧ v2 = .bl y := by
        have hv2 : (acc.map V.bl)[i]? = some v2 := hv2
        rw [List.getElem?_map] at hv2
        obtain ⟨y, h1, h2⟩ := Option.map_eq_some_iff.mp hv2
        exact ⟨y, h1, h2.symm⟩
      have ey : acc.getD i false = y := by rw [List.getD_eq_getElem?_getD, hy]; rfl
      have e3 : Ex H2 (upd H2 t (.tup [.int (i : Nat), .bl y])) := Evl.Ex.new ht
      have h3 : upd H2 t (.tup [.int (i : Nat), .bl y]) t = some (.tup [.int (i : Nat), .bl y]) := upd_same
      generalize upd H2 t (.tup [.int (i : Nat), .bl y]) = H3 at e3 h3
      have hd3 := e3 _ _ KI.d
      refine ⟨t, _, rfl, Evl.st_of h3, rfl, ?_⟩
      walk_at "rc"
      refine ⟨⟨D, _, rfl, hd3⟩, ?_⟩
      walk_at "rc"
      refine ⟨by show 0 ≤ sizeLine; decide, fun p hp => ?_⟩
      have pD : D ≠ p := fun z => by rw [← z, hd3] at hp; cases hp
      refine ⟨D, _, y, rfl, by rw [upd_ne pD]; exact hd3, rfl, by rw [dbV, List.length_map]; have := KI.ll; omega, fun v hv => ?_, fun hv => ?_⟩
      · obtain ⟨a, ha, rfl⟩ := (valV_db KI.nk).mp hv
        have h4 := KI.st _ ha
        have h5 : upd H3 p (.lst []) a = some (.lst ((stK acc i y).map vI)) := by
          rw [upd_ne (fun z => by rw [z] at h4; rw [e3 _ _ h4] at hp; cases hp)]
          exact e3 _ _ h4
        refine ⟨.inl ⟨rfl, _, SqL.of h5⟩, ?_⟩
        walk_at "rc"
        refine ⟨a, _, _, rfl, rfl, h5, by
          rw [List.length_map]
          have : (stK acc i y).length ≤ i := Nat.le_trans (List.length_filter_le _ _) (Nat.le_of_eq List.length_range)
          omega, ?_⟩
        have K2 := KI.old (H2 := upd H3 p (.lst [])) (e3.trans (Evl.Ex.new hp)) (a := a) (by rw [ey]; exact ha)
        rw [ey] at K2
        exact ⟨kvs, _, _, rfl, K2⟩
      · have hk := valV_dbN hv
        have e4 : putK (dbV kvs) y (V.ref p) = dbV (kvs ++ [(y, p)]) := by
          rw [putK_new _ hv, dbV, dbV, List.map_append]; rfl
        rw [e4]
        have h5 : upd (upd H3 p (.lst [])) D (dB P w D (dbV (kvs ++ [(y, p)]))) p = some (.lst []) := by rw [upd_ne (Ne.symm pD), upd_same]
        refine ⟨.inl ⟨rfl, _, SqL.of h5⟩, ?_⟩
        walk_at "rc"
        refine ⟨p, _, _, rfl, rfl, h5, by show 0 < sizeLine; decide, ?_⟩
        have K3 : KdI P w H H3 D acc i kvs := ⟨KI.e.trans e3, hd3, KI.hd, KI.nk, KI.na, KI.fr, fun q hq => e3 _ _ (KI.st q hq), KI.al, KI.ll⟩
        have K4 := K3.new hp (by rw [ey]; exact hk)
        rw [ey] at K4
        exact ⟨_, _, _, rfl, K4⟩
    · rintro σ H2 ⟨kvs, k2, k3, rfl, KI⟩
      rw [List.length_map] at KI
      walk_at "rc"
      refine rd_makeN ?_
      walk_at "rc"
      refine rd_lenT (Evl.ex_t KI.e hvt) ?_
      rw [List.length_map]
      walk_at "rc"
      intro o dx ho hdx ne
      refine ⟨o, dx, acc.length, rfl, upd_same, by omega, fun A H3 hA fA kA B => ⟨rfl, ?_⟩⟩
      have e3 : Ex H2 H3 := fun b ob z => kA b ob (fun y => by rw [List.mem_singleton.mp y, ho] at z; cases z) (by rw [upd_ne (ne_of_none z ho), upd_ne (ne_of_none z hdx)]; exact z)
      have f2 : ∀ x ∈ o :: A, H2 x = none := fun x hx => by
        rcases List.mem_cons.mp hx with z | z
        · rw [z]; exact ho
        · have y := fA x z
          have n1 : x ≠ o := fun w => by rw [w, upd_same] at y; cases y
          rw [upd_ne n1] at y
          by_cases n2 : x = dx
          · rw [n2, upd_same] at y; cases y
          · rw [upd_ne n2] at y; exact y
      have hd3 := e3 _ _ KI.d
      walk_at "rc"
      walk_at "rs"
      refine ⟨D, _, hd3, True.intro, fun od => ?_⟩
      obtain ⟨u, hu⟩ : ∃ u, HO.frz od (dB P w D (dbV kvs)) = u := ⟨_, rfl⟩
      have eL : Ex (upd H2 D u) (upd H3 D u) := fun b ob z => by
        by_cases e : b = D
        · rw [e, upd_same] at z ⊢; exact z
        · rw [upd_ne e] at z ⊢; exact e3 b ob z
      have nDA : ∀ x ∈ o :: A, x ≠ D := fun x hx e => by have := f2 x hx; rw [e, KI.d] at this; cases this
      have BLk : BL T.C_Blocks (upd H3 D u) o dx A [List.range acc.length, List.range acc.length, List.replicate acc.length 0, [0], [acc.length], [0], []] :=
        ⟨by rw [upd_ne (nDA o List.mem_cons_self)]; exact B.ob, B.nd, B.l, fun i a l h1 h2 => by rw [upd_ne (nDA a (List.mem_cons_of_mem _ (List.mem_of_getElem? h1)))]; exact B.at' i a l h1 h2⟩
      rw [hu]
      generalize upd H3 D u = HL at eL BLk
      walk_at "rc"
      refine rd_keysB ?_
      walk_at "rc"
      have hLD : ∀ {H' : Hp}, Ex (upd H2 D u) H' → H' D = some u := fun e => e _ _ upd_same
      refine ⟨D, od, dbV kvs, rfl, by rw [hLD eL, hu], ?_⟩
      have fL : ∀ x ∈ o :: A, upd H2 D u x = none := fun x hx => by rw [upd_ne (nDA x hx)]; exact f2 x hx
      refine fo_it walk_keysB (fun j σ H' => ∃ (A : List Addr) (mem pla blo sta en mar : List Nat) (k2 k3 : Option V), σ = [some (.ref va), some (.ref D), k2, k3, some (.ref o)] ∧ Ex (upd H2 D u) H' ∧ A.length = 7 ∧ (∀ x ∈ o :: A, upd H2 D u x = none) ∧ BL T.C_Blocks H' o dx A [mem, pla, blo, sta, en, mar, []] ∧ LayB acc.length mem pla blo sta en mar [] ∧
        ∀ s t, s < acc.length → t < acc.length → (blo.getD s 0 = blo.getD t 0 ↔ ∀ p ∈ kvs.take j, (acc.getD s false = p.1 ↔ acc.getD t false = p.1)))
        ⟨A, _, _, _, _, _, _, _, _, rfl, eL, hA, fL, BLk, LayB.init n0, fun s t _ _ => ⟨fun _ p hp => (by rw [List.take_zero] at hp; cases hp), fun _ => by rw [gp0, gp0]⟩⟩ (fun j σ H' _ z => ?_) ?_ ?_
      · obtain ⟨_, _, _, _, _, _, _, _, _, _, z, _⟩ := z
        rw [hLD z, hu]
      · clear BLk eL hA fL nDA B fA kA f2 hd3 e3
        rintro j x σ H4 H5 hj ⟨A, mem, pla, blo, sta, en, mar, k2, k3, rfl, eL, hA, fL, B, L, hb⟩ ⟨rfl, k, v, hkv, rfl⟩
        obtain ⟨⟨k', a⟩, hp, ekv⟩ : ∃ p, kvs[j]? = some p ∧ (p.1, V.ref p.2) = (k, v) := by
          rw [dbV, List.getElem?_map] at hkv
          exact Option.map_eq_some_iff.mp hkv
        cases ekv
        have ha := KI.st _ (List.mem_of_getElem? hp)
        have haD : a ≠ D := fun z => by
          rw [show ((k', a) : Bool × Addr).2 = a from rfl, z, KI.d] at ha; cases ha
        have hN : ∀ {H' : Hp}, Ex (upd H2 D u) H' → H' a = some (.lst ((stK acc acc.length k').map vI)) := fun e => e _ _ (by rw [upd_ne haD]; exact ha)
        walk_at "rc"
        walk_at "rs"
        walk_at "rc"
        refine rd_anyL' ?_
        walk_at "rc"
        refine ⟨D, _, k', _, rfl, .inr ⟨od, by rw [hLD eL, hu]⟩, rfl, (valV_db KI.nk).mpr ⟨a, List.mem_of_getElem? hp, rfl⟩, a, rfl, ⟨_, SqL.of (hN eL)⟩, ?_⟩
        refine fo_list (xs := (stK acc acc.length k').map vI) (fun i σ H' => ∃ (mem pla mar tou : List Nat) (k2 : Option V), σ = [some (.ref va), some (.ref D), k2, some (.bl k'), some (.ref o)] ∧ Ex (upd H2 D u) H' ∧ BL T.C_Blocks H' o dx A [mem, pla, blo, sta, en, mar, tou] ∧ LayB acc.length mem pla blo sta en mar tou ∧
          ∀ t, t < acc.length → (Mkd pla blo sta mar t ↔ t ∈ (stK acc acc.length k').take i))
          ⟨mem, pla, mar, [], _, rfl, eL, B, L, fun t ht => ⟨fun z => absurd z (L.nomk ht), fun z => by rw [List.take_zero] at z; cases z⟩⟩ (fun i σ H' _ z => ?_) ?_ ?_
        · obtain ⟨_, _, _, _, _, _, z, _⟩ := z
          exact SqL.of (hN z)
        · rintro i x σ H6 hi ⟨mem, pla, mar, tou, k2, rfl, eL, B, L, hm⟩
          rw [List.getElem?_map] at hi
          obtain ⟨s1, hs1, rfl⟩ := Option.map_eq_some_iff.mp hi
          have hs := (stK_mem.mp (List.mem_of_getElem? hs1)).1
          walk_at "rc"
          refine ⟨o, dx, _, rfl, B.ob, (bk_mark hA).1, ?_⟩
          walk_at "rc"
          refine mark_sp T L hn hA B hs (fun z => ?_) fun H7 mem' pla' mar' tou' B' L' hm' k' => ?_
          · obtain ⟨i', hi'⟩ := List.getElem?_of_mem ((hm s1 hs).mp z)
            have hlt := ltQ hi'
            rw [List.length_take] at hlt
            rw [List.getElem?_take_of_lt (by omega)] at hi'
            have := (List.getElem?_inj (ltQ hi') (stK_nd acc acc.length _)).mp (hi'.trans hs1.symm)
            omega
          · refine ⟨mem', pla', mar', tou', _, rfl, fun b ob z => k' b ob (fun y => by rw [fL b (List.mem_cons_of_mem _ y)] at z; cases z) (eL b ob z), B', L', fun t ht => ?_⟩
            rw [hm' t ht, hm t ht, List.take_succ, hs1, List.mem_append]
            simp
        · rintro σ H6 ⟨mem, pla, mar, tou, k2, rfl, eL, B, L, hm⟩
          rw [List.length_map, List.take_length] at hm
          walk_at "rc"
          refine ⟨o, dx, _, rfl, B.ob, (bk_mark hA).2.1, ?_⟩
          walk_at "rc"
          refine cut_sp T L hn hA B fun p A' blo' sta' en' mar' made H7 hA' fA' B' L' C _ _ kA' hp0 _ _ => ?_
          have hHN : ∀ {x}, H6 x = none → upd H2 D u x = none := fun {x} z => by
            cases y : upd H2 D u x with
            | none => rfl
            | some ob => rw [eL x ob y] at z; cases z
          refine ⟨A', mem, pla, blo', sta', en', mar', _, _, rfl, fun b ob z => kA' b ob (fun y => by rw [fL b y] at z; cases z) (eL b ob z), hA', fun x hx => ?_, B', L', fun s t hs ht => ?_⟩
          · rcases List.mem_cons.mp hx with z | z
            · rw [z]; exact fL o List.mem_cons_self
            · rcases fA' x z with y | y
              · exact fL x (List.mem_cons_of_mem _ y)
              · exact hHN y
          · rw [C.eq s t hs ht, hb s t hs ht, hm s hs, hm t ht, stK_mem, stK_mem, List.take_succ, hp]
            refine ⟨fun ⟨z1, z2⟩ p hp' => ?_, fun z => ⟨fun p hp' => z p (List.mem_append.mpr (.inl hp')), ?_⟩⟩
            · rcases List.mem_append.mp hp' with y | y
              · exact z1 p y
              · rw [List.mem_singleton.mp y]
                exact ⟨fun w => (z2.mp ⟨hs, w⟩).2, fun w => (z2.mpr ⟨ht, w⟩).2⟩
            · have := z _ (List.mem_append.mpr (.inr List.mem_cons_self))
              exact ⟨fun w => ⟨ht, this.mp w.2⟩, fun w => ⟨hs, this.mpr w.2⟩⟩
      · rintro σ H4 ⟨A, mem, pla, blo, sta, en, mar, k2, k3, rfl, eL, hA, fL, B, L, hb⟩
        have hl : (dbV kvs).length = kvs.length := List.length_map _
        rw [hl, List.take_length] at hb
        refine ⟨hLD eL, ?_⟩
        walk_at "rc"
        have nDA' : ∀ x ∈ o :: A, x ≠ D := fun x hx e => by have := fL x hx; rw [e, upd_same] at this; cases this
        have fH : ∀ x ∈ o :: A, H x = none := fun x hx => by
          have := fL x hx
          rw [upd_ne (nDA' x hx)] at this
          cases y : H x with
          | none => rfl
          | some ob => rw [KI.e x ob y] at this; cases this
        refine q o dx A mem pla blo sta en mar _ (fun b ob z => ?_) hA fH ⟨by rw [upd_ne (nDA' o List.mem_cons_self)]; exact B.ob, B.nd, B.l, fun i a l h1 h2 => by rw [upd_ne (nDA' a (List.mem_cons_of_mem _ (List.mem_of_getElem? h1)))]; exact B.at' i a l h1 h2⟩ L fun s t hs ht => ?_
        · have bD : b ≠ D := ne_of_none z KI.hd
          rw [upd_ne bD]
          exact eL b ob (by rw [upd_ne bD]; exact KI.e b ob z)
        · rw [hb s t hs ht]
          refine ⟨fun z => ?_, fun z p _ => by rw [z]⟩
          obtain ⟨p, hp, e⟩ := List.mem_map.mp (KI.al s hs)
          have := (z p hp).mp e.symm
          rw [this, ← e]
end
section
theorem BL.upd {C o dx : Addr} {H : Hp} {A : List Addr} {L : List (List Nat)} {q : Addr} {ob : HO} (h : BL C H o dx A L) (n : q ∉ o :: A) : BL C (L2.upd H q ob) o dx A L :=
  ⟨by rw [upd_ne fun z => n (by rw [← z]; exact List.mem_cons_self)]; exact h.ob, h.nd, h.l, fun i a l h1 h2 => by rw [upd_ne fun z => n (by rw [← z]; exact List.mem_cons_of_mem _ (List.mem_of_getElem? h1))]; exact h.at' i a l h1 h2⟩
theorem LayB.memND {n : Nat} {mem pla blo sta en mar tou : List Nat} (h : LayB n mem pla blo sta en mar tou) : mem.Nodup := by
  refine List.pairwise_iff_getElem.mpr fun i j hi hj hij e => ?_
  have a := (h.mp i (by rw [← h.lm]; exact hi)).2
  have b := (h.mp j (by rw [← h.lm]; exact hj)).2
  rw [List.getD_eq_getElem?_getD, List.getD_eq_getElem?_getD, List.getElem?_eq_getElem hi] at a
  rw [List.getD_eq_getElem?_getD, List.getD_eq_getElem?_getD, List.getElem?_eq_getElem hj] at b
  simp only [Option.getD_some] at a b
  rw [e, b] at a
  omega
theorem LayB.blk {n : Nat} {mem pla blo sta en mar tou : List Nat} (h : LayB n mem pla blo sta en mar tou) {b : Nat} (hb : b < sta.length) : (cutL mem (sta.getD b 0) (en.getD b 0)).Nodup ∧ ∀ s, s ∈ cutL mem (sta.getD b 0) (en.getD b 0) ↔ s < n ∧ blo.getD s 0 = b := by
  obtain ⟨c1, c2, c3⟩ := h.bn b hb
  refine ⟨List.Nodup.sublist ((List.take_sublist _ _).trans (List.drop_sublist _ _)) h.memND, fun s => ?_⟩
  constructor
  · intro z
    have hs : s < n := by
      have : s ∈ mem := List.mem_of_mem_drop (List.mem_of_mem_take z)
      obtain ⟨i, hi⟩ := List.getElem?_of_mem this
      have := (h.mp i (by rw [← h.lm]; exact ltQ hi)).1
      rw [List.getD_eq_getElem?_getD, hi] at this
      exact this
    have y := (h.inCut c2 hs).mp z
    have u := h.un b _ hb y.1 y.2
    rw [(h.pm s hs).2] at u
    exact ⟨hs, u⟩
  · rintro ⟨hs, e⟩
    have := (h.bl s hs).2
    rw [e] at this
    exact (h.inCut c2 hs).mpr this
theorem Cut.to {n : Nat} {M M' : Nat → Prop} {f g : Nat → Nat} {made : List Nat} (h : Cut n M f g made) (e : ∀ s, s < n → (M s ↔ M' s)) : Cut n M' f g made :=
  ⟨fun s t hs ht => by rw [h.eq s t hs ht, e s hs, e t ht], h.nw⟩
theorem HP.to {n w a : Nat} {acc : List Bool} {tab : List (List Nat)} {G : Nat → Prop} {f : Nat → Nat} {W : List Nat} (h : HP n w acc tab G a f W) : HP n w acc tab G a f W := h
/-- numbers in the order in which blocks are met -/
def kvN (ks : List Nat) : List (L2.Key × V) := ks.zipIdx.map fun p => (.inl ((p.1 : Nat) : Int), .int ((p.2 : Nat) : Int))
theorem kvN_len (ks : List Nat) : (kvN ks).length = ks.length := by rw [kvN, List.length_map, List.length_zipIdx]
theorem kvN_app (ks : List Nat) (b : Nat) : kvN (ks ++ [b]) = kvN ks ++ [(.inl ((b : Nat) : Int), .int ((ks.length : Nat) : Int))] := by
  unfold kvN
  rw [List.zipIdx_append, List.map_append]
  simp
theorem valV_app {κ : Type} [DecidableEq κ] (l : List (κ × V)) (k j : κ) (v : V) : valV (l ++ [(k, v)]) j = (valV l j).or (if k = j then some v else none) := by
  induction l with
  | nil =>
    by_cases e : k = j
    · rw [if_pos e]; exact valV_pos (p := (k, v)) e
    · rw [if_neg e]; exact valV_neg (p := (k, v)) e
  | cons p r ih =>
    rw [List.cons_append]
    by_cases e : p.1 = j
    · rw [valV_pos e, valV_pos e]; rfl
    · rw [valV_neg e, valV_neg e, ih]
theorem kvN_val (ks : List Nat) (b : Nat) : valV (kvN ks) (.inl ((b : Nat) : Int)) = if b ∈ ks then some (.int ((ks.idxOf b : Nat) : Int)) else none := by
  have key : ∀ (l : List Nat) , valV (kvN l.reverse) (.inl ((b : Nat) : Int)) = if b ∈ l.reverse then some (.int ((l.reverse.idxOf b : Nat) : Int)) else none := by
    intro l
    induction l with
    | nil => rfl
    | cons x r ih =>
      rw [List.reverse_cons, kvN_app, valV_app, ih]
      by_cases hb : b ∈ r.reverse
      · rw [if_pos hb, if_pos (List.mem_append.mpr (.inl hb)), List.idxOf_append, if_pos hb]; rfl
      · rw [if_neg hb, List.idxOf_append, if_neg hb]
        by_cases e : x = b
        · subst e
          rw [if_pos rfl, if_pos (by simp)]
          simp
        · rw [if_neg (show ¬ (Sum.inl ((x : Nat) : Int) : L2.Key) = Sum.inl ((b : Nat) : Int) from fun z => e (by have := Sum.inl.inj z; omega)), if_neg (fun z => (List.mem_append.mp z).elim hb fun y => e (List.mem_singleton.mp y).symm)]; rfl
  have := key ks.reverse
  rw [List.reverse_reverse] at this
  exact this
structure NumI (blo : List Nat) (i : Nat) (ks : List Nat) : Prop where
  nd : ks.Nodup
  al : ∀ s, s < i → blo.getD s 0 ∈ ks
  fs : ∀ c, c < ks.length → ∃ s, s < i ∧ blo.getD s 0 = ks.getD c 0
  nw : ∀ s, s < i → ∀ c, c < ks.idxOf (blo.getD s 0) → ∃ t, t < s ∧ blo.getD t 0 = ks.getD c 0
theorem NumI.old {blo : List Nat} {i : Nat} {ks : List Nat} (h : NumI blo i ks) (hb : blo.getD i 0 ∈ ks) : NumI blo (i + 1) ks := by
  refine ⟨h.nd, fun s hs => ?_, fun c hc => ?_, fun s hs c hc => ?_⟩
  · rcases Nat.lt_or_ge s i with z | z
    · exact h.al s z
    · obtain rfl : s = i := by omega
      exact hb
  · obtain ⟨s, h1, h2⟩ := h.fs c hc
    exact ⟨s, by omega, h2⟩
  · rcases Nat.lt_or_ge s i with z | z
    · exact h.nw s z c hc
    · obtain rfl : s = i := by omega
      exact h.fs c (Nat.lt_trans hc (List.idxOf_lt_length_iff.mpr hb))
theorem NumI.new {blo : List Nat} {i : Nat} {ks : List Nat} (h : NumI blo i ks) (hb : blo.getD i 0 ∉ ks) : NumI blo (i + 1) (ks ++ [blo.getD i 0]) := by
  have gl : ∀ c, c < ks.length → (ks ++ [blo.getD i 0]).getD c 0 = ks.getD c 0 := fun c hc => getD_app_l hc
  refine ⟨List.nodup_append.mpr ⟨h.nd, List.nodup_cons.mpr ⟨(fun z => nomatch z), List.nodup_nil⟩, fun x hx y hy e => hb (by rw [List.mem_singleton.mp hy] at e; rw [← e]; exact hx)⟩, fun s hs => ?_, fun c hc => ?_, fun s hs c hc => ?_⟩
  · rcases Nat.lt_or_ge s i with z | z
    · exact List.mem_append.mpr (.inl (h.al s z))
    · obtain rfl : s = i := by omega
      exact List.mem_append.mpr (.inr List.mem_cons_self)
  · rw [List.length_append, List.length_singleton] at hc
    rcases Nat.lt_or_ge c ks.length with z | z
    · obtain ⟨s, h1, h2⟩ := h.fs c z
      exact ⟨s, by omega, by rw [gl c z]; exact h2⟩
    · obtain rfl : c = ks.length := by omega
      exact ⟨i, by omega, getD_app_r.symm⟩
  · rcases Nat.lt_or_ge s i with z | z
    · rw [List.idxOf_append, if_pos (h.al s z)] at hc
      rw [gl c (Nat.lt_trans hc (List.idxOf_lt_length_iff.mpr (h.al s z)))]
      exact h.nw s z c hc
    · obtain rfl : s = i := by omega
      rw [List.idxOf_append, if_neg hb] at hc
      have hc : c < ks.length := by simpa using hc
      rw [gl c hc]
      exact h.fs c hc
theorem NumI.num {n : Nat} {blo ks : List Nat} {E : Nat → Nat → Prop} (hl : blo.length = n) (h : NumI blo n ks) (he : ∀ s t, s < n → t < n → (blo.getD s 0 = blo.getD t 0 ↔ E s t)) : Num n E (blo.map fun b => ks.idxOf b) := by
  have g : ∀ s, s < n → (blo.map fun b => ks.idxOf b).getD s 0 = ks.idxOf (blo.getD s 0) := fun s hs => map_at 0 (by rw [hl]; exact hs)
  have back : ∀ s, s < n → ks.getD (ks.idxOf (blo.getD s 0)) 0 = blo.getD s 0 := fun s hs => by
    have := List.idxOf_lt_length_iff.mpr (h.al s hs)
    rw [List.getD_eq_getElem?_getD, List.getElem?_eq_getElem this]
    exact List.getElem_idxOf this
  refine ⟨by rw [List.length_map, hl], fun i hi c hc => ?_, fun s t hs ht => ?_⟩
  · rw [g i hi] at hc
    obtain ⟨t, h1, h2⟩ := h.nw i hi c hc
    refine ⟨t, h1, ?_⟩
    have hlt : c < ks.length := Nat.lt_trans hc (List.idxOf_lt_length_iff.mpr (h.al i hi))
    rw [g t (by omega), h2, List.getD_eq_getElem?_getD, List.getElem?_eq_getElem hlt]
    exact h.nd.idxOf_getElem c hlt
  · rw [g s hs, g t ht, ← he s t hs ht]
    exact ⟨fun z => by rw [← back s hs, z, back t ht], fun z => by rw [z]⟩
variable (T : Txt K mg)
def spBlockN : Sp := fun vs H Q _ => ∃ (vk vs0 : V) (acc : List Bool) (tab : List (List Nat)) (w : Nat) (SR : List (List (List Nat))), vs = [vk, vs0] ∧ Dp K H vk (.tuple (acc.map PyData.bool)) ∧ Dp K H vs0 (.list (SR.map nL)) ∧ acc.length ≤ 1000 ∧ Tb acc.length w tab ∧ SR.length = w ∧ w ≤ 100 ∧
  (∀ j, j < w → (SR.getD j []).length = acc.length ∧ (∀ t s : Nat, s ∈ (SR.getD j []).getD t [] ↔ s < acc.length ∧ dl tab s j = t) ∧ ∀ t, ((SR.getD j []).getD t []).Nodup) ∧
  ∀ (p : Addr) (num : List Nat) (H' : Hp), Ex H H' → H' p = some (.lst (num.map vI)) → Num acc.length (Eqv w acc tab) num → Q (.ref p) H'
theorem ok_block_numbers : FnOk P w K mg base CX0 4 T.a_block_numbers T.d_block_numbers ["kinds", "sources"] (spBlockN (K := K)) := by
  refine T.f_block_numbers.ok sc_block_numbers (fun vs H Q E h => ?_) (fun cdv A outer s H vs Q E hr h => ?_)
  · obtain ⟨_, _, _, _, _, _, rfl, _⟩ := h; rfl
  · obtain ⟨vk, vs0, acc, tab, wd, SR, rfl, hk, hs, hn, hT, hSR, hwd, hsr, q⟩ := h
    have n0 := hT.p
    have sz : 1000000 ≤ sizeLine := by decide
    refine ⟨_, (pss_cons (ps_set (i := 2) sc_block_numbers.nd rfl (by first | exact Or.inl rfl | exact Or.inr rfl) (pe_callE (ok__blocks_of_kinds T) (hr.mono (by decide)) T.o__blocks_of_kinds (pa_cons (pv 0) pa_nil)))
  (pss_cons (ps_set (i := 3) sc_block_numbers.nd rfl (by first | exact Or.inl rfl | exact Or.inr rfl) (pe_listRg rfl (by rfl) T.nb_list (prg_1 (by rfl) T.nb_range (pe_callB (kLen K) (by rfl) T.nb_len (by decide +kernel) (pa_cons (kFld K rfl (pe_fld (pv 2) rfl)) pa_nil)))))
  (pss_cons (ps_while PassesOwn.never (pt_truth (pv 3) (by intro _; rfl))
    (pss_cons (ps_set (i := 4) sc_block_numbers.nd rfl (by first | exact Or.inl rfl | exact Or.inr rfl) (pe_meth (pv 2) T.cl_Blocks T.m_Blocks_states_in (ok_Blocks_states_in T) (hr.mono (by decide)) T.b_Blocks_states_in .nil pass0 (pa_cons (kBm0 K rfl (pe_bm0 PySem.F.plainAttrs_list PySem.F.slot_list_pop PySem.F.type_list_pop mt_pop (pv 3))) pa_nil)))
  (pss_one (ps_for PassesOwn.never rfl (kAny K rfl (pv 1)) (pg_name (i := 5) sc_block_numbers.nd rfl (by first | exact Or.inl rfl | exact Or.inr rfl))
    (pss_cons (ps_for PassesOwn.never rfl (kAny K rfl (pv 4)) (pg_name (i := 6) sc_block_numbers.nd rfl (by first | exact Or.inl rfl | exact Or.inr rfl))
    (pss_one (ps_for PassesOwn.never rfl (kAny K rfl (pe_ix (kIx K) (pv 5) (pv 6) (fun _ _ => rfl))) (pg_name (i := 7) sc_block_numbers.nd rfl (by first | exact Or.inl rfl | exact Or.inr rfl))
    (pss_one (ps_expr (pe_meth (pv 2) T.cl_Blocks T.m_Blocks_mark (ok_Blocks_mark T) (hr.mono (by decide)) T.b_Blocks_mark .nil pass0 (pa_cons (pv 7) pa_nil)))))))
  (pss_one (ps_expr (kBm K rfl (pe_bm PySem.F.plainAttrs_list PySem.F.slot_list_extend PySem.F.type_list_extend mt_extend (pv 3) (pa_cons (pe_meth0 (pv 2) T.cl_Blocks T.m_Blocks_cut (ok_Blocks_cut T) (hr.mono (by decide)) T.b_Blocks_cut .nil pass0) pa_nil))))))))))
  (pss_cons (ps_set (i := 8) sc_block_numbers.nd rfl (by first | exact Or.inl rfl | exact Or.inr rfl) pe_dnewK)
  (pss_one (ps_ret (pe_lc (own := [("block", 9)]) (g := gName 9) (tt := tYes) (by rfl) sc_block_numbers.nd (kAny K rfl (kFld K rfl (pe_fld (pv 2) rfl))) (blkOk_by (own := [("block", 9)]) (N := ["kinds", "sources", "blocks", "waiting", "goals", "sources_of", "goal", "source", "numbers", "block"]) (sc := defScope s_block_numbers) (by decide +kernel)) (fun _ _ _ _ _ => (pg_name (i := 9) sc_block_numbers.nd rfl (by first | exact Or.inl rfl | exact Or.inr rfl))) (fun _ _ _ _ _ => pts_nil) (fun _ _ _ _ _ => (pe_dsetd (pv 8) (pv 9) (pe_callB (kLen K) (by rfl) T.nb_len (by decide +kernel) (pa_cons (pv 8) pa_nil)) ⟨by rfl, by rfl, by rfl, by rfl⟩))))))))), ?_⟩
    walk_at "rc"
    refine ⟨vk, acc, rfl, hk, n0, hn, fun o dx A mem pla blo sta en mar H1 e1 hA fr B L0 hkn => ?_⟩
    have few := L0.few
    walk_at "rc"
    refine rd_lrgB ?_
    refine rd_rg1B ?_
    walk_at "rc"
    have hss : ∃ ss, A[3]? = some ss ∧ (bkF A).lookup (Str.ofString "starts") = some (.ref ss) := by
      match A, hA with
      | [ms, ps, bo, ss, es, ks, tc], _ => exact ⟨ss, rfl, rfl⟩
    obtain ⟨ss, hs3, hsl⟩ := hss
    refine ⟨o, _, dx, _, _, rfl, B.ob, T.cl_Blocks, T.na_Blocks_starts, hsl, ?_⟩
    walk_at "rc"
    refine rd_lenL (SqL.of (B.at' 3 ss sta hs3 rfl)) ?_
    rw [List.length_map]
    walk_at "rc"
    refine ⟨RgOk.of_le (by decide) (by omega) (by decide) (by omega), fun pw hpw => ?_⟩
    rw [rgV0B]
    have hpwH : H pw = none := by
      cases y : H pw with
      | none => rfl
      | some ob => rw [e1 pw ob y] at hpw; cases hpw
    have npw : pw ∉ o :: A := fun z => by
      rcases List.mem_cons.mp z with z | z
      · rw [z, B.ob] at hpw; cases hpw
      · obtain ⟨i, hi⟩ := List.getElem?_of_mem z
        obtain ⟨l, hl⟩ := getQ (l := [mem, pla, blo, sta, en, mar, []]) (i := i) (by rw [B.l]; exact ltQ hi)
        rw [B.at' i pw l hi hl] at hpw; cases hpw
    have B1 := B.upd (ob := .lst ((List.range sta.length).map vI)) npw
    have eA : Ex H (upd H1 pw (.lst ((List.range sta.length).map vI))) := Evl.Ex.mut e1 hpwH
    have hpw1 : upd H1 pw (.lst ((List.range sta.length).map vI)) pw = some (.lst ((List.range sta.length).map vI)) := upd_same
    generalize upd H1 pw (.lst ((List.range sta.length).map vI)) = H2 at B1 eA hpw1
    clear B e1 hpw hs3 hsl ss
    walk_at "rc"
    walk_at "rs"
    have HI0 : HI acc.length wd acc tab (fun s => blo.getD s 0) (List.range sta.length) := HI.start hkn (fun s hs => List.mem_range.mpr (L0.bl s hs).1) hT
    refine rd_wh (fun m σ H' => ∃ (A : List Addr) (mem pla blo sta en mar ws : List Nat) (k4 k5 k6 k7 k8 k9 : Option V), σ = [some vk, some vs0, some (.ref o), some (.ref pw), k4, k5, k6, k7, k8, k9] ∧ A.length = 7 ∧ (∀ x ∈ o :: A, H x = none) ∧ pw ∉ o :: A ∧ BL T.C_Blocks H' o dx A [mem, pla, blo, sta, en, mar, []] ∧ LayB acc.length mem pla blo sta en mar [] ∧ Ex H H' ∧ H' pw = some (.lst (ws.map vI)) ∧
      (∀ b ∈ ws, b < sta.length) ∧ HI acc.length wd acc tab (fun s => blo.getD s 0) ws ∧ m = acc.length - sta.length + ws.length ∧ m ≤ 2000) _ ⟨A, mem, pla, blo, sta, en, mar, List.range sta.length, none, none, none, none, none, none, rfl, hA, fr, npw, B1, L0, eA, hpw1, fun b hb => List.mem_range.mp hb, HI0, rfl, by rw [List.length_range]; omega⟩ ?_
    clear B1 L0 eA hpw1 HI0 npw few hA fr hkn
    rintro m σ H3 ⟨A, mem, pla, blo, sta, en, mar, ws, k4, k5, k6, k7, k8, k9, rfl, hA, fr, npw, B, L, e3, hw3, hwb, I0, rfl, mb⟩
    have few := L.few
    walk_at "rc"
    refine ⟨!(ws.map vI).isEmpty, .inl ⟨_, SqL.of hw3, rfl⟩, ?_⟩
    rcases List.eq_nil_or_concat ws with rfl | ⟨ws, b, rfl⟩
    · refine rd_iteF ?_
      walk_at "rc"
      intro pd hpd
      have hpdH : H pd = none := by
        cases y : H pd with
        | none => rfl
        | some ob => rw [e3 pd ob y] at hpd; cases hpd
      have npd : pd ∉ o :: A := fun z => by
        rcases List.mem_cons.mp z with z | z
        · rw [z, B.ob] at hpd; cases hpd
        · obtain ⟨i, hi⟩ := List.getElem?_of_mem z
          obtain ⟨l, hl⟩ := getQ (l := [mem, pla, blo, sta, en, mar, []]) (i := i) (by rw [B.l]; exact ltQ hi)
          rw [B.at' i pd l hi hl] at hpd; cases hpd
      have B4 := B.upd (ob := .dK (kvN [])) npd
      have e4 : Ex H (upd H3 pd (.dK (kvN []))) := Evl.Ex.mut e3 hpdH
      have hd4 : upd H3 pd (.dK (kvN [])) pd = some (.dK (kvN [])) := upd_same
      have eqn : upd H3 pd (.dK []) = upd H3 pd (.dK (kvN [])) := rfl
      rw [eqn]
      generalize upd H3 pd (.dK (kvN [])) = H4 at B4 e4 hd4
      have hbb : ∃ bo, A[2]? = some bo ∧ (bkF A).lookup (Str.ofString "block_of") = some (.ref bo) := by
        match A, hA with
        | [ms, ps, bo, ss, es, ks, tc], _ => exact ⟨bo, rfl, rfl⟩
      obtain ⟨bo, hbo, hbl⟩ := hbb
      have hB := B4.at' 2 bo blo hbo rfl
      walk_at "rc"
      refine rd_anyL' ?_
      walk_at "rc"
      refine ⟨o, _, dx, _, _, rfl, B4.ob, T.cl_Blocks, T.na_Blocks_block_of, hbl, ?_⟩
      refine ⟨bo, rfl, ⟨_, SqL.of hB⟩, ?_⟩
      have nbp : bo ≠ pd := fun z => npd (by rw [← z]; exact List.mem_cons_of_mem _ (List.mem_of_getElem? hbo))
      have lb := L.lb
      have wk : Walk (Itl K bo) blo.length (fun H => SqL K H bo (blo.map vI)) (YAt (blo.map vI)) := by
        have w := walk_list (K := K) (a := bo) (xs := blo.map vI)
        rw [List.length_map] at w
        exact w
      refine lc_gen (n := blo.length) (xs := fun i => .int ((blo.getD i 0 : Nat) : Int)) (fun L i vs Hc => ∃ ks : List Nat, Hc pd = some (.dK (kvN ks)) ∧ NumI blo i ks ∧ vs = ((blo.take i).map fun b => ks.idxOf b).map vI ∧ L ≠ pd ∧ ∀ x ob, x ≠ L → x ≠ pd → H4 x = some ob → Hc x = some ob) wk (fun i H x H' hi y => ⟨y.1, ?_⟩) (by omega)
        (fun Lp hL => ⟨[], by rw [upd_ne (ne_of_none hd4 hL)]; exact hd4, ⟨List.nodup_nil, fun s hs => absurd hs (Nat.not_lt_zero _), fun c hc => absurd hc (Nat.not_lt_zero _), fun s hs => absurd hs (Nat.not_lt_zero _)⟩, by rw [List.take_zero]; rfl, (ne_of_none hd4 hL).symm, fun x ob h1 _ h3 => by rw [upd_ne h1]; exact h3⟩)
        (fun Lp i vs Hc hL p => ?_) (fun Lp i vs Hc hi hL h1 h2 p N hN => ?_) fun Lp vs Hc hL h1 h2 p => ?_
      · have y2 : (blo.map vI)[i]? = some x := y.2
        rw [List.getElem?_map, at_getD hi] at y2
        exact (Option.some.inj y2).symm
      · obtain ⟨ks, _, _, _, _, st⟩ := p
        exact SqL.of (st bo _ (ne_of_none hB hL) nbp hB)
      · obtain ⟨ks, hd, I, ev, nLp, st⟩ := p
        have kl : ks.length ≤ 1000 := by
          have := nodup_leK ks (blo.take i) I.nd fun x hx => by
            obtain ⟨c, hc⟩ := List.getElem?_of_mem hx
            obtain ⟨s1, h3, h4⟩ := I.fs c (ltQ hc)
            rw [List.getD_eq_getElem?_getD (l := ks), hc] at h4
            have : x = blo.getD s1 0 := h4.symm
            rw [this]
            refine List.mem_of_getElem? (i := s1) ?_
            rw [List.getElem?_take_of_lt h3]
            exact at_getD (by omega)
          rw [List.length_take] at this
          omega
        walk_at "rc"
        refine ⟨pd, rfl, .inl ⟨_, .inl hd⟩, ?_⟩
        walk_at "rc"
        refine .inr ⟨pd, kvN ks, rfl, hd, ?_⟩
        rw [kvN_len]
        refine ⟨kvN ks, .inl ((blo.getD i 0 : Nat) : Int), hd, rfl, by rw [kvN_len]; omega, fun v hv => ?_, fun hv => ?_⟩
        · rw [kvN_val] at hv
          by_cases hb : blo.getD i 0 ∈ ks
          · rw [if_pos hb] at hv
            cases hv
            refine hN _ _ h1 ⟨ks, by rw [upd_ne (Ne.symm nLp)]; exact hd, I.old hb, ?_, nLp, fun x ob h3 h4 h5 => by rw [upd_ne h3]; exact st x ob h3 h4 h5⟩
            rw [List.take_succ, at_getD hi, List.map_append, List.map_append, ev]
            rfl
          · rw [if_neg hb] at hv; cases hv
        · rw [kvN_val] at hv
          have hb : blo.getD i 0 ∉ ks := fun hb => by rw [if_pos hb] at hv; cases hv
          have ep : putK (kvN ks) (.inl ((blo.getD i 0 : Nat) : Int)) (.int ((ks.length : Nat) : Int)) = kvN (ks ++ [blo.getD i 0]) := by
            rw [putK_new _ (by rw [kvN_val, if_neg hb]), kvN_app]
          rw [ep]
          refine hN _ _ (by rw [upd_ne nLp]; exact h1) ⟨ks ++ [blo.getD i 0], by rw [upd_ne (Ne.symm nLp), upd_same], I.new hb, ?_, nLp, fun x ob h3 h4 h5 => by rw [upd_ne h3, upd_ne h4]; exact st x ob h3 h4 h5⟩
          rw [List.take_succ, at_getD hi, List.map_append, List.map_append, ev]
          have e1 : (blo.take i).map (fun b => ks.idxOf b) = (blo.take i).map fun b => (ks ++ [blo.getD i 0]).idxOf b := List.map_congr_left fun x hx => by
            obtain ⟨j, hj⟩ := List.getElem?_of_mem hx
            have hlt := ltQ hj
            rw [List.length_take] at hlt
            rw [List.getElem?_take_of_lt (by omega), at_getD (by omega)] at hj
            rw [List.idxOf_append, if_pos (by rw [← Option.some.inj hj]; exact I.al j (by omega))]
          rw [e1]
          have e2 : (ks ++ [blo.getD i 0]).idxOf (blo.getD i 0) = ks.length := by
            rw [List.idxOf_append, if_neg hb]; simp
          show _ ++ [V.int ((ks.length : Nat) : Int)] = _ ++ [vI ((ks ++ [blo.getD i 0]).idxOf (blo.getD i 0))]
          rw [e2]
          rfl
      · obtain ⟨ks, hd, I, ev, nLp, st⟩ := p
        rw [List.take_length] at ev
        refine q Lp _ Hc (fun x ob z => ?_) (by rw [h1, ev]) (NumI.num lb (lb ▸ I) fun s t hs ht => I0.done hT hs ht)
        have z4 := e4 x ob z
        exact st x ob (ne_of_none z4 hL) (ne_of_none z hpdH) z4
    · have hb : (!((ws.concat b).map vI).isEmpty) = true := by simp
      rw [hb]
      refine rd_iteT ?_
      rw [List.concat_eq_append] at hw3 hwb I0
      rw [List.concat_eq_append, List.length_append, List.length_singleton]
      rw [List.concat_eq_append, List.length_append, List.length_singleton] at mb
      refine ⟨_, fun σ2 H2 z => z, ?_⟩
      have hbs := hwb b (by simp)
      obtain ⟨gnd, gmm⟩ := L.blk hbs
      obtain ⟨c1, c2, c3⟩ := L.bn b hbs
      walk_at "rc"
      refine ⟨o, dx, _, rfl, B.ob, (bk_mark hA).2.2, ?_⟩
      walk_at "rc"
      refine rd_bm0 ?_
      walk_at "rc"
      refine ⟨.inl ⟨rfl, _, SqL.of hw3⟩, ?_⟩
      refine ⟨pw, (ws ++ [b]).map vI, vI b, rfl, rfl, hw3, by simp, ?_⟩
      have edl : ((ws ++ [b]).map vI).dropLast = ws.map vI := by simp
      rw [edl]
      have B4 := B.upd (ob := .lst (ws.map vI)) npw
      have e4 : Ex H (upd H3 pw (.lst (ws.map vI))) := Evl.Ex.mut e3 hpwH
      have hw4 : upd H3 pw (.lst (ws.map vI)) pw = some (.lst (ws.map vI)) := upd_same
      generalize upd H3 pw (.lst (ws.map vI)) = H4 at B4 e4 hw4
      walk_at "rc"
      refine ⟨o, dx, A, mem, pla, blo, sta, en, mar, [], b, _, _, rfl, hA, B4, at_getD hbs, at_getD (by rw [L.le]; exact hbs), by omega, by rw [L.lm]; omega, by rw [L.lm]; omega, fun pg H5 hpg e45 hg5 => ?_⟩
      have e5 := e4.trans e45
      have hw5 := e45 _ _ hw4
      have B5 := B4.ex e45
      have hpgH : H pg = none := by
        cases y : H pg with
        | none => rfl
        | some ob => rw [e4 pg ob y] at hpg; cases hpg
      have npg : pg ∉ o :: A := fun z => by
        rcases List.mem_cons.mp z with z | z
        · rw [z, B4.ob] at hpg; cases hpg
        · obtain ⟨i, hi⟩ := List.getElem?_of_mem z
          obtain ⟨l, hl⟩ := getQ (l := [mem, pla, blo, sta, en, mar, []]) (i := i) (by rw [B.l]; exact ltQ hi)
          rw [B4.at' i pg l hi hl] at hpg; cases hpg
      have npgw : pg ≠ pw := fun z => by rw [z, hw4] at hpg; cases hpg
      obtain ⟨gl, hgl⟩ : ∃ gl, cutL mem (sta.getD b 0) (en.getD b 0) = gl := ⟨_, rfl⟩
      rw [hgl] at hg5 gnd gmm
      have P0 := I0.pop
      clear B B4 e4 hw4 e45 hpg hw3 I0 c1 c2 c3 hgl
      walk_at "rc"
      refine rd_anyL' ?_
      walk_at "rc"
      refine rd_itDL e5 hs fun J wJ => ?_
      refine fo_D wJ (fun j σ H' => ∃ (A : List Addr) (mem pla blo' sta' en mar ws' : List Nat) (k5 k6 k7 : Option V), σ = [some vk, some vs0, some (.ref o), some (.ref pw), some (.ref pg), k5, k6, k7, k8, k9] ∧ A.length = 7 ∧ (∀ x ∈ o :: A, H x = none) ∧ pw ∉ o :: A ∧ pg ∉ o :: A ∧ BL T.C_Blocks H' o dx A [mem, pla, blo', sta', en, mar, []] ∧ LayB acc.length mem pla blo' sta' en mar [] ∧ Ex H H' ∧
        H' pw = some (.lst (ws'.map vI)) ∧ H' pg = some (.lst (gl.map vI)) ∧ (∀ b ∈ ws', b < sta'.length) ∧ HP acc.length wd acc tab (fun s => blo.getD s 0 = b) j (fun s => blo'.getD s 0) ws' ∧ sta'.length + ws.length = sta.length + ws'.length)
        ⟨A, mem, pla, blo, sta, en, mar, ws, _, _, _, rfl, hA, fr, npw, npg, B5, L, e5, hw5, hg5, fun x hx => hwb x (by simp [hx]), P0, rfl⟩ (fun j σ H' _ z => ?_) ?_ ?_
      · obtain ⟨_, _, _, _, _, _, _, _, _, _, _, _, _, _, _, _, _, _, z, _⟩ := z
        exact z
      · clear B5 L e5 hw5 hg5 P0 npg npw fr hA
        rintro j d v σ H6 hd hv ⟨A, mem, pla, blo', sta', en, mar, ws', k5, k6, k7, rfl, hA, fr, npw, npg, B, L, e6, hw6, hg6, hwb', P1, hln⟩
        rw [List.getElem?_map] at hd
        obtain ⟨bk, hbk, rfl⟩ := Option.map_eq_some_iff.mp hd
        have hj : j < wd := by rw [← hSR]; exact ltQ hbk
        obtain ⟨sr1, sr2, sr3⟩ := hsr j hj
        rw [show SR.getD j [] = bk by rw [List.getD_eq_getElem?_getD, hbk]; rfl] at sr1 sr2 sr3
        have few' := L.few
        walk_at "rc"
        walk_at "rs"
        walk_at "rc"
        refine rd_anyL' ?_
        walk_at "rc"
        refine ⟨pg, rfl, ⟨_, SqL.of hg6⟩, ?_⟩
        refine fo_list (xs := gl.map vI) (fun i σ H' => ∃ (mem pla mar tou : List Nat) (k6 k7 : Option V), σ = [some vk, some vs0, some (.ref o), some (.ref pw), some (.ref pg), some v, k6, k7, k8, k9] ∧ BL T.C_Blocks H' o dx A [mem, pla, blo', sta', en, mar, tou] ∧ LayB acc.length mem pla blo' sta' en mar tou ∧ Ex H H' ∧
          H' pw = some (.lst (ws'.map vI)) ∧ H' pg = some (.lst (gl.map vI)) ∧ ∀ t, t < acc.length → (Mkd pla blo' sta' mar t ↔ dl tab t j ∈ gl.take i))
          ⟨mem, pla, mar, [], _, _, rfl, B, L, e6, hw6, hg6, fun t ht => ⟨fun z => absurd z (L.nomk ht), fun z => by rw [List.take_zero] at z; cases z⟩⟩ (fun i σ H' _ z => ?_) ?_ ?_
        · obtain ⟨_, _, _, _, _, _, _, _, _, _, _, z, _⟩ := z
          exact SqL.of z
        · clear B L e6 hw6 hg6
          rintro i x σ H7 hi ⟨mem, pla, mar, tou, k6, k7, rfl, B, L, e7, hw7, hg7, hm⟩
          rw [List.getElem?_map] at hi
          obtain ⟨g, hg, rfl⟩ := Option.map_eq_some_iff.mp hi
          have hgn := (gmm g).mp (List.mem_of_getElem? hg)
          obtain ⟨row, hrow⟩ := getQ (l := bk) (i := g) (by rw [sr1]; exact hgn.1)
          have grow : bk.getD g [] = row := by rw [List.getD_eq_getElem?_getD, hrow]; rfl
          have rmm := sr2 g
          have rnd := sr3 g
          rw [grow] at rmm rnd
          walk_at "rc"
          refine rd_anyL' ?_
          walk_at "rc"
          refine rd_ixDL e7 hv (d := .list (row.map nI)) (by rw [List.getElem?_map, hrow]; rfl) fun v2 hv2 => ?_
          refine rd_itDL e7 hv2 fun J2 wJ2 => ?_
          refine fo_D wJ2 (fun i2 σ H' => ∃ (mem pla mar tou : List Nat) (k7 : Option V), σ = [some vk, some vs0, some (.ref o), some (.ref pw), some (.ref pg), some v, some (.int (g : Int)), k7, k8, k9] ∧ BL T.C_Blocks H' o dx A [mem, pla, blo', sta', en, mar, tou] ∧ LayB acc.length mem pla blo' sta' en mar tou ∧ Ex H H' ∧
            H' pw = some (.lst (ws'.map vI)) ∧ H' pg = some (.lst (gl.map vI)) ∧ ∀ t, t < acc.length → (Mkd pla blo' sta' mar t ↔ dl tab t j ∈ gl.take i ∨ t ∈ row.take i2))
            ⟨mem, pla, mar, tou, _, rfl, B, L, e7, hw7, hg7, fun t ht => by rw [hm t ht, List.take_zero]; exact ⟨.inl, fun z => z.resolve_right fun y => nomatch y⟩⟩ (fun i2 σ H' _ z => ?_) ?_ ?_
          · obtain ⟨_, _, _, _, _, _, _, _, z, _⟩ := z
            exact z
          · clear B L e7 hw7 hg7 hm
            rintro i2 d2 v3 σ H8 hd2 hv3 ⟨mem, pla, mar, tou, k7, rfl, B, L, e8, hw8, hg8, hm⟩
            rw [List.getElem?_map] at hd2
            obtain ⟨s1, hs1, rfl⟩ := Option.map_eq_some_iff.mp hd2
            cases Dp.int_iff hv3
            have hs1' := (rmm s1).mp (List.mem_of_getElem? hs1)
            walk_at "rc"
            refine ⟨o, dx, _, rfl, B.ob, (bk_mark hA).1, ?_⟩
            walk_at "rc"
            refine mark_sp T L hn hA B hs1'.1 (fun z => ?_) fun H9 mem' pla' mar' tou' B' L' hm' k' => ?_
            · rcases (hm s1 hs1'.1).mp z with y | y
              · rw [hs1'.2] at y
                obtain ⟨i', hi'⟩ := List.getElem?_of_mem y
                have hlt := ltQ hi'
                rw [List.length_take] at hlt
                rw [List.getElem?_take_of_lt (by omega)] at hi'
                have := (List.getElem?_inj (ltQ hi') gnd).mp (hi'.trans hg.symm)
                omega
              · obtain ⟨i', hi'⟩ := List.getElem?_of_mem y
                have hlt := ltQ hi'
                rw [List.length_take] at hlt
                rw [List.getElem?_take_of_lt (by omega)] at hi'
                have := (List.getElem?_inj (ltQ hi') rnd).mp (hi'.trans hs1.symm)
                omega
            · refine ⟨mem', pla', mar', tou', _, rfl, B', L', fun x ob z => k' x ob (fun y => by rw [fr x (List.mem_cons_of_mem _ y)] at z; cases z) (e8 x ob z), k' _ _ (fun y => npw (List.mem_cons_of_mem _ y)) hw8, k' _ _ (fun y => npg (List.mem_cons_of_mem _ y)) hg8, fun t ht => ?_⟩
              rw [hm' t ht, hm t ht, List.take_succ, hs1, List.mem_append, or_assoc]
              simp
          · rintro σ H8 ⟨mem, pla, mar, tou, k7, rfl, B, L, e8, hw8, hg8, hm⟩
            rw [List.length_map, List.take_length] at hm
            refine ⟨mem, pla, mar, tou, _, _, rfl, B, L, e8, hw8, hg8, fun t ht => ?_⟩
            rw [hm t ht, rmm t, List.take_succ, hg, List.mem_append]
            refine or_congr_right ⟨fun z => by rw [z.2]; exact List.mem_cons_self, fun z => ⟨ht, List.mem_singleton.mp z⟩⟩
        · clear B L e6 hw6 hg6
          rintro σ H7 ⟨mem, pla, mar, tou, k6, k7, rfl, B, L, e7, hw7, hg7, hm⟩
          rw [List.length_map, List.take_length] at hm
          walk_at "rc"
          refine ⟨.inl ⟨rfl, _, SqL.of hw7⟩, ?_⟩
          walk_at "rc"
          refine ⟨o, dx, _, rfl, B.ob, (bk_mark hA).2.1, ?_⟩
          walk_at "rc"
          refine cut_sp T L hn hA B fun p A' blo2 sta2 en2 mar2 made H8 hA' fA' B' L' C ln2 md kA' hp0 np' hp' => ?_
          have few2 := L'.few
          have hw8 := kA' _ _ npw hw7
          have hg8 := kA' _ _ npg hg7
          have npw' : pw ∉ o :: A' := fun z => by
            rcases List.mem_cons.mp z with y | y
            · exact npw (by rw [y]; exact List.mem_cons_self)
            · rcases fA' _ y with x | x
              · exact npw (List.mem_cons_of_mem _ x)
              · rw [hw7] at x; cases x
          have npg' : pg ∉ o :: A' := fun z => by
            rcases List.mem_cons.mp z with y | y
            · exact npg (by rw [y]; exact List.mem_cons_self)
            · rcases fA' _ y with x | x
              · exact npg (List.mem_cons_of_mem _ x)
              · rw [hg7] at x; cases x
          have e8 : Ex H H8 := fun x ob z => kA' x ob (fun y => by rw [fr x y] at z; cases z) (e7 x ob z)
          refine ⟨pw, p, _, _, rfl, rfl, hw8, hp', by rw [List.length_map, List.length_map]; omega, ?_⟩
          rw [← List.map_append]
          refine ⟨A', mem, pla, blo2, sta2, en2, mar2, ws' ++ made, _, _, _, rfl, hA', fun x hx => ?_, npw', npg', B'.upd npw', L', Evl.Ex.mut e8 hpwH, upd_same, by rw [upd_ne npgw]; exact hg8, fun x hx => ?_, P1.next hT hj (C.to fun t ht => ?_), by rw [List.length_append]; omega⟩
          · rcases List.mem_cons.mp hx with y | y
            · rw [y]; exact fr o List.mem_cons_self
            · rcases fA' _ y with z | z
              · exact fr x (List.mem_cons_of_mem _ z)
              · cases w : H x with
                | none => rfl
                | some ob => rw [e7 x ob w] at z; cases z
          · rcases List.mem_append.mp hx with y | y
            · have := hwb' x y
              omega
            · exact md x y
          · rw [hm t ht, gmm]
            exact ⟨fun z => z.2, fun z => ⟨hT.b t j ht hj, z⟩⟩
      · rintro σ H6 ⟨A, mem, pla, blo', sta', en, mar, ws', k5, k6, k7, rfl, hA, fr, npw, npg, B, L, e6, hw6, hg6, hwb', P1, hln⟩
        have few' := L.few
        rw [List.length_map, hSR] at P1
        exact ⟨_, by omega, A, mem, pla, blo', sta', en, mar, ws', _, _, _, _, _, _, rfl, hA, fr, npw, B, L, e6, hw6, hwb', P1.last, rfl, by omega⟩
end
section
def Wrd (w : Nat) (tab : List (List Nat)) (n : Nat) : Prop := ∃ W : List (List Nat), W.length = n ∧ W.Pairwise (fun u v => cd w u < cd w v) ∧ ∀ i u, W[i]? = some u → Lw w u ∧ rn tab 0 u = i ∧ ∀ v, Lw w v → rn tab 0 v = i → cd w u ≤ cd w v
theorem nL_back (bk : List (List Nat)) : (match nL bk with | .list rs => rs.map fun r => (match r with | .list xs => xs.map (fun x => match x with | PyData.int i => i.toNat | _ => 0) | _ => []) | _ => ([] : List (List Nat))) = bk := by
  show (bk.map fun row => PyData.list (row.map nI)).map _ = bk
  rw [List.map_map]
  have : ∀ row : List Nat, (row.map nI).map (fun x => match x with | PyData.int i => i.toNat | _ => 0) = row := fun row => by
    rw [List.map_map]
    exact (List.map_congr_left fun x _ => rfl).trans (List.map_id row)
  exact (List.map_congr_left fun row _ => this row).trans (List.map_id bk)
def spMerged (T : Txt K mg) : Sp := fun vs H Q _ => ∃ (m : Addr) (ls : Str) (as : List Bool) (tab : List (List Nat)), vs = [.ref m] ∧ MachD K T.C_Machine H m ls as tab ∧ GMw ls as tab ∧ 0 < ls.length ∧ ls.length ≤ 100 ∧ as.length ≤ 1000 ∧ Tb as.length ls.length tab ∧ Wrd ls.length tab as.length ∧
  ∀ m' as' tab' H', Ex H H' → MachD K T.C_Machine H' m' ls as' tab' → GMw ls as' tab' → Cano ls.length as' tab' → as'.length ≤ as.length → (∀ u, Lw ls.length u → as'.getD (rn tab' 0 u) false = as.getD (rn tab 0 u) false) → Q (.ref m') H'
theorem ok__merged (T : Txt K mg) : FnOk P w K mg base CX0 7 T.a__merged T.d__merged ["machine"] (spMerged (K := K) T) := by
  refine T.f__merged.ok sc__merged (fun vs H Q E h => ?_) (fun cdv A outer s H vs Q E hr h => ?_)
  · obtain ⟨_, _, _, _, rfl, _⟩ := h; rfl
  · obtain ⟨m, ls, as, tab, rfl, hM, g, l0, l1, an, tb, ws, q⟩ := h
    obtain ⟨dx, ta, tt, hm, hA, hT⟩ := id hM
    have sz : 1000000 ≤ sizeLine := by decide
    refine ⟨_, (pss_cons (ps_setLc (i := 1) (own := [("index", 2)]) (g := gName 2) (tt := tYes) (by rfl) sc__merged.nd rfl rfl (sw_true rfl rfl rfl (by decide +kernel)) (pi_range1 (by rfl) T.nb_range (pa_cons (pe_callB (kLen K) (by rfl) T.nb_len (by decide +kernel) (pa_cons (kFld K rfl (pe_fld (pv 0) rfl)) pa_nil)) pa_nil)) (blkOk_by (own := [("index", 2)]) (N := ["machine", "sources", "index", "numbers", "firsts", "state", "after"]) (sc := defScope s__merged) (by decide +kernel)) (fun _ _ _ _ _ => (pg_name (i := 2) sc__merged.nd rfl (by first | exact Or.inl rfl | exact Or.inr rfl))) (fun _ _ _ _ _ => pts_nil) (fun _ _ _ _ _ => (pe_callE (ok_sources_by T) (hr.mono (by decide)) T.o_sources_by (pa_cons (pv 0) (pa_cons (pv 2) pa_nil)))))
  (pss_cons (ps_set (i := 3) sc__merged.nd rfl (by first | exact Or.inl rfl | exact Or.inr rfl) (pe_callE (ok_block_numbers T) (hr.mono (by decide)) T.o_block_numbers (pa_cons (kFld K rfl (pe_fld (pv 0) rfl)) (pa_cons (pv 1) pa_nil))))
  (pss_cons (ps_set (i := 4) sc__merged.nd rfl (by first | exact Or.inl rfl | exact Or.inr rfl) (pe_callE (ok_first_states T) (hr.mono (by decide)) T.o_first_states (pa_cons (pv 3) pa_nil)))
  (pss_one (ps_ret (pe_makeR T.mk_Machine (ok_Machine_init T) (hr.mono (by decide)) T.g_Machine T.b_Machine_init takes0 (pa_cons (kFld K rfl (pe_fld (pv 0) rfl)) (pa_cons (pe_lc (own := [("state", 5)]) (g := gName 5) (tt := tYes) (by rfl) sc__merged.nd (kAny K rfl (pv 4)) (blkOk_by (own := [("state", 5)]) (N := ["machine", "sources", "index", "numbers", "firsts", "state", "after"]) (sc := defScope s__merged) (by decide +kernel)) (fun _ _ _ _ _ => (pg_name (i := 5) sc__merged.nd rfl (by first | exact Or.inl rfl | exact Or.inr rfl))) (fun _ _ _ _ _ => pts_nil) (fun _ _ _ _ _ => (pe_ix (kIx K) (kFld K rfl (pe_fld (pv 0) rfl)) (pv 5) (fun _ _ => rfl)))) (pa_cons (pe_lc (own := [("state", 5)]) (g := gName 5) (tt := tYes) (by rfl) sc__merged.nd (kAny K rfl (pv 4)) (blkOk_by (own := [("state", 5)]) (N := ["machine", "sources", "index", "numbers", "firsts", "state", "after"]) (sc := defScope s__merged) (by decide +kernel)) (fun _ _ _ _ _ => (pg_name (i := 5) sc__merged.nd rfl (by first | exact Or.inl rfl | exact Or.inr rfl))) (fun _ _ _ _ _ => pts_nil) (fun _ _ _ _ _ => (pe_lc (own := [("after", 6)]) (g := gName 6) (tt := tYes) (by rfl) sc__merged.nd (kAny K rfl (pe_ix (kIx K) (kFld K rfl (pe_fld (pv 0) rfl)) (pv 5) (fun _ _ => rfl))) (by exact blkOk_in (N := ["machine", "sources", "index", "numbers", "firsts", "state", "after"]) rfl (by decide +kernel)) (fun _ _ _ _ _ => (pg_name (i := 6) sc__merged.nd rfl (by first | exact Or.inl rfl | exact Or.inr rfl))) (fun _ _ _ _ _ => pts_nil) (fun _ _ _ _ _ => (pe_ix (kIx K) (pv 3) (pv 6) (fun _ _ => rfl)))))) pa_nil))))))))), ?_⟩
    walk_at "rc"
    refine ⟨m, _, dx, _, _, rfl, hm, T.cl_Machine, T.na_Machine_letters, rfl, ?_⟩
    walk_at "rc"
    refine rd_lenS (z := ls) (by omega) ?_
    walk_at "rc"
    refine ⟨(ls.length : Int), rfl, by omega, by omega, ?_⟩
    rw [Int.toNat_natCast]
    refine lc_R (K := K) (S := []) (P := fun i x => x = V.int (i : Nat)) tr_ex (fun b hb => nomatch hb) walk_range0 rng_Y (by omega) (fun _ _ => True.intro) (fun j d => ∃ bk : List (List Nat), d = nL bk ∧ bk.length = as.length ∧ (∀ t s : Nat, s ∈ bk.getD t [] ↔ s < as.length ∧ dl tab s j = t) ∧ ∀ t, (bk.getD t []).Nodup) (hg_name fun v => rfl) (fun L j σ2 Hc hj p2 hL nL' e1 hs1 up N hN => ?_) fun L us H1 ds e1 hL nL' hL1 hds hdl hR => ?_
    · obtain ⟨v, rfl, rfl⟩ := p2
      walk_at "rc"
      refine ⟨m, ls, as, tab, j, rfl, hM.ex e1, g, hj, fun f bk H2 e2 hb hl hmm hnd => ?_⟩
      refine hN (.ref f) (nL bk) H2 e2 (hb [L] hs1) ⟨bk, rfl, by rw [hl, tb.l], fun t s => by rw [hmm, tb.l], hnd⟩
    · obtain ⟨SR, hSR, rfl⟩ : ∃ SR : List (List (List Nat)), (∀ j bk, SR[j]? = some bk → bk.length = as.length ∧ (∀ t s : Nat, s ∈ bk.getD t [] ↔ s < as.length ∧ dl tab s j = t) ∧ ∀ t, (bk.getD t []).Nodup) ∧ ds = SR.map nL := by
        refine ⟨ds.map fun d => match d with | .list rs => rs.map fun r => (match r with | .list xs => xs.map (fun x => match x with | .int i => i.toNat | _ => 0) | _ => []) | _ => [], fun j bk hj => ?_, ?_⟩
        · rw [List.getElem?_map] at hj
          obtain ⟨d, hd, rfl⟩ := Option.map_eq_some_iff.mp hj
          obtain ⟨bk, rfl, h1, h2, h3⟩ := hR j d hd
          have e : (match nL bk with | .list rs => rs.map fun r => (match r with | .list xs => xs.map (fun x => match x with | PyData.int i => i.toNat | _ => 0) | _ => []) | _ => ([] : List (List Nat))) = bk := nL_back bk
          rw [e]
          exact ⟨h1, h2, h3⟩
        · rw [List.map_map]
          refine List.ext_getElem (by simp) fun i h1 h2 => ?_
          obtain ⟨bk, e, _⟩ := hR i ds[i] (List.getElem?_eq_getElem h1)
          rw [List.getElem_map, e]
          show nL bk = nL (match nL bk with | .list rs => rs.map fun r => (match r with | .list xs => xs.map (fun x => match x with | PyData.int i => i.toNat | _ => 0) | _ => []) | _ => ([] : List (List Nat)))
          rw [show (match nL bk with | .list rs => rs.map fun r => (match r with | .list xs => xs.map (fun x => match x with | PyData.int i => i.toNat | _ => 0) | _ => []) | _ => ([] : List (List Nat))) = bk from nL_back bk]
      have hD : Dp K H1 (.ref L) (.list (SR.map nL)) := (Dp.frz hL1 nL' hds).ex hid_ex
      rw [List.length_map] at hdl
      walk_at "rc"
      refine ⟨m, _, dx, _, _, rfl, e1 _ _ hm, T.cl_Machine, T.na_Machine_accepting, rfl, ?_⟩
      walk_at "rc"
      refine ⟨.ref ta, .ref L, as, tab, ls.length, SR, rfl, hA.ex e1, hD, an, tb, hdl, by omega, fun j hj => ?_, fun pn num H2 e2 hnum Nm => ?_⟩
      · obtain ⟨bk, hbk⟩ := getQ (l := SR) (i := j) (by rw [hdl]; exact hj)
        rw [show SR.getD j [] = bk by rw [List.getD_eq_getElem?_getD, hbk]; rfl]
        exact hSR j bk hbk
      walk_at "rc"
      refine ⟨pn, num, as.length, rfl, hnum, Nm.l, by omega, Nm.nw, fun p f H3 e3 hf F => ?_⟩
      have e03 : Ex H H3 := (e1.trans e2).trans e3
      have fn : f.length ≤ as.length := by
        have := nodup_leK f (List.range as.length) (F.up.imp fun h => Nat.ne_of_lt h) fun x hx => by
          obtain ⟨k, hk⟩ := List.getElem?_of_mem hx
          have := (F.lt k (ltQ hk)).1
          rw [List.getD_eq_getElem?_getD, hk] at this
          exact List.mem_range.mpr this
        rw [List.length_range] at this
        exact this
      have wk : Walk (Itl K p) f.length (fun H => SqL K H p (f.map vI)) (YAt (f.map vI)) := by
        have w := walk_list (K := K) (a := p) (xs := f.map vI)
        rw [List.length_map] at w
        exact w
      have fY : ∀ (i : Nat) (H : Hp) (x : V) (H' : Hp), i < f.length → YAt (f.map vI) i H x H' → H' = H ∧ x = V.int ((f.getD i 0 : Nat) : Int) := fun i H x H' hi y => ⟨y.1, by
        have y2 : (f.map vI)[i]? = some x := y.2
        rw [List.getElem?_map, at_getD hi] at y2
        exact (Option.some.inj y2).symm⟩
      have row : ∀ s, s < as.length → ∃ ro, tab[s]? = some ro ∧ tab.getD s [] = ro ∧ ro.length = ls.length ∧ ∀ x ∈ ro, x < as.length := fun s hs => by
        obtain ⟨ro, hro⟩ := getQ (l := tab) (i := s) (by rw [tb.l]; exact hs)
        refine ⟨ro, hro, by rw [List.getD_eq_getElem?_getD, hro]; rfl, tb.w ro (List.mem_of_getElem? hro), fun x hx => ?_⟩
        have := g.m.g.b ro (List.mem_of_getElem? hro) x hx
        rw [tb.l] at this
        exact this
      walk_at "rc"
      refine ⟨m, _, dx, _, _, rfl, e03 _ _ hm, T.cl_Machine, T.na_Machine_letters, rfl, ?_⟩
      walk_at "rc"
      refine rd_anyL' ?_
      walk_at "rc"
      refine ⟨p, rfl, ⟨_, SqL.of hf⟩, ?_⟩
      refine lc_F (K := K) (S := []) (P := fun i x => x = V.int ((f.getD i 0 : Nat) : Int)) tr_ex (fun b hb => nomatch hb) wk fY (by omega) (fun Hc e => SqL.of (e _ _ hf)) (fun _ => true) (fun i => .bool (as.getD (f.getD i 0) false)) (hg_name fun v => rfl) (fun L i σ2 Hc hi p2 hL nL t1 hs1 up N hN => rd_yes (hN Hc (Evl.Ex.refl Hc))) (fun L i σ2 Hc hi p2 _ hL nL t1 hs1 up N hN => ?_) fun La us H4 e4 hLa nLa hua hda => ?_
      · obtain ⟨v, rfl, rfl⟩ := p2
        walk_at "rc"
        refine ⟨m, _, dx, _, _, rfl, t1 _ _ (e03 _ _ hm), T.cl_Machine, T.na_Machine_accepting, rfl, ?_⟩
        walk_at "rc"
        refine rd_flag (Evl.Ex.refl Hc) (hA.ex (e03.trans t1)) (F.lt i hi).1 (hN _ _ (Evl.Ex.refl Hc) (.bl _))
      have ea : ((List.range f.length).filter fun _ => true).map (fun i => PyData.bool (as.getD (f.getD i 0) false)) = (mgA as f).map PyData.bool := by
        rw [List.filter_eq_self.mpr fun _ _ => rfl, mgA, List.map_map]
        exact map_getE f 0 fun s => PyData.bool (as.getD s false)
      rw [ea] at hda
      have dA := (Dp.frz (K := K) hua nLa hda).ex hid_ex
      have e04 := e03.trans e4
      walk_at "rc"
      refine rd_anyL' ?_
      walk_at "rc"
      refine ⟨p, rfl, ⟨_, SqL.of (e4 _ _ hf)⟩, ?_⟩
      refine lc_F (K := K) (S := []) (P := fun i x => x = V.int ((f.getD i 0 : Nat) : Int)) tr_ex (fun b hb => nomatch hb) wk fY (by omega) (fun Hc e => SqL.of (e _ _ (e4 _ _ hf))) (fun _ => true) (fun i => .list (((tab.getD (f.getD i 0) []).map fun t => num.getD t 0).map nI)) (hg_name fun v => rfl) (fun L i σ2 Hc hi p2 hL nL t1 hs1 up N hN => rd_yes (hN Hc (Evl.Ex.refl Hc))) (fun L i σ2 Hc hi p2 _ hL nL t1 hs1 up N hN => ?_) fun Lt us H5 e5 hLt nLt hut hdt => ?_
      · obtain ⟨v, rfl, rfl⟩ := p2
        obtain ⟨ro, hro, ero, hrl, hrb⟩ := row _ (F.lt i hi).1
        rw [ero] at hN
        walk_at "rc"
        refine rd_anyT' ?_
        walk_at "rc"
        refine ⟨m, _, dx, _, _, rfl, t1 _ _ (e04 _ _ hm), T.cl_Machine, T.na_Machine_table, rfl, ?_⟩
        walk_at "rc"
        refine rd_ixDT (e04.trans t1) hT (d := .tuple (ro.map nI)) (by rw [List.getElem?_map, hro]; rfl) fun v2 hv2 => ?_
        refine rd_itDT (e04.trans t1) hv2 fun J wJ => ?_
        have hLH : H L = none := by
          cases y : H L with
          | none => rfl
          | some ob => rw [e04 L ob y] at hL; cases hL
        refine lc_MD (K := K) (S := [L]) tr_ex hs1 wJ (ex_up1 (e04.trans t1) hLH) (by rw [List.length_map]; omega) (fun v => rfl) (fun d => match d with | .int i => nI (num.getD i.toNat 0) | _ => .none) (fun L2 d v Hc2 hd hv hL2 nL2 e2' hs2 up2 N2 hN2 => ?_) fun L2 us2 H6 e6 hL2 nL2 hu2 hd2 => ?_
        · obtain ⟨t, ht, rfl⟩ := List.mem_map.mp hd
          cases Dp.int_iff hv
          walk_at "rc"
          refine rd_ixL (SqL.of (e2' _ _ (t1 _ _ (e4 _ _ (e3 _ _ hnum))))) (atI_nat (vI_at (at_getD (by rw [Nm.l]; exact hrb t ht)))) ?_
          exact hN2 _ _ (Evl.Ex.refl _) (.int _)
        · refine hN _ _ e6 ?_
          have ed : (ro.map nI).map (fun d => match d with | .int i => nI (num.getD i.toNat 0) | _ => PyData.none) = (ro.map fun t => num.getD t 0).map nI := by
            rw [List.map_map, List.map_map]
            exact List.map_congr_left fun t _ => rfl
          rw [ed] at hd2
          exact Dp.frz hu2 nL2 hd2
      · have et : ((List.range f.length).filter fun _ => true).map (fun i => PyData.list (((tab.getD (f.getD i 0) []).map fun t => num.getD t 0).map nI)) = (mgT tab num f).map fun row => PyData.list (row.map nI) := by
          rw [List.filter_eq_self.mpr fun _ _ => rfl, mgT, List.map_map]
          exact map_getE f 0 fun s => PyData.list (((tab.getD s []).map fun t => num.getD t 0).map nI)
        rw [et] at hdt
        have dT : Dp K H5 (.ref Lt) (nL (mgT tab num f)) := (Dp.frz (K := K) hut nLt hdt).ex hid_ex
        obtain ⟨W, w1, w2, w3⟩ := ws
        obtain ⟨C, eqv⟩ := merged rfl tb Nm F w1 w2 w3
        have la : (mgA as f).length = f.length := List.length_map _
        have g' := tb_gm C.t (by rw [la]; omega) l1
        walk_at "rc"
        intro x dx' hx hdx ne
        exact made_D T hx hdx ne l0 (by omega) (dA.ex e5) dT g'.m g'.w fun H7 e7 hm7 => ⟨rfl, q x _ _ H7 (e04.trans (e5.trans e7)) hm7 g' C (by rw [la]; exact fn) eqv⟩
end
section
def spLeastX (T : Txt K mg) (P : Program) (w : World) (base : Heap) : Sp := fun vs H Q _ => ∃ (ls : Str) (kv : V) (f g : Addr) (st : KE) (nx : KE → Nat → KE) (acc : KE → Bool) (U : List KE), vs = [.str ls, kv, .ref f, .ref g] ∧ KeyV H kv st ∧ (isI st = false → ∃ b, kv = .ref b) ∧ 0 < ls.length ∧ ls.length ≤ 100 ∧ Ky P w K mg base 3 H ls.length f g nx acc U ∧
  st ∈ U ∧ U.length ≤ 1000 ∧ ∀ m as tab H', Ex H H' → MachD K T.C_Machine H' m ls as tab → GMw ls as tab → Cano ls.length as tab → as.length ≤ U.length → (∀ u, Lw ls.length u → as.getD (rn tab 0 u) false = acc (u.foldl nx st)) → Q (.ref m) H'
theorem ok_least_explored (T : Txt K mg) : FnOk P w K mg base CX0 8 T.a_least_explored T.d_least_explored ["letters", "start", "step", "accepts"] (spLeastX T P w base) := by
  refine T.f_least_explored.ok sc_least_explored (fun vs H Q E h => ?_) (fun cdv A outer s H vs Q E hr h => ?_)
  · obtain ⟨_, _, _, _, _, _, _, _, rfl, _⟩ := h; rfl
  · obtain ⟨ls, k0, f, g, st, nx, acc, U, rfl, hk0, hrf, l0, l1, ky, hU, hUl, q⟩ := h
    refine ⟨_, (pss_one (ps_ret (pe_callE (ok__merged T) (hr.mono (by decide)) T.o__merged (pa_cons (pe_callE (ok_explored T) (hr.mono (by decide)) T.o_explored (pa_cons (pv 0) (pa_cons (pv 1) (pa_cons (pv 2) (pa_cons (pv 3) pa_nil))))) pa_nil)))), ?_⟩
    walk_at "rc"
    refine ⟨ls, k0, f, g, st, nx, acc, U, rfl, hk0, hrf, l0, l1, ky, hU, hUl, fun m as tab H1 e1 hM gm X => ?_⟩
    walk_at "rc"
    exact ⟨m, ls, as, tab, rfl, hM, gm, l0, l1, Nat.le_trans X.m hUl, X.t, X.ws, fun m' as' tab' H2 e2 hM2 g2 C hle he => q m' as' tab' H2 (e1.trans e2) hM2 g2 C (Nat.le_trans hle X.m) fun u hu => (he u hu).trans (X.ac u hu)⟩
end
section
/-! ### states that some short word tells apart -/
def Dw (w : Nat) (acc : List Bool) (tab : List (List Nat)) (t a b : Nat) : Prop := ∃ u, Lw w u ∧ u.length ≤ t ∧ acc.getD (rn tab a u) false ≠ acc.getD (rn tab b u) false
section
variable {n w t : Nat} {acc : List Bool} {tab : List (List Nat)} {a b c : Nat}
theorem Dw.mono {t' : Nat} (h : Dw w acc tab t a b) (ht : t ≤ t') : Dw w acc tab t' a b := by
  obtain ⟨u, h1, h2, h3⟩ := h
  exact ⟨u, h1, by omega, h3⟩
theorem Dw.symm (h : Dw w acc tab t a b) : Dw w acc tab t b a := by
  obtain ⟨u, h1, h2, h3⟩ := h
  exact ⟨u, h1, h2, Ne.symm h3⟩
theorem Dw.or (h : Dw w acc tab t a c) : Dw w acc tab t a b ∨ Dw w acc tab t b c := by
  obtain ⟨u, h1, h2, h3⟩ := h
  by_cases e : acc.getD (rn tab a u) false = acc.getD (rn tab b u) false
  · exact .inr ⟨u, h1, h2, fun z => h3 (e.trans z)⟩
  · exact .inl ⟨u, h1, h2, e⟩
theorem dw_eqv : Eqv w acc tab a b ↔ ∀ t, ¬ Dw w acc tab t a b :=
  ⟨fun h t ⟨u, h1, _, h3⟩ => h3 (h u h1), fun h u hu => Classical.byContradiction fun z => h u.length ⟨u, hu, Nat.le_refl _, z⟩⟩
theorem dw_zero : Dw w acc tab 0 a b ↔ acc.getD a false ≠ acc.getD b false :=
  ⟨fun ⟨u, _, h2, h3⟩ => by
    cases u with
    | nil => exact h3
    | cons x r => exact absurd h2 (by rw [List.length_cons]; omega), fun h => ⟨[], Lw.nil, Nat.le_refl _, h⟩⟩
theorem dw_succ : Dw w acc tab (t + 1) a b ↔ Dw w acc tab 0 a b ∨ ∃ j, j < w ∧ Dw w acc tab t (dl tab a j) (dl tab b j) := by
  constructor
  · rintro ⟨u, h1, h2, h3⟩
    cases u with
    | nil => exact .inl ⟨[], Lw.nil, Nat.le_refl _, h3⟩
    | cons j u => exact .inr ⟨j, h1 j List.mem_cons_self, u, fun x hx => h1 x (List.mem_cons_of_mem _ hx), by rw [List.length_cons] at h2; omega, h3⟩
  · rintro (h | ⟨j, hj, u, h1, h2, h3⟩)
    · exact h.mono (Nat.zero_le _)
    · exact ⟨j :: u, fun x hx => (List.mem_cons.mp hx).elim (fun e => e ▸ hj) (h1 x), by rw [List.length_cons]; omega, h3⟩
theorem filter_le {α : Type} {p q : α → Bool} : ∀ {l : List α}, (∀ x ∈ l, p x = true → q x = true) → (l.filter p).length ≤ (l.filter q).length
  | [], _ => Nat.le_refl _
  | y :: l, h => by
    have ih := filter_le (l := l) fun x hx => h x (List.mem_cons_of_mem _ hx)
    cases e : p y with
    | true => rw [List.filter_cons_of_pos e, List.filter_cons_of_pos (h y List.mem_cons_self e), List.length_cons, List.length_cons]; omega
    | false =>
      rw [List.filter_cons_of_neg (by rw [e]; exact Bool.false_ne_true)]
      cases e2 : q y with
      | true => rw [List.filter_cons_of_pos e2, List.length_cons]; omega
      | false => rw [List.filter_cons_of_neg (by rw [e2]; exact Bool.false_ne_true)]; exact ih
theorem filter_lt {α : Type} {p q : α → Bool} : ∀ {l : List α}, (∀ x ∈ l, p x = true → q x = true) → ∀ x ∈ l, q x = true → p x = false → (l.filter p).length < (l.filter q).length
  | [], _, x, hx, _, _ => nomatch hx
  | y :: l, h, x, hx, h1, h2 => by
    rcases List.mem_cons.mp hx with e | hx
    · subst e
      rw [List.filter_cons_of_neg (by rw [h2]; exact Bool.false_ne_true), List.filter_cons_of_pos h1, List.length_cons]
      have := filter_le (l := l) fun x hx => h x (List.mem_cons_of_mem _ hx)
      omega
    · have ih := filter_lt (l := l) (fun x hx => h x (List.mem_cons_of_mem _ hx)) x hx h1 h2
      cases e : p y with
      | true => rw [List.filter_cons_of_pos e, List.filter_cons_of_pos (h y List.mem_cons_self e), List.length_cons, List.length_cons]; omega
      | false =>
        rw [List.filter_cons_of_neg (by rw [e]; exact Bool.false_ne_true)]
        cases e2 : q y with
        | true => rw [List.filter_cons_of_pos e2, List.length_cons]; omega
        | false => rw [List.filter_cons_of_neg (by rw [e2]; exact Bool.false_ne_true)]; exact ih
theorem dw_stable (T : Tb n w tab) (st : ∀ a b, a < n → b < n → Dw w acc tab (t + 1) a b → Dw w acc tab t a b) (ha : a < n) (hb : b < n) (h : ¬ Dw w acc tab t a b) : Eqv w acc tab a b := fun u hu =>
  cong_eqv T (R := fun a b => ¬ Dw w acc tab t a b) (fun s t' _ _ r => Classical.byContradiction fun z => r ((dw_zero.mpr z).mono (Nat.zero_le _))) (fun s t' j hs ht hj r z => r (st s t' hs ht (dw_succ.mpr (.inr ⟨j, hj, z⟩)))) u a b hu ha hb h
theorem least_ex {p : Nat → Prop} (m : Nat) (h : p m) : ∃ r, r ≤ m ∧ p r ∧ ∀ q, q < r → ¬ p q := by
  induction m using Nat.strongRecOn with
  | _ m ih =>
    by_cases e : ∃ q, q < m ∧ p q
    · obtain ⟨q, h1, h2⟩ := e
      obtain ⟨r, g1, g2, g3⟩ := ih q h1 h2
      exact ⟨r, by omega, g2, g3⟩
    · exact ⟨m, Nat.le_refl _, h, fun q hq z => e ⟨q, hq, z⟩⟩
def fxD (w : Nat) (acc : List Bool) (tab : List (List Nat)) (t s : Nat) : Prop := ∀ r, r < s → Dw w acc tab t r s
theorem fx_ex (a : Nat) : ∃ r, r ≤ a ∧ ¬ Dw w acc tab t r a ∧ fxD w acc tab t r := by
  obtain ⟨r, h1, h2, h3⟩ := least_ex (p := fun r => ¬ Dw w acc tab t r a) a fun ⟨u, _, _, h⟩ => h rfl
  exact ⟨r, h1, h2, fun q hq => ((Classical.not_not.mp (h3 q hq)).or (b := r)).resolve_right h2⟩
open Classical in
noncomputable def cntD (n w : Nat) (acc : List Bool) (tab : List (List Nat)) (t : Nat) : Nat := ((List.range n).filter fun s => decide (fxD w acc tab t s)).length
open Classical in
theorem dw_enough (T : Tb n w tab) (ha : a < n) (hb : b < n) (h : ¬ Eqv w acc tab a b) : Dw w acc tab n a b := by
  refine Classical.byContradiction fun no => ?_
  have key : ∀ t, t ≤ n → t + 1 ≤ cntD n w acc tab t := by
    intro t
    induction t with
    | zero =>
      intro _
      have : 0 ∈ (List.range n).filter fun s => decide (fxD w acc tab 0 s) := List.mem_filter.mpr ⟨List.mem_range.mpr T.p, decide_eq_true fun r hr => absurd hr (Nat.not_lt_zero r)⟩
      exact List.length_pos_of_mem this
    | succ t ih =>
      intro ht
      have ih := ih (by omega)
      obtain ⟨c, d, hc, hd, h1, h2⟩ : ∃ c d, c < n ∧ d < n ∧ Dw w acc tab (t + 1) c d ∧ ¬ Dw w acc tab t c d := Classical.byContradiction fun z => by
        refine h (dw_stable (t := t) T (fun a b ha hb x => Classical.byContradiction fun y => z ⟨a, b, ha, hb, x, y⟩) ha hb fun x => no (x.mono (by omega)))
      obtain ⟨r, r1, r2, r3⟩ := fx_ex (w := w) (acc := acc) (tab := tab) (t := t + 1) c
      obtain ⟨s, s1, s2, s3⟩ := fx_ex (w := w) (acc := acc) (tab := tab) (t := t + 1) d
      have nrs : ¬ Dw w acc tab t r s := fun z => by
        rcases z.or (b := c) with y | y
        · exact r2 (y.mono (by omega))
        · rcases y.or (b := d) with x | x
          · exact h2 x
          · exact s2 (x.symm.mono (by omega))
      have ne : r ≠ s := fun e => by
        subst e
        rcases h1.or (b := r) with y | y
        · exact r2 y.symm
        · exact s2 y
      have lt : cntD n w acc tab t < cntD n w acc tab (t + 1) := by
        refine filter_lt (fun x _ hx => decide_eq_true fun q hq => (of_decide_eq_true hx q hq).mono (by omega)) (max r s) (List.mem_range.mpr (by omega)) (decide_eq_true ?_) (decide_eq_false ?_)
        · rcases Nat.le_total r s with z | z
          · rw [Nat.max_eq_right z]; exact s3
          · rw [Nat.max_eq_left z]; exact r3
        · rcases Nat.lt_or_gt_of_ne ne with z | z
          · rw [Nat.max_eq_right (Nat.le_of_lt z)]
            exact fun y => nrs (y r z)
          · rw [Nat.max_eq_left (Nat.le_of_lt z)]
            exact fun y => nrs (y s z).symm
      omega
  have := key n (Nat.le_refl _)
  have : cntD n w acc tab n ≤ (List.range n).length := List.length_filter_le _ _
  rw [List.length_range] at this
  omega
/-! ### the pairs that are found to be far -/
structure Far (n w : Nat) (acc : List Bool) (tab : List (List Nat)) (t : Nat) (done : Nat → Nat → Prop) (f : Nat → Nat → Bool) : Prop where
  so : ∀ a b, a < n → b < n → f a b = true → ¬ Eqv w acc tab a b
  co : ∀ a b, a < n → b < n → Dw w acc tab t a b → f a b = true
  dn : ∀ a b, a < n → b < n → done a b → Dw w acc tab (t + 1) a b → f a b = true
def setF (f : Nat → Nat → Bool) (a b : Nat) : Nat → Nat → Bool := fun x y => if x = a ∧ y = b then true else f x y
theorem setF_mono {f : Nat → Nat → Bool} {a b x y : Nat} (h : f x y = true) : setF f a b x y = true := by
  unfold setF
  split
  · rfl
  · exact h
theorem Far.put {done : Nat → Nat → Prop} {f : Nat → Nat → Bool} (h : Far n w acc tab t done f) (ne : ¬ Eqv w acc tab a b) : Far n w acc tab t done (setF f a b) := by
  refine ⟨fun x y hx hy z => ?_, fun x y hx hy z => setF_mono (h.co x y hx hy z), fun x y hx hy d z => setF_mono (h.dn x y hx hy d z)⟩
  unfold setF at z
  split at z
  · rename_i e
    rw [e.1, e.2]; exact ne
  · exact h.so x y hx hy z
theorem Far.pair {done : Nat → Nat → Prop} {f : Nat → Nat → Bool} (h : Far n w acc tab t done f) (hk : ∀ j, j < w → Dw w acc tab t (dl tab a j) (dl tab b j) → f a b = true) : Far n w acc tab t (fun x y => done x y ∨ (x = a ∧ y = b)) f := by
  refine ⟨h.so, h.co, fun x y hx hy d z => ?_⟩
  rcases d with d | ⟨rfl, rfl⟩
  · exact h.dn x y hx hy d z
  · rcases dw_succ.mp z with z | ⟨j, hj, z⟩
    · exact h.co _ _ hx hy (z.mono (Nat.zero_le _))
    · exact hk j hj z
theorem Far.next {done : Nat → Nat → Prop} {f : Nat → Nat → Bool} (h : Far n w acc tab t done f) (all : ∀ a b, a < n → b < n → done a b) : Far n w acc tab (t + 1) (fun _ _ => False) f :=
  ⟨h.so, fun a b ha hb => h.dn a b ha hb (all a b ha hb), fun _ _ _ _ z => z.elim⟩
theorem Far.done' {done : Nat → Nat → Prop} {f : Nat → Nat → Bool} (T : Tb n w tab) (h : Far n w acc tab n done f) (ha : a < n) (hb : b < n) : f a b = true ↔ ¬ Eqv w acc tab a b :=
  ⟨h.so a b ha hb, fun z => h.co a b ha hb (dw_enough T ha hb z)⟩
end
/-! ### one state of each class, in the order of the least words -/
def clsF (n : Nat) (f : Nat → Nat → Bool) (s : Nat) : Nat := ((List.range n).find? fun t => !f t s).getD 0
def clK (n : Nat) (f : Nat → Nat → Bool) (s : Nat) : KE := .i (clsF n f s)
def nxC (n : Nat) (f : Nat → Nat → Bool) (tab : List (List Nat)) : KE → Nat → KE
  | .i s, j => clK n f (dl tab s j)
  | k, _ => k
structure FarE (n w : Nat) (acc : List Bool) (tab : List (List Nat)) (f : Nat → Nat → Bool) : Prop where
  t : Tb n w tab
  f : ∀ a b, a < n → b < n → (f a b = true ↔ ¬ Eqv w acc tab a b)
section
variable {n w : Nat} {acc : List Bool} {tab : List (List Nat)} {f : Nat → Nat → Bool} {a b s : Nat}
theorem Eqv.symm (h : Eqv w acc tab a b) : Eqv w acc tab b a := fun u hu => (h u hu).symm
theorem Eqv.trans {c : Nat} (h : Eqv w acc tab a b) (h2 : Eqv w acc tab b c) : Eqv w acc tab a c := fun u hu => (h u hu).trans (h2 u hu)
theorem FarE.no (F : FarE n w acc tab f) (ha : a < n) (hb : b < n) : f a b = false ↔ Eqv w acc tab a b := by
  have := F.f a b ha hb
  cases e : f a b with
  | true => rw [e] at this; exact ⟨fun z => (nomatch z), fun z => absurd z (this.mp rfl)⟩
  | false => rw [e] at this; exact ⟨fun _ => Classical.byContradiction fun z => (nomatch this.mpr z), fun _ => rfl⟩
theorem FarE.cls (F : FarE n w acc tab f) (hs : s < n) : clsF n f s < n ∧ Eqv w acc tab (clsF n f s) s := by
  unfold clsF
  cases e : (List.range n).find? fun t => !f t s with
  | none =>
    have := List.find?_eq_none.mp e s (List.mem_range.mpr hs)
    rw [(F.no hs hs).mpr fun _ _ => rfl] at this
    exact absurd rfl this
  | some t =>
    have h1 := List.mem_range.mp (List.mem_of_find?_eq_some e)
    have h2 := List.find?_some e
    exact ⟨h1, (F.no h1 hs).mp (by simpa using h2)⟩
theorem FarE.cls_eq (F : FarE n w acc tab f) (ha : a < n) (hb : b < n) : clsF n f a = clsF n f b ↔ Eqv w acc tab a b := by
  constructor
  · intro e
    have h1 := (F.cls ha).2
    rw [e] at h1
    exact h1.symm.trans (F.cls hb).2
  · intro e
    unfold clsF
    have : ∀ l : List Nat, (∀ t ∈ l, t < n) → (l.find? fun t => !f t a) = l.find? fun t => !f t b := by
      intro l
      induction l with
      | nil => exact fun _ => rfl
      | cons x l ih =>
        intro hl
        have hx := hl x List.mem_cons_self
        have ex : f x a = f x b := by
          cases e1 : f x a with
          | false => exact ((F.no hx hb).mpr (((F.no hx ha).mp e1).trans e)).symm
          | true =>
            cases e2 : f x b with
            | true => rfl
            | false => rw [(F.no hx ha).mpr (((F.no hx hb).mp e2).trans e.symm)] at e1; cases e1
        rw [List.find?_cons, List.find?_cons, ex, ih fun t ht => hl t (List.mem_cons_of_mem _ ht)]
    rw [this (List.range n) fun t ht => List.mem_range.mp ht]
theorem FarE.cls0 (F : FarE n w acc tab f) : clsF n f 0 = 0 := by
  unfold clsF
  have hn := F.t.p
  have e : List.range n = 0 :: (List.range (n - 1)).map Nat.succ := by
    have := List.range_succ_eq_map (n := n - 1)
    rw [← this, show n - 1 + 1 = n by omega]
  rw [e, List.find?_cons, (F.no F.t.p F.t.p).mpr fun _ _ => rfl]
  rfl
theorem FarE.nx (F : FarE n w acc tab f) (hs : s < n) {j : Nat} (hj : j < w) : nxC n f tab (clK n f s) j = clK n f (dl tab s j) := by
  have h := F.cls hs
  exact congrArg KE.i ((F.cls_eq (F.t.b _ j h.1 hj) (F.t.b _ j hs hj)).mpr (h.2.step hj))
theorem FarE.run (F : FarE n w acc tab f) : ∀ (u : List Nat) (s : Nat), s < n → Lw w u → u.foldl (nxC n f tab) (clK n f s) = clK n f (rn tab s u)
  | [], s, _, _ => rfl
  | j :: u, s, hs, hu => by
    show u.foldl _ (nxC n f tab (clK n f s) j) = _
    rw [F.nx hs (hu j List.mem_cons_self)]
    exact F.run u _ (F.t.b s j hs (hu j List.mem_cons_self)) fun x hx => hu x (List.mem_cons_of_mem _ hx)
/-- m of the states in the order are gone through -/
structure Od (n w : Nat) (acc : List Bool) (tab : List (List Nat)) (f : Nat → Nat → Bool) (od : List Nat) (m : Nat) : Prop where
  lt : ∀ s ∈ od, s < n
  le : m ≤ od.length
  cl : ∀ i s, i < m → od[i]? = some s → ∀ j, j < w → clK n f (dl tab s j) ∈ od.map (clK n f)
  ws : ∃ ws, Bf w (nxC n f tab) (.i 0) (od.map (clK n f)) ws ∧ (∀ s, od[m]? = some s → ∃ u1, Pg w (nxC n f tab) (.i 0) (od.map (clK n f)) ws m 0 u1 (clK n f s)) ∧ (m = od.length → ∀ c, Sn w (nxC n f tab) (.i 0) (od.map (clK n f)) ws c)
/-- the m-th is at work, j of its letters are done -/
structure OdL (n w : Nat) (acc : List Bool) (tab : List (List Nat)) (f : Nat → Nat → Bool) (od : List Nat) (m s j : Nat) : Prop where
  lt : ∀ s ∈ od, s < n
  hs : od[m]? = some s
  cl : ∀ i s, i < m → od[i]? = some s → ∀ j, j < w → clK n f (dl tab s j) ∈ od.map (clK n f)
  cm : ∀ i, i < j → clK n f (dl tab s i) ∈ od.map (clK n f)
  ws : ∃ ws u1, Pg w (nxC n f tab) (.i 0) (od.map (clK n f)) ws m j u1 (clK n f s)
theorem FarE.start (F : FarE n w acc tab f) : Od n w acc tab f [0] 0 := by
  have e : [0].map (clK n f) = [KE.i 0] := by
    show [KE.i (clsF n f 0)] = _
    rw [F.cls0]
  refine ⟨fun s hs => by rw [List.mem_singleton.mp hs]; exact F.t.p, Nat.zero_le _, fun i s hi => absurd hi (Nat.not_lt_zero i), [[]], by rw [e]; exact Bf.init, fun s hs => ⟨[], ?_⟩, fun z => (nomatch z)⟩
  cases hs
  rw [e]
  show Pg _ _ _ _ _ _ _ _ (KE.i (clsF n f 0))
  rw [F.cls0]
  exact Pg.init
theorem Od.len (F : FarE n w acc tab f) {od : List Nat} {m : Nat} (h : Od n w acc tab f od m) : od.length ≤ n := by
  obtain ⟨ws, b, _⟩ := h.ws
  have := nodup_leK (od.map (clK n f)) ((List.range n).map KE.i) b.nd fun k hk => by
    obtain ⟨s, hs, rfl⟩ := List.mem_map.mp hk
    exact List.mem_map.mpr ⟨_, List.mem_range.mpr (F.cls (h.lt s hs)).1, rfl⟩
  rw [List.length_map, List.length_map, List.length_range] at this
  exact this
theorem Od.open' {od : List Nat} {m s : Nat} (h : Od n w acc tab f od m) (hs : od[m]? = some s) : OdL n w acc tab f od m s 0 := by
  obtain ⟨ws, b, p, _⟩ := h.ws
  obtain ⟨u1, pg⟩ := p s hs
  exact ⟨h.lt, hs, h.cl, fun i hi => absurd hi (Nat.not_lt_zero i), ws, u1, pg⟩
theorem OdL.len (F : FarE n w acc tab f) {od : List Nat} {m s j : Nat} (h : OdL n w acc tab f od m s j) : od.length ≤ n := by
  obtain ⟨ws, u1, pg⟩ := h.ws
  have := nodup_leK (od.map (clK n f)) ((List.range n).map KE.i) pg.b.nd fun k hk => by
    obtain ⟨s, hs, rfl⟩ := List.mem_map.mp hk
    exact List.mem_map.mpr ⟨_, List.mem_range.mpr (F.cls (h.lt s hs)).1, rfl⟩
  rw [List.length_map, List.length_map, List.length_range] at this
  exact this
theorem OdL.old (F : FarE n w acc tab f) {od : List Nat} {m s j : Nat} (h : OdL n w acc tab f od m s j) (hj : j < w) (hin : clK n f (dl tab s j) ∈ od.map (clK n f)) : OdL n w acc tab f od m s (j + 1) := by
  obtain ⟨ws, u1, pg⟩ := h.ws
  have hs := h.lt s (List.mem_of_getElem? h.hs)
  obtain ⟨i, hi⟩ := List.getElem?_of_mem hin
  refine ⟨h.lt, h.hs, h.cl, fun i' hi' => ?_, ws, u1, pg.old hj (i := i) (by rw [F.nx hs hj]; exact hi)⟩
  rcases Nat.lt_or_ge i' j with z | z
  · exact h.cm i' z
  · obtain rfl : i' = j := by omega
    exact hin
theorem OdL.new (F : FarE n w acc tab f) {od : List Nat} {m s j : Nat} (h : OdL n w acc tab f od m s j) (hj : j < w) (hin : clK n f (dl tab s j) ∉ od.map (clK n f)) : OdL n w acc tab f (od ++ [dl tab s j]) m s (j + 1) := by
  obtain ⟨ws, u1, pg⟩ := h.ws
  have hs := h.lt s (List.mem_of_getElem? h.hs)
  have em : (od ++ [dl tab s j]).map (clK n f) = od.map (clK n f) ++ [clK n f (dl tab s j)] := by rw [List.map_append]; rfl
  have p2 := pg.new hj (by rw [F.nx hs hj]; exact hin)
  rw [F.nx hs hj, ← em] at p2
  have sub : ∀ k, k ∈ od.map (clK n f) → k ∈ (od ++ [dl tab s j]).map (clK n f) := fun k hk => by rw [em]; exact List.mem_append.mpr (.inl hk)
  refine ⟨fun x hx => ?_, app_l h.hs, fun i s' hi hs' j' hj' => ?_, fun i' hi' => ?_, _, u1, p2⟩
  · rcases List.mem_append.mp hx with z | z
    · exact h.lt x z
    · rw [List.mem_singleton.mp z]; exact F.t.b s j hs hj
  · rcases app_at hs' with z | ⟨z, _⟩
    · exact sub _ (h.cl i s' hi z j' hj')
    · have := ltQ h.hs; omega
  · rcases Nat.lt_or_ge i' j with z | z
    · exact sub _ (h.cm i' z)
    · obtain rfl : i' = j := by omega
      rw [em]; exact List.mem_append.mpr (.inr List.mem_cons_self)
theorem OdL.next (w0 : 0 < w) {od : List Nat} {m s : Nat} (h : OdL n w acc tab f od m s w) : Od n w acc tab f od (m + 1) := by
  obtain ⟨ws, u1, pg⟩ := h.ws
  have hm := ltQ h.hs
  refine ⟨h.lt, hm, fun i s' hi hs' j hj => ?_, ws, pg.b, fun s' hs' => pg.next w0 (by rw [List.getElem?_map, hs']; rfl), fun z c => ?_⟩
  · rcases Nat.lt_or_ge i m with z | z
    · exact h.cl i s' z hs' j hj
    · obtain rfl : i = m := by omega
      rw [h.hs] at hs'
      cases hs'
      exact h.cm j hj
  · have := pg.all w0 (c := c) fun i v hi hv => by
      have := ltQ hv
      rw [pg.b.len, List.length_map] at this; omega
    exact fun u hu hc => this u hu (by have := Nat.le_mul_of_pos_left c w0; omega)
/-- the place of a state's class in the order -/
def ixF (f : Nat → Nat → Bool) (od : List Nat) (x : Nat) : Nat := ((List.range od.length).filter fun j => !f x (od.getD j 0)).headD 0
theorem Od.ix (F : FarE n w acc tab f) {od : List Nat} {x : Nat} (lt : ∀ s ∈ od, s < n) (hx : x < n) (hin : clK n f x ∈ od.map (clK n f)) : ixF f od x < od.length ∧ Eqv w acc tab x (od.getD (ixF f od x) 0) ∧ (List.range od.length).filter (fun j => !f x (od.getD j 0)) ≠ [] := by
  obtain ⟨y, hy, e⟩ := List.mem_map.mp hin
  obtain ⟨i, hi⟩ := List.getElem?_of_mem hy
  have hyn := lt y hy
  have exy : Eqv w acc tab x y := (F.cls_eq hx hyn).mp (KE.i.inj e).symm
  have gi : od.getD i 0 = y := by rw [List.getD_eq_getElem?_getD, hi]; rfl
  have mem : i ∈ (List.range od.length).filter fun j => !f x (od.getD j 0) := List.mem_filter.mpr ⟨List.mem_range.mpr (ltQ hi), by rw [gi, (F.no hx hyn).mpr exy]; rfl⟩
  unfold ixF
  cases hl : (List.range od.length).filter fun j => !f x (od.getD j 0) with
  | nil => rw [hl] at mem; cases mem
  | cons k r =>
    have hk : k ∈ (List.range od.length).filter fun j => !f x (od.getD j 0) := by rw [hl]; exact List.mem_cons_self
    obtain ⟨h1, h2⟩ := List.mem_filter.mp hk
    have h1 := List.mem_range.mp h1
    have hkn : od.getD k 0 < n := lt _ (List.mem_of_getElem? (at_getD h1))
    refine ⟨h1, (F.no hx hkn).mp (by simpa using h2), fun z => nomatch z⟩
def odA (acc : List Bool) (od : List Nat) : List Bool := od.map fun s => acc.getD s false
def odT (f : Nat → Nat → Bool) (tab : List (List Nat)) (od : List Nat) : List (List Nat) := od.map fun s => (tab.getD s []).map fun x => ixF f od x
theorem Od.cano (F : FarE n w acc tab f) {od : List Nat} (h : Od n w acc tab f od od.length) : Cano w (odA acc od) (odT f tab od) ∧ ∀ u, Lw w u → (odA acc od).getD (rn (odT f tab od) 0 u) false = acc.getD (rn tab 0 u) false := by
  obtain ⟨ws, b, _, sn⟩ := h.ws
  have sn := sn rfl
  have row : ∀ s, s < n → (tab.getD s []).length = w := fun s hs => by
    obtain ⟨r, hr⟩ := getQ (l := tab) (i := s) (by rw [F.t.l]; exact hs)
    rw [List.getD_eq_getElem?_getD, hr]
    exact F.t.w r (List.mem_of_getElem? hr)
  have la : (odA acc od).length = od.length := List.length_map _
  have odn : ∀ i, i < od.length → od.getD i 0 < n := fun i hi => h.lt _ (List.mem_of_getElem? (at_getD hi))
  have stp : ∀ s j, s < od.length → j < w → dl (odT f tab od) s j = ixF f od (dl tab (od.getD s 0) j) := fun s j hs hj => by
    unfold dl odT
    rw [map_at [] hs, map_at 0 (by rw [row _ (odn s hs)]; exact hj)]
  have inn : ∀ s j, s < od.length → j < w → clK n f (dl tab (od.getD s 0) j) ∈ od.map (clK n f) := fun s j hs hj => h.cl s _ hs (at_getD hs) j hj
  have stl : ∀ s j, s < od.length → j < w → dl (odT f tab od) s j < od.length ∧ Eqv w acc tab (dl tab (od.getD s 0) j) (od.getD (dl (odT f tab od) s j) 0) := fun s j hs hj => by
    rw [stp s j hs hj]
    have := Od.ix F h.lt (F.t.b _ j (odn s hs) hj) (inn s j hs hj)
    exact ⟨this.1, this.2.1⟩
  have run : ∀ (u : List Nat) (s x : Nat), s < od.length → x < n → Eqv w acc tab x (od.getD s 0) → Lw w u → rn (odT f tab od) s u < od.length ∧ Eqv w acc tab (rn tab x u) (od.getD (rn (odT f tab od) s u) 0) := by
    intro u
    induction u with
    | nil => exact fun s x hs hx e _ => ⟨hs, e⟩
    | cons j u ih =>
      intro s x hs hx e hu
      have hj := hu j List.mem_cons_self
      obtain ⟨h1, h2⟩ := stl s j hs hj
      exact ih (dl (odT f tab od) s j) (dl tab x j) h1 (F.t.b x j hx hj) ((e.step hj).trans h2) fun y hy => hu y (List.mem_cons_of_mem _ hy)
  have acc' : ∀ (u : List Nat) (s x : Nat), s < od.length → x < n → Eqv w acc tab x (od.getD s 0) → Lw w u → (odA acc od).getD (rn (odT f tab od) s u) false = acc.getD (rn tab x u) false := fun u s x hs hx e hu => by
    obtain ⟨h1, h2⟩ := run u s x hs hx e hu
    unfold odA
    rw [map_at false h1]
    exact h2.nil.symm
  have p0 : 0 < od.length := by
    have := ltQ b.hw
    rw [b.len, List.length_map] at this
    exact this
  have e0 : Eqv w acc tab 0 (od.getD 0 0) := by
    obtain ⟨k, hk⟩ := getQ (l := od.map (clK n f)) (i := 0) (by rw [List.length_map]; exact p0)
    have r0 := b.run 0 [] k b.hw hk
    rw [List.getElem?_map, at_getD p0] at hk
    have e : clK n f (od.getD 0 0) = k := Option.some.inj hk
    have e2 : clsF n f (od.getD 0 0) = clsF n f 0 := by
      rw [F.cls0]
      exact KE.i.inj (e.trans r0.symm)
    exact ((F.cls_eq (odn 0 p0) F.t.p).mp e2).symm
  have X := Expl.of (acc := acM acc) (m := od.length) (tab := odT f tab od) b sn (by rw [odT, List.length_map, List.length_map]) (by rw [List.length_map]; exact Nat.le_refl _) fun i r k hr hk => ?_
  · have ea : (od.map (clK n f)).map (acM acc) = odA acc od := by
      rw [List.map_map, odA]
      refine List.map_congr_left fun s hs => ?_
      exact (F.cls (h.lt s hs)).2.nil
    rw [ea] at X
    refine ⟨⟨X.t, fun s t hs ht e => ?_, X.ws⟩, fun u hu => acc' u 0 0 p0 F.t.p e0 hu⟩
    rw [la] at hs ht
    have e2 : Eqv w acc tab (od.getD s 0) (od.getD t 0) := fun u hu => by
      rw [← acc' u s _ hs (odn s hs) (fun _ _ => rfl) hu, ← acc' u t _ ht (odn t ht) (fun _ _ => rfl) hu]
      exact e u hu
    have e3 : clK n f (od.getD s 0) = clK n f (od.getD t 0) := congrArg KE.i ((F.cls_eq (odn s hs) (odn t ht)).mpr e2)
    exact (List.getElem?_inj (by rw [List.length_map]; exact hs) b.nd).mp (by rw [List.getElem?_map, List.getElem?_map, at_getD hs, at_getD ht]; exact congrArg some e3)
  · have hi : i < od.length := by have := ltQ hk; rw [List.length_map] at this; exact this
    rw [odT, List.getElem?_map, at_getD hi] at hr
    rw [List.getElem?_map, at_getD hi] at hk
    cases Option.some.inj hr
    cases Option.some.inj hk
    refine ⟨by rw [List.length_map]; exact row _ (odn i hi), fun j hj => ⟨ixF f od (dl tab (od.getD i 0) j), ?_, ?_⟩⟩
    · rw [List.getElem?_map, at_getD (by rw [row _ (odn i hi)]; exact hj)]; rfl
    · obtain ⟨h1, h2, _⟩ := Od.ix F (x := dl tab (od.getD i 0) j) h.lt (F.t.b _ j (odn i hi) hj) (inn i j hi hj)
      rw [List.getElem?_map, at_getD h1, F.nx (odn i hi) hj]
      exact congrArg (fun x => some (KE.i x)) ((F.cls_eq (odn _ h1) (F.t.b _ j (odn i hi) hj)).mpr h2.symm)
end
end
section
/-- the dict of pairs: what it tells of a and b -/
def kp (a b : Nat) : List L2.Key := [.inl (a : Int), .inl (b : Int)]
theorem kp_inj {a b c d : Nat} : kp a b = kp c d ↔ a = c ∧ b = d := by
  constructor
  · intro h
    have h1 := (List.cons.inj h).1
    have h2 := (List.cons.inj (List.cons.inj h).2).1
    exact ⟨Int.ofNat.inj (Sum.inl.inj h1), Int.ofNat.inj (Sum.inl.inj h2)⟩
  · rintro ⟨rfl, rfl⟩; rfl
structure FD (H : Hp) (D : Addr) (n c : Nat) (p : Nat → Nat → Prop) (f : Nat → Nat → Bool) (kvs : List (List L2.Key × V)) : Prop where
  d : H D = some (.dT kvs)
  l : kvs.length ≤ c
  v : ∀ a b : Nat, a < n → b < n → p a b → valV kvs (kp a b) = some (.bl (f a b))
theorem FD.ex {H H' : Hp} {D : Addr} {n c : Nat} {p : Nat → Nat → Prop} {f : Nat → Nat → Bool} {kvs : List (List L2.Key × V)} (h : FD H D n c p f kvs) (e : Ex H H') : FD H' D n c p f kvs := ⟨e _ _ h.d, h.l, h.v⟩
theorem FD.to {H : Hp} {D : Addr} {n c c' : Nat} {p p' : Nat → Nat → Prop} {f : Nat → Nat → Bool} {kvs : List (List L2.Key × V)} (h : FD H D n c p f kvs) (hc : c ≤ c') (hp : ∀ a b, a < n → b < n → p' a b → p a b) : FD H D n c' p' f kvs := ⟨h.d, Nat.le_trans h.l hc, fun a b ha hb z => h.v a b ha hb (hp a b ha hb z)⟩
theorem FD.put {H : Hp} {D : Addr} {n c : Nat} {p : Nat → Nat → Prop} {f : Nat → Nat → Bool} {kvs : List (List L2.Key × V)} (h : FD H D n c p f kvs) (a b : Nat) : FD (upd H D (.dT (putK kvs (kp a b) (.bl (f a b))))) D n (c + 1) (fun x y => p x y ∨ (x = a ∧ y = b)) f (putK kvs (kp a b) (.bl (f a b))) := by
  refine ⟨upd_same, Nat.le_trans (length_putK _ _ _) (Nat.succ_le_succ h.l), fun x y hx hy z => ?_⟩
  rw [valV_put]
  by_cases e : x = a ∧ y = b
  · rw [if_pos (kp_inj.mpr e), e.1, e.2]
  · rw [if_neg fun w => e (kp_inj.mp w)]
    exact h.v x y hx hy (z.resolve_right e)
theorem FD.set {H : Hp} {D : Addr} {n c : Nat} {f : Nat → Nat → Bool} {kvs : List (List L2.Key × V)} (h : FD H D n c (fun _ _ => True) f kvs) {a b : Nat} (ha : a < n) (hb : b < n) : FD (upd H D (.dT (putK kvs (kp a b) (.bl true)))) D n c (fun _ _ => True) (setF f a b) (putK kvs (kp a b) (.bl true)) := by
  refine ⟨upd_same, ?_, fun x y hx hy z => ?_⟩
  · unfold putK
    rw [valV_any, h.v a b ha hb True.intro, Option.isSome_some, if_pos rfl, List.length_map]
    exact h.l
  · rw [valV_put]
    unfold setF
    by_cases e : x = a ∧ y = b
    · rw [if_pos (kp_inj.mpr e), if_pos e]
    · rw [if_neg fun w => e (kp_inj.mp w), if_neg e]
      exact h.v x y hx hy True.intro
theorem rd_tk {K : PySem.W.Frag} {H0 H : Hp} {vt : V} {ds : List PyData} {tab : List (List Nat)} {n w s j : Nat} {Q Q1 : VK} (e : Ex H0 H) (hT : SqD K H0 vt ds) (hR : RowsN ds tab) (tb : Tb n w tab) (hs : s < n) (hj : j < w) (q1 : ∀ v, rIx K v (.int (j : Int)) H Q → Q1 v H) (q : Q (.int ((dl tab s j : Nat) : Int)) H) : rIx K vt (.int (s : Int)) H Q1 := by
  have hl : s < ds.length := by rw [hR.1, tb.l]; exact hs
  refine rd_ixSq e hT (List.getElem?_eq_getElem hl) fun v hv => ?_
  obtain ⟨row, h1, h2, h3⟩ := hR.get (List.getElem?_eq_getElem hl) hv
  have rl := tb.w row (List.mem_of_getElem? h1)
  refine q1 v (rd_ixSq e h3 (d := nI (row.getD j 0)) (by rw [List.getElem?_map, at_getD (by rw [rl]; exact hj)]; rfl) fun v2 hv2 => ?_)
  cases Dp.int_iff hv2
  have ed : dl tab s j = row.getD j 0 := by unfold dl; rw [h2]
  rw [ed] at q
  exact q
theorem rd_ab {K : PySem.W.Frag} {H0 H : Hp} {va : V} {acc : List Bool} {s : Nat} {Q : VK} (e : Ex H0 H) (hA : SqD K H0 va (acc.map PyData.bool)) (hs : s < acc.length) (q : Q (.bl (acc.getD s false)) H) : rIx K va (.int (s : Int)) H Q := by
  obtain ⟨b, hb⟩ := getQ hs
  refine rd_ixSq e hA (d := .bool b) (by rw [List.getElem?_map, hb]; rfl) fun v hv => ?_
  cases Dp.bl_iff hv
  rw [List.getD_eq_getElem?_getD, hb] at q
  exact q
theorem eqv_nil (ds : List PyData) : PyData.eqv (.list ds) (.list []) = ds.isEmpty := by
  cases ds with
  | nil => exact SeqAt.eqv_refl (.list []) rfl
  | cons d ds => rfl
theorem FarE.new_iff {n w : Nat} {acc : List Bool} {tab : List (List Nat)} {f : Nat → Nat → Bool} (F : FarE n w acc tab f) {od : List Nat} {x : Nat} (lt : ∀ s ∈ od, s < n) (hx : x < n) : (List.range od.length).filter (fun j => !f x (od.getD j 0)) = [] ↔ clK n f x ∉ od.map (clK n f) := by
  constructor
  · intro h z
    exact (Od.ix F lt hx z).2.2 h
  · intro h
    refine List.filter_eq_nil_iff.mpr fun j hj z => h ?_
    have hj := List.mem_range.mp hj
    have hm := List.mem_of_getElem? (at_getD hj)
    have e := (F.no hx (lt _ hm)).mp (by simpa using z)
    exact List.mem_map.mpr ⟨_, hm, congrArg KE.i ((F.cls_eq (lt _ hm) hx).mpr e.symm)⟩
def spLawLeast : Sp := fun vs H Q _ => ∃ (ls : Str) (va vt : V) (acc : List Bool) (tab : List (List Nat)) (ds : List PyData), vs = [.str ls, va, vt] ∧ SqD K H va (acc.map PyData.bool) ∧ SqD K H vt ds ∧ RowsN ds tab ∧ Tb acc.length ls.length tab ∧ 0 < ls.length ∧ ls.length ≤ 100 ∧ acc.length ≤ 100 ∧
  ∀ p as' tab' H', Ex H H' → Dp K H' p (.tuple [.str ls, .tuple (as'.map PyData.bool), nT tab']) → Cano ls.length as' tab' → as'.length ≤ acc.length → (∀ u, Lw ls.length u → as'.getD (rn tab' 0 u) false = acc.getD (rn tab 0 u) false) → Q p H'
theorem ok_law_least (T : Txt K mg) : FnOk P w K mg base CX0 1 T.a_law_least T.d_law_least ["letters", "accepting", "table"] (spLawLeast (K := K)) := by
  refine T.f_law_least.ok sc_law_least (fun vs H Q E h => ?_) (fun cdv A outer s H vs Q E hr h => ?_)
  · obtain ⟨_, _, _, _, _, _, rfl, _⟩ := h; rfl
  · obtain ⟨ls, va, vt, acc, tab, ds, rfl, hA, hT, hR, tb, l0, l1, an, q⟩ := h
    have sz : 1000000 ≤ sizeLine := by decide
    have n0 := tb.p
    obtain ⟨n, hn⟩ : ∃ n, acc.length = n := ⟨_, rfl⟩
    have nn : n * n ≤ 10000 := by
      have := Nat.mul_le_mul (show n ≤ 100 by omega) (show n ≤ 100 by omega)
      omega
    refine ⟨_, (pss_cons (ps_set (i := 3) sc_law_least.nd rfl (by first | exact Or.inl rfl | exact Or.inr rfl) (pe_callB (kLen K) (by rfl) T.nb_len (by decide +kernel) (pa_cons (pv 1) pa_nil)))
  (pss_cons (ps_set (i := 4) sc_law_least.nd rfl (by first | exact Or.inl rfl | exact Or.inr rfl) pe_dnewT)
  (pss_cons (ps_for PassesOwn.never rfl (pi_range1 (by rfl) T.nb_range (pa_cons (pv 3) pa_nil)) (pg_name (i := 5) sc_law_least.nd rfl (by first | exact Or.inl rfl | exact Or.inr rfl))
    (pss_one (ps_for PassesOwn.never rfl (pi_range1 (by rfl) T.nb_range (pa_cons (pv 3) pa_nil)) (pg_name (i := 6) sc_law_least.nd rfl (by first | exact Or.inl rfl | exact Or.inr rfl))
    (pss_one (ps_dput (hu_of hr) (pv 4) (pe_tup (pa_cons (pv 5) (pa_cons (pv 6) pa_nil))) (pe_cmpR (kNe K rfl hr.units) (pe_ix (kIx K) (pv 1) (pv 5) (fun _ _ => rfl)) (pe_ix (kIx K) (pv 1) (pv 6) (fun _ _ => rfl)) (by first | rfl | exact nomark _)) rfl)))))
  (pss_cons (ps_for PassesOwn.never rfl (pi_range1 (by rfl) T.nb_range (pa_cons (pv 3) pa_nil)) (pg_name (i := 7) sc_law_least.nd rfl (by first | exact Or.inl rfl | exact Or.inr rfl))
    (pss_one (ps_for PassesOwn.never rfl (pi_range1 (by rfl) T.nb_range (pa_cons (pv 3) pa_nil)) (pg_name (i := 5) sc_law_least.nd rfl (by first | exact Or.inl rfl | exact Or.inr rfl))
    (pss_one (ps_for PassesOwn.never rfl (pi_range1 (by rfl) T.nb_range (pa_cons (pv 3) pa_nil)) (pg_name (i := 6) sc_law_least.nd rfl (by first | exact Or.inl rfl | exact Or.inr rfl))
    (pss_one (ps_for PassesOwn.never rfl (pi_range1 (by rfl) T.nb_range (pa_cons (pe_callB (kLen K) (by rfl) T.nb_len (by decide +kernel) (pa_cons (pv 0) pa_nil)) pa_nil)) (pg_name (i := 8) sc_law_least.nd rfl (by first | exact Or.inl rfl | exact Or.inr rfl))
    (pss_one (ps_if (pt_val (pe_dget (hu_of hr) (pv 4) (pe_tup (pa_cons (pe_ix (kIx K) (pe_ix (kIx K) (pv 2) (pv 5) (fun _ _ => rfl)) (pv 8) (fun _ _ => rfl)) (pa_cons (pe_ix (kIx K) (pe_ix (kIx K) (pv 2) (pv 6) (fun _ _ => rfl)) (pv 8) (fun _ _ => rfl)) pa_nil))) (fun _ _ => rfl)))
    (pss_one (ps_dput (hu_of hr) (pv 4) (pe_tup (pa_cons (pv 5) (pa_cons (pv 6) pa_nil))) pe_bl rfl))
    pss_nil)))))))))
  (pss_cons (ps_set (i := 9) sc_law_least.nd rfl (by first | exact Or.inl rfl | exact Or.inr rfl) (pe_lst (pa_cons pe_int pa_nil)))
  (pss_cons (ps_for PassesOwn.never rfl (pi_range1 (by rfl) T.nb_range (pa_cons (pv 3) pa_nil)) (pg_name (i := 7) sc_law_least.nd rfl (by first | exact Or.inl rfl | exact Or.inr rfl))
    (pss_one (ps_for PassesOwn.never rfl (kAny K rfl (pe_callTy (kLstOf K) (by rfl) T.nb_list (by decide +kernel) (pa_cons (pv 9) pa_nil))) (pg_name (i := 10) sc_law_least.nd rfl (by first | exact Or.inl rfl | exact Or.inr rfl))
    (pss_one (ps_for PassesOwn.never rfl (pi_range1 (by rfl) T.nb_range (pa_cons (pe_callB (kLen K) (by rfl) T.nb_len (by decide +kernel) (pa_cons (pv 0) pa_nil)) pa_nil)) (pg_name (i := 8) sc_law_least.nd rfl (by first | exact Or.inl rfl | exact Or.inr rfl))
    (pss_one (ps_if (pt_cmpR (kEq K rfl hr.units) (pe_lc (own := [("b", 6)]) (g := gName 6)  (by rfl) sc_law_least.nd (kAny K rfl (pv 9)) (blkOk_by (own := [("b", 6)]) (N := ["letters", "accepting", "table", "many", "far", "a", "b", "turn", "k", "order", "at", "rows", "j", "following"]) (sc := defScope s_law_least) (by decide +kernel)) (fun _ _ _ _ _ => (pg_name (i := 6) sc_law_least.nd rfl (by first | exact Or.inl rfl | exact Or.inr rfl))) (fun _ _ _ _ _ => (pts_one (pt_not (pt_val (pe_dget (hu_of hr) (pv 4) (pe_tup (pa_cons (pe_ix (kIx K) (pe_ix (kIx K) (pv 2) (pv 10) (fun _ _ => rfl)) (pv 8) (fun _ _ => rfl)) (pa_cons (pv 6) pa_nil))) (fun _ _ => rfl)))))) (fun _ _ _ _ _ => (pv 6))) (pe_lst pa_nil) (by first | rfl | exact nomark _))
    (pss_one (ps_expr (kBm K rfl (pe_bm PySem.F.plainAttrs_list PySem.F.slot_list_append PySem.F.type_list_append mt_append (pv 9) (pa_cons (pe_ix (kIx K) (pe_ix (kIx K) (pv 2) (pv 10) (fun _ _ => rfl)) (pv 8) (fun _ _ => rfl)) pa_nil)))))
    pss_nil)))))))
  (pss_cons (ps_set (i := 11) sc_law_least.nd rfl (by first | exact Or.inl rfl | exact Or.inr rfl) (pe_lst pa_nil))
  (pss_cons (ps_for PassesOwn.never rfl (kAny K rfl (pv 9)) (pg_name (i := 10) sc_law_least.nd rfl (by first | exact Or.inl rfl | exact Or.inr rfl))
    (pss_one (ps_expr (kBm K rfl (pe_bm PySem.F.plainAttrs_list PySem.F.slot_list_append PySem.F.type_list_append mt_append (pv 11) (pa_cons (pe_callTy (kTupOf K) (by rfl) T.nb_tuple (by decide +kernel) (pa_cons (pe_lc (own := [("following", 13)]) (g := gName 13) (tt := tYes) (by rfl) sc_law_least.nd (kAny K rfl (pe_ix (kIx K) (pv 2) (pv 10) (fun _ _ => rfl))) (blkOk_by (own := [("following", 13)]) (N := ["letters", "accepting", "table", "many", "far", "a", "b", "turn", "k", "order", "at", "rows", "j", "following"]) (sc := defScope s_law_least) (by decide +kernel)) (fun _ _ _ _ _ => (pg_name (i := 13) sc_law_least.nd rfl (by first | exact Or.inl rfl | exact Or.inr rfl))) (fun _ _ _ _ _ => pts_nil) (fun _ _ _ _ _ => (pe_ix (kIx K) (pe_lc (own := [("j", 12)]) (g := gName 12)  (by rfl) sc_law_least.nd (pi_range1 (by rfl) T.nb_range (pa_cons (pe_callB (kLen K) (by rfl) T.nb_len (by decide +kernel) (pa_cons (pv 9) pa_nil)) pa_nil)) (by exact blkOk_in (N := ["letters", "accepting", "table", "many", "far", "a", "b", "turn", "k", "order", "at", "rows", "j", "following"]) rfl (by decide +kernel)) (fun _ _ _ _ _ => (pg_name (i := 12) sc_law_least.nd rfl (by first | exact Or.inl rfl | exact Or.inr rfl))) (fun _ _ _ _ _ => (pts_one (pt_not (pt_val (pe_dget (hu_of hr) (pv 4) (pe_tup (pa_cons (pv 13) (pa_cons (pe_ix (kIx K) (pv 9) (pv 12) (fun _ _ => rfl)) pa_nil))) (fun _ _ => rfl)))))) (fun _ _ _ _ _ => (pv 12))) pe_int (fun _ _ => rfl)))) pa_nil)) pa_nil))))))
  (pss_one (ps_ret (pe_tup (pa_cons (pv 0) (pa_cons (pe_callTy (kTupOf K) (by rfl) T.nb_tuple (by decide +kernel) (pa_cons (pe_lc (own := [("at", 10)]) (g := gName 10) (tt := tYes) (by rfl) sc_law_least.nd (kAny K rfl (pv 9)) (blkOk_by (own := [("at", 10)]) (N := ["letters", "accepting", "table", "many", "far", "a", "b", "turn", "k", "order", "at", "rows", "j", "following"]) (sc := defScope s_law_least) (by decide +kernel)) (fun _ _ _ _ _ => (pg_name (i := 10) sc_law_least.nd rfl (by first | exact Or.inl rfl | exact Or.inr rfl))) (fun _ _ _ _ _ => pts_nil) (fun _ _ _ _ _ => (pe_ix (kIx K) (pv 1) (pv 10) (fun _ _ => rfl)))) pa_nil)) (pa_cons (pe_callTy (kTupOf K) (by rfl) T.nb_tuple (by decide +kernel) (pa_cons (pv 11) pa_nil)) pa_nil)))))))))))))), ?_⟩
    walk_at "rc"
    refine rd_lenSq (Evl.Ex.refl H) hA ?_
    rw [List.length_map, hn]
    rw [hn] at tb n0 an
    walk_at "rc"
    intro D hD
    obtain ⟨f0, hf0⟩ : ∃ f0 : Nat → Nat → Bool, f0 = fun a b => acc.getD a false != acc.getD b false := ⟨_, rfl⟩
    have F0 : FD (upd H D (.dT [])) D n (0 * n) (fun x _ => x < 0) f0 [] := ⟨upd_same, Nat.zero_le _, fun a b _ _ z => absurd z (Nat.not_lt_zero _)⟩
    have e0 : Ex H (upd H D (.dT [])) := Evl.Ex.new hD
    generalize upd H D (.dT []) = H1 at F0 e0
    walk_at "rc"
    walk_at "rs"
    walk_at "rc"
    refine ⟨(n : Int), rfl, by omega, by omega, ?_⟩
    rw [Int.toNat_natCast]
    refine fo_range (n := n) (fun a σ H' => ∃ (k5 k6 : Option V) (kvs : List (List L2.Key × V)), σ = [some (.str ls), some va, some vt, some (.int (n : Int)), some (.ref D), k5, k6, none, none, none, none, none, none, none] ∧ Ex H H' ∧ FD H' D n (a * n) (fun x _ => x < a) f0 kvs) ⟨_, _, _, rfl, e0, F0⟩ ?_ ?_
    · rintro a σ H2 ha ⟨k5, k6, kvs, rfl, e2, F2⟩
      walk_at "rc"
      refine ⟨(n : Int), rfl, by omega, by omega, ?_⟩
      rw [Int.toNat_natCast]
      refine fo_range (n := n) (fun b σ H' => ∃ (k6 : Option V) (kvs : List (List L2.Key × V)), σ = [some (.str ls), some va, some vt, some (.int (n : Int)), some (.ref D), some (.int (a : Int)), k6, none, none, none, none, none, none, none] ∧ Ex H H' ∧ FD H' D n (a * n + b) (fun x y => x < a ∨ (x = a ∧ y < b)) f0 kvs) ⟨_, _, rfl, e2, F2.to (Nat.le_refl _) fun x y _ _ z => z.resolve_right fun w => Nat.not_lt_zero _ w.2⟩ ?_ ?_
      · clear F2 e2
        rintro b σ H3 hb ⟨k6, kvs, rfl, e3, F3⟩
        have ab : a * n + b < n * n := by
          have := Nat.mul_le_mul_right n (show a + 1 ≤ n from ha)
          rw [Nat.succ_mul] at this
          omega
        walk_at "rc"
        refine rd_ab e3 hA (by rw [hn]; exact ha) ?_
        walk_at "rc"
        refine rd_ab e3 hA (by rw [hn]; exact hb) ?_
        refine rd_neB ?_
        walk_at "rc"
        refine ⟨by show 2 ≤ sizeLine; omega, fun t ht => ?_⟩
        have e4 : Ex H3 (upd H3 t (.tup [.int (a : Int), .int (b : Int)])) := Evl.Ex.new ht
        have ht4 : upd H3 t (.tup [.int (a : Int), .int (b : Int)]) t = some (.tup ((kp a b).map kV)) := upd_same
        generalize upd H3 t (.tup [.int (a : Int), .int (b : Int)]) = H4 at e4 ht4
        have F4 := F3.ex e4
        have ev : (acc.getD a false != acc.getD b false) = f0 a b := by rw [hf0]
        rw [ev]
        refine ⟨D, _, rfl, DPut.t F4.d ht4 (by have := F4.l; omega), ?_⟩
        exact ⟨_, _, rfl, Evl.Ex.mut (e3.trans e4) hD, (F4.put a b).to (Nat.le_refl _) fun x y _ _ z => by omega⟩
      · rintro σ H3 ⟨k6, kvs, rfl, e3, F3⟩
        exact ⟨_, _, _, rfl, e3, F3.to (by rw [Nat.succ_mul]; exact Nat.le_refl _) fun x y _ hy z => by omega⟩
    clear F0 e0
    rintro σ H2 ⟨k5, k6, kvs, rfl, e2, F2⟩
    have Fa : Far n ls.length acc tab 0 (fun _ _ => False) f0 := by
      refine ⟨fun a b _ _ z e => ?_, fun a b _ _ z => ?_, fun _ _ _ _ z => z.elim⟩
      · rw [hf0] at z
        have z : (acc.getD a false != acc.getD b false) = true := z
        exact absurd e.nil (bne_iff_ne.mp z)
      · rw [hf0]
        have := dw_zero.mp z
        exact bne_iff_ne.mpr this
    have F2 : FD H2 D n (n * n) (fun _ _ => True) f0 kvs := F2.to (Nat.le_refl _) fun x y hx _ _ => hx
    walk_at "rc"
    walk_at "rs"
    walk_at "rc"
    refine ⟨(n : Int), rfl, by omega, by omega, ?_⟩
    rw [Int.toNat_natCast]
    refine fo_range (n := n) (fun t σ H' => ∃ (k5 k6 k7 k8 : Option V) (kvs : List (List L2.Key × V)) (f : Nat → Nat → Bool), σ = [some (.str ls), some va, some vt, some (.int (n : Int)), some (.ref D), k5, k6, k7, k8, none, none, none, none, none] ∧ Ex H H' ∧ FD H' D n (n * n) (fun _ _ => True) f kvs ∧ Far n ls.length acc tab t (fun _ _ => False) f) ⟨_, _, _, _, _, _, rfl, e2, F2, Fa⟩ ?_ ?_
    · clear F2 e2 Fa
      rintro t σ H3 ht ⟨k5, k6, k7, k8, kvs, f, rfl, e3, F3, Fa⟩
      walk_at "rc"
      refine ⟨(n : Int), rfl, by omega, by omega, ?_⟩
      rw [Int.toNat_natCast]
      refine fo_range (n := n) (fun a σ H' => ∃ (k5 k6 k8 : Option V) (kvs : List (List L2.Key × V)) (f : Nat → Nat → Bool), σ = [some (.str ls), some va, some vt, some (.int (n : Int)), some (.ref D), k5, k6, some (.int (t : Int)), k8, none, none, none, none, none] ∧ Ex H H' ∧ FD H' D n (n * n) (fun _ _ => True) f kvs ∧ Far n ls.length acc tab t (fun x _ => x < a) f) ⟨_, _, _, _, _, rfl, e3, F3, ⟨Fa.so, Fa.co, fun _ _ _ _ z => absurd z (Nat.not_lt_zero _)⟩⟩ ?_ ?_
      · clear F3 e3 Fa
        rintro a σ H3 ha ⟨k5, k6, k8, kvs, f, rfl, e3, F3, Fa⟩
        walk_at "rc"
        refine ⟨(n : Int), rfl, by omega, by omega, ?_⟩
        rw [Int.toNat_natCast]
        refine fo_range (n := n) (fun b σ H' => ∃ (k6 k8 : Option V) (kvs : List (List L2.Key × V)) (f : Nat → Nat → Bool), σ = [some (.str ls), some va, some vt, some (.int (n : Int)), some (.ref D), some (.int (a : Int)), k6, some (.int (t : Int)), k8, none, none, none, none, none] ∧ Ex H H' ∧ FD H' D n (n * n) (fun _ _ => True) f kvs ∧ Far n ls.length acc tab t (fun x y => x < a ∨ (x = a ∧ y < b)) f) ⟨_, _, _, _, rfl, e3, F3, ⟨Fa.so, Fa.co, fun x y hx hy z => Fa.dn x y hx hy (z.resolve_right fun w => Nat.not_lt_zero _ w.2)⟩⟩ ?_ ?_
        · clear F3 e3 Fa
          rintro b σ H3 hb ⟨k6, k8, kvs, f, rfl, e3, F3, Fa⟩
          walk_at "rc"
          refine rd_lenS (z := ls) (by omega) ?_
          walk_at "rc"
          refine ⟨(ls.length : Int), rfl, by omega, by omega, ?_⟩
          rw [Int.toNat_natCast]
          refine fo_range (n := ls.length) (fun k σ H' => ∃ (k8 : Option V) (kvs : List (List L2.Key × V)) (f : Nat → Nat → Bool), σ = [some (.str ls), some va, some vt, some (.int (n : Int)), some (.ref D), some (.int (a : Int)), some (.int (b : Int)), some (.int (t : Int)), k8, none, none, none, none, none] ∧ Ex H H' ∧ FD H' D n (n * n) (fun _ _ => True) f kvs ∧ Far n ls.length acc tab t (fun x y => x < a ∨ (x = a ∧ y < b)) f ∧ ∀ j, j < k → Dw ls.length acc tab t (dl tab a j) (dl tab b j) → f a b = true) ⟨_, _, _, rfl, e3, F3, Fa, fun j hj => absurd hj (Nat.not_lt_zero _)⟩ ?_ ?_
          · clear F3 e3 Fa
            rintro k σ H3 hk ⟨k8, kvs, f, rfl, e3, F3, Fa, hd⟩
            walk_at "rc"
            refine rd_tk e3 hT hR tb ha hk (fun v h => by walk_at "rc"; exact h) ?_
            walk_at "rc"
            refine rd_tk e3 hT hR tb hb hk (fun v h => by walk_at "rc"; exact h) ?_
            walk_at "rc"
            refine ⟨by show 2 ≤ sizeLine; omega, fun x hx => ?_⟩
            have e4 : Ex H3 (upd H3 x (.tup [.int ((dl tab a k : Nat) : Int), .int ((dl tab b k : Nat) : Int)])) := Evl.Ex.new hx
            have hx4 : upd H3 x (.tup [.int ((dl tab a k : Nat) : Int), .int ((dl tab b k : Nat) : Int)]) x = some (.tup ((kp (dl tab a k) (dl tab b k)).map kV)) := upd_same
            generalize upd H3 x (.tup [.int ((dl tab a k : Nat) : Int), .int ((dl tab b k : Nat) : Int)]) = H4 at e4 hx4
            have F4 := F3.ex e4
            have b1 : dl tab a k < n := tb.b a k ha hk
            have b2 : dl tab b k < n := tb.b b k hb hk
            have hg := DGet.t F4.d hx4
            rw [F4.v _ _ b1 b2 True.intro] at hg
            refine ⟨D, _, rfl, hg, _, rfl, ?_⟩
            cases hfv : f (dl tab a k) (dl tab b k) with
            | true =>
              refine rd_iteT ?_
              walk_at "rc"
              refine ⟨by show 2 ≤ sizeLine; omega, fun y hy => ?_⟩
              have e5 : Ex H4 (upd H4 y (.tup [.int (a : Int), .int (b : Int)])) := Evl.Ex.new hy
              have hy5 : upd H4 y (.tup [.int (a : Int), .int (b : Int)]) y = some (.tup ((kp a b).map kV)) := upd_same
              generalize upd H4 y (.tup [.int (a : Int), .int (b : Int)]) = H5 at e5 hy5
              have F5 := F4.ex e5
              refine ⟨D, _, rfl, DPut.t F5.d hy5 (by have := F5.l; omega), ?_⟩
              have ne : ¬ Eqv ls.length acc tab a b := fun z => Fa.so _ _ b1 b2 hfv (z.step hk)
              exact ⟨_, _, _, rfl, Evl.Ex.mut (e3.trans (e4.trans e5)) hD, F5.set ha hb, Fa.put ne, fun j _ _ => by unfold setF; rw [if_pos ⟨rfl, rfl⟩]⟩
            | false =>
              refine rd_iteF ?_
              walk_at "rc"
              refine ⟨_, _, _, rfl, e3.trans e4, F4, Fa, fun j hj z => ?_⟩
              rcases Nat.lt_or_ge j k with y | y
              · exact hd j y z
              · obtain rfl : j = k := by omega
                rw [Fa.co _ _ b1 b2 z] at hfv
                cases hfv
          · rintro σ H4 ⟨k8, kvs, f, rfl, e4, F4, Fa, hd⟩
            refine ⟨_, _, _, _, rfl, e4, F4, ?_⟩
            have := Fa.pair (a := a) (b := b) hd
            exact ⟨this.so, this.co, fun x y hx hy z => this.dn x y hx hy (by omega)⟩
        · rintro σ H4 ⟨k6, k8, kvs, f, rfl, e4, F4, Fa⟩
          exact ⟨_, _, _, _, _, rfl, e4, F4, ⟨Fa.so, Fa.co, fun x y hx hy z => Fa.dn x y hx hy (by omega)⟩⟩
      · rintro σ H4 ⟨k5, k6, k8, kvs, f, rfl, e4, F4, Fa⟩
        exact ⟨_, _, _, _, _, _, rfl, e4, F4, Fa.next fun a b ha _ => ha⟩
    clear F2 e2 Fa
    rintro σ H3 ⟨k5, k6, k7, k8, kvs, f, rfl, e3, F3, Fa⟩
    have FE : FarE n ls.length acc tab f := ⟨tb, fun a b ha hb => Fa.done' tb ha hb⟩
    clear Fa
    walk_at "rc"
    refine ⟨by show 1 ≤ sizeLine; omega, fun po hpo => ?_⟩
    have hpoH : H po = none := by
      cases y : H po with
      | none => rfl
      | some ob => rw [e3 po ob y] at hpo; cases hpo
    have nDp : D ≠ po := fun z => by rw [← z, F3.d] at hpo; cases hpo
    have e4 : Ex H3 (upd H3 po (.lst [.int 0])) := Evl.Ex.new hpo
    have hp4 : upd H3 po (.lst [.int 0]) po = some (.lst (([0] : List Nat).map vI)) := upd_same
    generalize upd H3 po (.lst [.int 0]) = H4 at e4 hp4
    have F4 := F3.ex e4
    have e4 := e3.trans e4
    clear F3 e3 hpo
    walk_at "rc"
    walk_at "rs"
    walk_at "rc"
    refine ⟨(n : Int), rfl, by omega, by omega, ?_⟩
    rw [Int.toNat_natCast]
    refine fo_range (n := n) (fun t σ H' => ∃ (k7 k8 k10 : Option V) (od : List Nat) (m : Nat), σ = [some (.str ls), some va, some vt, some (.int (n : Int)), some (.ref D), k5, k6, k7, k8, some (.ref po), k10, none, none, none] ∧ Ex H H' ∧ FD H' D n (n * n) (fun _ _ => True) f kvs ∧ H' po = some (.lst (od.map vI)) ∧ Od n ls.length acc tab f od m ∧ (t ≤ m ∨ m = od.length)) ⟨_, _, _, [0], 0, rfl, e4, F4, hp4, FE.start, .inl (Nat.le_refl _)⟩ ?_ ?_
    · clear F4 e4 hp4
      rintro t σ H5 ht ⟨k7, k8, k10, od, m, rfl, e5, F5, hp5, O5, htm⟩
      have odl := O5.len FE
      walk_at "rc"
      refine rd_anyL' ?_
      walk_at "rc"
      refine rd_lstL (.inl (SqL.of hp5)) fun l hl => ?_
      have nlp : po ≠ l := fun z => by rw [← z, hp5] at hl; cases hl
      have e6 : Ex H5 (upd H5 l (.lst (od.map vI))) := Evl.Ex.new hl
      have hl6 : upd H5 l (.lst (od.map vI)) l = some (.lst (od.map vI)) := upd_same
      have hlH : H l = none := by
        cases y : H l with
        | none => rfl
        | some ob => rw [e5 l ob y] at hl; cases hl
      generalize upd H5 l (.lst (od.map vI)) = H6 at e6 hl6
      have F6 := F5.ex e6
      have hp6 := e6 _ _ hp5
      refine ⟨l, rfl, ⟨_, SqL.of hl6⟩, ?_⟩
      refine fo_list (xs := od.map vI) (fun i σ H' => ∃ (k8 k10 : Option V) (od' more : List Nat), σ = [some (.str ls), some va, some vt, some (.int (n : Int)), some (.ref D), k5, k6, some (.int (t : Int)), k8, some (.ref po), k10, none, none, none] ∧ Ex H H' ∧ FD H' D n (n * n) (fun _ _ => True) f kvs ∧ H' po = some (.lst (od'.map vI)) ∧ H' l = some (.lst (od.map vI)) ∧ od' = od ++ more ∧ Od n ls.length acc tab f od' (max m i) ∧ (i ≤ m → more = []))
        ⟨_, _, od, [], rfl, e5.trans e6, F6, hp6, hl6, (List.append_nil _).symm, by rw [Nat.max_eq_left (Nat.zero_le _)]; exact O5, fun _ => rfl⟩ (fun i σ H' _ z => ?_) ?_ ?_
      · obtain ⟨_, _, _, _, _, _, _, _, z, _⟩ := z
        exact SqL.of z
      · clear F6 hp6 hl6 F5 hp5 e6 hl
        rintro i x σ H7 hi ⟨k8, k10, od', more, rfl, e7, F7, hp7, hl7, hpre, O7, hm0⟩
        rw [List.getElem?_map] at hi
        obtain ⟨s, hs, rfl⟩ := Option.map_eq_some_iff.mp hi
        have hs' : od'[i]? = some s := by rw [hpre, List.getElem?_append_left (ltQ hs)]; exact hs
        have sn := O7.lt s (List.mem_of_getElem? hs')
        have hil := ltQ hs
        walk_at "rc"
        refine rd_lenS (z := ls) (by omega) ?_
        walk_at "rc"
        refine ⟨(ls.length : Int), rfl, by omega, by omega, ?_⟩
        rw [Int.toNat_natCast]
        refine fo_range (n := ls.length) (fun j σ H' => ∃ (k8 : Option V) (od2 more2 : List Nat), σ = [some (.str ls), some va, some vt, some (.int (n : Int)), some (.ref D), k5, k6, some (.int (t : Int)), k8, some (.ref po), some (.int (s : Int)), none, none, none] ∧ Ex H H' ∧ FD H' D n (n * n) (fun _ _ => True) f kvs ∧ H' po = some (.lst (od2.map vI)) ∧ H' l = some (.lst (od.map vI)) ∧ od2 = od ++ more2 ∧
          (i < m → od2 = od') ∧ (m ≤ i → OdL n ls.length acc tab f od2 i s j))
          ⟨_, od', more, rfl, e7, F7, hp7, hl7, hpre, fun _ => rfl, fun h => by rw [Nat.max_eq_right h] at O7; exact O7.open' hs'⟩ ?_ ?_
        · clear F7 hp7 hl7 e7
          rintro j σ H7 hj ⟨k8, od2, more2, rfl, e7, F7, hp7, hl7, hpre2, hlo, hhi⟩
          have lt2 : ∀ y ∈ od2, y < n := by
            rcases Nat.lt_or_ge i m with z | z
            · rw [hlo z]; exact O7.lt
            · exact (hhi z).lt
          have od2l : od2.length ≤ n := by
            rcases Nat.lt_or_ge i m with z | z
            · rw [hlo z]; exact O7.len FE
            · exact (hhi z).len FE
          have xn : dl tab s j < n := tb.b s j sn hj
          have wk : Walk (Itl K po) od2.length (fun H => SqL K H po (od2.map vI)) (YAt (od2.map vI)) := by
            have w := walk_list (K := K) (a := po) (xs := od2.map vI)
            rw [List.length_map] at w
            exact w
          walk_at "rc"
          refine rd_anyL' ?_
          walk_at "rc"
          refine ⟨po, rfl, ⟨_, SqL.of hp7⟩, ?_⟩
          refine lc_F (K := K) (S := []) (P := fun i x => x = V.int ((od2.getD i 0 : Nat) : Int)) tr_ex (fun b hb => nomatch hb) wk (fun i H x H' hi y => ⟨y.1, ?_⟩) (by omega) (fun Hc e => SqL.of (e _ _ hp7)) (fun i => !f (dl tab s j) (od2.getD i 0)) (fun i => nI (od2.getD i 0)) (hg_name fun v => rfl) (fun L i2 σ2 Hc hi2 p2 hL nL t1 hs1 up N hN => ?_) (fun L i2 σ2 Hc hi2 p2 _ hL nL t1 hs1 up N hN => ?_) fun L us H8 e8 hL nLs hL8 hds => ?_
          · have y2 : (od2.map vI)[i]? = some x := y.2
            rw [List.getElem?_map, at_getD hi] at y2
            exact (Option.some.inj y2).symm
          · obtain ⟨v, rfl, rfl⟩ := p2
            walk_at "rc"
            refine rd_tk (e7.trans t1) hT hR tb sn hj (fun v h => by walk_at "rc"; exact h) ?_
            walk_at "rc"
            refine ⟨by show 2 ≤ sizeLine; omega, fun q1 hq1 => ?_⟩
            have e9 : Ex Hc (upd Hc q1 (.tup [.int ((dl tab s j : Nat) : Int), .int ((od2.getD i2 0 : Nat) : Int)])) := Evl.Ex.new hq1
            have hq9 : upd Hc q1 (.tup [.int ((dl tab s j : Nat) : Int), .int ((od2.getD i2 0 : Nat) : Int)]) q1 = some (.tup ((kp (dl tab s j) (od2.getD i2 0)).map kV)) := upd_same
            generalize upd Hc q1 (.tup [.int ((dl tab s j : Nat) : Int), .int ((od2.getD i2 0 : Nat) : Int)]) = H9 at e9 hq9
            have F9 := F7.ex (t1.trans e9)
            have hg := DGet.t F9.d hq9
            rw [F9.v _ _ xn (lt2 _ (List.mem_of_getElem? (at_getD hi2))) True.intro] at hg
            exact ⟨D, _, rfl, hg, _, rfl, hN _ e9⟩
          · obtain ⟨v, rfl, rfl⟩ := p2
            walk_at "rc"
            exact hN _ _ (Evl.Ex.refl _) (.int _)
          · have F8 := F7.ex e8
            have hp8 := e8 _ _ hp7
            have hl8 := e8 _ _ hl7
            have e8 := e7.trans e8
            walk_at "rc"
            refine ⟨by show 0 ≤ sizeLine; omega, fun z hz => ?_⟩
            have e9 : Ex H8 (upd H8 z (.lst [])) := Evl.Ex.new hz
            have hz9 : upd H8 z (.lst []) z = some (.lst []) := upd_same
            have dL := ((Dp.frz (K := K) hL8 nLs hds).ex hid_ex).ex e9
            generalize upd H8 z (.lst []) = H9 at e9 hz9 dL
            refine .inr ⟨_, .list [], dL, .lst (SqL.of hz9) .nil, (Ly.lay (Ly.list (n := 0) fun d hd => by obtain ⟨_, _, rfl⟩ := List.mem_map.mp hd; exact Ly.int) (by decide)).sh, (Ly.lay (Ly.list (n := 0) (ds := []) fun d hd => absurd hd List.not_mem_nil) (by decide)).sh, ?_⟩
            rw [eqv_nil]
            refine ⟨_, rfl, ?_⟩
            have F9 := F8.ex e9
            have hp9 := e9 _ _ hp8
            have hl9 := e9 _ _ hl8
            have e9 := e8.trans e9
            have iff := FE.new_iff lt2 xn
            by_cases hin : clK n f (dl tab s j) ∈ od2.map (clK n f)
            · refine rd_itef ?_ ?_
              · have : (List.range od2.length).filter (fun j2 => !f (dl tab s j) (od2.getD j2 0)) ≠ [] := fun z => iff.mp z hin
                rw [List.isEmpty_eq_false_iff]
                exact fun z => this (List.map_eq_nil_iff.mp z)
              · walk_at "rc"
                exact ⟨_, od2, more2, rfl, e9, F9, hp9, hl9, hpre2, hlo, fun h => (hhi h).old FE hj hin⟩
            · refine rd_itet ?_ ?_
              · rw [List.isEmpty_iff, iff.mpr hin]; rfl
              · have hmi : m ≤ i := by
                  rcases Nat.lt_or_ge i m with z | z
                  · refine absurd ?_ hin
                    rw [hlo z]
                    rw [Nat.max_eq_left (Nat.le_of_lt z)] at O7
                    exact O7.cl i s z hs' j hj
                  · exact z
                walk_at "rc"
                refine ⟨.inl ⟨rfl, _, SqL.of hp9⟩, ?_⟩
                walk_at "rc"
                refine rd_tk e9 hT hR tb sn hj (fun v h => by walk_at "rc"; exact h) ?_
                walk_at "rc"
                refine ⟨po, _, _, rfl, rfl, hp9, by rw [List.length_map]; omega, ?_⟩
                rw [vI_app]
                exact ⟨_, od2 ++ [dl tab s j], more2 ++ [dl tab s j], rfl, Evl.Ex.mut e9 hpoH, ⟨by rw [upd_ne nDp]; exact F9.d, F9.l, F9.v⟩, upd_same, by rw [upd_ne (Ne.symm nlp)]; exact hl9, by rw [hpre2, List.append_assoc], fun h => absurd h (by omega), fun h => (hhi h).new FE hj hin⟩
        · clear F7 hp7 hl7 e7
          rintro σ H7 ⟨k8, od2, more2, rfl, e7, F7, hp7, hl7, hpre2, hlo, hhi⟩
          refine ⟨_, _, od2, more2, rfl, e7, F7, hp7, hl7, hpre2, ?_, fun h => ?_⟩
          · rcases Nat.lt_or_ge i m with z | z
            · rw [hlo z, Nat.max_eq_left (by omega)]
              rw [Nat.max_eq_left (Nat.le_of_lt z)] at O7
              exact O7
            · rw [Nat.max_eq_right (by omega)]
              exact (hhi z).next l0
          · have e := hlo (by omega)
            rw [hpre2, hpre, hm0 (by omega)] at e
            exact List.append_cancel_left e
      · clear F6 hp6 hl6 F5 hp5 e6 hl
        rintro σ H7 ⟨k8, k10, od', more, rfl, e7, F7, hp7, hl7, hpre, O7, hm0⟩
        rw [List.length_map] at O7 hm0
        have ml := O5.le
        rw [Nat.max_eq_right ml] at O7
        refine ⟨_, _, _, od', od.length, rfl, e7, F7, hp7, O7, ?_⟩
        rcases Nat.lt_or_ge m od.length with z | z
        · exact .inl (by omega)
        · right
          rw [hpre, hm0 (by omega), List.append_nil]
    clear F4 e4 hp4
    rintro σ H5 ⟨k7, k8, k10, od, m, rfl, e5, F5, hp5, O5, htm⟩
    have odl := O5.len FE
    have O5 : Od n ls.length acc tab f od od.length := by
      have := O5.le
      have e : m = od.length := by omega
      rw [← e]; rw [← e] at *
      exact O5
    walk_at "rc"
    refine ⟨by show 0 ≤ sizeLine; omega, fun pr hpr => ?_⟩
    have hprH : H pr = none := by
      cases y : H pr with
      | none => rfl
      | some ob => rw [e5 pr ob y] at hpr; cases hpr
    have nDr : D ≠ pr := fun z => by rw [← z, F5.d] at hpr; cases hpr
    have npr : po ≠ pr := fun z => by rw [← z, hp5] at hpr; cases hpr
    have e6 : Ex H5 (upd H5 pr (.lst [])) := Evl.Ex.new hpr
    have hr6 : upd H5 pr (.lst []) pr = some (.lst []) := upd_same
    generalize upd H5 pr (.lst []) = H6 at e6 hr6
    have F6 := F5.ex e6
    have hp6 := e6 _ _ hp5
    have e6 := e5.trans e6
    clear F5 hp5 e5 hpr
    have odn : ∀ i, i < od.length → od.getD i 0 < n := fun i hi => O5.lt _ (List.mem_of_getElem? (at_getD hi))
    walk_at "rc"
    walk_at "rs"
    walk_at "rc"
    refine rd_anyL' ?_
    walk_at "rc"
    refine ⟨po, rfl, ⟨_, SqL.of hp6⟩, ?_⟩
    refine fo_list (xs := od.map vI) (fun i σ H' => ∃ (k10 : Option V) (us : List V), σ = [some (.str ls), some va, some vt, some (.int (n : Int)), some (.ref D), k5, k6, k7, k8, some (.ref po), k10, some (.ref pr), none, none] ∧ Ex H H' ∧ FD H' D n (n * n) (fun _ _ => True) f kvs ∧ H' po = some (.lst (od.map vI)) ∧ H' pr = some (.lst us) ∧ DpAll K (hid [pr] H') us (((odT f tab od).take i).map fun r => PyData.tuple (r.map nI))) ⟨_, [], rfl, e6, F6, hp6, hr6, by rw [List.take_zero]; exact .nil⟩ (fun i σ H' _ z => ?_) ?_ ?_
    · obtain ⟨_, _, _, _, _, z, _⟩ := z
      exact SqL.of z
    · clear F6 hp6 hr6 e6
      rintro i x σ H7 hi ⟨k10, us, rfl, e7, F7, hp7, hr7, hd7⟩
      rw [List.getElem?_map] at hi
      obtain ⟨s, hs, rfl⟩ := Option.map_eq_some_iff.mp hi
      have sn := O5.lt s (List.mem_of_getElem? hs)
      have hil := ltQ hs
      have usl : us.length ≤ n := by
        rw [hd7.len, List.length_map, List.length_take]
        omega
      have eD : ∀ (L : Addr) (Hc : Hp), Ex H7 Hc → Hc D = some (.dT kvs) := fun L Hc e => e _ _ F7.d
      obtain ⟨row, hrow⟩ := getQ (l := tab) (i := s) (by rw [tb.l]; exact sn)
      have erow : tab.getD s [] = row := by rw [List.getD_eq_getElem?_getD, hrow]; rfl
      have rln := tb.w row (List.mem_of_getElem? hrow)
      have rbn : ∀ y ∈ row, y < n ∧ clK n f y ∈ od.map (clK n f) := fun y hy => by
        obtain ⟨j, hj⟩ := List.getElem?_of_mem hy
        have hjl := ltQ hj
        rw [rln] at hjl
        have ed : dl tab s j = y := by
          unfold dl
          rw [erow, List.getD_eq_getElem?_getD, hj]; rfl
        rw [← ed]
        exact ⟨tb.b s j sn hjl, O5.cl i s (by omega) hs j hjl⟩
      walk_at "rc"
      refine ⟨.inl ⟨rfl, _, SqL.of hr7⟩, ?_⟩
      walk_at "rc"
      have hls : s < ds.length := by rw [hR.1, tb.l]; exact sn
      obtain ⟨rv, hrv, hrx⟩ := sq_at hT (List.getElem?_eq_getElem hls)
      obtain ⟨row', h1, h2, h3⟩ := hR.get (List.getElem?_eq_getElem hls) hrv
      rw [hrow] at h1
      obtain rfl : row = row' := Option.some.inj h1
      refine rd_anySq (x := rv) (fun Q q => ?_) e7 h3 fun J wJ => ?_
      · walk_at "rc"
        exact hrx _ e7 _ q
      refine lc_MD (K := K) (S := []) tr_ex (fun b hb => nomatch hb) wJ (by rw [hid_nil]; exact e7) (by rw [List.length_map]; omega) (fun v => rfl) (fun d => match d with | .int i => nI (ixF f od i.toNat) | _ => .none) (fun L d v Hc hd hv hL nL t1 hs1 up N hN => ?_) fun L us2 H8 e8 hL nLs hL8 hds => ?_
      · obtain ⟨y, hy, rfl⟩ := List.mem_map.mp hd
        cases Dp.int_iff hv
        obtain ⟨yn, yin⟩ := rbn y hy
        obtain ⟨ix1, ix2, ix3⟩ := Od.ix FE O5.lt yn yin
        walk_at "rc"
        refine rd_lenL (SqL.of (t1 _ _ hp7)) ?_
        rw [List.length_map]
        walk_at "rc"
        refine ⟨(od.length : Int), rfl, by omega, by omega, ?_⟩
        rw [Int.toNat_natCast]
        refine lc_F (K := K) (S := [L]) (P := fun i x => x = V.int (i : Nat)) tr_ex hs1 walk_range0 rng_Y (by omega) (fun _ _ => True.intro) (fun j => !f y (od.getD j 0)) (fun j => nI j) (hg_name fun v => rfl) (fun L2 j σ2 Hd hj p2 hL2 nL2 t2 hs2 up2 N2 hN2 => ?_) (fun L2 j σ2 Hd hj p2 _ hL2 nL2 t2 hs2 up2 N2 hN2 => ?_) fun L2 us3 H9 e9 hL2 nL2 hL9 hds9 => ?_
        · obtain ⟨v, rfl, rfl⟩ := p2
          walk_at "rc"
          refine rd_ixL (SqL.of (t2 _ _ (t1 _ _ hp7))) (atI_nat (vI_at (at_getD hj))) ?_
          walk_at "rc"
          refine ⟨by show 2 ≤ sizeLine; omega, fun q1 hq1 => ?_⟩
          have ea : Ex Hd (upd Hd q1 (.tup [.int (y : Int), .int ((od.getD j 0 : Nat) : Int)])) := Evl.Ex.new hq1
          have hqa : upd Hd q1 (.tup [.int (y : Int), .int ((od.getD j 0 : Nat) : Int)]) q1 = some (.tup ((kp y (od.getD j 0)).map kV)) := upd_same
          generalize upd Hd q1 (.tup [.int (y : Int), .int ((od.getD j 0 : Nat) : Int)]) = Ha at ea hqa
          have Fa := F7.ex (t1.trans (t2.trans ea))
          have hg := DGet.t Fa.d hqa
          rw [Fa.v _ _ yn (odn j hj) True.intro] at hg
          exact ⟨D, _, rfl, hg, _, rfl, hN2 _ ea⟩
        · obtain ⟨v, rfl, rfl⟩ := p2
          walk_at "rc"
          exact hN2 _ _ (Evl.Ex.refl _) (.int _)
        · have u3 := dp_nats hds9
          obtain ⟨fl, hfl⟩ : ∃ fl, (List.range od.length).filter (fun j => !f y (od.getD j 0)) = fl := ⟨_, rfl⟩
          have hix : ixF f od y = fl.headD 0 := by unfold ixF; rw [hfl]
          rw [hfl] at u3 ix3
          cases fl with
          | nil => exact absurd rfl ix3
          | cons j0 fl =>
            walk_at "rc"
            refine rd_ixL (v := vI j0) (SqL.of hL9) (atI_nat (j := 0) (by rw [u3]; rfl)) ?_
            refine hN _ _ e9 ?_
            show Dp K _ (vI j0) (nI (ixF f od y))
            rw [hix]
            exact .int _
      · have ed : (row.map nI).map (fun d => match d with | .int i => nI (ixF f od i.toNat) | _ => PyData.none) = (row.map fun y => ixF f od y).map nI := by
          rw [List.map_map, List.map_map]
          exact List.map_congr_left fun t _ => rfl
        rw [ed] at hds
        have u2 := dp_nats hds
        rw [u2] at hL8
        walk_at "rc"
        refine rd_tupL (SqL.of hL8) fun tp htp => ?_
        have nprL : pr ≠ L := fun z => by rw [← z, hr7] at hL; cases hL
        have npt : pr ≠ tp := fun z => by rw [← z, e8 _ _ hr7] at htp; cases htp
        have e9 : Ex H8 (upd H8 tp (.tup ((row.map fun y => ixF f od y).map vI))) := Evl.Ex.new htp
        have ht9 : upd H8 tp (.tup ((row.map fun y => ixF f od y).map vI)) tp = some (.tup ((row.map fun y => ixF f od y).map vI)) := upd_same
        generalize upd H8 tp (.tup ((row.map fun y => ixF f od y).map vI)) = H9 at e9 ht9
        have e79 := e8.trans e9
        walk_at "rc"
        refine ⟨pr, us, _, rfl, rfl, e79 _ _ hr7, by omega, ?_⟩
        refine ⟨_, us ++ [.ref tp], rfl, Evl.Ex.mut (e7.trans e79) hprH, ⟨by rw [upd_ne nDr]; exact e79 _ _ F7.d, F7.l, F7.v⟩, by rw [upd_ne npr]; exact e79 _ _ hp7, upd_same, ?_⟩
        have hod : (odT f tab od).take (i + 1) = (odT f tab od).take i ++ [row.map fun y => ixF f od y] := by
          rw [List.take_succ, odT, List.getElem?_map, hs, Option.map_some, erow]; rfl
        rw [hod, List.map_append]
        have kk : Kp [pr] H7 (upd H9 pr (.lst (us ++ [.ref tp]))) := (Kp.of_ex e79).trans (Kp.put List.mem_cons_self)
        refine (hd7.ex kk.ex).snoc ?_
        refine .tup (Evl.st_of (by rw [hid_at (fun z => npt (List.mem_singleton.mp z).symm), upd_ne (Ne.symm npt)]; exact ht9)) (DpAll.mapV _ _ _ fun y _ => .int y)
    clear F6 hp6 hr6 e6
    rintro σ H7 ⟨k10, us, rfl, e7, F7, hp7, hr7, hd7⟩
    rw [List.length_map, List.take_of_length_le (by rw [odT, List.length_map]; exact Nat.le_refl _)] at hd7
    have wk : Walk (Itl K po) od.length (fun H => SqL K H po (od.map vI)) (YAt (od.map vI)) := by
      have w := walk_list (K := K) (a := po) (xs := od.map vI)
      rw [List.length_map] at w
      exact w
    walk_at "rc"
    refine rd_anyL' ?_
    walk_at "rc"
    refine ⟨po, rfl, ⟨_, SqL.of hp7⟩, ?_⟩
    refine lc_F (K := K) (S := []) (P := fun i x => x = V.int ((od.getD i 0 : Nat) : Int)) tr_ex (fun b hb => nomatch hb) wk (fun i H x H' hi y => ⟨y.1, ?_⟩) (by omega) (fun Hc e => SqL.of (e _ _ hp7)) (fun _ => true) (fun i => .bool (acc.getD (od.getD i 0) false)) (hg_name fun v => rfl) (fun L i2 σ2 Hc hi2 p2 hL nL t1 hs1 up N hN => rd_yes (hN Hc (Evl.Ex.refl Hc))) (fun L i2 σ2 Hc hi2 p2 _ hL nL t1 hs1 up N hN => ?_) fun L us2 H8 e8 hL nLs hL8 hds => ?_
    · have y2 : (od.map vI)[i]? = some x := y.2
      rw [List.getElem?_map, at_getD hi] at y2
      exact (Option.some.inj y2).symm
    · obtain ⟨v, rfl, rfl⟩ := p2
      walk_at "rc"
      refine rd_ab (e7.trans t1) hA (by rw [hn]; exact odn i2 hi2) ?_
      exact hN _ _ (Evl.Ex.refl _) (.bl _)
    · have ea : ((List.range od.length).filter fun _ => true).map (fun i => PyData.bool (acc.getD (od.getD i 0) false)) = (odA acc od).map PyData.bool := by
        rw [List.filter_eq_self.mpr fun _ _ => rfl, odA, List.map_map]
        exact map_getE od 0 fun s => PyData.bool (acc.getD s false)
      rw [ea] at hds
      have u2 := dp_bls hds
      rw [u2] at hL8
      have hr8 := e8 _ _ hr7
      have hd8 := (hd7.ex (Kp.of_ex (S := [pr]) e8).ex).ex hid_ex
      walk_at "rc"
      refine rd_tupL (SqL.of hL8) fun ta hta => ?_
      have e9 : Ex H8 (upd H8 ta (.tup ((odA acc od).map V.bl))) := Evl.Ex.new hta
      have ht9 : upd H8 ta (.tup ((odA acc od).map V.bl)) ta = some (.tup ((odA acc od).map V.bl)) := upd_same
      generalize upd H8 ta (.tup ((odA acc od).map V.bl)) = H9 at e9 ht9
      walk_at "rc"
      refine rd_tupL (SqL.of (e9 _ _ hr8)) fun tt htt => ?_
      have ea : Ex H9 (upd H9 tt (.tup us)) := Evl.Ex.new htt
      have hta : upd H9 tt (.tup us) tt = some (.tup us) := upd_same
      generalize upd H9 tt (.tup us) = Ha at ea hta
      walk_at "rc"
      refine ⟨by show 3 ≤ sizeLine; omega, fun p hp => ?_⟩
      have eb : Ex Ha (upd Ha p (.tup [.str ls, .ref ta, .ref tt])) := Evl.Ex.new hp
      obtain ⟨C, lg⟩ := O5.cano FE
      refine q (.ref p) (odA acc od) (odT f tab od) _ (e7.trans (e8.trans (e9.trans (ea.trans eb)))) ?_ C (by rw [odA, List.length_map, hn]; exact odl) lg
      refine .tup (Evl.st_of upd_same) (.cons (.str _) (.cons ?_ (.cons ?_ .nil)))
      · exact .tup (Evl.st_of (eb _ _ (ea _ _ ht9))) (dps_bl _)
      · exact .tup (Evl.st_of (eb _ _ hta)) (hd8.ex (e9.trans (ea.trans eb)))
end
/-! ### texts over letters -/
def isT (ls z : Str) : Prop := ∀ c ∈ z.cps.toList, c ∈ ls.cps.toList
instance (ls z : Str) : Decidable (isT ls z) := by unfold isT; infer_instance
def spIsText : Sp := fun vs H Q _ => ∃ ls z : Str, vs = [.str ls, .str z] ∧ z.length < 100000 ∧ ∀ H', Ex H H' → Q (.bl (decide (isT ls z))) H'
theorem all_of {l m : List Nat} : ((l.map fun c => decide (c ∈ m)).all id) = decide (∀ c ∈ l, c ∈ m) := by
  rw [Bool.eq_iff_iff, List.all_eq_true, decide_eq_true_iff]
  exact ⟨fun h c hc => of_decide_eq_true (h _ (List.mem_map.mpr ⟨c, hc, rfl⟩)), fun h b hb => by
    obtain ⟨c, hc, rfl⟩ := List.mem_map.mp hb
    exact decide_eq_true (h c hc)⟩
theorem ok_is_text (T : Txt K mg) : FnOk P w K mg base CX0 1 T.a_is_text T.d_is_text ["letters", "text"] spIsText := by
  refine T.f_is_text.ok sc_is_text (fun vs H Q E h => ?_) (fun cdv A outer s H vs Q E hr h => ?_)
  · obtain ⟨_, _, rfl, _⟩ := h; rfl
  · obtain ⟨ls, z, rfl, hz, q⟩ := h
    refine ⟨_, (pss_one (ps_ret (pe_callB (kAll K) (by rfl) T.nb_all (by decide +kernel) (pa_cons (pe_lc (own := [("letter", 2)]) (g := gName 2) (tt := tYes) (by rfl) sc_is_text.nd (kAny K rfl (pv 1)) (blkOk_by (own := [("letter", 2)]) (N := ["letters", "text", "letter"]) (sc := defScope s_is_text) (by decide +kernel)) (fun _ _ _ _ _ => (pg_name (i := 2) sc_is_text.nd rfl (by first | exact Or.inl rfl | exact Or.inr rfl))) (fun _ _ _ _ _ => pts_nil) (fun _ _ _ _ _ => (pe_cmpR (kIn K) (pv 2) (pv 0) (by first | rfl | exact nomark _)))) pa_nil)))), ?_⟩
    walk_at "rd"
    refine rd_anyS (fun Q q => ⟨_, rfl, q⟩) ?_
    refine lc_pure (n := z.cps.size) (xs := fun i => .str ⟨#[z.cps.toList.getD i 0]⟩) (f := fun _ => true) (v := fun i => .bl (decide (z.cps.toList.getD i 0 ∈ ls.cps.toList))) walk_str (fun i H x H' hi y => ?_) (fun _ _ => True.intro) hz (fun _ _ _ _ => ans_yes) (fun i Hc hi e _ => ?_) fun L hL => ?_
    · obtain ⟨rfl, c, e, rfl⟩ := y
      rw [← Array.getElem?_toList] at e
      exact ⟨rfl, by rw [List.getD_eq_getElem?_getD, e]; rfl⟩
    · intro Q q
      walk_at "rd"
      exact q
    · have e : Evl.given z.cps.size (fun _ => true) (fun i => V.bl (decide (z.cps.toList.getD i 0 ∈ ls.cps.toList))) = (z.cps.toList.map fun c => decide (c ∈ ls.cps.toList)).map V.bl := by
        rw [given_eq z.cps.toList (fun _ => true) (fun c => V.bl (decide (c ∈ ls.cps.toList))) _ _ (fun _ _ _ => rfl) (fun i x hx => by rw [List.getD_eq_getElem?_getD, hx]; rfl) z.cps.size (by simp)]
        rw [show z.cps.size = z.cps.toList.length from rfl, List.take_length, List.filter_eq_self.mpr (fun _ _ => rfl), List.map_map]
        rfl
      rw [e]
      walk_at "rd"
      refine ⟨L, _, rfl, SqL.of upd_same, ?_⟩
      rw [all_of]
      exact q _ (Evl.Ex.new hL)
/-- a drawn word -/
def spWord : Sp := fun vs H Q _ => ∃ (p : Addr) (ls : Str) (most : Nat), vs = [.str ls, .ref p, .int (most : Int)] ∧ 0 < ls.length ∧ ls.length ≤ 1000 ∧ most ≤ 1000 ∧ StAt H p ∧ ∀ (t : Str) (H' : Hp), isT ls t → t.length ≤ most → Dr p H H' → Q (.str t) H'
theorem ok_word (T : Txt K mg) : FnOk P w K mg base CX0 2 T.a_word T.d_word ["letters", "state", "most"] spWord := by
  refine T.f_word.ok sc_word (fun vs H Q E h => ?_) (fun cdv A outer s H vs Q E hr h => ?_)
  · obtain ⟨_, _, _, rfl, _⟩ := h; rfl
  · obtain ⟨p, ls, most, rfl, l0, l1, hm, hS, q⟩ := h
    have lz : ls.length ≤ sizeLine := Nat.le_trans l1 (by decide)
    refine ⟨_, (pss_one (ps_ret (kBm K rfl (pe_bm PySem.F.plainAttrs_str PySem.F.slot_str_join PySem.F.type_str_join (kJoin K) pe_str (pa_cons (pe_lc (own := [("k", 3)]) (g := gName 3) (tt := tYes) (by rfl) sc_word.nd (pi_range1 (by rfl) T.nb_range (pa_cons (pe_callE (ok_next T) (hr.mono (by decide)) T.o_next (pa_cons (pv 1) (pa_cons (pe_op (kAdd K) (pv 2) pe_int) pa_nil))) pa_nil)) (blkOk_by (own := [("k", 3)]) (N := ["letters", "state", "most", "k"]) (sc := defScope s_word) (by decide +kernel)) (fun _ _ _ _ _ => (pg_name (i := 3) sc_word.nd rfl (by first | exact Or.inl rfl | exact Or.inr rfl))) (fun _ _ _ _ _ => pts_nil) (fun _ _ _ _ _ => (pe_ix (kIx K) (pv 0) (pe_callE (ok_next T) (hr.mono (by decide)) T.o_next (pa_cons (pv 1) (pa_cons (pe_callB (kLen K) (by rfl) T.nb_len (by decide +kernel) (pa_cons (pv 0) pa_nil)) pa_nil))) (fun _ _ => rfl)))) pa_nil))))), ?_⟩
    walk_at "rc"
    refine ⟨rfl, ?_⟩
    walk_at "rc"
    refine ⟨p, _, rfl, by omega, hS, fun nn H1 r0 r1 S1 o1 i1 => ?_⟩
    have d1 : Dr p H H1 := ⟨S1, o1, i1.2⟩
    walk_at "rc"
    refine ⟨nn, rfl, by omega, by omega, ?_⟩
    refine lc_R (K := K) (S := [p]) (P := fun i x => x = V.int (i : Nat)) (tr_dr S1 List.mem_cons_self) (st1 S1.some.choose_spec) walk_range0 rng_Y (by omega) (fun _ _ => True.intro) (fun i d => ∃ c : Nat, d = .str ⟨#[c]⟩ ∧ c ∈ ls.cps.toList) (hg_name fun v => rfl) (fun L i σ2 Hc hi p2 hL nL dc hs up N hN => ?_) fun L us Hc ds dc hL nL hus hds hlen hR => ?_
    · obtain ⟨v, rfl, rfl⟩ := p2
      walk_at "rc"
      refine rd_lenS lz ?_
      refine ⟨p, _, rfl, by omega, dc.st, fun r H3 q0 q1 S3' o3' i3' => ?_⟩
      obtain ⟨c, hc, cm⟩ := at_str (z := ls) q0 q1
      refine rd_ixS lz hc ?_
      exact hN _ _ _ ⟨S3', o3', i3'.2⟩ (.str _) ⟨c, rfl, cm⟩
    · obtain ⟨cs, rfl, hcs⟩ := map_ofD (f := fun c : Nat => PyData.str ⟨#[c]⟩) ds hR
      have es : cs.map (fun c : Nat => PyData.str ⟨#[c]⟩) = (cs.map fun c => (⟨#[c]⟩ : Str)).map PyData.str := by rw [List.map_map]; rfl
      rw [List.length_map] at hlen
      rw [es] at hds
      have eu := dp_strs hds
      subst eu
      walk_at "rc"
      refine ⟨"", L, _, rfl, rfl, .inl (SqL.of hus), ?_, ?_⟩
      · rw [sum_signs, List.length_map]
        have e0 : (Str.ofString "").length = 0 := by decide +kernel
        rw [e0]
        omega
      have et := join_signs cs
      have el : (Txt.join "" (cs.map fun c => (⟨#[c]⟩ : Str))).length = cs.length := by
        show (Txt.join "" (cs.map fun c => (⟨#[c]⟩ : Str))).cps.toList.length = cs.length
        rw [et]
      exact q _ Hc (fun c hc => hcs c (by rw [← et]; exact hc)) (by rw [el]; omega) (d1.trans dc)
/-! ### rewriters: their parts -/
theorem str_ext {x y : Str} (h : x.cps.toList = y.cps.toList) : x = y := by
  cases x with | mk a => cases y with | mk b =>
    have e : a = b := Array.toList_inj.mp h
    rw [e]
theorem len_str {x : Str} : x.length = x.cps.toList.length := rfl
theorem tl_app (x y : Str) : (x ++ y).cps.toList = x.cps.toList ++ y.cps.toList := TL.tl_append x y
theorem str_assoc (x y z : Str) : x ++ y ++ z = x ++ (y ++ z) := str_ext (by simp only [tl_app, List.append_assoc])
theorem str_nil (x : Str) : x ++ ("" : Str) = x := str_ext (by rw [tl_app]; exact List.append_nil _)
theorem nil_str (x : Str) : ("" : Str) ++ x = x := str_ext (by rw [tl_app]; rfl)
/-- texts one behind another -/
def catS (ws : List Str) : Str := ws.foldl (fun x y => x ++ y) ""
theorem cat_from (ws : List Str) : ∀ a : Str, (ws.foldl (fun x y => x ++ y) a) = a ++ catS ws := by
  induction ws with
  | nil => intro a; exact (str_nil a).symm
  | cons w ws ih =>
    intro a
    show ws.foldl _ (a ++ w) = a ++ ws.foldl _ ("" ++ w)
    rw [ih, ih ("" ++ w), nil_str, str_assoc]
theorem cat_snoc (ws : List Str) (w : Str) : catS (ws ++ [w]) = catS ws ++ w := by
  unfold catS
  rw [List.foldl_append]
  rfl
theorem join_cat (ws : List Str) : Txt.join "" ws = catS ws := by
  cases ws with
  | nil => rfl
  | cons w ws =>
    have key : ∀ (ws : List Str) (a : Array Nat), (⟨List.foldl (fun acc (p : Str) => acc ++ (Str.ofString "").cps ++ p.cps) a ws⟩ : Str) = ws.foldl (fun x y => x ++ y) ⟨a⟩ := by
      intro ws
      induction ws with
      | nil => intro a; rfl
      | cons v ws ih =>
        intro a
        rw [List.foldl_cons, ih, List.foldl_cons]
        congr 1
    have h := key ws w.cps
    show (⟨List.foldl (fun acc (p : Str) => acc ++ (Str.ofString "").cps ++ p.cps) w.cps ws⟩ : Str) = catS (w :: ws)
    rw [h]
    show _ = ws.foldl _ ("" ++ w)
    rw [nil_str]
theorem cat_len {B : Nat} : ∀ (ws : List Str), (∀ w ∈ ws, w.length ≤ B) → (catS ws).length ≤ ws.length * B := by
  have key : ∀ (ws : List Str) (a : Str), (∀ w ∈ ws, w.length ≤ B) → (ws.foldl (fun x y => x ++ y) a).length ≤ a.length + ws.length * B := by
    intro ws
    induction ws with
    | nil => intro a _; simp
    | cons w ws ih =>
      intro a h
      have h1 := ih (a ++ w) fun v hv => h v (List.mem_cons_of_mem _ hv)
      have h2 := h w List.mem_cons_self
      rw [List.foldl_cons, List.length_cons, Nat.succ_mul]
      rw [str_len] at h1
      omega
  intro ws h
  have := key ws "" h
  have e : ("" : Str).length = 0 := by decide +kernel
  rw [e] at this
  unfold catS
  omega
theorem sum_len {B : Nat} : ∀ (ws : List Str), (∀ w ∈ ws, w.length ≤ B) → (ws.map (·.length)).sum ≤ ws.length * B
  | [], _ => by simp
  | w :: ws, h => by
    have h1 := sum_len ws fun v hv => h v (List.mem_cons_of_mem _ hv)
    have h2 := h w List.mem_cons_self
    rw [List.map_cons, List.sum_cons, List.length_cons, Nat.succ_mul]
    omega
theorem mem_cat {c : Nat} : ∀ (ws : List Str), c ∈ (catS ws).cps.toList → ∃ w ∈ ws, c ∈ w.cps.toList := by
  have key : ∀ (ws : List Str) (a : Str), c ∈ (ws.foldl (fun x y => x ++ y) a).cps.toList → c ∈ a.cps.toList ∨ ∃ w ∈ ws, c ∈ w.cps.toList := by
    intro ws
    induction ws with
    | nil => intro a h; exact .inl h
    | cons w ws ih =>
      intro a h
      rcases ih (a ++ w) h with z | ⟨v, hv, z⟩
      · rw [tl_app] at z
        rcases List.mem_append.mp z with z | z
        · exact .inl z
        · exact .inr ⟨w, List.mem_cons_self, z⟩
      · exact .inr ⟨v, List.mem_cons_of_mem _ hv, z⟩
  intro ws h
  rcases key ws "" h with z | z
  · exact (nomatch z)
  · exact z
abbrev Way := Option (Int × Str)
def encO : Option Str → PyData
  | none => .none
  | some s => .str s
def encW : Way → PyData
  | none => .none
  | some w => .tuple [.int w.1, .str w.2]
def encRow (row : List Way) : PyData := .tuple (row.map encW)
structure Parts where
  lead : Str
  fin : List (Option Str)
  tab : List (List Way)
def waysOf (row : List Way) : List (Int × Str) := row.filterMap id
def textsOf (row : List Way) : List Str := (waysOf row).map (·.2)
def allTexts (r : Parts) : List Str := r.lead :: r.fin.filterMap id ++ r.tab.flatMap textsOf
def goodR (ls : Str) (r : Parts) : Prop := 0 < r.fin.length ∧ r.tab.length = r.fin.length ∧ (∀ row ∈ r.tab, row.length = ls.length ∧ ∀ w ∈ waysOf row, 0 ≤ w.1 ∧ w.1 < r.fin.length) ∧ ∀ t ∈ allTexts r, isT ls t
structure Bnd (r : Parts) : Prop where
  t : ∀ t ∈ allTexts r, t.length ≤ 1000
  n : (allTexts r).length < 100000
  f : r.fin.length < 100000
  b : r.tab.length < 100000
  w : ∀ row ∈ r.tab, row.length < 100000
theorem mem_ways {row : List Way} {w : Int × Str} : w ∈ waysOf row ↔ some w ∈ row := by
  unfold waysOf
  rw [List.mem_filterMap]
  exact ⟨fun ⟨a, h, e⟩ => by
    have e' : a = some w := e
    rw [← e']; exact h, fun h => ⟨some w, h, rfl⟩⟩
theorem mem_fin {r : Parts} {s : Str} (h : some s ∈ r.fin) : s ∈ allTexts r := List.mem_append.mpr (.inl (List.mem_cons_of_mem _ (List.mem_filterMap.mpr ⟨some s, h, rfl⟩)))
theorem mem_lead {r : Parts} : r.lead ∈ allTexts r := List.mem_append.mpr (.inl List.mem_cons_self)
theorem mem_way {r : Parts} {row : List Way} {w : Int × Str} (hr : row ∈ r.tab) (h : some w ∈ row) : w.2 ∈ allTexts r :=
  List.mem_append.mpr (.inr (List.mem_flatMap.mpr ⟨row, hr, List.mem_map.mpr ⟨w, mem_ways.mpr h, rfl⟩⟩))
/-! what a rewriter writes -/
def cellR (ls : Str) (tab : List (List Way)) (s : Int) (c : Nat) : Way := (tab.getD s.toNat []).getD (ls.cps.toList.idxOf c) none
def rwStep (ls : Str) (tab : List (List Way)) (o : Option (Int × List Str)) (c : Nat) : Option (Int × List Str) := o.bind fun z => (cellR ls tab z.1 c).map fun w => (w.1, z.2 ++ [w.2])
def rwL (ls : Str) (tab : List (List Way)) (s : Int) (t : List Nat) : Option (Int × List Str) := t.foldl (rwStep ls tab) (some (s, []))
def rwF (ls : Str) (tab : List (List Way)) (s : Int) (t : List Nat) : Option (Int × Str) := (rwL ls tab s t).map fun z => (z.1, catS z.2)
def rwM (ls : Str) (r : Parts) (t : List Nat) : Option Str := (rwF ls r.tab 0 t).bind fun z => (r.fin.getD z.1.toNat none).map fun u => r.lead ++ z.2 ++ u
theorem rwL_take {ls : Str} {tab : List (List Way)} {s : Int} {t : List Nat} {i c : Nat} (h : t[i]? = some c) : rwL ls tab s (t.take (i + 1)) = rwStep ls tab (rwL ls tab s (t.take i)) c := by
  unfold rwL
  rw [List.take_succ, h, List.foldl_append]
  rfl
theorem rw_none {ls : Str} {tab : List (List Way)} : ∀ t : List Nat, t.foldl (rwStep ls tab) none = none
  | [] => rfl
  | c :: t => by
    rw [List.foldl_cons]
    exact rw_none t
theorem rwL_none {ls : Str} {tab : List (List Way)} {s : Int} {t : List Nat} {i : Nat} (h : rwL ls tab s (t.take i) = none) : rwL ls tab s t = none := by
  have e : rwL ls tab s t = (t.drop i).foldl (rwStep ls tab) (rwL ls tab s (t.take i)) := by
    unfold rwL
    rw [← List.foldl_append, List.take_append_drop]
  rw [e, h]
  exact rw_none _
theorem cell_in {ls : Str} {r : Parts} (g : goodR ls r) {s : Int} {c : Nat} (h0 : 0 ≤ s) (h1 : s < r.fin.length) (hc : c ∈ ls.cps.toList) :
    ∃ row, r.tab[s.toNat]? = some row ∧ row[ls.cps.toList.idxOf c]? = some (cellR ls r.tab s c) ∧ ∀ w, cellR ls r.tab s c = some w → (0 ≤ w.1 ∧ w.1 < r.fin.length) ∧ w.2 ∈ allTexts r := by
  obtain ⟨g0, g1, g2, g3⟩ := g
  have hs : s.toNat < r.tab.length := by omega
  have hr : r.tab[s.toNat]? = some r.tab[s.toNat] := List.getElem?_eq_getElem hs
  have hm : r.tab[s.toNat] ∈ r.tab := List.getElem_mem hs
  obtain ⟨l1, l2⟩ := g2 _ hm
  have hi : ls.cps.toList.idxOf c < (r.tab[s.toNat]).length := by
    have := List.idxOf_lt_length_iff.mpr hc
    have e : ls.cps.toList.length = ls.length := rfl
    omega
  have e : cellR ls r.tab s c = (r.tab[s.toNat])[ls.cps.toList.idxOf c] := by
    have e0 : r.tab.getD s.toNat [] = r.tab[s.toNat] := by
      rw [List.getD_eq_getElem?_getD, hr]
      rfl
    unfold cellR
    rw [e0, List.getD_eq_getElem?_getD, List.getElem?_eq_getElem hi]
    rfl
  refine ⟨_, hr, by rw [List.getElem?_eq_getElem hi, e], fun w hw => ?_⟩
  have hmw : some w ∈ r.tab[s.toNat] := by
    rw [← hw, e]
    exact List.getElem_mem hi
  exact ⟨l2 w (mem_ways.mpr hmw), mem_way hm hmw⟩
theorem rwL_in {ls : Str} {r : Parts} (g : goodR ls r) {s : Int} (h0 : 0 ≤ s) (h1 : s < r.fin.length) (t : List Nat) (ht : ∀ c ∈ t, c ∈ ls.cps.toList) : ∀ i ≤ t.length, ∀ z, rwL ls r.tab s (t.take i) = some z → (0 ≤ z.1 ∧ z.1 < r.fin.length) ∧ z.2.length = i ∧ ∀ w ∈ z.2, w ∈ allTexts r := by
  intro i
  induction i with
  | zero =>
    intro _ z hz
    obtain rfl := Option.some.inj hz
    exact ⟨⟨h0, h1⟩, rfl, fun w hw => nomatch hw⟩
  | succ i ih =>
    intro hi z hz
    have hx : t[i]? = some t[i] := List.getElem?_eq_getElem hi
    rw [rwL_take hx] at hz
    cases hy : rwL ls r.tab s (t.take i) with
    | none => rw [hy] at hz; cases hz
    | some y =>
      rw [hy] at hz
      obtain ⟨a, b, c⟩ := ih (Nat.le_of_lt hi) y hy
      obtain ⟨_, _, _, hw⟩ := cell_in g a.1 a.2 (ht _ (List.getElem_mem hi))
      unfold rwStep at hz
      simp only [Option.bind_some, Option.map_eq_some_iff] at hz
      obtain ⟨w, hw1, rfl⟩ := hz
      obtain ⟨p, q⟩ := hw w hw1
      refine ⟨p, by rw [List.length_append, b]; rfl, fun v hv => ?_⟩
      rcases List.mem_append.mp hv with hv | hv
      · exact c v hv
      · rw [List.mem_singleton.mp hv]; exact q
/-! ### the class -/
def rFields (ls lead : Str) (tf tt : Addr) : List (Str × V) := [("letters", .str ls), ("lead", .str lead), ("finals", .ref tf), ("table", .ref tt)]
def RwAt (K : PySem.W.Frag) (C : Addr) (H : Hp) (m : Addr) (ls : Str) (r : Parts) : Prop := ∃ dx tf tt, H m = some (.ins C dx (rFields ls r.lead tf tt)) ∧ Dp K H (.ref tf) (.tuple (r.fin.map encO)) ∧ Dp K H (.ref tt) (.tuple (r.tab.map encRow))
theorem RwAt.ex {C : Addr} {H H' : Hp} {m : Addr} {ls : Str} {r : Parts} (h : RwAt K C H m ls r) (e : Ex H H') : RwAt K C H' m ls r := by
  obtain ⟨dx, tf, tt, h1, h2, h3⟩ := h
  exact ⟨dx, tf, tt, e _ _ h1, h2.ex e, h3.ex e⟩
theorem fin_get {r : Parts} {i : Nat} {o : Option Str} (h : r.fin[i]? = some o) : (r.fin.map encO)[i]? = some (encO o) := by rw [List.getElem?_map, h]; rfl
theorem encO_none {H : Hp} {v : V} {o : Option Str} (h : Dp K H v (encO o)) : (v = .non ↔ o = none) ∧ ∀ s, o = some s → v = .str s := by
  cases o with
  | none =>
    have := Dp.non_iff h
    exact ⟨⟨fun _ => rfl, fun _ => this⟩, fun s z => by cases z⟩
  | some s =>
    have := Dp.str_iff h
    subst this
    exact ⟨⟨fun z => (by cases z), fun z => by cases z⟩, fun t z => by rw [Option.some.inj z]⟩
theorem fin_filter : ∀ fin : List (Option Str), ((fin.map encO).filter fun d => !isN d).map id = (fin.filterMap id).map PyData.str
  | [] => rfl
  | none :: fin => fin_filter fin
  | some s :: fin => by
    show PyData.str s :: ((fin.map encO).filter fun d => !isN d).map id = PyData.str s :: (fin.filterMap id).map PyData.str
    rw [fin_filter fin]
theorem row_filter : ∀ row : List Way, ((row.map encW).filter fun d => !isN d).map id = (waysOf row).map fun w => PyData.tuple [.int w.1, .str w.2]
  | [] => rfl
  | none :: row => row_filter row
  | some w :: row => by
    show PyData.tuple [.int w.1, .str w.2] :: ((row.map encW).filter fun d => !isN d).map id = PyData.tuple [.int w.1, .str w.2] :: (waysOf row).map fun w => PyData.tuple [.int w.1, .str w.2]
    rw [row_filter row]
section
variable (T : Txt K mg)
/-- a field of it -/
theorem rd_fR {C m dx : Addr} {fs : List (Str × V)} {f : Str} {v : V} {te : TE} {σ : L2.St} {H : Hp} {Q : VK} (he : ∀ N : VK, N (.ref m) H → te σ H N) (hm : H m = some (.ins C dx fs)) (cl : Cls K C) (na : NoAttr K C f) (hl : fs.lookup f = some v) (q : Q v H) : tFld K te f σ H Q :=
  he _ ⟨m, C, dx, fs, v, rfl, hm, cl, na, hl, q⟩
def spRCheck : Sp := fun vs H Q E => ∃ (m : Addr) (ls : Str) (r : Parts), vs = [.ref m] ∧ ls.length ≤ 1000 ∧ Bnd r ∧ RwAt K T.C_Rewriter H m ls r ∧ (goodR ls r → ∀ H', Ex H H' → Q .non H') ∧
  (¬ goodR ls r → ∀ d H', H d = none → Ex H H' → H' d = some (.xd [("what", .non)]) → E (.ref T.C_BadRewriter) (some d) H')
theorem ok_Rewriter_check : FnOk P w K mg base (L2.CX P w) 4 T.a_Rewriter_check T.d_Rewriter_check ["self"] (spRCheck T) := by
  refine T.f_Rewriter_check.okX sc_Rewriter_check (fun vs H Q E h => ?_) (fun cdv A outer s H vs Q E hr h => ?_)
  · obtain ⟨_, _, _, rfl, _⟩ := h; rfl
  · obtain ⟨m, ls, r, rfl, l1, bd, ⟨dx, tf, tt, hm, hF, hT⟩, qy, qn⟩ := h
    have lz : ls.length ≤ sizeLine := Nat.le_trans l1 (by decide)
    have no : ∀ Hc, Ex H Hc → ¬ goodR ls r → ∀ d, Hc d = none → E (.ref T.C_BadRewriter) (some d) (upd Hc d (.xd [("what", .non)])) := fun Hc e g d hd => qn g d _ (Evl.fresh_back e hd) (ex_upd e hd) upd_same
    refine ⟨_, (pss_cons (ps_set (i := 1) sc_Rewriter_check.nd rfl (by first | exact Or.inl rfl | exact Or.inr rfl) (pe_callB (kLen K) (by rfl) T.nb_len (by decide +kernel) (pa_cons (kFld K rfl (pe_fld (pv 0) rfl)) pa_nil)))
  (pss_cons (ps_if (PW.pt (pw_or (pt_cmpR (kEq K rfl hr.units) (pv 1) pe_int (by first | rfl | exact nomark _)) (pw_or1 (pt_cmpR (kNe K rfl hr.units) (pe_callB (kLen K) (by rfl) T.nb_len (by decide +kernel) (pa_cons (kFld K rfl (pe_fld (pv 0) rfl)) pa_nil)) (pv 1) (by first | rfl | exact nomark _)))))
    (pss_one (ps_raiseW rfl T.x_BadRewriter (ok_init T) T.tI T.bI (hr.mono (by decide)) T.g_BadRewriter (takes_of rfl rfl rfl rfl) (pa_cons pe_non pa_nil) (MonoA.one mono_c)))
    pss_nil)
  (pss_cons (ps_set (i := 2) sc_Rewriter_check.nd rfl (by first | exact Or.inl rfl | exact Or.inr rfl) (pe_op (kAdd K) (pe_lst (pa_cons (kFld K rfl (pe_fld (pv 0) rfl)) pa_nil)) (pe_lc (own := [("final", 3)]) (g := gName 3)  (by rfl) sc_Rewriter_check.nd (kAny K rfl (kFld K rfl (pe_fld (pv 0) rfl))) (blkOk_by (own := [("final", 3)]) (N := ["self", "states", "written", "final", "row", "after", "text", "way"]) (sc := defScope s_Rewriter_check) (by decide +kernel)) (fun _ _ _ _ _ => (pg_name (i := 3) sc_Rewriter_check.nd rfl (by first | exact Or.inl rfl | exact Or.inr rfl))) (fun _ _ _ _ _ => (pts_one (pt_cmpR op_notN (pv 3) pe_non (by first | rfl | exact nomark _)))) (fun _ _ _ _ _ => (pv 3)))))
  (pss_cons (ps_for (passes_of rfl) rfl (kAny K rfl (kFld K rfl (pe_fld (pv 0) rfl))) (pg_name (i := 4) sc_Rewriter_check.nd rfl (by first | exact Or.inl rfl | exact Or.inr rfl))
    (pss_cons (ps_if (pt_cmpR (kNe K rfl hr.units) (pe_callB (kLen K) (by rfl) T.nb_len (by decide +kernel) (pa_cons (pv 4) pa_nil)) (pe_callB (kLen K) (by rfl) T.nb_len (by decide +kernel) (pa_cons (kFld K rfl (pe_fld (pv 0) rfl)) pa_nil)) (by first | rfl | exact nomark _))
    (pss_one (ps_raiseW rfl T.x_BadRewriter (ok_init T) T.tI T.bI (hr.mono (by decide)) T.g_BadRewriter (takes_of rfl rfl rfl rfl) (pa_cons pe_non pa_nil) (MonoA.one mono_c)))
    pss_nil)
  (pss_one (ps_for (passes_of rfl) rfl (kAny K rfl (pe_lc (own := [("way", 7)]) (g := gName 7)  (by rfl) sc_Rewriter_check.nd (kAny K rfl (pv 4)) (blkOk_by (own := [("way", 7)]) (N := ["self", "states", "written", "final", "row", "after", "text", "way"]) (sc := defScope s_Rewriter_check) (by decide +kernel)) (fun _ _ _ _ _ => (pg_name (i := 7) sc_Rewriter_check.nd rfl (by first | exact Or.inl rfl | exact Or.inr rfl))) (fun _ _ _ _ _ => (pts_one (pt_cmpR op_notN (pv 7) pe_non (by first | rfl | exact nomark _)))) (fun _ _ _ _ _ => (pv 7)))) (kGt K rfl (pg_tup (n := 2) (by rfl) (pgs_cons (pg_name (i := 5) sc_Rewriter_check.nd rfl (by first | exact Or.inl rfl | exact Or.inr rfl)) (pgs_cons (pg_name (i := 6) sc_Rewriter_check.nd rfl (by first | exact Or.inl rfl | exact Or.inr rfl)) pgs_nil))))
    (pss_cons (ps_if (pt_not (pt_chain op_leP op_ltP pe_int (pv 5) (pv 1)))
    (pss_one (ps_raiseW rfl T.x_BadRewriter (ok_init T) T.tI T.bI (hr.mono (by decide)) T.g_BadRewriter (takes_of rfl rfl rfl rfl) (pa_cons pe_non pa_nil) (MonoA.one mono_c)))
    pss_nil)
  (pss_one (ps_expr (kBm K rfl (pe_bm PySem.F.plainAttrs_list PySem.F.slot_list_append PySem.F.type_list_append mt_append (pv 2) (pa_cons (pv 6) pa_nil))))))))))
  (pss_one (ps_if (pt_not (pt_val (pe_callB (kAll K) (by rfl) T.nb_all (by decide +kernel) (pa_cons (pe_lc (own := [("text", 6)]) (g := gName 6) (tt := tYes) (by rfl) sc_Rewriter_check.nd (kAny K rfl (pv 2)) (blkOk_by (own := [("text", 6)]) (N := ["self", "states", "written", "final", "row", "after", "text", "way"]) (sc := defScope s_Rewriter_check) (by decide +kernel)) (fun _ _ _ _ _ => (pg_name (i := 6) sc_Rewriter_check.nd rfl (by first | exact Or.inl rfl | exact Or.inr rfl))) (fun _ _ _ _ _ => pts_nil) (fun _ _ _ _ _ => (pe_callE (ok_is_text T) (hr.mono (by decide)) T.o_is_text (pa_cons (kFld K rfl (pe_fld (pv 0) rfl)) (pa_cons (pv 6) pa_nil))))) pa_nil))))
    (pss_one (ps_raiseW rfl T.x_BadRewriter (ok_init T) T.tI T.bI (hr.mono (by decide)) T.g_BadRewriter (takes_of rfl rfl rfl rfl) (pa_cons pe_non pa_nil) (MonoA.one mono_c)))
    pss_nil)))))), ?_⟩
    walk_at "rc"
    refine ⟨m, _, dx, _, _, rfl, hm, T.cl_Rewriter, T.na_Rewriter_finals, rfl, ?_⟩
    walk_at "rc"
    refine rd_lenDT (Evl.Ex.refl H) hF ?_
    walk_at "rc"
    walk_at "rs"
    walk_at "rc"
    refine rd_iteD (fun h1 => ?_) (fun h1 => ?_)
    · walk_at "rc"
      exact no H (Evl.Ex.refl H) fun g => by have := g.1; rw [List.length_map] at h1; omega
    walk_at "rc"
    refine ⟨m, _, dx, _, _, rfl, hm, T.cl_Rewriter, T.na_Rewriter_table, rfl, ?_⟩
    walk_at "rc"
    refine rd_lenDT (Evl.Ex.refl H) hT ?_
    walk_at "rc"
    refine rd_iteN (fun h2 => ?_) (fun h2 => ?_)
    · walk_at "rc"
      exact no H (Evl.Ex.refl H) fun g => h2 (by have := g.2.1; rw [List.length_map, List.length_map, this])
    rw [List.length_map, List.length_map] at h2
    rw [List.length_map] at h1
    walk_at "rc"
    refine ⟨m, _, dx, _, _, rfl, hm, T.cl_Rewriter, T.na_Rewriter_lead, rfl, ?_⟩
    walk_at "rc"
    refine ⟨by show 1 ≤ sizeLine; decide, fun p0 hp0 => ?_⟩
    have e0 : Ex H (upd H p0 (.lst [.str r.lead])) := Evl.Ex.new hp0
    have hp1 : upd H p0 (.lst [.str r.lead]) p0 = some (.lst [.str r.lead]) := upd_same
    generalize upd H p0 (.lst [.str r.lead]) = H1 at e0 hp1
    walk_at "rc"
    refine rd_anyT' ?_
    walk_at "rc"
    refine ⟨m, _, dx, _, _, rfl, e0 _ _ hm, T.cl_Rewriter, T.na_Rewriter_finals, rfl, ?_⟩
    refine rd_itDT e0 hF fun J wJ => ?_
    refine lc_FD (K := K) (S := []) tr_ex (fun b hb => nomatch hb) wJ (ex_nil e0) (by rw [List.length_map]; exact bd.f) (fun v => rfl) (fun d => !isN d) id (fun L d v Hc hm' hd _ _ t1 _ _ N hN => ?_) (fun L d v Hc hm' hd _ hL _ t1 _ up N hN => ?_) fun L us H2 e1 hL _ hus hds => ?_
    · walk_at "rc"
      rw [isN_dp hd]
      exact hN Hc (Evl.Ex.refl Hc)
    · walk_at "rc"
      exact hN v Hc (Evl.Ex.refl Hc) hd
    rw [fin_filter] at hds
    have eus := dp_strs hds
    subst eus
    have ln := bd.n
    have lall : (allTexts r).length = 1 + (r.fin.filterMap id).length + (r.tab.flatMap textsOf).length := by
      unfold allTexts
      rw [List.length_append, List.length_cons]
      omega
    refine rd_cat (e1 _ _ hp1) hus (by rw [List.length_map, List.length_singleton]; exact Nat.le_trans (show 1 + (r.fin.filterMap id).length ≤ 100000 by omega) (by decide)) fun Lw hLw => ?_
    have e2 := ex_upd (o := .lst ([.str r.lead] ++ (r.fin.filterMap id).map V.str)) (e0.trans e1) hLw
    have nLw : H Lw = none := Evl.fresh_back (e0.trans e1) hLw
    have hLw2 : upd H2 Lw (.lst ([.str r.lead] ++ (r.fin.filterMap id).map V.str)) Lw = some (.lst ((r.lead :: r.fin.filterMap id).map V.str)) := upd_same
    generalize upd H2 Lw (.lst ([.str r.lead] ++ (r.fin.filterMap id).map V.str)) = H3 at e2 hLw2
    walk_at "rc"
    walk_at "rs"
    walk_at "rc"
    refine rd_anyT' ?_
    walk_at "rc"
    refine ⟨m, _, dx, _, _, rfl, e2 _ _ hm, T.cl_Rewriter, T.na_Rewriter_table, rfl, ?_⟩
    refine rd_itDT e2 hT fun J2 wJ2 => ?_
    refine fo_D wJ2 (fun i σ H' => (∃ k3 k4 k5 k6 k7 : Option V, σ = [some (.ref m), some (.int (r.fin.length : Nat)), some (.ref Lw), k3, k4, k5, k6, k7]) ∧ Ex H H' ∧ H' Lw = some (.lst ((r.lead :: r.fin.filterMap id ++ (r.tab.take i).flatMap textsOf).map V.str)) ∧ ∀ row ∈ r.tab.take i, row.length = ls.length ∧ ∀ w ∈ waysOf row, 0 ≤ w.1 ∧ w.1 < r.fin.length)
      ⟨⟨_, _, _, _, _, by rw [List.length_map]; rfl⟩, e2, by rw [List.take_zero]; simpa using hLw2, fun row hrow => by rw [List.take_zero] at hrow; cases hrow⟩ (fun i σ H' _ p => p.2.1) ?_ ?_
    · rintro i d v σ H4 hi hd ⟨⟨k3, k4, k5, k6, k7, rfl⟩, e4, hw4, hrows⟩
      rw [List.getElem?_map] at hi
      cases hri : r.tab[i]? with
      | none => rw [hri] at hi; cases hi
      | some row =>
        rw [hri] at hi
        obtain rfl : encRow row = d := Option.some.inj hi
        have hrm : row ∈ r.tab := List.mem_of_getElem? hri
        have rowl : ∀ (g : goodR ls r), row.length = ls.length := fun g => (g.2.2.1 row hrm).1
        walk_at "rc"
        walk_at "rs"
        walk_at "rc"
        refine rd_lenDT e4 hd ?_
        walk_at "rc"
        refine ⟨m, _, dx, _, _, rfl, e4 _ _ hm, T.cl_Rewriter, T.na_Rewriter_letters, rfl, ?_⟩
        walk_at "rc"
        refine rd_lenS lz ?_
        walk_at "rc"
        refine rd_iteN (fun h3 => ?_) (fun h3 => ?_)
        · walk_at "rc"
          exact no _ e4 fun g => h3 (by rw [List.length_map, rowl g])
        rw [List.length_map] at h3
        walk_at "rc"
        refine rd_anyL' ?_
        walk_at "rc"
        refine rd_anyT' ?_
        walk_at "rc"
        refine rd_itDT e4 hd fun J3 wJ3 => ?_
        have u4 := ex_up1 e4 nLw
        refine lc_FD (K := K) (S := [Lw]) tr_ex (st1 hw4) wJ3 u4 (by rw [List.length_map]; exact bd.w row hrm) (fun v => rfl) (fun d => !isN d) id (fun L d v Hc hm' hd _ _ t1 _ _ N hN => ?_) (fun L d v Hc hm' hd _ hL _ t1 _ up N hN => ?_) fun L2 us H5 e5 hL2 nL2 hus2 hds2 => ?_
        · walk_at "rc"
          rw [isN_dp hd]
          exact hN Hc (Evl.Ex.refl Hc)
        · walk_at "rc"
          exact hN v Hc (Evl.Ex.refl Hc) hd
        rw [row_filter] at hds2
        have dL2 : Dp K (hid [Lw] H5) (.ref L2) (.list ((waysOf row).map fun w => PyData.tuple [.int w.1, .str w.2])) := Dp.frz hus2 nL2 hds2
        refine rd_itDL hid_ex dL2 fun J4 wJ4 => ?_
        have lrow : ∀ k, ((r.lead :: r.fin.filterMap id ++ ((r.tab.take i).flatMap textsOf ++ ((waysOf row).take k).map (·.2)))).length ≤ (allTexts r).length := fun k => by
          have e : (r.tab.flatMap textsOf) = (r.tab.take i).flatMap textsOf ++ (textsOf row ++ (r.tab.drop (i + 1)).flatMap textsOf) := by
            rw [← List.flatMap_cons, ← List.flatMap_append]
            congr 1
            obtain ⟨hlt, hget⟩ := List.getElem?_eq_some_iff.mp hri
            rw [← hget, List.getElem_cons_drop, List.take_append_drop]
          unfold allTexts
          rw [e]
          simp only [List.length_append, List.length_cons, textsOf, List.length_map, List.length_take]
          omega
        have u5 := u4.trans (Ex.hid e5)
        refine fo_D wJ4 (fun k σ H' => (∃ k4 k5 k6 k7 : Option V, σ = [some (.ref m), some (.int (r.fin.length : Nat)), some (.ref Lw), k3, k4, k5, k6, k7]) ∧ Ex (hid [Lw] H5) (hid [Lw] H') ∧ H' Lw = some (.lst ((r.lead :: r.fin.filterMap id ++ ((r.tab.take i).flatMap textsOf ++ ((waysOf row).take k).map (·.2))).map V.str)) ∧ ∀ w ∈ (waysOf row).take k, 0 ≤ w.1 ∧ w.1 < r.fin.length)
          ⟨⟨_, _, _, _, rfl⟩, Evl.Ex.refl _, by rw [List.take_zero, List.map_nil, List.append_nil]; exact e5 _ _ hw4, fun w hw => by rw [List.take_zero] at hw; cases hw⟩ (fun k σ H' _ p => p.2.1.trans hid_ex) ?_ ?_
        · rintro k d v σ H6 hk hd6 ⟨⟨k4, k5, k6, k7, rfl⟩, e6, hw6, hws⟩
          rw [List.getElem?_map] at hk
          cases hwk : (waysOf row)[k]? with
          | none => rw [hwk] at hk; cases hk
          | some w =>
            rw [hwk] at hk
            obtain rfl := Option.some.inj hk
            have hwm : w ∈ waysOf row := List.mem_of_getElem? hwk
            refine rd_gtD (e6.trans hid_ex) hd6 rfl fun xs hxs => ?_
            obtain ⟨x, y, rfl, hx, hy⟩ := dp2 hxs
            rw [Dp.int_iff hx, Dp.str_iff hy]
            have u6 := (u5.trans e6).trans hid_ex
            walk_at "rc"
            walk_at "rs"
            walk_at "rc"
            have bad : ¬ (0 ≤ w.1 ∧ w.1 < (r.fin.length : Int)) → tRaised T.C_BadRewriter (fun cls d x H => E cls d H) (tCons (tC V.non) tNil) = tRaised T.C_BadRewriter (fun cls d x H => E cls d H) (tCons (tC V.non) tNil) := fun _ => rfl
            refine rd_iteD (fun h4 => ?_) (fun h4 => ?_)
            · walk_at "rc"
              refine rd_iteN (fun h5 => ?_) (fun h5 => ?_)
              · walk_at "rc"
                exact no _ u6 fun g => h5 (((g.2.2.1 row hrm).2 w hwm).2)
              walk_at "rc"
              refine ⟨.inl ⟨rfl, _, SqL.of hw6⟩, ?_⟩
              walk_at "rc"
              have ll := lrow k
              refine ⟨Lw, _, _, rfl, rfl, hw6, by rw [List.length_map]; exact Nat.lt_of_le_of_lt ll (Nat.lt_trans ln (by decide)), ⟨_, _, _, _, rfl⟩, e6.trans (Kp.put List.mem_cons_self).ex, ?_, fun w' hw' => ?_⟩
              · rw [upd_same, List.take_succ, hwk]
                simp only [List.map_append, List.append_assoc, Option.toList, List.map_cons, List.map_nil, List.cons_append]
              · rw [List.take_succ, hwk] at hw'
                rcases List.mem_append.mp hw' with z | z
                · exact hws w' z
                · have e : w' = w := by simpa using z
                  rw [e]
                  exact ⟨h4, h5⟩
            · walk_at "rc"
              exact no _ u6 fun g => h4 (((g.2.2.1 row hrm).2 w hwm).1)
        · rintro σ H6 ⟨⟨k4, k5, k6, k7, rfl⟩, e6, hw6, hws⟩
          rw [List.length_map, List.take_length] at hw6 hws
          have u6 := (u5.trans e6).trans hid_ex
          refine ⟨⟨_, _, _, _, _, rfl⟩, u6, ?_, fun row' hrow' => ?_⟩
          · rw [hw6, List.take_succ, hri]
            simp [textsOf]
          · rw [List.take_succ, hri] at hrow'
            rcases List.mem_append.mp hrow' with z | z
            · exact hrows row' z
            · have e : row' = row := by simpa using z
              rw [e]
              exact ⟨by omega, hws⟩
    · rintro σ H4 ⟨⟨k3, k4, k5, k6, k7, rfl⟩, e4, hw4, hrows⟩
      rw [List.length_map, List.take_length] at hw4 hrows
      have dLw : Dp K H4 (.ref Lw) (.list ((allTexts r).map PyData.str)) := .lst (SqL.of hw4) (dps_str _)
      walk_at "rc"
      refine rd_anyL' ?_
      walk_at "rc"
      refine rd_itDL (Evl.Ex.refl H4) dLw fun J5 wJ5 => ?_
      refine lc_MD (K := K) (S := []) tr_ex (fun b hb => nomatch hb) wJ5 (ex_nil (Evl.Ex.refl H4)) (by rw [List.length_map]; exact ln) (fun v => rfl) (fun d => match d with | .str t => .bool (decide (isT ls t)) | _ => .none) (fun L d v Hc hm' hd hL _ t1 _ up N hN => ?_) fun L us H5 e5 hL _ hus hds => ?_
      · obtain ⟨t, htm, rfl⟩ := List.mem_map.mp hm'
        rw [Dp.str_iff hd]
        walk_at "rc"
        refine ⟨m, _, dx, _, _, rfl, (e4.trans t1) _ _ hm, T.cl_Rewriter, T.na_Rewriter_letters, rfl, ?_⟩
        walk_at "rc"
        refine ⟨ls, t, rfl, Nat.lt_of_le_of_lt (bd.t t htm) (by decide), fun H' e => hN _ H' e (.bl _)⟩
      · have e8 : ((allTexts r).map PyData.str).map (fun d => match d with | .str t => PyData.bool (decide (isT ls t)) | _ => .none) = ((allTexts r).map fun t => decide (isT ls t)).map PyData.bool := by
          rw [List.map_map, List.map_map]
          rfl
        rw [e8] at hds
        obtain rfl := dp_bls hds
        walk_at "rc"
        refine ⟨L, _, rfl, SqL.of hus, ?_⟩
        have e9 : (((allTexts r).map fun t => decide (isT ls t)).all id) = decide (∀ t ∈ allTexts r, isT ls t) := by
          rw [Bool.eq_iff_iff, List.all_eq_true, decide_eq_true_iff]
          exact ⟨fun h t ht => of_decide_eq_true (h _ (List.mem_map.mpr ⟨t, ht, rfl⟩)), fun h b hb => by
            obtain ⟨t, ht, rfl⟩ := List.mem_map.mp hb
            exact decide_eq_true (h t ht)⟩
        rw [e9]
        walk_at "rc"
        refine rd_iteN (fun h6 => ?_) (fun h6 => ?_)
        · walk_at "rc"
          exact no _ (e4.trans e5) fun g => h6 g.2.2.2
        · walk_at "rc"
          exact qy ⟨by omega, by omega, hrows, h6⟩ _ (e4.trans e5)
end
section
variable (T : Txt K mg)
def RowsD (ds : List PyData) (tab : List (List Way)) : Prop := ds.length = tab.length ∧ ∀ (i : Nat) (d : PyData) (row : List Way), ds[i]? = some d → tab[i]? = some row → d = .list (row.map encW) ∨ d = .tuple (row.map encW)
def asTup : PyData → PyData
  | .list ws => .tuple ws
  | d => d
theorem RowsD.tup {ds : List PyData} {tab : List (List Way)} (h : RowsD ds tab) : ds.map asTup = tab.map encRow := by
  refine List.ext_getElem? fun i => ?_
  rw [List.getElem?_map, List.getElem?_map]
  by_cases hi : i < ds.length
  · have ht : i < tab.length := by rw [← h.1]; exact hi
    rw [List.getElem?_eq_getElem hi, List.getElem?_eq_getElem ht]
    rcases h.2 i _ _ (List.getElem?_eq_getElem hi) (List.getElem?_eq_getElem ht) with z | z <;> rw [z] <;> rfl
  · have ht : ¬ i < tab.length := by rw [← h.1]; exact hi
    rw [List.getElem?_eq_none (by omega), List.getElem?_eq_none (by omega)]
    rfl
theorem RowsD.mem {ds : List PyData} {tab : List (List Way)} (h : RowsD ds tab) {d : PyData} (hd : d ∈ ds) : ∃ row ∈ tab, d = .list (row.map encW) ∨ d = .tuple (row.map encW) := by
  obtain ⟨i, hi⟩ := List.getElem?_of_mem hd
  have hl := (List.getElem?_eq_some_iff.mp hi).1
  have ht : i < tab.length := by rw [← h.1]; exact hl
  exact ⟨_, List.getElem_mem ht, h.2 i d _ hi (List.getElem?_eq_getElem ht)⟩
def spRInit : Sp := fun vs H Q E => ∃ (m dx : Addr) (xf xt : V) (ls : Str) (r : Parts) (ds : List PyData), vs = [.ref m, .str ls, .str r.lead, xf, xt] ∧ ls.length ≤ 1000 ∧ Bnd r ∧ H m = some (.ins T.C_Rewriter dx []) ∧
  SqD K H xf (r.fin.map encO) ∧ SqD K H xt ds ∧ RowsD ds r.tab ∧
  (goodR ls r → ∀ H', Kp [m] H H' → RwAt K T.C_Rewriter H' m ls r → Q .non H') ∧ (¬ goodR ls r → ∀ d H', Kp [m] H H' → H d = none → H' d = some (.xd [("what", .non)]) → E (.ref T.C_BadRewriter) (some d) H')
theorem ok_Rewriter_init : FnOk P w K mg base (L2.CX P w) 5 T.a_Rewriter_init T.d_Rewriter_init ["self", "letters", "lead", "finals", "table"] (spRInit T) := by
  refine T.f_Rewriter_init.okX sc_Rewriter_init (fun vs H Q E h => ?_) (fun cdv A outer s H vs Q E hr h => ?_)
  · obtain ⟨_, _, _, _, _, _, _, rfl, _⟩ := h; rfl
  · obtain ⟨m, dx, xf, xt, ls, r, ds, rfl, l1, bd, hm, hF, hT, hR, qy, qn⟩ := h
    have hI : ∀ b ∈ [m], ∃ C dx fs, H b = some (.ins C dx fs) := fun b hb => by
      cases List.mem_singleton.mp hb
      exact ⟨_, _, _, hm⟩
    have hF0 : SqD K (hid [m] H) xf (r.fin.map encO) := hF.elim (fun z => .inl (Dp.hidI hI _ z)) fun z => .inr (Dp.hidI hI _ z)
    have hT0 : SqD K (hid [m] H) xt ds := hT.elim (fun z => .inl (Dp.hidI hI _ z)) fun z => .inr (Dp.hidI hI _ z)
    have pm : ∀ {H' : Hp} {o : HO}, Kp [m] H H' → Kp [m] H (upd H' m o) := fun k => k.trans (Kp.put List.mem_cons_self)
    refine ⟨_, (pss_cons (kSf K rfl (ps_fld (pv 0) (pv 1) rfl))
  (pss_cons (kSf K rfl (ps_fld (pv 0) (pv 2) rfl))
  (pss_cons (kSf K rfl (ps_fld (pv 0) (pe_callTy (kTupOf K) (by rfl) T.nb_tuple (by decide +kernel) (pa_cons (pv 3) pa_nil)) rfl))
  (pss_cons (kSf K rfl (ps_fld (pv 0) (pe_callTy (kTupOf K) (by rfl) T.nb_tuple (by decide +kernel) (pa_cons (pe_lc (own := [("row", 6)]) (g := gName 6) (tt := tYes) (by rfl) sc_Rewriter_init.nd (kAny K rfl (pv 4)) (blkOk_by (own := [("row", 6)]) (N := ["self", "letters", "lead", "finals", "table", "way", "row"]) (sc := defScope s_Rewriter_init) (by decide +kernel)) (fun _ _ _ _ _ => (pg_name (i := 6) sc_Rewriter_init.nd rfl (by first | exact Or.inl rfl | exact Or.inr rfl))) (fun _ _ _ _ _ => pts_nil) (fun _ _ _ _ _ => (pe_callTy (kTupOf K) (by rfl) T.nb_tuple (by decide +kernel) (pa_cons (pe_lc (own := [("way", 5)]) (g := gName 5) (tt := tYes) (by rfl) sc_Rewriter_init.nd (kAny K rfl (pv 6)) (by exact blkOk_in (N := ["self", "letters", "lead", "finals", "table", "way", "row"]) rfl (by decide +kernel)) (fun _ _ _ _ _ => (pg_name (i := 5) sc_Rewriter_init.nd rfl (by first | exact Or.inl rfl | exact Or.inr rfl))) (fun _ _ _ _ _ => pts_nil) (fun _ _ _ _ _ => (pe_ifExp (pt_cmpR op_isN (pv 5) pe_non (by first | rfl | exact nomark _)) pe_non (pe_callTy (kTupOf K) (by rfl) T.nb_tuple (by decide +kernel) (pa_cons (pv 5) pa_nil))))) pa_nil)))) pa_nil)) rfl))
  (pss_one (ps_expr (pe_methR0 T.m_Rewriter_check T.cl_Rewriter (pv 0) (ok_Rewriter_check T) (hr.mono (by decide)) T.b_Rewriter_check (takes_of rfl rfl rfl rfl)))))))), ?_⟩
    walk_at "rs"
    walk_at "rc"
    refine ⟨m, T.C_Rewriter, dx, [], rfl, hm, T.cl_Rewriter, T.na_Rewriter_letters, by show 0 < 1000; decide, ?_⟩
    have k1 := pm (o := .ins T.C_Rewriter dx (putF "letters" (.str ls) [])) (Kp.refl (S := [m]) (H := H))
    generalize hH1 : upd H m (.ins T.C_Rewriter dx (putF "letters" (.str ls) [])) = H1 at k1
    have m1 : H1 m = some (.ins T.C_Rewriter dx [("letters", .str ls)]) := by rw [← hH1]; exact upd_same
    walk_at "rs"
    walk_at "rc"
    refine ⟨m, T.C_Rewriter, dx, _, rfl, m1, T.cl_Rewriter, T.na_Rewriter_lead, by show 1 < 1000; decide, ?_⟩
    have k2 := pm (o := .ins T.C_Rewriter dx (putF "lead" (.str r.lead) [("letters", .str ls)])) k1
    generalize hH2 : upd H1 m (.ins T.C_Rewriter dx (putF "lead" (.str r.lead) [("letters", .str ls)])) = H2 at k2
    have m2 : H2 m = some (.ins T.C_Rewriter dx [("letters", .str ls), ("lead", .str r.lead)]) := by rw [← hH2]; exact upd_same
    walk_at "rs"
    walk_at "rc"
    refine rd_tupSq (S := [m]) (st1 m2) k2.ex hF0 fun tf H3 e3 htf => ?_
    have k3 := k2.trans (Kp.of_ex (S := [m]) e3)
    have m3 := e3 _ _ m2
    walk_at "rc"
    refine ⟨m, T.C_Rewriter, dx, _, rfl, m3, T.cl_Rewriter, T.na_Rewriter_finals, by show 2 < 1000; decide, ?_⟩
    have k4 := pm (o := .ins T.C_Rewriter dx (putF "finals" (.ref tf) [("letters", .str ls), ("lead", .str r.lead)])) k3
    have htf4 := htf.ex (Kp.put (S := [m]) (H := H3) (o := .ins T.C_Rewriter dx (putF "finals" (.ref tf) [("letters", .str ls), ("lead", .str r.lead)])) List.mem_cons_self).ex
    generalize hH4 : upd H3 m (.ins T.C_Rewriter dx (putF "finals" (.ref tf) [("letters", .str ls), ("lead", .str r.lead)])) = H4 at k4 htf4
    have m4 : H4 m = some (.ins T.C_Rewriter dx [("letters", .str ls), ("lead", .str r.lead), ("finals", .ref tf)]) := by rw [← hH4]; exact upd_same
    walk_at "rs"
    walk_at "rc"
    refine rd_anySq (fun Q q => ⟨_, rfl, q⟩) (k4.ex.trans hid_ex) hT0 fun J wJ => ?_
    refine lc_MD (K := K) (S := [m]) tr_ex (st1 m4) wJ k4.ex (by rw [hR.1]; exact bd.b) (fun v => rfl) asTup (fun L d v Hc hmd hd hL nL t1 hs2 up N hN => ?_) fun L us H5 e5 hL nL hus hds => ?_
    · obtain ⟨row, hrow, hrd⟩ := hR.mem hmd
      have hsq : SqD K (hid (L :: [m]) Hc) v (row.map encW) := by
        rcases hrd with z | z <;> rw [z] at hd
        · exact .inl hd
        · exact .inr hd
      have hat : asTup d = .tuple (row.map encW) := by rcases hrd with z | z <;> rw [z] <;> rfl
      rw [hat] at hN
      walk_at "rc"
      refine rd_anySq (fun Q q => ⟨_, rfl, q⟩) hid_ex hsq fun J2 wJ2 => ?_
      refine lc_MD (K := K) (S := L :: [m]) tr_ex hs2 wJ2 (Evl.Ex.refl _) (by rw [List.length_map]; exact bd.w row hrow) (fun v => rfl) id (fun L2 d2 v2 Hc2 hmd2 hd2 hL2 nL2 t2 hs3 up2 N2 hN2 => ?_) fun L2 us2 H6 e6 hL2 nL2 hus2 hds2 => ?_
      · refine rd_ife ?_
        walk_at "rc"
        obtain ⟨wy, _, rfl⟩ := List.mem_map.mp hmd2
        cases wy with
        | none =>
          have e := Dp.non_iff hd2
          subst e
          refine rd_itet (by decide) ?_
          exact hN2 _ Hc2 (Evl.Ex.refl Hc2) hd2
        | some wy =>
          obtain ⟨a2, vs2, rfl, g1, g2⟩ := Dp.tupv hd2
          refine rd_itef (decide_eq_false fun z => nomatch z) ?_
          walk_at "rc"
          exact rd_tupT (Evl.ex_t hid_ex g1) (hN2 _ Hc2 (Evl.Ex.refl Hc2) hd2)
      · rw [List.map_id] at hds2
        walk_at "rc"
        refine rd_tupL (SqL.of hus2) fun l hl => ?_
        refine hN _ _ (ex_upd e6 hl) ?_
        exact Dp.newT hl (notin_of (sts_ex hs2 e6) hl) (hds2.ex hid_tail)
    rw [hR.tup] at hds
    have dL := Dp.frz hus nL hds
    have k5 := k4.trans (Kp.of_ex (S := [m]) e5)
    have m5 := e5 _ _ m4
    walk_at "rc"
    refine rd_tupSq (S := [m]) (st1 m5) (Evl.Ex.refl _) (.inl dL) fun tt H6 e6 htt => ?_
    have k6 := k5.trans (Kp.of_ex (S := [m]) e6)
    have m6 := e6 _ _ m5
    have htf6 := htf4.ex (Ex.hid (S := [m]) (e5.trans e6))
    walk_at "rc"
    refine ⟨m, T.C_Rewriter, dx, _, rfl, m6, T.cl_Rewriter, T.na_Rewriter_table, by show 3 < 1000; decide, ?_⟩
    have k7 := pm (o := .ins T.C_Rewriter dx (putF "table" (.ref tt) [("letters", .str ls), ("lead", .str r.lead), ("finals", .ref tf)])) k6
    have u7 := (Kp.put (S := [m]) (H := H6) (o := .ins T.C_Rewriter dx (putF "table" (.ref tt) [("letters", .str ls), ("lead", .str r.lead), ("finals", .ref tf)])) List.mem_cons_self).ex
    generalize hH7 : upd H6 m (.ins T.C_Rewriter dx (putF "table" (.ref tt) [("letters", .str ls), ("lead", .str r.lead), ("finals", .ref tf)])) = H7 at k7 u7
    have m7 : H7 m = some (.ins T.C_Rewriter dx (rFields ls r.lead tf tt)) := by rw [← hH7]; exact upd_same
    have ra : RwAt K T.C_Rewriter H7 m ls r := ⟨dx, tf, tt, m7, (htf6.ex u7).ex hid_ex, (htt.ex u7).ex hid_ex⟩
    walk_at "rc"
    refine ⟨m, dx, _, rfl, m7, rfl, ?_⟩
    walk_at "rc"
    refine ⟨m, ls, r, rfl, l1, bd, ra, fun g H8 e8 => ?_, fun g d H8 hd e8 h8 => ?_⟩
    · exact qy g H8 (k7.trans (Kp.of_ex e8)) (ra.ex e8)
    · refine qn g d H8 (k7.trans (Kp.of_ex e8)) ?_ h8
      cases q0 : H d with
      | none => rfl
      | some o =>
        by_cases hdm : d = m
        · rw [hdm, m7] at hd; cases hd
        · rw [k7 d o (fun z => hdm (List.mem_singleton.mp z)) q0] at hd; cases hd
end
/-! ### the law's own helpers -/
def rowL (row : List Way) : PyData := .list (row.map encW)
/-- parts as the law holds them -/
def partsL (r : Parts) : PyData := .tuple [.str r.lead, .list (r.fin.map encO), .list (r.tab.map rowL)]
structure Sm (r : Parts) : Prop where
  t : ∀ t ∈ allTexts r, t.length ≤ 10
  f : r.fin.length ≤ 20
  b : r.tab.length ≤ 20
  w : ∀ row ∈ r.tab, row.length ≤ 20
theorem flat_len {α β : Type} {f : α → List β} {B : Nat} : ∀ l : List α, (∀ x ∈ l, (f x).length ≤ B) → (l.flatMap f).length ≤ l.length * B
  | [], _ => Nat.zero_le _
  | x :: l, h => by
    have a := h x List.mem_cons_self
    have b := flat_len l fun y hy => h y (List.mem_cons_of_mem _ hy)
    rw [List.flatMap_cons, List.length_append, List.length_cons, Nat.succ_mul]
    omega
theorem Sm.bnd {r : Parts} (h : Sm r) : Bnd r := by
  refine ⟨fun t ht => Nat.le_trans (h.t t ht) (by decide), ?_, Nat.lt_of_le_of_lt h.f (by decide), Nat.lt_of_le_of_lt h.b (by decide), fun row hr => Nat.lt_of_le_of_lt (h.w row hr) (by decide)⟩
  have a := List.length_filterMap_le id r.fin
  have b := flat_len (f := textsOf) (B := 20) r.tab fun row hr => by
    unfold textsOf waysOf
    rw [List.length_map]
    exact Nat.le_trans (List.length_filterMap_le id row) (h.w row hr)
  have c := h.f
  have d := h.b
  unfold allTexts
  rw [List.length_append, List.length_cons]
  have e : r.tab.length * 20 ≤ 20 * 20 := Nat.mul_le_mul_right 20 d
  omega
def spMaker : Sp := fun vs H Q _ => ∃ (p : Addr) (ls : Str) (most : Nat) (S : List Addr), vs = [.str ls, .ref p, .int (most : Int)] ∧ 0 < ls.length ∧ ls.length ≤ 10 ∧ 0 < most ∧ most ≤ 10 ∧ StAt H p ∧ p ∈ S ∧ (∀ b ∈ S, ∃ o, H b = some o) ∧
  ∀ (v : V) (r : Parts) (H' : Hp), Dp K (hid S H') v (partsL r) → goodR ls r → Sm r → r.fin.length ≤ most → Dr p H H' → Q v H'
theorem ok_maker (T : Txt K mg) : FnOk P w K mg base CX0 3 T.a_maker T.d_maker ["letters", "state", "most"] (spMaker (K := K)) := by
  refine T.f_maker.ok sc_maker (fun vs H Q E h => ?_) (fun cdv A outer s H vs Q E hr h => ?_)
  · obtain ⟨_, _, _, _, rfl, _⟩ := h; rfl
  · obtain ⟨p, ls, most, S, rfl, l0, l1, m0, m1, hS, hp, hs, q⟩ := h
    refine ⟨_, (pss_cons (ps_set (i := 3) sc_maker.nd rfl (by first | exact Or.inl rfl | exact Or.inr rfl) (pe_op (kAdd K) pe_int (pe_callE (ok_next T) (hr.mono (by decide)) T.o_next (pa_cons (pv 1) (pa_cons (pv 2) pa_nil)))))
  (pss_cons (ps_setLc (i := 4) (own := [("k", 5)]) (g := gName 5) (tt := tYes) (by rfl) sc_maker.nd rfl rfl (sw_true rfl rfl rfl (by decide +kernel)) (pi_range1 (by rfl) T.nb_range (pa_cons (pv 3) pa_nil)) (blkOk_by (own := [("k", 5)]) (N := ["letters", "state", "most", "many", "finals", "k", "table", "row", "letter", "way"]) (sc := defScope s_maker) (by decide +kernel)) (fun _ _ _ _ _ => (pg_name (i := 5) sc_maker.nd rfl (by first | exact Or.inl rfl | exact Or.inr rfl))) (fun _ _ _ _ _ => pts_nil) (fun _ _ _ _ _ => (pe_ifExp (pt_cmpR (kEq K rfl hr.units) (pe_callE (ok_next T) (hr.mono (by decide)) T.o_next (pa_cons (pv 1) (pa_cons pe_int pa_nil))) pe_int (by first | rfl | exact nomark _)) pe_non (pe_callE (ok_word T) (hr.mono (by decide)) T.o_word (pa_cons (pv 0) (pa_cons (pv 1) (pa_cons pe_int pa_nil)))))))
  (pss_cons (ps_set (i := 6) sc_maker.nd rfl (by first | exact Or.inl rfl | exact Or.inr rfl) (pe_lst pa_nil))
  (pss_cons (ps_for PassesOwn.never rfl (pi_range1 (by rfl) T.nb_range (pa_cons (pv 3) pa_nil)) (pg_name (i := 5) sc_maker.nd rfl (by first | exact Or.inl rfl | exact Or.inr rfl))
    (pss_cons (ps_set (i := 7) sc_maker.nd rfl (by first | exact Or.inl rfl | exact Or.inr rfl) (pe_lst pa_nil))
  (pss_cons (ps_for PassesOwn.never rfl (kAny K rfl (pv 0)) (pg_name (i := 8) sc_maker.nd rfl (by first | exact Or.inl rfl | exact Or.inr rfl))
    (pss_cons (ps_set (i := 9) sc_maker.nd rfl (by first | exact Or.inl rfl | exact Or.inr rfl) (pe_tup (pa_cons (pe_callE (ok_next T) (hr.mono (by decide)) T.o_next (pa_cons (pv 1) (pa_cons (pv 3) pa_nil))) (pa_cons (pe_callE (ok_word T) (hr.mono (by decide)) T.o_word (pa_cons (pv 0) (pa_cons (pv 1) (pa_cons pe_int pa_nil)))) pa_nil))))
  (pss_one (ps_expr (kBm K rfl (pe_bm PySem.F.plainAttrs_list PySem.F.slot_list_append PySem.F.type_list_append mt_append (pv 7) (pa_cons (pe_ifExp (pt_cmpR (kEq K rfl hr.units) (pe_callE (ok_next T) (hr.mono (by decide)) T.o_next (pa_cons (pv 1) (pa_cons pe_int pa_nil))) pe_int (by first | rfl | exact nomark _)) pe_non (pv 9)) pa_nil)))))))
  (pss_one (ps_expr (kBm K rfl (pe_bm PySem.F.plainAttrs_list PySem.F.slot_list_append PySem.F.type_list_append mt_append (pv 6) (pa_cons (pv 7) pa_nil))))))))
  (pss_one (ps_ret (pe_tup (pa_cons (pe_callE (ok_word T) (hr.mono (by decide)) T.o_word (pa_cons (pv 0) (pa_cons (pv 1) (pa_cons pe_int pa_nil)))) (pa_cons (pv 4) (pa_cons (pv 6) pa_nil)))))))))), ?_⟩
    walk_at "rc"
    refine ⟨p, most, rfl, by omega, hS, fun n0 H1 r0 r1 S1 o1 i1 => ?_⟩
    have d1 : Dr p H H1 := ⟨S1, o1, i1.2⟩
    obtain ⟨n1, rfl⟩ := Int.eq_ofNat_of_zero_le r0
    have en : (1 : Int) + (n1 : Int) = ((1 + n1 : Nat) : Int) := by omega
    refine rd_addI ?_
    rw [en]
    have hn : 1 + n1 ≤ 10 := by omega
    have hn0 : 1 + n1 ≤ most := by omega
    generalize hnn : 1 + n1 = n at hn hn0
    have n0 : 0 < n := by omega
    have hs1 : ∀ b ∈ S, ∃ o, H1 b = some o := fun b hb => d1.st' (hs b hb)
    walk_at "rc"
    refine ⟨(n : Int), rfl, by omega, by omega, ?_⟩
    rw [Int.toNat_natCast]
    refine lc_R (K := K) (S := S) (P := fun i x => x = V.int (i : Nat)) (tr_dr S1 hp) hs1 walk_range0 rng_Y (by omega) (fun _ _ => True.intro) (fun i d => ∃ o : Option Str, d = encO o ∧ ∀ s, o = some s → isT ls s ∧ s.length ≤ 3) (hg_name fun v => rfl) (fun L i σ2 Hc hi p2 hL nL dc hs up N hN => ?_) fun Lf uf H2 ds d2 hLf nLf huf hdf hlf hRf => ?_
    · obtain ⟨v, rfl, rfl⟩ := p2
      refine rd_ife ?_
      walk_at "rc"
      refine ⟨p, 4, rfl, by decide, dc.st, fun r H3 q0 q1 S3 o3 i3 => ?_⟩
      have d3 : Dr p Hc H3 := ⟨S3, o3, i3.2⟩
      walk_at "rc"
      refine rd_iteD (fun _ => ?_) (fun _ => ?_)
      · exact hN _ _ _ d3 .non ⟨none, rfl, fun s z => by cases z⟩
      · walk_at "rc"
        refine ⟨p, ls, 3, rfl, l0, by omega, by decide, S3, fun t H4 ht tl d4 => ?_⟩
        exact hN _ _ _ (d3.trans d4) (.str t) ⟨some t, rfl, fun s z => by cases z; exact ⟨ht, tl⟩⟩
    obtain ⟨fin, rfl, hfin⟩ := map_ofD (f := encO) ds hRf
    rw [List.length_map] at hlf
    have dH2 := d1.trans d2
    have S2 := d2.st
    have hs2 : ∀ b ∈ S, ∃ o, H2 b = some o := fun b hb => d2.st' (hs1 b hb)
    have fF : Dp K (hid S H2) (.ref Lf) (.list (fin.map encO)) := Dp.frz huf nLf hdf
    walk_at "rc"
    refine ⟨by decide, fun Lt hLt => ?_⟩
    have nLt : Lt ∉ S := notin_of hs2 hLt
    have d3 : Dr p H2 (upd H2 Lt (.lst [])) := (Dr.refl S2).put S2 hLt
    have hLt3 : upd H2 Lt (.lst []) Lt = some (.lst []) := upd_same
    have fF3 := fF.ex (Kp.up (M := S) (S := Lt :: S) (d3.kp hp) fun b hb hn => by
      rcases List.mem_cons.mp hb with z | z
      · rw [z]; exact hLt
      · exact absurd z hn)
    generalize upd H2 Lt (.lst []) = H3 at d3 hLt3 fF3
    walk_at "rc"
    walk_at "rs"
    walk_at "rc"
    have pl : Lt ≠ p := fun z => nLt (z ▸ hp)
    refine ⟨(n : Int), rfl, by omega, by omega, fo_range (n := (n : Int).toNat) (fun i σ H' => (∃ k5 k7 k8 k9 : Option V, σ = [some (.str ls), some (.ref p), some (.int (most : Int)), some (.int (n : Nat)), some (.ref Lf), k5, some (.ref Lt), k7, k8, k9]) ∧ Dr p H2 H' ∧ Dp K (hid (Lt :: S) H') (.ref Lf) (.list (fin.map encO)) ∧
      ∃ us tab, H' Lt = some (.lst us) ∧ DpAll K (hid (Lt :: S) H') us (tab.map rowL) ∧ tab.length = i ∧ ∀ row ∈ tab, row.length = ls.length ∧ ∀ w, some w ∈ row → (0 ≤ w.1 ∧ w.1 < (n : Int)) ∧ isT ls w.2 ∧ w.2.length ≤ 3)
      ⟨⟨none, none, none, none, rfl⟩, d3, fF3, [], [], hLt3, .nil, rfl, fun row hr => nomatch hr⟩ ?_ ?_⟩
    · rintro i σ H4 hi ⟨⟨k5, k7, k8, k9, rfl⟩, d4, fF4, us, tab, hu4, ht4, tl4, tg4⟩
      have S4 := d4.st
      have hs4 : ∀ b ∈ Lt :: S, ∃ o, H4 b = some o := fun b hb => by
        rcases List.mem_cons.mp hb with z | z
        · rw [z]; exact ⟨_, hu4⟩
        · exact d4.st' (hs2 b z)
      have hp1 : p ∈ Lt :: S := List.mem_cons_of_mem _ hp
      walk_at "rc"
      refine ⟨by decide, fun Lr hLr => ?_⟩
      have nLr : Lr ∉ Lt :: S := notin_of hs4 hLr
      have d5 : Dr p H4 (upd H4 Lr (.lst [])) := (Dr.refl S4).put S4 hLr
      have hLr5 : upd H4 Lr (.lst []) Lr = some (.lst []) := upd_same
      have d45 : Dr p H2 (upd H4 Lr (.lst [])) := d4.put S2 (d4.back S2 hLr)
      generalize upd H4 Lr (.lst []) = H5 at d5 hLr5 d45
      walk_at "rc"
      walk_at "rs"
      walk_at "rc"
      refine rd_anyS (fun Q q => ⟨_, rfl, q⟩) (fo_str (fun j σ H' => (∃ k8 k9 : Option V, σ = [some (.str ls), some (.ref p), some (.int (most : Int)), some (.int (n : Nat)), some (.ref Lf), some (.int (i : Nat)), some (.ref Lt), some (.ref Lr), k8, k9]) ∧ Dr p H4 H' ∧
        ∃ vs row, H' Lr = some (.lst vs) ∧ DpAll K (hid (Lr :: Lt :: S) H') vs (row.map encW) ∧ row.length = j ∧ ∀ w, some w ∈ row → (0 ≤ w.1 ∧ w.1 < (n : Int)) ∧ isT ls w.2 ∧ w.2.length ≤ 3)
        ⟨⟨_, _, rfl⟩, d5, [], [], hLr5, .nil, rfl, fun w hw => nomatch hw⟩ ?_ ?_)
      · rintro j c σ H6 hj ⟨⟨k8, k9, rfl⟩, d6, vs, row, hv6, hr6, rl6, rg6⟩
        have S6 := d6.st
        have hp2 : p ∈ Lr :: Lt :: S := List.mem_cons_of_mem _ hp1
        have hs6 : ∀ b ∈ Lr :: Lt :: S, ∃ o, H6 b = some o := fun b hb => by
          rcases List.mem_cons.mp hb with z | z
          · rw [z]; exact ⟨_, hv6⟩
          · exact d6.st' (hs4 b z)
        have nrp : Lr ≠ p := fun z => nLr (z ▸ hp1)
        walk_at "rc"
        refine ⟨p, (n : Int), rfl, by omega, S6, fun a H7 a0 a1 S7 o7 i7 => ?_⟩
        have d7 : Dr p H6 H7 := ⟨S7, o7, i7.2⟩
        walk_at "rc"
        refine ⟨p, ls, 3, rfl, l0, by omega, by decide, S7, fun t H8 ht tl d8 => ?_⟩
        walk_at "rc"
        refine ⟨by show 2 ≤ sizeLine; decide, fun qa hqa => ?_⟩
        have d68 := d7.trans d8
        have nq : qa ∉ Lr :: Lt :: S := notin_of (fun b hb => d68.st' (hs6 b hb)) hqa
        have fq : Dp K (hid (Lr :: Lt :: S) (upd H8 qa (.tup [.int a, .str t]))) (.ref qa) (encW (some (a, t))) := Dp.newT hqa nq (.cons (.int a) (.cons (.str t) .nil))
        have d9 : Dr p H6 (upd H8 qa (.tup [.int a, .str t])) := d68.put S6 (d68.back S6 hqa)
        generalize upd H8 qa (.tup [.int a, .str t]) = H9 at fq d9
        walk_at "rc"
        have hv9 := d9.old _ _ nrp hv6
        refine ⟨.inl ⟨rfl, _, SqL.of hv9⟩, ?_⟩
        walk_at "rc"
        have fin' : ∀ (wy : Way) (v : V) (H10 : Hp), Dr p H6 H10 → Dp K (hid (Lr :: Lt :: S) H10) v (encW wy) → (∀ w, wy = some w → (0 ≤ w.1 ∧ w.1 < (n : Int)) ∧ isT ls w.2 ∧ w.2.length ≤ 3) → ∀ N : L2.St → Hp → Prop, ∀ σ', (∀ (vs' : List V) (row' : List Way), (upd H10 Lr (.lst vs')) Lr = some (.lst vs') → DpAll K (hid (Lr :: Lt :: S) (upd H10 Lr (.lst vs'))) vs' (row'.map encW) → row'.length = j + 1 → (∀ w, some w ∈ row' → (0 ≤ w.1 ∧ w.1 < (n : Int)) ∧ isT ls w.2 ∧ w.2.length ≤ 3) → Dr p H4 (upd H10 Lr (.lst vs')) → N σ' (upd H10 Lr (.lst vs'))) → rAppend (.ref Lr) [v] H10 fun _ H' => N σ' H' := by
          intro wy v H10 d10 fv hw N σ' hN
          refine ⟨Lr, vs, v, rfl, rfl, d10.old _ _ nrp hv6, ?_, hN _ (row ++ [wy]) upd_same ?_ (by rw [List.length_append, rl6]; rfl) (fun w hw' => ?_) ((d6.trans d10).put S4 hLr)⟩
          · have e1 := hr6.len
            have e2 := (List.getElem?_eq_some_iff.mp hj).1
            have e3 : ls.cps.toList.length = ls.length := rfl
            rw [List.length_map, rl6] at e1
            rw [e1]
            exact Nat.lt_of_lt_of_le (show j < 100 by omega) (by decide)
          · rw [List.map_append]
            exact ((hr6.ex (d10.kp hp2).ex).snoc fv).ex (Kp.put List.mem_cons_self).ex
          · rcases List.mem_append.mp hw' with z | z
            · exact rg6 w z
            · exact hw w (List.mem_singleton.mp z).symm
        refine rd_ife ?_
        walk_at "rc"
        refine ⟨p, 6, rfl, by decide, d9.st, fun b H10 b0 b1 S10 o10 i10 => ?_⟩
        have d10 : Dr p H9 H10 := ⟨S10, o10, i10.2⟩
        walk_at "rc"
        refine rd_iteD (fun _ => ?_) (fun _ => ?_)
        · walk_at "rc"
          exact fin' none .non H10 (d9.trans d10) .non (fun w z => by cases z) _ _ fun vs' row' z1 z2 z3 z4 z5 => ⟨⟨_, _, rfl⟩, z5, vs', row', z1, z2, z3, z4⟩
        · walk_at "rc"
          exact fin' (some (a, t)) _ H10 (d9.trans d10) (fq.ex (d10.kp hp2).ex) (fun w z => by cases z; exact ⟨⟨a0, a1⟩, ht, tl⟩) _ _ fun vs' row' z1 z2 z3 z4 z5 => ⟨⟨_, _, rfl⟩, z5, vs', row', z1, z2, z3, z4⟩
      · rintro σ H6 ⟨⟨k8, k9, rfl⟩, d6, vs, row, hv6, hr6, rl6, rg6⟩
        have hu6 := d6.old _ _ pl hu4
        have k6 := d6.kp hp1
        walk_at "rc"
        refine ⟨.inl ⟨rfl, _, SqL.of hu6⟩, ?_⟩
        walk_at "rc"
        have fr : Dp K (hid (Lt :: S) H6) (.ref Lr) (rowL row) := Dp.frz hv6 nLr hr6
        refine ⟨Lt, us, _, rfl, rfl, hu6, ?_, ⟨_, _, _, _, rfl⟩, (d4.trans d6).put S2 hLt, (fF4.ex k6.ex).ex (Kp.put List.mem_cons_self).ex, _, tab ++ [row], upd_same, ?_, by rw [List.length_append, tl4]; rfl, fun row' hr' => ?_⟩
        · have e1 := ht4.len
          rw [List.length_map, tl4] at e1
          rw [e1]
          exact Nat.lt_of_lt_of_le (show i < 100 by omega) (by decide)
        · rw [List.map_append]
          exact ((ht4.ex k6.ex).snoc fr).ex (Kp.put List.mem_cons_self).ex
        · rcases List.mem_append.mp hr' with z | z
          · exact tg4 row' z
          · rw [List.mem_singleton.mp z]
            exact ⟨rl6, rg6⟩
    · rintro σ H4 ⟨⟨k5, k7, k8, k9, rfl⟩, d4, fF4, us, tab, hu4, ht4, tl4, tg4⟩
      rw [Int.toNat_natCast] at tl4
      have fT : Dp K (hid S H4) (.ref Lt) (.list (tab.map rowL)) := Dp.frz hu4 nLt ht4
      have fF5 := fF4.ex hid_tail
      walk_at "rc"
      refine ⟨p, ls, 4, rfl, l0, by omega, by decide, d4.st, fun t H5 ht tl d5 => ?_⟩
      walk_at "rc"
      refine ⟨by show 3 ≤ sizeLine; decide, fun qa hqa => ?_⟩
      have d45 := d4.trans d5
      have nq : qa ∉ S := notin_of (fun b hb => d45.st' (hs2 b hb)) hqa
      have hD : Dp K (hid S (upd H5 qa (.tup [.str t, .ref Lf, .ref Lt]))) (.ref qa) (partsL ⟨t, fin, tab⟩) := Dp.newT hqa nq (.cons (.str t) (.cons (fF5.ex (d5.kp hp).ex) (.cons (fT.ex (d5.kp hp).ex) .nil)))
      have tx : ∀ x ∈ allTexts ⟨t, fin, tab⟩, isT ls x ∧ x.length ≤ 4 := fun x hx => by
        rcases List.mem_append.mp hx with z | z
        · rcases List.mem_cons.mp z with z | z
          · rw [z]; exact ⟨ht, tl⟩
          · obtain ⟨o, ho, e⟩ := List.mem_filterMap.mp z
            exact ⟨(hfin o ho x e).1, Nat.le_succ_of_le (hfin o ho x e).2⟩
        · obtain ⟨row, hr, hx⟩ := List.mem_flatMap.mp z
          obtain ⟨w, hw, rfl⟩ := List.mem_map.mp hx
          have z := ((tg4 row hr).2 w (mem_ways.mp hw)).2
          exact ⟨z.1, Nat.le_succ_of_le z.2⟩
      refine q _ ⟨t, fin, tab⟩ _ hD ⟨?_, ?_, fun row hr => ?_, fun x hx => (tx x hx).1⟩ ⟨fun x hx => Nat.le_trans (tx x hx).2 (by decide), ?_, ?_, fun row hr => ?_⟩ ?_ ((dH2.trans d45).put hS ((dH2.trans d45).back hS hqa))
      · show 0 < fin.length
        omega
      · show tab.length = fin.length
        omega
      · obtain ⟨a, b⟩ := tg4 row hr
        exact ⟨a, fun w hw => by
          have := (b w (mem_ways.mp hw)).1
          refine ⟨this.1, ?_⟩
          show w.1 < (fin.length : Int)
          omega⟩
      · show fin.length ≤ 20
        omega
      · show tab.length ≤ 20
        omega
      · have := (tg4 row hr).1
        omega
      · show fin.length ≤ most
        omega
theorem isT_mem {ls t : Str} (h : isT ls t) {c : Nat} {i : Nat} (hi : t.cps.toList[i]? = some c) : c ∈ ls.cps.toList := h c (List.mem_of_getElem? hi)
def spLRew : Sp := fun vs H Q _ => ∃ (ls t : Str) (v : V) (r : Parts), vs = [.str ls, v, .str t] ∧ Dp K H v (partsL r) ∧ goodR ls r ∧ Bnd r ∧ isT ls t ∧ t.length ≤ 10000 ∧ Q (match rwM ls r t.cps.toList with | none => .non | some u => .str u) H
theorem ok_rewrite (T : Txt K mg) : FnOk P w K mg base CX0 1 T.a_rewrite T.d_rewrite ["letters", "parts", "text"] (spLRew (K := K)) := by
  refine T.f_rewrite.ok sc_rewrite (fun vs H Q E h => ?_) (fun cdv A outer s H vs Q E hr h => ?_)
  · obtain ⟨_, _, _, _, rfl, _⟩ := h; rfl
  · obtain ⟨ls, t, v, r, rfl, hv, g, bd, ht, tl, q⟩ := h
    have g0 := g.1
    have rf := Evl.Ex.refl H
    have z1 : (0 : Int) < r.fin.length := by omega
    have tll : t.cps.toList.length = t.length := rfl
    refine ⟨_, (pss_cons (ps_set (i := 3) sc_rewrite.nd rfl (by first | exact Or.inl rfl | exact Or.inr rfl) pe_int)
  (pss_cons (ps_set (i := 4) sc_rewrite.nd rfl (by first | exact Or.inl rfl | exact Or.inr rfl) (pe_ix (kIx K) (pv 1) pe_int (fun _ _ => rfl)))
  (pss_cons (ps_for PassesOwn.never rfl (kAny K rfl (pv 2)) (pg_name (i := 5) sc_rewrite.nd rfl (by first | exact Or.inl rfl | exact Or.inr rfl))
    (pss_cons (ps_set (i := 6) sc_rewrite.nd rfl (by first | exact Or.inl rfl | exact Or.inr rfl) (pe_ix (kIx K) (pe_ix (kIx K) (pe_ix (kIx K) (pv 1) pe_int (fun _ _ => rfl)) (pv 3) (fun _ _ => rfl)) (kBm K rfl (pe_bm PySem.F.plainAttrs_str PySem.F.slot_str_index PySem.F.type_str_index mt_strIdx (pv 0) (pa_cons (pv 5) pa_nil))) (fun _ _ => rfl)))
  (pss_cons (ps_if (pt_cmpR op_isN (pv 6) pe_non (by first | rfl | exact nomark _))
    (pss_one (ps_ret pe_non))
    pss_nil)
  (pss_cons (ps_set (i := 3) sc_rewrite.nd rfl (by first | exact Or.inl rfl | exact Or.inr rfl) (pe_ix (kIx K) (pv 6) pe_int (fun _ _ => rfl)))
  (pss_one (ps_set (i := 4) sc_rewrite.nd rfl (by first | exact Or.inl rfl | exact Or.inr rfl) (pe_op (kAdd K) (pv 4) (pe_ix (kIx K) (pv 6) pe_int (fun _ _ => rfl)))))))))
  (pss_cons (ps_if (pt_cmpR op_isN (pe_ix (kIx K) (pe_ix (kIx K) (pv 1) pe_int (fun _ _ => rfl)) (pv 3) (fun _ _ => rfl)) pe_non (by first | rfl | exact nomark _))
    (pss_one (ps_ret pe_non))
    pss_nil)
  (pss_one (ps_ret (pe_op (kAdd K) (pv 4) (pe_ix (kIx K) (pe_ix (kIx K) (pv 1) pe_int (fun _ _ => rfl)) (pv 3) (fun _ _ => rfl))))))))), ?_⟩
    walk_at "rc"
    refine rd_ixDT rf hv (i := 0) rfl fun v0 hv0 => ?_
    cases Dp.str_iff hv0
    walk_at "rc"
    walk_at "rs"
    walk_at "rc"
    refine rd_anyS (fun Q q => ⟨_, rfl, q⟩) (fo_str (fun i σ H' => ∃ (z : Int × List Str) (k5 k6 : Option V), σ = [some (.str ls), some v, some (.str t), some (.int z.1), some (.str (r.lead ++ catS z.2)), k5, k6] ∧ rwL ls r.tab 0 (t.cps.toList.take i) = some z ∧ H' = H)
      ⟨(0, []), none, none, by rw [show catS [] = "" from rfl, str_nil]; rfl, rfl, rfl⟩ ?_ ?_)
    · rintro i c σ H1 hi ⟨z, k5, k6, rfl, hz, rfl⟩
      have hil : i < t.cps.toList.length := (List.getElem?_eq_some_iff.mp hi).1
      have hcm := isT_mem ht hi
      obtain ⟨rin, zl, zm⟩ := rwL_in g (Int.le_refl 0) z1 t.cps.toList ht i (Nat.le_of_lt hil) z hz
      obtain ⟨row, hrow, hcell, hcw⟩ := cell_in g rin.1 rin.2 hcm
      have ez : z.1 = (z.1.toNat : Int) := (Int.toNat_of_nonneg rin.1).symm
      have nx : rwL ls r.tab 0 (t.cps.toList.take (i + 1)) = (cellR ls r.tab z.1 c).map fun w => (w.1, z.2 ++ [w.2]) := by
        rw [rwL_take hi, hz]
        rfl
      walk_at "rc"
      refine rd_ixDT rf hv (i := 2) rfl fun v2 hv2 => ?_
      walk_at "rc"
      rw [ez]
      refine rd_ixDL rf hv2 (d := rowL row) (by rw [List.getElem?_map, hrow]; rfl) fun v3 hv3 => ?_
      walk_at "rc"
      refine ⟨rfl, ?_⟩
      walk_at "rc"
      refine rd_idx hcm ?_
      refine rd_ixDL rf hv3 (d := encW (cellR ls r.tab z.1 c)) (by rw [List.getElem?_map, hcell]; rfl) fun v4 hv4 => ?_
      walk_at "rc"
      walk_at "rs"
      walk_at "rc"
      cases hcc : cellR ls r.tab z.1 c with
      | none =>
        rw [hcc] at hv4 nx
        cases Dp.non_iff hv4
        refine rd_itet (by decide) ?_
        walk_at "rc"
        have e : rwM ls r t.cps.toList = none := by unfold rwM rwF; rw [rwL_none nx]; rfl
        rw [e] at q
        exact q
      | some wy =>
        rw [hcc] at hv4 nx
        have wb := bd.t _ (hcw wy hcc).2
        obtain ⟨a2, vs2, rfl, g1, g2⟩ := Dp.tupv hv4
        refine rd_itef (decide_eq_false fun z => nomatch z) ?_
        walk_at "rc"
        refine rd_ixDT rf hv4 (i := 0) rfl fun v5 hv5 => ?_
        cases Dp.int_iff hv5
        walk_at "rc"
        refine rd_ixDT rf hv4 (i := 1) rfl fun v6 hv6 => ?_
        cases Dp.str_iff hv6
        have lb := bd.t _ (mem_lead (r := r))
        have cl := cat_len (B := 1000) z.2 fun v hv => bd.t v (zm v hv)
        have sl : sizeLine ≥ 16000000 := by decide
        refine rd_addS (by rw [str_len]; omega) ?_
        walk_at "rc"
        rw [show r.lead ++ catS z.2 ++ wy.2 = r.lead ++ catS (z.2 ++ [wy.2]) from by rw [cat_snoc, ← str_assoc]]
        exact ⟨(wy.1, z.2 ++ [wy.2]), _, _, rfl, nx, rfl⟩
    · rintro σ H1 ⟨z, k5, k6, rfl, hz, rfl⟩
      obtain ⟨rin, zl, zm⟩ := rwL_in g (Int.le_refl 0) z1 t.cps.toList ht t.length (by omega) z hz
      rw [← tll, List.take_length] at hz
      obtain ⟨n, hn⟩ := Int.eq_ofNat_of_zero_le rin.1
      have hnl : n < r.fin.length := by omega
      have e : rwM ls r t.cps.toList = (r.fin[n]).map fun u => r.lead ++ catS z.2 ++ u := by
        unfold rwM rwF
        rw [hz]
        show ((r.fin.getD z.1.toNat none).map fun u => r.lead ++ catS z.2 ++ u) = _
        rw [hn, Int.toNat_natCast, List.getD_eq_getElem?_getD, List.getElem?_eq_getElem hnl]
        rfl
      rw [e] at q
      walk_at "rc"
      walk_at "rs"
      walk_at "rc"
      refine rd_ixDT rf hv (i := 1) rfl fun v1 hv1 => ?_
      walk_at "rc"
      rw [hn]
      refine rd_ixDL rf hv1 (d := encO r.fin[n]) (by rw [List.getElem?_map, List.getElem?_eq_getElem hnl]; rfl) fun v2 hv2 => ?_
      walk_at "rc"
      cases ho : r.fin[n] with
      | none =>
        rw [ho] at hv2 q
        cases Dp.non_iff hv2
        refine rd_itet (by decide) ?_
        walk_at "rc"
        exact q
      | some u =>
        rw [ho] at hv2 q
        cases Dp.str_iff hv2
        have lu := bd.t u (mem_fin (ho ▸ List.getElem_mem hnl))
        have lb := bd.t _ (mem_lead (r := r))
        have cl := cat_len (B := 1000) z.2 fun v hv => bd.t v (zm v hv)
        have sl : sizeLine ≥ 16000000 := by decide
        refine rd_itef (decide_eq_false fun z => nomatch z) ?_
        walk_at "rc"
        refine rd_ixDT rf hv (i := 1) rfl fun v3 hv3 => ?_
        walk_at "rc"
        refine rd_ixDL rf hv3 (d := encO r.fin[n]) (by rw [List.getElem?_map, List.getElem?_eq_getElem hnl]; rfl) fun v4 hv4 => ?_
        rw [ho] at hv4
        cases Dp.str_iff hv4
        refine rd_addS (by rw [str_len]; omega) ?_
        exact q
section
variable (T : Txt K mg)
/-! ### drawn machines -/
def partsN (acc : List Bool) (tab : List (List Nat)) : PyData := .tuple [.list (acc.map PyData.bool), nL tab]
def spParts : Sp := fun vs H Q _ => ∃ (p : Addr) (ls : Str) (most : Nat) (S : List Addr), vs = [.str ls, .ref p, .int (most : Int)] ∧ 0 < ls.length ∧ ls.length ≤ 10 ∧ 0 < most ∧ most ≤ 10 ∧ StAt H p ∧ p ∈ S ∧ (∀ b ∈ S, ∃ o, H b = some o) ∧
  ∀ (v : V) (acc : List Bool) (tab : List (List Nat)) (H' : Hp), Dp K (hid S H') v (partsN acc tab) → GM acc tab → acc.length ≤ most → (∀ row ∈ tab, row.length = ls.length) → Dr p H H' → Q v H'
theorem ok_parts : FnOk P w K mg base CX0 3 T.a_parts T.d_parts ["letters", "state", "most"] (spParts (K := K)) := by
  refine T.f_parts.ok sc_parts (fun vs H Q E h => ?_) (fun cdv A outer s H vs Q E hr h => ?_)
  · obtain ⟨_, _, _, _, rfl, _⟩ := h; rfl
  · obtain ⟨p, ls, most, S, rfl, l0, l1, m0, m1, hS, hp, hs, q⟩ := h
    refine ⟨_, (pss_cons (ps_set (i := 3) sc_parts.nd rfl (by first | exact Or.inl rfl | exact Or.inr rfl) (pe_op (kAdd K) pe_int (pe_callE (ok_next T) (hr.mono (by decide)) T.o_next (pa_cons (pv 1) (pa_cons (pv 2) pa_nil)))))
  (pss_cons (ps_setLc (i := 4) (own := [("k", 5)]) (g := gName 5) (tt := tYes) (by rfl) sc_parts.nd rfl rfl (sw_true rfl rfl rfl (by decide +kernel)) (pi_range1 (by rfl) T.nb_range (pa_cons (pv 3) pa_nil)) (blkOk_by (own := [("k", 5)]) (N := ["letters", "state", "most", "many", "accepting", "k", "table", "letter"]) (sc := defScope s_parts) (by decide +kernel)) (fun _ _ _ _ _ => (pg_name (i := 5) sc_parts.nd rfl (by first | exact Or.inl rfl | exact Or.inr rfl))) (fun _ _ _ _ _ => pts_nil) (fun _ _ _ _ _ => (pe_cmpR (kEq K rfl hr.units) (pe_callE (ok_next T) (hr.mono (by decide)) T.o_next (pa_cons (pv 1) (pa_cons pe_int pa_nil))) pe_int (by first | rfl | exact nomark _))))
  (pss_cons (ps_setLc (i := 6) (own := [("k", 5)]) (g := gName 5) (tt := tYes) (by rfl) sc_parts.nd rfl rfl (sw_true rfl rfl rfl (by decide +kernel)) (pi_range1 (by rfl) T.nb_range (pa_cons (pv 3) pa_nil)) (blkOk_by (own := [("k", 5)]) (N := ["letters", "state", "most", "many", "accepting", "k", "table", "letter"]) (sc := defScope s_parts) (by decide +kernel)) (fun _ _ _ _ _ => (pg_name (i := 5) sc_parts.nd rfl (by first | exact Or.inl rfl | exact Or.inr rfl))) (fun _ _ _ _ _ => pts_nil) (fun _ _ _ _ _ => (pe_lc (own := [("letter", 7)]) (g := gName 7) (tt := tYes) (by rfl) sc_parts.nd (kAny K rfl (pv 0)) (by exact blkOk_in (N := ["letters", "state", "most", "many", "accepting", "k", "table", "letter"]) rfl (by decide +kernel)) (fun _ _ _ _ _ => (pg_name (i := 7) sc_parts.nd rfl (by first | exact Or.inl rfl | exact Or.inr rfl))) (fun _ _ _ _ _ => pts_nil) (fun _ _ _ _ _ => (pe_callE (ok_next T) (hr.mono (by decide)) T.o_next (pa_cons (pv 1) (pa_cons (pv 3) pa_nil)))))))
  (pss_one (ps_ret (pe_tup (pa_cons (pv 4) (pa_cons (pv 6) pa_nil)))))))), ?_⟩
    walk_at "rc"
    refine ⟨p, most, rfl, by omega, hS, fun n0 H1 r0 r1 S1 o1 i1 => ?_⟩
    have d1 : Dr p H H1 := ⟨S1, o1, i1.2⟩
    obtain ⟨n1, rfl⟩ := Int.eq_ofNat_of_zero_le r0
    have en : (1 : Int) + (n1 : Int) = ((1 + n1 : Nat) : Int) := by omega
    refine rd_addI ?_
    rw [en]
    have hn : 1 + n1 ≤ 10 := by omega
    have hn0 : 1 + n1 ≤ most := by omega
    generalize hnn : 1 + n1 = n at hn hn0
    have n0 : 0 < n := by omega
    have hs1 : ∀ b ∈ S, ∃ o, H1 b = some o := fun b hb => d1.st' (hs b hb)
    walk_at "rc"
    refine ⟨(n : Int), rfl, by omega, by omega, ?_⟩
    rw [Int.toNat_natCast]
    refine lc_R (K := K) (S := S) (P := fun i x => x = V.int (i : Nat)) (tr_dr S1 hp) hs1 walk_range0 rng_Y (by omega) (fun _ _ => True.intro) (fun i d => ∃ b : Bool, d = .bool b ∧ True) (hg_name fun v => rfl) (fun L i σ2 Hc hi p2 hL nL dc hs up N hN => ?_) fun Lf uf H2 ds d2 hLf nLf huf hdf hlf hRf => ?_
    · obtain ⟨v, rfl, rfl⟩ := p2
      walk_at "rc"
      refine ⟨p, 3, rfl, by decide, dc.st, fun r H3 q0 q1 S3 o3 i3 => ?_⟩
      have d3 : Dr p Hc H3 := ⟨S3, o3, i3.2⟩
      walk_at "rc"
      exact hN _ _ _ d3 (.bl _) ⟨_, rfl, True.intro⟩
    obtain ⟨acc, rfl, _⟩ := map_ofD (f := PyData.bool) ds hRf
    rw [List.length_map] at hlf
    have dH2 := d1.trans d2
    have S2 := d2.st
    have hs2 : ∀ b ∈ S, ∃ o, H2 b = some o := fun b hb => d2.st' (hs1 b hb)
    have fF : Dp K (hid S H2) (.ref Lf) (.list (acc.map PyData.bool)) := Dp.frz huf nLf hdf
    walk_at "rc"
    refine ⟨(n : Int), rfl, by omega, by omega, ?_⟩
    rw [Int.toNat_natCast]
    refine lc_R (K := K) (S := S) (P := fun i x => x = V.int (i : Nat)) (tr_dr S2 hp) hs2 walk_range0 rng_Y (by omega) (fun _ _ => True.intro) (fun i d => ∃ row : List Nat, d = .list (row.map nI) ∧ row.length = ls.length ∧ ∀ x ∈ row, x < n) (hg_name fun v => rfl) (fun L i σ2 Hc hi p2 hL nL dc hsL up N hN => ?_) fun Lt ut H3 ds d3 hLt nLt hut hdt hlt hRt => ?_
    · obtain ⟨v, rfl, rfl⟩ := p2
      have hp1 : p ∈ L :: S := List.mem_cons_of_mem _ hp
      walk_at "rc"
      refine rd_anyS (fun Q q => ⟨_, rfl, q⟩) ?_
      refine lc_R (K := K) (S := L :: S) (P := fun i x => ∃ c, ls.cps.toList[i]? = some c ∧ x = V.str ⟨#[c]⟩) (tr_dr dc.st hp1) hsL walk_str str_Y (by show ls.length < 100000; omega) (fun _ _ => True.intro) (fun i d => ∃ x : Nat, d = nI x ∧ x < n) (hg_name fun v => rfl) (fun L2 i σ2 Hc2 hi2 p2 hL2 nL2 dc2 hsL2 up2 N2 hN2 => ?_) fun Lr ur H4 ds d4 hLr nLr hur hdr hlr hRr => ?_
      · obtain ⟨v, ⟨c, _, rfl⟩, rfl⟩ := p2
        walk_at "rc"
        refine ⟨p, (n : Int), rfl, by omega, dc2.st, fun r H5 q0 q1 S5 o5 i5 => ?_⟩
        have d5 : Dr p Hc2 H5 := ⟨S5, o5, i5.2⟩
        obtain ⟨x, rfl⟩ := Int.eq_ofNat_of_zero_le q0
        exact hN2 _ _ _ d5 (.int _) ⟨x, rfl, by omega⟩
      · obtain ⟨row, rfl, hrow⟩ := map_ofD (f := nI) ds hRr
        rw [List.length_map] at hlr
        exact hN _ _ _ d4 (Dp.frz hur nLr hdr) ⟨row, rfl, hlr, hrow⟩
    obtain ⟨tab, rfl, htab⟩ := map_ofD (f := fun row : List Nat => PyData.list (row.map nI)) ds hRt
    rw [List.length_map] at hlt
    have fT : Dp K (hid S H3) (.ref Lt) (nL tab) := Dp.frz hut nLt hdt
    have dH3 := dH2.trans d3
    walk_at "rc"
    refine ⟨by show 2 ≤ sizeLine; decide, fun qa hqa => ?_⟩
    have nq : qa ∉ S := notin_of (fun b hb => d3.st' (hs2 b hb)) hqa
    have hD : Dp K (hid S (upd H3 qa (.tup [.ref Lf, .ref Lt]))) (.ref qa) (partsN acc tab) := Dp.newT hqa nq (.cons (fF.ex (d3.kp hp).ex) (.cons fT .nil))
    refine q _ acc tab _ hD ⟨by omega, by omega, ⟨by omega, fun row hr x hx => ?_⟩, fun row hr => ?_⟩ (by omega) (fun row hr => (htab row hr).1) (dH3.put hS (dH3.back hS hqa))
    · have := (htab row hr).2 x hx
      omega
    · have := (htab row hr).1
      omega
end
section
/-! ### the text of a word -/
def tx (ls : Str) (u : List Nat) : Str := ⟨(u.map fun j => ls.cps.toList.getD j 0).toArray⟩
theorem tx_list (ls : Str) (u : List Nat) : (tx ls u).cps.toList = u.map fun j => ls.cps.toList.getD j 0 := by
  show (u.map _).toArray.toList = _
  rw [List.toList_toArray]
theorem tx_snoc (ls : Str) (u : List Nat) (j : Nat) : tx ls (u ++ [j]) = tx ls u ++ (⟨#[ls.cps.toList.getD j 0]⟩ : Str) := by
  refine str_ext ?_
  have e := TL.tl_append (tx ls u) (⟨#[ls.cps.toList.getD j 0]⟩ : Str)
  have e2 : TL.tl (tx ls u) = u.map fun j => ls.cps.toList.getD j 0 := tx_list ls u
  rw [e2] at e
  rw [tx_list, List.map_append]
  exact e.symm
theorem tx_len (ls : Str) (u : List Nat) : (tx ls u).length = u.length := by
  rw [TL.len_tl]
  show (tx ls u).cps.toList.length = _
  rw [tx_list, List.length_map]
end
section
/-! ### the law's own reading of a machine -/
theorem tx_at {ls : Str} {u : List Nat} {i c : Nat} (h : (tx ls u).cps.toList[i]? = some c) : ∃ j, u[i]? = some j ∧ c = ls.cps.toList.getD j 0 := by
  rw [tx_list, List.getElem?_map] at h
  obtain ⟨j, hj, e⟩ := Option.map_eq_some_iff.mp h
  exact ⟨j, hj, e.symm⟩
theorem idx_of {l : List Nat} (nd : l.Nodup) {j : Nat} (hj : j < l.length) : l.getD j 0 ∈ l ∧ l.idxOf (l.getD j 0) = j := by
  have e : l.getD j 0 = l[j] := by rw [List.getD_eq_getElem?_getD, List.getElem?_eq_getElem hj]; rfl
  rw [e]
  refine ⟨List.getElem_mem hj, ?_⟩
  exact List.Nodup.idxOf_getElem nd j hj
theorem fold_take {κ : Type} {nx : κ → Nat → κ} {st : κ} {u : List Nat} {i j : Nat} (h : u[i]? = some j) : (u.take (i + 1)).foldl nx st = nx ((u.take i).foldl nx st) j := by
  rw [List.take_succ, h, List.foldl_append]
  rfl
theorem run_st {ls : Str} {acc : List Bool} {tab : List (List Nat)} (g : GMw ls acc tab) : ∀ {u : List Nat} {s : Nat}, Lw ls.length u → s < acc.length → ∃ t, u.foldl (nxM tab) (.i s) = .i t ∧ t < acc.length
  | [], s, _, hs => ⟨s, rfl, hs⟩
  | j :: u, s, hu, hs => by
    obtain ⟨_, x, _, _, _, hx, hx2⟩ := g.at' hs (hu j List.mem_cons_self)
    have := run_st g (u := u) (s := x) (fun y hy => hu y (List.mem_cons_of_mem _ hy)) hx2
    rw [← hx] at this
    exact this
theorem Lw.take {w : Nat} {u : List Nat} (h : Lw w u) (i : Nat) : Lw w (u.take i) := fun x hx => h x (List.mem_of_mem_take hx)
def spAccepts : Sp := fun vs H Q _ => ∃ (ls : Str) (va vt : V) (acc : List Bool) (tab : List (List Nat)) (u : List Nat), vs = [.str ls, va, vt, .str (tx ls u)] ∧ Dp K H va (.list (acc.map PyData.bool)) ∧ Dp K H vt (nL tab) ∧ GMw ls acc tab ∧ ls.cps.toList.Nodup ∧ Lw ls.length u ∧ Q (.bl (acM acc (u.foldl (nxM tab) (.i 0)))) H
theorem ok_accepts (T : Txt K mg) : FnOk P w K mg base CX0 1 T.a_accepts T.d_accepts ["letters", "accepting", "table", "text"] (spAccepts (K := K)) := by
  refine T.f_accepts.ok sc_accepts (fun vs H Q E h => ?_) (fun cdv A outer s H vs Q E hr h => ?_)
  · obtain ⟨_, _, _, _, _, _, rfl, _⟩ := h; rfl
  · obtain ⟨ls, va, vt, acc, tab, u, rfl, hA, hT, g, nd, hu, q⟩ := h
    refine ⟨_, (pss_cons (ps_set (i := 4) sc_accepts.nd rfl (by first | exact Or.inl rfl | exact Or.inr rfl) pe_int)
  (pss_cons (ps_for PassesOwn.never rfl (kAny K rfl (pv 3)) (pg_name (i := 5) sc_accepts.nd rfl (by first | exact Or.inl rfl | exact Or.inr rfl))
    (pss_one (ps_set (i := 4) sc_accepts.nd rfl (by first | exact Or.inl rfl | exact Or.inr rfl) (pe_ix (kIx K) (pe_ix (kIx K) (pv 2) (pv 4) (fun _ _ => rfl)) (kBm K rfl (pe_bm PySem.F.plainAttrs_str PySem.F.slot_str_index PySem.F.type_str_index mt_strIdx (pv 0) (pa_cons (pv 5) pa_nil))) (fun _ _ => rfl)))))
  (pss_one (ps_ret (pe_ix (kIx K) (pv 1) (pv 4) (fun _ _ => rfl)))))), ?_⟩
    walk_at "rc"
    walk_at "rs"
    walk_at "rc"
    refine rd_anyS (fun Q q => ⟨_, rfl, q⟩) ?_
    refine fo_str (fun i σ H' => ∃ (s : Nat) (k5 : Option V), σ = [some (.str ls), some va, some vt, some (.str (tx ls u)), some (.int (s : Int)), k5] ∧ H' = H ∧ (u.take i).foldl (nxM tab) (.i 0) = .i s ∧ s < acc.length) ⟨0, _, rfl, rfl, rfl, g.m.p⟩ ?_ ?_
    · rintro i c σ H' hc ⟨s, k5, rfl, rfl, hs, hsl⟩
      obtain ⟨j, hj, rfl⟩ := tx_at hc
      have hjl : j < ls.length := hu j (List.mem_of_getElem? hj)
      obtain ⟨hm, hi⟩ := idx_of nd (j := j) hjl
      walk_at "rc"
      obtain ⟨row, x, hr, hx, e1, e2, hxl⟩ := g.at' hsl hjl
      refine rd_ixDL (Evl.Ex.refl H') hT (d := .list (row.map nI)) (by rw [List.getElem?_map, hr]; rfl) fun v hv => ?_
      walk_at "rc"
      refine ⟨rfl, ?_⟩
      walk_at "rc"
      refine ⟨ls, _, rfl, rfl, hm, ?_⟩
      rw [hi]
      refine rd_ixDL (Evl.Ex.refl H') hv (d := nI x) (by rw [List.getElem?_map, hx]; rfl) fun v2 hv2 => ?_
      cases Dp.int_iff hv2
      walk_at "rc"
      refine ⟨x, _, rfl, rfl, ?_, hxl⟩
      rw [fold_take hj, hs]
      show KE.i _ = KE.i x
      rw [e2]
    · rintro σ H' ⟨s, k5, rfl, rfl, hs, hsl⟩
      rw [tx_len, List.take_length] at hs
      rw [hs] at q
      walk_at "rc"
      obtain ⟨b, hb⟩ := getQ hsl
      refine rd_ixDL (Evl.Ex.refl H') hA (d := .bool b) (by rw [List.getElem?_map, hb]; rfl) fun v hv => ?_
      cases Dp.bl_iff hv
      have e : acM acc (.i s) = b := by
        show acc.getD s false = b
        rw [List.getD_eq_getElem?_getD, hb]; rfl
      rw [e] at q
      exact q
end
section
variable (T : Txt K mg)
theorem rowsA_N {H : Hp} : ∀ {vs : List V} {ds : List PyData} {tab : List (List Nat)}, DpAll K H vs ds → RowsN ds tab → ∃ rs, vs = rs.map V.ref ∧ RowsA K H rs (tab.map iN)
  | _, _, tab, .nil, h => by
    have : tab = [] := List.eq_nil_of_length_eq_zero h.1.symm
    subst this
    exact ⟨[], rfl, .nil⟩
  | _, _, tab, .cons (d := d) (ds := ds) h t, hr => by
    match tab, hr with
    | row :: tab, hr =>
    have ht : RowsN ds tab := ⟨Nat.succ.inj hr.1, fun i d row h1 h2 => hr.2 (i + 1) d row (by simpa using h1) (by simpa using h2)⟩
    obtain ⟨rs, rfl, hr'⟩ := rowsA_N t ht
    rcases hr.2 0 d row rfl rfl with z | z
    · subst z
      obtain ⟨a, vs, rfl, h1, h2⟩ := Dp.lstv h
      obtain rfl := dp_iN h2
      exact ⟨a :: rs, rfl, .cons (.inl h1) hr'⟩
    · subst z
      obtain ⟨a, vs, rfl, h1, h2⟩ := Dp.tupv h
      obtain rfl := dp_iN h2
      exact ⟨a :: rs, rfl, .cons (.inr h1) hr'⟩
/-- made of lists or of tuples -/
theorem made_S {x dx : Addr} {va vt : V} {ls : Str} {acc : List Bool} {ds : List PyData} {tab : List (List Nat)} {H : Hp} {Q : VK} {E : XK} (hx : H x = none) (hdx : H dx = none) (ne : dx ≠ x) (l0 : 0 < ls.length) (l1 : ls.length ≤ 1000) (hA : SqD K H va (acc.map PyData.bool)) (hT : SqD K H vt ds) (hR : RowsN ds tab) (g : GM acc tab) (hw : ∀ row ∈ tab, row.length = ls.length)
    (q : ∀ H', Ex H H' → MachD K T.C_Machine H' x ls acc tab → Q .non H') : spMInit T [.ref x, .str ls, va, vt] (upd (upd H dx (.own x)) x (.ins T.C_Machine dx [])) Q E := by
  obtain ⟨pa, rfl, a1⟩ : ∃ pa, va = .ref pa ∧ SqA K H pa (acc.map V.bl) := by
    rcases hA with h | h
    · obtain ⟨pa, vs, rfl, a1, a2⟩ := Dp.lstv h
      obtain rfl := dp_bls a2
      exact ⟨pa, rfl, .inl a1⟩
    · obtain ⟨pa, vs, rfl, a1, a2⟩ := Dp.tupv h
      obtain rfl := dp_bls a2
      exact ⟨pa, rfl, .inr a1⟩
  obtain ⟨pt, ws, rfl, t1, t2⟩ : ∃ pt ws, vt = .ref pt ∧ SqA K H pt ws ∧ DpAll K H ws ds := by
    rcases hT with h | h
    · obtain ⟨pt, ws, rfl, t1, t2⟩ := Dp.lstv h
      exact ⟨pt, ws, rfl, .inl t1, t2⟩
    · obtain ⟨pt, ws, rfl, t1, t2⟩ := Dp.tupv h
      exact ⟨pt, ws, rfl, .inr t1, t2⟩
  obtain ⟨rs, rfl, hR⟩ := rowsA_N t2 hR
  have e : Ex H (upd (upd H dx (.own x)) x (.ins T.C_Machine dx [])) := fun b o q => by rw [upd_ne (ne_of_none q hx), upd_ne (ne_of_none q hdx)]; exact q
  have gn := g.g.n
  refine ⟨x, dx, pa, pt, ls, acc, rs, tab.map iN, rfl, l0, by omega, upd_same, SqA.ex a1 e, SqA.ex t1 e, hR.ex e, by rw [List.length_map]; omega, fun _ H' k hm _ => ?_, fun z => absurd (good_N g hw) z⟩
  exact q H' (fun b o z => k b o (ne_of_none z hx) (e b o z)) hm.D
def spRunFrom : Sp := fun vs H Q _ => ∃ (m : Addr) (ls : Str) (acc : List Bool) (tab : List (List Nat)) (s0 : Nat) (u : List Nat), vs = [.ref m, .int (s0 : Int), .str (tx ls u)] ∧ MachD K T.C_Machine H m ls acc tab ∧ GMw ls acc tab ∧ ls.cps.toList.Nodup ∧ Lw ls.length u ∧ s0 < acc.length ∧ Q (.int ((rn tab s0 u : Nat) : Int)) H
theorem rn_take {tab : List (List Nat)} {s0 i j : Nat} {u : List Nat} (h : u[i]? = some j) : rn tab s0 (u.take (i + 1)) = dl tab (rn tab s0 (u.take i)) j := by
  rw [List.take_succ, h]
  exact rn_snoc tab s0 (u.take i) j
theorem ok_Machine_run_from : FnOk P w K mg base CX0 1 T.a_Machine_run_from T.d_Machine_run_from ["self", "state", "text"] (spRunFrom T) := by
  refine T.f_Machine_run_from.ok sc_Machine_run_from (fun vs H Q E h => ?_) (fun cdv A outer s H vs Q E hr h => ?_)
  · obtain ⟨_, _, _, _, _, _, rfl, _⟩ := h; rfl
  · obtain ⟨m, ls, acc, tab, s0, u, rfl, M, g, nd, hu, hs0, q⟩ := h
    obtain ⟨dx, ta, tt, hm, hA, hT⟩ := id M
    have tb : Tb acc.length ls.length tab := ⟨g.m.p, g.m.e, fun s j hs hj => by
      obtain ⟨_, x, _, _, _, h1, h2⟩ := g.at' hs hj
      rw [h1]; exact h2, g.w⟩
    refine ⟨_, (pss_cons (ps_for PassesOwn.never rfl (kAny K rfl (pv 2)) (pg_name (i := 3) sc_Machine_run_from.nd rfl (by first | exact Or.inl rfl | exact Or.inr rfl))
    (pss_one (ps_set (i := 1) sc_Machine_run_from.nd rfl (by first | exact Or.inl rfl | exact Or.inr rfl) (pe_ix (kIx K) (pe_ix (kIx K) (kFld K rfl (pe_fld (pv 0) rfl)) (pv 1) (fun _ _ => rfl)) (kBm K rfl (pe_bm PySem.F.plainAttrs_str PySem.F.slot_str_index PySem.F.type_str_index mt_strIdx (kFld K rfl (pe_fld (pv 0) rfl)) (pa_cons (pv 3) pa_nil))) (fun _ _ => rfl)))))
  (pss_one (ps_ret (pv 1)))), ?_⟩
    walk_at "rs"
    walk_at "rc"
    refine rd_anyS (fun Q q => ⟨_, rfl, q⟩) ?_
    refine fo_str (fun i σ H' => ∃ k3 : Option V, σ = [some (.ref m), some (.int ((rn tab s0 (u.take i) : Nat) : Int)), some (.str (tx ls u)), k3] ∧ H' = H) ⟨_, rfl, rfl⟩ ?_ ?_
    · rintro i c σ H' hc ⟨k3, rfl, rfl⟩
      obtain ⟨j, hj, rfl⟩ := tx_at hc
      have hjl : j < ls.length := hu j (List.mem_of_getElem? hj)
      have hsl : rn tab s0 (u.take i) < acc.length := tb.rn (hu.take i) hs0
      obtain ⟨hmm, hi⟩ := idx_of nd (j := j) hjl
      walk_at "rc"
      refine ⟨m, _, dx, _, _, rfl, hm, T.cl_Machine, T.na_Machine_table, rfl, ?_⟩
      walk_at "rc"
      obtain ⟨row, x, hr, hx, e1, e2, hxl⟩ := g.at' hsl hjl
      refine rd_ixDT (Evl.Ex.refl H') hT (d := .tuple (row.map nI)) (by rw [List.getElem?_map, hr]; rfl) fun v hv => ?_
      walk_at "rc"
      refine ⟨m, _, dx, _, _, rfl, hm, T.cl_Machine, T.na_Machine_letters, rfl, ?_⟩
      refine ⟨rfl, ?_⟩
      walk_at "rc"
      refine ⟨ls, _, rfl, rfl, hmm, ?_⟩
      rw [hi]
      refine rd_ixDT (Evl.Ex.refl H') hv (d := nI x) (by rw [List.getElem?_map, hx]; rfl) fun v2 hv2 => ?_
      cases Dp.int_iff hv2
      walk_at "rc"
      have er : rn tab s0 (u.take (i + 1)) = x := by rw [rn_take hj, dl, e2]
      rw [er]
      exact ⟨_, rfl, rfl⟩
    · rintro σ H' ⟨k3, rfl, rfl⟩
      rw [tx_len, List.take_length]
      walk_at "rc"
      exact q
def spRun : Sp := fun vs H Q _ => ∃ (m : Addr) (ls : Str) (acc : List Bool) (tab : List (List Nat)) (u : List Nat), vs = [.ref m, .str (tx ls u)] ∧ MachD K T.C_Machine H m ls acc tab ∧ GMw ls acc tab ∧ ls.cps.toList.Nodup ∧ Lw ls.length u ∧ Q (.int ((rn tab 0 u : Nat) : Int)) H
theorem ok_Machine_run : FnOk P w K mg base CX0 2 T.a_Machine_run T.d_Machine_run ["self", "text"] (spRun T) := by
  refine T.f_Machine_run.ok sc_Machine_run (fun vs H Q E h => ?_) (fun cdv A outer s H vs Q E hr h => ?_)
  · obtain ⟨_, _, _, _, _, rfl, _⟩ := h; rfl
  · obtain ⟨m, ls, acc, tab, u, rfl, M, g, nd, hu, q⟩ := h
    obtain ⟨dx, ta, tt, hm, hA, hT⟩ := id M
    refine ⟨_, (pss_one (ps_ret (pe_meth (pv 0) T.cl_Machine T.m_Machine_run_from (ok_Machine_run_from T) (hr.mono (by decide)) T.b_Machine_run_from .nil pass0 (pa_cons pe_int (pa_cons (pv 1) pa_nil))))), ?_⟩
    walk_at "rc"
    refine ⟨m, dx, _, rfl, hm, rfl, ?_⟩
    walk_at "rc"
    exact ⟨m, ls, acc, tab, 0, u, rfl, M, g, nd, hu, g.m.p, q⟩
def spMAcc : Sp := fun vs H Q _ => ∃ (m : Addr) (ls : Str) (acc : List Bool) (tab : List (List Nat)) (u : List Nat), vs = [.ref m, .str (tx ls u)] ∧ MachD K T.C_Machine H m ls acc tab ∧ GMw ls acc tab ∧ ls.cps.toList.Nodup ∧ Lw ls.length u ∧ Q (.bl (acc.getD (rn tab 0 u) false)) H
theorem ok_Machine_accepts : FnOk P w K mg base CX0 3 T.a_Machine_accepts T.d_Machine_accepts ["self", "text"] (spMAcc T) := by
  refine T.f_Machine_accepts.ok sc_Machine_accepts (fun vs H Q E h => ?_) (fun cdv A outer s H vs Q E hr h => ?_)
  · obtain ⟨_, _, _, _, _, rfl, _⟩ := h; rfl
  · obtain ⟨m, ls, acc, tab, u, rfl, M, g, nd, hu, q⟩ := h
    obtain ⟨dx, ta, tt, hm, hA, hT⟩ := id M
    have tb : Tb acc.length ls.length tab := ⟨g.m.p, g.m.e, fun s j hs hj => by
      obtain ⟨_, x, _, _, _, h1, h2⟩ := g.at' hs hj
      rw [h1]; exact h2, g.w⟩
    refine ⟨_, (pss_one (ps_ret (pe_ix (kIx K) (kFld K rfl (pe_fld (pv 0) rfl)) (pe_meth (pv 0) T.cl_Machine T.m_Machine_run (ok_Machine_run T) (hr.mono (by decide)) T.b_Machine_run .nil pass0 (pa_cons (pv 1) pa_nil)) (fun _ _ => rfl)))), ?_⟩
    walk_at "rc"
    refine ⟨m, _, dx, _, _, rfl, hm, T.cl_Machine, T.na_Machine_accepting, rfl, ?_⟩
    walk_at "rc"
    refine ⟨m, dx, _, rfl, hm, rfl, ?_⟩
    walk_at "rc"
    refine ⟨m, ls, acc, tab, u, rfl, M, g, nd, hu, ?_⟩
    exact rd_flag (Evl.Ex.refl H) hA (tb.rn hu g.m.p) q
end
section
/-! ### what stays through calls that make functions -/
section
variable {nm : Nat → Nat → Str} {Ps : List Addr} {H H' : Hp}
theorem Tbs.off (t : Tbs nm Ps H) {b : Addr} {o : HO} (h : H b = some o) (x : ∀ ps, o ≠ .tbl ps) : b ∉ Ps := fun z => by
  obtain ⟨ps, e⟩ := TabN.isT (t b z)
  rw [h] at e
  exact x _ (Option.some.inj e)
theorem Tbs.kpA (t : Tbs nm Ps H) (k : Kp Ps H H') {b : Addr} {o : HO} (h : H b = some o) (x : ∀ ps, o ≠ .tbl ps) : H' b = some o := k b o (t.off h x) h
theorem Tbs.kpL (t : Tbs nm Ps H) (k : Kp Ps H H') {b : Addr} {xs : List V} (h : H b = some (.lst xs)) : H' b = some (.lst xs) := t.kpA k h fun _ z => nomatch z
theorem StAt.kpT {p : Addr} (s : StAt H p) (t : Tbs nm Ps H) (k : Kp Ps H H') : StAt H' p := by
  obtain ⟨l, ns, pl, h1, h2, h3, h4, h5, h6⟩ := s
  exact ⟨l, ns, pl, t.kpL k h1, t.kpL k h2, h3, h4, h5, h6⟩
theorem dp_kpT {v : V} {d : PyData} (h : Dp K H v d) (t : Tbs nm Ps H) (k : Kp Ps H H') : Dp K H' v d := ((Dp.hidF t.noD _ h).ex k.ex).ex hid_ex
theorem MachD.kpT {C : Addr} {m : Addr} {ls : Str} {acc : List Bool} {tab : List (List Nat)} (h : MachD K C H m ls acc tab) (t : Tbs nm Ps H) (k : Kp Ps H H') : MachD K C H' m ls acc tab := by
  obtain ⟨dx, ta, tt, h1, h2, h3⟩ := h
  exact ⟨dx, ta, tt, t.kpA k h1 (fun _ z => nomatch z), dp_kpT h2 t k, dp_kpT h3 t k⟩
theorem MachF.kpT {C : Addr} {m : Addr} {ls : Str} {acc : List Bool} (h : MachF C H m ls acc) (t : Tbs nm Ps H) (k : Kp Ps H H') : MachF C H' m ls acc := by
  obtain ⟨dx, ta, tt, h1, o, h2, h3⟩ := h
  exact ⟨dx, ta, tt, t.kpA k h1 (fun _ z => nomatch z), o, t.kpA k h2 (fun _ z => nomatch z), h3⟩
theorem Dr.tbs {p : Addr} (d : Dr p H H') (s : StAt H p) (t : Tbs nm Ps H) : Tbs nm Ps H' := by
  obtain ⟨l, ns, pl, h1, _⟩ := s
  refine t.kp (S := [p]) (d.kp List.mem_cons_self) fun b hb o e => ?_
  rw [List.mem_singleton.mp hb, h1] at e
  cases e
  exact ⟨(fun z => z), (fun ps z => nomatch z)⟩
end
end
section
/-! ### what a law keeps: values, machines, plain things, through drawing, through calls that make functions -/
theorem dp_kpP {nm : Nat → Nat → Str} {Ps : List Addr} {H H' : Hp} {S : List Addr} {v : V} {d : PyData} (h : Dp K (hid S H) v d) (t : Tbs nm Ps H) (k : Kp Ps H H') : Dp K (hid S H') v d := by
  have n : NoD Ps (hid S H) := fun b hb o e => t.noD b hb o (hid_some e).2
  have kk : Kp Ps (hid S H) (hid S H') := fun b o hb z => by
    obtain ⟨z1, z2⟩ := hid_some z
    rw [hid_at z1]
    exact k b o hb z2
  exact ((Dp.hidF n _ h).ex kk.ex).ex hid_ex
theorem machD_kpP {nm : Nat → Nat → Str} {Ps : List Addr} {H H' : Hp} {S : List Addr} {C m : Addr} {ls : Str} {acc : List Bool} {tab : List (List Nat)} (h : MachD K C (hid S H) m ls acc tab) (t : Tbs nm Ps H) (k : Kp Ps H H') : MachD K C (hid S H') m ls acc tab := by
  obtain ⟨dx, ta, tt, h1, h2, h3⟩ := h
  obtain ⟨z1, z2⟩ := hid_some h1
  exact ⟨dx, ta, tt, by rw [hid_at z1]; exact t.kpA k z2 (fun _ z => nomatch z), dp_kpP h2 t k, dp_kpP h3 t k⟩
theorem stAt_hidT {p : Addr} {H : Hp} (s : StAt H p) : ∀ b ∈ [p], (∃ C dx fs, H b = some (.ins C dx fs)) ∨ ∃ xs, H b = some (.lst xs) := fun b hb => by
  obtain ⟨l, ns, pl, h1, _⟩ := s
  rw [List.mem_singleton.mp hb]
  exact .inr ⟨_, h1⟩
theorem nT_no {tab : List (List Nat)} : noList (nT tab) = true := by
  refine noList_all fun d hd => ?_
  obtain ⟨row, _, rfl⟩ := List.mem_map.mp hd
  refine noList_all fun d hd => ?_
  obtain ⟨b, _, rfl⟩ := List.mem_map.mp hd
  rfl
theorem bools_no {acc : List Bool} : noList (.tuple (acc.map PyData.bool)) = true := by
  refine noList_all fun d hd => ?_
  obtain ⟨b, _, rfl⟩ := List.mem_map.mp hd
  rfl
theorem machD_hidP {C m p : Addr} {H : Hp} {ls : Str} {acc : List Bool} {tab : List (List Nat)} (M : MachD K C H m ls acc tab) (s : StAt H p) : MachD K C (hid [p] H) m ls acc tab := by
  obtain ⟨dx, ta, tt, h1, h2, h3⟩ := M
  obtain ⟨l, ns, pl, g1, _⟩ := id s
  refine ⟨dx, ta, tt, ?_, Dp.hidT (stAt_hidT s) _ bools_no h2, Dp.hidT (stAt_hidT s) _ nT_no h3⟩
  rw [hid_at fun z => ?_]
  · exact h1
  · rw [List.mem_singleton.mp z, g1] at h1; cases h1
structure Keep (T : Txt K mg) (p : Addr) (ls : Str) (vs : List (V × PyData)) (ms : List (Addr × List Bool × List (List Nat))) (fs : List (Addr × HO)) (H : Hp) : Prop where
  s : StAt H p
  t : Tbs nmT (Ps T) H
  d : ∀ x ∈ vs, Dp K (hid [p] H) x.1 x.2
  m : ∀ x ∈ ms, MachD K T.C_Machine (hid [p] H) x.1 ls x.2.1 x.2.2
  f : ∀ x ∈ fs, H x.1 = some x.2 ∧ x.1 ≠ p ∧ ∀ ps, x.2 ≠ .tbl ps
section
variable {T : Txt K mg} {p : Addr} {ls : Str} {vs : List (V × PyData)} {ms : List (Addr × List Bool × List (List Nat))} {fs : List (Addr × HO)} {H H' : Hp}
theorem Keep.ex (h : Keep T p ls vs ms fs H) (e : Ex H H') : Keep T p ls vs ms fs H' :=
  ⟨h.s.ex e, h.t.ex e, fun x hx => (h.d x hx).ex (Ex.hid e), fun x hx => (h.m x hx).ex (Ex.hid e), fun x hx => ⟨e _ _ (h.f x hx).1, (h.f x hx).2⟩⟩
theorem Keep.kp (h : Keep T p ls vs ms fs H) (k : Kp (Ps T) H H') (t : Tbs nmT (Ps T) H') : Keep T p ls vs ms fs H' :=
  ⟨h.s.kpT h.t k, t, fun x hx => dp_kpP (h.d x hx) h.t k, fun x hx => machD_kpP (h.m x hx) h.t k, fun x hx => ⟨h.t.kpA k (h.f x hx).1 (h.f x hx).2.2, (h.f x hx).2⟩⟩
theorem Keep.dr (h : Keep T p ls vs ms fs H) (d : Dr p H H') : Keep T p ls vs ms fs H' :=
  ⟨d.st, d.tbs h.s h.t, fun x hx => (h.d x hx).ex (d.kp (S := [p]) List.mem_cons_self).ex, fun x hx => (h.m x hx).ex (d.kp (S := [p]) List.mem_cons_self).ex, fun x hx => ⟨d.old _ _ (h.f x hx).2.1 (h.f x hx).1, (h.f x hx).2⟩⟩
theorem Keep.nil (s : StAt H p) (t : Tbs nmT (Ps T) H) : Keep T p ls [] [] [] H := ⟨s, t, (fun x hx => nomatch hx), (fun x hx => nomatch hx), (fun x hx => nomatch hx)⟩
theorem Keep.addD {v : V} {d : PyData} (h : Keep T p ls vs ms fs H) (q : Dp K (hid [p] H) v d) : Keep T p ls ((v, d) :: vs) ms fs H :=
  ⟨h.s, h.t, fun x hx => (List.mem_cons.mp hx).elim (fun e => by rw [e]; exact q) (h.d x), h.m, h.f⟩
theorem Keep.addT {v : V} {d : PyData} (h : Keep T p ls vs ms fs H) (q : Dp K H v d) (n : noList d = true) : Keep T p ls ((v, d) :: vs) ms fs H := h.addD (Dp.hidT (stAt_hidT h.s) d n q)
theorem Keep.addM {m : Addr} {acc : List Bool} {tab : List (List Nat)} (h : Keep T p ls vs ms fs H) (q : MachD K T.C_Machine H m ls acc tab) : Keep T p ls vs ((m, acc, tab) :: ms) fs H :=
  ⟨h.s, h.t, h.d, fun x hx => (List.mem_cons.mp hx).elim (fun e => by rw [e]; exact machD_hidP q h.s) (h.m x), h.f⟩
theorem Keep.addF {a : Addr} {o : HO} (h : Keep T p ls vs ms fs H) (q : H a = some o) (n : a ≠ p) (x : ∀ ps, o ≠ .tbl ps) : Keep T p ls vs ms ((a, o) :: fs) H :=
  ⟨h.s, h.t, h.d, h.m, fun y hy => (List.mem_cons.mp hy).elim (fun e => by rw [e]; exact ⟨q, n, x⟩) (h.f y)⟩
theorem Keep.less {vs' : List (V × PyData)} {ms' : List (Addr × List Bool × List (List Nat))} {fs' : List (Addr × HO)} (h : Keep T p ls vs ms fs H) (a : ∀ x ∈ vs', x ∈ vs) (b : ∀ x ∈ ms', x ∈ ms) (c : ∀ x ∈ fs', x ∈ fs) : Keep T p ls vs' ms' fs' H :=
  ⟨h.s, h.t, fun x hx => h.d x (a x hx), fun x hx => h.m x (b x hx), fun x hx => h.f x (c x hx)⟩
end
end
section
/-- the picture of a machine, as data -/
def picD (ls : Str) (acc : List Bool) (tab : List (List Nat)) : PyData := .tuple [.str ls, .tuple (acc.map PyData.bool), nT tab]
theorem picD_ly {ls : Str} {acc : List Bool} {tab : List (List Nat)} (ok : okS ls) : Lay (picD ls acc tab) := by
  refine Ly.lay (Ly.tuple (n := 2) fun d hd => ?_) (by decide)
  simp only [List.mem_cons, List.not_mem_nil, or_false] at hd
  rcases hd with rfl | rfl | rfl
  · exact (Ly.str ok).mono (by decide)
  · refine (Ly.tuple (n := 0) fun d hd => ?_).mono (by decide)
    obtain ⟨b, _, rfl⟩ := List.mem_map.mp hd
    exact Ly.bool
  · refine Ly.tuple (n := 1) fun d hd => ?_
    obtain ⟨row, _, rfl⟩ := List.mem_map.mp hd
    refine Ly.tuple (n := 0) fun d hd => ?_
    obtain ⟨b, _, rfl⟩ := List.mem_map.mp hd
    exact Ly.int
theorem picD_no {ls : Str} {acc : List Bool} {tab : List (List Nat)} : noList (picD ls acc tab) = true := by
  show noListAll _ = true
  refine noList_all fun d hd => ?_
  simp only [List.mem_cons, List.not_mem_nil, or_false] at hd
  rcases hd with rfl | rfl | rfl
  · rfl
  · refine noList_all fun d hd => ?_
    obtain ⟨b, _, rfl⟩ := List.mem_map.mp hd
    rfl
  · refine noList_all fun d hd => ?_
    obtain ⟨row, _, rfl⟩ := List.mem_map.mp hd
    refine noList_all fun d hd => ?_
    obtain ⟨b, _, rfl⟩ := List.mem_map.mp hd
    rfl
section
variable (T : Txt K mg)
def spPict : Sp := fun vs H Q _ => ∃ (m : Addr) (ls : Str) (acc : List Bool) (tab : List (List Nat)), vs = [.ref m] ∧ MachD K T.C_Machine H m ls acc tab ∧ ∀ p H', Ex H H' → Dp K H' p (picD ls acc tab) → Q p H'
theorem ok_Machine_picture : FnOk P w K mg base CX0 1 T.a_Machine_picture T.d_Machine_picture ["self"] (spPict T) := by
  refine T.f_Machine_picture.ok sc_Machine_picture (fun vs H Q E h => ?_) (fun cdv A outer s H vs Q E hr h => ?_)
  · obtain ⟨_, _, _, _, rfl, _⟩ := h; rfl
  · obtain ⟨m, ls, acc, tab, rfl, M, q⟩ := h
    obtain ⟨dx, ta, tt, hm, hA, hT⟩ := id M
    refine ⟨_, (pss_one (ps_ret (pe_tup (pa_cons (kFld K rfl (pe_fld (pv 0) rfl)) (pa_cons (kFld K rfl (pe_fld (pv 0) rfl)) (pa_cons (kFld K rfl (pe_fld (pv 0) rfl)) pa_nil)))))), ?_⟩
    walk_at "rc"
    refine ⟨m, _, dx, _, _, rfl, hm, T.cl_Machine, T.na_Machine_letters, rfl, ?_⟩
    walk_at "rc"
    refine ⟨m, _, dx, _, _, rfl, hm, T.cl_Machine, T.na_Machine_accepting, rfl, ?_⟩
    walk_at "rc"
    refine ⟨m, _, dx, _, _, rfl, hm, T.cl_Machine, T.na_Machine_table, rfl, ?_⟩
    walk_at "rc"
    refine ⟨by show 3 ≤ sizeLine; decide, fun t ht => ?_⟩
    refine q (.ref t) _ (Evl.Ex.new ht) ?_
    have := Dp.newT (K := K) (S := []) (vs := [.str ls, .ref ta, .ref tt]) (ds := [.str ls, .tuple (acc.map PyData.bool), nT tab]) ht (fun z => nomatch z) (by rw [hid_nil]; exact .cons (.str _) (.cons hA (.cons hT .nil)))
    rw [hid_nil] at this
    exact this
end
end
section
/-! ### the law's own reading of machines made -/
theorem tx_ok {ls : Str} {u : List Nat} (ok : okS ls) (h : Lw ls.length u) : okS (tx ls u) := okS_sub ok fun c hc => by
  rw [tx_list] at hc
  obtain ⟨j, hj, rfl⟩ := List.mem_map.mp hc
  have hl : j < ls.cps.toList.length := h j hj
  rw [List.getD_eq_getElem?_getD, List.getElem?_eq_getElem hl]
  exact List.getElem_mem hl
theorem tx_inj {ls : Str} (nd : ls.cps.toList.Nodup) : ∀ {u v : List Nat}, Lw ls.length u → Lw ls.length v → tx ls u = tx ls v → u = v := by
  have key : ∀ {u v : List Nat}, Lw ls.length u → Lw ls.length v → (u.map fun j => ls.cps.toList.getD j 0) = (v.map fun j => ls.cps.toList.getD j 0) → u = v := by
    intro u
    induction u with
    | nil => intro v _ _ e; cases v with
      | nil => rfl
      | cons => cases e
    | cons j u ih =>
      intro v hu hv e
      cases v with
      | nil => cases e
      | cons k v =>
        have e1 : ls.cps.toList.getD j 0 = ls.cps.toList.getD k 0 := (List.cons.inj e).1
        have e2 := (List.cons.inj e).2
        have hj := hu j List.mem_cons_self
        have hk := hv k List.mem_cons_self
        have i1 := (idx_of nd (j := j) hj).2
        have i2 := (idx_of nd (j := k) hk).2
        rw [e1, i2] at i1
        rw [i1, ih (fun x hx => hu x (List.mem_cons_of_mem _ hx)) (fun x hx => hv x (List.mem_cons_of_mem _ hx)) e2]
  intro u v hu hv e
  have : (tx ls u).cps.toList = (tx ls v).cps.toList := by rw [e]
  rw [tx_list, tx_list] at this
  exact key hu hv this
theorem tx_of {ls : Str} : ∀ (cs : List Nat), (∀ c ∈ cs, c ∈ ls.cps.toList) → ∃ u, Lw ls.length u ∧ u.length = cs.length ∧ cs = u.map fun j => ls.cps.toList.getD j 0
  | [], _ => ⟨[], Lw.nil, rfl, rfl⟩
  | c :: cs, h => by
    obtain ⟨u, h1, h2, h3⟩ := tx_of cs fun x hx => h x (List.mem_cons_of_mem _ hx)
    obtain ⟨j, hj⟩ := List.getElem?_of_mem (h c List.mem_cons_self)
    refine ⟨j :: u, fun x hx => (List.mem_cons.mp hx).elim (fun e => by rw [e]; exact ltQ hj) (h1 x), by rw [List.length_cons, List.length_cons, h2], ?_⟩
    rw [List.map_cons, ← h3, List.getD_eq_getElem?_getD, hj]; rfl
/-- texts of words, as data -/
def txD (ls : Str) (R : List (List Nat)) : PyData := .list (R.map fun u => .str (tx ls u))
theorem txD_ly {ls : Str} {R : List (List Nat)} (ok : okS ls) (h : ∀ u ∈ R, Lw ls.length u) : Lay (txD ls R) := by
  refine Ly.lay (Ly.list (n := 0) fun d hd => ?_) (by decide)
  obtain ⟨u, hu, rfl⟩ := List.mem_map.mp hd
  exact Ly.str (tx_ok ok (h u hu))
section
variable (T : Txt K mg)
def spLongText : Sp := fun vs H Q _ => ∃ (p : Addr) (ls : Str), vs = [.str ls, .ref p] ∧ 0 < ls.length ∧ ls.length ≤ 100 ∧ StAt H p ∧ ∀ (u : List Nat) (H' : Hp), Lw ls.length u → 20 ≤ u.length → u.length ≤ 40 → Dr p H H' → Q (.str (tx ls u)) H'
theorem ok_long_text : FnOk P w K mg base CX0 2 T.a_long_text T.d_long_text ["letters", "state"] spLongText := by
  refine T.f_long_text.ok sc_long_text (fun vs H Q E h => ?_) (fun cdv A outer s H vs Q E hr h => ?_)
  · obtain ⟨_, _, rfl, _⟩ := h; rfl
  · obtain ⟨p, ls, rfl, l0, l1, hS, q⟩ := h
    have lz : ls.length ≤ sizeLine := Nat.le_trans l1 (by decide)
    refine ⟨_, (pss_one (ps_ret (kBm K rfl (pe_bm PySem.F.plainAttrs_str PySem.F.slot_str_join PySem.F.type_str_join (kJoin K) pe_str (pa_cons (pe_lc (own := [("k", 2)]) (g := gName 2) (tt := tYes) (by rfl) sc_long_text.nd (pi_range1 (by rfl) T.nb_range (pa_cons (pe_op (kAdd K) pe_int (pe_callE (ok_next T) (hr.mono (by decide)) T.o_next (pa_cons (pv 1) (pa_cons pe_int pa_nil)))) pa_nil)) (blkOk_by (own := [("k", 2)]) (N := ["letters", "state", "k"]) (sc := defScope s_long_text) (by decide +kernel)) (fun _ _ _ _ _ => (pg_name (i := 2) sc_long_text.nd rfl (by first | exact Or.inl rfl | exact Or.inr rfl))) (fun _ _ _ _ _ => pts_nil) (fun _ _ _ _ _ => (pe_ix (kIx K) (pv 0) (pe_callE (ok_next T) (hr.mono (by decide)) T.o_next (pa_cons (pv 1) (pa_cons (pe_callB (kLen K) (by rfl) T.nb_len (by decide +kernel) (pa_cons (pv 0) pa_nil)) pa_nil))) (fun _ _ => rfl)))) pa_nil))))), ?_⟩
    walk_at "rc"
    refine ⟨rfl, ?_⟩
    walk_at "rc"
    refine ⟨p, 21, rfl, by decide, hS, fun nn H1 r0 r1 S1 o1 i1 => ?_⟩
    have d1 : Dr p H H1 := ⟨S1, o1, i1.2⟩
    obtain ⟨nn, rfl⟩ := Int.eq_ofNat_of_zero_le r0
    refine rd_addI ?_
    refine ⟨_, rfl, by omega, by omega, ?_⟩
    obtain ⟨m, hm⟩ : ∃ m : Nat, 20 + nn = m := ⟨_, rfl⟩
    rw [show (20 : Int) + (nn : Int) = (m : Int) by omega, Int.toNat_natCast]
    refine lc_R (K := K) (S := [p]) (P := fun i x => x = V.int (i : Nat)) (tr_dr S1 List.mem_cons_self) (st1 S1.some.choose_spec) walk_range0 rng_Y (by omega) (fun _ _ => True.intro) (fun i d => ∃ c : Nat, d = .str ⟨#[c]⟩ ∧ c ∈ ls.cps.toList) (hg_name fun v => rfl) (fun L i σ2 Hc hi p2 hL nL dc hs up N hN => ?_) fun L us Hc ds dc hL nL hus hds hlen hR => ?_
    · obtain ⟨v, rfl, rfl⟩ := p2
      walk_at "rc"
      refine rd_lenS lz ?_
      refine ⟨p, _, rfl, by omega, dc.st, fun r H3 q0 q1 S3' o3' i3' => ?_⟩
      obtain ⟨c, hc, cm⟩ := at_str (z := ls) q0 q1
      refine rd_ixS lz hc ?_
      exact hN _ _ _ ⟨S3', o3', i3'.2⟩ (.str _) ⟨c, rfl, cm⟩
    · obtain ⟨cs, rfl, hcs⟩ := map_ofD (f := fun c : Nat => PyData.str ⟨#[c]⟩) ds hR
      have es : cs.map (fun c : Nat => PyData.str ⟨#[c]⟩) = (cs.map fun c => (⟨#[c]⟩ : Str)).map PyData.str := by rw [List.map_map]; rfl
      rw [List.length_map] at hlen
      rw [es] at hds
      have eu := dp_strs hds
      subst eu
      walk_at "rc"
      refine ⟨"", L, _, rfl, rfl, .inl (SqL.of hus), ?_, ?_⟩
      · rw [sum_signs, List.length_map]
        have e0 : (Str.ofString "").length = 0 := by decide +kernel
        rw [e0]
        omega
      have et := join_signs cs
      obtain ⟨u, h1, h2, h3⟩ := tx_of cs hcs
      have e : Txt.join "" (cs.map fun c => (⟨#[c]⟩ : Str)) = tx ls u := str_ext (by rw [et, tx_list]; exact h3)
      rw [e]
      exact q u Hc h1 (by omega) (by omega) (d1.trans dc)
end
end
section
/-! ### all texts of few letters, in order -/
theorem len_lvW (w : Nat) : ∀ n, (lvW w n).length = w ^ n
  | 0 => rfl
  | n + 1 => by
    show ((lvW w n).flatMap _).length = _
    rw [List.length_flatMap, Nat.pow_succ, ← len_lvW w n]
    generalize lvW w n = l
    induction l with
    | nil => simp
    | cons u l ih => rw [List.map_cons, List.sum_cons, ih, List.length_map, List.length_range, List.length_cons, Nat.succ_mul]; omega
theorem len_rowsW {w b : Nat} (hw : w ≤ b) (b0 : 0 < b) : ∀ n, (rowsW w n).length ≤ (n + 1) * b ^ n
  | 0 => by show 1 ≤ _; simp
  | n + 1 => by
    show (rowsW w n ++ lvW w (n + 1)).length ≤ _
    rw [List.length_append, len_lvW]
    have h1 := len_rowsW hw b0 n
    have h2 : w ^ (n + 1) ≤ b ^ (n + 1) := Nat.pow_le_pow_left hw _
    have h3 : (n + 1) * b ^ n ≤ (n + 1) * b ^ (n + 1) := Nat.mul_le_mul_left _ (Nat.pow_le_pow_right b0 (Nat.le_succ n))
    rw [Nat.succ_mul (n + 1)]
    omega
theorem map_getD {α β : Type} (l : List α) (d : α) (f : α → β) : (List.range l.length).map (fun j => f (l.getD j d)) = l.map f := by
  refine List.ext_getElem (by simp) fun i h1 h2 => ?_
  rw [List.getElem_map, List.getElem_range, List.getElem_map, List.getD_eq_getElem?_getD, List.getElem?_eq_getElem (by simpa using h2)]
  rfl
theorem longer (ls : Str) (u : List Nat) : (ls.cps.toList.map fun c => tx ls u ++ (⟨#[c]⟩ : Str)) = ((List.range ls.length).map fun j => u ++ [j]).map (tx ls) := by
  rw [List.map_map, ← map_getD ls.cps.toList 0 fun c => tx ls u ++ (⟨#[c]⟩ : Str)]
  refine List.map_congr_left fun j _ => ?_
  show _ = tx ls (u ++ [j])
  rw [tx_snoc]
def spTextsX : Sp := fun vs H Q _ => ∃ (ls : Str) (most b : Nat), vs = [.str ls, .int (most : Int)] ∧ ls.length ≤ b ∧ 0 < b ∧ b ≤ 3 ∧ most ≤ 9 ∧ ∀ (p : Addr) (H' : Hp), Ex H H' → H' p = some (.lst (((rowsW ls.length most).map (tx ls)).map V.str)) → Q (.ref p) H'
theorem pow_le3 {l k m : Nat} (h : l ≤ 3) (hk : k ≤ m) : l ^ k ≤ 3 ^ m := Nat.le_trans (Nat.pow_le_pow_left h k) (Nat.pow_le_pow_right (by decide) hk)
theorem ok_texts (T : Txt K mg) : FnOk P w K mg base CX0 1 T.a_texts T.d_texts ["letters", "most"] spTextsX := by
  refine T.f_texts.ok sc_texts (fun vs H Q E h => ?_) (fun cdv A outer s H vs Q E hr h => ?_)
  · obtain ⟨_, _, _, rfl, _⟩ := h; rfl
  · obtain ⟨ls, most, b, rfl, lb, b0, b3, m9, q⟩ := h
    have l3 : ls.length ≤ 3 := Nat.le_trans lb b3
    have sl : sizeLine ≥ 1000000 := by decide
    have p9 : (3 : Nat) ^ 9 = 19683 := by decide
    have lvB : ∀ k, k ≤ 9 → (lvW ls.length k).length ≤ 19683 := fun k hk => by rw [len_lvW, ← p9]; exact pow_le3 l3 hk
    have rowB : ∀ k, k ≤ 9 → (rowsW ls.length k).length ≤ 10 * 19683 := fun k hk => Nat.le_trans (len_rowsW lb b0 k) (Nat.mul_le_mul (by omega) (p9 ▸ pow_le3 b3 hk))
    refine ⟨_, (pss_cons (ps_set (i := 2) sc_texts.nd rfl (by first | exact Or.inl rfl | exact Or.inr rfl) (pe_lst (pa_cons pe_str pa_nil)))
  (pss_cons (ps_set (i := 3) sc_texts.nd rfl (by first | exact Or.inl rfl | exact Or.inr rfl) (pe_lst (pa_cons pe_str pa_nil)))
  (pss_cons (ps_for PassesOwn.never rfl (pi_range1 (by rfl) T.nb_range (pa_cons (pv 1) pa_nil)) (pg_name (i := 4) sc_texts.nd rfl (by first | exact Or.inl rfl | exact Or.inr rfl))
    (pss_cons (ps_set (i := 5) sc_texts.nd rfl (by first | exact Or.inl rfl | exact Or.inr rfl) (pe_lst pa_nil))
  (pss_cons (ps_for PassesOwn.never rfl (kAny K rfl (pv 2)) (pg_name (i := 6) sc_texts.nd rfl (by first | exact Or.inl rfl | exact Or.inr rfl))
    (pss_one (ps_set (i := 5) sc_texts.nd rfl (by first | exact Or.inl rfl | exact Or.inr rfl) (pe_op (kAdd K) (pv 5) (pe_lc (own := [("letter", 7)]) (g := gName 7) (tt := tYes) (by rfl) sc_texts.nd (kAny K rfl (pv 0)) (blkOk_by (own := [("letter", 7)]) (N := ["letters", "most", "last", "rows", "k", "longer", "text", "letter"]) (sc := defScope s_texts) (by decide +kernel)) (fun _ _ _ _ _ => (pg_name (i := 7) sc_texts.nd rfl (by first | exact Or.inl rfl | exact Or.inr rfl))) (fun _ _ _ _ _ => pts_nil) (fun _ _ _ _ _ => (pe_op (kAdd K) (pv 6) (pv 7))))))))
  (pss_cons (ps_set (i := 2) sc_texts.nd rfl (by first | exact Or.inl rfl | exact Or.inr rfl) (pv 5))
  (pss_one (ps_set (i := 3) sc_texts.nd rfl (by first | exact Or.inl rfl | exact Or.inr rfl) (pe_op (kAdd K) (pv 3) (pv 2))))))))
  (pss_one (ps_ret (pv 3)))))), ?_⟩
    walk_at "rc"
    refine ⟨by decide, fun p1 hp1 => ?_⟩
    have e1 : Ex H (upd H p1 (.lst [.str ""])) := Evl.Ex.new hp1
    have h1 : upd H p1 (.lst [.str ""]) p1 = some (.lst (((lvW ls.length 0).map (tx ls)).map V.str)) := upd_same
    generalize upd H p1 (.lst [.str ""]) = H1 at e1 h1
    walk_at "rc"
    refine ⟨by decide, fun p2 hp2 => ?_⟩
    have e2 : Ex H1 (upd H1 p2 (.lst [.str ""])) := Evl.Ex.new hp2
    have h2 : upd H1 p2 (.lst [.str ""]) p2 = some (.lst (((rowsW ls.length 0).map (tx ls)).map V.str)) := upd_same
    generalize upd H1 p2 (.lst [.str ""]) = H2 at e2 h2
    walk_at "rc"
    walk_at "rs"
    walk_at "rc"
    refine ⟨(most : Int), rfl, by omega, by omega, fo_range (n := (most : Int).toNat) (fun k σ H' => ∃ (la ro : Addr) (k4 k5 k6 k7 : Option V), σ = [some (.str ls), some (.int (most : Int)), some (.ref la), some (.ref ro), k4, k5, k6, k7] ∧ Ex H H' ∧ H' la = some (.lst (((lvW ls.length k).map (tx ls)).map V.str)) ∧ H' ro = some (.lst (((rowsW ls.length k).map (tx ls)).map V.str)))
      ⟨p1, p2, _, _, _, _, rfl, e1.trans e2, e2 _ _ h1, h2⟩ ?_ ?_⟩
    · rintro k σ H3 hk ⟨la, ro, k4, k5, k6, k7, rfl, e3, hla, hro⟩
      have hk9 : k < 9 := by omega
      walk_at "rc"
      refine ⟨by decide, fun lo hlo => ?_⟩
      have e4 : Ex H3 (upd H3 lo (.lst [])) := Evl.Ex.new hlo
      have h4 : upd H3 lo (.lst []) lo = some (.lst (([] : List Str).map V.str)) := upd_same
      generalize upd H3 lo (.lst []) = H4 at e4 h4
      walk_at "rc"
      walk_at "rs"
      walk_at "rc"
      refine rd_anyL (fun Q q => ⟨_, rfl, q⟩) (SqL.of (e4 _ _ hla)) (fo_list (fun i σ H' => ∃ (lo : Addr) (k6 k7 : Option V), σ = [some (.str ls), some (.int (most : Int)), some (.ref la), some (.ref ro), some (.int (k : Nat)), some (.ref lo), k6, k7] ∧ Ex H3 H' ∧ H' lo = some (.lst (((((lvW ls.length k).take i).flatMap fun u => (List.range ls.length).map fun j => u ++ [j]).map (tx ls)).map V.str)) ∧
          (((lvW ls.length k).take i).flatMap fun u => (List.range ls.length).map fun j => u ++ [j]).length ≤ i * 3)
        ⟨lo, _, _, rfl, e4, h4, by simp⟩ (fun i σ H' _ ⟨_, _, _, _, e, _⟩ => SqL.of (e _ _ hla)) ?_ ?_)
      · rintro i x σ H5 hi ⟨lo, k6, k7, rfl, e5, hlo5, lu⟩
        rw [List.getElem?_map, List.getElem?_map] at hi
        obtain ⟨t, ht, rfl⟩ := Option.map_eq_some_iff.mp hi
        obtain ⟨u, hu, rfl⟩ := Option.map_eq_some_iff.mp ht
        have hul := (mem_lvW.mp (List.mem_of_getElem? hu)).2
        have hiw := (List.getElem?_eq_some_iff.mp hu).1
        have hi9 := lvB k (by omega)
        walk_at "rc"
        refine rd_anyS (fun Q q => ⟨_, rfl, q⟩) ?_
        refine lc_F (K := K) (S := []) (P := fun i x => ∃ c, ls.cps.toList[i]? = some c ∧ x = V.str ⟨#[c]⟩) tr_ex (fun b hb => nomatch hb) walk_str str_Y (by show ls.length < 100000; omega) (fun _ _ => True.intro) (fun _ => true) (fun i => .str (tx ls u ++ (⟨#[ls.cps.toList.getD i 0]⟩ : Str))) (hg_name fun v => rfl) (fun L i σ2 Hc hi p2 hL nL t1 hs1 up N hN => rd_yes (hN Hc (Evl.Ex.refl Hc))) (fun L i σ2 Hc hi p2 hp2 hL nL t1 hs1 up N hN => ?_) fun L vs H6 e6 hL nL hvs hds => ?_
        · obtain ⟨x, ⟨c, hc, rfl⟩, rfl⟩ := p2
          walk_at "rc"
          have e : ls.cps.toList.getD i 0 = c := by rw [List.getD_eq_getElem?_getD, hc]; rfl
          refine rd_addS (x := tx ls u) (y := ⟨#[c]⟩) (by show (tx ls u).length + 1 ≤ sizeLine; rw [tx_len]; omega) ?_
          refine hN _ Hc (Evl.Ex.refl Hc) ?_
          rw [e]
          exact .str _
        · have ev : ((List.range ls.cps.size).filter (fun _ => true)).map (fun i => PyData.str (tx ls u ++ (⟨#[ls.cps.toList.getD i 0]⟩ : Str))) = (((List.range ls.length).map fun j => u ++ [j]).map (tx ls)).map PyData.str := by
            rw [List.filter_eq_self.mpr (fun _ _ => rfl), ← longer, List.map_map]
            exact map_getD ls.cps.toList 0 fun c => PyData.str (tx ls u ++ (⟨#[c]⟩ : Str))
          rw [ev] at hds
          have ee := dp_strs hds
          subst ee
          have snoc : ((lvW ls.length k).take (i + 1)).flatMap (fun u => (List.range ls.length).map fun j => u ++ [j]) = ((lvW ls.length k).take i).flatMap (fun u => (List.range ls.length).map fun j => u ++ [j]) ++ (List.range ls.length).map fun j => u ++ [j] := by
            rw [List.take_succ, hu, List.flatMap_append]
            simp
          refine rd_cat (e6 _ _ hlo5) hvs (by simp only [List.length_map, List.length_range]; omega) fun p7 hp7 => ?_
          walk_at "rc"
          refine ⟨p7, _, _, rfl, ex_upd (e5.trans e6) hp7, by rw [upd_same, snoc, List.map_append, List.map_append], ?_⟩
          rw [snoc, List.length_append, List.length_map, List.length_range]
          omega
      · rintro σ H5 ⟨lo, k6, k7, rfl, e5, hlo5, lu⟩
        rw [List.length_map, List.length_map, List.take_length] at hlo5 lu
        walk_at "rc"
        have hro5 := e5 _ _ hro
        have b1 := rowB k (by omega)
        have b2 := lvB (k + 1) (by omega)
        refine rd_cat hro5 hlo5 (by rw [List.length_map, List.length_map, List.length_map, List.length_map]; show _ + (lvW ls.length (k + 1)).length ≤ _; omega) fun p6 hp6 => ?_
        walk_at "rc"
        refine ⟨lo, p6, _, _, _, _, rfl, ex_upd (e3.trans e5) hp6, at_upd hp6 hlo5, ?_⟩
        rw [upd_same]
        show _ = some (HO.lst (((rowsW ls.length k ++ lvW ls.length (k + 1)).map (tx ls)).map V.str))
        rw [List.map_append, List.map_append]
        rfl
    · rintro σ H3 ⟨la, ro, k4, k5, k6, k7, rfl, e3, hla, hro⟩
      rw [Int.toNat_natCast] at hro
      walk_at "rc"
      exact q ro H3 e3 hro
end
section
/-! ### what a rewriter reads and a machine accepts, over keys -/
theorem gmw_tb {ls : Str} {acc : List Bool} {tab : List (List Nat)} (g : GMw ls acc tab) : Tb acc.length ls.length tab :=
  ⟨g.m.p, g.m.e, fun s j hs hj => by
    obtain ⟨_, x, _, _, _, h1, h2⟩ := g.at' hs hj
    rw [h1]; exact h2, g.w⟩
def wd (ls z : Str) : List Nat := z.cps.toList.map fun c => ls.cps.toList.idxOf c
theorem wd_lw {ls z : Str} (h : isT ls z) : Lw ls.length (wd ls z) := fun x hx => by
  obtain ⟨c, hc, rfl⟩ := List.mem_map.mp hx
  exact List.idxOf_lt_length_iff.mpr (h c hc)
theorem tx_wd {ls z : Str} (h : isT ls z) : tx ls (wd ls z) = z := by
  refine str_ext ?_
  rw [tx_list, wd, List.map_map]
  refine (List.map_congr_left (g := id) fun c hc => ?_).trans (List.map_id _)
  show ls.cps.toList.getD (ls.cps.toList.idxOf c) 0 = c
  rw [List.getD_eq_getElem?_getD, List.getElem?_eq_getElem (List.idxOf_lt_length_iff.mpr (h c hc))]
  exact List.getElem_idxOf _
theorem wd_app {ls x y : Str} : wd ls (x ++ y) = wd ls x ++ wd ls y := by unfold wd; rw [tl_app, List.map_append]
def kP (s t : Nat) : KE := .k (.tup [.num (s : Int), .num (t : Int)])
def kN : KE := .k .none
def nxR (ls : Str) (r : Parts) (tab : List (List Nat)) : KE → Nat → KE
  | .k (.tup [.num s, .num t]), j => match (r.tab.getD s.toNat []).getD j none with
    | none => kN
    | some w => kP w.1.toNat (rn tab t.toNat (wd ls w.2))
  | _, _ => kN
def acR (ls : Str) (r : Parts) (acc : List Bool) (tab : List (List Nat)) : KE → Bool
  | .k (.tup [.num s, .num t]) => match r.fin.getD s.toNat none with
    | none => false
    | some z => acc.getD (rn tab t.toNat (wd ls z)) false
  | _ => false
section
variable {ls : Str} {r : Parts} {acc : List Bool} {tab : List (List Nat)}
theorem nxR_P (s t j : Nat) : nxR ls r tab (kP s t) j = match (r.tab.getD s []).getD j none with
    | none => kN
    | some w => kP w.1.toNat (rn tab t (wd ls w.2)) := rfl
theorem acR_P (s t : Nat) : acR ls r acc tab (kP s t) = match r.fin.getD s none with
    | none => false
    | some z => acc.getD (rn tab t (wd ls z)) false := rfl
theorem fold_kN : ∀ u : List Nat, u.foldl (nxR ls r tab) kN = kN
  | [] => rfl
  | _ :: u => fold_kN u
theorem cat_cons (w : Str) (ws : List Str) : catS (w :: ws) = w ++ catS ws := by
  show ws.foldl _ ("" ++ w) = _
  rw [cat_from, nil_str]
theorem fold_R (g : goodR ls r) (nd : ls.cps.toList.Nodup) : ∀ (u : List Nat) (s t : Nat) (ws0 : List Str), Lw ls.length u → s < r.fin.length →
    ((u.map fun j => ls.cps.toList.getD j 0).foldl (rwStep ls r.tab) (some ((s : Int), ws0)) = none → u.foldl (nxR ls r tab) (kP s t) = kN) ∧
    ∀ z, (u.map fun j => ls.cps.toList.getD j 0).foldl (rwStep ls r.tab) (some ((s : Int), ws0)) = some z → ∃ more, z.2 = ws0 ++ more ∧ u.foldl (nxR ls r tab) (kP s t) = kP z.1.toNat (rn tab t (wd ls (catS more)))
  | [], s, t, ws0, _, _ => ⟨(fun h => nomatch h), fun z h => by
      cases h
      exact ⟨[], (List.append_nil _).symm, rfl⟩⟩
  | j :: u, s, t, ws0, hu, hs => by
    have hj := hu j List.mem_cons_self
    have hu' : Lw ls.length u := fun x hx => hu x (List.mem_cons_of_mem _ hx)
    obtain ⟨hm, hi⟩ := idx_of nd (j := j) hj
    obtain ⟨row, hr, hc, hw⟩ := cell_in g (s := (s : Int)) (c := ls.cps.toList.getD j 0) (by omega) (by omega) hm
    have ec : cellR ls r.tab (s : Int) (ls.cps.toList.getD j 0) = (r.tab.getD s []).getD j none := by
      show (r.tab.getD ((s : Int)).toNat []).getD (ls.cps.toList.idxOf (ls.cps.toList.getD j 0)) none = _
      rw [hi, Int.toNat_natCast]
    rw [List.map_cons, List.foldl_cons, List.foldl_cons, nxR_P]
    have est : rwStep ls r.tab (some ((s : Int), ws0)) (ls.cps.toList.getD j 0) = ((r.tab.getD s []).getD j none).map fun w => (w.1, ws0 ++ [w.2]) := by
      unfold rwStep
      rw [← ec]; rfl
    rw [est]
    cases e : (r.tab.getD s []).getD j none with
    | none =>
      refine ⟨fun _ => fold_kN u, fun z h => ?_⟩
      rw [show (Option.map (fun w : Int × Str => (w.1, ws0 ++ [w.2])) none) = none from rfl, rw_none] at h
      cases h
    | some w =>
      have hw2 := (hw w (ec.trans e)).1
      obtain ⟨n1, hn1⟩ := Int.eq_ofNat_of_zero_le hw2.1
      show (_ = none → u.foldl (nxR ls r tab) (kP w.1.toNat (rn tab t (wd ls w.2))) = kN) ∧ _
      rw [show (Option.map (fun w : Int × Str => (w.1, ws0 ++ [w.2])) (some w)) = some (((w.1.toNat : Nat) : Int), ws0 ++ [w.2]) by rw [Int.toNat_of_nonneg hw2.1]; rfl]
      obtain ⟨a, b⟩ := fold_R g nd u w.1.toNat (rn tab t (wd ls w.2)) (ws0 ++ [w.2]) hu' (by omega)
      refine ⟨a, fun z h => ?_⟩
      obtain ⟨more, h1, h2⟩ := b z h
      refine ⟨w.2 :: more, by rw [h1, List.append_assoc]; rfl, ?_⟩
      show u.foldl (nxR ls r tab) (kP w.1.toNat (rn tab t (wd ls w.2))) = _
      rw [h2, cat_cons, wd_app, rn_app]
theorem img_ok (g : goodR ls r) (nd : ls.cps.toList.Nodup) {u : List Nat} (hu : Lw ls.length u) :
    acR ls r acc tab (u.foldl (nxR ls r tab) (kP 0 (rn tab 0 (wd ls r.lead)))) = match rwM ls r (tx ls u).cps.toList with
      | none => false
      | some z => acc.getD (rn tab 0 (wd ls z)) false := by
  obtain ⟨a, b⟩ := fold_R (tab := tab) g nd u 0 (rn tab 0 (wd ls r.lead)) [] hu g.1
  have e : (tx ls u).cps.toList = u.map fun j => ls.cps.toList.getD j 0 := tx_list ls u
  unfold rwM rwF rwL
  rw [e]
  cases h : (u.map fun j => ls.cps.toList.getD j 0).foldl (rwStep ls r.tab) (some ((0 : Int), [])) with
  | none =>
    rw [a h]
    rfl
  | some z =>
    obtain ⟨more, h1, h2⟩ := b z h
    rw [h2, acR_P]
    have h1' : z.2 = more := h1
    show _ = (match (Option.map (fun u => r.lead ++ catS z.2 ++ u) (r.fin.getD z.1.toNat none)) with | none => false | some z => acc.getD (rn tab 0 (wd ls z)) false)
    rw [h1']
    cases r.fin.getD z.1.toNat none with
    | none => rfl
    | some x =>
      show acc.getD (rn tab (rn tab (rn tab 0 (wd ls r.lead)) (wd ls (catS more))) (wd ls x)) false = acc.getD (rn tab 0 (wd ls (r.lead ++ catS more ++ x))) false
      rw [wd_app, wd_app, rn_app, rn_app]
end
end
section
theorem RwAt.hidF {C : Addr} {S : List Addr} {H : Hp} {m : Addr} {ls : Str} {r : Parts} (h : RwAt K C H m ls r) (n : NoD S H) (ni : ∀ b ∈ S, ∀ C dx fs, H b ≠ some (.ins C dx fs)) : RwAt K C (hid S H) m ls r := by
  obtain ⟨dx, ta, tt, h1, h2, h3⟩ := h
  exact ⟨dx, ta, tt, by rw [hid_at fun z => ni m z _ _ _ h1]; exact h1, Dp.hidF n _ h2, Dp.hidF n _ h3⟩
theorem RwAt.fr {C : Addr} {S : List Addr} {H : Hp} {m : Addr} {ls : Str} {r : Parts} (h : RwAt K C H m ls r) (W : ∀ b ∈ S, ∃ o, H b = some (frC b o)) : RwAt K C (hid S H) m ls r :=
  h.hidF (.of_fr W) fun b hb C dx fs z => by
    obtain ⟨o, e⟩ := W b hb
    rw [z] at e; cases e
theorem RwAt.tbl {nm : Nat → Nat → Str} {Pl : List Addr} {R C : Addr} {H H' : Hp} {m : Addr} {ls : Str} {r : Parts} (h : RwAt K C H m ls r) (t : Tbs nm Pl H) (hR : R ∈ Pl) (k : Kp [R] H H') : RwAt K C H' m ls r := by
  obtain ⟨ps, z⟩ := TabN.isT (t R hR)
  have n1 : NoD [R] H := fun b hb o e => t.noD b (by rw [List.mem_singleton.mp hb]; exact hR) o e
  have h2 : RwAt K C (hid [R] H) m ls r := h.hidF n1 fun b hb C dx fs e => by
    rw [List.mem_singleton.mp hb, z] at e; cases e
  exact h2.ex (k.ex.trans hid_ex)
theorem keyP {H : Hp} {v : V} {s t : Nat} (h : KeyV H v (kP s t)) : ∃ b, v = .ref b ∧ H b = some (.tup [vI s, vI t]) := by
  have h' : KyN H (.tup [.num (s : Int), .num (t : Int)]) v := h
  have hv := h'.nv
  cases hv with
  | tup h1 h2 =>
    cases h2 with
    | cons q1 q2 =>
      cases q2 with
      | cons q3 q4 =>
        cases q4
        cases q1
        cases q3
        exact ⟨_, rfl, h1⟩
theorem keyP_of {H : Hp} {b : Addr} {s t : Nat} (h : H b = some (.tup [vI s, vI t])) : KeyV H (.ref b) (kP s t) :=
  ⟨.tup h (.cons (.int _) (.cons (.int _) .nil)), by simp [NestedKey.depth, NestedKey.depthAll], fun _ z => nomatch z⟩
theorem keyN {H : Hp} {v : V} (h : KeyV H v kN) : v = .non := by
  have h' : KyN H .none v := h
  have hv := h'.nv
  cases hv
  rfl
theorem keyN_of {H : Hp} : KeyV H .non kN := ⟨.non, by simp [NestedKey.depth], fun _ z => nomatch z⟩
/-- all keys -/
def keysR (n1 n2 : Nat) : List KE := kN :: (List.range n1).flatMap fun s => (List.range n2).map fun t => kP s t
theorem mem_keysR {n1 n2 : Nat} {k : KE} : k ∈ keysR n1 n2 ↔ k = kN ∨ ∃ s t, s < n1 ∧ t < n2 ∧ k = kP s t := by
  unfold keysR
  rw [List.mem_cons, List.mem_flatMap]
  refine or_congr Iff.rfl ⟨?_, ?_⟩
  · rintro ⟨a, ha, h⟩
    obtain ⟨b, hb, rfl⟩ := List.mem_map.mp h
    exact ⟨a, b, List.mem_range.mp ha, List.mem_range.mp hb, rfl⟩
  · rintro ⟨a, b, ha, hb, rfl⟩
    exact ⟨a, List.mem_range.mpr ha, List.mem_map.mpr ⟨b, List.mem_range.mpr hb, rfl⟩⟩
theorem len_keysR (n1 n2 : Nat) : (keysR n1 n2).length = n1 * n2 + 1 := by
  unfold keysR
  rw [List.length_cons, List.length_flatMap]
  have e : ((List.range n1).map fun a => ((List.range n2).map fun b => kP a b).length) = List.replicate n1 n2 := by
    refine List.ext_getElem (by simp) fun i h1 h2 => ?_
    simp
  rw [e]
  clear e
  induction n1 with
  | zero => simp
  | succ n ih => rw [List.replicate_succ, List.sum_cons, Nat.succ_mul]; omega
variable (T : Txt K mg)
structure InR (T : Txt K mg) (H : Hp) (rw m : Addr) (ls : Str) (r : Parts) (acc : List Bool) (tab : List (List Nat)) : Prop where
  ar : RwAt K T.C_Rewriter H rw ls r
  am : MachD K T.C_Machine H m ls acc tab
  gr : goodR ls r
  gm : GMw ls acc tab
  nd : ls.cps.toList.Nodup
def spStepR : List (Option V) → Sp := fun ws vs H Q _ => ∃ (rw m : Addr) (ls : Str) (r : Parts) (acc : List Bool) (tab : List (List Nat)) (v : V) (kk : KE) (j : Nat), ws = [some (.ref rw), some (.ref m)] ∧ vs = [v, .int (j : Int)] ∧ KeyV H v kk ∧ kk ∈ keysR r.fin.length acc.length ∧ InR T H rw m ls r acc tab ∧ j < ls.length ∧ ∀ v' H', Ex H H' → KeyV H' v' (nxR ls r tab kk j) → Q v' H'
theorem nok_stepR (cl : List (Str × Addr)) (f c : Addr) : NdefX.NOk P w K mg base CX0 3 f (NdefX.NF.of s_before_image_step "step" "before_image.<locals>.step" cl c) ["key", "index"] ["rewriter", "machine"] (spStepR T) := by
  refine nok_by (k := 2) sc_before_image_step (fun _ _ _ us hl => match us, hl with | [_, _], _ => rfl) (fun ws vs H Q E h => ?_) fun A outer s H vs ws Q E hr _ h => ?_
  · obtain ⟨_, _, _, _, _, _, _, _, _, _, rfl, _⟩ := h; rfl
  · obtain ⟨rw0, m, ls, r, acc, tab, v, kk, j, rfl, rfl, hv, hk, I, hj, q⟩ := h
    obtain ⟨dr, tf, tt, hr1, hF, hTt⟩ := id I.ar
    refine ⟨_, (pss_cons (ps_set (i := 4) sc_before_image_step.nd rfl (by first | exact Or.inl rfl | exact Or.inr rfl) (pe_ifExp (pt_cmpR op_isN (pv 0) pe_non (by first | rfl | exact nomark _)) pe_non (pe_ix (kIx K) (pe_ix (kIx K) (kFld K rfl (pe_fld (pv 2) rfl)) (pe_ix (kIx K) (pv 0) pe_int (fun _ _ => rfl)) (fun _ _ => rfl)) (pv 1) (fun _ _ => rfl))))
  (pss_cons (ps_if (pt_cmpR op_isN (pv 4) pe_non (by first | rfl | exact nomark _))
    (pss_one (ps_ret pe_non))
    pss_nil)
  (pss_one (ps_ret (pe_tup (pa_cons (pe_ix (kIx K) (pv 4) pe_int (fun _ _ => rfl)) (pa_cons (pe_meth (pv 3) T.cl_Machine T.m_Machine_run_from (ok_Machine_run_from T) (hr.mono (by decide)) T.b_Machine_run_from .nil pass0 (pa_cons (pe_ix (kIx K) (pv 0) pe_int (fun _ _ => rfl)) (pa_cons (pe_ix (kIx K) (pv 4) pe_int (fun _ _ => rfl)) pa_nil))) pa_nil))))))), ?_⟩
    obtain ⟨dm, ta, tt2, hm1, hA, hT2⟩ := id I.am
    walk_at "rc"
    rcases mem_keysR.mp hk with rfl | ⟨s0, t0, hs0, ht0, rfl⟩
    · obtain rfl := keyN hv
      refine rd_ife ?_
      walk_at "rc"
      refine rd_iteT ?_
      walk_at "rc"
      walk_at "rs"
      walk_at "rc"
      refine rd_itet (by decide) ?_
      walk_at "rc"
      exact q _ _ (Evl.Ex.refl H) keyN_of
    · obtain ⟨p, rfl, hp⟩ := keyP hv
      have sp : SqT K H p [vI s0, vI t0] := Evl.st_of hp
      obtain ⟨g0, g1, g2, g3⟩ := id I.gr
      obtain ⟨row, hrow⟩ := getQ (l := r.tab) (i := s0) (by omega)
      have hrm := List.mem_of_getElem? hrow
      have hrl := (g2 row hrm).1
      obtain ⟨wy, hwy⟩ := getQ (l := row) (i := j) (by omega)
      have enx : (r.tab.getD s0 []).getD j none = wy := by
        rw [List.getD_eq_getElem?_getD, List.getD_eq_getElem?_getD, hrow]
        show (row[j]?).getD none = wy
        rw [hwy]; rfl
      have hnx := nxR_P (ls := ls) (r := r) (tab := tab) s0 t0 j
      rw [enx] at hnx
      rw [hnx] at q
      refine rd_ife ?_
      walk_at "rc"
      refine rd_itef (decide_eq_false fun z => nomatch z) ?_
      walk_at "rc"
      refine ⟨rw0, _, dr, _, _, rfl, hr1, T.cl_Rewriter, T.na_Rewriter_table, rfl, ?_⟩
      walk_at "rc"
      refine rd_ixT (v := vI s0) sp (atI_nat (j := 0) rfl) ?_
      refine rd_ixDT (Evl.Ex.refl H) hTt (d := encRow row) (by rw [List.getElem?_map, hrow]; rfl) fun v1 hv1 => ?_
      walk_at "rc"
      refine rd_ixDT (Evl.Ex.refl H) hv1 (d := encW wy) (by rw [List.getElem?_map, hwy]; rfl) fun v2 hv2 => ?_
      walk_at "rc"
      walk_at "rs"
      walk_at "rc"
      cases wy with
      | none =>
        cases Dp.non_iff hv2
        refine rd_itet (by decide) ?_
        walk_at "rc"
        exact q _ _ (Evl.Ex.refl H) keyN_of
      | some w0 =>
        have hw := (g2 row hrm).2 w0 (mem_ways.mpr (List.mem_of_getElem? hwy))
        have hwt : isT ls w0.2 := g3 _ (mem_way hrm (List.mem_of_getElem? hwy))
        obtain ⟨n1, hn1⟩ := Int.eq_ofNat_of_zero_le hw.1
        obtain ⟨a2, vs2, rfl, g4, g5⟩ := Dp.tupv hv2
        refine rd_itef (decide_eq_false fun z => nomatch z) ?_
        walk_at "rc"
        refine rd_ixDT (Evl.Ex.refl H) hv2 (i := 0) rfl fun v3 hv3 => ?_
        cases Dp.int_iff hv3
        walk_at "rc"
        refine ⟨m, dm, _, rfl, hm1, rfl, ?_⟩
        walk_at "rc"
        refine rd_ixT (v := vI t0) sp (atI_nat (j := 1) rfl) ?_
        walk_at "rc"
        refine rd_ixDT (Evl.Ex.refl H) hv2 (i := 1) rfl fun v4 hv4 => ?_
        cases Dp.str_iff hv4
        walk_at "rc"
        refine ⟨m, ls, acc, tab, t0, wd ls w0.2, by rw [tx_wd hwt]; rfl, I.am, I.gm, I.nd, wd_lw hwt, ht0, ?_⟩
        walk_at "rc"
        refine ⟨by show 2 ≤ sizeLine; decide, fun t ht => ?_⟩
        refine q _ _ (Evl.Ex.new ht) (keyP_of ?_)
        rw [upd_same]
        show some (HO.tup [V.int w0.1, _]) = some (HO.tup [V.int ((w0.1.toNat : Nat) : Int), _])
        rw [Int.toNat_of_nonneg hw.1]
        rfl
def spAccR : List (Option V) → Sp := fun ws vs H Q _ => ∃ (rw m : Addr) (ls : Str) (r : Parts) (acc : List Bool) (tab : List (List Nat)) (v : V) (kk : KE), ws = [some (.ref rw), some (.ref m)] ∧ vs = [v] ∧ KeyV H v kk ∧ kk ∈ keysR r.fin.length acc.length ∧ InR T H rw m ls r acc tab ∧ Q (.bl (acR ls r acc tab kk)) H
theorem nok_accR (cl : List (Str × Addr)) (f c : Addr) : NdefX.NOk P w K mg base CX0 3 f (NdefX.NF.of s_before_image_accepts "accepts" "before_image.<locals>.accepts" cl c) ["key"] ["rewriter", "machine"] (spAccR T) := by
  refine nok_by (k := 2) sc_before_image_accepts (fun _ _ _ us hl => match us, hl with | [_], _ => rfl) (fun ws vs H Q E h => ?_) fun A outer s H vs ws Q E hr _ h => ?_
  · obtain ⟨_, _, _, _, _, _, _, _, _, rfl, _⟩ := h; rfl
  · obtain ⟨rw0, m, ls, r, acc, tab, v, kk, rfl, rfl, hv, hk, I, q⟩ := h
    obtain ⟨dr, tf, tt, hr1, hF, hTt⟩ := id I.ar
    obtain ⟨dm, ta, tt2, hm1, hA, hT2⟩ := id I.am
    refine ⟨_, (pss_cons (ps_set (i := 3) sc_before_image_accepts.nd rfl (by first | exact Or.inl rfl | exact Or.inr rfl) (pe_ifExp (pt_cmpR op_isN (pv 0) pe_non (by first | rfl | exact nomark _)) pe_non (pe_ix (kIx K) (kFld K rfl (pe_fld (pv 1) rfl)) (pe_ix (kIx K) (pv 0) pe_int (fun _ _ => rfl)) (fun _ _ => rfl))))
  (pss_one (ps_ret (pe_and (pe_cmpR op_notN (pv 3) pe_non (by first | rfl | exact nomark _)) (pe_one (pe_ix (kIx K) (kFld K rfl (pe_fld (pv 2) rfl)) (pe_meth (pv 2) T.cl_Machine T.m_Machine_run_from (ok_Machine_run_from T) (hr.mono (by decide)) T.b_Machine_run_from .nil pass0 (pa_cons (pe_ix (kIx K) (pv 0) pe_int (fun _ _ => rfl)) (pa_cons (pv 3) pa_nil))) (fun _ _ => rfl))))))), ?_⟩
    walk_at "rc"
    rcases mem_keysR.mp hk with rfl | ⟨s0, t0, hs0, ht0, rfl⟩
    · obtain rfl := keyN hv
      refine rd_ife ?_
      walk_at "rc"
      refine rd_iteT ?_
      walk_at "rc"
      refine rd_andV ?_
      walk_at "rc"
      refine rd_iteF ?_
      exact q
    · obtain ⟨p, rfl, hp⟩ := keyP hv
      have sp : SqT K H p [vI s0, vI t0] := Evl.st_of hp
      obtain ⟨g0, g1, g2, g3⟩ := id I.gr
      obtain ⟨o, ho⟩ := getQ (l := r.fin) (i := s0) hs0
      have eo : r.fin.getD s0 none = o := by rw [List.getD_eq_getElem?_getD, ho]; rfl
      have hac := acR_P (ls := ls) (r := r) (acc := acc) (tab := tab) s0 t0
      rw [eo] at hac
      rw [hac] at q
      refine rd_ife ?_
      walk_at "rc"
      refine rd_itef (decide_eq_false fun z => nomatch z) ?_
      walk_at "rc"
      refine ⟨rw0, _, dr, _, _, rfl, hr1, T.cl_Rewriter, T.na_Rewriter_finals, rfl, ?_⟩
      walk_at "rc"
      refine rd_ixT (v := vI s0) sp (atI_nat (j := 0) rfl) ?_
      refine rd_ixDT (Evl.Ex.refl H) hF (d := encO o) (by rw [List.getElem?_map, ho]; rfl) fun v1 hv1 => ?_
      walk_at "rc"
      cases o with
      | none =>
        cases Dp.non_iff hv1
        refine rd_andV ?_
        walk_at "rc"
        refine rd_iteF ?_
        exact q
      | some z =>
        cases Dp.str_iff hv1
        have hzt : isT ls z := g3 _ (mem_fin (List.mem_of_getElem? ho))
        refine rd_andV ?_
        walk_at "rc"
        refine rd_iteT ?_
        walk_at "rc"
        refine ⟨m, _, dm, _, _, rfl, hm1, T.cl_Machine, T.na_Machine_accepting, rfl, ?_⟩
        walk_at "rc"
        refine ⟨m, dm, _, rfl, hm1, rfl, ?_⟩
        walk_at "rc"
        refine rd_ixT (v := vI t0) sp (atI_nat (j := 1) rfl) ?_
        walk_at "rc"
        refine ⟨m, ls, acc, tab, t0, wd ls z, by rw [tx_wd hzt]; rfl, I.am, I.gm, I.nd, wd_lw hzt, ht0, ?_⟩
        exact rd_flag (Evl.Ex.refl H) hA (Tb.rn (gmw_tb I.gm) (wd_lw hzt) ht0) q
/-- what its machine tells -/
def imgB (ls : Str) (r : Parts) (acc : List Bool) (tab : List (List Nat)) (u : List Nat) : Bool := match rwM ls r (tx ls u).cps.toList with
  | none => false
  | some z => acc.getD (rn tab 0 (wd ls z)) false
def spBefore : Sp := fun vs H Q _ => ∃ (rw m : Addr) (ls : Str) (r : Parts) (acc : List Bool) (tab : List (List Nat)), vs = [.ref rw, .ref m] ∧ InR T H rw m ls r acc tab ∧ 0 < ls.length ∧ ls.length ≤ 100 ∧ r.fin.length * acc.length + 1 ≤ 1000 ∧ Tbs nmT (Ps T) H ∧
  ∀ m' as' tab' H', Kp (Ps T) H H' → Tbs nmT (Ps T) H' → MachD K T.C_Machine H' m' ls as' tab' → GMw ls as' tab' → Cano ls.length as' tab' → as'.length ≤ r.fin.length * acc.length + 1 → (∀ u, Lw ls.length u → as'.getD (rn tab' 0 u) false = imgB ls r acc tab u) → Q (.ref m') H'
theorem ok_before_image (B : Bs T base) : FnOk P w K mg base CX0 9 T.a_before_image T.d_before_image ["rewriter", "machine"] (spBefore T) := by
  refine T.t_before_image.ok sc_before_image (fun vs H Q E h => ?_) (fun A outer s H vs Q E hr h => ?_)
  · obtain ⟨_, _, _, _, _, _, rfl, _⟩ := h; rfl
  · obtain ⟨rw0, m, ls, r, acc, tab, rfl, I, l0, l1, nn, hT, q⟩ := h
    have nd := I.nd
    have gr := I.gr
    have gm := I.gm
    refine ⟨_, (pss_cons (ps_ndf (i := 2) (nm := nmT) (Ps := Ps T) (st := s_before_image_step) rfl B.tb_before_image rfl B.in_before_image (by rfl) (fr := ["rewriter", "machine"]) (show NdefX.ndefB (defScope s_before_image) _ _ = true from by decide +kernel) rfl rfl rfl sc_before_image.nd rfl (by first | exact Or.inl rfl | exact Or.inr rfl) (by first | exact Or.inl rfl | exact Or.inr rfl))
  (pss_cons (ps_ndf (i := 3) (nm := nmT) (Ps := Ps T) (st := s_before_image_accepts) rfl B.tb_before_image rfl B.in_before_image (by rfl) (fr := ["rewriter", "machine"]) (show NdefX.ndefB (defScope s_before_image) _ _ = true from by decide +kernel) rfl rfl rfl sc_before_image.nd rfl (by first | exact Or.inl rfl | exact Or.inr rfl) (by first | exact Or.inl rfl | exact Or.inr rfl))
  (pss_one (ps_ret (pe_callZ (ok_least_explored T) (hr.mono (by decide)) T.o_least_explored (fun _ => rfl) (pa_cons (kFld K rfl (pe_fld (pv 0) rfl)) (pa_cons (pe_tup (pa_cons pe_int (pa_cons (pe_meth (pv 1) T.cl_Machine T.m_Machine_run (ok_Machine_run T) (hr.mono (by decide)) T.b_Machine_run .nil pass0 (pa_cons (kFld K rfl (pe_fld (pv 0) rfl)) pa_nil)) pa_nil))) (pa_cons (pv 2) (pa_cons (pv 3) pa_nil))))))))), ?_⟩
    walk_at "rc"
    walk_at "rs"
    refine rd_ndf hT fun f1 c1 H1 k1 t1' n1 hf1 hc1 => ?_
    walk_at "rc"
    walk_at "rs"
    refine rd_ndf t1' fun f2 c2 H2 k2 t2' n2 hf2 hc2 => ?_
    have R1 := (I.ar.tbl hT B.in_before_image k1).tbl t1' B.in_before_image k2
    have M1 := (I.am.tbl hT B.in_before_image k1).tbl t1' B.in_before_image k2
    obtain ⟨dr, tf, tt, hr1, hF, hTt⟩ := id R1
    obtain ⟨dm, ta, tt2, hm1, hA, hT2⟩ := id M1
    have hlt : isT ls r.lead := gr.2.2.2 _ mem_lead
    walk_at "rc"
    refine rd_callZ ?_
    walk_at "rc"
    refine ⟨rw0, _, dr, _, _, rfl, hr1, T.cl_Rewriter, T.na_Rewriter_letters, rfl, ?_⟩
    walk_at "rc"
    refine ⟨m, dm, _, rfl, hm1, rfl, ?_⟩
    walk_at "rc"
    refine ⟨rw0, _, dr, _, _, rfl, hr1, T.cl_Rewriter, T.na_Rewriter_lead, rfl, ?_⟩
    refine ⟨m, ls, acc, tab, wd ls r.lead, by rw [tx_wd hlt]; rfl, M1, gm, nd, wd_lw hlt, ?_⟩
    have ht0 : rn tab 0 (wd ls r.lead) < acc.length := Tb.rn (gmw_tb gm) (wd_lw hlt) gm.m.p
    walk_at "rc"
    refine ⟨by show 2 ≤ sizeLine; decide, fun p hp => ?_⟩
    have e3 : Ex H2 (upd H2 p (.tup [.int 0, .int ((rn tab 0 (wd ls r.lead) : Nat) : Int)])) := Evl.Ex.new hp
    have h3 : upd H2 p (.tup [.int 0, .int ((rn tab 0 (wd ls r.lead) : Nat) : Int)]) p = some (.tup [vI 0, vI (rn tab 0 (wd ls r.lead))]) := upd_same
    generalize upd H2 p (.tup [.int 0, .int ((rn tab 0 (wd ls r.lead) : Nat) : Int)]) = H3 at e3 h3
    walk_at "rc"
    intro O ow
    have hf1' := e3 _ _ (t1'.kpX B.in_before_image k2 hf1 True.intro)
    have hc1' := e3 _ _ (t1'.kpX B.in_before_image k2 hc1 True.intro)
    obtain ⟨G1, as1, F1, gg1⟩ := ndf_made (k := 3) (ps := ["key", "index"]) (fr := ["rewriter", "machine"]) (sp := spStepR T) ow hf1' hc1' [0, 1] (show NdefX.ndefB (defScope s_before_image) _ _ = true from by decide +kernel) rfl fun cl => nok_stepR T cl f1 c1
    obtain ⟨G2, as2, F2, gg2⟩ := ndf_made (k := 3) (ps := ["key"]) (fr := ["rewriter", "machine"]) (sp := spAccR T) ow (e3 _ _ hf2) (e3 _ _ hc2) [0, 1] (show NdefX.ndefB (defScope s_before_image) _ _ = true from by decide +kernel) rfl fun cl => nok_accR T cl f2 c2
    have R3 := (R1.ex e3).ex (fz_ex (O := O) ow.non)
    have M3 := (M1.ex e3).ex (fz_ex (O := O) ow.non)
    have hidK : ∀ {as : List Addr} {H5 : Hp} {v : V} {kk : KE}, (∀ b ∈ as, ∃ o, H5 b = some (frC b o)) → KeyV H5 v kk → KeyV (hid as H5) v kk := fun W hv => hv.ex fun b xs z => by
      rw [hid_at fun y => by obtain ⟨o, e⟩ := W b y; rw [z] at e; cases e]
      exact z
    refine ⟨ls, .ref p, f1, f2, kP 0 (rn tab 0 (wd ls r.lead)), nxR ls r tab, acR ls r acc tab, keysR r.fin.length acc.length, rfl, keyP_of (fz_ex ow.non _ _ h3), fun _ => ⟨p, rfl⟩, l0, l1, ⟨⟨G1, _, F1, gg1, fun H5 v kk j Q e hv hk hj q => ?_⟩, ⟨G2, _, F2, gg2, fun H5 v kk Q e hv hk q => ?_⟩, fun kk hk j hj => ?_, fun a ha b hb => ?_⟩, mem_keysR.mpr (.inr ⟨0, _, gr.1, ht0, rfl⟩), ?_, fun m' as' tab' H5 e hM5 g5 C hle he => ?_⟩
    · intro W
      refine ⟨rw0, m, ls, r, acc, tab, v, kk, j, rfl, rfl, hidK W hv, hk, ⟨(R3.ex e).fr W, (M3.ex e).fr W, gr, gm, nd⟩, hj, fun v' H6 e6 hv' => ?_⟩
      intro gone
      refine q v' _ (rz_ex e6) (hv'.ex fun b xs z => ?_)
      rw [rz_at fun m => by rw [gone b m] at z; cases z]
      exact z
    · intro W
      exact ⟨rw0, m, ls, r, acc, tab, v, kk, rfl, rfl, hidK W hv, hk, ⟨(R3.ex e).fr W, (M3.ex e).fr W, gr, gm, nd⟩, fun _ => by rw [rz_hid]; exact q _ (Evl.Ex.refl _)⟩
    · rcases mem_keysR.mp hk with rfl | ⟨s0, t0, hs0, ht0, rfl⟩
      · exact mem_keysR.mpr (.inl rfl)
      · rw [nxR_P]
        obtain ⟨g0, g1, g2, g3⟩ := id gr
        obtain ⟨row, hrow⟩ := getQ (l := r.tab) (i := s0) (by omega)
        have hrm := List.mem_of_getElem? hrow
        have hrl := (g2 row hrm).1
        obtain ⟨wy, hwy⟩ := getQ (l := row) (i := j) (by omega)
        have enx : (r.tab.getD s0 []).getD j none = wy := by
          rw [List.getD_eq_getElem?_getD, List.getD_eq_getElem?_getD, hrow]
          show (row[j]?).getD none = wy
          rw [hwy]; rfl
        rw [enx]
        cases wy with
        | none => exact mem_keysR.mpr (.inl rfl)
        | some w0 =>
          have hw := (g2 row hrm).2 w0 (mem_ways.mpr (List.mem_of_getElem? hwy))
          have hwt : isT ls w0.2 := g3 _ (mem_way hrm (List.mem_of_getElem? hwy))
          exact mem_keysR.mpr (.inr ⟨_, _, by omega, Tb.rn (gmw_tb gm) (wd_lw hwt) ht0, rfl⟩)
    · rcases mem_keysR.mp ha with rfl | ⟨_, _, _, _, rfl⟩ <;> rcases mem_keysR.mp hb with rfl | ⟨_, _, _, _, rfl⟩ <;> rfl
    · rw [len_keysR]; exact nn
    · rw [len_keysR] at hle
      have e2 := fz_out ow.non e
      refine q m' as' tab' _ ((kp_one B.in_before_image k1).trans ((kp_one B.in_before_image k2).trans (Kp.of_ex (e3.trans e2)))) (t2'.ex (e3.trans e2)) ?_ g5 C hle fun u hu => ?_
      · exact hM5.fr fun b hb => ⟨O b, e _ _ (fz_in hb)⟩
      · rw [he u hu, img_ok gr nd hu]; rfl
end
section
variable (T : Txt K mg)
def zTab (w : Nat) : List (List Nat) := [List.replicate w 0]
theorem zrn (w : Nat) : ∀ (u : List Nat), rn (zTab w) 0 u = 0
  | [] => rfl
  | j :: u => by
    have e : ((zTab w).getD 0 []).getD j 0 = 0 := by
      show (List.replicate w 0).getD j 0 = 0
      rw [List.getD_eq_getElem?_getD, List.getElem?_replicate]
      split <;> rfl
    show rn (zTab w) (((zTab w).getD 0 []).getD j 0) u = 0
    rw [e]; exact zrn w u
theorem zgm {w : Nat} (h : w ≤ 100) : GM [true] (zTab w) := ⟨Nat.one_pos, rfl, ⟨by show 1 ≤ 1000; decide, fun row hr x hx => by
    rw [List.mem_singleton.mp hr] at hx
    rw [(List.mem_replicate.mp hx).2]; exact Nat.one_pos⟩, fun row hr => by rw [List.mem_singleton.mp hr, List.length_replicate]; exact h⟩
theorem zimg {ls : Str} {r : Parts} {u : List Nat} : imgB ls r [true] (zTab ls.length) u = (rwM ls r (tx ls u).cps.toList).isSome := by
  unfold imgB
  cases rwM ls r (tx ls u).cps.toList with
  | none => rfl
  | some z =>
    show [true].getD (rn (zTab ls.length) 0 (wd ls z)) false = true
    rw [zrn]; rfl
def spDomain : Sp := fun vs H Q _ => ∃ (rw : Addr) (ls : Str) (r : Parts), vs = [.ref rw] ∧ RwAt K T.C_Rewriter H rw ls r ∧ goodR ls r ∧ ls.cps.toList.Nodup ∧ 0 < ls.length ∧ ls.length ≤ 100 ∧ r.fin.length + 1 ≤ 1000 ∧ Tbs nmT (Ps T) H ∧
  ∀ m' as' tab' H', Kp (Ps T) H H' → Tbs nmT (Ps T) H' → MachD K T.C_Machine H' m' ls as' tab' → GMw ls as' tab' → Cano ls.length as' tab' → as'.length ≤ r.fin.length + 1 → (∀ u, Lw ls.length u → as'.getD (rn tab' 0 u) false = (rwM ls r (tx ls u).cps.toList).isSome) → Q (.ref m') H'
theorem ok_domain (B : Bs T base) : FnOk P w K mg base CX0 10 T.a_domain T.d_domain ["rewriter"] (spDomain T) := by
  refine T.f_domain.ok sc_domain (fun vs H Q E h => ?_) (fun cdv A outer s H vs Q E hr h => ?_)
  · obtain ⟨_, _, _, rfl, _⟩ := h; rfl
  · obtain ⟨rw0, ls, r, rfl, R, gr, nd, l0, l1, nn, hT, q⟩ := h
    obtain ⟨dr, tf, tt, hr1, hF, hTt⟩ := id R
    have sz : 1000000 ≤ sizeLine := by decide
    refine ⟨_, (pss_one (ps_ret (pe_callE (ok_before_image T B) (hr.mono (by decide)) T.o_before_image (pa_cons (pv 0) (pa_cons (pe_makeR T.mk_Machine (ok_Machine_init T) (hr.mono (by decide)) T.g_Machine T.b_Machine_init takes0 (pa_cons (kFld K rfl (pe_fld (pv 0) rfl)) (pa_cons (pe_lst (pa_cons pe_bl pa_nil)) (pa_cons (pe_lst (pa_cons (pe_op op_rep (pe_lst (pa_cons pe_int pa_nil)) (pe_callB (kLen K) (by rfl) T.nb_len (by decide +kernel) (pa_cons (kFld K rfl (pe_fld (pv 0) rfl)) pa_nil))) pa_nil)) pa_nil)))) pa_nil))))), ?_⟩
    walk_at "rc"
    refine ⟨rw0, _, dr, _, _, rfl, hr1, T.cl_Rewriter, T.na_Rewriter_letters, rfl, ?_⟩
    walk_at "rc"
    refine ⟨by show 1 ≤ sizeLine; omega, fun pa hpa => ?_⟩
    have e1 : Ex H (upd H pa (.lst [.bl true])) := Evl.Ex.new hpa
    have h1 : upd H pa (.lst [.bl true]) pa = some (.lst (([true] : List Bool).map V.bl)) := upd_same
    generalize upd H pa (.lst [.bl true]) = H1 at e1 h1
    walk_at "rc"
    refine ⟨by show 1 ≤ sizeLine; omega, fun p0 hp0 => ?_⟩
    have e2 : Ex H1 (upd H1 p0 (.lst [.int 0])) := Evl.Ex.new hp0
    have h2 : upd H1 p0 (.lst [.int 0]) p0 = some (.lst [.int 0]) := upd_same
    generalize upd H1 p0 (.lst [.int 0]) = H2 at e2 h2
    walk_at "rc"
    refine ⟨rw0, _, dr, _, _, rfl, (e1.trans e2) _ _ hr1, T.cl_Rewriter, T.na_Rewriter_letters, rfl, ?_⟩
    walk_at "rc"
    refine rd_lenS (z := ls) (by omega) ?_
    refine ⟨p0, (ls.length : Int), [.int 0], rfl, rfl, h2, by omega, by omega, ?_, fun f hf => ?_⟩
    · rw [Int.toNat_natCast]
      show 1 * ls.length ≤ sizeLine
      omega
    rw [Int.toNat_natCast, show (List.replicate ls.length [V.int 0]).flatten = (List.replicate ls.length 0).map vI by
      generalize ls.length = n
      induction n with
      | zero => rfl
      | succ n ih => rw [List.replicate_succ, List.replicate_succ, List.flatten_cons, ih]; rfl]
    have e3 : Ex H2 (upd H2 f (.lst ((List.replicate ls.length 0).map vI))) := Evl.Ex.new hf
    have h3 : upd H2 f (.lst ((List.replicate ls.length 0).map vI)) f = some (.lst ((List.replicate ls.length 0).map vI)) := upd_same
    generalize upd H2 f (.lst ((List.replicate ls.length 0).map vI)) = H3 at e3 h3
    walk_at "rc"
    refine ⟨by show 1 ≤ sizeLine; omega, fun pt hpt => ?_⟩
    have e4 : Ex H3 (upd H3 pt (.lst [.ref f])) := Evl.Ex.new hpt
    have h4 : upd H3 pt (.lst [.ref f]) pt = some (.lst [.ref f]) := upd_same
    generalize upd H3 pt (.lst [.ref f]) = H4 at e4 h4
    have hA : Dp K H4 (.ref pa) (.list (([true] : List Bool).map PyData.bool)) := .lst (SqL.of ((e2.trans (e3.trans e4)) _ _ h1)) (.cons (.bl _) .nil)
    have hTz : Dp K H4 (.ref pt) (nL (zTab ls.length)) := .lst (SqL.of h4) (.cons (.lst (SqL.of (e4 _ _ h3)) (dp_vI _)) .nil)
    have e14 := e1.trans (e2.trans (e3.trans e4))
    have gw : ∀ row ∈ zTab ls.length, row.length = ls.length := fun row hr => by rw [List.mem_singleton.mp hr, List.length_replicate]
    walk_at "rc"
    intro x dx hx hdx ne
    refine made_D T hx hdx ne l0 (by omega) hA hTz (zgm l1) gw fun H5 e5 M5 => ⟨rfl, ?_⟩
    walk_at "rc"
    refine ⟨rw0, x, ls, r, [true], zTab ls.length, rfl, ⟨R.ex (e14.trans e5), M5, gr, ⟨zgm l1, gw⟩, nd⟩, l0, l1, by show r.fin.length * 1 + 1 ≤ 1000; omega, hT.ex (e14.trans e5), fun m' as' tab' H6 k6 T6 M6 g6 C6 le6 lg6 => ?_⟩
    exact q m' as' tab' H6 ((Kp.of_ex (e14.trans e5)).trans k6) T6 M6 g6 C6 (by have : as'.length ≤ r.fin.length * 1 + 1 := le6; omega) fun u hu => (lg6 u hu).trans zimg
end
theorem rwF_in {ls : Str} {r : Parts} (g : goodR ls r) (bd : Bnd r) {s : Int} (h0 : 0 ≤ s) (h1 : s < r.fin.length) {t : Str} (ht : isT ls t) (tl : t.length ≤ 10000) {z : Int × Str} (h : rwF ls r.tab s t.cps.toList = some z) : 0 ≤ z.1 ∧ z.1 < r.fin.length ∧ z.2.length ≤ 10000000 ∧ isT ls z.2 := by
  unfold rwF at h
  obtain ⟨y, hy, rfl⟩ := Option.map_eq_some_iff.mp h
  have tll : t.cps.toList.length = t.length := rfl
  have e : t.cps.toList.take t.length = t.cps.toList := by rw [← tll, List.take_length]
  obtain ⟨a, b, c⟩ := rwL_in g h0 h1 t.cps.toList ht t.length (by omega) y (by rw [e]; exact hy)
  have := cat_len (B := 1000) y.2 fun v hv => bd.t v (c v hv)
  refine ⟨a.1, a.2, ?_, fun d hd => ?_⟩
  · rw [b] at this
    show (catS y.2).length ≤ 10000000
    omega
  · obtain ⟨w, hw, hd⟩ := mem_cat y.2 hd
    exact g.2.2.2 w (c w hw) d hd
theorem rw_isT {ls : Str} {r : Parts} (g : goodR ls r) (bd : Bnd r) {t : Str} (ht : isT ls t) (tl : t.length ≤ 10000) {u : Str} (h : rwM ls r t.cps.toList = some u) : isT ls u := by
  have g0 := g.1
  unfold rwM at h
  obtain ⟨z, hz, h⟩ := Option.bind_eq_some_iff.mp h
  obtain ⟨w, hw, rfl⟩ := Option.map_eq_some_iff.mp h
  obtain ⟨a, b, _, c⟩ := rwF_in g bd (Int.le_refl 0) (by omega) ht tl hz
  intro d hd
  rw [tl_app, tl_app] at hd
  rcases List.mem_append.mp hd with hd | hd
  · rcases List.mem_append.mp hd with hd | hd
    · exact g.2.2.2 _ mem_lead d hd
    · exact c d hd
  · have hm : some w ∈ r.fin := by
      rw [List.getD_eq_getElem?_getD] at hw
      cases hq : r.fin[z.1.toNat]? with
      | none => rw [hq] at hw; cases hw
      | some o =>
        rw [hq] at hw
        have e : o = some w := hw
        exact e ▸ List.mem_of_getElem? hq
    exact g.2.2.2 _ (mem_fin hm) d hd
section
abbrev lvLaw := 12
theorem RwAt.kpT {nm : Nat → Nat → Str} {Ps : List Addr} {H H' : Hp} {C : Addr} {m : Addr} {ls : Str} {r : Parts} (h : RwAt K C H m ls r) (t : Tbs nm Ps H) (k : Kp Ps H H') : RwAt K C H' m ls r := by
  obtain ⟨dx, ta, tt, h1, h2, h3⟩ := h
  exact ⟨dx, ta, tt, t.kpA k h1 (fun _ z => nomatch z), dp_kpT h2 t k, dp_kpT h3 t k⟩
theorem made_ex {C x dx : Addr} {H H' : Hp} (hx : H x = none) (hd : H dx = none) (ne : dx ≠ x) (k : Kp [x] (upd (upd H dx (.own x)) x (.ins C dx [])) H') : Ex H H' := fun b o q =>
  k b o (fun z => ne_of_none q hx (List.mem_singleton.mp z)) (by rw [upd_ne (ne_of_none q hx), upd_ne (ne_of_none q hd)]; exact q)
theorem upd2_ex {C x dx : Addr} {H : Hp} (hx : H x = none) (hd : H dx = none) : Ex H (upd (upd H dx (.own x)) x (.ins C dx [])) := fun b o q => by
  rw [upd_ne (ne_of_none q hx), upd_ne (ne_of_none q hd)]; exact q
theorem rowsD_L (tab : List (List Way)) : RowsD (tab.map rowL) tab := ⟨List.length_map .., fun i d row h1 h2 => by
  rw [List.getElem?_map, h2] at h1
  exact .inl (Option.some.inj h1).symm⟩
theorem rd_ite45 {l : Nat} {σ : L2.St} {H : Hp} {Q : VK} (h : ∀ n : Nat, n ≤ 5 → Q (.int (n : Int)) H) : if decide ((l : Int) = 3) = true then tC (.int 4) σ H Q else tC (.int 5) σ H Q := by
  by_cases e : (l : Int) = 3
  · exact rd_itet (decide_eq_true e) (h 4 (by decide))
  · exact rd_itef (decide_eq_false e) (h 5 (by decide))
theorem txs_data {ls : Str} {R : List (List Nat)} {H : Hp} {a : Addr} (h : H a = some (.lst ((R.map (tx ls)).map V.str))) : Dp K H (.ref a) (txD ls R) := by
  refine .lst (SqL.of h) ?_
  have := dps_str (K := K) (H := H) (R.map (tx ls))
  rw [List.map_map (f := tx ls) (g := PyData.str)] at this
  exact this
theorem tx_isT {ls : Str} {u : List Nat} (h : Lw ls.length u) : isT ls (tx ls u) := fun c hc => by
  rw [tx_list] at hc
  obtain ⟨j, hj, rfl⟩ := List.mem_map.mp hc
  have hl : j < ls.cps.toList.length := h j hj
  rw [List.getD_eq_getElem?_getD, List.getElem?_eq_getElem hl]
  exact List.getElem_mem hl
theorem accM_rn {acc : List Bool} {tab : List (List Nat)} {u : List Nat} : acM acc (u.foldl (nxM tab) (.i 0)) = acc.getD (rn tab 0 u) false := by rw [rn_M]; rfl
variable (T : Txt K mg)
def spLaw : Sp := fun vs H Q _ => ∃ (a : Addr) (ns : List Int), vs = [.ref a] ∧ SqL K H a (ns.map V.int) ∧ ns.length ≤ 63 ∧ Tbs nmT (Ps T) H ∧ ∀ H', Q (.bl true) H'
theorem ok_law (B : Bs T base) : FnOk P w K mg base CX0 lvLaw T.a_law T.d_law ["script"] (spLaw T) := by
  refine T.f_law.ok sc_law (fun vs H Q E h => ?_) (fun cdv A outer s H vs Q E hr h => ?_)
  · obtain ⟨_, _, rfl, _⟩ := h; rfl
  · obtain ⟨a, ns, rfl, hs, hn, hT, q⟩ := h
    have sz : 1000000 ≤ sizeLine := by decide
    refine ⟨_, (pss_cons (ps_set (i := 1) sc_law.nd rfl (by first | exact Or.inl rfl | exact Or.inr rfl) (pe_callE (ok_state T) (hr.mono (by decide)) T.o_state (pa_cons (pv 0) (pa_cons pe_int (pa_cons pe_int pa_nil)))))
  (pss_cons (ps_set (i := 2) sc_law.nd rfl (by first | exact Or.inl rfl | exact Or.inr rfl) (pe_callE (ok_letters T) (hr.mono (by decide)) T.o_letters (pa_cons (pv 1) (pa_cons pe_int pa_nil))))
  (pss_cons (ps_for PassesOwn.never rfl (pi_range1 (by rfl) T.nb_range (pa_cons pe_int pa_nil)) (pg_name (i := 3) sc_law.nd rfl (by first | exact Or.inl rfl | exact Or.inr rfl))
    (pss_cons (ps_set (i := 4) sc_law.nd rfl (by first | exact Or.inl rfl | exact Or.inr rfl) (pe_callE (ok_maker T) (hr.mono (by decide)) T.o_maker (pa_cons (pv 2) (pa_cons (pv 1) (pa_cons pe_int pa_nil)))))
  (pss_cons (ps_asg (pe_callE (ok_parts T) (hr.mono (by decide)) T.o_parts (pa_cons (pv 2) (pa_cons (pv 1) (pa_cons pe_int pa_nil)))) (kGt K rfl (pg_tup (n := 2) (by rfl) (pgs_cons (pg_name (i := 5) sc_law.nd rfl (by first | exact Or.inl rfl | exact Or.inr rfl)) (pgs_cons (pg_name (i := 6) sc_law.nd rfl (by first | exact Or.inl rfl | exact Or.inr rfl)) pgs_nil)))))
  (pss_cons (ps_set (i := 7) sc_law.nd rfl (by first | exact Or.inl rfl | exact Or.inr rfl) (pe_makeR T.mk_Rewriter (ok_Rewriter_init T) (hr.mono (by decide)) T.g_Rewriter T.b_Rewriter_init takes0 (pa_cons (pv 2) (pa_cons (pe_ix (kIx K) (pv 4) pe_int (fun _ _ => rfl)) (pa_cons (pe_ix (kIx K) (pv 4) pe_int (fun _ _ => rfl)) (pa_cons (pe_ix (kIx K) (pv 4) pe_int (fun _ _ => rfl)) pa_nil))))))
  (pss_cons (ps_set (i := 8) sc_law.nd rfl (by first | exact Or.inl rfl | exact Or.inr rfl) (pe_callE (ok_domain T B) (hr.mono (by decide)) T.o_domain (pa_cons (pv 7) pa_nil)))
  (pss_cons (ps_set (i := 9) sc_law.nd rfl (by first | exact Or.inl rfl | exact Or.inr rfl) (pe_callE (ok_before_image T B) (hr.mono (by decide)) T.o_before_image (pa_cons (pv 7) (pa_cons (pe_makeR T.mk_Machine (ok_Machine_init T) (hr.mono (by decide)) T.g_Machine T.b_Machine_init takes0 (pa_cons (pv 2) (pa_cons (pv 5) (pa_cons (pv 6) pa_nil)))) pa_nil))))
  (pss_cons (ps_set (i := 10) sc_law.nd rfl (by first | exact Or.inl rfl | exact Or.inr rfl) (pe_op (kAdd K) (pe_callE (ok_texts T) (hr.mono (by decide)) T.o_texts (pa_cons (pv 2) (pa_cons (pe_ifExp (pt_cmpR (kEq K rfl hr.units) (pe_callB (kLen K) (by rfl) T.nb_len (by decide +kernel) (pa_cons (pv 2) pa_nil)) pe_int (by first | rfl | exact nomark _)) pe_int pe_int) pa_nil))) (pe_lc (own := [("j", 11)]) (g := gName 11) (tt := tYes) (by rfl) sc_law.nd (pi_range1 (by rfl) T.nb_range (pa_cons pe_int pa_nil)) (blkOk_by (own := [("j", 11)]) (N := ["script", "state", "letters", "k", "parts", "accepting", "table", "rewriter", "taken", "before", "texts", "j", "text", "made", "good", "told"]) (sc := defScope s_law) (by decide +kernel)) (fun _ _ _ _ _ => (pg_name (i := 11) sc_law.nd rfl (by first | exact Or.inl rfl | exact Or.inr rfl))) (fun _ _ _ _ _ => pts_nil) (fun _ _ _ _ _ => (pe_callE (ok_long_text T) (hr.mono (by decide)) T.o_long_text (pa_cons (pv 2) (pa_cons (pv 1) pa_nil)))))))
  (pss_cons (ps_for PassesOwn.never rfl (kAny K rfl (pv 10)) (pg_name (i := 12) sc_law.nd rfl (by first | exact Or.inl rfl | exact Or.inr rfl))
    (pss_cons (ps_set (i := 13) sc_law.nd rfl (by first | exact Or.inl rfl | exact Or.inr rfl) (pe_callE (ok_rewrite T) (hr.mono (by decide)) T.o_rewrite (pa_cons (pv 2) (pa_cons (pv 4) (pa_cons (pv 12) pa_nil)))))
  (pss_cons (ps_set (i := 14) sc_law.nd rfl (by first | exact Or.inl rfl | exact Or.inr rfl) (pe_and (pe_cmpR op_notN (pv 13) pe_non (by first | rfl | exact nomark _)) (pe_one (pe_callE (ok_accepts T) (hr.mono (by decide)) T.o_accepts (pa_cons (pv 2) (pa_cons (pv 5) (pa_cons (pv 6) (pa_cons (pv 13) pa_nil))))))))
  (pss_one (ps_if (PW.pt (pw_or (pt_cmpR (kNe K rfl hr.units) (pe_callB call_reprP (by rfl) T.nb_repr (by decide +kernel) (pa_cons (pe_meth (pv 8) T.cl_Machine T.m_Machine_accepts (ok_Machine_accepts T) (hr.mono (by decide)) T.b_Machine_accepts .nil pass0 (pa_cons (pv 12) pa_nil)) pa_nil)) (pe_callB call_reprP (by rfl) T.nb_repr (by decide +kernel) (pa_cons (pe_cmpR op_notN (pv 13) pe_non (by first | rfl | exact nomark _)) pa_nil)) (by first | rfl | exact nomark _)) (pw_or1 (pt_cmpR (kNe K rfl hr.units) (pe_callB call_reprP (by rfl) T.nb_repr (by decide +kernel) (pa_cons (pe_meth (pv 9) T.cl_Machine T.m_Machine_accepts (ok_Machine_accepts T) (hr.mono (by decide)) T.b_Machine_accepts .nil pass0 (pa_cons (pv 12) pa_nil)) pa_nil)) (pe_callB call_reprP (by rfl) T.nb_repr (by decide +kernel) (pa_cons (pv 14) pa_nil)) (by first | rfl | exact nomark _)))))
    (pss_one (ps_ret pe_bl))
    pss_nil)))))
  (pss_one (ps_for PassesOwn.never rfl (kAny K rfl (pe_lst (pa_cons (pe_meth0 (pv 8) T.cl_Machine T.m_Machine_picture (ok_Machine_picture T) (hr.mono (by decide)) T.b_Machine_picture .nil pass0) (pa_cons (pe_meth0 (pv 9) T.cl_Machine T.m_Machine_picture (ok_Machine_picture T) (hr.mono (by decide)) T.b_Machine_picture .nil pass0) pa_nil)))) (pg_name (i := 15) sc_law.nd rfl (by first | exact Or.inl rfl | exact Or.inr rfl))
    (pss_one (ps_if (pt_cmpR (kNe K rfl hr.units) (pe_callE (ok_law_least T) (hr.mono (by decide)) T.o_law_least (pa_cons (pv 2) (pa_cons (pe_ix (kIx K) (pv 15) pe_int (fun _ _ => rfl)) (pa_cons (pe_ix (kIx K) (pv 15) pe_int (fun _ _ => rfl)) pa_nil)))) (pv 15) (by first | rfl | exact nomark _))
    (pss_one (ps_ret pe_bl))
    pss_nil))))))))))))
  (pss_one (ps_ret pe_bl))))), ?_⟩
    walk_at "rc"
    refine ⟨a, ns, 0, 6, rfl, hs, by decide, by decide, by decide, by decide, fun p H1 hp e1 S1 => ?_⟩
    walk_at "rc"
    refine ⟨p, 3, rfl, by decide, by decide, S1, fun ls H2 al d2 => ?_⟩
    have l0 := al.l0
    have l1 := al.l1
    have okl := al.ok
    have nd := al.nd
    have K2 : Keep T p ls [] [] [] H2 := Keep.nil d2.st (d2.tbs S1 (hT.ex e1))
    clear d2 S1 e1 hT hp
    walk_at "rc"
    walk_at "rs"
    walk_at "rc"
    refine ⟨(2 : Int), rfl, by decide, by decide, ?_⟩
    refine fo_range (n := 2) (fun i σ H' => ∃ k3 k4 k5 k6 k7 k8 k9 k10 k11 k12 k13 k14 : Option V, σ = [some (.ref a), some (.ref p), some (.str ls), k3, k4, k5, k6, k7, k8, k9, k10, none, k11, k12, k13, k14] ∧ Keep T p ls [] [] [] H') ⟨_, _, _, _, _, _, _, _, _, _, _, _, rfl, K2⟩ ?_ ?_
    · clear K2
      rintro i σ Hi hi ⟨k3, k4, k5, k6, k7, k8, k9, k10, k12, k13, k14, k15, rfl, Ki⟩
      walk_at "rc"
      refine ⟨p, ls, 4, [p], rfl, l0, by omega, by decide, by decide, Ki.s, List.mem_cons_self, st1 Ki.s.some.choose_spec, fun vp r Ha hvp gr sm fl da => ?_⟩
      have Ka := (Ki.dr da).addD hvp
      have bd := sm.bnd
      clear Ki da hvp
      walk_at "rc"
      refine ⟨p, ls, 4, [p], rfl, l0, by omega, by decide, by decide, Ka.s, List.mem_cons_self, st1 Ka.s.some.choose_spec, fun v acc tab Hb hv gm an hw db => ?_⟩
      have g : GMw ls acc tab := ⟨gm, hw⟩
      refine rd_gtD hid_ex hv rfl fun xs hxs => ?_
      obtain ⟨va, vt, rfl, hA, hT⟩ := dp2 hxs
      have Kb := ((Ka.dr db).addD hA).addD hT
      clear Ka db hv hxs hA hT
      have hvp := Kb.d (vp, partsL r) (by simp)
      walk_at "rc"
      refine rd_ixDT hid_ex hvp (i := 0) rfl fun vl hvl => ?_
      cases Dp.str_iff hvl
      walk_at "rc"
      refine rd_ixDT hid_ex hvp (i := 1) rfl fun vf hvf => ?_
      walk_at "rc"
      refine rd_ixDT hid_ex hvp (i := 2) rfl fun vt2 hvt2 => ?_
      walk_at "rc"
      intro x dx hx hdx ne
      have e2 := upd2_ex (C := T.C_Rewriter) hx hdx
      refine ⟨x, dx, vf, vt2, ls, r, _, rfl, by omega, bd, upd_same, .inl ((hvf.ex hid_ex).ex e2), .inl ((hvt2.ex hid_ex).ex e2), rowsD_L r.tab, fun _ Hc kc Rc => ⟨rfl, ?_⟩, fun g => absurd gr g⟩
      have ec := made_ex hx hdx ne kc
      have Kc := Kb.ex ec
      clear Kb kc ec hx hdx ne e2 hvp hvl hvf hvt2
      walk_at "rc"
      refine ⟨x, ls, r, rfl, Rc, gr, nd, l0, by omega, by omega, Kc.t, fun m1 as1 tb1 Hd kd Td Md gd Cd led lgd => ?_⟩
      have Rd := Rc.kpT Kc.t kd
      have Kd := (Kc.kp kd Td).addM Md
      clear Kc Rc kd Md Td
      have hA := Kd.d (va, .list (acc.map PyData.bool)) (by simp)
      have hTb := Kd.d (vt, nL tab) (by simp)
      walk_at "rc"
      intro x2 dx2 hx2 hdx2 ne2
      refine made_D T hx2 hdx2 ne2 l0 (by omega) (hA.ex hid_ex) (hTb.ex hid_ex) gm hw fun He ee Me => ⟨rfl, ?_⟩
      have Ke := Kd.ex ee
      have Re := Rd.ex ee
      clear Kd Rd ee hA hTb hx2 hdx2 ne2
      have nn : r.fin.length * acc.length ≤ 4 * 4 := Nat.mul_le_mul fl an
      walk_at "rc"
      refine ⟨x, x2, ls, r, acc, tab, rfl, ⟨Re, Me, gr, g, nd⟩, l0, by omega, by omega, Ke.t, fun m2 as2 tb2 Hf kf Tf Mf gf Cf lef lgf => ?_⟩
      have Kf := (Ke.kp kf Tf).addM Mf
      clear Ke Re Me kf Mf Tf
      walk_at "rc"
      refine rd_ife ?_
      walk_at "rc"
      refine rd_lenS (z := ls) (by omega) ?_
      walk_at "rc"
      refine rd_ite45 fun most hmost => ?_
      walk_at "rc"
      refine ⟨ls, most, 3, rfl, by omega, by decide, by decide, by omega, fun pt Hg eg hpt => ?_⟩
      obtain ⟨R, hR⟩ : ∃ R, rowsW ls.length most = R := ⟨_, rfl⟩
      have Rl : R.length ≤ 10000 := by
        rw [← hR]
        have h1 := len_rowsW (w := ls.length) (b := 3) (by omega) (by decide) most
        have h2 : (most + 1) * 3 ^ most ≤ 6 * 3 ^ 5 := Nat.mul_le_mul (by omega) (Nat.pow_le_pow_right (by decide) hmost)
        have h3 : 6 * 3 ^ 5 = 1458 := by decide
        omega
      have Rw : ∀ u ∈ R, Lw ls.length u ∧ u.length ≤ 40 := fun u hu => by
        rw [← hR] at hu
        have z := mem_rowsW.mp hu
        exact ⟨z.1, by have := z.2; omega⟩
      rw [hR] at hpt
      have npt : pt ≠ p := fun z => by
        obtain ⟨l, ns', pl, g1, _⟩ := Kf.s
        have g2 := eg _ _ g1
        rw [← z, hpt] at g2
        have g3 := HO.lst.inj (Option.some.inj g2)
        cases R with
        | nil => cases g3
        | cons r R => cases (List.cons.inj g3).1
      have Kg := (Kf.ex eg).addF hpt npt fun _ z => nomatch z
      clear Kf eg hpt
      walk_at "rc"
      refine ⟨(3 : Int), rfl, by decide, by decide, ?_⟩
      rw [show (3 : Int).toNat = 3 from rfl]
      refine lc_R (K := K) (S := [p]) (P := fun i x => x = V.int (i : Nat)) (tr_dr Kg.s List.mem_cons_self) (st1 Kg.s.some.choose_spec) walk_range0 rng_Y (by decide) (fun _ _ => True.intro) (fun i d => ∃ u : List Nat, d = .str (tx ls u) ∧ Lw ls.length u ∧ u.length ≤ 40) (hg_name fun v => rfl) (fun L i σ2 Hc hi p2 hL nL dc hs up N hN => ?_) fun L us Hh ds dh hL nL hus hds hlen hRd => ?_
      · obtain ⟨v, rfl, rfl⟩ := p2
        walk_at "rc"
        refine ⟨p, ls, rfl, l0, by omega, dc.st, fun u H' hu _ ul dj => ?_⟩
        exact hN _ _ _ dj (.str _) ⟨u, rfl, hu, ul⟩
      obtain ⟨R3, rfl, hR3⟩ := map_ofD (f := fun u => PyData.str (tx ls u)) ds hRd
      have es : R3.map (fun u => PyData.str (tx ls u)) = (R3.map (tx ls)).map PyData.str := by rw [List.map_map]; rfl
      rw [List.length_map] at hlen
      rw [es] at hds
      have eu := dp_strs hds
      subst eu
      have Kh := Kg.dr dh
      have hpt := (Kh.f (pt, .lst ((R.map (tx ls)).map V.str)) (by simp)).1
      clear Kg dh hds es hRd
      walk_at "rc"
      refine rd_cat hpt hus (by simp only [List.length_map]; omega) fun pl hpl => ?_
      have npl : pl ≠ p := fun z => by obtain ⟨ob, hob⟩ := Kh.s.some; rw [z, hob] at hpl; cases hpl
      have ej : Ex Hh (upd Hh pl (.lst ((R.map (tx ls)).map V.str ++ (R3.map (tx ls)).map V.str))) := Evl.Ex.new hpl
      have g6 : upd Hh pl (.lst ((R.map (tx ls)).map V.str ++ (R3.map (tx ls)).map V.str)) pl = some (.lst (((R ++ R3).map (tx ls)).map V.str)) := by rw [upd_same, List.map_append, List.map_append]
      generalize upd Hh pl (.lst ((R.map (tx ls)).map V.str ++ (R3.map (tx ls)).map V.str)) = Hj at ej g6
      obtain ⟨X, hX⟩ : ∃ X, R ++ R3 = X := ⟨_, rfl⟩
      have Xl : X.length < 100000 := by rw [← hX, List.length_append]; omega
      have Xw : ∀ u ∈ X, Lw ls.length u ∧ u.length ≤ 40 := fun u hu => by
        rw [← hX] at hu
        rcases List.mem_append.mp hu with z | z
        · exact Rw u z
        · exact hR3 u z
      rw [hX] at g6
      have Kj := (Kh.ex ej).addD ((txs_data (K := K) (by rw [hid_at fun z => npl (List.mem_singleton.mp z)]; exact g6) : Dp K (hid [p] Hj) (.ref pl) (txD ls X)))
      clear Kh ej hus hpt hpl npl hL nL Rw hR3 Rl hR hX npt g6
      walk_at "rc"
      walk_at "rs"
      walk_at "rc"
      have hM1 := (Kj.m (m1, as1, tb1) (by simp)).ex hid_ex
      have hM2 := (Kj.m (m2, as2, tb2) (by simp)).ex hid_ex
      have hTx := (Kj.d (.ref pl, txD ls X) (by simp)).ex hid_ex
      have hvp := (Kj.d (vp, partsL r) (by simp)).ex hid_ex
      have hva := (Kj.d (va, .list (acc.map PyData.bool)) (by simp)).ex hid_ex
      have hvt := (Kj.d (vt, nL tab) (by simp)).ex hid_ex
      refine rd_anySq (x := .ref pl) (fun Q q => ⟨_, rfl, q⟩) (Evl.Ex.refl Hj) (.inl hTx) fun J wJ => ?_
      refine fo_D wJ (fun j σ H' => ∃ k12 k13 k14 : Option V, σ = [some (.ref a), some (.ref p), some (.str ls), some (.int (i : Int)), some vp, some va, some vt, some (.ref x), some (.ref m1), some (.ref m2), some (.ref pl), none, k12, k13, k14, k15] ∧ Ex Hj H') ⟨_, _, _, rfl, Evl.Ex.refl _⟩ (fun j σ H' _ z => ?_) ?_ ?_
      · obtain ⟨_, _, _, _, z⟩ := z
        exact z
      · rintro j d v0 σ Hk hd hv0 ⟨k12, k13, k14, rfl, ek⟩
        rw [List.getElem?_map] at hd
        obtain ⟨u, hu, rfl⟩ := Option.map_eq_some_iff.mp hd
        cases Dp.str_iff hv0
        obtain ⟨uw, ul⟩ := Xw u (List.mem_of_getElem? hu)
        have hM1 := hM1.ex ek
        have hM2 := hM2.ex ek
        obtain ⟨dm1, _, _, hd1, _⟩ := id hM1
        obtain ⟨dm2, _, _, hd2, _⟩ := id hM2
        have hl1 := lgd u uw
        have hl2 := lgf u uw
        unfold imgB at hl2
        walk_at "rc"
        refine ⟨ls, tx ls u, vp, r, rfl, hvp.ex ek, gr, bd, tx_isT uw, by rw [tx_len]; omega, ?_⟩
        cases hrw : rwM ls r (tx ls u).cps.toList with
        | none =>
          rw [hrw] at hl1 hl2
          refine (show gName 13 V.non _ _ _ from ?_)
          have hl1 : as1.getD (rn tb1 0 u) false = false := hl1
          have hl2 : as2.getD (rn tb2 0 u) false = false := hl2
          walk_at "rc"
          refine rd_andV ?_
          walk_at "rc"
          refine rd_iteF ?_
          walk_at "rc"
          refine ⟨m1, dm1, _, rfl, hd1, rfl, ?_⟩
          walk_at "rc"
          refine ⟨m1, ls, as1, tb1, u, rfl, hM1, gd, nd, uw, ?_⟩
          rw [hl1]
          walk_at "rc"
          refine rd_reprB ?_
          walk_at "rc"
          refine rd_reprB ?_
          walk_at "rc"
          refine rd_iteN (fun z => absurd (by simp) z) (fun _ => ?_)
          walk_at "rc"
          refine ⟨m2, dm2, _, rfl, hd2, rfl, ?_⟩
          walk_at "rc"
          refine ⟨m2, ls, as2, tb2, u, rfl, hM2, gf, nd, uw, ?_⟩
          rw [hl2]
          walk_at "rc"
          refine rd_reprB ?_
          walk_at "rc"
          refine rd_reprB ?_
          walk_at "rc"
          refine rd_iteN (fun z => absurd rfl z) (fun _ => ?_)
          walk_at "rc"
          exact ⟨_, _, _, rfl, ek⟩
        | some z =>
          have hz : isT ls z := rw_isT gr bd (tx_isT uw) (by rw [tx_len]; omega) hrw
          rw [hrw] at hl1 hl2
          refine (show gName 13 (V.str z) _ _ _ from ?_)
          have hl1 : as1.getD (rn tb1 0 u) false = true := hl1
          have hl2 : as2.getD (rn tb2 0 u) false = acc.getD (rn tab 0 (wd ls z)) false := hl2
          walk_at "rc"
          refine rd_andV ?_
          walk_at "rc"
          refine rd_iteT ?_
          walk_at "rc"
          refine ⟨ls, va, vt, acc, tab, wd ls z, by rw [tx_wd hz], hva.ex ek, hvt.ex ek, g, nd, wd_lw hz, ?_⟩
          rw [accM_rn]
          walk_at "rc"
          refine ⟨m1, dm1, _, rfl, hd1, rfl, ?_⟩
          walk_at "rc"
          refine ⟨m1, ls, as1, tb1, u, rfl, hM1, gd, nd, uw, ?_⟩
          rw [hl1]
          walk_at "rc"
          refine rd_reprB ?_
          walk_at "rc"
          refine rd_reprB ?_
          walk_at "rc"
          refine rd_iteN (fun z => absurd (by simp) z) (fun _ => ?_)
          walk_at "rc"
          refine ⟨m2, dm2, _, rfl, hd2, rfl, ?_⟩
          walk_at "rc"
          refine ⟨m2, ls, as2, tb2, u, rfl, hM2, gf, nd, uw, ?_⟩
          rw [hl2]
          walk_at "rc"
          refine rd_reprB ?_
          walk_at "rc"
          refine rd_reprB ?_
          walk_at "rc"
          refine rd_iteN (fun z => absurd rfl z) (fun _ => ?_)
          walk_at "rc"
          exact ⟨_, _, _, rfl, ek⟩
      · clear wJ J
        rintro σ Hk ⟨k12, k13, k14, rfl, ek⟩
        have Kk := Kj.ex ek
        clear hM1 hM2 hTx hvp hva hvt Kj ek lgd lgf
        have hM1 := (Kk.m (m1, as1, tb1) (by simp)).ex hid_ex
        have hM2 := (Kk.m (m2, as2, tb2) (by simp)).ex hid_ex
        obtain ⟨dm1, _, _, hd1, _⟩ := id hM1
        obtain ⟨dm2, _, _, hd2, _⟩ := id hM2
        walk_at "rc"
        refine rd_anyL' ?_
        walk_at "rc"
        refine ⟨m1, dm1, _, rfl, hd1, rfl, ?_⟩
        walk_at "rc"
        refine ⟨m1, ls, as1, tb1, rfl, hM1, fun v1 Hl el hp1 => ?_⟩
        walk_at "rc"
        refine ⟨m2, dm2, _, rfl, el _ _ hd2, rfl, ?_⟩
        walk_at "rc"
        refine ⟨m2, ls, as2, tb2, rfl, hM2.ex el, fun v2 Hm em hp2 => ?_⟩
        walk_at "rc"
        refine ⟨by show 2 ≤ sizeLine; omega, fun lp hlp => ?_⟩
        have en : Ex Hm (upd Hm lp (.lst [v1, v2])) := Evl.Ex.new hlp
        have gm' : upd Hm lp (.lst [v1, v2]) lp = some (.lst [v1, v2]) := upd_same
        generalize upd Hm lp (.lst [v1, v2]) = Hn at en gm'
        have hp1 := hp1.ex (em.trans en)
        have hp2 := hp2.ex en
        have Kn := Kk.ex ((el.trans em).trans en)
        clear Kk hM1 hM2 hd1 hd2 hlp
        refine ⟨lp, rfl, ⟨_, SqL.of gm'⟩, ?_⟩
        refine fo_list (xs := [v1, v2]) (fun j σ H' => ∃ k15 : Option V, σ = [some (.ref a), some (.ref p), some (.str ls), some (.int (i : Int)), some vp, some va, some vt, some (.ref x), some (.ref m1), some (.ref m2), some (.ref pl), none, k12, k13, k14, k15] ∧ Ex Hn H') ⟨_, rfl, Evl.Ex.refl _⟩ (fun j σ H' _ z => ?_) ?_ ?_
        · obtain ⟨_, _, z⟩ := z
          exact SqL.of (z _ _ gm')
        · rintro j y σ Ho hj ⟨k15, rfl, eo⟩
          have key : ∃ as3 tb3, Dp K Hn y (picD ls as3 tb3) ∧ GMw ls as3 tb3 ∧ Cano ls.length as3 tb3 ∧ as3.length ≤ 100 := by
            match j, hj with
            | 0, hj => cases hj; exact ⟨as1, tb1, hp1, gd, Cd, by omega⟩
            | 1, hj => cases hj; exact ⟨as2, tb2, hp2, gf, Cf, by omega⟩
          obtain ⟨as3, tb3, hp3, g3, C3, le3⟩ := key
          walk_at "rc"
          refine rd_ixDT eo hp3 rfl fun vA hA => ?_
          walk_at "rc"
          refine rd_ixDT eo hp3 rfl fun vT hTt => ?_
          walk_at "rc"
          refine ⟨ls, vA, vT, as3, tb3, _, rfl, .inr (hA.ex eo), .inr (hTt.ex eo), rowsN_T tb3, C3.t, l0, by omega, le3, fun py a2 t2 Hq eq hpl C2 le2 lg2 => ?_⟩
          obtain ⟨rfl, rfl⟩ : a2 = as3 ∧ t2 = tb3 := C2.uniq C3 lg2
          walk_at "rc"
          refine rd_neD (Evl.Ex.refl Hq) (eo.trans eq) hpl hp3 (picD_ly okl) ?_
          refine ⟨_, rfl, rd_iteF ?_⟩
          walk_at "rc"
          exact ⟨_, rfl, eo.trans eq⟩
        · rintro σ Ho ⟨k15, rfl, eo⟩
          have Ko := (Kn.ex eo).less (vs' := []) (ms' := []) (fs' := []) (fun x hx => nomatch hx) (fun x hx => nomatch hx) (fun x hx => nomatch hx)
          walk_at "rc"
          exact ⟨_, _, _, _, _, _, _, _, _, _, _, _, rfl, Ko⟩
    · rintro σ Hi ⟨k3, k4, k5, k6, k7, k8, k9, k10, k11, k12, k13, k14, rfl, Ki⟩
      walk_at "rc"
      exact q Hi
end
end
theorem all_mk {l : PySem.W.OpenLaw} {w : World} {K : PySem.W.Frag} {h : Heap} {mg : Str → Option Value} {fa : Addr} (X : K.In h) (G : h.Ns mainGlobals mg) (hfa : mg "law" = some (.ref fa))
    {cc_before_image PP_before_image : Addr}
    {a__wall : Addr} {od__wall an__wall : Option Addr} {sl__wall : Array (Option Value)} {oc__wall kV__wall dc__wall pm__wall cd__wall ct__wall : Value}
    {a_block_numbers : Addr} {od_block_numbers an_block_numbers : Option Addr} {sl_block_numbers : Array (Option Value)} {oc_block_numbers kV_block_numbers dc_block_numbers pm_block_numbers cd_block_numbers ct_block_numbers : Value}
    {a_first_states : Addr} {od_first_states an_first_states : Option Addr} {sl_first_states : Array (Option Value)} {oc_first_states kV_first_states dc_first_states pm_first_states cd_first_states ct_first_states : Value}
    {a__blocks_of_kinds : Addr} {od__blocks_of_kinds an__blocks_of_kinds : Option Addr} {sl__blocks_of_kinds : Array (Option Value)} {oc__blocks_of_kinds kV__blocks_of_kinds dc__blocks_of_kinds pm__blocks_of_kinds cd__blocks_of_kinds ct__blocks_of_kinds : Value}
    {a_explored : Addr} {od_explored an_explored : Option Addr} {sl_explored : Array (Option Value)} {oc_explored kV_explored dc_explored pm_explored cd_explored ct_explored : Value}
    {a_ways_back : Addr} {od_ways_back an_ways_back : Option Addr} {sl_ways_back : Array (Option Value)} {oc_ways_back kV_ways_back dc_ways_back pm_ways_back cd_ways_back ct_ways_back : Value}
    {a_least_explored : Addr} {od_least_explored an_least_explored : Option Addr} {sl_least_explored : Array (Option Value)} {oc_least_explored kV_least_explored dc_least_explored pm_least_explored cd_least_explored ct_least_explored : Value}
    {a__merged : Addr} {od__merged an__merged : Option Addr} {sl__merged : Array (Option Value)} {oc__merged kV__merged dc__merged pm__merged cd__merged ct__merged : Value}
    {a_sources_by : Addr} {od_sources_by an_sources_by : Option Addr} {sl_sources_by : Array (Option Value)} {oc_sources_by kV_sources_by dc_sources_by pm_sources_by cd_sources_by ct_sources_by : Value}
    {a_domain : Addr} {od_domain an_domain : Option Addr} {sl_domain : Array (Option Value)} {oc_domain kV_domain dc_domain pm_domain cd_domain ct_domain : Value}
    {a_before_image : Addr} {od_before_image an_before_image : Option Addr} {sl_before_image : Array (Option Value)} {oc_before_image kV_before_image dc_before_image pm_before_image cd_before_image ct_before_image : Value}
    {a_is_text : Addr} {od_is_text an_is_text : Option Addr} {sl_is_text : Array (Option Value)} {oc_is_text kV_is_text dc_is_text pm_is_text cd_is_text ct_is_text : Value}
    {a_cell : Addr} {od_cell an_cell : Option Addr} {sl_cell : Array (Option Value)} {oc_cell kV_cell dc_cell pm_cell cd_cell ct_cell : Value}
    {a_numbers : Addr} {od_numbers an_numbers : Option Addr} {sl_numbers : Array (Option Value)} {oc_numbers kV_numbers dc_numbers pm_numbers cd_numbers ct_numbers : Value}
    {a_state : Addr} {od_state an_state : Option Addr} {sl_state : Array (Option Value)} {oc_state kV_state dc_state pm_state cd_state ct_state : Value}
    {a_next : Addr} {od_next an_next : Option Addr} {sl_next : Array (Option Value)} {oc_next kV_next dc_next pm_next cd_next ct_next : Value}
    {a_letters : Addr} {od_letters an_letters : Option Addr} {sl_letters : Array (Option Value)} {oc_letters kV_letters dc_letters pm_letters cd_letters ct_letters : Value}
    {a_texts : Addr} {od_texts an_texts : Option Addr} {sl_texts : Array (Option Value)} {oc_texts kV_texts dc_texts pm_texts cd_texts ct_texts : Value}
    {a_parts : Addr} {od_parts an_parts : Option Addr} {sl_parts : Array (Option Value)} {oc_parts kV_parts dc_parts pm_parts cd_parts ct_parts : Value}
    {a_accepts : Addr} {od_accepts an_accepts : Option Addr} {sl_accepts : Array (Option Value)} {oc_accepts kV_accepts dc_accepts pm_accepts cd_accepts ct_accepts : Value}
    {a_law_least : Addr} {od_law_least an_law_least : Option Addr} {sl_law_least : Array (Option Value)} {oc_law_least kV_law_least dc_law_least pm_law_least cd_law_least ct_law_least : Value}
    {a_word : Addr} {od_word an_word : Option Addr} {sl_word : Array (Option Value)} {oc_word kV_word dc_word pm_word cd_word ct_word : Value}
    {a_maker : Addr} {od_maker an_maker : Option Addr} {sl_maker : Array (Option Value)} {oc_maker kV_maker dc_maker pm_maker cd_maker ct_maker : Value}
    {a_rewrite : Addr} {od_rewrite an_rewrite : Option Addr} {sl_rewrite : Array (Option Value)} {oc_rewrite kV_rewrite dc_rewrite pm_rewrite cd_rewrite ct_rewrite : Value}
    {a_long_text : Addr} {od_long_text an_long_text : Option Addr} {sl_long_text : Array (Option Value)} {oc_long_text kV_long_text dc_long_text pm_long_text cd_long_text ct_long_text : Value}
    {a_law : Addr} {od_law an_law : Option Addr} {sl_law : Array (Option Value)} {oc_law kV_law dc_law pm_law cd_law ct_law : Value}
    {C_AnytextError C_MachineError C_BadMachine C_BadRewriter : Addr}
    {a_init T_init : Addr} {od_init an_init : Option Addr} {sl_init : Array (Option Value)} {oc_init kV_init dc_init pm_init cd_init ct_init : Value} {dd_init : Option Addr} {nn_init : Nat} {sm_init : Array (Option Value)} {oc2_init : Value}
    {nm_BadMachine q_BadMachine : Str} {N_BadMachine : Addr} {bs_BadMachine : List Value} {sn_BadMachine : List Str} {sb_BadMachine : List Value} {ab_BadMachine : Bool} {col_BadMachine : Option Bool} {dd_BadMachine : Option Addr} {m0_BadMachine m1_BadMachine m2_BadMachine m3_BadMachine m5_BadMachine : Option Value}
    {nm_BadRewriter q_BadRewriter : Str} {N_BadRewriter : Addr} {bs_BadRewriter : List Value} {sn_BadRewriter : List Str} {sb_BadRewriter : List Value} {ab_BadRewriter : Bool} {col_BadRewriter : Option Bool} {dd_BadRewriter : Option Addr} {m0_BadRewriter m1_BadRewriter m2_BadRewriter m3_BadRewriter m5_BadRewriter : Option Value}
    {C_Blocks : Addr}
    {a_Blocks_init : Addr} {od_Blocks_init an_Blocks_init : Option Addr} {sl_Blocks_init : Array (Option Value)} {oc_Blocks_init kV_Blocks_init dc_Blocks_init pm_Blocks_init cd_Blocks_init ct_Blocks_init : Value}
    {a_Blocks_states_in : Addr} {od_Blocks_states_in an_Blocks_states_in : Option Addr} {sl_Blocks_states_in : Array (Option Value)} {oc_Blocks_states_in kV_Blocks_states_in dc_Blocks_states_in pm_Blocks_states_in cd_Blocks_states_in ct_Blocks_states_in : Value}
    {a_Blocks_mark : Addr} {od_Blocks_mark an_Blocks_mark : Option Addr} {sl_Blocks_mark : Array (Option Value)} {oc_Blocks_mark kV_Blocks_mark dc_Blocks_mark pm_Blocks_mark cd_Blocks_mark ct_Blocks_mark : Value}
    {a_Blocks_cut : Addr} {od_Blocks_cut an_Blocks_cut : Option Addr} {sl_Blocks_cut : Array (Option Value)} {oc_Blocks_cut kV_Blocks_cut dc_Blocks_cut pm_Blocks_cut cd_Blocks_cut ct_Blocks_cut : Value}
    {a_Blocks_take_out : Addr} {od_Blocks_take_out an_Blocks_take_out : Option Addr} {sl_Blocks_take_out : Array (Option Value)} {oc_Blocks_take_out kV_Blocks_take_out dc_Blocks_take_out pm_Blocks_take_out cd_Blocks_take_out ct_Blocks_take_out : Value}
    {C_Machine : Addr}
    {a_Machine_init : Addr} {od_Machine_init an_Machine_init : Option Addr} {sl_Machine_init : Array (Option Value)} {oc_Machine_init kV_Machine_init dc_Machine_init pm_Machine_init cd_Machine_init ct_Machine_init : Value}
    {a_Machine_check : Addr} {od_Machine_check an_Machine_check : Option Addr} {sl_Machine_check : Array (Option Value)} {oc_Machine_check kV_Machine_check dc_Machine_check pm_Machine_check cd_Machine_check ct_Machine_check : Value}
    {a_Machine_run : Addr} {od_Machine_run an_Machine_run : Option Addr} {sl_Machine_run : Array (Option Value)} {oc_Machine_run kV_Machine_run dc_Machine_run pm_Machine_run cd_Machine_run ct_Machine_run : Value}
    {a_Machine_run_from : Addr} {od_Machine_run_from an_Machine_run_from : Option Addr} {sl_Machine_run_from : Array (Option Value)} {oc_Machine_run_from kV_Machine_run_from dc_Machine_run_from pm_Machine_run_from cd_Machine_run_from ct_Machine_run_from : Value}
    {a_Machine_accepts : Addr} {od_Machine_accepts an_Machine_accepts : Option Addr} {sl_Machine_accepts : Array (Option Value)} {oc_Machine_accepts kV_Machine_accepts dc_Machine_accepts pm_Machine_accepts cd_Machine_accepts ct_Machine_accepts : Value}
    {a_Machine_picture : Addr} {od_Machine_picture an_Machine_picture : Option Addr} {sl_Machine_picture : Array (Option Value)} {oc_Machine_picture kV_Machine_picture dc_Machine_picture pm_Machine_picture cd_Machine_picture ct_Machine_picture : Value}
    {C_Rewriter : Addr}
    {a_Rewriter_init : Addr} {od_Rewriter_init an_Rewriter_init : Option Addr} {sl_Rewriter_init : Array (Option Value)} {oc_Rewriter_init kV_Rewriter_init dc_Rewriter_init pm_Rewriter_init cd_Rewriter_init ct_Rewriter_init : Value}
    {a_Rewriter_check : Addr} {od_Rewriter_check an_Rewriter_check : Option Addr} {sl_Rewriter_check : Array (Option Value)} {oc_Rewriter_check kV_Rewriter_check dc_Rewriter_check pm_Rewriter_check cd_Rewriter_check ct_Rewriter_check : Value}
    {a_Rewriter_rewrite : Addr} {od_Rewriter_rewrite an_Rewriter_rewrite : Option Addr} {sl_Rewriter_rewrite : Array (Option Value)} {oc_Rewriter_rewrite kV_Rewriter_rewrite dc_Rewriter_rewrite pm_Rewriter_rewrite cd_Rewriter_rewrite ct_Rewriter_rewrite : Value}
    {a_Rewriter_rewrite_from : Addr} {od_Rewriter_rewrite_from an_Rewriter_rewrite_from : Option Addr} {sl_Rewriter_rewrite_from : Array (Option Value)} {oc_Rewriter_rewrite_from kV_Rewriter_rewrite_from dc_Rewriter_rewrite_from pm_Rewriter_rewrite_from cd_Rewriter_rewrite_from ct_Rewriter_rewrite_from : Value}
    {a_Rewriter_picture : Addr} {od_Rewriter_picture an_Rewriter_picture : Option Addr} {sl_Rewriter_picture : Array (Option Value)} {oc_Rewriter_picture kV_Rewriter_picture dc_Rewriter_picture pm_Rewriter_picture cd_Rewriter_picture ct_Rewriter_picture : Value}
    (n__wall : PySem.W.nsIn K mainGlobals "_wall" = some (some (.ref a__wall)))
    (l__wall : K.lookup a__wall = some ⟨oc__wall, od__wall, .func (PySem.W.fnOf "_wall" "_wall" (defArgs s__wall) (defBody s__wall) (defScope s__wall) .none kV__wall dc__wall pm__wall an__wall cd__wall ct__wall), sl__wall⟩)
    (c__wall : PySem.W.codeIn K cd__wall "_wall" = true)
    (k__wall : PySem.W.keepIn K (.ref a__wall) = true)
    (n_block_numbers : PySem.W.nsIn K mainGlobals "block_numbers" = some (some (.ref a_block_numbers)))
    (l_block_numbers : K.lookup a_block_numbers = some ⟨oc_block_numbers, od_block_numbers, .func (PySem.W.fnOf "block_numbers" "block_numbers" (defArgs s_block_numbers) (defBody s_block_numbers) (defScope s_block_numbers) .none kV_block_numbers dc_block_numbers pm_block_numbers an_block_numbers cd_block_numbers ct_block_numbers), sl_block_numbers⟩)
    (c_block_numbers : PySem.W.codeIn K cd_block_numbers "block_numbers" = true)
    (k_block_numbers : PySem.W.keepIn K (.ref a_block_numbers) = true)
    (n_first_states : PySem.W.nsIn K mainGlobals "first_states" = some (some (.ref a_first_states)))
    (l_first_states : K.lookup a_first_states = some ⟨oc_first_states, od_first_states, .func (PySem.W.fnOf "first_states" "first_states" (defArgs s_first_states) (defBody s_first_states) (defScope s_first_states) .none kV_first_states dc_first_states pm_first_states an_first_states cd_first_states ct_first_states), sl_first_states⟩)
    (c_first_states : PySem.W.codeIn K cd_first_states "first_states" = true)
    (k_first_states : PySem.W.keepIn K (.ref a_first_states) = true)
    (n__blocks_of_kinds : PySem.W.nsIn K mainGlobals "_blocks_of_kinds" = some (some (.ref a__blocks_of_kinds)))
    (l__blocks_of_kinds : K.lookup a__blocks_of_kinds = some ⟨oc__blocks_of_kinds, od__blocks_of_kinds, .func (PySem.W.fnOf "_blocks_of_kinds" "_blocks_of_kinds" (defArgs s__blocks_of_kinds) (defBody s__blocks_of_kinds) (defScope s__blocks_of_kinds) .none kV__blocks_of_kinds dc__blocks_of_kinds pm__blocks_of_kinds an__blocks_of_kinds cd__blocks_of_kinds ct__blocks_of_kinds), sl__blocks_of_kinds⟩)
    (c__blocks_of_kinds : PySem.W.codeIn K cd__blocks_of_kinds "_blocks_of_kinds" = true)
    (k__blocks_of_kinds : PySem.W.keepIn K (.ref a__blocks_of_kinds) = true)
    (n_explored : PySem.W.nsIn K mainGlobals "explored" = some (some (.ref a_explored)))
    (l_explored : K.lookup a_explored = some ⟨oc_explored, od_explored, .func (PySem.W.fnOf "explored" "explored" (defArgs s_explored) (defBody s_explored) (defScope s_explored) .none kV_explored dc_explored pm_explored an_explored cd_explored ct_explored), sl_explored⟩)
    (c_explored : PySem.W.codeIn K cd_explored "explored" = true)
    (k_explored : PySem.W.keepIn K (.ref a_explored) = true)
    (n_ways_back : PySem.W.nsIn K mainGlobals "ways_back" = some (some (.ref a_ways_back)))
    (l_ways_back : K.lookup a_ways_back = some ⟨oc_ways_back, od_ways_back, .func (PySem.W.fnOf "ways_back" "ways_back" (defArgs s_ways_back) (defBody s_ways_back) (defScope s_ways_back) .none kV_ways_back dc_ways_back pm_ways_back an_ways_back cd_ways_back ct_ways_back), sl_ways_back⟩)
    (c_ways_back : PySem.W.codeIn K cd_ways_back "ways_back" = true)
    (k_ways_back : PySem.W.keepIn K (.ref a_ways_back) = true)
    (n_least_explored : PySem.W.nsIn K mainGlobals "least_explored" = some (some (.ref a_least_explored)))
    (l_least_explored : K.lookup a_least_explored = some ⟨oc_least_explored, od_least_explored, .func (PySem.W.fnOf "least_explored" "least_explored" (defArgs s_least_explored) (defBody s_least_explored) (defScope s_least_explored) .none kV_least_explored dc_least_explored pm_least_explored an_least_explored cd_least_explored ct_least_explored), sl_least_explored⟩)
    (c_least_explored : PySem.W.codeIn K cd_least_explored "least_explored" = true)
    (k_least_explored : PySem.W.keepIn K (.ref a_least_explored) = true)
    (n__merged : PySem.W.nsIn K mainGlobals "_merged" = some (some (.ref a__merged)))
    (l__merged : K.lookup a__merged = some ⟨oc__merged, od__merged, .func (PySem.W.fnOf "_merged" "_merged" (defArgs s__merged) (defBody s__merged) (defScope s__merged) .none kV__merged dc__merged pm__merged an__merged cd__merged ct__merged), sl__merged⟩)
    (c__merged : PySem.W.codeIn K cd__merged "_merged" = true)
    (k__merged : PySem.W.keepIn K (.ref a__merged) = true)
    (n_sources_by : PySem.W.nsIn K mainGlobals "sources_by" = some (some (.ref a_sources_by)))
    (l_sources_by : K.lookup a_sources_by = some ⟨oc_sources_by, od_sources_by, .func (PySem.W.fnOf "sources_by" "sources_by" (defArgs s_sources_by) (defBody s_sources_by) (defScope s_sources_by) .none kV_sources_by dc_sources_by pm_sources_by an_sources_by cd_sources_by ct_sources_by), sl_sources_by⟩)
    (c_sources_by : PySem.W.codeIn K cd_sources_by "sources_by" = true)
    (k_sources_by : PySem.W.keepIn K (.ref a_sources_by) = true)
    (n_domain : PySem.W.nsIn K mainGlobals "domain" = some (some (.ref a_domain)))
    (l_domain : K.lookup a_domain = some ⟨oc_domain, od_domain, .func (PySem.W.fnOf "domain" "domain" (defArgs s_domain) (defBody s_domain) (defScope s_domain) .none kV_domain dc_domain pm_domain an_domain cd_domain ct_domain), sl_domain⟩)
    (c_domain : PySem.W.codeIn K cd_domain "domain" = true)
    (k_domain : PySem.W.keepIn K (.ref a_domain) = true)
    (n_before_image : PySem.W.nsIn K mainGlobals "before_image" = some (some (.ref a_before_image)))
    (l_before_image : K.lookup a_before_image = some ⟨oc_before_image, od_before_image, .func (PySem.W.fnOf "before_image" "before_image" (defArgs s_before_image) (defBody s_before_image) (defScope s_before_image) .none kV_before_image dc_before_image pm_before_image an_before_image cd_before_image ct_before_image), sl_before_image⟩)
    (c_before_image : PySem.W.codeIn K cd_before_image "before_image" = true)
    (k_before_image : PySem.W.keepIn K (.ref a_before_image) = true)
    (n_is_text : PySem.W.nsIn K mainGlobals "is_text" = some (some (.ref a_is_text)))
    (l_is_text : K.lookup a_is_text = some ⟨oc_is_text, od_is_text, .func (PySem.W.fnOf "is_text" "is_text" (defArgs s_is_text) (defBody s_is_text) (defScope s_is_text) .none kV_is_text dc_is_text pm_is_text an_is_text cd_is_text ct_is_text), sl_is_text⟩)
    (c_is_text : PySem.W.codeIn K cd_is_text "is_text" = true)
    (k_is_text : PySem.W.keepIn K (.ref a_is_text) = true)
    (n_cell : PySem.W.nsIn K mainGlobals "_law_cell" = some (some (.ref a_cell)))
    (l_cell : K.lookup a_cell = some ⟨oc_cell, od_cell, .func (PySem.W.fnOf "_law_cell" "_law_cell" (defArgs s_cell) (defBody s_cell) (defScope s_cell) .none kV_cell dc_cell pm_cell an_cell cd_cell ct_cell), sl_cell⟩)
    (c_cell : PySem.W.codeIn K cd_cell "_law_cell" = true)
    (k_cell : PySem.W.keepIn K (.ref a_cell) = true)
    (n_numbers : PySem.W.nsIn K mainGlobals "_law_numbers" = some (some (.ref a_numbers)))
    (l_numbers : K.lookup a_numbers = some ⟨oc_numbers, od_numbers, .func (PySem.W.fnOf "_law_numbers" "_law_numbers" (defArgs s_numbers) (defBody s_numbers) (defScope s_numbers) .none kV_numbers dc_numbers pm_numbers an_numbers cd_numbers ct_numbers), sl_numbers⟩)
    (c_numbers : PySem.W.codeIn K cd_numbers "_law_numbers" = true)
    (k_numbers : PySem.W.keepIn K (.ref a_numbers) = true)
    (n_state : PySem.W.nsIn K mainGlobals "_law_state" = some (some (.ref a_state)))
    (l_state : K.lookup a_state = some ⟨oc_state, od_state, .func (PySem.W.fnOf "_law_state" "_law_state" (defArgs s_state) (defBody s_state) (defScope s_state) .none kV_state dc_state pm_state an_state cd_state ct_state), sl_state⟩)
    (c_state : PySem.W.codeIn K cd_state "_law_state" = true)
    (k_state : PySem.W.keepIn K (.ref a_state) = true)
    (n_next : PySem.W.nsIn K mainGlobals "_law_next" = some (some (.ref a_next)))
    (l_next : K.lookup a_next = some ⟨oc_next, od_next, .func (PySem.W.fnOf "_law_next" "_law_next" (defArgs s_next) (defBody s_next) (defScope s_next) .none kV_next dc_next pm_next an_next cd_next ct_next), sl_next⟩)
    (c_next : PySem.W.codeIn K cd_next "_law_next" = true)
    (k_next : PySem.W.keepIn K (.ref a_next) = true)
    (n_letters : PySem.W.nsIn K mainGlobals "_law_letters" = some (some (.ref a_letters)))
    (l_letters : K.lookup a_letters = some ⟨oc_letters, od_letters, .func (PySem.W.fnOf "_law_letters" "_law_letters" (defArgs s_letters) (defBody s_letters) (defScope s_letters) .none kV_letters dc_letters pm_letters an_letters cd_letters ct_letters), sl_letters⟩)
    (c_letters : PySem.W.codeIn K cd_letters "_law_letters" = true)
    (k_letters : PySem.W.keepIn K (.ref a_letters) = true)
    (n_texts : PySem.W.nsIn K mainGlobals "_law_texts" = some (some (.ref a_texts)))
    (l_texts : K.lookup a_texts = some ⟨oc_texts, od_texts, .func (PySem.W.fnOf "_law_texts" "_law_texts" (defArgs s_texts) (defBody s_texts) (defScope s_texts) .none kV_texts dc_texts pm_texts an_texts cd_texts ct_texts), sl_texts⟩)
    (c_texts : PySem.W.codeIn K cd_texts "_law_texts" = true)
    (k_texts : PySem.W.keepIn K (.ref a_texts) = true)
    (n_parts : PySem.W.nsIn K mainGlobals "_law_parts" = some (some (.ref a_parts)))
    (l_parts : K.lookup a_parts = some ⟨oc_parts, od_parts, .func (PySem.W.fnOf "_law_parts" "_law_parts" (defArgs s_parts) (defBody s_parts) (defScope s_parts) .none kV_parts dc_parts pm_parts an_parts cd_parts ct_parts), sl_parts⟩)
    (c_parts : PySem.W.codeIn K cd_parts "_law_parts" = true)
    (k_parts : PySem.W.keepIn K (.ref a_parts) = true)
    (n_accepts : PySem.W.nsIn K mainGlobals "_law_accepts" = some (some (.ref a_accepts)))
    (l_accepts : K.lookup a_accepts = some ⟨oc_accepts, od_accepts, .func (PySem.W.fnOf "_law_accepts" "_law_accepts" (defArgs s_accepts) (defBody s_accepts) (defScope s_accepts) .none kV_accepts dc_accepts pm_accepts an_accepts cd_accepts ct_accepts), sl_accepts⟩)
    (c_accepts : PySem.W.codeIn K cd_accepts "_law_accepts" = true)
    (k_accepts : PySem.W.keepIn K (.ref a_accepts) = true)
    (n_law_least : PySem.W.nsIn K mainGlobals "_law_least" = some (some (.ref a_law_least)))
    (l_law_least : K.lookup a_law_least = some ⟨oc_law_least, od_law_least, .func (PySem.W.fnOf "_law_least" "_law_least" (defArgs s_law_least) (defBody s_law_least) (defScope s_law_least) .none kV_law_least dc_law_least pm_law_least an_law_least cd_law_least ct_law_least), sl_law_least⟩)
    (c_law_least : PySem.W.codeIn K cd_law_least "_law_least" = true)
    (k_law_least : PySem.W.keepIn K (.ref a_law_least) = true)
    (n_word : PySem.W.nsIn K mainGlobals "_law_word" = some (some (.ref a_word)))
    (l_word : K.lookup a_word = some ⟨oc_word, od_word, .func (PySem.W.fnOf "_law_word" "_law_word" (defArgs s_word) (defBody s_word) (defScope s_word) .none kV_word dc_word pm_word an_word cd_word ct_word), sl_word⟩)
    (c_word : PySem.W.codeIn K cd_word "_law_word" = true)
    (k_word : PySem.W.keepIn K (.ref a_word) = true)
    (n_maker : PySem.W.nsIn K mainGlobals "_law_maker" = some (some (.ref a_maker)))
    (l_maker : K.lookup a_maker = some ⟨oc_maker, od_maker, .func (PySem.W.fnOf "_law_maker" "_law_maker" (defArgs s_maker) (defBody s_maker) (defScope s_maker) .none kV_maker dc_maker pm_maker an_maker cd_maker ct_maker), sl_maker⟩)
    (c_maker : PySem.W.codeIn K cd_maker "_law_maker" = true)
    (k_maker : PySem.W.keepIn K (.ref a_maker) = true)
    (n_rewrite : PySem.W.nsIn K mainGlobals "_law_rewrite" = some (some (.ref a_rewrite)))
    (l_rewrite : K.lookup a_rewrite = some ⟨oc_rewrite, od_rewrite, .func (PySem.W.fnOf "_law_rewrite" "_law_rewrite" (defArgs s_rewrite) (defBody s_rewrite) (defScope s_rewrite) .none kV_rewrite dc_rewrite pm_rewrite an_rewrite cd_rewrite ct_rewrite), sl_rewrite⟩)
    (c_rewrite : PySem.W.codeIn K cd_rewrite "_law_rewrite" = true)
    (k_rewrite : PySem.W.keepIn K (.ref a_rewrite) = true)
    (n_long_text : PySem.W.nsIn K mainGlobals "_law_long_text" = some (some (.ref a_long_text)))
    (l_long_text : K.lookup a_long_text = some ⟨oc_long_text, od_long_text, .func (PySem.W.fnOf "_law_long_text" "_law_long_text" (defArgs s_long_text) (defBody s_long_text) (defScope s_long_text) .none kV_long_text dc_long_text pm_long_text an_long_text cd_long_text ct_long_text), sl_long_text⟩)
    (c_long_text : PySem.W.codeIn K cd_long_text "_law_long_text" = true)
    (k_long_text : PySem.W.keepIn K (.ref a_long_text) = true)
    (n_law : PySem.W.nsIn K mainGlobals "law" = some (some (.ref a_law)))
    (l_law : K.lookup a_law = some ⟨oc_law, od_law, .func (PySem.W.fnOf "law" "law" (defArgs s_law) (defBody s_law) (defScope s_law) .none kV_law dc_law pm_law an_law cd_law ct_law), sl_law⟩)
    (c_law : PySem.W.codeIn K cd_law "law" = true)
    (k_law : PySem.W.keepIn K (.ref a_law) = true)
    (n_AnytextError : PySem.W.nsIn K mainGlobals "AnytextError" = some (some (.ref C_AnytextError)))
    (n_MachineError : PySem.W.nsIn K mainGlobals "MachineError" = some (some (.ref C_MachineError)))
    (n_BadMachine : PySem.W.nsIn K mainGlobals "BadMachine" = some (some (.ref C_BadMachine)))
    (n_BadRewriter : PySem.W.nsIn K mainGlobals "BadRewriter" = some (some (.ref C_BadRewriter)))
    (ini_BadMachine : PySem.W.findIn K (.ref C_BadMachine) "__init__" = some (some (.ref a_init)))
    (l_init : K.lookup a_init = some ⟨oc_init, od_init, .func (PySem.W.fnOf "__init__" "AnytextError.__init__" (defArgs s_init) (defBody s_init) (defScope s_init) (.ref T_init) kV_init dc_init pm_init an_init cd_init ct_init), sl_init⟩)
    (c_init : PySem.W.codeIn K cd_init "AnytextError.__init__" = true)
    (k_init : PySem.W.keepIn K (.ref a_init) = true)
    (ti_init : PySem.W.typeIn K (.ref a_init) = some (.type "function"))
    (lt_init : K.lookup T_init = some ⟨oc2_init, dd_init, .seq #[.none] nn_init, sm_init⟩)
    (l_BadMachine : K.lookup C_BadMachine = some (excClassObj nm_BadMachine q_BadMachine C_BadMachine N_BadMachine bs_BadMachine [.ref C_MachineError, .ref C_AnytextError, .type "ValueError", .type "Exception", .type "BaseException", .type "object"] true sn_BadMachine sb_BadMachine ab_BadMachine col_BadMachine dd_BadMachine m0_BadMachine m1_BadMachine m2_BadMachine m3_BadMachine m5_BadMachine "ValueError.__new__"))
    (sa_BadMachine : PySem.W.findIn K (.ref C_BadMachine) "__setattr__" = some (some (.builtin "object.__setattr__")))
    (ga_BadMachine : PySem.W.findIn K (.ref C_BadMachine) "__getattribute__" = some (some (.builtin "BaseException.__getattribute__")))
    (gg_BadMachine : PySem.W.findIn K (.ref C_BadMachine) "__getattr__" = some none)
    (nw_BadMachine : PySem.W.findIn K (.ref C_BadMachine) "what" = some none)
    (cc_BadMachine : PySem.W.findIn K (.ref C_BadMachine) "__class__" = some (some (.builtin "object.__class__")))
    (mo_BadMachine : PySem.W.mroIn K C_BadMachine (.type "object") = some true)
    (se_BadMachine : PySem.W.subIn K (.ref C_BadMachine) (.ref C_BadMachine) = some true)
    (kC_BadMachine : PySem.W.keepIn K (.ref C_BadMachine) = true)
    (i_BadMachine : PySem.W.isClsIn K C_BadMachine = true)
    (t_BadMachine : PySem.W.typeIn K (.ref C_BadMachine) = some (.type "type"))
    (e_BadMachine : PySem.W.subIn K (.ref C_BadMachine) (.type "BaseException") = some true)
    (h_BadMachine : PySem.W.hasDictIn K C_BadMachine = true)
    (l_BadRewriter : K.lookup C_BadRewriter = some (excClassObj nm_BadRewriter q_BadRewriter C_BadRewriter N_BadRewriter bs_BadRewriter [.ref C_MachineError, .ref C_AnytextError, .type "ValueError", .type "Exception", .type "BaseException", .type "object"] true sn_BadRewriter sb_BadRewriter ab_BadRewriter col_BadRewriter dd_BadRewriter m0_BadRewriter m1_BadRewriter m2_BadRewriter m3_BadRewriter m5_BadRewriter "ValueError.__new__"))
    (sa_BadRewriter : PySem.W.findIn K (.ref C_BadRewriter) "__setattr__" = some (some (.builtin "object.__setattr__")))
    (ga_BadRewriter : PySem.W.findIn K (.ref C_BadRewriter) "__getattribute__" = some (some (.builtin "BaseException.__getattribute__")))
    (gg_BadRewriter : PySem.W.findIn K (.ref C_BadRewriter) "__getattr__" = some none)
    (nw_BadRewriter : PySem.W.findIn K (.ref C_BadRewriter) "what" = some none)
    (ini_BadRewriter : PySem.W.findIn K (.ref C_BadRewriter) "__init__" = some (some (.ref a_init)))
    (cc_BadRewriter : PySem.W.findIn K (.ref C_BadRewriter) "__class__" = some (some (.builtin "object.__class__")))
    (mo_BadRewriter : PySem.W.mroIn K C_BadRewriter (.type "object") = some true)
    (se_BadRewriter : PySem.W.subIn K (.ref C_BadRewriter) (.ref C_BadRewriter) = some true)
    (kC_BadRewriter : PySem.W.keepIn K (.ref C_BadRewriter) = true)
    (i_BadRewriter : PySem.W.isClsIn K C_BadRewriter = true)
    (t_BadRewriter : PySem.W.typeIn K (.ref C_BadRewriter) = some (.type "type"))
    (e_BadRewriter : PySem.W.subIn K (.ref C_BadRewriter) (.type "BaseException") = some true)
    (h_BadRewriter : PySem.W.hasDictIn K C_BadRewriter = true)
    (sp_B : PySem.W.specialIn K (.builtin "object.__class__") "__get__" = some (some (.builtin "getset_descriptor.__get__")))
    (tk_B : PySem.W.takesIn K (.builtin "object.__class__") = some true)
    (n_Blocks : PySem.W.nsIn K mainGlobals "Blocks" = some (some (.ref C_Blocks)))
    (pg_Blocks : PySem.W.plainGet K C_Blocks Str.empty = true)
    (hd_Blocks : PySem.W.hasDictIn K C_Blocks = true)
    (po_Blocks : PySem.W.plainOver K C_Blocks = true)
    (sa_Blocks : PySem.W.findIn K (.ref C_Blocks) "__setattr__" = some (some (.builtin "object.__setattr__")))
    (mk_Blocks : PySem.W.makesIn K C_Blocks = true)
    (kc_Blocks : PySem.W.keepIn K (.ref C_Blocks) = true)
    (na_Blocks_members : PySem.W.findIn K (.ref C_Blocks) "members" = some none)
    (na_Blocks_places : PySem.W.findIn K (.ref C_Blocks) "places" = some none)
    (na_Blocks_block_of : PySem.W.findIn K (.ref C_Blocks) "block_of" = some none)
    (na_Blocks_starts : PySem.W.findIn K (.ref C_Blocks) "starts" = some none)
    (na_Blocks_ends : PySem.W.findIn K (.ref C_Blocks) "ends" = some none)
    (na_Blocks_marks : PySem.W.findIn K (.ref C_Blocks) "marks" = some none)
    (na_Blocks_touched : PySem.W.findIn K (.ref C_Blocks) "touched" = some none)
    (i_Blocks_init : PySem.W.findIn K (.ref C_Blocks) "__init__" = some (some (.ref a_Blocks_init)))
    (q_Blocks_init : PySem.W.isFn K (.ref a_Blocks_init) = true)
    (l_Blocks_init : K.lookup a_Blocks_init = some ⟨oc_Blocks_init, od_Blocks_init, .func (PySem.W.fnOf "__init__" "Blocks.__init__" (defArgs s_Blocks_init) (defBody s_Blocks_init) (defScope s_Blocks_init) .none kV_Blocks_init dc_Blocks_init pm_Blocks_init an_Blocks_init cd_Blocks_init ct_Blocks_init), sl_Blocks_init⟩)
    (c_Blocks_init : PySem.W.codeIn K cd_Blocks_init "Blocks.__init__" = true)
    (k_Blocks_init : PySem.W.keepIn K (.ref a_Blocks_init) = true)
    (i_Blocks_states_in : PySem.W.findIn K (.ref C_Blocks) "states_in" = some (some (.ref a_Blocks_states_in)))
    (q_Blocks_states_in : PySem.W.isFn K (.ref a_Blocks_states_in) = true)
    (l_Blocks_states_in : K.lookup a_Blocks_states_in = some ⟨oc_Blocks_states_in, od_Blocks_states_in, .func (PySem.W.fnOf "states_in" "Blocks.states_in" (defArgs s_Blocks_states_in) (defBody s_Blocks_states_in) (defScope s_Blocks_states_in) .none kV_Blocks_states_in dc_Blocks_states_in pm_Blocks_states_in an_Blocks_states_in cd_Blocks_states_in ct_Blocks_states_in), sl_Blocks_states_in⟩)
    (c_Blocks_states_in : PySem.W.codeIn K cd_Blocks_states_in "Blocks.states_in" = true)
    (k_Blocks_states_in : PySem.W.keepIn K (.ref a_Blocks_states_in) = true)
    (i_Blocks_mark : PySem.W.findIn K (.ref C_Blocks) "mark" = some (some (.ref a_Blocks_mark)))
    (q_Blocks_mark : PySem.W.isFn K (.ref a_Blocks_mark) = true)
    (l_Blocks_mark : K.lookup a_Blocks_mark = some ⟨oc_Blocks_mark, od_Blocks_mark, .func (PySem.W.fnOf "mark" "Blocks.mark" (defArgs s_Blocks_mark) (defBody s_Blocks_mark) (defScope s_Blocks_mark) .none kV_Blocks_mark dc_Blocks_mark pm_Blocks_mark an_Blocks_mark cd_Blocks_mark ct_Blocks_mark), sl_Blocks_mark⟩)
    (c_Blocks_mark : PySem.W.codeIn K cd_Blocks_mark "Blocks.mark" = true)
    (k_Blocks_mark : PySem.W.keepIn K (.ref a_Blocks_mark) = true)
    (i_Blocks_cut : PySem.W.findIn K (.ref C_Blocks) "cut" = some (some (.ref a_Blocks_cut)))
    (q_Blocks_cut : PySem.W.isFn K (.ref a_Blocks_cut) = true)
    (l_Blocks_cut : K.lookup a_Blocks_cut = some ⟨oc_Blocks_cut, od_Blocks_cut, .func (PySem.W.fnOf "cut" "Blocks.cut" (defArgs s_Blocks_cut) (defBody s_Blocks_cut) (defScope s_Blocks_cut) .none kV_Blocks_cut dc_Blocks_cut pm_Blocks_cut an_Blocks_cut cd_Blocks_cut ct_Blocks_cut), sl_Blocks_cut⟩)
    (c_Blocks_cut : PySem.W.codeIn K cd_Blocks_cut "Blocks.cut" = true)
    (k_Blocks_cut : PySem.W.keepIn K (.ref a_Blocks_cut) = true)
    (i_Blocks_take_out : PySem.W.findIn K (.ref C_Blocks) "take_out" = some (some (.ref a_Blocks_take_out)))
    (q_Blocks_take_out : PySem.W.isFn K (.ref a_Blocks_take_out) = true)
    (l_Blocks_take_out : K.lookup a_Blocks_take_out = some ⟨oc_Blocks_take_out, od_Blocks_take_out, .func (PySem.W.fnOf "take_out" "Blocks.take_out" (defArgs s_Blocks_take_out) (defBody s_Blocks_take_out) (defScope s_Blocks_take_out) .none kV_Blocks_take_out dc_Blocks_take_out pm_Blocks_take_out an_Blocks_take_out cd_Blocks_take_out ct_Blocks_take_out), sl_Blocks_take_out⟩)
    (c_Blocks_take_out : PySem.W.codeIn K cd_Blocks_take_out "Blocks.take_out" = true)
    (k_Blocks_take_out : PySem.W.keepIn K (.ref a_Blocks_take_out) = true)
    (n_Machine : PySem.W.nsIn K mainGlobals "Machine" = some (some (.ref C_Machine)))
    (pg_Machine : PySem.W.plainGet K C_Machine Str.empty = true)
    (hd_Machine : PySem.W.hasDictIn K C_Machine = true)
    (po_Machine : PySem.W.plainOver K C_Machine = true)
    (sa_Machine : PySem.W.findIn K (.ref C_Machine) "__setattr__" = some (some (.builtin "object.__setattr__")))
    (mk_Machine : PySem.W.makesIn K C_Machine = true)
    (kc_Machine : PySem.W.keepIn K (.ref C_Machine) = true)
    (na_Machine_letters : PySem.W.findIn K (.ref C_Machine) "letters" = some none)
    (na_Machine_accepting : PySem.W.findIn K (.ref C_Machine) "accepting" = some none)
    (na_Machine_table : PySem.W.findIn K (.ref C_Machine) "table" = some none)
    (i_Machine_init : PySem.W.findIn K (.ref C_Machine) "__init__" = some (some (.ref a_Machine_init)))
    (q_Machine_init : PySem.W.isFn K (.ref a_Machine_init) = true)
    (l_Machine_init : K.lookup a_Machine_init = some ⟨oc_Machine_init, od_Machine_init, .func (PySem.W.fnOf "__init__" "Machine.__init__" (defArgs s_Machine_init) (defBody s_Machine_init) (defScope s_Machine_init) .none kV_Machine_init dc_Machine_init pm_Machine_init an_Machine_init cd_Machine_init ct_Machine_init), sl_Machine_init⟩)
    (c_Machine_init : PySem.W.codeIn K cd_Machine_init "Machine.__init__" = true)
    (k_Machine_init : PySem.W.keepIn K (.ref a_Machine_init) = true)
    (i_Machine_check : PySem.W.findIn K (.ref C_Machine) "check" = some (some (.ref a_Machine_check)))
    (q_Machine_check : PySem.W.isFn K (.ref a_Machine_check) = true)
    (l_Machine_check : K.lookup a_Machine_check = some ⟨oc_Machine_check, od_Machine_check, .func (PySem.W.fnOf "check" "Machine.check" (defArgs s_Machine_check) (defBody s_Machine_check) (defScope s_Machine_check) .none kV_Machine_check dc_Machine_check pm_Machine_check an_Machine_check cd_Machine_check ct_Machine_check), sl_Machine_check⟩)
    (c_Machine_check : PySem.W.codeIn K cd_Machine_check "Machine.check" = true)
    (k_Machine_check : PySem.W.keepIn K (.ref a_Machine_check) = true)
    (i_Machine_run : PySem.W.findIn K (.ref C_Machine) "run" = some (some (.ref a_Machine_run)))
    (q_Machine_run : PySem.W.isFn K (.ref a_Machine_run) = true)
    (l_Machine_run : K.lookup a_Machine_run = some ⟨oc_Machine_run, od_Machine_run, .func (PySem.W.fnOf "run" "Machine.run" (defArgs s_Machine_run) (defBody s_Machine_run) (defScope s_Machine_run) .none kV_Machine_run dc_Machine_run pm_Machine_run an_Machine_run cd_Machine_run ct_Machine_run), sl_Machine_run⟩)
    (c_Machine_run : PySem.W.codeIn K cd_Machine_run "Machine.run" = true)
    (k_Machine_run : PySem.W.keepIn K (.ref a_Machine_run) = true)
    (i_Machine_run_from : PySem.W.findIn K (.ref C_Machine) "run_from" = some (some (.ref a_Machine_run_from)))
    (q_Machine_run_from : PySem.W.isFn K (.ref a_Machine_run_from) = true)
    (l_Machine_run_from : K.lookup a_Machine_run_from = some ⟨oc_Machine_run_from, od_Machine_run_from, .func (PySem.W.fnOf "run_from" "Machine.run_from" (defArgs s_Machine_run_from) (defBody s_Machine_run_from) (defScope s_Machine_run_from) .none kV_Machine_run_from dc_Machine_run_from pm_Machine_run_from an_Machine_run_from cd_Machine_run_from ct_Machine_run_from), sl_Machine_run_from⟩)
    (c_Machine_run_from : PySem.W.codeIn K cd_Machine_run_from "Machine.run_from" = true)
    (k_Machine_run_from : PySem.W.keepIn K (.ref a_Machine_run_from) = true)
    (i_Machine_accepts : PySem.W.findIn K (.ref C_Machine) "accepts" = some (some (.ref a_Machine_accepts)))
    (q_Machine_accepts : PySem.W.isFn K (.ref a_Machine_accepts) = true)
    (l_Machine_accepts : K.lookup a_Machine_accepts = some ⟨oc_Machine_accepts, od_Machine_accepts, .func (PySem.W.fnOf "accepts" "Machine.accepts" (defArgs s_Machine_accepts) (defBody s_Machine_accepts) (defScope s_Machine_accepts) .none kV_Machine_accepts dc_Machine_accepts pm_Machine_accepts an_Machine_accepts cd_Machine_accepts ct_Machine_accepts), sl_Machine_accepts⟩)
    (c_Machine_accepts : PySem.W.codeIn K cd_Machine_accepts "Machine.accepts" = true)
    (k_Machine_accepts : PySem.W.keepIn K (.ref a_Machine_accepts) = true)
    (i_Machine_picture : PySem.W.findIn K (.ref C_Machine) "picture" = some (some (.ref a_Machine_picture)))
    (q_Machine_picture : PySem.W.isFn K (.ref a_Machine_picture) = true)
    (l_Machine_picture : K.lookup a_Machine_picture = some ⟨oc_Machine_picture, od_Machine_picture, .func (PySem.W.fnOf "picture" "Machine.picture" (defArgs s_Machine_picture) (defBody s_Machine_picture) (defScope s_Machine_picture) .none kV_Machine_picture dc_Machine_picture pm_Machine_picture an_Machine_picture cd_Machine_picture ct_Machine_picture), sl_Machine_picture⟩)
    (c_Machine_picture : PySem.W.codeIn K cd_Machine_picture "Machine.picture" = true)
    (k_Machine_picture : PySem.W.keepIn K (.ref a_Machine_picture) = true)
    (n_Rewriter : PySem.W.nsIn K mainGlobals "Rewriter" = some (some (.ref C_Rewriter)))
    (pg_Rewriter : PySem.W.plainGet K C_Rewriter Str.empty = true)
    (hd_Rewriter : PySem.W.hasDictIn K C_Rewriter = true)
    (po_Rewriter : PySem.W.plainOver K C_Rewriter = true)
    (sa_Rewriter : PySem.W.findIn K (.ref C_Rewriter) "__setattr__" = some (some (.builtin "object.__setattr__")))
    (mk_Rewriter : PySem.W.makesIn K C_Rewriter = true)
    (kc_Rewriter : PySem.W.keepIn K (.ref C_Rewriter) = true)
    (na_Rewriter_letters : PySem.W.findIn K (.ref C_Rewriter) "letters" = some none)
    (na_Rewriter_lead : PySem.W.findIn K (.ref C_Rewriter) "lead" = some none)
    (na_Rewriter_finals : PySem.W.findIn K (.ref C_Rewriter) "finals" = some none)
    (na_Rewriter_table : PySem.W.findIn K (.ref C_Rewriter) "table" = some none)
    (i_Rewriter_init : PySem.W.findIn K (.ref C_Rewriter) "__init__" = some (some (.ref a_Rewriter_init)))
    (q_Rewriter_init : PySem.W.isFn K (.ref a_Rewriter_init) = true)
    (l_Rewriter_init : K.lookup a_Rewriter_init = some ⟨oc_Rewriter_init, od_Rewriter_init, .func (PySem.W.fnOf "__init__" "Rewriter.__init__" (defArgs s_Rewriter_init) (defBody s_Rewriter_init) (defScope s_Rewriter_init) .none kV_Rewriter_init dc_Rewriter_init pm_Rewriter_init an_Rewriter_init cd_Rewriter_init ct_Rewriter_init), sl_Rewriter_init⟩)
    (c_Rewriter_init : PySem.W.codeIn K cd_Rewriter_init "Rewriter.__init__" = true)
    (k_Rewriter_init : PySem.W.keepIn K (.ref a_Rewriter_init) = true)
    (i_Rewriter_check : PySem.W.findIn K (.ref C_Rewriter) "check" = some (some (.ref a_Rewriter_check)))
    (q_Rewriter_check : PySem.W.isFn K (.ref a_Rewriter_check) = true)
    (l_Rewriter_check : K.lookup a_Rewriter_check = some ⟨oc_Rewriter_check, od_Rewriter_check, .func (PySem.W.fnOf "check" "Rewriter.check" (defArgs s_Rewriter_check) (defBody s_Rewriter_check) (defScope s_Rewriter_check) .none kV_Rewriter_check dc_Rewriter_check pm_Rewriter_check an_Rewriter_check cd_Rewriter_check ct_Rewriter_check), sl_Rewriter_check⟩)
    (c_Rewriter_check : PySem.W.codeIn K cd_Rewriter_check "Rewriter.check" = true)
    (k_Rewriter_check : PySem.W.keepIn K (.ref a_Rewriter_check) = true)
    (i_Rewriter_rewrite : PySem.W.findIn K (.ref C_Rewriter) "rewrite" = some (some (.ref a_Rewriter_rewrite)))
    (q_Rewriter_rewrite : PySem.W.isFn K (.ref a_Rewriter_rewrite) = true)
    (l_Rewriter_rewrite : K.lookup a_Rewriter_rewrite = some ⟨oc_Rewriter_rewrite, od_Rewriter_rewrite, .func (PySem.W.fnOf "rewrite" "Rewriter.rewrite" (defArgs s_Rewriter_rewrite) (defBody s_Rewriter_rewrite) (defScope s_Rewriter_rewrite) .none kV_Rewriter_rewrite dc_Rewriter_rewrite pm_Rewriter_rewrite an_Rewriter_rewrite cd_Rewriter_rewrite ct_Rewriter_rewrite), sl_Rewriter_rewrite⟩)
    (c_Rewriter_rewrite : PySem.W.codeIn K cd_Rewriter_rewrite "Rewriter.rewrite" = true)
    (k_Rewriter_rewrite : PySem.W.keepIn K (.ref a_Rewriter_rewrite) = true)
    (i_Rewriter_rewrite_from : PySem.W.findIn K (.ref C_Rewriter) "rewrite_from" = some (some (.ref a_Rewriter_rewrite_from)))
    (q_Rewriter_rewrite_from : PySem.W.isFn K (.ref a_Rewriter_rewrite_from) = true)
    (l_Rewriter_rewrite_from : K.lookup a_Rewriter_rewrite_from = some ⟨oc_Rewriter_rewrite_from, od_Rewriter_rewrite_from, .func (PySem.W.fnOf "rewrite_from" "Rewriter.rewrite_from" (defArgs s_Rewriter_rewrite_from) (defBody s_Rewriter_rewrite_from) (defScope s_Rewriter_rewrite_from) .none kV_Rewriter_rewrite_from dc_Rewriter_rewrite_from pm_Rewriter_rewrite_from an_Rewriter_rewrite_from cd_Rewriter_rewrite_from ct_Rewriter_rewrite_from), sl_Rewriter_rewrite_from⟩)
    (c_Rewriter_rewrite_from : PySem.W.codeIn K cd_Rewriter_rewrite_from "Rewriter.rewrite_from" = true)
    (k_Rewriter_rewrite_from : PySem.W.keepIn K (.ref a_Rewriter_rewrite_from) = true)
    (i_Rewriter_picture : PySem.W.findIn K (.ref C_Rewriter) "picture" = some (some (.ref a_Rewriter_picture)))
    (q_Rewriter_picture : PySem.W.isFn K (.ref a_Rewriter_picture) = true)
    (l_Rewriter_picture : K.lookup a_Rewriter_picture = some ⟨oc_Rewriter_picture, od_Rewriter_picture, .func (PySem.W.fnOf "picture" "Rewriter.picture" (defArgs s_Rewriter_picture) (defBody s_Rewriter_picture) (defScope s_Rewriter_picture) .none kV_Rewriter_picture dc_Rewriter_picture pm_Rewriter_picture an_Rewriter_picture cd_Rewriter_picture ct_Rewriter_picture), sl_Rewriter_picture⟩)
    (c_Rewriter_picture : PySem.W.codeIn K cd_Rewriter_picture "Rewriter.picture" = true)
    (k_Rewriter_picture : PySem.W.keepIn K (.ref a_Rewriter_picture) = true)
    (z_abs : PySem.W.nsIn K mainGlobals "abs" = some none)
    (z_all : PySem.W.nsIn K mainGlobals "all" = some none)
    (z_enumerate : PySem.W.nsIn K mainGlobals "enumerate" = some none)
    (z_int : PySem.W.nsIn K mainGlobals "int" = some none)
    (z_len : PySem.W.nsIn K mainGlobals "len" = some none)
    (z_list : PySem.W.nsIn K mainGlobals "list" = some none)
    (z_max : PySem.W.nsIn K mainGlobals "max" = some none)
    (z_min : PySem.W.nsIn K mainGlobals "min" = some none)
    (z_range : PySem.W.nsIn K mainGlobals "range" = some none)
    (z_repr : PySem.W.nsIn K mainGlobals "repr" = some none)
    (z_tuple : PySem.W.nsIn K mainGlobals "tuple" = some none)
    (ec_before_image : cd_before_image = .ref cc_before_image)
    (hdt_before_image : PySem.W.codeHdIn K cc_before_image PP_before_image = true)
    (nt_before_image : K.lookup PP_before_image = none)
    (ht_before_image : h.get? PP_before_image = some (PySem.W.tabObj #[]))
    : LamX.LawAtS l w K L2.CX0 lvLaw 63 "script" mg fa h := by
  have e := hfa.symm.trans (PySem.W.mg_of X G n_law)
  cases e
  have f__wall := fun_mk (st := s__wall) l__wall c__wall k__wall
  have b__wall := f__wall.binds (ps := ["k"]) fun _ _ _ _ _ _ us hl => match us, hl with | [_], _ => rfl
  have f_block_numbers := fun_mk (st := s_block_numbers) l_block_numbers c_block_numbers k_block_numbers
  have b_block_numbers := f_block_numbers.binds (ps := ["kinds", "sources"]) fun _ _ _ _ _ _ us hl => match us, hl with | [_, _], _ => rfl
  have f_first_states := fun_mk (st := s_first_states) l_first_states c_first_states k_first_states
  have b_first_states := f_first_states.binds (ps := ["numbers"]) fun _ _ _ _ _ _ us hl => match us, hl with | [_], _ => rfl
  have f__blocks_of_kinds := fun_mk (st := s__blocks_of_kinds) l__blocks_of_kinds c__blocks_of_kinds k__blocks_of_kinds
  have b__blocks_of_kinds := f__blocks_of_kinds.binds (ps := ["kinds"]) fun _ _ _ _ _ _ us hl => match us, hl with | [_], _ => rfl
  have f_explored := fun_mk (st := s_explored) l_explored c_explored k_explored
  have b_explored := f_explored.binds (ps := ["letters", "start", "step", "accepts"]) fun _ _ _ _ _ _ us hl => match us, hl with | [_, _, _, _], _ => rfl
  have f_ways_back := fun_mk (st := s_ways_back) l_ways_back c_ways_back k_ways_back
  have b_ways_back := f_ways_back.binds (ps := ["nexts"]) fun _ _ _ _ _ _ us hl => match us, hl with | [_], _ => rfl
  have f_least_explored := fun_mk (st := s_least_explored) l_least_explored c_least_explored k_least_explored
  have b_least_explored := f_least_explored.binds (ps := ["letters", "start", "step", "accepts"]) fun _ _ _ _ _ _ us hl => match us, hl with | [_, _, _, _], _ => rfl
  have f__merged := fun_mk (st := s__merged) l__merged c__merged k__merged
  have b__merged := f__merged.binds (ps := ["machine"]) fun _ _ _ _ _ _ us hl => match us, hl with | [_], _ => rfl
  have f_sources_by := fun_mk (st := s_sources_by) l_sources_by c_sources_by k_sources_by
  have b_sources_by := f_sources_by.binds (ps := ["machine", "index"]) fun _ _ _ _ _ _ us hl => match us, hl with | [_, _], _ => rfl
  have f_domain := fun_mk (st := s_domain) l_domain c_domain k_domain
  have b_domain := f_domain.binds (ps := ["rewriter"]) fun _ _ _ _ _ _ us hl => match us, hl with | [_], _ => rfl
  have f_before_image := fun_mk (st := s_before_image) l_before_image c_before_image k_before_image
  have b_before_image := f_before_image.binds (ps := ["rewriter", "machine"]) fun _ _ _ _ _ _ us hl => match us, hl with | [_, _], _ => rfl
  have f_is_text := fun_mk (st := s_is_text) l_is_text c_is_text k_is_text
  have b_is_text := f_is_text.binds (ps := ["letters", "text"]) fun _ _ _ _ _ _ us hl => match us, hl with | [_, _], _ => rfl
  have f_cell := fun_mk (st := s_cell) l_cell c_cell k_cell
  have b_cell := f_cell.binds (ps := ["script", "k"]) fun _ _ _ _ _ _ us hl => match us, hl with | [_, _], _ => rfl
  have f_numbers := fun_mk (st := s_numbers) l_numbers c_numbers k_numbers
  have b_numbers := f_numbers.binds (ps := ["cell", "many"]) fun _ _ _ _ _ _ us hl => match us, hl with | [_, _], _ => rfl
  have f_state := fun_mk (st := s_state) l_state c_state k_state
  have b_state := f_state.binds (ps := ["script", "start", "many"]) fun _ _ _ _ _ _ us hl => match us, hl with | [_, _, _], _ => rfl
  have f_next := fun_mk (st := s_next) l_next c_next k_next
  have b_next := f_next.binds (ps := ["state", "many"]) fun _ _ _ _ _ _ us hl => match us, hl with | [_, _], _ => rfl
  have f_letters := fun_mk (st := s_letters) l_letters c_letters k_letters
  have b_letters := f_letters.binds (ps := ["state", "most"]) fun _ _ _ _ _ _ us hl => match us, hl with | [_, _], _ => rfl
  have f_texts := fun_mk (st := s_texts) l_texts c_texts k_texts
  have b_texts := f_texts.binds (ps := ["letters", "most"]) fun _ _ _ _ _ _ us hl => match us, hl with | [_, _], _ => rfl
  have f_parts := fun_mk (st := s_parts) l_parts c_parts k_parts
  have b_parts := f_parts.binds (ps := ["letters", "state", "most"]) fun _ _ _ _ _ _ us hl => match us, hl with | [_, _, _], _ => rfl
  have f_accepts := fun_mk (st := s_accepts) l_accepts c_accepts k_accepts
  have b_accepts := f_accepts.binds (ps := ["letters", "accepting", "table", "text"]) fun _ _ _ _ _ _ us hl => match us, hl with | [_, _, _, _], _ => rfl
  have f_law_least := fun_mk (st := s_law_least) l_law_least c_law_least k_law_least
  have b_law_least := f_law_least.binds (ps := ["letters", "accepting", "table"]) fun _ _ _ _ _ _ us hl => match us, hl with | [_, _, _], _ => rfl
  have f_word := fun_mk (st := s_word) l_word c_word k_word
  have b_word := f_word.binds (ps := ["letters", "state", "most"]) fun _ _ _ _ _ _ us hl => match us, hl with | [_, _, _], _ => rfl
  have f_maker := fun_mk (st := s_maker) l_maker c_maker k_maker
  have b_maker := f_maker.binds (ps := ["letters", "state", "most"]) fun _ _ _ _ _ _ us hl => match us, hl with | [_, _, _], _ => rfl
  have f_rewrite := fun_mk (st := s_rewrite) l_rewrite c_rewrite k_rewrite
  have b_rewrite := f_rewrite.binds (ps := ["letters", "parts", "text"]) fun _ _ _ _ _ _ us hl => match us, hl with | [_, _, _], _ => rfl
  have f_long_text := fun_mk (st := s_long_text) l_long_text c_long_text k_long_text
  have b_long_text := f_long_text.binds (ps := ["letters", "state"]) fun _ _ _ _ _ _ us hl => match us, hl with | [_, _], _ => rfl
  have f_law := fun_mk (st := s_law) l_law c_law k_law
  have b_law := f_law.binds (ps := ["script"]) fun _ _ _ _ _ _ us hl => match us, hl with | [_], _ => rfl
  have f_Blocks_init := fun_mk (st := s_Blocks_init) l_Blocks_init c_Blocks_init k_Blocks_init
  have b_Blocks_init := f_Blocks_init.binds (ps := ["self", "many"]) fun _ _ _ _ _ _ us hl => match us, hl with | [_, _], _ => rfl
  have f_Blocks_states_in := fun_mk (st := s_Blocks_states_in) l_Blocks_states_in c_Blocks_states_in k_Blocks_states_in
  have b_Blocks_states_in := f_Blocks_states_in.binds (ps := ["self", "block"]) fun _ _ _ _ _ _ us hl => match us, hl with | [_, _], _ => rfl
  have f_Blocks_mark := fun_mk (st := s_Blocks_mark) l_Blocks_mark c_Blocks_mark k_Blocks_mark
  have b_Blocks_mark := f_Blocks_mark.binds (ps := ["self", "state"]) fun _ _ _ _ _ _ us hl => match us, hl with | [_, _], _ => rfl
  have f_Blocks_cut := fun_mk (st := s_Blocks_cut) l_Blocks_cut c_Blocks_cut k_Blocks_cut
  have b_Blocks_cut := f_Blocks_cut.binds (ps := ["self"]) fun _ _ _ _ _ _ us hl => match us, hl with | [_], _ => rfl
  have f_Blocks_take_out := fun_mk (st := s_Blocks_take_out) l_Blocks_take_out c_Blocks_take_out k_Blocks_take_out
  have b_Blocks_take_out := f_Blocks_take_out.binds (ps := ["self", "start", "end"]) fun _ _ _ _ _ _ us hl => match us, hl with | [_, _, _], _ => rfl
  have f_Machine_init := fun_mk (st := s_Machine_init) l_Machine_init c_Machine_init k_Machine_init
  have b_Machine_init := f_Machine_init.binds (ps := ["self", "letters", "accepting", "table"]) fun _ _ _ _ _ _ us hl => match us, hl with | [_, _, _, _], _ => rfl
  have f_Machine_check := fun_mk (st := s_Machine_check) l_Machine_check c_Machine_check k_Machine_check
  have b_Machine_check := f_Machine_check.binds (ps := ["self"]) fun _ _ _ _ _ _ us hl => match us, hl with | [_], _ => rfl
  have f_Machine_run := fun_mk (st := s_Machine_run) l_Machine_run c_Machine_run k_Machine_run
  have b_Machine_run := f_Machine_run.binds (ps := ["self", "text"]) fun _ _ _ _ _ _ us hl => match us, hl with | [_, _], _ => rfl
  have f_Machine_run_from := fun_mk (st := s_Machine_run_from) l_Machine_run_from c_Machine_run_from k_Machine_run_from
  have b_Machine_run_from := f_Machine_run_from.binds (ps := ["self", "state", "text"]) fun _ _ _ _ _ _ us hl => match us, hl with | [_, _, _], _ => rfl
  have f_Machine_accepts := fun_mk (st := s_Machine_accepts) l_Machine_accepts c_Machine_accepts k_Machine_accepts
  have b_Machine_accepts := f_Machine_accepts.binds (ps := ["self", "text"]) fun _ _ _ _ _ _ us hl => match us, hl with | [_, _], _ => rfl
  have f_Machine_picture := fun_mk (st := s_Machine_picture) l_Machine_picture c_Machine_picture k_Machine_picture
  have b_Machine_picture := f_Machine_picture.binds (ps := ["self"]) fun _ _ _ _ _ _ us hl => match us, hl with | [_], _ => rfl
  have f_Rewriter_init := fun_mk (st := s_Rewriter_init) l_Rewriter_init c_Rewriter_init k_Rewriter_init
  have b_Rewriter_init := f_Rewriter_init.binds (ps := ["self", "letters", "lead", "finals", "table"]) fun _ _ _ _ _ _ us hl => match us, hl with | [_, _, _, _, _], _ => rfl
  have f_Rewriter_check := fun_mk (st := s_Rewriter_check) l_Rewriter_check c_Rewriter_check k_Rewriter_check
  have b_Rewriter_check := f_Rewriter_check.binds (ps := ["self"]) fun _ _ _ _ _ _ us hl => match us, hl with | [_], _ => rfl
  have f_Rewriter_rewrite := fun_mk (st := s_Rewriter_rewrite) l_Rewriter_rewrite c_Rewriter_rewrite k_Rewriter_rewrite
  have b_Rewriter_rewrite := f_Rewriter_rewrite.binds (ps := ["self", "text"]) fun _ _ _ _ _ _ us hl => match us, hl with | [_, _], _ => rfl
  have f_Rewriter_rewrite_from := fun_mk (st := s_Rewriter_rewrite_from) l_Rewriter_rewrite_from c_Rewriter_rewrite_from k_Rewriter_rewrite_from
  have b_Rewriter_rewrite_from := f_Rewriter_rewrite_from.binds (ps := ["self", "state", "text"]) fun _ _ _ _ _ _ us hl => match us, hl with | [_, _, _], _ => rfl
  have f_Rewriter_picture := fun_mk (st := s_Rewriter_picture) l_Rewriter_picture c_Rewriter_picture k_Rewriter_picture
  have b_Rewriter_picture := f_Rewriter_picture.binds (ps := ["self"]) fun _ _ _ _ _ _ us hl => match us, hl with | [_], _ => rfl
  have fI : FunD K "__init__" "AnytextError.__init__" (defArgs s_init) (defBody s_init) (defScope s_init) [.non] [] a_init _ := ⟨⟨oc_init, od_init, .ref T_init, kV_init, dc_init, pm_init, an_init, cd_init, ct_init, sl_init, rfl, l_init, c_init, .inr ⟨(fun z => nomatch z), T_init, _, [.none], nn_init, rfl, lt_init, rfl, .cons rfl .nil⟩, .inl rfl⟩, k_init⟩
  have bI0 := fI.binds1 (ps := ["self", "what"]) 2 1 (fun z => nomatch z) rfl fun T kV doc pm an cdv ct us its hu hi => match us, hu, its, hi with | [_, _], _, [_], _ => ⟨_, rfl, rfl⟩
  have bI : Binds K (PySem.W.fnOf "__init__" "AnytextError.__init__" (defArgs s_init) (defBody s_init) (defScope s_init) (.ref T_init) kV_init dc_init pm_init an_init cd_init ct_init) ["self", "what"] [] := by
    obtain ⟨ds, hv, hb⟩ := bI0
    cases hv
    exact hb
  let T : Txt K mg := {
    C_Blocks := C_Blocks, g_Blocks := PySem.W.mg_of X G n_Blocks, cl_Blocks := ⟨pg_Blocks, hd_Blocks, po_Blocks, sa_Blocks⟩,
    na_Blocks_members := na_Blocks_members,
    na_Blocks_places := na_Blocks_places,
    na_Blocks_block_of := na_Blocks_block_of,
    na_Blocks_starts := na_Blocks_starts,
    na_Blocks_ends := na_Blocks_ends,
    na_Blocks_marks := na_Blocks_marks,
    na_Blocks_touched := na_Blocks_touched,
    a_Blocks_init := a_Blocks_init, d_Blocks_init := _, f_Blocks_init := f_Blocks_init, b_Blocks_init := b_Blocks_init,
    mk_Blocks := ⟨mk_Blocks, i_Blocks_init, q_Blocks_init, kc_Blocks⟩,
    a_Blocks_states_in := a_Blocks_states_in, d_Blocks_states_in := _, f_Blocks_states_in := f_Blocks_states_in, b_Blocks_states_in := b_Blocks_states_in,
    m_Blocks_states_in := ⟨i_Blocks_states_in, q_Blocks_states_in, k_Blocks_states_in⟩,
    a_Blocks_mark := a_Blocks_mark, d_Blocks_mark := _, f_Blocks_mark := f_Blocks_mark, b_Blocks_mark := b_Blocks_mark,
    m_Blocks_mark := ⟨i_Blocks_mark, q_Blocks_mark, k_Blocks_mark⟩,
    a_Blocks_cut := a_Blocks_cut, d_Blocks_cut := _, f_Blocks_cut := f_Blocks_cut, b_Blocks_cut := b_Blocks_cut,
    m_Blocks_cut := ⟨i_Blocks_cut, q_Blocks_cut, k_Blocks_cut⟩,
    a_Blocks_take_out := a_Blocks_take_out, d_Blocks_take_out := _, f_Blocks_take_out := f_Blocks_take_out, b_Blocks_take_out := b_Blocks_take_out,
    m_Blocks_take_out := ⟨i_Blocks_take_out, q_Blocks_take_out, k_Blocks_take_out⟩,
    C_Machine := C_Machine, g_Machine := PySem.W.mg_of X G n_Machine, cl_Machine := ⟨pg_Machine, hd_Machine, po_Machine, sa_Machine⟩,
    na_Machine_letters := na_Machine_letters,
    na_Machine_accepting := na_Machine_accepting,
    na_Machine_table := na_Machine_table,
    a_Machine_init := a_Machine_init, d_Machine_init := _, f_Machine_init := f_Machine_init, b_Machine_init := b_Machine_init,
    mk_Machine := ⟨mk_Machine, i_Machine_init, q_Machine_init, kc_Machine⟩,
    a_Machine_check := a_Machine_check, d_Machine_check := _, f_Machine_check := f_Machine_check, b_Machine_check := b_Machine_check,
    m_Machine_check := ⟨i_Machine_check, q_Machine_check, k_Machine_check⟩,
    a_Machine_run := a_Machine_run, d_Machine_run := _, f_Machine_run := f_Machine_run, b_Machine_run := b_Machine_run,
    m_Machine_run := ⟨i_Machine_run, q_Machine_run, k_Machine_run⟩,
    a_Machine_run_from := a_Machine_run_from, d_Machine_run_from := _, f_Machine_run_from := f_Machine_run_from, b_Machine_run_from := b_Machine_run_from,
    m_Machine_run_from := ⟨i_Machine_run_from, q_Machine_run_from, k_Machine_run_from⟩,
    a_Machine_accepts := a_Machine_accepts, d_Machine_accepts := _, f_Machine_accepts := f_Machine_accepts, b_Machine_accepts := b_Machine_accepts,
    m_Machine_accepts := ⟨i_Machine_accepts, q_Machine_accepts, k_Machine_accepts⟩,
    a_Machine_picture := a_Machine_picture, d_Machine_picture := _, f_Machine_picture := f_Machine_picture, b_Machine_picture := b_Machine_picture,
    m_Machine_picture := ⟨i_Machine_picture, q_Machine_picture, k_Machine_picture⟩,
    C_Rewriter := C_Rewriter, g_Rewriter := PySem.W.mg_of X G n_Rewriter, cl_Rewriter := ⟨pg_Rewriter, hd_Rewriter, po_Rewriter, sa_Rewriter⟩,
    na_Rewriter_letters := na_Rewriter_letters,
    na_Rewriter_lead := na_Rewriter_lead,
    na_Rewriter_finals := na_Rewriter_finals,
    na_Rewriter_table := na_Rewriter_table,
    a_Rewriter_init := a_Rewriter_init, d_Rewriter_init := _, f_Rewriter_init := f_Rewriter_init, b_Rewriter_init := b_Rewriter_init,
    mk_Rewriter := ⟨mk_Rewriter, i_Rewriter_init, q_Rewriter_init, kc_Rewriter⟩,
    a_Rewriter_check := a_Rewriter_check, d_Rewriter_check := _, f_Rewriter_check := f_Rewriter_check, b_Rewriter_check := b_Rewriter_check,
    m_Rewriter_check := ⟨i_Rewriter_check, q_Rewriter_check, k_Rewriter_check⟩,
    a_Rewriter_rewrite := a_Rewriter_rewrite, d_Rewriter_rewrite := _, f_Rewriter_rewrite := f_Rewriter_rewrite, b_Rewriter_rewrite := b_Rewriter_rewrite,
    m_Rewriter_rewrite := ⟨i_Rewriter_rewrite, q_Rewriter_rewrite, k_Rewriter_rewrite⟩,
    a_Rewriter_rewrite_from := a_Rewriter_rewrite_from, d_Rewriter_rewrite_from := _, f_Rewriter_rewrite_from := f_Rewriter_rewrite_from, b_Rewriter_rewrite_from := b_Rewriter_rewrite_from,
    m_Rewriter_rewrite_from := ⟨i_Rewriter_rewrite_from, q_Rewriter_rewrite_from, k_Rewriter_rewrite_from⟩,
    a_Rewriter_picture := a_Rewriter_picture, d_Rewriter_picture := _, f_Rewriter_picture := f_Rewriter_picture, b_Rewriter_picture := b_Rewriter_picture,
    m_Rewriter_picture := ⟨i_Rewriter_picture, q_Rewriter_picture, k_Rewriter_picture⟩,
    a__wall := a__wall, d__wall := _, f__wall := f__wall, o__wall := ⟨PySem.W.mg_of X G n__wall, k__wall, b__wall⟩,
    a_block_numbers := a_block_numbers, d_block_numbers := _, f_block_numbers := f_block_numbers, o_block_numbers := ⟨PySem.W.mg_of X G n_block_numbers, k_block_numbers, b_block_numbers⟩,
    a_first_states := a_first_states, d_first_states := _, f_first_states := f_first_states, o_first_states := ⟨PySem.W.mg_of X G n_first_states, k_first_states, b_first_states⟩,
    a__blocks_of_kinds := a__blocks_of_kinds, d__blocks_of_kinds := _, f__blocks_of_kinds := f__blocks_of_kinds, o__blocks_of_kinds := ⟨PySem.W.mg_of X G n__blocks_of_kinds, k__blocks_of_kinds, b__blocks_of_kinds⟩,
    a_explored := a_explored, d_explored := _, f_explored := f_explored, o_explored := ⟨PySem.W.mg_of X G n_explored, k_explored, b_explored⟩,
    a_ways_back := a_ways_back, d_ways_back := _, f_ways_back := f_ways_back, o_ways_back := ⟨PySem.W.mg_of X G n_ways_back, k_ways_back, b_ways_back⟩,
    a_least_explored := a_least_explored, d_least_explored := _, f_least_explored := f_least_explored, o_least_explored := ⟨PySem.W.mg_of X G n_least_explored, k_least_explored, b_least_explored⟩,
    a__merged := a__merged, d__merged := _, f__merged := f__merged, o__merged := ⟨PySem.W.mg_of X G n__merged, k__merged, b__merged⟩,
    a_sources_by := a_sources_by, d_sources_by := _, f_sources_by := f_sources_by, o_sources_by := ⟨PySem.W.mg_of X G n_sources_by, k_sources_by, b_sources_by⟩,
    a_domain := a_domain, d_domain := _, f_domain := f_domain, o_domain := ⟨PySem.W.mg_of X G n_domain, k_domain, b_domain⟩,
    a_before_image := a_before_image, d_before_image := _, f_before_image := f_before_image, o_before_image := ⟨PySem.W.mg_of X G n_before_image, k_before_image, b_before_image⟩,
    a_is_text := a_is_text, d_is_text := _, f_is_text := f_is_text, o_is_text := ⟨PySem.W.mg_of X G n_is_text, k_is_text, b_is_text⟩,
    a_cell := a_cell, d_cell := _, f_cell := f_cell, o_cell := ⟨PySem.W.mg_of X G n_cell, k_cell, b_cell⟩,
    a_numbers := a_numbers, d_numbers := _, f_numbers := f_numbers, o_numbers := ⟨PySem.W.mg_of X G n_numbers, k_numbers, b_numbers⟩,
    a_state := a_state, d_state := _, f_state := f_state, o_state := ⟨PySem.W.mg_of X G n_state, k_state, b_state⟩,
    a_next := a_next, d_next := _, f_next := f_next, o_next := ⟨PySem.W.mg_of X G n_next, k_next, b_next⟩,
    a_letters := a_letters, d_letters := _, f_letters := f_letters, o_letters := ⟨PySem.W.mg_of X G n_letters, k_letters, b_letters⟩,
    a_texts := a_texts, d_texts := _, f_texts := f_texts, o_texts := ⟨PySem.W.mg_of X G n_texts, k_texts, b_texts⟩,
    a_parts := a_parts, d_parts := _, f_parts := f_parts, o_parts := ⟨PySem.W.mg_of X G n_parts, k_parts, b_parts⟩,
    a_accepts := a_accepts, d_accepts := _, f_accepts := f_accepts, o_accepts := ⟨PySem.W.mg_of X G n_accepts, k_accepts, b_accepts⟩,
    a_law_least := a_law_least, d_law_least := _, f_law_least := f_law_least, o_law_least := ⟨PySem.W.mg_of X G n_law_least, k_law_least, b_law_least⟩,
    a_word := a_word, d_word := _, f_word := f_word, o_word := ⟨PySem.W.mg_of X G n_word, k_word, b_word⟩,
    a_maker := a_maker, d_maker := _, f_maker := f_maker, o_maker := ⟨PySem.W.mg_of X G n_maker, k_maker, b_maker⟩,
    a_rewrite := a_rewrite, d_rewrite := _, f_rewrite := f_rewrite, o_rewrite := ⟨PySem.W.mg_of X G n_rewrite, k_rewrite, b_rewrite⟩,
    a_long_text := a_long_text, d_long_text := _, f_long_text := f_long_text, o_long_text := ⟨PySem.W.mg_of X G n_long_text, k_long_text, b_long_text⟩,
    a_law := _, d_law := _, f_law := f_law, o_law := ⟨PySem.W.mg_of X G n_law, k_law, b_law⟩,
    a_init := a_init, d_init := _, T_init := T_init, f_init := fI, tI := ti_init, bI := bI,
    C_AnytextError := C_AnytextError,
    C_MachineError := C_MachineError,
    C_BadMachine := C_BadMachine,
    C_BadRewriter := C_BadRewriter,
    g_BadMachine := PySem.W.mg_of X G n_BadMachine,
    g_BadRewriter := PySem.W.mg_of X G n_BadRewriter,
    x_BadMachine := ⟨⟨⟨nm_BadMachine, q_BadMachine, N_BadMachine, bs_BadMachine, _, sn_BadMachine, sb_BadMachine, ab_BadMachine, col_BadMachine, dd_BadMachine, m0_BadMachine, m1_BadMachine, m2_BadMachine, m3_BadMachine, m5_BadMachine, l_BadMachine, by rfl⟩, sa_BadMachine, e_BadMachine, t_BadMachine, kC_BadMachine⟩, ⟨ga_BadMachine, gg_BadMachine, e_BadMachine, h_BadMachine⟩, nw_BadMachine, ini_BadMachine, i_BadMachine, cc_BadMachine, mo_BadMachine, se_BadMachine⟩,
    x_BadRewriter := ⟨⟨⟨nm_BadRewriter, q_BadRewriter, N_BadRewriter, bs_BadRewriter, _, sn_BadRewriter, sb_BadRewriter, ab_BadRewriter, col_BadRewriter, dd_BadRewriter, m0_BadRewriter, m1_BadRewriter, m2_BadRewriter, m3_BadRewriter, m5_BadRewriter, l_BadRewriter, by rfl⟩, sa_BadRewriter, e_BadRewriter, t_BadRewriter, kC_BadRewriter⟩, ⟨ga_BadRewriter, gg_BadRewriter, e_BadRewriter, h_BadRewriter⟩, nw_BadRewriter, ini_BadRewriter, i_BadRewriter, cc_BadRewriter, mo_BadRewriter, se_BadRewriter⟩,
    clsB := ⟨sp_B, tk_B⟩,
    c_before_image := cc_before_image, P_before_image := PP_before_image, t_before_image := funT_mk l_before_image ec_before_image c_before_image,
    nb_abs := PySem.W.mg_none_of X G z_abs,
    nb_all := PySem.W.mg_none_of X G z_all,
    nb_enumerate := PySem.W.mg_none_of X G z_enumerate,
    nb_int := PySem.W.mg_none_of X G z_int,
    nb_len := PySem.W.mg_none_of X G z_len,
    nb_list := PySem.W.mg_none_of X G z_list,
    nb_max := PySem.W.mg_none_of X G z_max,
    nb_min := PySem.W.mg_none_of X G z_min,
    nb_range := PySem.W.mg_none_of X G z_range,
    nb_repr := PySem.W.mg_none_of X G z_repr,
    nb_tuple := PySem.W.mg_none_of X G z_tuple }
  refine ⟨T.d_law, [(cc_before_image, PP_before_image)], spLaw T, ?_, ?_, ?_, fun s v => .of_eq rfl, fun H a ns hn _ ht hs => ⟨a, ns, rfl, hs, hn, ?_, fun _ => rfl⟩, fun base hk hg ht => ok_law T ⟨ht (cc_before_image, PP_before_image) (by simp), by simp [Ps, T]⟩⟩
  · intro p hp
    simp only [List.mem_cons, List.not_mem_nil, or_false] at hp
    rcases hp with rfl
    · exact ht_before_image
  · intro p hp
    simp only [List.mem_cons, List.not_mem_nil, or_false] at hp
    rcases hp with rfl
    · exact nt_before_image
  · intro p hp
    simp only [List.mem_cons, List.not_mem_nil, or_false] at hp
    rcases hp with rfl
    · exact PySem.W.codeHd_of_K X hdt_before_image
  · intro R hR
    have hR : R ∈ [PP_before_image] := hR
    simp only [List.mem_cons, List.not_mem_nil, or_false] at hR
    have e := hR
    · rw [e]; exact NdefX.TabN.nil (ht (cc_before_image, PP_before_image) (by simp))
end AT
open PySem PySem.W PyProof.Rows
set_option maxRecDepth 100000 in
set_option maxHeartbeats 0 in
theorem PySem.Challenge.cw_anytext_k20_images_before_holds : PySem.Challenge.rw_anytext_k20_images_before.Holds := by
  w_on; o_law; k_head; (case hw => w_witness2)
  k_fill
  refine LamX.walk_ofTs (l := PySem.Challenge.rw_anytext_k20_images_before) (n := 63) (k := AT.lvLaw) (x := "script") (CX := fun _ => L2.CX0) rfl (by decide) rfl ⟨rfl, by decide, by decide⟩ (fun w h Y => PySem.W.km_in_of Y) ?F fun _ _ _ _ _ z => z
  case F =>
    intro w mg fa h Y KX G hmg
    have hT8 := PySem.W.km_tabs_of Y
    refine' AT.all_mk KX G hmg ?n__wall ?l__wall ?c__wall ?k__wall ?n_block_numbers ?l_block_numbers ?c_block_numbers ?k_block_numbers ?n_first_states ?l_first_states ?c_first_states ?k_first_states ?n__blocks_of_kinds ?l__blocks_of_kinds ?c__blocks_of_kinds ?k__blocks_of_kinds ?n_explored ?l_explored ?c_explored ?k_explored ?n_ways_back ?l_ways_back ?c_ways_back ?k_ways_back ?n_least_explored ?l_least_explored ?c_least_explored ?k_least_explored ?n__merged ?l__merged ?c__merged ?k__merged ?n_sources_by ?l_sources_by ?c_sources_by ?k_sources_by ?n_domain ?l_domain ?c_domain ?k_domain ?n_before_image ?l_before_image ?c_before_image ?k_before_image ?n_is_text ?l_is_text ?c_is_text ?k_is_text ?n_cell ?l_cell ?c_cell ?k_cell ?n_numbers ?l_numbers ?c_numbers ?k_numbers ?n_state ?l_state ?c_state ?k_state ?n_next ?l_next ?c_next ?k_next ?n_letters ?l_letters ?c_letters ?k_letters ?n_texts ?l_texts ?c_texts ?k_texts ?n_parts ?l_parts ?c_parts ?k_parts ?n_accepts ?l_accepts ?c_accepts ?k_accepts ?n_law_least ?l_law_least ?c_law_least ?k_law_least ?n_word ?l_word ?c_word ?k_word ?n_maker ?l_maker ?c_maker ?k_maker ?n_rewrite ?l_rewrite ?c_rewrite ?k_rewrite ?n_long_text ?l_long_text ?c_long_text ?k_long_text ?n_law ?l_law ?c_law ?k_law ?n_AnytextError ?n_MachineError ?n_BadMachine ?n_BadRewriter ?ini_BadMachine ?l_init ?c_init ?k_init ?ti_init ?lt_init ?l_BadMachine ?sa_BadMachine ?ga_BadMachine ?gg_BadMachine ?nw_BadMachine ?cc_BadMachine ?mo_BadMachine ?se_BadMachine ?kC_BadMachine ?i_BadMachine ?t_BadMachine ?e_BadMachine ?h_BadMachine ?l_BadRewriter ?sa_BadRewriter ?ga_BadRewriter ?gg_BadRewriter ?nw_BadRewriter ?ini_BadRewriter ?cc_BadRewriter ?mo_BadRewriter ?se_BadRewriter ?kC_BadRewriter ?i_BadRewriter ?t_BadRewriter ?e_BadRewriter ?h_BadRewriter ?sp_B ?tk_B ?n_Blocks ?pg_Blocks ?hd_Blocks ?po_Blocks ?sa_Blocks ?mk_Blocks ?kc_Blocks ?na_Blocks_members ?na_Blocks_places ?na_Blocks_block_of ?na_Blocks_starts ?na_Blocks_ends ?na_Blocks_marks ?na_Blocks_touched ?i_Blocks_init ?q_Blocks_init ?l_Blocks_init ?c_Blocks_init ?k_Blocks_init ?i_Blocks_states_in ?q_Blocks_states_in ?l_Blocks_states_in ?c_Blocks_states_in ?k_Blocks_states_in ?i_Blocks_mark ?q_Blocks_mark ?l_Blocks_mark ?c_Blocks_mark ?k_Blocks_mark ?i_Blocks_cut ?q_Blocks_cut ?l_Blocks_cut ?c_Blocks_cut ?k_Blocks_cut ?i_Blocks_take_out ?q_Blocks_take_out ?l_Blocks_take_out ?c_Blocks_take_out ?k_Blocks_take_out ?n_Machine ?pg_Machine ?hd_Machine ?po_Machine ?sa_Machine ?mk_Machine ?kc_Machine ?na_Machine_letters ?na_Machine_accepting ?na_Machine_table ?i_Machine_init ?q_Machine_init ?l_Machine_init ?c_Machine_init ?k_Machine_init ?i_Machine_check ?q_Machine_check ?l_Machine_check ?c_Machine_check ?k_Machine_check ?i_Machine_run ?q_Machine_run ?l_Machine_run ?c_Machine_run ?k_Machine_run ?i_Machine_run_from ?q_Machine_run_from ?l_Machine_run_from ?c_Machine_run_from ?k_Machine_run_from ?i_Machine_accepts ?q_Machine_accepts ?l_Machine_accepts ?c_Machine_accepts ?k_Machine_accepts ?i_Machine_picture ?q_Machine_picture ?l_Machine_picture ?c_Machine_picture ?k_Machine_picture ?n_Rewriter ?pg_Rewriter ?hd_Rewriter ?po_Rewriter ?sa_Rewriter ?mk_Rewriter ?kc_Rewriter ?na_Rewriter_letters ?na_Rewriter_lead ?na_Rewriter_finals ?na_Rewriter_table ?i_Rewriter_init ?q_Rewriter_init ?l_Rewriter_init ?c_Rewriter_init ?k_Rewriter_init ?i_Rewriter_check ?q_Rewriter_check ?l_Rewriter_check ?c_Rewriter_check ?k_Rewriter_check ?i_Rewriter_rewrite ?q_Rewriter_rewrite ?l_Rewriter_rewrite ?c_Rewriter_rewrite ?k_Rewriter_rewrite ?i_Rewriter_rewrite_from ?q_Rewriter_rewrite_from ?l_Rewriter_rewrite_from ?c_Rewriter_rewrite_from ?k_Rewriter_rewrite_from ?i_Rewriter_picture ?q_Rewriter_picture ?l_Rewriter_picture ?c_Rewriter_picture ?k_Rewriter_picture ?z_abs ?z_all ?z_enumerate ?z_int ?z_len ?z_list ?z_max ?z_min ?z_range ?z_repr ?z_tuple ?ec_before_image ?hdt_before_image ?nt_before_image ?ht_before_image
    (case n__wall => k_is); (case l__wall => k_is); (case c__wall => k_is); (case k__wall => k_is); (case n_block_numbers => k_is); (case l_block_numbers => k_is)
    (case c_block_numbers => k_is); (case k_block_numbers => k_is); (case n_first_states => k_is); (case l_first_states => k_is); (case c_first_states => k_is); (case k_first_states => k_is)
    (case n__blocks_of_kinds => k_is); (case l__blocks_of_kinds => k_is); (case c__blocks_of_kinds => k_is); (case k__blocks_of_kinds => k_is); (case n_explored => k_is); (case l_explored => k_is)
    (case c_explored => k_is); (case k_explored => k_is); (case n_ways_back => k_is); (case l_ways_back => k_is); (case c_ways_back => k_is); (case k_ways_back => k_is)
    (case n_least_explored => k_is); (case l_least_explored => k_is); (case c_least_explored => k_is); (case k_least_explored => k_is); (case n__merged => k_is); (case l__merged => k_is)
    (case c__merged => k_is); (case k__merged => k_is); (case n_sources_by => k_is); (case l_sources_by => k_is); (case c_sources_by => k_is); (case k_sources_by => k_is)
    (case n_domain => k_is); (case l_domain => k_is); (case c_domain => k_is); (case k_domain => k_is); (case n_before_image => k_is); (case l_before_image => k_is)
    (case c_before_image => k_is); (case k_before_image => k_is); (case n_is_text => k_is); (case l_is_text => k_is); (case c_is_text => k_is); (case k_is_text => k_is)
    (case n_cell => k_is); (case l_cell => k_is); (case c_cell => k_is); (case k_cell => k_is); (case n_numbers => k_is); (case l_numbers => k_is)
    (case c_numbers => k_is); (case k_numbers => k_is); (case n_state => k_is); (case l_state => k_is); (case c_state => k_is); (case k_state => k_is)
    (case n_next => k_is); (case l_next => k_is); (case c_next => k_is); (case k_next => k_is); (case n_letters => k_is); (case l_letters => k_is)
    (case c_letters => k_is); (case k_letters => k_is); (case n_texts => k_is); (case l_texts => k_is); (case c_texts => k_is); (case k_texts => k_is)
    (case n_parts => k_is); (case l_parts => k_is); (case c_parts => k_is); (case k_parts => k_is); (case n_accepts => k_is); (case l_accepts => k_is)
    (case c_accepts => k_is); (case k_accepts => k_is); (case n_law_least => k_is); (case l_law_least => k_is); (case c_law_least => k_is); (case k_law_least => k_is)
    (case n_word => k_is); (case l_word => k_is); (case c_word => k_is); (case k_word => k_is); (case n_maker => k_is); (case l_maker => k_is)
    (case c_maker => k_is); (case k_maker => k_is); (case n_rewrite => k_is); (case l_rewrite => k_is); (case c_rewrite => k_is); (case k_rewrite => k_is)
    (case n_long_text => k_is); (case l_long_text => k_is); (case c_long_text => k_is); (case k_long_text => k_is); (case n_law => k_is); (case l_law => k_is)
    (case c_law => k_is); (case k_law => k_is); (case n_AnytextError => k_is); (case n_MachineError => k_is); (case n_BadMachine => k_is); (case n_BadRewriter => k_is)
    (case ini_BadMachine => k_is); (case l_init => k_is); (case c_init => k_is); (case k_init => k_is); (case ti_init => k_is); (case lt_init => k_is)
    (case l_BadMachine => k_is); (case sa_BadMachine => k_is); (case ga_BadMachine => k_is); (case gg_BadMachine => k_is); (case nw_BadMachine => k_is); (case cc_BadMachine => k_is)
    (case mo_BadMachine => k_is); (case se_BadMachine => k_is); (case kC_BadMachine => k_is); (case i_BadMachine => k_is); (case t_BadMachine => k_is); (case e_BadMachine => k_is)
    (case h_BadMachine => k_is); (case l_BadRewriter => k_is); (case sa_BadRewriter => k_is); (case ga_BadRewriter => k_is); (case gg_BadRewriter => k_is); (case nw_BadRewriter => k_is)
    (case ini_BadRewriter => k_is); (case cc_BadRewriter => k_is); (case mo_BadRewriter => k_is); (case se_BadRewriter => k_is); (case kC_BadRewriter => k_is); (case i_BadRewriter => k_is)
    (case t_BadRewriter => k_is); (case e_BadRewriter => k_is); (case h_BadRewriter => k_is); (case sp_B => k_is); (case tk_B => k_is); (case n_Blocks => k_is)
    (case pg_Blocks => k_is); (case hd_Blocks => k_is); (case po_Blocks => k_is); (case sa_Blocks => k_is); (case mk_Blocks => k_is); (case kc_Blocks => k_is)
    (case na_Blocks_members => k_is); (case na_Blocks_places => k_is); (case na_Blocks_block_of => k_is); (case na_Blocks_starts => k_is); (case na_Blocks_ends => k_is); (case na_Blocks_marks => k_is)
    (case na_Blocks_touched => k_is); (case i_Blocks_init => k_is); (case q_Blocks_init => k_is); (case l_Blocks_init => k_is); (case c_Blocks_init => k_is); (case k_Blocks_init => k_is)
    (case i_Blocks_states_in => k_is); (case q_Blocks_states_in => k_is); (case l_Blocks_states_in => k_is); (case c_Blocks_states_in => k_is); (case k_Blocks_states_in => k_is); (case i_Blocks_mark => k_is)
    (case q_Blocks_mark => k_is); (case l_Blocks_mark => k_is); (case c_Blocks_mark => k_is); (case k_Blocks_mark => k_is); (case i_Blocks_cut => k_is); (case q_Blocks_cut => k_is)
    (case l_Blocks_cut => k_is); (case c_Blocks_cut => k_is); (case k_Blocks_cut => k_is); (case i_Blocks_take_out => k_is); (case q_Blocks_take_out => k_is); (case l_Blocks_take_out => k_is)
    (case c_Blocks_take_out => k_is); (case k_Blocks_take_out => k_is); (case n_Machine => k_is); (case pg_Machine => k_is); (case hd_Machine => k_is); (case po_Machine => k_is)
    (case sa_Machine => k_is); (case mk_Machine => k_is); (case kc_Machine => k_is); (case na_Machine_letters => k_is); (case na_Machine_accepting => k_is); (case na_Machine_table => k_is)
    (case i_Machine_init => k_is); (case q_Machine_init => k_is); (case l_Machine_init => k_is); (case c_Machine_init => k_is); (case k_Machine_init => k_is); (case i_Machine_check => k_is)
    (case q_Machine_check => k_is); (case l_Machine_check => k_is); (case c_Machine_check => k_is); (case k_Machine_check => k_is); (case i_Machine_run => k_is); (case q_Machine_run => k_is)
    (case l_Machine_run => k_is); (case c_Machine_run => k_is); (case k_Machine_run => k_is); (case i_Machine_run_from => k_is); (case q_Machine_run_from => k_is); (case l_Machine_run_from => k_is)
    (case c_Machine_run_from => k_is); (case k_Machine_run_from => k_is); (case i_Machine_accepts => k_is); (case q_Machine_accepts => k_is); (case l_Machine_accepts => k_is); (case c_Machine_accepts => k_is)
    (case k_Machine_accepts => k_is); (case i_Machine_picture => k_is); (case q_Machine_picture => k_is); (case l_Machine_picture => k_is); (case c_Machine_picture => k_is); (case k_Machine_picture => k_is)
    (case n_Rewriter => k_is); (case pg_Rewriter => k_is); (case hd_Rewriter => k_is); (case po_Rewriter => k_is); (case sa_Rewriter => k_is); (case mk_Rewriter => k_is)
    (case kc_Rewriter => k_is); (case na_Rewriter_letters => k_is); (case na_Rewriter_lead => k_is); (case na_Rewriter_finals => k_is); (case na_Rewriter_table => k_is); (case i_Rewriter_init => k_is)
    (case q_Rewriter_init => k_is); (case l_Rewriter_init => k_is); (case c_Rewriter_init => k_is); (case k_Rewriter_init => k_is); (case i_Rewriter_check => k_is); (case q_Rewriter_check => k_is)
    (case l_Rewriter_check => k_is); (case c_Rewriter_check => k_is); (case k_Rewriter_check => k_is); (case i_Rewriter_rewrite => k_is); (case q_Rewriter_rewrite => k_is); (case l_Rewriter_rewrite => k_is)
    (case c_Rewriter_rewrite => k_is); (case k_Rewriter_rewrite => k_is); (case i_Rewriter_rewrite_from => k_is); (case q_Rewriter_rewrite_from => k_is); (case l_Rewriter_rewrite_from => k_is); (case c_Rewriter_rewrite_from => k_is)
    (case k_Rewriter_rewrite_from => k_is); (case i_Rewriter_picture => k_is); (case q_Rewriter_picture => k_is); (case l_Rewriter_picture => k_is); (case c_Rewriter_picture => k_is); (case k_Rewriter_picture => k_is)
    (case z_abs => k_is); (case z_all => k_is); (case z_enumerate => k_is); (case z_int => k_is); (case z_len => k_is); (case z_list => k_is)
    (case z_max => k_is); (case z_min => k_is); (case z_range => k_is); (case z_repr => k_is); (case z_tuple => k_is); (case ec_before_image => rfl)
    (case hdt_before_image => exact AT.tab_is (by kernel_rfl)); (case nt_before_image => kernel_rfl); (case ht_before_image => exact hT8 _ (AT.mem_dec (by kernel_rfl)))

