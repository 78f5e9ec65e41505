import PyProof.Rows.All
import Wide.All
import OpenK.AllK
import Wide.FinOn
import HandS.ForExc
import HandS.Comp
import HandS.Wide
import HandS.Gcd
import HandS.ExcInit
import HandS.ExcIs
import HandS.ExcField
import HandS.IsInst
import HandS.OwnEq
import HandS.Small
import HandS.Flow
import HandS.Codes
import KE.KOpsOwn
import HandS.Style
import HandS.Defaults
import HandS.ExcInitHot
import HandS.ClsMeth
import HandS.FStr
import HandS.Text
import HandS.Call
import HandS.StrMore
import HandS.Strs
import PyProof.Rows.StrOr
import PyProof.Rows.Digits
import KE.KIntText
import HandS.SetFor
import HandS.WideBits
import KE.IntBitsLaws
import HandS.CallLocal
import PyProof.Rows.StrMul
import HandS.Star
import HandS.Zip
import HandS.Deep
import PySem.Challenge.RW_fewcarry_k10_columns_and_mixtures
set_option Elab.async false
set_option linter.all false
set_option maxRecDepth 100000
set_option maxHeartbeats 4000000
/-! Rules of mine over the hand layer: operators that an own class defines, abs by an own method, floor division by any divisor,
an own error without arguments, isinstance of a caught error that has fields, a new instance or a method's call that may raise in a try. -/
namespace Fc
open PySem PySem.Spec PyProof.Rows L2

section
variable {X : Cx} {pins : List (Addr × Obj)} {sl : L2.St} {H : Hp} {s : Shared}

/-- a value of ours is never the mark NotImplemented -/
theorem cmpBack {Q : VK} {u : Value} {s' : Shared} (h : EP X pins sl Q u s') : PySem.W.CmpBack (EP X pins sl Q) u s' := by
  obtain ⟨v, H', I, r, q⟩ := id h
  cases v with
  | non => cases r; exact h
  | bl b => cases r; exact h
  | int i => obtain ⟨t, e⟩ := r; cases e; exact h
  | str y => obtain ⟨t, e⟩ := r; cases e; exact h
  | byt y => obtain ⟨t, e⟩ := r; cases e; exact h
  | flt y => obtain ⟨t, e⟩ := r; cases e; exact h
  | ref a => cases r; exact h
  | ty n => cases r; exact h

/-- what is known of an instance, as the library's rules ask it -/
theorem inst_at {a C dx : Addr} {fs : List (Str × V)} (I : Inv X pins sl H s) (e : H a = some (.ins C dx fs)) : ∃ ox od, PySem.W.InstAt s.heap a ox C od := by
  obtain ⟨mA, J, _⟩ := ins_get I.hok e
  obtain ⟨od, J, _⟩ := J.look
  exact ⟨_, _, J⟩
end

/-! ### x op y for two instances of one class -/
section
variable {X : Cx} {CX : CXT} {k : Nat} {C f : Addr} {fd : FuncData} {ps : List Str} {sp : Sp} {E : XK}
def rOwn (C : Addr) (sp : Sp) (E : XK) : R2 := fun x y H Q => ∃ a b dx dy fs gs, x = .ref a ∧ y = .ref b ∧
  H a = some (.ins C dx fs) ∧ H b = some (.ins C dy gs) ∧ sp [.ref a, .ref b] H Q E
theorem op_own {op : Operator} (hc : PySem.W.selfFirst X.K C = true) (hs : PySem.W.findIn X.K (.ref C) (PySem.dunder op.info.2) = some (some (.ref f)))
    (hf : PySem.W.isFn X.K (.ref f) = true) (F : FnOk X.prog X.w X.K X.mg X.base CX k f fd ps sp) (hr : Room k X.A) (hb : Binds X.K fd ps []) (hx : Passes CX X E) :
    OpR X (binaryOp op) (rOwn C sp E) := by
  intro pins s sl H x y u v Q I rx ry h
  obtain ⟨a, b, dx, dy, fs, gs, rfl, rfl, ha, hb', q⟩ := h
  cases rx
  cases ry
  obtain ⟨ox, od, J⟩ := inst_at I ha
  obtain ⟨oy, oe, J'⟩ := inst_at I hb'
  obtain ⟨m, hF⟩ := I.fr
  exact PySem.W.binop_K hF I.ok.mod.kin J J'.type hc hs hf
    (thn (run_fn (vs := [.ref a, .ref b]) (us := [.ref a, .ref b]) F hr hb .nil hx I (.cons rfl (.cons rfl .nil)) q) fun _ _ z => cmpBack z)

/-- x op n for an instance and a whole number -/
def rOwnI (C : Addr) (sp : Sp) (E : XK) : R2 := fun x y H Q => ∃ a dx fs n, x = .ref a ∧ y = .int n ∧ H a = some (.ins C dx fs) ∧ sp [.ref a, .int n] H Q E
theorem op_ownI {op : Operator} {fo ro rc : Option Value} (hc : PySem.W.selfFirst X.K C = true) (hs : PySem.W.findIn X.K (.ref C) (PySem.dunder op.info.2) = some (some (.ref f)))
    (hf : PySem.W.isFn X.K (.ref f) = true) (h0 : PySem.W.findIn X.K (.ref C) (dunderR op.info.2) = some rc) (hp : rc = none ∨ ∃ g : Addr, rc = some (.ref g))
    (h1 : PySem.W.findIn X.K (.type "int") (PySem.dunder op.info.2) = some fo) (h2 : PySem.W.findIn X.K (.type "int") (dunderR op.info.2) = some ro)
    (hsub : PySem.W.subIn X.K (.type "int") (.ref C) = some false)
    (F : FnOk X.prog X.w X.K X.mg X.base CX k f fd ps sp) (hr : Room k X.A) (hb : Binds X.K fd ps []) (hx : Passes CX X E) :
    OpR X (binaryOp op) (rOwnI C sp E) := by
  intro pins s sl H x y u v Q I rx ry h
  obtain ⟨a, dx, fs, n, rfl, rfl, ha, q⟩ := h
  cases rx
  obtain ⟨t, rfl⟩ := ry
  obtain ⟨ox, od, J⟩ := inst_at I ha
  obtain ⟨m, hF⟩ := I.fr
  exact PySem.W.ksp_binT (T := "int") hF I.ok.mod.kin J rfl hc hs hf h0 hp h1 h2 hsub
    (thn (run_fn (vs := [.ref a, .int n]) (us := [.ref a, .int n t]) F hr hb .nil hx I (.cons rfl (.cons ⟨t, rfl⟩ .nil)) q) fun _ _ z => cmpBack z)

/-- -x -/
def rOwnU (C : Addr) (sp : Sp) (E : XK) : V → Hp → VK → Prop := fun x H Q => ∃ a dx fs, x = .ref a ∧ H a = some (.ins C dx fs) ∧ sp [.ref a] H Q E
theorem un_own (hs : PySem.W.findIn X.K (.ref C) "__neg__" = some (some (.ref f))) (hf : PySem.W.isFn X.K (.ref f) = true)
    (F : FnOk X.prog X.w X.K X.mg X.base CX k f fd ps sp) (hr : Room k X.A) (hb : Binds X.K fd ps []) (hx : Passes CX X E) :
    UnR X (unaryOp .USub) (rOwnU C sp E) := by
  intro pins s sl H x u Q I rx h
  obtain ⟨a, dx, fs, rfl, ha, q⟩ := h
  cases rx
  obtain ⟨ox, od, J⟩ := inst_at I ha
  obtain ⟨m, hF⟩ := I.fr
  exact PySem.W.ksp_neg hF I.ok.mod.kin J hs hf (run_fn (vs := [.ref a]) (us := [.ref a]) F hr hb .nil hx I (.cons rfl .nil) q)

/-- abs(x) by an own __abs__ -/
def rOwnAbs (C : Addr) (sp : Sp) (E : XK) : List V → Hp → VK → Prop := fun xs H Q => ∃ a dx fs, xs = [.ref a] ∧ H a = some (.ins C dx fs) ∧ sp [.ref a] H Q E
/-- a call of a built-in function that runs nothing else before its own body: the code that runs within it has one unit more -/
theorem call_own_abs (hs : PySem.W.findIn X.K (.ref C) "__abs__" = some (some (.ref f))) (hf : PySem.W.isFn X.K (.ref f) = true)
    (F : FnOk X.prog X.w X.K X.mg X.base CX k f fd ps sp) (hr : Room (k + 1) X.A) (hb : Binds X.K fd ps []) (hx : Passes CX X E) :
    CallR X (.builtin "abs") (rOwnAbs C sp E) := by
  intro pins s sl H xs us Q I r h
  obtain ⟨a, dx, fs, rfl, ha, q⟩ := h
  obtain ⟨u, rfl, ru⟩ := vals1 r
  cases ru
  obtain ⟨ox, od, J⟩ := inst_at I ha
  have e := I.env0
  have e0 : Env0 X.prog X.w X.K X.mg X.base X.A.in1 X.stack s H := e.in1
  have r2 : Vals [V.ref a] [Value.ref a] := .cons rfl .nil
  have hl := F.len _ _ _ _ q
  refine Calls.call_function_entry kind_abs plain_abs entry_abs (args_abs _) ?_
  unfold Builtin.«abs»
  refine wpAny_bind (m := oneArg "abs" _) (wpAny_pure ?_)
  refine wpAny_bind (PySem.W.special_fn I.kIn J hs (beq_iff_eq.mp hf) ?_)
  refine wpAny_call (codeAny_mono (F.run X.A.in1 X.stack s H ⟨[.ref a], []⟩ [.ref a] [.ref a] Q E hr.in1 e0 (by
    have := hb s [.ref a] I.kIn (by simpa using hl)
    simpa using this) r2 q) fun r s' hq => ?_)
  cases r with
  | error e => exact hx pins sl H s e s' I hq
  | ok fl =>
    cases fl with
    | ret w => exact wpAny_pure ⟨_, rfl, I.after hq⟩
    | next => exact False.elim hq
    | brk => exact False.elim hq
    | cont => exact False.elim hq
end

/-! ### // by any divisor but 0, below 2 ^ 9000 -/
def CFdv (_ j : Int) : Prop := j ≠ 0 ∧ j.natAbs.log2 < 9000
theorem op_fdv {X : Cx} : OpR X (binaryOp .FloorDiv) (rI CFdv fun i j => .int (i.fdiv j)) :=
  opI fun i j _ _ _ _ _ hc q => floordiv_int hc.1 q (.inl (PyProof.noPylong_of_log2 hc.2))

/-! ### an own error made without arguments -/
theorem pmk_bare {X : Cx} {C : Addr} {bmB : List Value} {B newId initId : String} {x : Str} {p pos : Pos} (F : ExcBaseFacts B newId initId bmB) (q : PySem.W.excIn X.K C bmB newId = true)
    (gC : X.mg x = some (.ref C)) (kC : PySem.W.keepIn X.K (.ref C) = true) (r : Raises X (.ref C)) (hg : Gl X x) (hdb : (x == ("__debug__" : Str)) = false := by decide) :
    PMk X (.Call (.Name x p) [] [] pos) (fun _ H Q => Q (.ref C) none H) := by
  intro pins s sl H Q I h
  refine wpAny_Call_Name_kw (ld_glob I hg gC ?_ hdb)
  refine PySem.W.callWith_K0 I.kIn kC ?_
  obtain ⟨bm, N, nm, qn, bs, hdct, sn, sub, ab, col, dd, k0, k1, k2, k3, k5, mN, hC, hN, hni, T⟩ := exc_obj I.kIn q
  exact wpAny_call_exc_subT F T hC hN hni (fun h' e hm => mk_of I hm r h (I.hok.gone hm.new)) (Nat.zero_le _)
end Fc
set_option Elab.async false
set_option linter.all false
set_option maxRecDepth 100000
set_option maxHeartbeats 4000000
/-! More rules of mine: a new instance or a method's call whose error an except clause takes; isinstance of a caught error with fields. -/
namespace Fc
open PySem PySem.Spec PyProof.Rows L2

section
variable {X : Cx} {CX : CXT} {k : Nat} {C f : Addr} {fd : FuncData} {ps : List Str} {sp : Sp} {E : L2.St → XK}
/-- C(..), where what is raised is wished for at the slots -/
def tMakeS (C : Addr) (sp : Sp) (E : L2.St → XK) (t : TA) : TE := fun sl H Q => t sl H fun vs H1 => ∀ x dx, H1 x = none → H1 dx = none → dx ≠ x →
  sp (.ref x :: vs) (upd (upd H1 dx (.own x)) x (.ins C dx [])) (fun v H2 => v = .non ∧ Q (.ref x) H2) (E sl)
theorem run_makeS {pins : List (Addr × Obj)} {sl : L2.St} {H : Hp} {s : Shared} {Q : VK} {us : List Value} {vs : List V} (M : Mk X.K C f)
    (F : FnOk X.prog X.w X.K X.mg X.base CX k f fd ps sp) (hr : Room (k + 1) X.A) (hb : Binds X.K fd ps []) (hx : PassesAt CX X sl (E sl))
    (I : Inv X pins sl H s) (r : Vals vs us)
    (h : ∀ x dx, H x = none → H dx = none → dx ≠ x → sp (.ref x :: vs) (upd (upd H dx (.own x)) x (.ins C dx [])) (fun v H2 => v = .non ∧ Q (.ref x) H2) (E sl)) :
    wpAny (model X.prog X.w) X.A (call (.ref C) us) (EP X pins sl Q) X.xe s := by
  have fr : ∀ j, H (s.heap.objs.size + j) = none := fun j => I.hok.fresh (Nat.le_add_right _ _)
  have hq := h (s.heap.objs.size + 1) s.heap.objs.size (fr 1) (fr 0) (Nat.ne_of_lt (Nat.lt_succ_self _))
  have I2 := Inv.made (C := C) I
  have r2 : Vals (V.ref (s.heap.objs.size + 1) :: vs) (Value.ref (s.heap.objs.size + 1) :: us) := .cons rfl r
  have hl : (Value.ref (s.heap.objs.size + 1) :: us).length = ps.length := r2.length.symm.trans (F.len _ _ _ _ hq)
  have bd := hb { s with heap := (s.heap.push PySem.W.emptyDict).push (PySem.W.instObj C s.heap.objs.size) } (Value.ref (s.heap.objs.size + 1) :: us) I2.kIn (by rw [List.append_nil]; exact hl)
  rw [List.append_nil] at bd
  have run := F.run _ X.stack _ _ ⟨Value.ref (s.heap.objs.size + 1) :: us, []⟩ (Value.ref (s.heap.objs.size + 1) :: us) _ _ (E sl) (hr.make C us []) (I2.env0.make C us []) bd r2 hq
  refine wpAny_call (make_map (f := f) I.kIn M.makes M.init (beq_iff_eq.mp M.fn) (codeAny_mono run fun r s' hq' => ?_))
  cases r with
  | error e => exact hx pins _ _ e s' I2 hq'
  | ok fl =>
    cases fl with
    | ret u =>
      obtain ⟨v, H', I3, rv, ev, q3⟩ := I2.after hq'
      subst ev
      exact ⟨rv, ⟨V.ref (s.heap.objs.size + 1), H', I3, rfl, q3⟩⟩
    | next => exact False.elim hq'
    | brk => exact False.elim hq'
    | cont => exact False.elim hq'
theorem pe_makeS {x : Str} {p pos : Pos} {e : Expr} {es : List Expr} {t : TA} (M : Mk X.K C f) (F : FnOk X.prog X.w X.K X.mg X.base CX k f fd ps sp) (hr : Room (k + 1) X.A)
    (hg : Gl X x) (hm : X.mg x = some (.ref C)) (hb : Binds X.K fd ps []) (hx : ∀ sl, PassesAt CX X sl (E sl)) (ha : PA X (e :: es) t)
    (hdb : (x == ("__debug__" : Str)) = false := by decide) (he : starEach (e :: es) X.env = (false, eval e X.env) :: starEach es X.env := by rfl)
    (hpl : (backTo pos (starEach es X.env)).any (·.1) = false := by rfl) : PE X (.Call (.Name x p) (e :: es) [] pos) (tMakeS C sp E t) :=
  ⟨fun pins s sl H Q I h => wpAny_Call_Name_kw (ld_glob I hg hm (PySem.W.callWith_K (h₀ := X.base) I.ok.mod.kin M.kp
    (thn (ha.run pos pins s sl H _ I h) fun us s1 ⟨vs, H1, I1, r, q⟩ => ⟨I1.kIn, run_makeS M F hr hb (hx sl) I1 r q⟩) he hpl) hdb)⟩

/-- o.m(..), where what is raised is wished for at the slots -/
def tMethS (C : Addr) (m : Str) (sp : Sp) (E : L2.St → XK) (ta : TE) (t : TA) : TE := fun sl H Q => ta sl H fun x H1 => ∃ a dx fs, x = .ref a ∧
  H1 a = some (.ins C dx fs) ∧ fs.lookup m = none ∧ t sl H1 fun vs H2 => sp (x :: vs) H2 Q (E sl)
theorem pe_methS {m : Str} {o e : Expr} {es : List Expr} {ta : TE} {t : TA} {apos pos : Pos} {pl : Sem Bool} (ho : PE X o ta) (c : Cls X.K C) (hm : Meth X.K C m f)
    (F : FnOk X.prog X.w X.K X.mg X.base CX k f fd ps sp) (hr : Room k X.A) (hb : Binds X.K fd ps []) (hx : ∀ sl, PassesAt CX X sl (E sl)) (ha : PA X (e :: es) t)
    (hst : starEach (e :: es) X.env = (false, eval e X.env) :: starEach es X.env := by rfl) (hpl : (backTo pos (starEach es X.env)).any (·.1) = false := by rfl)
    (ht : eval (.Call (.Attribute o m apos) (e :: es) [] pos) X.env = (do
      let v ← eval o X.env
      standAt apos.atName
      let (g, first) ← holding [v] (getMethod v m pl)
      callWith pos g first (backTo pos (starEach (e :: es) X.env)) (backToKw pos (keywordEach [] X.env))) := by rfl) :
    PE X (.Call (.Attribute o m apos) (e :: es) [] pos) (tMethS C m sp E ta t) := by
  refine ⟨fun pins s sl H Q I h => PySem.W.methodCall_KW (pl := pl) (thn (ho.run pins s sl H _ I h) fun u s1 hh => ?_) ht⟩
  obtain ⟨x, H1, I1, rx, a, dx, fs, ex, ea, l, q⟩ := hh
  subst ex
  cases rx
  refine getmeth_ok I1 ea c hm l (PySem.W.callWith_K (first := [.ref a]) (h₀ := X.base) I.ok.mod.kin hm.kp ?_ hst hpl)
  exact thn (ha.run pos pins s1 sl H1 _ I1 q) fun us s2 ⟨vs, H2, I2, r, q2⟩ => ⟨I2.kIn, run_fnS (us := .ref a :: us) (vs := .ref a :: vs) F hr hb (hx sl) I2 (.cons rfl r) q2⟩
end

/-! ### isinstance of a caught error, with or without a dict of its own -/
section
open PySem.W PySem.Calls
variable {prog : Program} {w : World} {A : Around} {E : Value → Shared → Prop} {s : Shared} {K : Frag} {x D : Addr} {ox : Obj} {od : Option Obj}
theorem find_data {name : Str} {a g : Value} (hc : (clsIn K D).isSome = true) (ha : findIn K (.ref D) name = some (some a)) (hg : specialIn K a "__get__" = some (some g))
    (ht : takesIn K a = some true) : findObj K D od name = some (.bind g a) := by
  obtain ⟨cd, e⟩ := Option.isSome_iff_exists.mp hc
  unfold findObj
  rw [e, Option.bind_some, ha, Option.bind_some]
  simp [hg, ht]
theorem err_class {Q : Option Value → Shared → Prop} (T : ExcC K D) (X : K.In s.heap) (I : InstAt s.heap x ox D od) (h : Q (some (.ref D)) { s with toks := s.toks + 1 }) :
    wpAny (model prog w) A (getAttr? (.ref x) "__class__") Q E s := by
  have hf : findObj K D od "__class__" = some (.bind (.builtin "getset_descriptor.__get__") (.builtin "object.__class__")) :=
    find_data (by obtain ⟨cd, hc, _⟩ := any_some T.hd; rw [hc]; rfl) T.ha T.hn T.ht
  obtain ⟨hp, g, d, t, os⟩ := s
  have L0 := I.type (M := model prog w)
  have L1 := looks_findIn (M := model prog w) X T.hg
  have L2 := looks_findIn (M := model prog w) X T.hk
  have L3 := looks_find (M := model prog w) X I hf
  have sub : Looks (model prog w) hp (isInstance (.ref x) (.type "BaseException")) true := L0.andThen (looks_subIn X T.hs)
  have z0 : (false && onTheHeap (Value.builtin "BaseException.__getattribute__")) = false := rfl
  have z2 : (Value.builtin "BaseException.__getattribute__" == Value.builtin "object.__getattribute__") = false := by decide +kernel
  have z1 : (onTheHeap (Value.ref D) && Value.builtin "BaseException.__getattribute__" == Value.builtin "object.__getattribute__") = false := by rw [z2]; rfl
  unfold getAttr? getAttrBy? getAttrBy
  refine wpAny_bind (wpAny_mkText (wpAny_bind (wpAny_attempt (wpAny_holding (wpAny_bind (L0.at (wpAny_bind (L1.at ?_))))))))
  show wpAny _ _ (if (onTheHeap (Value.ref D) && Value.builtin "BaseException.__getattribute__" == Value.builtin "object.__getattribute__") = true then _ else _) _ _ _
  rw [z1, if_neg Bool.false_ne_true]
  unfold getAttrByItsOwn hookBefore
  refine wpAny_bind ?_
  rw [if_pos (show onTheHeap (Value.ref D) = true from rfl)]
  refine L2.at (wpAny_bind (wpAny_attempt (wpAny_holding ?_)))
  unfold callGetattribute
  rw [z0, if_neg Bool.false_ne_true]
  unfold boundAndCalled
  rw [PySem.F.excAttr_ValueError.ga.bind (.ref x)]
  refine wpAny_bind (wpAny_pure ?_)
  show wpAny _ _ (call (.builtin "BaseException.__getattribute__") [.ref x, .str "__class__" t]) _ _ _
  refine wpAny_call (codeAny_call_builtin PySem.F.excAttr_ValueError.ga.plain PySem.F.entry_bexc_ga ?_)
  refine @check_slot (model prog w) _ _ ⟨hp, g, d, t + 1, os⟩ "BaseException.__getattribute__" "BaseException" "__getattribute__" (.ref x)
    [.str "__class__" t] [] _ (by decide +kernel) (by decide +kernel) sub (PySem.F.args_bexc_ga (.ref x) (.str "__class__" t)) ?_
  unfold Builtin.«object.__getattribute__»
  refine wpAny_bind (wpAny_of_eq (a := ((Value.ref x : Value), [Value.str "__class__" t])) (by first | rfl | (simp only [slotArgs]; rfl)) ?_)
  refine wpAny_bind (wpAny_pure (wpAny_bind (L0.at (wpAny_bind (L3.at ?_)))))
  show wpAny _ _ (holding [Value.builtin "object.__class__"] (call (.builtin "getset_descriptor.__get__") [.builtin "object.__class__", .ref x, .ref D]) >>= ret) _ _ _
  refine wpAny_bind (wpAny_holding (wpAny_call (class_get (s := ⟨hp, g, d, t + 1, os⟩) (ox := ox) (od := od) X I T.hm (wpAny_pure ?_))))
  show wpAny _ _ (handedOut (.ref D)) _ _ _
  rw [handedOut_of (v := .ref D) rfl]
  first
    | exact wpAny_pure (wpAny_pure h)
    | exact wpAny_pure h
    | exact wpAny_pure (wpAny_bind (wpAny_pure (wpAny_pure h)))
theorem kit_err (T : ExcC K D) : KitX K (.ref x) (.ref D) (fun h => InstAt h x ox D od) where
  ty := fun _ _ _ I => I.type
  it := fun _ _ X _ => by
    obtain ⟨cd, e, _⟩ := any_some T.hd
    unfold clsIn at e
    split at e
    · rename_i z
      exact fun A' Q' E' s' k q => by
        unfold isType loadHead
        exact wpAny_bind (wpAny_loadPart (k _ _ (X _ _ z)) (wpAny_pure q))
    · cases e
  ne := fun h tp dd its n sl X htp => (handS_kitx_exc (x := x) (ox := ox) T.hg T.hk T.hs T.hd T.ha T.hn T.ht T.hm).ne h tp dd its n sl X htp
  ca := fun X I k => err_class T X I k
end
/-- isinstance(e, c), e the error that the suite holds; its own dict, where it has one, is tracked -/
def rIsX (K : PySem.W.Frag) (cls : Value) (d : Option Addr) (a : Addr) : List V → Hp → VK → Prop := fun xs H Q => ∃ (D : Addr) (c : V) (cv : Value) (b : Bool),
  cls = .ref D ∧ ExcC K D ∧ (∀ dd, d = some dd → ∃ fs, H dd = some (.xd fs)) ∧ xs = [.ref a, c] ∧ (∀ u, RelV c u → u = cv) ∧ PySem.W.kitOne K (.ref D) cv = some b ∧ Q (.bl b) H
theorem call_isX {X : Cx} {a : Addr} {cls : Value} {d : Option Addr} {oe : Obj} {pn : List (Addr × Obj)} (hz : Zc cls d oe) (hf : ∃ vs, oe.data = .fields vs) :
    CallR (X.suite a ((a, oe) :: pn)) (.builtin "isinstance") (rIsX X.K cls d a) := by
  intro pins s sl H xs us Q I r h
  obtain ⟨D, c, cv, b, rfl, T, hd, rfl, hcv, e, q⟩ := h
  obtain ⟨u1, u2, rfl, r1, r2⟩ := vals2 r
  cases r1
  have ec := hcv _ r2
  subst ec
  obtain ⟨hget, _⟩ := I.pin (a, oe) (List.mem_append.mpr (.inl List.mem_cons_self))
  obtain ⟨vs, hv⟩ := hf
  have fin : ∀ tk, EP (X.suite a ((a, oe) :: pn)) pins sl Q (.bool b) { s with toks := tk } := fun tk => ⟨.bl b, H, I.tok tk, rfl, q⟩
  cases d with
  | none =>
    have J : PySem.W.InstAt s.heap a oe D none := ⟨hget, hz.1, by unfold PySem.W.notCls; rw [hv] <;> rfl, by rw [hz.2]; exact True.intro⟩
    exact PySem.W.kia_one (kit_err T) I.kIn J e (fun z => nomatch z) fin
  | some dd =>
    obtain ⟨fs, hx⟩ := hd dd rfl
    obtain ⟨mA, hns, _⟩ := (show ObjOk X.prog X.w H s.heap dd (.xd fs) from I.hok dd _ hx)
    obtain ⟨od, ho, _⟩ := lookIn_ns hns
    have J : PySem.W.InstAt s.heap a oe D (some od) := ⟨hget, hz.1, by unfold PySem.W.notCls; rw [hv] <;> rfl, by rw [hz.2]; exact ho⟩
    exact PySem.W.kia_one (kit_err T) I.kIn J e (fun z => nomatch z) fin
end Fc
set_option Elab.async false
set_option linter.all false
set_option maxRecDepth 100000
set_option maxHeartbeats 4000000
/-! == of an own instance with other kinds, both ways round. -/
namespace Fc
open PySem PySem.Spec PyProof.Rows L2
open AutoSeq1 (wpAny_loadPart')
section
open PySem.W
variable {prog : Program} {w : World} {A : Around} {E : Value → Shared → Prop} {s : Shared} {K : Frag} {x C f : Addr} {ox : Obj} {od : Option Obj}
/-- other == x: other's own == declines, then x's is asked -/
theorem rc_back {b : Value} {T id : String} {Q : Value → Shared → Prop} (hu : A.units < cLine) (hT : s.TypeIs b T) (slot : Slot T (cmpInfo .Eq).2.1 id) (X : K.In s.heap) (I : InstAt s.heap x ox C od)
    (hsub : subIn K (.ref C) (.type T) = some false) (hs : findIn K (.ref C) "__eq__" = some (some (.ref f))) (hf : isFn K (.ref f) = true)
    (decl : ∀ Q' : Value → Shared → Prop, Q' .notImplemented s → wpAny (model prog w) A (call (.builtin id) [b, .ref x]) Q' E s)
    (h : wpAny (model prog w) A (call (.ref f) [.ref x, b]) (PySem.W.CmpBack Q) E s) : wpAny (model prog w) A (richCompare .Eq b (.ref x)) Q E s := by
  have one : wpAny (model prog w) A (tryCompare (.ref x) (cmpInfo .Eq).2.2 b) (fun r s' => ∃ v, r = some v ∧ Q v s') E s := by
    unfold tryCompare
    refine wpAny_bind (ifBound_K X I hs hf (wpAny_mono h (fun v s' hv => ?_) fun _ _ e => e))
    cases v <;> first | exact hv.elim | exact wpAny_pure ⟨_, rfl, hv⟩
  rcases hi : cmpInfo CmpOp.Eq with ⟨sym, g, r⟩
  rw [hi] at slot one
  have hne : (Value.type T != Value.ref C) = true := by simp
  simp only [richCompare, hi, hT.oneThing_none]
  try with_reducible refine wpAny_holding ?_
  refine wpAny_bind (wpAny_cRoomFor_or (.inr hu) ?_)
  refine wpAny_bind (wpAny_typeOf hT (wpAny_bind (I.type.here ?_)))
  simp only [hne, if_true]
  refine wpAny_bind ((looks_subIn X hsub).here ?_)
  simp only [Bool.false_eq_true, if_false, Bool.not_false, if_true]
  refine wpAny_bind (m := tryCompare b _ (.ref x)) (wpAny_tryCompare_declines hT slot (decl _ ⟨rfl, ?_⟩))
  refine wpAny_bind (m := tryCompare (.ref x) _ b) (wpAny_mono one (fun r' s' hr => ?_) fun _ _ e => e)
  obtain ⟨v, rfl, q⟩ := hr
  exact wpAny_pure q
/-- the built-in kinds decline -/
theorem decl_int {i : Int} {t : Tok} {Q : Value → Shared → Prop} (hx : s.heap.get? x = some ox) (hd : ∀ v, ox.data ≠ .prim v) (hq : Q .notImplemented s) :
    wpAny (model prog w) A (call (.builtin "int.__eq__") [.int i t, .ref x]) Q E s := by
  refine GQ.call_here F.slot_int_eq (typeIs_int s i t) F.entry_int_eq (F.args_int_eq_2 _ _) ?_
  obtain ⟨oc, od, da, sl⟩ := ox
  obtain ⟨hp, g, d, tk, os⟩ := s
  cases da
  case prim v => exact absurd rfl (hd v)
  all_goals (wp_walk using wpAny_loadPart' hx)
  all_goals exact hq
theorem decl_str {i : Str} {t : Tok} {Q : Value → Shared → Prop} (hx : s.heap.get? x = some ox) (hd : ∀ v, ox.data ≠ .prim v) (hq : Q .notImplemented s) :
    wpAny (model prog w) A (call (.builtin "str.__eq__") [.str i t, .ref x]) Q E s := by
  refine GQ.call_here F.slot_str_eq (typeIs_str s i t) F.entry_str_eq (F.args_str_eq_2 _ _) ?_
  obtain ⟨oc, od, da, sl⟩ := ox
  obtain ⟨hp, g, d, tk, os⟩ := s
  cases da
  case prim v => exact absurd rfl (hd v)
  all_goals (wp_walk using wpAny_loadPart' hx)
  all_goals exact hq
theorem decl_none {Q : Value → Shared → Prop} (hq : Q .notImplemented s) :
    wpAny (model prog w) A (call (.builtin "NoneType.__eq__") [.none, .ref x]) Q E s := by
  refine GQ.call_here F.slot_NoneType_eq rfl F.entry_NoneType_eq (F.args_NoneType_eq_2 _ _) ?_
  obtain ⟨hp, g, d, tk, os⟩ := s
  wp_walk
  exact hq
theorem decl_tup {l : Addr} {Q : Value → Shared → Prop} (hT : s.TypeIs (.ref l) "tuple") (X : K.In s.heap) (I : InstAt s.heap x ox C od) (hsub : subIn K (.ref C) (.type "tuple") = some false) (hq : Q .notImplemented s) :
    wpAny (model prog w) A (call (.builtin "tuple.__eq__") [.ref l, .ref x]) Q E s := by
  refine GQ.call_here F.slot_tuple_eq hT F.entry_tuple_eq (F.args_tuple_eq_2 _ _) ?_
  have L0 : Looks (model prog w) s.heap (isInstance (.ref x) (.type "tuple")) false := (I.type (M := model prog w)).andThen (looks_subIn X hsub)
  obtain ⟨hp, g, d, tk, os⟩ := s
  wp_walk using L0.at
  exact hq
theorem decl_lst {l : Addr} {Q : Value → Shared → Prop} (hT : s.TypeIs (.ref l) "list") (X : K.In s.heap) (I : InstAt s.heap x ox C od) (hsub : subIn K (.ref C) (.type "list") = some false) (hq : Q .notImplemented s) :
    wpAny (model prog w) A (call (.builtin "list.__eq__") [.ref l, .ref x]) Q E s := by
  refine GQ.call_here F.slot_list_eq hT F.entry_list_eq (F.args_list_eq_2 _ _) ?_
  have L0 : Looks (model prog w) s.heap (isInstance (.ref x) (.type "list")) false := (I.type (M := model prog w)).andThen (looks_subIn X hsub)
  obtain ⟨hp, g, d, tk, os⟩ := s
  wp_walk using L0.at
  exact hq
end

/-- values of built-in kinds whose own == declines -/
inductive BK (H : Hp) : V → String → Prop where
  | int (i : Int) : BK H (.int i) "int"
  | str (x : Str) : BK H (.str x) "str"
  | non : BK H .non "NoneType"
  | tup {a : Addr} {xs : List V} (h : H a = some (.tup xs)) : BK H (.ref a) "tuple"
  | lst {a : Addr} {xs : List V} (h : H a = some (.lst xs)) : BK H (.ref a) "list"
theorem BK.ty {K : PySem.W.Frag} {H : Hp} {x : V} {t : String} (b : BK H x t) : TyX K H x (.type t) := by
  cases b with
  | int i => exact .base (.int i)
  | str x => exact .base (.str x)
  | non => exact .base .non
  | tup h => exact .base (.tup h)
  | lst h => exact .base (.lst h)
theorem BK.mem {H : Hp} {x : V} {t : String} (b : BK H x t) : t ∈ ["int", "str", "NoneType", "tuple", "list"] := by
  cases b <;> decide
/-- ==, where one of the two at least is an instance of the class at C -/
def rEqR (K : PySem.W.Frag) (C : Addr) (sp : Sp) (E : XK) : R2 := fun x y H Q =>
  (∃ a dx fs t, x = .ref a ∧ H a = some (.ins C dx fs) ∧ TyX K H y t ∧ PySem.W.notFirst K C t = true ∧ sp [.ref a, y] H Q E) ∨
  (∃ a dx fs t, y = .ref a ∧ H a = some (.ins C dx fs) ∧ BK H x t ∧ sp [.ref a, x] H Q E)
theorem op_eqR {X : Cx} {CX : CXT} {k : Nat} {C f : Addr} {fd : FuncData} {ps : List Str} {sp : Sp} {E : XK}
    (sub : ∀ t, t ∈ ["int", "str", "NoneType", "tuple", "list"] → PySem.W.subIn X.K (.type t) (.ref C) = some false ∧ PySem.W.subIn X.K (.ref C) (.type t) = some false)
    (hs : PySem.W.findIn X.K (.ref C) "__eq__" = some (some (.ref f))) (hf : PySem.W.isFn X.K (.ref f) = true)
    (F : FnOk X.prog X.w X.K X.mg X.base CX k f fd ps sp) (hr : Room k X.A) (hb : Binds X.K fd ps []) (hx : Passes CX X E) :
    OpR X (compareOp .Eq) (rEqR X.K C sp E) := by
  intro pins s sl H x y u v Q I rx ry h
  show wpAny (model X.prog X.w) X.A (richCompare .Eq u v) (EP X pins sl Q) X.xe s
  rcases h with ⟨a, dx, fs, t, rfl, ha, ty, nf, q⟩ | ⟨a, dx, fs, t, rfl, ha, bk, q⟩
  · cases rx
    obtain ⟨ox, od, J⟩ := inst_at I ha
    obtain ⟨m, hF⟩ := I.fr
    obtain ⟨PP, Z, p, _⟩ := kit_of I ry ty
    exact PySem.W.cmp_K (op := .Eq) hr.units0 hF I.ok.mod.kin J (Z.ty _ _ I.kIn p) nf hs hf
      (thn (run_fn (vs := [.ref a, y]) (us := [.ref a, v]) F hr hb .nil hx I (.cons rfl (.cons ry .nil)) q) fun _ _ z => cmpBack z)
  · cases ry
    obtain ⟨mA, O, _⟩ := ins_get I.hok ha
    obtain ⟨od, J, _⟩ := O.look
    have own := thn (run_fn (vs := [.ref a, x]) (us := [.ref a, u]) F hr hb .nil hx I (.cons rfl (.cons rx .nil)) q) fun _ _ z => cmpBack z
    have s2 := (sub t bk.mem).2
    cases bk with
    | int i =>
      obtain ⟨tk, rfl⟩ := rx
      exact rc_back hr.units0 (typeIs_int s i tk) PySem.F.slot_int_eq I.kIn J s2 hs hf (fun Q' hq => decl_int O.obj (fun w z => by cases z) hq) own
    | str i =>
      obtain ⟨tk, rfl⟩ := rx
      exact rc_back hr.units0 (typeIs_str s i tk) PySem.F.slot_str_eq I.kIn J s2 hs hf (fun Q' hq => decl_str O.obj (fun w z => by cases z) hq) own
    | non =>
      cases rx
      exact rc_back hr.units0 rfl PySem.F.slot_NoneType_eq I.kIn J s2 hs hf (fun Q' hq => decl_none hq) own
    | @tup l xs hl =>
      cases rx
      obtain ⟨_, its, _, o, h1, h2, _⟩ := (show ObjOk X.prog X.w H s.heap l (.tup xs) from I.hok l _ hl)
      have hT : s.TypeIs (.ref l) "tuple" := ⟨o, h1, h2⟩
      exact rc_back hr.units0 hT PySem.F.slot_tuple_eq I.kIn J s2 hs hf (fun Q' hq => decl_tup hT I.kIn J s2 hq) own
    | @lst l xs hl =>
      cases rx
      obtain ⟨_, its, n, _, h1⟩ := (show ObjOk X.prog X.w H s.heap l (.lst xs) from I.hok l _ hl)
      have hT : s.TypeIs (.ref l) "list" := ⟨_, h1, rfl⟩
      exact rc_back hr.units0 hT PySem.F.slot_list_eq I.kIn J s2 hs hf (fun Q' hq => decl_lst hT I.kIn J s2 hq) own
end Fc
set_option Elab.async false
set_option maxHeartbeats 4000000
/-! Plain mathematics: lowest terms, Euclid's steps. -/
namespace Fc

/-- top and bottom in lowest terms, the bottom above 0 -/
def lo (t b : Int) : Int × Int := if b < 0 then (-t / (Int.gcd t b : Int), -b / (Int.gcd t b : Int)) else (t / (Int.gcd t b : Int), b / (Int.gcd t b : Int))

theorem gcd_pos {t b : Int} (h : b ≠ 0) : (0 : Int) < (Int.gcd t b : Int) := by
  have : 0 < Int.gcd t b := Int.gcd_pos_of_ne_zero_right t h
  omega
theorem fdv_neg (a g : Int) (hg : 0 < g) : a.fdiv (-g) = -a / g := by
  have e : a.fdiv (-g) = (- -a).fdiv (-g) := by rw [Int.neg_neg]
  rw [e, Int.neg_fdiv_neg, Int.fdiv_eq_ediv_of_nonneg _ (by omega)]
/-- as the program reckons it: both by the divisor with the bottom's sign -/
theorem lo_prog {t b : Int} (h : b ≠ 0) : lo t b =
    (t.fdiv (if b < 0 then -(Int.gcd t b : Int) else (Int.gcd t b : Int)), b.fdiv (if b < 0 then -(Int.gcd t b : Int) else (Int.gcd t b : Int))) := by
  have g := gcd_pos (t := t) h
  unfold lo
  by_cases c : b < 0
  · simp only [if_pos c, fdv_neg _ _ g]
  · simp only [if_neg c, Int.fdiv_eq_ediv_of_nonneg _ (Int.le_of_lt g)]

/-- the two facts that say it all: what is divided is the common divisor -/
theorem lo_split {t b : Int} (h : b ≠ 0) : ∃ k : Int, k ≠ 0 ∧ t = (lo t b).1 * k ∧ b = (lo t b).2 * k ∧ 0 < (lo t b).2 ∧ Int.gcd (lo t b).1 (lo t b).2 = 1 ∧ k.natAbs = Int.gcd t b := by
  have g := gcd_pos (t := t) h
  have d1 : (Int.gcd t b : Int) ∣ t := Int.gcd_dvd_left _ _
  have d2 : (Int.gcd t b : Int) ∣ b := Int.gcd_dvd_right _ _
  obtain ⟨x, hx⟩ := d1
  obtain ⟨y, hy⟩ := d2
  have e1 : t / (Int.gcd t b : Int) = x := by
    exact Int.ediv_eq_of_eq_mul_right (by omega) hx
  have e2 : b / (Int.gcd t b : Int) = y := by
    exact Int.ediv_eq_of_eq_mul_right (by omega) hy
  have e3 : -t / (Int.gcd t b : Int) = -x := by
    have : -t = (Int.gcd t b : Int) * (-x) := by rw [Int.mul_neg, ← hx]
    rw [this]
    exact Int.mul_ediv_cancel_left _ (by omega)
  have e4 : -b / (Int.gcd t b : Int) = -y := by
    have : -b = (Int.gcd t b : Int) * (-y) := by rw [Int.mul_neg, ← hy]
    rw [this]
    exact Int.mul_ediv_cancel_left _ (by omega)
  have cop : Int.gcd x y = 1 := by
    have z : Int.gcd t b = (Int.gcd t b) * Int.gcd x y := by
      have q : Int.gcd ((Int.gcd t b : Int) * x) ((Int.gcd t b : Int) * y) = (Int.gcd t b : Int).natAbs * Int.gcd x y := Int.gcd_mul_left ..
      rw [← hx, ← hy] at q
      simpa using q
    have gp : 0 < Int.gcd t b := by omega
    have : Int.gcd t b * 1 = Int.gcd t b * Int.gcd x y := by omega
    exact (Nat.eq_of_mul_eq_mul_left gp this).symm
  have ypos : b < 0 → y < 0 := fun c => by
    rcases Int.lt_trichotomy y 0 with q | q | q
    · exact q
    · subst q; omega
    · have := Int.mul_pos g q; omega
  have ypos' : ¬ b < 0 → 0 < y := fun c => by
    rcases Int.lt_trichotomy y 0 with q | q | q
    · have := Int.mul_neg_of_pos_of_neg g q; omega
    · subst q; omega
    · exact q
  by_cases c : b < 0
  · refine ⟨-(Int.gcd t b : Int), by omega, ?_, ?_, ?_, ?_, by omega⟩
    · unfold lo; rw [if_pos c, e3, Int.neg_mul_neg, Int.mul_comm]; exact hx
    · unfold lo; rw [if_pos c, e4, Int.neg_mul_neg, Int.mul_comm]; exact hy
    · unfold lo; rw [if_pos c, e4]; have := ypos c; show 0 < -y; omega
    · unfold lo; rw [if_pos c, e3, e4]; show Int.gcd (-x) (-y) = 1; rw [Int.neg_gcd, Int.gcd_neg]; exact cop
  · refine ⟨(Int.gcd t b : Int), by omega, ?_, ?_, ?_, ?_, by omega⟩
    · unfold lo; rw [if_neg c, e1, Int.mul_comm]; exact hx
    · unfold lo; rw [if_neg c, e2, Int.mul_comm]; exact hy
    · unfold lo; rw [if_neg c, e2]; exact ypos' c
    · unfold lo; rw [if_neg c, e1, e2]; exact cop
theorem lo_pos {t b : Int} (h : b ≠ 0) : 0 < (lo t b).2 := let ⟨_, _, _, _, p, _⟩ := lo_split (t := t) h; p
theorem lo_cop {t b : Int} (h : b ≠ 0) : Int.gcd (lo t b).1 (lo t b).2 = 1 := let ⟨_, _, _, _, _, p, _⟩ := lo_split (t := t) h; p
theorem lo_cross {t b : Int} (h : b ≠ 0) : (lo t b).1 * b = t * (lo t b).2 := by
  obtain ⟨k, _, e1, e2, _⟩ := lo_split (t := t) h
  have : (lo t b).1 * ((lo t b).2 * k) = (lo t b).1 * k * (lo t b).2 := by ac_rfl
  rw [← e1, ← e2] at this
  exact this

theorem dvd_cop {a b d : Int} (h : Int.gcd a b = 1) (e : b ∣ a * d) : b ∣ d := by
  have c : Nat.Coprime b.natAbs a.natAbs := by
    have : Nat.gcd a.natAbs b.natAbs = 1 := h
    rwa [Nat.gcd_comm] at this
  have q := Int.natAbs_dvd_natAbs.mpr e
  rw [Int.natAbs_mul] at q
  exact Int.natAbs_dvd_natAbs.mp (c.dvd_of_dvd_mul_left q)
/-- lowest terms are one pair -/
theorem low_one {a b c d : Int} (hb : 0 < b) (hd : 0 < d) (h1 : Int.gcd a b = 1) (h2 : Int.gcd c d = 1) (e : a * d = c * b) : a = c ∧ b = d := by
  have d1 : b ∣ d := by
    have : b ∣ a * d := by rw [e]; exact Int.dvd_mul_left _ _
    exact dvd_cop h1 this
  have d2 : d ∣ b := by
    have : d ∣ c * b := by rw [← e]; exact Int.dvd_mul_left _ _
    exact dvd_cop h2 this
  have eq : b = d := Int.le_antisymm (Int.le_of_dvd hd d1) (Int.le_of_dvd hb d2)
  subst eq
  exact ⟨Int.eq_of_mul_eq_mul_right (by omega) e, rfl⟩
theorem lo_eq {t b u d : Int} (hb : b ≠ 0) (hd : d ≠ 0) (e : t * d = u * b) : lo t b = lo u d := by
  obtain ⟨k, k0, e1, e2, p, cp, _⟩ := lo_split (t := t) hb
  obtain ⟨m, m0, e3, e4, q, cq, _⟩ := lo_split (t := u) hd
  have z : (lo t b).1 * (lo u d).2 = (lo u d).1 * (lo t b).2 := by
    have : ((lo t b).1 * (lo u d).2) * (k * m) = ((lo u d).1 * (lo t b).2) * (k * m) := by
      have l : ((lo t b).1 * (lo u d).2) * (k * m) = ((lo t b).1 * k) * ((lo u d).2 * m) := by ac_rfl
      have r : ((lo u d).1 * (lo t b).2) * (k * m) = ((lo u d).1 * m) * ((lo t b).2 * k) := by ac_rfl
      rw [l, r, ← e1, ← e2, ← e3, ← e4]
      exact e
    exact Int.eq_of_mul_eq_mul_right (Int.mul_ne_zero k0 m0) this
  obtain ⟨h1, h2⟩ := low_one p q cp cq z
  exact Prod.ext h1 h2
theorem lo_mul {t b k : Int} (hb : b ≠ 0) (hk : k ≠ 0) : lo (t * k) (b * k) = lo t b :=
  lo_eq (Int.mul_ne_zero hb hk) hb (by ac_rfl)
theorem lo_self {t b : Int} (hb : 0 < b) (h : Int.gcd t b = 1) : lo t b = (t, b) := by
  unfold lo
  rw [if_neg (by omega), h]
  simp
theorem lo_one (t : Int) : lo t 1 = (t, 1) := lo_self (by decide) (by simp)
theorem lo_zero {b : Int} (hb : b ≠ 0) : lo 0 b = (0, 1) := by
  have := lo_eq (t := 0) (u := 0) (d := 1) hb (by decide) (by simp)
  rw [this, lo_one]
theorem lo_self2 {t b : Int} (hb : b ≠ 0) : lo (lo t b).1 (lo t b).2 = lo t b := lo_self (lo_pos hb) (lo_cop hb)
theorem natAbs_le_mul {a k : Int} (hk : k ≠ 0) : a.natAbs ≤ (a * k).natAbs := by
  rw [Int.natAbs_mul]
  have : 1 ≤ k.natAbs := by omega
  exact Nat.le_mul_of_pos_right _ this
theorem lo_top_le {t b : Int} (h : b ≠ 0) : (lo t b).1.natAbs ≤ t.natAbs := by
  obtain ⟨k, k0, e1, _⟩ := lo_split (t := t) h
  conv => rhs; rw [e1]
  exact natAbs_le_mul k0
theorem lo_bot_le {t b : Int} (h : b ≠ 0) : (lo t b).2.natAbs ≤ b.natAbs := by
  obtain ⟨k, k0, _, e2, _⟩ := lo_split (t := t) h
  conv => rhs; rw [e2]
  exact natAbs_le_mul k0

/-! ### Euclid, step by step, as the law does it -/
structure Eu (g i a b : Nat) : Prop where
  gcd : Nat.gcd a b = g
  even : i % 2 = 0 → b < 2 ^ (750 - i / 2)
  odd : i % 2 = 1 → b < a ∧ a < 2 ^ (750 - i / 2)
theorem Eu.turn {g i a b : Nat} (h : Eu g i a b) (hb : b ≠ 0) (hi : i < 1500) : Eu g (i + 1) b (a % b) := by
  have lt : a % b < b := Nat.mod_lt _ (by omega)
  refine ⟨?_, fun e => ?_, fun o => ?_⟩
  · have := h.gcd
    rw [Nat.gcd_comm, ← Nat.gcd_rec, Nat.gcd_comm]
    exact this
  · have o : i % 2 = 1 := by omega
    obtain ⟨h1, h2⟩ := h.odd o
    have ex : 750 - i / 2 = (750 - (i + 1) / 2) + 1 := by omega
    rw [ex, Nat.pow_succ] at h2
    have hd := Nat.div_add_mod a b
    have q1 : 1 ≤ a / b := (Nat.one_le_div_iff (by omega)).mpr (by omega)
    have q2 : b * 1 ≤ b * (a / b) := Nat.mul_le_mul_left b q1
    omega
  · have e : i % 2 = 0 := by omega
    have := h.even e
    refine ⟨lt, ?_⟩
    have ex : (i + 1) / 2 = i / 2 := by omega
    rw [ex]
    exact this
theorem Eu.done {g a b : Nat} (h : Eu g 1500 a b) : b = 0 := by
  have := h.even (by decide)
  simpa using this
theorem Eu.zero {g i a : Nat} (h : Eu g i a 0) : a = g := by
  have := h.gcd
  simpa using this
theorem Eu.start {a b : Nat} (h : b < 2 ^ 750) : Eu (Nat.gcd a b) 0 a b := ⟨rfl, fun _ => by simpa using h, fun e => by omega⟩

theorem pow_cop {a b : Int} (n : Nat) (h : Int.gcd a b = 1) : Int.gcd (a ^ n) (b ^ n) = 1 := by
  have : Nat.Coprime (a.natAbs ^ n) (b.natAbs ^ n) := Nat.Coprime.pow n n h
  show Nat.gcd (a ^ n).natAbs (b ^ n).natAbs = 1
  rw [Int.natAbs_pow, Int.natAbs_pow]
  exact this
end Fc
set_option Elab.async false
set_option linter.all false
set_option maxRecDepth 100000
set_option maxHeartbeats 4000000
set_option exponentiation.threshold 100000
/-! What does not hang on a law: sizes, heaps, Ratios and pairs on the heap, the pot, promises. -/
namespace Fc
open PySem PySem.Spec PyProof.Rows L2
/-! ### sizes -/
/-- below 2 ^ n in size -/
def Bd (n : Nat) (i : Int) : Prop := i.natAbs < 2 ^ n
theorem Bd.mono {n m : Nat} {i : Int} (h : Bd n i) (l : n ≤ m) : Bd m i := Nat.lt_of_lt_of_le h (Nat.pow_le_pow_right (by decide) l)
theorem Bd.mul {n m : Nat} {i j : Int} (h : Bd n i) (g : Bd m j) : Bd (n + m) (i * j) := wide_lt h g
theorem Bd.add {n : Nat} {i j : Int} (h : Bd n i) (g : Bd n j) : Bd (n + 1) (i + j) := by
  unfold Bd at *
  rw [Nat.pow_succ]
  omega
theorem Bd.sub {n : Nat} {i j : Int} (h : Bd n i) (g : Bd n j) : Bd (n + 1) (i - j) := by
  unfold Bd at *
  rw [Nat.pow_succ]
  omega
theorem Bd.neg {n : Nat} {i : Int} (h : Bd n i) : Bd n (-i) := by
  unfold Bd at *
  omega
theorem Bd.abs {n : Nat} {i j : Int} (h : Bd n i) (e : j.natAbs ≤ i.natAbs) : Bd n j := Nat.lt_of_le_of_lt e h
theorem Bd.w {n m : Nat} {i j : Int} (h : Bd n i) (g : Bd m j) (a : 0 < n := by decide) (b : 0 < m := by decide) (l : n + m ≤ 1000000 := by decide) : CMulW i j := wide_mul h g a b l
theorem Bd.fdv {n : Nat} {i j : Int} (h : Bd n j) (a : j ≠ 0) (b : 0 < n := by decide) (l : n ≤ 9000 := by decide) : CFdv i j := ⟨a, Nat.lt_of_lt_of_le (PySem.Flt.log2_lt_of b h) l⟩
theorem Bd.div {n : Nat} {i j : Int} (h : Bd n j) (a : 0 < j) (b : 0 < n := by decide) (l : n ≤ 9000 := by decide) : CDivW i j := wide_div a h b l

/-! ### heaps -/
abbrev Ex (H H' : Hp) : Prop := Same H H'
theorem Ex.new {H : Hp} {p : Addr} {o : HO} (h : H p = none) : Ex H (upd H p o) := fun a u e => by rw [upd_ne (ne_of_none e h)]; exact e
theorem Ex.to {H H1 : Hp} {p : Addr} {o : HO} (x : Ex H H1) (h : H1 p = none) : Ex H (upd H1 p o) := x.trans (Ex.new h)
/-- all but what stands at p is as it was -/
def Keep (p : Addr) (H H' : Hp) : Prop := ∀ b o, H b = some o → b ≠ p → H' b = some o
theorem Keep.refl {p : Addr} {H : Hp} : Keep p H H := fun _ _ h _ => h
theorem Keep.trans {p : Addr} {H H1 H2 : Hp} (a : Keep p H H1) (b : Keep p H1 H2) : Keep p H H2 := fun c o h n => b c o (a c o h n) n
theorem Keep.of {p : Addr} {H H' : Hp} (h : Ex H H') : Keep p H H' := fun c o e _ => h c o e
theorem Keep.upd {p : Addr} {H : Hp} {o : HO} : Keep p H (upd H p o) := fun c u e n => by rw [upd_ne n]; exact e
theorem Keep.new {p q : Addr} {H : Hp} {o : HO} (h : H q = none) : Keep p H (L2.upd H q o) := Keep.of (Ex.new h)

/-- the fields of a Ratio -/
def rf (p : Int × Int) : List (Str × V) := [("top", .int p.1), ("bottom", .int p.2)]
theorem ne_tb : ¬ (("top" : Str) = "bottom") := by decide +kernel
theorem rf_put (t b : Int) : putF "bottom" (.int b) (putF "top" (.int t) []) = rf (t, b) := by
  show (if ("top" : Str) = "bottom" then _ else (("top" : Str), V.int t) :: putF "bottom" (.int b) []) = rf (t, b)
  rw [if_neg ne_tb]
  rfl
theorem rf_top (p : Int × Int) : (rf p).lookup ("top" : Str) = some (.int p.1) := by simp [rf, List.lookup]
theorem rf_bot (p : Int × Int) : (rf p).lookup ("bottom" : Str) = some (.int p.2) := by
  have : (("bottom" : Str) == "top") = false := by decide +kernel
  simp [rf, List.lookup, this]
theorem rf_no (p : Int × Int) {m : Str} (h : (m == "top") = false) (h2 : (m == "bottom") = false) : (rf p).lookup m = none := by
  simp [rf, List.lookup, h, h2]
/-- a Ratio with the fields p stands at a -/
def RatAt (C : Addr) (H : Hp) (a : Addr) (p : Int × Int) : Prop := ∃ dx, H a = some (.ins C dx (rf p))
theorem RatAt.ex {C : Addr} {H H' : Hp} {a : Addr} {p : Int × Int} (r : RatAt C H a p) (e : Ex H H') : RatAt C H' a p := let ⟨dx, h⟩ := r; ⟨dx, e _ _ h⟩
/-- a pair of whole numbers stands at a -/
def Pr (H : Hp) (a : Addr) (p : Int × Int) : Prop := H a = some (.tup [.int p.1, .int p.2])
theorem Pr.ex {H H' : Hp} {a : Addr} {p : Int × Int} (r : Pr H a p) (e : Ex H H') : Pr H' a p := e _ _ r
/-- a fair pair: the bottom above 0, both of at most n digits in base 2 -/
structure Sm (n : Nat) (p : Int × Int) : Prop where
  t : Bd n p.1
  b : Bd n p.2
  pos : 0 < p.2
theorem Sm.mono {n m : Nat} {p : Int × Int} (h : Sm n p) (l : n ≤ m) : Sm m p := ⟨h.t.mono l, h.b.mono l, h.pos⟩
theorem Sm.lo {n : Nat} {t b : Int} (ht : Bd n t) (hb : Bd n b) (h : b ≠ 0) : Sm n (lo t b) := ⟨ht.abs (lo_top_le h), hb.abs (lo_bot_le h), lo_pos h⟩
theorem pos_ne {b : Int} (h : 0 < b) : b ≠ 0 := by omega

theorem passF {X : Cx} {E : XK} : Passes CX0 X E := fun _ _ _ _ _ _ _ h => h.elim
theorem Sm.ne {n : Nat} {p : Int × Int} (h : Sm n p) : p.2 ≠ 0 := pos_ne h.pos
theorem Sm.nn {n m : Nat} {p q : Int × Int} (h : Sm n p) (g : Sm m q) : p.2 * q.2 ≠ 0 := Int.mul_ne_zero h.ne g.ne
theorem Bd.pow {m : Nat} {a : Int} (h : Bd m a) : ∀ i : Nat, Bd (m * i + 1) (a ^ i)
  | 0 => by unfold Bd; rw [Int.pow_zero, Nat.mul_zero]; decide
  | i + 1 => by
    rw [Int.pow_succ]
    exact ((Bd.pow h i).mul h).mono (by rw [Nat.mul_succ]; omega)
/-- the pot: a list of the cells, the place, and what is left of the cell -/
def PotAt (H : Hp) (p : Addr) : Prop := ∃ (l : Addr) (cs : List Int) (i c : Int), p ≠ l ∧ H p = some (.lst [.ref l, .int i, .int c]) ∧ H l = some (.lst (cs.map V.int)) ∧
  cs.length ≤ 63 ∧ 0 ≤ i ∧ 0 ≤ c ∧ ∀ z ∈ cs, 0 ≤ z
theorem PotAt.ex {H H' : Hp} {p : Addr} (h : PotAt H p) (e : Ex H H') : PotAt H' p := by
  obtain ⟨l, cs, i, c, ne, h1, h2, r⟩ := h
  exact ⟨l, cs, i, c, ne, e _ _ h1, e _ _ h2, r⟩
theorem PotAt.ne {H : Hp} {p t : Addr} (h : PotAt H p) (n : H t = none) : t ≠ p := fun e => by
  obtain ⟨l, cs, i, c, ne, h1, h2, r⟩ := h
  rw [e, h1] at n
  cases n
theorem Keep.free {p t : Addr} {H H' : Hp} (k : Keep p H H') (h : PotAt H' p) (n : H' t = none) : H t = none := by
  cases q : H t with
  | none => rfl
  | some o =>
    rw [k t o q (h.ne n)] at n
    cases n
theorem Pr.ne {H : Hp} {p t : Addr} {q : Int × Int} (r : Pr H t q) (h : PotAt H p) : t ≠ p := by
  obtain ⟨l, cs, i, c, ne, h1, h2, _⟩ := h
  exact ne_of r h1 (by intro z; cases z)
theorem Pr.keep {H H' : Hp} {p t : Addr} {q : Int × Int} (r : Pr H t q) (h : PotAt H p) (k : Keep p H H') : Pr H' t q := k t _ r (r.ne h)
theorem sz3 : 3 ≤ sizeLine := by rw [sizeLine_eq]; decide
theorem sz2 : 2 ≤ sizeLine := by rw [sizeLine_eq]; decide
def spStart (K : PySem.W.Frag) : Sp := fun vs H Q _ => ∃ (a : Addr) (ns : List Int), vs = [.ref a] ∧ SqL K H a (ns.map V.int) ∧ ns.length ≤ 63 ∧
  ∀ p H', PotAt H' p → Ex H H' → H p = none → Q (.ref p) H'
/-- a digit of the pot: all that is said of it is that it is below many -/
def spDigit : Sp := fun vs H Q _ => ∃ (p : Addr) (m : Int), vs = [.ref p, .int m] ∧ PotAt H p ∧ 0 < m ∧ Bd 300 m ∧
  ∀ d H', 0 ≤ d → d < m → PotAt H' p → Keep p H H' → Q (.int d) H'
/-- a drawn fraction -/
def spFraction : Sp := fun vs H Q _ => ∃ (p : Addr), vs = [.ref p] ∧ PotAt H p ∧ ∀ t q H', Pr H' t q → H t = none → Sm 220 q → PotAt H' p → Keep p H H' → Q (.ref t) H'
theorem bd_ten : Bd 210 ((10 : Int) ^ (60 : Int).toNat) := by show ((10 : Int) ^ 60).natAbs < 2 ^ 210; decide +kernel
theorem ten_pos : (0 : Int) < (10 : Int) ^ (60 : Int).toNat := by decide +kernel
theorem bd_twel : Bd 60 ((10 : Int) ^ (12 : Int).toNat) := by show ((10 : Int) ^ 12).natAbs < 2 ^ 60; decide +kernel
theorem twel_pos : (0 : Int) < (10 : Int) ^ (12 : Int).toNat := by decide +kernel
theorem bd_two : Bd 2 (2 : Int) := by show (2 : Int).natAbs < 2 ^ 2; decide
theorem bd_of {n : Nat} {i : Int} (h : i.natAbs < 2 ^ n) : Bd n i := h
theorem bd_le {n : Nat} {i j : Int} (h : Bd n j) (a : -j ≤ i) (b : i ≤ j) : Bd n i := by
  unfold Bd at *
  omega
theorem cpow (i : Int) (j : Nat) (h : i.natAbs < 2 ^ 64) (l : j ≤ 1000000) : CPow i (j : Int) := ⟨by omega, by omega, h⟩
def spHanded : Sp := fun vs H Q _ => ∃ (p t : Addr) (q : Int × Int), vs = [.ref p, .ref t] ∧ PotAt H p ∧ Pr H t q ∧ Sm 300 q ∧
  ∀ u k H', k ≠ 0 → Bd 3 k → Pr H' u (q.1 * k, q.2 * k) → H u = none → PotAt H' p → Keep p H H' → Q (.ref u) H'
theorem kit_self {K : PySem.W.Frag} {a : Addr} : PySem.W.kitOne K (.ref a) (.ref a) = some true := by
  unfold PySem.W.kitOne
  rw [if_pos (by simp)]
/-- lowest terms of at most 220 digits in base 2 -/
structure Lw (p : Int × Int) : Prop where
  s : Sm 220 p
  c : Int.gcd p.1 p.2 = 1
theorem Lw.s4 {p : Int × Int} (h : Lw p) : Sm 4000 p := h.s.mono (by decide)
theorem Lw.of {q : Int × Int} (h : Sm 220 q) : Lw (lo q.1 q.2) := ⟨Sm.lo h.t h.b h.ne, lo_cop h.ne⟩
theorem lo_k {q : Int × Int} (h : Sm 300 q) {k : Int} (k0 : k ≠ 0) : lo (q.1 * k) (q.2 * k) = lo q.1 q.2 := lo_mul h.ne k0
theorem bd_k {q : Int × Int} (h : Sm 300 q) {k : Int} (bk : Bd 3 k) : Bd 8900 (q.2 * k) := (h.b.mul bk).mono (by decide)
def spLaw (K : PySem.W.Frag) : Sp := fun vs H Q _ => ∃ (a : Addr) (ns : List Int), vs = [.ref a] ∧ SqL K H a (ns.map V.int) ∧ ns.length ≤ 63 ∧ ∀ H', Q (.bl true) H'
theorem kit_ref {K : PySem.W.Frag} {t : Value} {D : Addr} {b : Bool} (hd : PySem.W.hasDictIn K D = true) (ht : PySem.W.typeIn K (.ref D) = some (.type "type")) (hs : PySem.W.subIn K t (.ref D) = some b) (ne : t ≠ .ref D) : PySem.W.kitOne K t (.ref D) = some b := by
  obtain ⟨cd, hc, _⟩ := PySem.W.any_some hd
  have e2 : ((PySem.W.clsIn K D).isSome && PySem.W.typeIn K (.ref D) == some (.type "type")) = true := by rw [hc, ht] <;> rfl
  unfold PySem.W.kitOne
  rw [if_neg (fun z => ne (beq_iff_eq.mp z))]
  show (if ((PySem.W.clsIn K D).isSome && PySem.W.typeIn K (.ref D) == some (.type "type")) = true then PySem.W.subIn K t (.ref D) else none) = some b
  rw [if_pos e2]
  exact hs
theorem kit_typ {K : PySem.W.Frag} {D : Addr} {S : String} {b : Bool} (hm : PySem.W.kitMeta S = true) (hs : PySem.W.subIn K (.ref D) (.type S) = some b) : PySem.W.kitOne K (.ref D) (.type S) = some b := by
  unfold PySem.W.kitOne
  rw [if_neg (fun z => by cases beq_iff_eq.mp z)]
  show (if PySem.W.kitMeta S = true then PySem.W.subIn K (.ref D) (.type S) else none) = some b
  rw [if_pos hm]
  exact hs
end Fc
set_option Elab.async false
set_option linter.all false
set_option maxRecDepth 100000
set_option maxHeartbeats 4000000
/-! Fractions as rational numbers; what the ends of spans do under the five operations and the quotient. -/
namespace Fc
/-- what a pair is worth -/
def vl (p : Int × Int) : Rat := (p.1 : Rat) / (p.2 : Rat)
theorem cast_pos {b : Int} (h : 0 < b) : (0 : Rat) < (b : Rat) := Rat.intCast_pos.mpr h
theorem cast_ne {b : Int} (h : b ≠ 0) : (b : Rat) ≠ 0 := fun z => h (Rat.intCast_inj.mp (by rw [z] <;> rfl))
theorem vl_mul {p : Int × Int} (h : p.2 ≠ 0) : vl p * (p.2 : Rat) = (p.1 : Rat) := by
  have := cast_ne h
  unfold vl
  grind
theorem vl_le {p q : Int × Int} (hp : 0 < p.2) (hq : 0 < q.2) : vl p ≤ vl q ↔ p.1 * q.2 ≤ q.1 * p.2 := by
  have a := cast_pos hp
  have b := cast_pos hq
  have e1 := vl_mul (p := p) (by omega)
  have e2 := vl_mul (p := q) (by omega)
  rw [← Rat.intCast_le_intCast, Rat.intCast_mul, Rat.intCast_mul, ← e1, ← e2]
  constructor
  · intro h
    have := Rat.mul_le_mul_of_nonneg_left h (c := (p.2 : Rat) * (q.2 : Rat)) (Rat.mul_nonneg (by grind) (by grind))
    grind
  · intro h
    rcases (Rat.le_total (a := vl p) (b := vl q)) with z | z
    · exact z
    · have m := Rat.mul_le_mul_of_nonneg_left z (c := (p.2 : Rat) * (q.2 : Rat)) (Rat.mul_nonneg (by grind) (by grind))
      have e : (vl p - vl q) * ((p.2 : Rat) * (q.2 : Rat)) = 0 := by grind
      have n : 0 < (p.2 : Rat) * (q.2 : Rat) := Rat.mul_pos a b
      have : vl p - vl q = 0 := (Rat.mul_eq_zero.mp e).resolve_right (by grind)
      grind
theorem vl_lt {p q : Int × Int} (hp : 0 < p.2) (hq : 0 < q.2) : vl p < vl q ↔ p.1 * q.2 < q.1 * p.2 := by
  have := vl_le hq hp
  constructor
  · intro h
    have : ¬ (q.1 * p.2 ≤ p.1 * q.2) := fun z => by have := this.mpr z; grind
    omega
  · intro h
    have : ¬ (vl q ≤ vl p) := fun z => by have := this.mp z; omega
    grind
theorem vl_eq {p q : Int × Int} (hp : 0 < p.2) (hq : 0 < q.2) (h : vl p = vl q) : p.1 * q.2 = q.1 * p.2 := by
  have a := (vl_le hp hq).mp (by grind)
  have b := (vl_le hq hp).mp (by grind)
  omega
theorem vl_lo {t b : Int} (h : b ≠ 0) : vl (lo t b) = (t : Rat) / (b : Rat) := by
  obtain ⟨k, k0, e1, e2, p, _⟩ := lo_split (t := t) h
  have a := cast_ne k0
  have c := cast_pos p
  have f1 : (t : Rat) = ((lo t b).1 : Rat) * (k : Rat) := by rw [← Rat.intCast_mul, ← e1]
  have f2 : (b : Rat) = ((lo t b).2 : Rat) * (k : Rat) := by rw [← Rat.intCast_mul, ← e2]
  unfold vl
  rw [f1, f2]
  grind
/-! ### ranges -/
theorem mul_hi {a b c d x y : Rat} (h1 : a ≤ x) (h2 : x ≤ b) (h3 : c ≤ y) (h4 : y ≤ d) : x * y ≤ a * c ∨ x * y ≤ a * d ∨ x * y ≤ b * c ∨ x * y ≤ b * d := by
  rcases (Rat.le_total (a := 0) (b := y)) with hy | hy
  · have p1 : 0 ≤ (b - x) * y := Rat.mul_nonneg (by grind) hy
    rcases (Rat.le_total (a := 0) (b := b)) with hb | hb
    · have p2 : 0 ≤ b * (d - y) := Rat.mul_nonneg hb (by grind)
      right; right; right; grind
    · have p2 : 0 ≤ (-b) * (y - c) := Rat.mul_nonneg (by grind) (by grind)
      right; right; left; grind
  · have p1 : 0 ≤ (x - a) * (-y) := Rat.mul_nonneg (by grind) (by grind)
    rcases (Rat.le_total (a := 0) (b := a)) with ha | ha
    · have p2 : 0 ≤ a * (d - y) := Rat.mul_nonneg ha (by grind)
      right; left; grind
    · have p2 : 0 ≤ (-a) * (y - c) := Rat.mul_nonneg (by grind) (by grind)
      left; grind
theorem mul_lw {a b c d x y : Rat} (h1 : a ≤ x) (h2 : x ≤ b) (h3 : c ≤ y) (h4 : y ≤ d) : a * c ≤ x * y ∨ a * d ≤ x * y ∨ b * c ≤ x * y ∨ b * d ≤ x * y := by
  have := mul_hi (a := -b) (b := -a) (x := -x) (by grind) (by grind) h3 h4
  grind
theorem inv_anti {c d y : Rat} (h : 0 < c ∨ d < 0) (h3 : c ≤ y) (h4 : y ≤ d) : d⁻¹ ≤ y⁻¹ ∧ y⁻¹ ≤ c⁻¹ := by
  have one : ∀ u v : Rat, u ≤ v → (0 < u ∨ v < 0) → v⁻¹ ≤ u⁻¹ := by
    intro u v huv hs
    have hu : u ≠ 0 := by grind
    have hv : v ≠ 0 := by grind
    have eu := Rat.mul_inv_cancel u hu
    have ev := Rat.mul_inv_cancel v hv
    have sq : 0 ≤ (u * v) * ((v - u) * ((u⁻¹ * u⁻¹) * (v⁻¹ * v⁻¹))) := by
      have q1 : 0 ≤ u * v := by
        rcases hs with hs | hs
        · exact Rat.mul_nonneg (by grind) (by grind)
        · have := Rat.mul_nonneg (a := -u) (b := -v) (by grind) (by grind)
          grind
      have n1 : 0 ≤ u⁻¹ * u⁻¹ := by
        rcases (Rat.le_total (a := 0) (b := u⁻¹)) with z | z
        · exact Rat.mul_nonneg z z
        · have := Rat.mul_nonneg (a := -u⁻¹) (b := -u⁻¹) (by grind) (by grind)
          grind
      have n2 : 0 ≤ v⁻¹ * v⁻¹ := by
        rcases (Rat.le_total (a := 0) (b := v⁻¹)) with z | z
        · exact Rat.mul_nonneg z z
        · have := Rat.mul_nonneg (a := -v⁻¹) (b := -v⁻¹) (by grind) (by grind)
          grind
      exact Rat.mul_nonneg q1 (Rat.mul_nonneg (by grind) (Rat.mul_nonneg n1 n2))
    have e : (u * v) * ((v - u) * ((u⁻¹ * u⁻¹) * (v⁻¹ * v⁻¹))) = u⁻¹ - v⁻¹ := by grind
    grind
  exact ⟨one y d h4 (by grind), one c y h3 (by grind)⟩
/-- the law's six operations -/
def ow (op : Nat) (x y : Rat) : Rat := if op = 0 then x + y else if op = 1 then x - y else if op = 2 then x * y else if op = 3 then (if y < x then y else x) else if op = 4 then (if x < y then y else x) else x / y
/-- what is the least and the greatest of the four corners -/
structure Lst (op : Nat) (a b c d L : Rat) : Prop where
  at_ : L = ow op a c ∨ L = ow op a d ∨ L = ow op b c ∨ L = ow op b d
  h0 : L ≤ ow op a c
  h1 : L ≤ ow op a d
  h2 : L ≤ ow op b c
  h3 : L ≤ ow op b d
structure Grt (op : Nat) (a b c d L : Rat) : Prop where
  at_ : L = ow op a c ∨ L = ow op a d ∨ L = ow op b c ∨ L = ow op b d
  h0 : ow op a c ≤ L
  h1 : ow op a d ≤ L
  h2 : ow op b c ≤ L
  h3 : ow op b d ≤ L
theorem Lst.one {op : Nat} {a b c d L M : Rat} (x : Lst op a b c d L) (y : Lst op a b c d M) : L = M := by
  obtain ⟨x0, x1, x2, x3, x4⟩ := x
  obtain ⟨y0, y1, y2, y3, y4⟩ := y
  refine Rat.le_antisymm ?_ ?_
  · rcases y0 with e | e | e | e <;> rw [e] <;> assumption
  · rcases x0 with e | e | e | e <;> rw [e] <;> assumption
theorem Grt.one {op : Nat} {a b c d L M : Rat} (x : Grt op a b c d L) (y : Grt op a b c d M) : L = M := by
  obtain ⟨x0, x1, x2, x3, x4⟩ := x
  obtain ⟨y0, y1, y2, y3, y4⟩ := y
  refine Rat.le_antisymm ?_ ?_
  · rcases x0 with e | e | e | e <;> rw [e] <;> assumption
  · rcases y0 with e | e | e | e <;> rw [e] <;> assumption
theorem ow_in {op : Nat} {a b c d x y L U : Rat} (h5 : 5 ≤ op → 0 < c ∨ d < 0) (h1 : a ≤ x) (h2 : x ≤ b) (h3 : c ≤ y) (h4 : y ≤ d) (l : Lst op a b c d L) (g : Grt op a b c d U) : L ≤ ow op x y ∧ ow op x y ≤ U := by
  obtain ⟨_, l0, l1, l2, l3⟩ := l
  obtain ⟨_, g0, g1, g2, g3⟩ := g
  unfold ow at *
  by_cases o0 : op = 0
  · simp only [o0, if_true] at *; grind
  by_cases o1 : op = 1
  · simp only [o1, if_true] at *; simp at *; grind
  by_cases o2 : op = 2
  · subst o2
    simp at *
    have p := mul_hi h1 h2 h3 h4
    have q := mul_lw h1 h2 h3 h4
    constructor <;> grind
  by_cases o3 : op = 3
  · subst o3
    simp at *
    constructor <;> grind
  by_cases o4 : op = 4
  · subst o4
    simp at *
    constructor <;> grind
  · simp only [if_neg o0, if_neg o1, if_neg o2, if_neg o3, if_neg o4, Rat.div_def] at *
    obtain ⟨i1, i2⟩ := inv_anti (h5 (by omega)) h3 h4
    have p := mul_hi h1 h2 i1 i2
    have q := mul_lw h1 h2 i1 i2
    constructor <;> grind
theorem ends0 {a b c d : Rat} (h : a ≤ b) (g : c ≤ d) : Lst 0 a b c d (a + c) ∧ Grt 0 a b c d (b + d) := by
  constructor <;> constructor <;> (unfold ow; simp) <;> grind
theorem ends1 {a b c d : Rat} (h : a ≤ b) (g : c ≤ d) : Lst 1 a b c d (a - d) ∧ Grt 1 a b c d (b - c) := by
  constructor <;> constructor <;> (unfold ow; simp) <;> grind
theorem ends3 {a b c d : Rat} (h : a ≤ b) (g : c ≤ d) : Lst 3 a b c d (if a ≤ c then a else c) ∧ Grt 3 a b c d (if b ≤ d then b else d) := by
  constructor <;> constructor <;> (unfold ow; simp) <;> grind
theorem ends4 {a b c d : Rat} (h : a ≤ b) (g : c ≤ d) : Lst 4 a b c d (if c ≤ a then a else c) ∧ Grt 4 a b c d (if d ≤ b then b else d) := by
  constructor <;> constructor <;> (unfold ow; simp) <;> grind
end Fc
set_option Elab.async false
set_option linter.all false
set_option maxRecDepth 100000
set_option maxHeartbeats 4000000
/-! x in y, where y is an instance of an own class that says what is in it. -/
namespace Fc
open PySem PySem.Spec PyProof.Rows L2
section
open PySem.W
variable {M : Model} {A : Around} {E : Value → Shared → Prop} {s : Shared} {K : Frag} {c C f : Addr} {ox : Obj} {od : Option Obj}
theorem in_K {x : Value} {Q : Bool → Shared → Prop} (X : K.In s.heap) (I : InstAt s.heap c ox C od) (hs : findIn K (.ref C) "__contains__" = some (some (.ref f))) (hf : isFn K (.ref f) = true)
    (h : wpAny M A (call (.ref f) [.ref c, x]) (fun r s' => wpAny M A (truthy r) Q E s') E s) : wpAny M A (contains (.ref c) x) Q E s := by
  unfold contains
  refine wpAny_holding ?_
  have e0 : stdlibNamesSay? (.ref c) x = none := rfl
  simp only [e0, callSpecialUnlessNone?, specialOf]
  refine wpAny_bind (wpAny_bind (I.type.here ((looks_findIn X hs).here ?_)))
  show wpAny M A (if (some (Value.ref f) == some Value.none) = true then _ else _) Q E s
  rw [if_neg (by simp)]
  refine wpAny_bind (wpAny_bind (wpAny_bind (I.type.here ((looks_findIn X hs).here ?_))))
  refine wpAny_holding (wpAny_bind ((bind_fn X _ (beq_iff_eq.mp hf)).here ?_))
  show wpAny M A (if (Value.ref f == Value.none) = true then _ else _) _ E s
  rw [if_neg (by simp)]
  exact wpAny_bind (wpAny_mono h (fun v s' z => wpAny_pure z) fun _ _ z => z)
end
/-- x in y -/
def rIn (C : Addr) (sp : Sp) (E : XK) : R2 := fun x y H Q => ∃ a dx fs, y = .ref a ∧ H a = some (.ins C dx fs) ∧ sp [.ref a, x] H (fun v H' => ∃ b, v = .bl b ∧ Q (.bl b) H') E
theorem op_in {X : Cx} {CX : CXT} {k : Nat} {C f : Addr} {fd : FuncData} {ps : List Str} {sp : Sp} {E : XK}
    (hs : PySem.W.findIn X.K (.ref C) "__contains__" = some (some (.ref f))) (hf : PySem.W.isFn X.K (.ref f) = true)
    (F : FnOk X.prog X.w X.K X.mg X.base CX k f fd ps sp) (hr : Room k X.A) (hb : Binds X.K fd ps []) (hx : Passes CX X E) :
    OpR X (compareOp .In) (rIn C sp E) := by
  intro pins s sl H x y u v Q I rx ry h
  obtain ⟨a, dx, fs, rfl, ha, q⟩ := h
  cases ry
  obtain ⟨ox, od, J⟩ := inst_at I ha
  show wpAny (model X.prog X.w) X.A (do return .bool (← contains (.ref a) u)) (EP X pins sl Q) X.xe s
  refine wpAny_bind (in_K I.kIn J hs hf (thn (run_fn (vs := [.ref a, x]) (us := [.ref a, u]) F hr hb .nil hx I (.cons rfl (.cons rx .nil)) q) fun w s' z => ?_))
  obtain ⟨z', H', I', rz, b, rfl, qz⟩ := z
  cases rz
  exact wpAny_pure (wpAny_pure ⟨.bl b, H', I', rfl, qz⟩)
end Fc
set_option Elab.async false
set_option linter.all false
set_option maxRecDepth 100000
set_option maxHeartbeats 4000000
/-! Ratios, pairs and spans on the heap by what they are worth. -/
namespace Fc
open PySem PySem.Spec PyProof.Rows L2
theorem div_is {t b r : Rat} (h : b ≠ 0) (e : r * b = t) : t / b = r := by grind
theorem cast_mul (a b : Int) : ((a * b : Int) : Rat) = (a : Rat) * (b : Rat) := Rat.intCast_mul a b
theorem cast_add (a b : Int) : ((a + b : Int) : Rat) = (a : Rat) + (b : Rat) := Rat.intCast_add a b
theorem cast_sub (a b : Int) : ((a - b : Int) : Rat) = (a : Rat) - (b : Rat) := Rat.intCast_sub a b
theorem cast_neg (a : Int) : ((-a : Int) : Rat) = -(a : Rat) := Rat.intCast_neg a
theorem v_add {p q : Int × Int} (hp : p.2 ≠ 0) (hq : q.2 ≠ 0) : ((p.1 * q.2 + q.1 * p.2 : Int) : Rat) / ((p.2 * q.2 : Int) : Rat) = vl p + vl q := by
  have e1 := vl_mul hp
  have e2 := vl_mul hq
  refine div_is (cast_ne (Int.mul_ne_zero hp hq)) ?_
  rw [cast_mul, cast_add, cast_mul, cast_mul, ← e1, ← e2]
  grind
theorem v_sub {p q : Int × Int} (hp : p.2 ≠ 0) (hq : q.2 ≠ 0) : ((p.1 * q.2 - q.1 * p.2 : Int) : Rat) / ((p.2 * q.2 : Int) : Rat) = vl p - vl q := by
  have e1 := vl_mul hp
  have e2 := vl_mul hq
  refine div_is (cast_ne (Int.mul_ne_zero hp hq)) ?_
  rw [cast_mul, cast_sub, cast_mul, cast_mul, ← e1, ← e2]
  grind
theorem v_mul {p q : Int × Int} (hp : p.2 ≠ 0) (hq : q.2 ≠ 0) : ((p.1 * q.1 : Int) : Rat) / ((p.2 * q.2 : Int) : Rat) = vl p * vl q := by
  have e1 := vl_mul hp
  have e2 := vl_mul hq
  refine div_is (cast_ne (Int.mul_ne_zero hp hq)) ?_
  rw [cast_mul, cast_mul, ← e1, ← e2]
  grind
theorem v_neg {p : Int × Int} (hp : p.2 ≠ 0) : ((-p.1 : Int) : Rat) / (p.2 : Rat) = -vl p := by
  have e1 := vl_mul hp
  refine div_is (cast_ne hp) ?_
  rw [cast_neg, ← e1]
  grind
theorem v_zero {q : Int × Int} (hq : q.2 ≠ 0) : vl q = 0 ↔ q.1 = 0 := by
  have e2 := vl_mul hq
  have := cast_ne hq
  constructor
  · intro h
    rw [h] at e2
    exact Rat.intCast_inj.mp (by rw [← e2]; grind)
  · intro h
    unfold vl
    rw [h]
    grind
theorem v_div {p q : Int × Int} (hp : p.2 ≠ 0) (hq : q.2 ≠ 0) (h0 : q.1 ≠ 0) : ((p.1 * q.2 : Int) : Rat) / ((p.2 * q.1 : Int) : Rat) = vl p / vl q := by
  have e1 := vl_mul hp
  have e2 := vl_mul hq
  have n : vl q ≠ 0 := fun z => h0 ((v_zero hq).mp z)
  refine div_is (cast_ne (Int.mul_ne_zero hp h0)) ?_
  rw [cast_mul, cast_mul, ← e1, ← e2]
  grind
theorem v_pos {q : Int × Int} (hq : 0 < q.2) : 0 < vl q ↔ 0 < q.1 := by
  have := vl_lt (p := ((0, 1) : Int × Int)) (q := q) (by decide) hq
  have z : vl ((0, 1) : Int × Int) = 0 := (v_zero (by decide)).mpr rfl
  rw [z] at this
  rw [this]
  show (0 : Int) * q.2 < q.1 * 1 ↔ _
  rw [Int.zero_mul, Int.mul_one]
theorem v_nn {q : Int × Int} (hq : 0 < q.2) : 0 ≤ vl q ↔ 0 ≤ q.1 := by
  have := vl_le (p := ((0, 1) : Int × Int)) (q := q) (by decide) hq
  have z : vl ((0, 1) : Int × Int) = 0 := (v_zero (by decide)).mpr rfl
  rw [z] at this
  rw [this]
  show (0 : Int) * q.2 ≤ q.1 * 1 ↔ _
  rw [Int.zero_mul, Int.mul_one]
theorem v_np {q : Int × Int} (hq : 0 < q.2) : vl q ≤ 0 ↔ q.1 ≤ 0 := by
  have := vl_le (p := q) (q := ((0, 1) : Int × Int)) hq (by decide)
  have z : vl ((0, 1) : Int × Int) = 0 := (v_zero (by decide)).mpr rfl
  rw [z] at this
  rw [this]
  show q.1 * 1 ≤ (0 : Int) * q.2 ↔ _
  rw [Int.zero_mul, Int.mul_one]
/-- a Ratio in lowest terms, worth r -/
def RatV (C : Addr) (H : Hp) (n : Nat) (a : Addr) (r : Rat) : Prop := ∃ p, RatAt C H a p ∧ Sm n p ∧ Int.gcd p.1 p.2 = 1 ∧ vl p = r
theorem RatV.ex {C : Addr} {H H' : Hp} {n : Nat} {a : Addr} {r : Rat} (h : RatV C H n a r) (e : Ex H H') : RatV C H' n a r := let ⟨p, x, y⟩ := h; ⟨p, x.ex e, y⟩
theorem RatV.mono {C : Addr} {H : Hp} {n m : Nat} {a : Addr} {r : Rat} (h : RatV C H n a r) (l : n ≤ m) : RatV C H m a r := let ⟨p, x, y, z⟩ := h; ⟨p, x, y.mono l, z⟩
theorem RatV.lo {C : Addr} {H : Hp} {n : Nat} {a : Addr} {t b : Int} (h : RatAt C H a (lo t b)) (ht : Bd n t) (hb : Bd n b) (n0 : b ≠ 0) {r : Rat} (e : (t : Rat) / (b : Rat) = r) : RatV C H n a r :=
  ⟨_, h, Sm.lo ht hb n0, lo_cop n0, (vl_lo n0).trans e⟩
/-- a pair of whole numbers worth r -/
def PrV (H : Hp) (n : Nat) (a : Addr) (r : Rat) : Prop := ∃ p, Pr H a p ∧ Sm n p ∧ vl p = r
theorem PrV.ex {H H' : Hp} {n : Nat} {a : Addr} {r : Rat} (h : PrV H n a r) (e : Ex H H') : PrV H' n a r := let ⟨p, x, y⟩ := h; ⟨p, x.ex e, y⟩
theorem PrV.mono {H : Hp} {n m : Nat} {a : Addr} {r : Rat} (h : PrV H n a r) (l : n ≤ m) : PrV H m a r := let ⟨p, x, y, z⟩ := h; ⟨p, x, y.mono l, z⟩
theorem PrV.keep {H H' : Hp} {n : Nat} {p t : Addr} {r : Rat} (h : PrV H n t r) (pt : PotAt H p) (k : Keep p H H') : PrV H' n t r := let ⟨q, x, y⟩ := h; ⟨q, x.keep pt k, y⟩
/-- the same worth, and lowest terms: the same fraction -/
theorem low_is {n m : Nat} {t p : Int × Int} (ht : Sm n t) (hc : Int.gcd t.1 t.2 = 1) (hp : Sm m p) (e : vl t = vl p) : t = lo p.1 p.2 := by
  have h := lo_eq ht.ne hp.ne (vl_eq ht.pos hp.pos e)
  exact (lo_self ht.pos hc).symm.trans h
/-- -1, 0 or 1 -/
def cmpR (x y : Rat) : Int := if x < y then -1 else if y < x then 1 else 0
theorem cmpR_pos {x y : Rat} : 0 < cmpR x y ↔ y < x := by
  unfold cmpR
  split
  · constructor
    · omega
    · intro h; grind
  · split <;> simp_all
theorem cmpR_np {x y : Rat} : cmpR x y ≤ 0 ↔ x ≤ y := by
  have := cmpR_pos (x := x) (y := y)
  constructor
  · intro h
    have : ¬ y < x := fun z => by have := this.mpr z; omega
    grind
  · intro h
    have : ¬ 0 < cmpR x y := fun z => by have := this.mp z; grind
    omega
theorem cmpR_nn {x y : Rat} : 0 ≤ cmpR x y ↔ y ≤ x := by
  unfold cmpR
  split
  · constructor
    · intro h; omega
    · intro h; grind
  · split
    · constructor
      · intro h; grind
      · intro h; omega
    · constructor
      · intro h; grind
      · intro h; omega
/-- the fields of a Span -/
def sf (l h : Addr) : List (Str × V) := [("low", .ref l), ("high", .ref h)]
theorem ne_lh : ¬ (("low" : Str) = "high") := by decide +kernel
theorem sf_put (l h : Addr) : putF "high" (.ref h) (putF "low" (.ref l) []) = sf l h := by
  show (if ("low" : Str) = "high" then _ else (("low" : Str), V.ref l) :: putF "high" (.ref h) []) = sf l h
  rw [if_neg ne_lh]
  rfl
theorem sf_low (l h : Addr) : (sf l h).lookup ("low" : Str) = some (.ref l) := by simp [sf, List.lookup]
theorem sf_high (l h : Addr) : (sf l h).lookup ("high" : Str) = some (.ref h) := by
  have : (("high" : Str) == "low") = false := by decide +kernel
  simp [sf, List.lookup, this]
theorem sf_no (l h : Addr) {m : Str} (h1 : (m == "low") = false) (h2 : (m == "high") = false) : (sf l h).lookup m = none := by
  simp [sf, List.lookup, h1, h2]
/-- a Span from x to y -/
def SpV (S C : Addr) (H : Hp) (n : Nat) (s : Addr) (x y : Rat) : Prop := ∃ dx l h, H s = some (.ins S dx (sf l h)) ∧ RatV C H n l x ∧ RatV C H n h y
theorem SpV.ex {S C : Addr} {H H' : Hp} {n : Nat} {s : Addr} {x y : Rat} (r : SpV S C H n s x y) (e : Ex H H') : SpV S C H' n s x y := let ⟨dx, l, h, a, b, c⟩ := r; ⟨dx, l, h, e _ _ a, b.ex e, c.ex e⟩
theorem SpV.mono {S C : Addr} {H : Hp} {n m : Nat} {s : Addr} {x y : Rat} (r : SpV S C H n s x y) (e : n ≤ m) : SpV S C H m s x y := let ⟨dx, l, h, a, b, c⟩ := r; ⟨dx, l, h, a, b.mono e, c.mono e⟩
/-- a loop over a tuple, whatever its turn asks -/
theorem it_tup {K : PySem.W.Frag} {a : Addr} {xs : List V} {B : (Hp → Prop) → V → Hp → Prop} {H0 : Hp} {Qd : Hp → Prop} (Pv : Nat → Hp → Prop) (h0 : Pv 0 H0) (hl : ∀ i H, i ≤ xs.length → Pv i H → SqT K H a xs)
    (hs : ∀ i x H, xs[i]? = some x → Pv i H → B (Pv (i + 1)) x H) (hd : ∀ H, Pv xs.length H → Qd H) :
    ∃ W : Nat → Nat → Hp → Prop, (∃ m, W 0 m H0) ∧ ∀ i m H, W i m H →
      ((Itt K a).stop i H ∧ Qd H) ∨ ((Itt K a).go i H ∧ ∃ Nx : Hp → Prop, (∀ H', Nx H' → ∃ m', m' < m ∧ W (i + 1) m' H') ∧ ∀ x H', (Itt K a).yld i H x H' → B Nx x H') := by
  refine ⟨fun i m H => m = xs.length - i ∧ i ≤ xs.length ∧ Pv i H, ⟨xs.length, by simp, Nat.zero_le _, h0⟩, ?_⟩
  rintro i m H ⟨rfl, hi, p⟩
  have q := hl i H hi p
  by_cases hlt : i < xs.length
  · refine .inr ⟨⟨xs, xs[i], q, by simp [hlt]⟩, Pv (i + 1), fun H' p' => ⟨xs.length - (i + 1), by omega, rfl, hlt, p'⟩, fun x H' y => ?_⟩
    obtain ⟨e, y⟩ := y
    subst e
    exact hs i x _ (y xs q) p
  · have e : i = xs.length := by omega
    subst e
    exact .inl ⟨⟨xs, q, Nat.le_refl _⟩, hd H p⟩
/-- the Ratios at these addresses are worth these -/
def Fit (C : Addr) (H : Hp) : List Addr → List Rat → Prop
  | [], [] => True
  | a :: as, r :: rs => RatV C H 2001 a r ∧ Fit C H as rs
  | _, _ => False
theorem Fit.len {C : Addr} {H : Hp} : ∀ {as : List Addr} {rs : List Rat}, Fit C H as rs → as.length = rs.length
  | [], [], _ => rfl
  | _ :: _, _ :: _, h => congrArg (· + 1) (Fit.len h.2)
  | [], _ :: _, h => h.elim
  | _ :: _, [], h => h.elim
theorem Fit.app {C : Addr} {H : Hp} {y : Addr} {r : Rat} (hy : RatV C H 2001 y r) : ∀ {as : List Addr} {rs : List Rat}, Fit C H as rs → Fit C H (as ++ [y]) (rs ++ [r])
  | [], [], _ => ⟨hy, trivial⟩
  | _ :: _, _ :: _, h => ⟨h.1, Fit.app hy h.2⟩
  | [], _ :: _, h => h.elim
  | _ :: _, [], h => h.elim
theorem RatV.keep {C D : Addr} {H H' : Hp} {n : Nat} {a : Addr} {r : Rat} {xs : List V} (h : RatV C H n a r) (hD : H D = some (.lst xs)) (k : Keep D H H') : RatV C H' n a r := by
  obtain ⟨p, ⟨dx, z⟩, y⟩ := h
  refine ⟨p, ⟨dx, k _ _ z ?_⟩, y⟩
  intro e
  rw [e, hD] at z
  cases z
theorem Fit.keep {C D : Addr} {H H' : Hp} {xs : List V} (hD : H D = some (.lst xs)) (k : Keep D H H') : ∀ {as : List Addr} {rs : List Rat}, Fit C H as rs → Fit C H' as rs
  | [], [], _ => trivial
  | _ :: _, _ :: _, h => ⟨h.1.keep hD k, Fit.keep hD k h.2⟩
  | [], _ :: _, h => h.elim
  | _ :: _, [], h => h.elim
theorem Fit.ex {C : Addr} {H H' : Hp} (k : Ex H H') : ∀ {as : List Addr} {rs : List Rat}, Fit C H as rs → Fit C H' as rs
  | [], [], _ => trivial
  | _ :: _, _ :: _, h => ⟨h.1.ex k, Fit.ex k h.2⟩
  | [], _ :: _, h => h.elim
  | _ :: _, [], h => h.elim
def Els (C : Addr) (H : Hp) (D : Addr) (rs : List Rat) : Prop := ∃ ys : List Addr, H D = some (.lst (ys.map V.ref)) ∧ Fit C H ys rs
theorem Keep.exn {D : Addr} {H H' : Hp} (k : Keep D H H') (n : H D = none) : Ex H H' := fun b o e => k b o e (ne_of_none e n)
/-- one more of them -/
theorem Els.app {C D : Addr} {H H1 : Hp} {rs : List Rat} {y : Addr} {r : Rat} (h : Els C H D rs) (e : Ex H H1) (hy : RatV C H1 2001 y r) (l : rs.length < 4) :
    ∃ acc, H1 D = some (.lst acc) ∧ acc.length < sizeLine ∧ Els C (upd H1 D (.lst (acc ++ [.ref y]))) D (rs ++ [r]) := by
  obtain ⟨ys, h1, h2⟩ := h
  refine ⟨ys.map V.ref, e _ _ h1, ?_, ys ++ [y], ?_, ?_⟩
  · rw [List.length_map, h2.len, sizeLine_eq]
    omega
  · rw [upd_same, List.map_append]
    rfl
  · exact ((h2.ex e).app hy).keep (e _ _ h1) Keep.upd
/-- [e for x in (a, b) for y in (c, d)] -/
theorem lc22 {K : PySem.W.Frag} {C : Addr} {s o : V} {wi wi1 : TI} {te : TE} {f : Rat → Rat → Rat} {G : Rat → Prop} {H : Hp} {Q : VK} {a b c d : Addr} {ra rb rc rd : Rat}
    (ha : RatV C H 1000 a ra) (hb : RatV C H 1000 b rb) (hc : RatV C H 1000 c rc) (hd : RatV C H 1000 d rd) (gc : G rc) (gd : G rd)
    (hw : ∀ R, (∀ t H', Ex H H' → H' t = some (.tup [.ref a, .ref b]) → R (Itt K t) H') → wi [some s, some o, none, none] H R)
    (hw1 : ∀ u H2 R, Ex H H2 → (∀ t H', Ex H2 H' → H' t = some (.tup [.ref c, .ref d]) → R (Itt K t) H') → wi1 [some s, some o, some u, none] H2 R)
    (ht : ∀ u v ru rv H2 R, RatV C H2 1000 u ru → RatV C H2 1000 v rv → G rv → (∀ y H', Ex H2 H' → H2 y = none → RatV C H' 2001 y (f ru rv) → R (.ref y) H') → te [some s, some o, some (.ref u), some (.ref v)] H2 R)
    (k : ∀ L H' ys, Ex H H' → H' L = some (.lst (ys.map V.ref)) → Fit C H' ys [f ra rc, f ra rd, f rb rc, f rb rd] → Q (.ref L) H') :
    tLc2 wi (gName 2) tYes wi1 (gName 3) tYes te [2, 3] [3] [some s, some o, none, none] H Q := by
  refine hw _ fun t H1 e1 h1 => ?_
  intro D hD
  have tD : t ≠ D := ne_of_none h1 hD
  refine it_tup (xs := [.ref a, .ref b]) (fun i H' => Keep D H1 H' ∧ Els C H' D (([f ra rc, f ra rd, f rb rc, f rb rd] : List Rat).take (2 * i))) ⟨Keep.upd, [], upd_same, trivial⟩ (fun i H' _ p => SqT.of (p.1 _ _ h1 tD)) (fun i x H' hx p => ?_) (fun H' p => ?_)
  · obtain ⟨kp, els⟩ := p
    obtain ⟨u, ru, rfl, hu, i2, e2⟩ : ∃ u ru, x = V.ref u ∧ RatV C H 1000 u ru ∧ i < 2 ∧ ([f ra rc, f ra rd, f rb rc, f rb rd] : List Rat).take (2 * i + 1) = ([f ra rc, f ra rd, f rb rc, f rb rd] : List Rat).take (2 * i) ++ [f ru rc] ∧
        ([f ra rc, f ra rd, f rb rc, f rb rd] : List Rat).take (2 * (i + 1)) = ([f ra rc, f ra rd, f rb rc, f rb rd] : List Rat).take (2 * i + 1) ++ [f ru rd] := by
      match i, hx with
      | 0, z => cases z; exact ⟨a, ra, rfl, ha, by decide, rfl, rfl⟩
      | 1, z => cases z; exact ⟨b, rb, rfl, hb, by decide, rfl, rfl⟩
      | n + 2, z => simp at z
    refine ⟨rfl, hw1 _ _ _ (e1.trans (kp.exn hD)) fun t2 H4 e4 h4 => ?_⟩
    obtain ⟨ys, hy1, hy2⟩ := els
    have t2D : t2 ≠ D := ne_of h4 (e4 _ _ hy1) (by intro z; cases z)
    refine it_tup (xs := [.ref c, .ref d]) (fun j H' => Keep D H4 H' ∧ Els C H' D (([f ra rc, f ra rd, f rb rc, f rb rd] : List Rat).take (2 * i + j))) ⟨Keep.refl, ys, e4 _ _ hy1, hy2.ex e4⟩ (fun j H' _ p => SqT.of (p.1 _ _ h4 t2D)) (fun j x H5 hx p => ?_) (fun H5 p => ?_)
    · obtain ⟨kp5, els5⟩ := p
      have kk : Keep D H1 H5 := (kp.trans (Keep.of e4)).trans kp5
      have E5 : Ex H H5 := e1.trans (kk.exn hD)
      obtain ⟨v, rv, rfl, hv, gv, j2, ej⟩ : ∃ v rv, x = V.ref v ∧ RatV C H 1000 v rv ∧ G rv ∧ j < 2 ∧ ([f ra rc, f ra rd, f rb rc, f rb rd] : List Rat).take (2 * i + (j + 1)) = ([f ra rc, f ra rd, f rb rc, f rb rd] : List Rat).take (2 * i + j) ++ [f ru rv] := by
        match j, hx with
        | 0, z => cases z; exact ⟨c, rc, rfl, hc, gc, by decide, e2.1⟩
        | 1, z => cases z; exact ⟨d, rd, rfl, hd, gd, by decide, e2.2⟩
        | n + 2, z => simp at z
      refine ⟨rfl, ht u v ru rv H5 _ (hu.ex E5) (hv.ex E5) gv fun y H6 e6 ny ry => ?_⟩
      obtain ⟨acc, q1, q2, q3⟩ := els5.app e6 ry (by rw [List.length_take]; show min (2 * i + j) 4 < 4; omega)
      refine ⟨acc, q1, q2, (kp5.trans (Keep.of e6)).trans Keep.upd, ?_⟩
      rw [ej]
      exact q3
    · exact ⟨(kp.trans (Keep.of e4)).trans p.1, p.2⟩
  · obtain ⟨kp, ys, h3, h4⟩ := p
    exact k D H' ys (e1.trans (kp.exn hD)) h3 h4
end Fc
set_option Elab.async false
set_option linter.all false
set_option maxRecDepth 100000
set_option maxHeartbeats 4000000
set_option exponentiation.threshold 100000
/-! Euclid with Lamé's bound: 1500 steps do for a bottom below 2 ^ 1000. -/
namespace Fc
/-- two Fibonacci numbers in a row -/
def fib2 : Nat → Nat × Nat
  | 0 => (0, 1)
  | n + 1 => ((fib2 n).2, (fib2 n).1 + (fib2 n).2)
structure Lu (g N i a b : Nat) : Prop where
  gcd : Nat.gcd a b = g
  first : i = 0 → b ≤ N
  next : i ≠ 0 → b < a ∧ (fib2 i).1 * a + (fib2 (i - 1)).1 * b ≤ N
theorem Lu.start {a b N : Nat} (h : b ≤ N) : Lu (Nat.gcd a b) N 0 a b := ⟨rfl, fun _ => h, fun z => absurd rfl z⟩
theorem fib_step (n : Nat) : (fib2 (n + 2)).1 = (fib2 (n + 1)).1 + (fib2 n).1 := by
  show (fib2 n).1 + (fib2 n).2 = (fib2 n).2 + (fib2 n).1
  omega
theorem Lu.turn {g N i a b : Nat} (h : Lu g N i a b) (hb : b ≠ 0) : Lu g N (i + 1) b (a % b) := by
  have lt : a % b < b := Nat.mod_lt _ (by omega)
  refine ⟨?_, fun e => by omega, fun _ => ⟨lt, ?_⟩⟩
  · have := h.gcd
    rw [Nat.gcd_comm, ← Nat.gcd_rec, Nat.gcd_comm]
    exact this
  · rcases Nat.eq_zero_or_pos i with z | z
    · subst z
      have := h.first rfl
      show 1 * b + 0 * (a % b) ≤ N
      omega
    · obtain ⟨h1, h2⟩ := h.next (by omega)
      obtain ⟨j, rfl⟩ : ∃ j, i = j + 1 := ⟨i - 1, by omega⟩
      have hd := Nat.div_add_mod a b
      have q1 : 1 ≤ a / b := (Nat.one_le_div_iff (by omega)).mpr (by omega)
      have q2 : b * 1 ≤ b * (a / b) := Nat.mul_le_mul_left b q1
      have q3 : b + a % b ≤ a := by omega
      have q4 := Nat.mul_le_mul_left (fib2 (j + 1)).1 q3
      rw [Nat.mul_add] at q4
      show (fib2 (j + 2)).1 * b + (fib2 (j + 1)).1 * (a % b) ≤ N
      rw [fib_step, Nat.add_mul]
      have h2' : (fib2 (j + 1)).1 * a + (fib2 j).1 * b ≤ N := h2
      omega
/-- .. reckoned with two numbers -/
def fibL : Nat → Nat → Nat → Nat
  | 0, a, _ => a
  | n + 1, a, b => fibL n b (a + b)
theorem fibL_is (n : Nat) : ∀ k, fibL n (fib2 k).1 (fib2 k).2 = (fib2 (n + k)).1 := by
  induction n with
  | zero => intro k; rw [Nat.zero_add]; rfl
  | succ n ih =>
    intro k
    show fibL n (fib2 k).2 ((fib2 k).1 + (fib2 k).2) = _
    have := ih (k + 1)
    rw [show n + 1 + k = n + (k + 1) by omega]
    exact this
theorem fib_big : 2 ^ 1000 < (fib2 1500).1 := by
  have e : (fib2 1500).1 = fibL 1500 0 1 := (fibL_is 1500 0).symm
  rw [e]
  decide +kernel
theorem Lu.done {g N a b : Nat} (h : Lu g N 1500 a b) (hN : N ≤ 2 ^ 1000) : b = 0 := by
  obtain ⟨h1, h2⟩ := h.next (by decide)
  have := fib_big
  have q := Nat.mul_le_mul_left (fib2 1500).1 (show 1 ≤ a by omega)
  omega
theorem Lu.zero {g N i a : Nat} (h : Lu g N i a 0) : a = g := by
  have := h.gcd
  simpa using this
end Fc
set_option Elab.async false
set_option linter.all false
set_option maxRecDepth 100000
set_option maxHeartbeats 4000000
/-! An own error with an own __init__, raised where nothing is handled, with its context told; defs that are called within an except suite. -/
namespace Fc
open PySem PySem.Spec PyProof.Rows L2 L2H
section
variable {X : Cx} {CX : CXT} {k : Nat} {C fI : Addr} {fd : FuncData} {ps : List Str} {sp : Sp} {x : Str} {p pos : Pos} {e : Expr} {es : List Expr} {ta : TA}
/-- the new exception as the own __init__ finds it -/
theorem fresh_exc {pins : List (Addr × Obj)} {sl : L2.St} {H : Hp} {hp : Heap} {g : Array GenState} {dr : Drawn} {tk : Nat} {os : OsState} (I : Inv X pins sl H ⟨hp, g, dr, tk, os⟩) (us : List Value) :
    let h2 := (hp.push (PySem.W.kdv_tup us)).push (PySem.HandSPX.excO C hp.objs.size)
    (∀ b o, hp.get? b = some o → h2.get? b = some o) ∧ Inv X pins sl (upd H (hp.objs.size + 1) (exo (hp.objs.size + 1) C none)) ⟨h2, g, dr, tk, os⟩ := by
  have kp : ∀ b o, hp.get? b = some o → ((hp.push (PySem.W.kdv_tup us)).push (PySem.HandSPX.excO C hp.objs.size)).get? b = some o :=
    fun b o z => Heap.get?_push_of_some _ (Heap.get?_push_of_some _ z)
  have at_ : ((hp.push (PySem.W.kdv_tup us)).push (PySem.HandSPX.excO C hp.objs.size)).get? (hp.objs.size + 1) = some (PySem.HandSPX.excO C hp.objs.size) := by
    heap_get
  exact ⟨kp, I.laid (t' := tk) (a := hp.objs.size + 1) (o := exo (hp.objs.size + 1) C none) kp (Nat.le_succ _) (exo_ok at_)⟩
theorem pmk_oexN (T : OexC X.K C) (iC : PySem.W.findIn X.K (.ref C) "__init__" = some (some (.ref fI))) (tI : PySem.W.typeIn X.K (.ref fI) = some (.type "function")) (G : FnOk X.prog X.w X.K X.mg X.base CX k fI fd ps sp) (room : Room (k + 1) X.A)
    (bnd : Binds X.K fd ps []) (px : Passes CX X (fun _ _ _ => False)) (gl : Gl X x) (at_ : X.mg x = some (.ref C)) (args : PA X (e :: es) ta) (nd : (x == ("__debug__" : Str)) = false := by decide)
    (st : starEach (e :: es) X.env = (false, eval e X.env) :: starEach es X.env := by rfl) (pl : (backTo pos (starEach es X.env)).any (·.1) = false := by rfl) : L2N.PMk X (.Call (.Name x p) (e :: es) [] pos) (tMkO C sp [] ta) := fun pins s0 sl H0 Qx I0 want => by
  obtain ⟨_, _, _, _, bm, _, _, _, _, _, _, _, _, _, _, cls, ve⟩ := T.cls
  refine wpAny_Call_Name_kw (ld_glob I0 gl at_ (PySem.W.callWith_K (h₀ := X.base) I0.ok.mod.kin T.kC (thn (args.run pos pins s0 sl H0 _ I0 want) fun us s1 got => ?_) st pl) nd)
  obtain ⟨vs, H1, I1, rel, many, go⟩ := got
  refine ⟨I1.kIn, ?_⟩
  obtain ⟨hp, g, dr, tk, os⟩ := s1
  obtain ⟨kp, I2⟩ := fresh_exc (C := C) I1 us
  have go' := go (hp.objs.size + 1) (I1.hok.fresh (Nat.le_succ _))
  rw [List.append_nil] at go'
  have rel2 : Vals (V.ref (hp.objs.size + 1) :: vs) (Value.ref (hp.objs.size + 1) :: us) := .cons rfl rel
  have len2 : (Value.ref (hp.objs.size + 1) :: us ++ []).length = ps.length := by
    rw [List.append_nil, ← rel2.length]
    exact G.len _ _ _ _ go'
  have few : us.length ≤ sizeLine := by
    have := Paired.length rel
    rw [sizeLine_eq]
    omega
  have bd := bnd _ (Value.ref (hp.objs.size + 1) :: us) I2.kIn len2
  rw [List.append_nil] at bd
  have run := G.run _ X.stack _ _ ⟨Value.ref (hp.objs.size + 1) :: us, []⟩ (Value.ref (hp.objs.size + 1) :: us) _ _ (fun _ _ _ => False) (room.make C us []) (I2.env0.make C us []) bd rel2 go'
  refine wpAny_call (PySem.HandSPX.call_own F.excBase_ValueError (fun Y => PySem.HandSPX.refsVE_contains Y bm ve) (I1.kIn _ _ cls) (PySem.W.looks_findIn I1.kIn iC) (fun self => PySem.W.bind_fn I1.kIn self tI) few (codeAny_mono run fun r s' out => ?_))
  match r, out with
  | .error er, out => exact px pins sl _ _ er s' I2 out
  | .ok (.ret u), ⟨v, H2, os2, bare2, un2, hok2, rv, ev, d, fs, ea, ed, hd1, q2⟩ =>
    subst ev
    obtain ⟨h2, g2, d2, t2, os'⟩ := s'
    obtain ⟨t0, Gh, J, kG, ge, hoe, na⟩ := mk_end0 (d2 := d2) (t2 := t2) I1 (Nat.le_succ _) kp un2 hok2 os2 bare2 ea ed hd1
    exact ⟨rv, hp.objs.size + 1, _, _, ⟨Gh, g2, d2, t2, os'⟩, _, .ref C, some d, rfl, J, kG, ge, hoe, ⟨rfl, rfl, fun vs hv => by cases hv; rfl⟩, rfl, rfl, na, rfl, bare2, raises_own T.exC T.tyC, q2⟩
  | .ok .next, out => exact out.elim
  | .ok .brk, out => exact out.elim
  | .ok .cont, out => exact out.elim
end
theorem passLN {X : Cx} : Passes (L2N.CX X.prog X.w) X E0 := fun _ _ _ _ _ _ _ h => by
  rcases h with ⟨_, _, _, _, _, _, _, _, _, _, _, _, z⟩
  exact False.elim z
theorem takes0N {X : Cx} : L2N.Takes X (fun _ _ _ _ => False) := fun _ _ h => by
  rcases h with ⟨_, _, _, _, _, _, _, _, _, _, _, _, _, _, _, _, z⟩
  exact False.elim z
section
variable {P : Program} {w : World} {K : PySem.W.Frag} {mg : Str → Option Value} {base : Heap} {x qual : Str} {st : Stmt} {f : Addr} {fd : FuncData} {N ps : List Str} {k : Nat} {sp : Sp}
/-- a def that raises, the context of what it raises told -/
theorem fun_okN (D : Fun K x qual st f fd) (S : FnScope N ps (defScope st)) (len : ∀ vs H Q E, sp vs H Q E → vs.length = ps.length)
    (body : ∀ (cdv : Value) (A : Around) (outer : List Env) (s : Shared) (H : Hp) (vs : List V) (Q : VK) (E : XK), Room k (A.deeper (envOfC qual (defScope st) s.heap.objs.size f cdv)) → sp vs H Q E →
      ∃ t, PSs (cxOf (L2N.CX P w) P w K mg base N qual (defScope st) f cdv A outer s H E) (defBody st) t ∧ t { nx := fun _ H' => Q .non H', rt := Q } (L2.start N vs) H) : FnOk P w K mg base (L2N.CX P w) (k + 1) f fd ps sp := by
  obtain ⟨_, _, _, _, _, _, cdv, _, _, rfl, lk, cd⟩ := D.ex
  exact fn_of lk cd S len fun A outer s H vs Q E room q => body cdv A outer s H vs Q E room q
/-- a def that is called within an except suite -/
theorem fun_okH (D : Fun K x qual st f fd) (S : FnScope N ps (defScope st)) (len : ∀ vs H Q E, sp vs H Q E → vs.length = ps.length)
    (body : ∀ (cdv : Value) (A : Around) (outer : List Env) (s : Shared) (H : Hp) (vs : List V) (Q : VK) (E : XK) (p : Addr × Obj), RoomH k (A.deeper (envOfC qual (defScope st) s.heap.objs.size f cdv)) →
      HotC (cxH CX0 P w K mg base N qual (defScope st) f cdv A outer s H E p) → sp vs H Q E →
      ∃ t, PSs (cxH CX0 P w K mg base N qual (defScope st) f cdv A outer s H E p) (defBody st) t ∧ t { nx := fun _ H' => Q .non H', rt := Q } (L2.start N vs) H) : FnH P w K mg base CX0 (k + 1) f fd ps sp := by
  obtain ⟨_, _, _, _, _, _, cdv, _, _, rfl, lk, cd⟩ := D.ex
  exact fn_ofH lk cd S len fun A outer s H vs Q E p hot room q => body cdv A outer s H vs Q E p room ⟨p, ⟨hot.1, hot.2⟩, List.mem_cons_self⟩ q
end
theorem _root_.L2H.RoomH.u64 {k : Nat} {A : Around} (r : RoomH k A) : A.units + 64 < cLine := by
  have := r.un
  omega
theorem passH {X : Cx} : ∀ sl, PassesAt CX0 X sl E0 := fun _ _ _ _ _ _ _ h => h.elim
/-- the suite of a caught error whose context is None -/
theorem hot_suite {X : Cx} {a : Addr} {oe : Obj} {pn : List (Addr × Obj)} {cls : Value} {d : Option Addr} (hz : L2N.Zn cls d oe) (hf : ∃ vs, oe.data = .fields vs) : HotC (X.suite a ((a, oe) :: pn)) := by
  obtain ⟨vs, h⟩ := hf
  exact ⟨(a, oe), ⟨rfl, vs, h, hz.2.2 vs h⟩, List.mem_cons_self⟩
end Fc
set_option Elab.async false
set_option linter.all false
set_option maxRecDepth 100000
set_option maxHeartbeats 4000000
/-! More rules of mine: an own operator that raises in a try, a static method called off its class. -/
namespace Fc
open PySem PySem.Spec PyProof.Rows L2
section
variable {X : Cx} {CX : CXT} {k : Nat} {C f : Addr} {fd : FuncData} {ps : List Str} {sp : Sp}
def tOwnS (C : Addr) (sp : Sp) (E : L2.St → XK) (ta tb : TE) : TE := fun sl H Q => ta sl H fun x H1 => tb sl H1 fun y H2 => ∃ a b dx dy fs gs, x = .ref a ∧ y = .ref b ∧
  H2 a = some (.ins C dx fs) ∧ H2 b = some (.ins C dy gs) ∧ sp [.ref a, .ref b] H2 Q (E sl)
theorem pe_opS {op : Operator} {E : L2.St → XK} {a b : Expr} {ta tb : TE} {pos : Pos} (hc : PySem.W.selfFirst X.K C = true) (hs : PySem.W.findIn X.K (.ref C) (PySem.dunder op.info.2) = some (some (.ref f)))
    (hf : PySem.W.isFn X.K (.ref f) = true) (F : FnOk X.prog X.w X.K X.mg X.base CX k f fd ps sp) (hr : Room k X.A) (hb : Binds X.K fd ps []) (hx : ∀ sl, PassesAt CX X sl (E sl)) (ha : PE X a ta) (hbb : PE X b tb) :
    PE X (.BinOp a op b pos) (tOwnS C sp E ta tb) := by
  refine ⟨fun pins s sl H Q I h => ?_⟩
  refine wpAny_BinOp (binT ha hbb I h fun v u s2 x y H2 I2 rx ry q => ?_)
  obtain ⟨a, b, dx, dy, fs, gs, rfl, rfl, h1, h2, q⟩ := q
  cases rx
  cases ry
  obtain ⟨ox, od, J⟩ := inst_at I2 h1
  obtain ⟨oy, oe, J'⟩ := inst_at I2 h2
  obtain ⟨m, hF⟩ := I2.fr
  exact PySem.W.binop_K hF I2.ok.mod.kin J J'.type hc hs hf
    (thn (run_fnS (vs := [.ref a, .ref b]) (us := [.ref a, .ref b]) F hr hb (hx sl) I2 (.cons rfl (.cons rfl .nil)) q) fun _ _ z => cmpBack z)
/-! ### C.m(..), a static method -/
structure SMet (K : PySem.W.Frag) (C : Addr) (mc : Value) (m : Str) (p g : Addr) : Prop where
  at_ : PySem.W.findCls K (.ref C) mc m = some (.get (.builtin "staticmethod.__get__") (.ref p) .none (.ref C))
  rc : ∃ rest, PySem.W.recIn K p "staticmethod" = some (.ref g :: rest)
  kp : PySem.W.keepIn K (.ref g) = true
theorem getsm_ok {pins : List (Addr × Obj)} {σ : L2.St} {H : Hp} {s : Shared} {A : Around} {E : Value → Shared → Prop} {mc : Value} {m : Str} {p g : Addr} {pl : Sem Bool} {Q : Value × List Value → Shared → Prop} (I : Inv X pins σ H s)
    (r : ClX.CRead X.K C mc) (c : SMet X.K C mc m p g) (h : ∀ s', Inv X pins σ H s' → Q (.ref g, []) s') : wpAny (model X.prog X.w) A (getMethod (.ref C) m pl) Q E s := by
  obtain ⟨rest, hp⟩ := c.rc
  refine PySem.W.method_cls I.kIn r.ga ?_
  refine PySem.W.cls_bind I.kIn r.rd c.at_ ?_
  exact wpAny_call (PySem.W.sm_get (s := { s with toks := s.toks + 1 }) I.kIn hp (PySem.W.handed_on rfl (h _ (I.tok _))))
def tSMeth (C : Addr) (sp : Sp) (E : XK) (ta : TE) (t : TA) : TE := fun σ H Q => ta σ H fun x H1 => x = .ref C ∧ t σ H1 fun vs H2 => sp vs H2 Q E
theorem pe_smeth {o e : Expr} {es : List Expr} {m : Str} {apos pos : Pos} {pl : Sem Bool} {mc : Value} {p g : Addr} {E : XK} {ta : TE} {t : TA} (he : PE X o ta) (r : ClX.CRead X.K C mc) (c : SMet X.K C mc m p g)
    (F : FnOk X.prog X.w X.K X.mg X.base CX k g fd ps sp) (hr : Room k X.A) (hb : Binds X.K fd ps []) (hx : Passes CX X E) (ha : PA X (e :: es) t)
    (hst : starEach (e :: es) X.env = (false, eval e X.env) :: starEach es X.env := by rfl) (hpl : (backTo pos (starEach es X.env)).any (·.1) = false := by rfl)
    (ht : eval (.Call (.Attribute o m apos) (e :: es) [] pos) X.env = (do
      let ov ← eval o X.env
      standAt apos.atName
      let (f, first) ← holding [ov] (getMethod ov m pl)
      callWith pos f first (backTo pos (starEach (e :: es) X.env)) (backToKw pos (keywordEach [] X.env))) := by rfl) :
    PE X (.Call (.Attribute o m apos) (e :: es) [] pos) (tSMeth C sp E ta t) := by
  refine ⟨fun pins s σ H Q I h => ?_⟩
  refine PySem.W.methodCall_KW (pl := pl) (thn (he.run pins s σ H _ I h) fun u s1 ⟨x, H1, I1, rx, ex, q⟩ => ?_) ht
  subst ex
  obtain rfl : u = Value.ref C := rx
  refine getsm_ok I1 r c fun s2 I2 => ?_
  refine PySem.W.callWith_K (first := []) (h₀ := X.base) I2.ok.mod.kin c.kp ?_ hst hpl
  exact thn (ha.run pos pins s2 σ H1 _ I2 q) fun us s3 ⟨vs, H2, I3, rv, q2⟩ => ⟨I3.kIn, run_fn F hr hb .nil hx I3 rv (by rw [List.append_nil]; exact q2)⟩
end
end Fc
namespace Fc
open PySem PySem.Spec PyProof.Rows L2
/-- one of two readings -/
def rOr (r1 r2 : R2) : R2 := fun x y H Q => r1 x y H Q ∨ r2 x y H Q
theorem op_or {X : Cx} {f : Value → Value → Sem Value} {r1 r2 : R2} (h1 : OpR X f r1) (h2 : OpR X f r2) : OpR X f (rOr r1 r2) := fun pins s sl H x y u v Q I rx ry h => by
  rcases h with h | h
  · exact h1 pins s sl H x y u v Q I rx ry h
  · exact h2 pins s sl H x y u v Q I rx ry h
end Fc
set_option Elab.async false
set_option linter.all false
set_option maxRecDepth 100000
set_option maxHeartbeats 4000000
/-! What a fraction and a span are written as. -/
namespace Fc
open PySem PySem.Spec PyProof.Rows L2
/-- a whole number written -/
def itx (i : Int) : Str := Str.ofString (toString i)
theorem itx_len {i : Int} (h : i.natAbs.log2 < 1920) : (itx i).length ≤ 1921 := int_text_len_1921 h
/-- a fraction written -/
def rtx (p : Int × Int) : Str := if p.2 = 1 then itx p.1 else itx p.1 ++ "/" ++ itx p.2
theorem rtx_len {p : Int × Int} (h : p.1.natAbs.log2 < 1920) (g : p.2.natAbs.log2 < 1920) : (rtx p).length ≤ 4000 := by
  have a := itx_len h
  have b := itx_len g
  unfold rtx
  split
  · omega
  · rw [Str.length_append, Str.length_append]
    have : ("/" : Str).length = 1 := rfl
    omega
theorem Bd.lg {n : Nat} {i : Int} (h : Bd n i) (p : 0 < n := by decide) (l : n ≤ 1920 := by decide) : i.natAbs.log2 < 1920 := Nat.lt_of_lt_of_le (PySem.Flt.log2_lt_of p h) l
end Fc
set_option Elab.async false
set_option linter.all false
set_option maxRecDepth 100000
set_option maxHeartbeats 4000000
set_option exponentiation.threshold 100000
/-! str(int), f-strings of ints and int(text) for up to 4300 digits, where the interpreter's statics hold no limit of the program's own. -/
namespace Fc
open PySem PySem.Spec PyProof.Rows L2

theorem noDig {X : Cx} {pins : List (Addr × Obj)} {sl : L2.St} {H : Hp} {s : Shared} (I : Inv X pins sl H s)
    (h : PySem.W.nsIn X.K cStatics "sys.int_max_str_digits" = some none) : s.heap.NoDigits := by
  obtain ⟨mc, a, _⟩ := I.nolimit
  exact ⟨mc, a, PySem.W.ns_none_of I.kIn a h⟩

theorem call_strB {X : Cx} (hd : X.A.handled = none) (nd : PySem.W.nsIn X.K cStatics "sys.int_max_str_digits" = some none) :
    CallR X (.type "str") fun xs H Q => ∃ i : Int, xs = [.int i] ∧ i.natAbs < 10 ^ 4300 ∧ Q (.str (Str.ofString (toString i))) H := by
  intro pins s sl H xs us Q I r h
  obtain ⟨i, rfl, hl, q⟩ := h
  obtain ⟨u, rfl, t, rfl⟩ := vals1 r
  refine str_of_int_or hd (noDig I nd) (fun _ => ⟨.str _, _, I.tok _, ⟨_, rfl⟩, q⟩) (fun h => absurd h (by omega))

def tFmtB : TE → TE := fun te sl H Q => te sl H fun x H1 => ∃ i : Int, x = .int i ∧ i.natAbs < 10 ^ 4300 ∧ Q (.str (Str.ofString (toString i))) H1
theorem pe_fmtB {X : Cx} {e : Expr} {te : TE} {pos : Pos} (hd : X.A.handled = none) (nd : PySem.W.nsIn X.K cStatics "sys.int_max_str_digits" = some none) (he : PE X e te) :
    PE X (e.FormattedValue (-1) none pos) (tFmtB te) := by
  refine ⟨fun pins s sl H Q I h => ?_⟩
  refine wpAny_FormattedValue_plain (thn (he.run pins s sl H _ I h) fun v s1 hv => ?_)
  obtain ⟨x, H1, I1, r1, i, rfl, hl, q⟩ := hv
  obtain ⟨t, rfl⟩ := r1
  exact formatField_int hd (noDig I1 nd) (fun _ => ⟨.str _, _, I1.tok _, ⟨_, rfl⟩, q⟩) (fun h => absurd h (by omega))

theorem wp_maxDigits {M : Model} {A : Around} {E : Value → Shared → Prop} {s : Shared} {Q : Nat → Shared → Prop} (hd : s.heap.NoDigits) (h : Q 4300 s) :
    wpAny M A Builtin.intMaxStrDigits Q E s := by
  obtain ⟨mc, hn, hz⟩ := hd
  unfold Builtin.intMaxStrDigits
  refine wpAny_bind (wpAny_nsGet hn ?_)
  rw [hz]
  exact wpAny_pure h

theorem wp_textB {M : Model} {A : Around} {E : Value → Shared → Prop} {s : Shared} {Q : Value → Shared → Prop} {v : Value} {x : Str} {n : Int}
    (hd : s.heap.NoDigits) (hl : x.length ≤ 4300) (hn : intText? x = some n) (h : Q (.int n s.toks) { s with toks := s.toks + 1 }) :
    wpAny M A ((int_private% "intFromText") v (numTextOf x) 10) Q E s := by
  by_cases c : (numSeenOf x).length ≤ 640
  · rcases read0 x c with ⟨m, h1, h2, h3⟩ | ⟨h1, _⟩
    · rw [hn] at h1
      cases h1
      exact PySem.W.KIN.wp_text c h3 h2 h
    · rw [hn] at h1
      cases h1
  · rcases read4300 x (by have : sizeLine = 16777216 := by decide
                          omega) with ⟨m, h1, h2, h3⟩ | ⟨h1, _⟩
    · rw [hn] at h1
      cases h1
      refine wpAny_ite_false (decide_eq_false c) (wpAny_bind (wp_maxDigits hd ?_))
      show wpAny M A (match (int_private% "readNumeral") 4300 10 (numSeenOf x) with | _ => _) Q E s
      rw [h3]
      exact wpAny_ite_true (decide_eq_true h2) (wpAny_mkInt' h)
    · rw [hn] at h1
      cases h1

theorem wp_newB {M : Model} {A : Around} {E : Value → Shared → Prop} {s : Shared} {Q : Value → Shared → Prop} {x : Str} {u : Tok} {n : Int}
    (hd : s.heap.NoDigits) (hl : x.length ≤ 4300) (hn : intText? x = some n) (h : Q (.int n s.toks) { s with toks := s.toks + 1 }) :
    wpAny M A (Builtin.«int.__new__» { pos := [.type "int", .str x u] }) (fun fin s' => ∃ v, fin = .done (.ret v) ∧ Q v s') E s := by
  obtain ⟨hp, g, d, tk, os⟩ := s
  have f1 := PySem.F.conv_sub_int
  have f2 := PySem.F.madeHere_int
  have f3 := PySem.W.KIN.str_int
  have f4 := PySem.W.KIN.str_idx
  have f5 := PySem.W.KIN.str_trunc
  refine wpAny_bind (wpAny_pure (wpAny_ite_false rfl (wpAny_bind (wpAny_of_eq f1 (wpAny_ite_false rfl (wpAny_bind (wpAny_of_eq f2 (wpAny_ite_false rfl (wpAny_ite_false rfl (wpAny_bind ?_))))))))))
  refine wpAny_pure (wpAny_bind (wpAny_bind (wpAny_bind (wpAny_specialOf_val rfl f3 (wpAny_pure (wpAny_bind (wpAny_specialOf_val rfl f4 (wpAny_ite_false rfl (wpAny_bind (wpAny_specialOf_val rfl f5 (wpAny_bind (wpAny_bind ?_)))))))))))) 
  refine wpAny_pure (wpAny_pure (wp_textB hd hl hn (wpAny_ite_true rfl (wpAny_pure ⟨_, rfl, h⟩))))

theorem call_intB {X : Cx} (nd : PySem.W.nsIn X.K cStatics "sys.int_max_str_digits" = some none) :
    CallR X (.type "int") fun xs H Q => ∃ (a : Str) (n : Int), xs = [.str a] ∧ intText? a = some n ∧ a.length ≤ 4300 ∧ Q (.int n) H := by
  intro pins s sl H xs us Q I r h
  obtain ⟨a, n, rfl, hn, hl, q⟩ := h
  obtain ⟨u, rfl, t, rfl⟩ := vals1 r
  refine call_int_1 (S := fun A R s => s.heap.NoDigits ∧ R (.ok (.ret (.int n s.toks))) { s with toks := s.toks + 1 }) (fun prog w A R s h => ?_) ⟨noDig I nd, rfl, ?_⟩
  · refine thn (wp_newB h.1 hl hn h.2 (Q := fun v s' => R (.ok (.ret v)) s')) fun fin s1 hv => ?_
    obtain ⟨v, rfl, q⟩ := hv
    exact q
  · exact ⟨.int _, _, I.tok _, ⟨_, rfl⟩, q⟩
end Fc
set_option Elab.async false
set_option linter.all false
set_option maxRecDepth 100000
set_option maxHeartbeats 4000000
/-! Written forms of whole numbers and fractions, as lists of codes. -/
namespace Fc
open PySem PySem.Spec PyProof.Rows L2 TL

theorem numL_head {n : Nat} (h : 1 ≤ n) : ∃ c r, numL n = c :: r ∧ 49 ≤ c ∧ c ≤ 57 := by
  induction n using Nat.strongRecOn with
  | _ n ih =>
    by_cases c : n < 10
    · exact ⟨48 + n, [], numL_lt c, by omega, by omega⟩
    · obtain ⟨d, r, e, d1, d2⟩ := ih (n / 10) (by omega) (by omega)
      exact ⟨d, r ++ [48 + n % 10], by rw [numL_step (by omega), e]; rfl, d1, d2⟩
theorem numL_zero : numL 0 = [48] := numL_lt (by omega)
theorem numL_dig {n c : Nat} (h : c ∈ numL n) : 48 ≤ c ∧ c ≤ 57 := numL_digits n c h

theorem digitsVal_snoc (l : List Nat) (c : Nat) : NumText.digitsVal (l ++ [c]) = NumText.digitsVal l * 10 + (c - 48) := by
  unfold NumText.digitsVal
  rw [List.foldl_append]
  rfl
/-- digits that do not begin with 0 are the number's own -/
theorem numL_back : ∀ (n : Nat) (l : List Nat), l.length = n → NumText.AllDigits l → (∃ c r, l = c :: r ∧ 49 ≤ c) → numL (NumText.digitsVal l) = l ∧ 1 ≤ NumText.digitsVal l := by
  intro n
  induction n with
  | zero => intro l hl _ ⟨c, r, e, _⟩; rw [e] at hl; cases hl
  | succ n ih =>
    intro l hl hd ⟨c, r, e, hc⟩
    by_cases z : r = []
    · subst z; subst e
      have := hd c (by simp)
      have v : NumText.digitsVal [c] = c - 48 := by show 0 * 10 + (c - 48) = _; omega
      rw [v, numL_lt (by omega)]
      exact ⟨by congr 1; omega, by omega⟩
    · obtain ⟨m, d, hm⟩ : ∃ m d, l = m ++ [d] := by
        have hne : l ≠ [] := by rw [e]; intro z; cases z
        exact ⟨l.dropLast, l.getLast hne, (List.dropLast_concat_getLast hne).symm⟩
      have hm2 : ∃ r', m = c :: r' := by
        cases m with
        | nil => rw [hm] at e; simp at e; exact absurd e.2 z
        | cons a m' => rw [hm] at e; simp at e; exact ⟨m', by rw [e.1]⟩
      obtain ⟨r', hm3⟩ := hm2
      obtain ⟨h1, h2⟩ := ih m (by rw [hm, List.length_append] at hl; simpa using hl) (fun x hx => hd x (by rw [hm]; simp [hx])) ⟨c, r', hm3, hc⟩
      have dd := hd d (by rw [hm]; simp)
      rw [hm, digitsVal_snoc, numL_step (by omega)]
      refine ⟨?_, by omega⟩
      rw [show (NumText.digitsVal m * 10 + (d - 48)) / 10 = NumText.digitsVal m by omega, h1]
      congr 2; omega
theorem digitsVal_lt : ∀ (n : Nat) (l : List Nat), l.length = n → NumText.AllDigits l → NumText.digitsVal l < 10 ^ n := by
  intro n
  induction n with
  | zero => intro l hl _; rw [List.length_eq_zero_iff.mp hl]; decide
  | succ n ih =>
    intro l hl h
    have hne : l ≠ [] := by intro z; rw [z] at hl; cases hl
    have hm := (List.dropLast_concat_getLast hne).symm
    have := ih l.dropLast (by rw [List.length_dropLast]; omega) fun x hx => h x (List.dropLast_subset _ hx)
    have := h (l.getLast hne) (List.getLast_mem hne)
    rw [hm, digitsVal_snoc, Nat.pow_succ]
    omega

def itL (i : Int) : List Nat := if i < 0 then 45 :: numL i.natAbs else numL i.natAbs
theorem tl_itx (i : Int) : tl (itx i) = itL i := by
  unfold itx itL
  cases i with
  | ofNat n => rw [if_neg (show ¬ Int.ofNat n < 0 from Int.not_lt.mpr (Int.natCast_nonneg n))]; exact tl_num n
  | negSucc n =>
    rw [if_pos (Int.negSucc_lt_zero n)]
    have : (toString (Int.negSucc n) : String) = "-" ++ toString ((n + 1 : Nat) : Int) := rfl
    rw [this, tl_ofString, String.toList_append, List.map_append, ← tl_ofString, ← tl_ofString, tl_num]
    rfl
theorem itL_nat {i : Int} (h : 0 ≤ i) : itL i = numL i.natAbs := if_neg (by omega)
theorem itL_neg {i : Int} (h : i < 0) : itL i = 45 :: numL i.natAbs := if_pos h
theorem itL_ne (i : Int) : itL i ≠ [] := by
  unfold itL
  split
  · intro z; cases z
  · exact numL_ne _
theorem itL_mem {i : Int} {c : Nat} (h : c ∈ itL i) : c = 45 ∨ (48 ≤ c ∧ c ≤ 57) := by
  unfold itL at h
  split at h
  · rcases List.mem_cons.mp h with h | h
    · exact .inl h
    · exact .inr (numL_dig h)
  · exact .inr (numL_dig h)
theorem itL_tail {i : Int} {c : Nat} {r : List Nat} (h : itL i = c :: r) : 45 ∉ r := by
  intro m
  by_cases s : i < 0
  · rw [itL_neg s] at h
    cases h
    have := numL_dig m
    omega
  · rw [itL_nat (by omega)] at h
    have := numL_dig (n := i.natAbs) (c := 45) (by rw [h]; simp [m])
    omega
theorem itL_slash (i : Int) : 47 ∉ itL i := fun h => by rcases itL_mem h with h | h <;> omega
theorem itL_inj {i j : Int} (h : itL i = itL j) : i = j := by
  by_cases a : i < 0 <;> by_cases b : j < 0
  · rw [itL_neg a, itL_neg b] at h
    have := numL_inj (List.cons.inj h).2
    omega
  · rw [itL_neg a, itL_nat (by omega)] at h
    have := numL_dig (n := j.natAbs) (c := 45) (by rw [← h]; simp)
    omega
  · rw [itL_neg b, itL_nat (by omega)] at h
    have := numL_dig (n := i.natAbs) (c := 45) (by rw [h]; simp)
    omega
  · rw [itL_nat (by omega), itL_nat (by omega)] at h
    have := numL_inj h
    omega
theorem itL_lead {i : Int} {r : List Nat} (h : itL i = 48 :: r) : r = [] := by
  by_cases a : i < 0
  · rw [itL_neg a] at h; cases h
  · rw [itL_nat (by omega)] at h
    by_cases z : i.natAbs = 0
    · rw [z, numL_zero] at h; cases h; rfl
    · obtain ⟨c, r', e, h1, _⟩ := numL_head (n := i.natAbs) (by omega)
      rw [e] at h; cases h; omega
theorem itL_minus {i : Int} {r : List Nat} (h : itL i = 45 :: r) : ∃ c r', r = c :: r' ∧ 49 ≤ c := by
  by_cases a : i < 0
  · rw [itL_neg a] at h; cases h
    obtain ⟨c, r', e, h1, _⟩ := numL_head (n := i.natAbs) (by omega)
    exact ⟨c, r', e, h1⟩
  · rw [itL_nat (by omega)] at h
    have := numL_dig (n := i.natAbs) (c := 45) (by rw [h]; simp)
    omega
theorem itL_len {i : Int} {k : Nat} (h : i.natAbs < 10 ^ k) (k0 : 0 < k) : (itL i).length ≤ k + 1 := by
  have := numL_len k0 h
  unfold itL
  split
  · rw [List.length_cons]; omega
  · omega
/-- int(text) of what str wrote -/
theorem int_itx {i : Int} (h : (itL i).length ≤ 4300) : intText? (itx i) = some i := by
  by_cases a : i < 0
  · have e := tl_itx i
    rw [itL_neg a] at e
    have := intText_neg (x := itx i) e (numL_digits _) (numL_ne _) (by rw [len_tl, tl_itx]; exact h)
    rw [this, numL_val]
    congr 1; omega
  · have e := tl_itx i
    rw [itL_nat (by omega)] at e
    have := intText_digits (x := itx i) (by show NumText.AllDigits (tl (itx i)); rw [e]; exact numL_digits _) (by show tl (itx i) ≠ []; rw [e]; exact numL_ne _) (by rw [len_tl, tl_itx]; exact h)
    rw [this]
    show some ((NumText.digitsVal (tl (itx i)) : Nat) : Int) = _
    rw [e, numL_val]
    congr 1; omega

/-- a fraction in lowest terms -/
def Wl (p : Int × Int) : Prop := 0 < p.2 ∧ Int.gcd p.1 p.2 = 1
def rtL (p : Int × Int) : List Nat := if p.2 = 1 then itL p.1 else itL p.1 ++ 47 :: itL p.2
theorem tl_slash : tl ("/" : Str) = [47] := by rfl
theorem tl_rtx (p : Int × Int) : tl (rtx p) = rtL p := by
  unfold rtx rtL
  split
  · exact tl_itx _
  · rw [tl_append, tl_append, tl_itx, tl_itx, tl_slash, List.append_assoc]; rfl
theorem rtL_one {p : Int × Int} (h : p.2 = 1) : rtL p = itL p.1 := if_pos h
theorem rtL_two {p : Int × Int} (h : p.2 ≠ 1) : rtL p = itL p.1 ++ 47 :: itL p.2 := if_neg h
theorem itL_head (i : Int) : ∃ c r, itL i = c :: r ∧ c ≠ 47 := by
  cases e : itL i with
  | nil => exact absurd e (itL_ne i)
  | cons c r => exact ⟨c, r, rfl, fun z => itL_slash i (by rw [e, z]; simp)⟩
theorem rtL_head (p : Int × Int) : ∃ c r, rtL p = c :: r ∧ c ≠ 47 := by
  obtain ⟨c, r, e, h⟩ := itL_head p.1
  by_cases d : p.2 = 1
  · exact ⟨c, r, by rw [rtL_one d, e], h⟩
  · exact ⟨c, r ++ 47 :: itL p.2, by rw [rtL_two d, e]; rfl, h⟩
/-- L1 -/
theorem rtL_mem {p : Int × Int} {c : Nat} (h : c ∈ rtL p) : c = 45 ∨ (47 ≤ c ∧ c ≤ 57) := by
  by_cases d : p.2 = 1
  · rw [rtL_one d] at h
    rcases itL_mem h with h | h
    · exact .inl h
    · exact .inr (by omega)
  · rw [rtL_two d] at h
    rcases List.mem_append.mp h with h | h
    · rcases itL_mem h with h | h
      · exact .inl h
      · exact .inr (by omega)
    · rcases List.mem_cons.mp h with h | h
      · exact .inr (by omega)
      · rcases itL_mem h with h | h
        · exact .inl h
        · exact .inr (by omega)
/-- L2 -/
theorem rtL_tail {p : Int × Int} (hp : Wl p) {c : Nat} {r : List Nat} (h : rtL p = c :: r) : 45 ∉ r := by
  obtain ⟨d, s, e, _⟩ := itL_head p.1
  by_cases o : p.2 = 1
  · rw [rtL_one o] at h
    exact itL_tail h
  · rw [rtL_two o, e] at h
    cases h
    intro m
    rcases List.mem_append.mp m with m | m
    · exact itL_tail e m
    · rcases List.mem_cons.mp m with m | m
      · cases m
      · rw [itL_nat (by have := hp.1; omega)] at m
        have := numL_dig m
        omega
theorem itL_count (i : Int) : (itL i).count 47 = 0 := List.count_eq_zero.mpr (itL_slash i)
/-- L3 -/
theorem rtL_count (p : Int × Int) : (rtL p).count 47 ≤ 1 := by
  by_cases o : p.2 = 1
  · rw [rtL_one o, itL_count]; omega
  · rw [rtL_two o, List.count_append, List.count_cons, itL_count, itL_count]
    simp
/-- L5 -/
theorem rtL_lead {p : Int × Int} {r : List Nat} (h : rtL p = 48 :: r) : r = [] ∨ ∃ s, r = 47 :: s := by
  by_cases o : p.2 = 1
  · rw [rtL_one o] at h
    exact .inl (itL_lead h)
  · rw [rtL_two o] at h
    obtain ⟨d, s, e, _⟩ := itL_head p.1
    rw [e] at h
    cases h
    rw [itL_lead e]
    exact .inr ⟨_, rfl⟩
theorem rtL_minus {p : Int × Int} {r : List Nat} (h : rtL p = 45 :: r) : ∃ c s, r = c :: s ∧ 49 ≤ c := by
  by_cases o : p.2 = 1
  · rw [rtL_one o] at h
    exact itL_minus h
  · rw [rtL_two o] at h
    obtain ⟨d, s, e, _⟩ := itL_head p.1
    rw [e] at h
    cases h
    obtain ⟨c, t, e2, h2⟩ := itL_minus e
    exact ⟨c, t ++ 47 :: itL p.2, by rw [e2]; rfl, h2⟩
/-- L6 -/
theorem split_one {a b c d : List Nat} (ha : 47 ∉ a) (hc : 47 ∉ c) (h : a ++ 47 :: b = c ++ 47 :: d) : a = c ∧ b = d := by
  induction a generalizing c with
  | nil =>
    cases c with
    | nil => exact ⟨rfl, (List.cons.inj h).2⟩
    | cons x c => exact absurd (by rw [← (List.cons.inj h).1]; simp) hc
  | cons y a ih =>
    cases c with
    | nil => exact absurd (by rw [(List.cons.inj h).1]; simp) ha
    | cons x c =>
      obtain ⟨h1, h2⟩ := List.cons.inj h
      obtain ⟨h3, h4⟩ := ih (fun z => ha (by simp [z])) (fun z => hc (by simp [z])) h2
      exact ⟨by rw [h1, h3], h4⟩
theorem rtL_split {p : Int × Int} {a b : List Nat} (ha : 47 ∉ a) (h : rtL p = a ++ 47 :: b) : a = itL p.1 ∧ b = itL p.2 ∧ p.2 ≠ 1 := by
  by_cases o : p.2 = 1
  · rw [rtL_one o] at h
    exact absurd (by rw [h]; simp) (itL_slash p.1)
  · rw [rtL_two o] at h
    obtain ⟨h1, h2⟩ := split_one (itL_slash _) ha h
    exact ⟨h1.symm, h2.symm, o⟩
theorem rtL_inj {p q : Int × Int} (h : rtL p = rtL q) : p = q := by
  by_cases o : p.2 = 1
  · by_cases o2 : q.2 = 1
    · rw [rtL_one o, rtL_one o2] at h
      exact Prod.ext (itL_inj h) (by rw [o, o2])
    · rw [rtL_one o, rtL_two o2] at h
      exact absurd (by rw [h]; simp) (itL_slash p.1)
  · rw [rtL_two o] at h
    obtain ⟨h1, h2, _⟩ := rtL_split (itL_slash _) h.symm
    exact Prod.ext (itL_inj h1) (itL_inj h2)

/-- no written form -/
def NotW (l : List Nat) : Prop := ∀ p, Wl p → rtL p ≠ l
theorem nw_nil : NotW [] := fun p _ h => by obtain ⟨c, r, e, _⟩ := rtL_head p; rw [e] at h; cases h
theorem nw_mem {l : List Nat} {c : Nat} (h : c ∈ l) (n : ¬ (c = 45 ∨ (47 ≤ c ∧ c ≤ 57))) : NotW l := fun p _ e => n (rtL_mem (p := p) (by rw [e]; exact h))
theorem nw_tail {c : Nat} {r : List Nat} (h : 45 ∈ r) : NotW (c :: r) := fun p hp e => rtL_tail hp e h
theorem nw_tail2 {a b : List Nat} (ha : a ≠ []) (h : 45 ∈ b) : NotW (a ++ b) := by
  cases a with
  | nil => exact absurd rfl ha
  | cons x a => exact nw_tail (List.mem_append.mpr (.inr h))
theorem nw_count {l : List Nat} (h : 2 ≤ l.count 47) : NotW l := fun p _ e => by have := rtL_count p; rw [e] at this; omega
theorem nw_slash (r : List Nat) : NotW (47 :: r) := fun p _ e => by obtain ⟨c, s, e2, h⟩ := rtL_head p; rw [e] at e2; cases e2; exact h rfl
theorem nw_minus1 : NotW [45] := fun p _ e => by obtain ⟨c, s, e2, _⟩ := rtL_minus e; cases e2
theorem nw_minus2 {c : Nat} (h : c < 49) (r : List Nat) : NotW (45 :: c :: r) := fun p _ e => by obtain ⟨d, s, e2, _⟩ := rtL_minus e; cases e2; omega
theorem nw_lead {c : Nat} (h : c ≠ 47) (r : List Nat) : NotW (48 :: c :: r) := fun p _ e => by
  rcases rtL_lead e with z | ⟨s, z⟩
  · cases z
  · cases z; exact h rfl
theorem nw_zero (p : Int × Int) : NotW (48 :: rtL p) := by
  obtain ⟨c, r, e, h⟩ := rtL_head p
  rw [e]
  exact nw_lead h r
theorem nw_below {i : Int} {b : List Nat} (h : ∀ n : Int, 0 < n → n ≠ 1 → itL n ≠ b) : NotW (itL i ++ 47 :: b) := fun p hp e => by
  obtain ⟨_, h2, h3⟩ := rtL_split (itL_slash _) e
  exact h p.2 hp.1 h3 h2.symm
theorem pos_head {n : Int} (h : 0 < n) : ∃ c r, itL n = c :: r ∧ 49 ≤ c := by
  rw [itL_nat (by omega)]
  obtain ⟨c, r, e, h, _⟩ := numL_head (n := n.natAbs) (by omega)
  exact ⟨c, r, e, h⟩
theorem nw_below0 (i : Int) : NotW (itL i ++ [47]) := nw_below fun n _ _ h => itL_ne n h
theorem nw_below1 (i : Int) : NotW (itL i ++ [47, 49]) := nw_below fun n h0 h1 h => h1 (itL_inj (j := 1) h)
theorem nw_belowz (i : Int) (r : List Nat) : NotW (itL i ++ 47 :: 48 :: r) := nw_below fun n h0 h1 h => by
  obtain ⟨c, s, e, h2⟩ := pos_head h0
  rw [e] at h
  cases h
  omega
theorem nw_times {p : Int × Int} {t : Int} (ht : 2 ≤ t) : NotW (itL (p.1 * t) ++ 47 :: itL (p.2 * t)) := fun q hq e => by
  obtain ⟨h1, h2, _⟩ := rtL_split (itL_slash _) e
  have e1 := itL_inj h1
  have e2 := itL_inj h2
  have g := hq.2
  rw [← e1, ← e2, Int.gcd_mul_right] at g
  have := Nat.eq_one_of_mul_eq_one_left g
  omega
/-- the digits of a text that repeats one -/
theorem rep_own {c : Nat} (h : 49 ≤ c) (g : c ≤ 57) (k : Nat) : numL (NumText.digitsVal (List.replicate (k + 1) c)) = List.replicate (k + 1) c ∧ 1 ≤ NumText.digitsVal (List.replicate (k + 1) c) :=
  numL_back (k + 1) _ (by simp) (fun x hx => by have := List.eq_of_mem_replicate hx; omega) ⟨c, _, rfl, h⟩
end Fc
set_option Elab.async false
set_option linter.all false
set_option maxRecDepth 100000
set_option maxHeartbeats 4000000
set_option exponentiation.threshold 100000
/-! Instances with many fields; what is no list stays; list.count of truth values; Euclid within the bits of its divisor. -/
namespace Fc
open PySem PySem.Spec PyProof.Rows L2
/-! ### fields by names -/
theorem zip_get {ns : List Str} {vs : List V} {i : Nat} {n : Str} {v : V} (nd : ns.Nodup) (hn : ns[i]? = some n) (hv : vs[i]? = some v) : (ns.zip vs).lookup n = some v := by
  induction ns generalizing vs i with
  | nil => cases hn
  | cons m ns ih =>
    obtain ⟨nm, nd'⟩ := List.nodup_cons.mp nd
    cases vs with
    | nil => cases hv
    | cons w vs =>
      cases i with
      | zero =>
        cases hn
        cases hv
        simp [List.lookup]
      | succ i =>
        have hn' : ns[i]? = some n := by simpa using hn
        have hv' : vs[i]? = some v := by simpa using hv
        have ne : (n == m) = false := by
          rw [beq_eq_false_iff_ne]
          intro e
          subst e
          exact nm (List.mem_of_getElem? hn')
        show (match n == m with | true => some w | false => List.lookup n (ns.zip vs)) = some v
        rw [ne]
        exact ih nd' hn' hv'
theorem zip_no {ns : List Str} {vs : List V} {n : Str} (h : n ∉ ns) : (ns.zip vs).lookup n = none := by
  induction ns generalizing vs with
  | nil => rfl
  | cons m ns ih =>
    cases vs with
    | nil => rfl
    | cons w vs =>
      have ne : (n == m) = false := by
        rw [beq_eq_false_iff_ne]
        intro e
        exact h (by rw [e]; exact List.mem_cons_self)
      show (match n == m with | true => some w | false => List.lookup n (ns.zip vs)) = none
      rw [ne]
      exact ih (fun z => h (List.mem_cons_of_mem _ z))
theorem put_new {ns : List Str} {vs : List V} {n : Str} {v : V} (h : n ∉ ns) (l : ns.length = vs.length) : putF n v (ns.zip vs) = (ns ++ [n]).zip (vs ++ [v]) := by
  induction ns generalizing vs with
  | nil =>
    cases vs with
    | nil => rfl
    | cons w vs => cases l
  | cons m ns ih =>
    cases vs with
    | nil => cases l
    | cons w vs =>
      have ne : ¬ (m = n) := fun e => h (by rw [e]; exact List.mem_cons_self)
      show (if m = n then _ else (m, w) :: putF n v (ns.zip vs)) = _
      rw [if_neg ne, ih (fun z => h (List.mem_cons_of_mem _ z)) (by simpa using l)]
      rfl
theorem put_old {ns : List Str} {vs : List V} {i : Nat} {n : Str} {v w : V} (nd : ns.Nodup) (hn : ns[i]? = some n) (hv : vs[i]? = some w) : putF n v (ns.zip vs) = ns.zip (vs.set i v) := by
  induction ns generalizing vs i with
  | nil => cases hn
  | cons m ns ih =>
    obtain ⟨nm, nd'⟩ := List.nodup_cons.mp nd
    cases vs with
    | nil => cases hv
    | cons u vs =>
      cases i with
      | zero =>
        cases hn
        show (if n = n then (n, v) :: ns.zip vs else _) = _
        rw [if_pos rfl]
        rfl
      | succ i =>
        have hn' : ns[i]? = some n := by simpa using hn
        have hv' : vs[i]? = some w := by simpa using hv
        have ne : ¬ (m = n) := by
          intro e
          subst e
          exact nm (List.mem_of_getElem? hn')
        show (if m = n then _ else (m, u) :: putF n v (ns.zip vs)) = _
        rw [if_neg ne, ih nd' hn' hv']
        rfl
/-! ### what is no list stays -/
def NL (H H' : Hp) : Prop := ∀ b o, H b = some o → (∀ xs, o ≠ .lst xs) → H' b = some o
theorem NL.refl {H : Hp} : NL H H := fun _ _ h _ => h
theorem NL.of {H H' : Hp} (h : Ex H H') : NL H H' := fun b o e _ => h b o e
theorem NL.trans {H H1 H2 : Hp} (a : NL H H1) (b : NL H1 H2) : NL H H2 := fun c o h n => b c o (a c o h n) n
theorem NL.keep {p : Addr} {H H' : Hp} {xs : List V} (hp : H p = some (.lst xs)) (k : Keep p H H') : NL H H' := fun c o h n => k c o h fun e => by
  subst e
  rw [hp] at h
  cases h
  exact n _ rfl
theorem NL.tup {H H' : Hp} {a : Addr} {xs : List V} (k : NL H H') (h : H a = some (.tup xs)) : H' a = some (.tup xs) := k _ _ h fun _ z => by cases z
theorem NL.ins {H H' : Hp} {a C dx : Addr} {fs : List (Str × V)} (k : NL H H') (h : H a = some (.ins C dx fs)) : H' a = some (.ins C dx fs) := k _ _ h fun _ z => by cases z
theorem RatAt.nl {C : Addr} {H H' : Hp} {a : Addr} {p : Int × Int} (r : RatAt C H a p) (k : NL H H') : RatAt C H' a p := let ⟨dx, h⟩ := r; ⟨dx, k.ins h⟩
theorem RatV.nl {C : Addr} {H H' : Hp} {n : Nat} {a : Addr} {r : Rat} (h : RatV C H n a r) (k : NL H H') : RatV C H' n a r := let ⟨p, x, y⟩ := h; ⟨p, x.nl k, y⟩
theorem Pr.nl {H H' : Hp} {a : Addr} {p : Int × Int} (r : Pr H a p) (k : NL H H') : Pr H' a p := k.tup r
theorem PrV.nl {H H' : Hp} {n : Nat} {a : Addr} {r : Rat} (h : PrV H n a r) (k : NL H H') : PrV H' n a r := let ⟨p, x, y⟩ := h; ⟨p, x.nl k, y⟩
/-! ### a pot whose two lists are known -/
def PotL (H : Hp) (p l : Addr) : Prop := ∃ (cs : List Int) (i c : Int), p ≠ l ∧ H p = some (.lst [.ref l, .int i, .int c]) ∧ H l = some (.lst (cs.map V.int)) ∧ cs.length ≤ 63 ∧ 0 ≤ i ∧ 0 ≤ c ∧ ∀ z ∈ cs, 0 ≤ z
theorem PotL.ex {H H' : Hp} {p l : Addr} (h : PotL H p l) (e : Ex H H') : PotL H' p l := by
  obtain ⟨cs, i, c, ne, h1, h2, r⟩ := h
  exact ⟨cs, i, c, ne, e _ _ h1, e _ _ h2, r⟩
theorem PotL.keep {H H' : Hp} {p l D : Addr} (h : PotL H p l) (k : Keep D H H') (n1 : D ≠ p) (n2 : D ≠ l) : PotL H' p l := by
  obtain ⟨cs, i, c, ne, h1, h2, r⟩ := h
  exact ⟨cs, i, c, ne, k _ _ h1 n1.symm, k _ _ h2 n2.symm, r⟩
theorem PotL.nl {H H' : Hp} {p l : Addr} (h : PotL H p l) (k : Keep p H H') : NL H H' := by
  obtain ⟨cs, i, c, ne, h1, h2, r⟩ := h
  exact .keep h1 k
/-! ### list.count of truth values -/
def isB (b : Bool) (v : Value) : Bool := match v with
  | .bool c => c == b
  | _ => false
theorem bools_of {bs : List Bool} : ∀ {us : List Value}, Vals (bs.map V.bl) us → us = bs.map Value.bool := by
  induction bs with
  | nil => intro us h; cases h; rfl
  | cons b bs ih =>
    intro us h
    cases h with
    | cons h t =>
      cases h
      rw [ih t]
      rfl
def rCntB (K : PySem.W.Frag) : V → List V → Hp → VK → Prop := fun x xs H Q => ∃ (p : Addr) (bs : List Bool) (k : Bool), x = .ref p ∧ xs = [.bl k] ∧ SqL K H p (bs.map V.bl) ∧ Q (.int (bs.count k : Nat)) H
theorem mt_bcount {X : Cx} : MtR X "list.count" (rCntB X.K) := by
  intro pins s sl H x xs v us Q I rx rxs h
  obtain ⟨p, bs, k, rfl, rfl, hs, q⟩ := h
  cases rx
  obtain ⟨u, rfl, ru⟩ := rxs.one
  cases ru
  obtain ⟨its, rv, ⟨⟨cls, dd, data, slt⟩, n, ho, hc, hdn, hd⟩, hlen⟩ := I.list hs
  simp only at hc hd
  subst hc hd
  have hi := bools_of rv
  refine call_meets PySem.F.slot_list_count ⟨_, ho, rfl⟩ PySem.F.entry_list_count (PySem.F.args_list_count_2 _ _) (SeqAt.list_countAt p its.toArray n dd slt (.bool k) (isB k)) ⟨ho, fun y hy => ?_, ?_⟩
  · have hm : y ∈ its := by simpa using hy
    rw [hi] at hm
    obtain ⟨b, _, rfl⟩ := List.mem_map.mp hm
    exact SeqAt.EqAt.bool_bool b k
  · have ec : its.toArray.toList.countP (isB k) = bs.count k := by
      rw [List.toList_toArray, hi, List.countP_map]
      rfl
    refine ⟨.int (bs.count k : Nat), H, I.tok _, ⟨s.toks, ?_⟩, q⟩
    show Value.int ((its.toArray.toList.countP (isB k) : Nat) : Int) s.toks = Value.int ((bs.count k : Nat) : Int) s.toks
    rw [ec]
/-! ### Euclid within twice the bits of the lesser number -/
structure EuN (N g i a b : Nat) : Prop where
  gcd : Nat.gcd a b = g
  even : i % 2 = 0 → b < 2 ^ (N - i / 2)
  odd : i % 2 = 1 → b < a ∧ a < 2 ^ (N - i / 2)
theorem EuN.turn {N g i a b : Nat} (h : EuN N g i a b) (hb : b ≠ 0) : EuN N g (i + 1) b (a % b) := by
  have lt : a % b < b := Nat.mod_lt _ (by omega)
  refine ⟨?_, fun e => ?_, fun o => ?_⟩
  · have := h.gcd
    rw [Nat.gcd_comm, ← Nat.gcd_rec, Nat.gcd_comm]
    exact this
  · obtain ⟨h1, h2⟩ := h.odd (by omega)
    have pos : N - i / 2 ≠ 0 := fun z => by rw [z] at h2; omega
    have ex : N - i / 2 = (N - (i + 1) / 2) + 1 := by omega
    rw [ex, Nat.pow_succ] at h2
    have hd := Nat.div_add_mod a b
    have q1 : 1 ≤ a / b := (Nat.one_le_div_iff (by omega)).mpr (by omega)
    have q2 : b * 1 ≤ b * (a / b) := Nat.mul_le_mul_left b q1
    omega
  · have := h.even (by omega)
    refine ⟨lt, ?_⟩
    have ex : (i + 1) / 2 = i / 2 := by omega
    rw [ex]
    exact this
theorem EuN.done {N g a b : Nat} (h : EuN N g (2 * N + 2) a b) : b = 0 := by
  have := h.even (by omega)
  have e : N - (2 * N + 2) / 2 = 0 := by omega
  rw [e] at this
  simpa using this
theorem EuN.zero {N g i a : Nat} (h : EuN N g i a 0) : a = g := by
  have := h.gcd
  simpa using this
theorem EuN.start {N a b : Nat} (h : b < 2 ^ N) : EuN N (Nat.gcd a b) 0 a b := ⟨rfl, fun _ => by simpa using h, fun e => by omega⟩
theorem bits_lt (x : Int) : x.natAbs < 2 ^ (Builtin.Int.intBits x) := intBits_le_iff.mp (Nat.le_refl _)
end Fc
set_option Elab.async false
set_option linter.all false
set_option maxRecDepth 100000
set_option maxHeartbeats 4000000
set_option exponentiation.threshold 100000
/-! A text times a number, a classmethod's call and the call of a local name that holds a class. -/
namespace Fc
open PySem PySem.Spec PyProof.Rows L2 TL

theorem fnR_of {P : Program} {w : World} {K : PySem.W.Frag} {mg : Str → Option Value} {base : Heap} {CX : CXT} {k : Nat} {f : Addr} {fd : FuncData} {ps : List Str} {sp : Sp}
    (F : FnOk P w K mg base CX k f fd ps sp) (hb : Binds K fd ps []) : FnR P w K mg base CX k f sp := by
  intro A outer s H us vs Q E hr h0 r q
  have hl : us.length = ps.length := r.length.symm.trans (F.len _ _ _ _ q)
  have kin : K.In s.heap := fun a o e => (h0.bs a o (h0.mod.kin a o e)).1
  have bd := hb s us kin (by rw [List.append_nil]; exact hl)
  rw [List.append_nil] at bd
  exact F.run A outer s H ⟨us, []⟩ us vs Q E hr h0 bd r q

section
variable {X : Cx} {CX : CXT} {k : Nat} {C f : Addr} {fd : FuncData} {ps : List Str} {sp : Sp} {E : XK}
/-- x(..), where the local name x holds a class -/
theorem pe_makeL {x : Str} {i : Nat} {p pos : Pos} {e : Expr} {es : List Expr} {t : TA} (hN : X.N[i]? = some x) (hv : Vis X.env.scope x) (M : Mk X.K C f) (F : FnOk X.prog X.w X.K X.mg X.base CX k f fd ps sp) (hr : Room (k + 1) X.A)
    (hb : Binds X.K fd ps []) (hx : Passes CX X E) (ha : PA X (e :: es) t)
    (hdb : (x == ("__debug__" : Str)) = false := by decide) (hcd : (x == ("__classdict__" : Str)) = false := by decide) (he : starEach (e :: es) X.env = (false, eval e X.env) :: starEach es X.env := by rfl)
    (hpl : (backTo pos (starEach es X.env)).any (·.1) = false := by rfl) : PE X (.Call (.Name x p) (e :: es) [] pos) (fun sl H Q => sl[i]? = some (some (.ref C)) ∧ tMakeS C sp (fun _ => E) t sl H Q) := by
  refine ⟨fun pins s sl H Q I ⟨hs, h⟩ => wpAny_Call_Name_kw (thn ((pe_var hN hv hdb hcd).run pins s sl H (fun v H1 => v = V.ref C ∧ H1 = H) I ⟨.ref C, hs, rfl, rfl⟩) fun u s1 ⟨v, H1, I1, r1, q1, q2⟩ => ?_)⟩
  subst q1; subst q2
  cases r1
  exact PySem.W.callWith_K (h₀ := X.base) I.ok.mod.kin M.kp (thn (ha.run pos pins s1 sl _ _ I1 h) fun us s2 ⟨vs, H2, I2, r, q⟩ => ⟨I2.kIn, run_makeS M F hr hb (E := fun _ => E) (fun pins => hx pins sl) I2 r q⟩) he hpl
end

section
variable {X : Cx} {CX : CXT} {k : Nat} {C p g : Addr} {mc : Value} {sp : Sp} {E : L2.St → XK}
theorem run_fnRS {pins : List (Addr × Obj)} {sl : L2.St} {H : Hp} {s : Shared} {Q : VK} {us : List Value} {vs : List V} {Ee : XK}
    (F : FnR X.prog X.w X.K X.mg X.base CX k g sp) (hr : Room k X.A) (hx : PassesAt CX X sl Ee) (I : Inv X pins sl H s) (r : Vals vs us) (q : sp vs H Q Ee) :
    codeAny (model X.prog X.w) X.A (.call (.ref g) ⟨us, []⟩) (fun r s' => match r with | .ok (.ret v) => EP X pins sl Q v s' | .ok _ => False | .error e => X.xe e s') s := by
  refine codeAny_mono (F X.A X.stack s H us vs Q Ee hr I.env0 r q) fun r s' hq => ?_
  cases r with
  | error e => exact hx pins _ _ e s' I hq
  | ok fl =>
    cases fl with
    | ret u => exact I.after hq
    | next => exact False.elim hq
    | brk => exact False.elim hq
    | cont => exact False.elim hq
/-- C.m(..), m a classmethod, where what is raised is wished for at the slots -/
def tCMethS (C : Addr) (sp : Sp) (E : L2.St → XK) (ta : TE) (t : TA) : TE := fun sl H Q => ta sl H fun x H1 => x = .ref C ∧ t sl H1 fun vs H2 => sp (.ref C :: vs) H2 Q (E sl)
theorem pe_cmethS {m : Str} {o e : Expr} {es : List Expr} {ta : TE} {t : TA} {apos pos : Pos} {pl : Sem Bool} (he : PE X o ta) (r : ClX.CRead X.K C mc) (c : ClX.CMet X.K C mc m p g)
    (F : FnR X.prog X.w X.K X.mg X.base CX k g sp) (hr : Room k X.A) (hx : ∀ sl, PassesAt CX X sl (E sl)) (ha : PA X (e :: es) t)
    (hst : starEach (e :: es) X.env = (false, eval e X.env) :: starEach es X.env := by rfl) (hpl : (backTo pos (starEach es X.env)).any (·.1) = false := by rfl)
    (ht : eval (.Call (.Attribute o m apos) (e :: es) [] pos) X.env = (do
      let v ← eval o X.env
      standAt apos.atName
      let (g, first) ← holding [v] (getMethod v m pl)
      callWith pos g first (backTo pos (starEach (e :: es) X.env)) (backToKw pos (keywordEach [] X.env))) := by rfl) :
    PE X (.Call (.Attribute o m apos) (e :: es) [] pos) (tCMethS C sp E ta t) := by
  refine ⟨fun pins s sl H Q I h => PySem.W.methodCall_KW (pl := pl) (thn (he.run pins s sl H _ I h) fun u s1 hh => ?_) ht⟩
  obtain ⟨x, H1, I1, rx, ex, q⟩ := hh
  subst ex
  cases rx
  refine ClX.getmethcm_ok I1 r c fun s2 I2 => ClX.callwith_cm I2 (ClX.base_none I1 (Nat.le_refl s1.heap.objs.size)) c.fi ?_ hst hpl
  refine thn (ha.run pos _ s2 sl H1 _ I2 q) fun us s3 hh => ?_
  obtain ⟨vs, H2, I3, rv, q2⟩ := hh
  refine ⟨⟨ClX.pin_at I3, I3.kIn⟩, ?_⟩
  exact thn (wpAny_call (PySem.W.method_call (ClX.pin_at I3) (run_fnRS (vs := .ref C :: vs) F hr (hx sl) I3 (.cons rfl rv) q2))) fun x s' y => ClX.unpinE y
end

theorem op_mulS {X : Cx} : OpR X (binaryOp Operator.Mult) fun x y H Q => ∃ (z : Str) (n : Int), x = .str z ∧ y = .int n ∧ z.length ≤ 1000 ∧ 0 ≤ n ∧ n ≤ 10000 ∧ Q (.str (Txt.mul z n)) H := by
  intro pins s sl H x y v u Q I rx ry h
  obtain ⟨z, n, rfl, rfl, hl, n0, n1, q⟩ := h
  obtain ⟨t, rfl⟩ := rx
  obtain ⟨t', rfl⟩ := ry
  exact PySem.SB.mul (mulOk_of 1000 10000 hl (by omega) (by omega) (by omega) (by omega)) fun t' tk => ⟨.str _, H, I.tok _, ⟨_, rfl⟩, q⟩
theorem foldl_app (c : Array Nat) (k : Nat) (acc : Array Nat) : (List.foldl (fun x y => x ++ y) acc (List.replicate k c)).toList = acc.toList ++ (List.replicate k c.toList).flatten := by
  induction k generalizing acc with
  | zero => simp
  | succ k ih => rw [List.replicate_succ, List.foldl_cons, ih, List.replicate_succ, List.flatten_cons, Array.toList_append, List.append_assoc]
theorem tl_mul {z : Str} {n : Nat} (h : 1 ≤ n) : tl (Txt.mul z n) = (List.replicate n (tl z)).flatten := by
  unfold Txt.mul
  rw [if_neg (by omega)]
  split
  · rename_i c
    simp only [Bool.or_eq_true, beq_iff_eq] at c
    rcases c with c | c
    · have : n = 1 := by omega
      subst this
      simp
    · have : tl z = [] := (len0_tl z).mp c
      rw [this]
      clear c h
      induction n with
      | zero => rfl
      | succ n ih => rw [List.replicate_succ, List.flatten_cons, List.nil_append]; exact ih
  · refine (foldl_app z.cps (n : Int).toNat #[]).trans ?_
    simp
theorem tl_mul1 {z : Str} {c n : Nat} (h : 1 ≤ n) (e : tl z = [c]) : tl (Txt.mul z n) = List.replicate n c := by
  rw [tl_mul h, e]
  clear h
  induction n with
  | zero => rfl
  | succ n ih => rw [List.replicate_succ, List.flatten_cons, ih]; rfl

theorem tl_cut (z : Str) (lo hi : Option Int) : tl (cutS z lo hi) = (List.take (HT.sIx z.length z.length hi - HT.sIx z.length 0 lo) (List.drop (HT.sIx z.length 0 lo) (tl z))) := rfl
theorem tl_to {z : Str} {n : Nat} (h : n ≤ z.length) : tl (cutS z none (some n)) = (tl z).take n := by
  rw [tl_cut]
  have : HT.sIx z.length z.length (some (n : Int)) = n := by
    show (if (n : Int) < 0 then ((n : Int) + (z.length : Int)).toNat else min (n : Int).toNat z.length) = n
    rw [if_neg (by omega)]; omega
  rw [this]
  rfl
theorem tl_from {z : Str} {n : Nat} (h : n ≤ z.length) : tl (cutS z (some n) none) = (tl z).drop n := by
  rw [tl_cut]
  have : HT.sIx z.length 0 (some (n : Int)) = n := by
    show (if (n : Int) < 0 then ((n : Int) + (z.length : Int)).toNat else min (n : Int).toNat z.length) = n
    rw [if_neg (by omega)]; omega
  rw [this]
  show List.take (z.length - n) _ = _
  rw [List.take_of_length_le]
  rw [List.length_drop, ← len_tl]
  omega


theorem isDig128 : ∀ c : Nat, c < 128 → Unicode.isDigit c = (decide (48 ≤ c) && decide (c ≤ 57)) := by decide +kernel
theorem digits_iff (z : Str) : (Txt.isascii z && Txt.isdigit z) = true ↔ (NumText.AllDigits (tl z) ∧ tl z ≠ []) := by
  obtain ⟨⟨l⟩⟩ := z
  show ((Array.all ⟨l⟩ fun x => decide (x < 128)) && (decide ((⟨l⟩ : Array Nat).size > 0) && Array.all ⟨l⟩ Unicode.isDigit)) = true ↔ (NumText.AllDigits l ∧ l ≠ [])
  rw [List.all_toArray, List.all_toArray]
  simp only [Bool.and_eq_true, List.all_eq_true, decide_eq_true_eq, List.size_toArray]
  constructor
  · rintro ⟨h1, h2, h3⟩
    refine ⟨fun c hc => ?_, fun z => by rw [z] at h2; exact absurd h2 (by decide)⟩
    have := h3 c hc
    rw [isDig128 c (h1 c hc)] at this
    simpa using this
  · rintro ⟨h1, h2⟩
    refine ⟨fun c hc => by have := h1 c hc; omega, ?_, fun c hc => ?_⟩
    · cases l with
      | nil => exact absurd rfl h2
      | cons a b => simp
    · have := h1 c hc
      rw [isDig128 c (by omega)]
      simpa using this
theorem rmp (z : Str) : Txt.removeprefix z "-" = if (tl z).head? = some 45 then SX.S (tl z).tail else z := by
  rw [PySem.StrLaws.removeprefix_eq]
  obtain ⟨⟨l⟩⟩ := z
  show (if (decide (0 + 1 ≤ (⟨l⟩ : Array Nat).size) && ((⟨l⟩ : Array Nat).extract 0 (0 + 1) == #[45])) = true then _ else _) = _
  cases l with
  | nil => rfl
  | cons c r =>
    show (if (decide (0 + 1 ≤ (c :: r).length) && _) = true then _ else _) = (if some c = some 45 then _ else _)
    by_cases h : c = 45
    · subst h
      rw [if_pos (by simp), if_pos rfl]
      show Str.mk (List.take ((45 :: r).length - 1) r).toArray = _
      rw [List.take_of_length_le (by simp)]
      rfl
    · rw [if_neg (by simp [h]), if_neg (by simp [h])]
theorem rmp_neg {z : Str} {r : List Nat} (h : tl z = 45 :: r) : tl (Txt.removeprefix z "-") = r := by rw [rmp, h]; rfl
theorem rmp_other {z : Str} (h : ∀ r, tl z ≠ 45 :: r) : Txt.removeprefix z "-" = z := by
  rw [rmp, if_neg]
  intro e
  cases c : tl z with
  | nil => rw [c] at e; cases e
  | cons a r => rw [c] at e; simp at e; exact h r (by rw [c, e])
/-- the digits behind the minus of a written number -/
theorem rmp_itx (i : Int) : tl (Txt.removeprefix (itx i) "-") = numL i.natAbs := by
  by_cases a : i < 0
  · exact rmp_neg (by rw [tl_itx, itL_neg a])
  · rw [rmp_other fun r e => ?_, tl_itx, itL_nat (by omega)]
    rw [tl_itx, itL_nat (by omega)] at e
    have := numL_dig (n := i.natAbs) (c := 45) (by rw [e]; simp)
    omega
/-- a text of digits, with or without a minus, is read by int -/
theorem int_any {z : Str} (h : NumText.AllDigits (tl (Txt.removeprefix z "-")) ∧ tl (Txt.removeprefix z "-") ≠ []) (hl : z.length ≤ 2000) : ∃ m : Int, intText? z = some m ∧ m.natAbs < 10 ^ 2000 := by
  have lt : ∀ l : List Nat, NumText.AllDigits l → l.length ≤ 2000 → NumText.digitsVal l < 10 ^ 2000 := fun l a b => Nat.lt_of_lt_of_le (digitsVal_lt _ l rfl a) (Nat.pow_le_pow_right (by decide) b)
  by_cases c : ∃ r, tl z = 45 :: r
  · obtain ⟨r, e⟩ := c
    rw [rmp_neg e] at h
    refine ⟨_, intText_neg (x := z) e h.1 h.2 (by omega), ?_⟩
    rw [Int.natAbs_neg, Int.natAbs_natCast]
    refine lt r h.1 ?_
    rw [len_tl, e, List.length_cons] at hl
    omega
  · rw [rmp_other fun r e => c ⟨r, e⟩] at h
    refine ⟨_, intText_digits (x := z) h.1 h.2 (by omega), ?_⟩
    rw [Int.natAbs_natCast]
    refine lt _ h.1 ?_
    rw [len_tl] at hl
    exact hl
theorem int_pos {z : Str} (h : NumText.AllDigits (tl z) ∧ tl z ≠ []) (hl : z.length ≤ 2000) : ∃ m : Int, intText? z = some m ∧ m.natAbs < 10 ^ 2000 ∧ 0 ≤ m := by
  refine ⟨_, intText_digits (x := z) h.1 h.2 (by omega), ?_, by omega⟩
  rw [Int.natAbs_natCast]
  refine Nat.lt_of_lt_of_le (digitsVal_lt _ _ rfl h.1) (Nat.pow_le_pow_right (by decide) ?_)
  show (tl z).length ≤ 2000
  rw [← len_tl]; exact hl
theorem ten2000 : 10 ^ 2000 < 2 ^ 6700 := by decide +kernel
theorem bd2000 {m : Int} (h : m.natAbs < 10 ^ 2000) : Bd 6700 m := Nat.lt_trans h ten2000
theorem pow4300 {n k : Nat} (h : n < 10 ^ k) (g : k ≤ 4300 := by decide) : n < 10 ^ 4300 := Nat.lt_of_lt_of_le h (Nat.pow_le_pow_right (by decide) g)
theorem bd4300 {m : Int} (h : Bd 8900 m) : m.natAbs < 10 ^ 4300 := Nat.lt_trans h (by decide +kernel)
theorem part_rtx (p : Int × Int) : Txt.partition (rtx p) "/" = if p.2 = 1 then (itx p.1, Str.empty, Str.empty) else (itx p.1, "/", itx p.2) := by
  unfold rtx
  split
  · exact partition_none (y := "/") (s := 47) (S := []) rfl (by rw [tl_itx]; exact itL_slash _)
  · exact partition_app (y := "/") (s := 47) (S := []) rfl (by rw [tl_itx]; exact itL_slash _)
end Fc
set_option Elab.async false
set_option linter.all false
set_option maxRecDepth 100000
set_option maxHeartbeats 4000000
/-! Rows: lists or tuples of whole numbers, and lists or tuples of these. -/
namespace Fc
open PySem PySem.Spec PyProof.Rows L2

section
variable {X : Cx}
/-- for x in l, l a list or a tuple -/
def iSeq (K : PySem.W.Frag) (tl : TE) : TI := fun sl H R => iList K tl sl H R ∨ iTup K tl sl H R
theorem pi_seq {tg l : Expr} {tl : TE} (hl : PE X l tl) : PI X tg l (iSeq X.K tl) := by
  refine ⟨fun pins s sl H R I h => ?_⟩
  rcases h with h | h
  · exact (pi_list (tg := tg) hl).run pins s sl H R I h
  · exact (pi_tup (tg := tg) hl).run pins s sl H R I h
end
/-- a list or a tuple that stands still -/
def SqV (K : PySem.W.Frag) (H : Hp) (a : Addr) (xs : List V) : Prop := SqL K H a xs ∨ SqT K H a xs
def IntsV (K : PySem.W.Frag) (H : Hp) (v : V) (r : List Int) : Prop := ∃ a, v = .ref a ∧ SqV K H a (r.map V.int)
def RowsV (K : PySem.W.Frag) (H : Hp) (v : V) (m : List (List Int)) : Prop := ∃ a vs, v = .ref a ∧ SqV K H a vs ∧ vs.length = m.length ∧ ∀ (i : Nat) (w : V) (r : List Int), vs[i]? = some w → m[i]? = some r → IntsV K H w r
/-- for x in l, any turn, l a list or a tuple -/
theorem for_seq {K : PySem.W.Frag} {a : Addr} {xs : List V} {g : TG} {tb : TS} {D : Ends} {sl : L2.St} {H : Hp} {tl : TE} {R : It → Hp → Prop} (hs : SqV K H a xs)
    (htl : ∀ Q : VK, Q (.ref a) H → tl sl H Q) (hl : SqL K H a xs → R (Itl K a) H) (ht : SqT K H a xs → R (Itt K a) H) : iSeq K tl sl H R := by
  rcases hs with h | h
  · exact .inl (htl _ ⟨a, rfl, ⟨xs, h⟩, hl h⟩)
  · exact .inr (htl _ ⟨a, rfl, ⟨xs, h⟩, ht h⟩)

theorem cr_lcm {X : Cx} : CallR X (.builtin "math.lcm") fun vs H Q => ∃ a b : Int, vs = [.int a, .int b] ∧ a.natAbs < 2 ^ 64 ∧ b.natAbs < 2 ^ 64 ∧ Q (.int (Nat.lcm a.natAbs b.natAbs : Nat)) H := by
  intro pins s sl H vs us Q I r h
  obtain ⟨a, b, rfl, ha, hb, q⟩ := h
  obtain ⟨t, u, rfl⟩ := Vals.int2 r
  refine PySem.W.mg_lcm_v ha hb (c := ((Nat.lcm a.natAbs b.natAbs : Nat) : Int)) (by rw [PySem.W.mc_lcm_one]) ?_ ⟨.int _, _, I.tok _, ⟨_, rfl⟩, q⟩
  have h1 := PySem.W.mc_lcm_le a.natAbs b.natAbs
  have h2 : a.natAbs * b.natAbs < 2 ^ 64 * 2 ^ 64 := Nat.mul_lt_mul'' ha hb
  have h3 : ((Nat.lcm a.natAbs b.natAbs : Nat) : Int).natAbs < 2 ^ 128 := by rw [Int.natAbs_natCast]; omega
  exact Nat.lt_of_lt_of_le (PySem.Flt.log2_lt_of (by decide) h3) (by decide)

/-! ### comprehensions over a list, over two lists or two tuples together -/
theorem it_lst {K : PySem.W.Frag} {a : Addr} {xs : List V} {B : (Hp → Prop) → V → Hp → Prop} {H0 : Hp} {Qd : Hp → Prop} (Pv : Nat → Hp → Prop) (h0 : Pv 0 H0) (hl : ∀ i H, i ≤ xs.length → Pv i H → SqL K H a xs)
    (hs : ∀ i x H, xs[i]? = some x → Pv i H → B (Pv (i + 1)) x H) (hd : ∀ H, Pv xs.length H → Qd H) :
    ∃ W : Nat → Nat → Hp → Prop, (∃ m, W 0 m H0) ∧ ∀ i m H, W i m H →
      ((Itl K a).stop i H ∧ Qd H) ∨ ((Itl K a).go i H ∧ ∃ Nx : Hp → Prop, (∀ H', Nx H' → ∃ m', m' < m ∧ W (i + 1) m' H') ∧ ∀ x H', (Itl K a).yld i H x H' → B Nx x H') := by
  refine ⟨fun i m H => m = xs.length - i ∧ i ≤ xs.length ∧ Pv i H, ⟨xs.length, by simp, Nat.zero_le _, h0⟩, ?_⟩
  rintro i m H ⟨rfl, hi, p⟩
  have q := hl i H hi p
  by_cases hlt : i < xs.length
  · refine .inr ⟨⟨xs, xs[i], q, by simp [hlt]⟩, Pv (i + 1), fun H' p' => ⟨xs.length - (i + 1), by omega, rfl, hlt, p'⟩, fun x H' y => ?_⟩
    obtain ⟨e, y⟩ := y
    subst e
    exact hs i x _ (y xs q) p
  · have e : i = xs.length := by omega
    subst e
    exact .inl ⟨⟨xs, q, Nat.le_refl _⟩, hd H p⟩
theorem it_zipL {K : PySem.W.Frag} {a b : Addr} {xs ys : List V} {B : (Hp → Prop) → V → Hp → Prop} {H0 : Hp} {Qd : Hp → Prop} (el : xs.length = ys.length) (Pv : Nat → Hp → Prop) (h0 : Pv 0 H0) (hl : ∀ i H, i ≤ xs.length → Pv i H → SqL K H a xs ∧ SqL K H b ys)
    (hs : ∀ i x y T H, xs[i]? = some x → ys[i]? = some y → Pv i H → H T = none → B (Pv (i + 1)) (.ref T) (upd H T (.tup [x, y]))) (hd : ∀ H, Pv xs.length H → Qd H) :
    ∃ W : Nat → Nat → Hp → Prop, (∃ m, W 0 m H0) ∧ ∀ i m H, W i m H →
      ((Itz K a b).stop i H ∧ Qd H) ∨ ((Itz K a b).go i H ∧ ∃ Nx : Hp → Prop, (∀ H', Nx H' → ∃ m', m' < m ∧ W (i + 1) m' H') ∧ ∀ x H', (Itz K a b).yld i H x H' → B Nx x H') := by
  refine ⟨fun i m H => m = xs.length - i ∧ i ≤ xs.length ∧ Pv i H, ⟨xs.length, by simp, Nat.zero_le _, h0⟩, ?_⟩
  rintro i m H ⟨rfl, hi, p⟩
  obtain ⟨q, q2⟩ := hl i H hi p
  by_cases hlt : i < xs.length
  · have hl2 : i < ys.length := by omega
    refine .inr ⟨⟨xs, ys, xs[i], ys[i], q, q2, by simp [hlt], by simp [hl2]⟩, Pv (i + 1), fun H' p' => ⟨xs.length - (i + 1), by omega, rfl, hlt, p'⟩, fun x H' y => ?_⟩
    obtain ⟨T, u, v, rfl, nT, rfl, y1, y2⟩ := y
    exact hs i u v T H (y1 xs q) (y2 ys q2) p nT
  · have e : i = xs.length := by omega
    subst e
    exact .inl ⟨⟨xs, ys, q, q2, .inl (Nat.le_refl _)⟩, hd H p⟩
theorem it_zipT {K : PySem.W.Frag} {a b : Addr} {xs ys : List V} {B : (Hp → Prop) → V → Hp → Prop} {H0 : Hp} {Qd : Hp → Prop} (el : xs.length = ys.length) (Pv : Nat → Hp → Prop) (h0 : Pv 0 H0) (hl : ∀ i H, i ≤ xs.length → Pv i H → SqT K H a xs ∧ SqT K H b ys)
    (hs : ∀ i x y T H, xs[i]? = some x → ys[i]? = some y → Pv i H → H T = none → B (Pv (i + 1)) (.ref T) (upd H T (.tup [x, y]))) (hd : ∀ H, Pv xs.length H → Qd H) :
    ∃ W : Nat → Nat → Hp → Prop, (∃ m, W 0 m H0) ∧ ∀ i m H, W i m H →
      ((RZ.ItzT K a b).stop i H ∧ Qd H) ∨ ((RZ.ItzT K a b).go i H ∧ ∃ Nx : Hp → Prop, (∀ H', Nx H' → ∃ m', m' < m ∧ W (i + 1) m' H') ∧ ∀ x H', (RZ.ItzT K a b).yld i H x H' → B Nx x H') := by
  refine ⟨fun i m H => m = xs.length - i ∧ i ≤ xs.length ∧ Pv i H, ⟨xs.length, by simp, Nat.zero_le _, h0⟩, ?_⟩
  rintro i m H ⟨rfl, hi, p⟩
  obtain ⟨q, q2⟩ := hl i H hi p
  by_cases hlt : i < xs.length
  · have hl2 : i < ys.length := by omega
    refine .inr ⟨⟨xs, ys, xs[i], ys[i], q, q2, by simp [hlt], by simp [hl2]⟩, Pv (i + 1), fun H' p' => ⟨xs.length - (i + 1), by omega, rfl, hlt, p'⟩, fun x H' y => ?_⟩
    obtain ⟨T, u, v, rfl, nT, rfl, y1, y2⟩ := y
    exact hs i u v T H (y1 xs q) (y2 ys q2) p nT
  · have e : i = xs.length := by omega
    subst e
    exact .inl ⟨⟨xs, ys, q, q2, .inl (Nat.le_refl _)⟩, hd H p⟩
/-- a tracked list or tuple stays where new objects come -/
theorem SqL.exT {K : PySem.W.Frag} {H : Hp} {a T : Addr} {xs : List V} {o : HO} (h : H a = some (.lst xs)) (n : H T = none) : SqL K (upd H T o) a xs := SqL.of (by rw [upd_ne (ne_of_none h n)]; exact h)
theorem it_rng {lo : Int} {n : Nat} {B : (Hp → Prop) → V → Hp → Prop} {H0 : Hp} {Qd : Hp → Prop} (Pv : Nat → Hp → Prop) (h0 : Pv 0 H0)
    (hs : ∀ i H, i < n → Pv i H → B (Pv (i + 1)) (.int (lo + (i : Int))) H) (hd : ∀ H, Pv n H → Qd H) :
    ∃ W : Nat → Nat → Hp → Prop, (∃ m, W 0 m H0) ∧ ∀ i m H, W i m H →
      ((Itr lo n).stop i H ∧ Qd H) ∨ ((Itr lo n).go i H ∧ ∃ Nx : Hp → Prop, (∀ H', Nx H' → ∃ m', m' < m ∧ W (i + 1) m' H') ∧ ∀ x H', (Itr lo n).yld i H x H' → B Nx x H') := by
  refine ⟨fun i m H => m = n - i ∧ i ≤ n ∧ Pv i H, ⟨n, by simp, Nat.zero_le _, h0⟩, ?_⟩
  rintro i m H ⟨rfl, hi, p⟩
  by_cases hlt : i < n
  · refine .inr ⟨hlt, Pv (i + 1), fun H' p' => ⟨n - (i + 1), by omega, rfl, hlt, p'⟩, fun x H' y => ?_⟩
    obtain ⟨e, e2⟩ := y
    subst e
    subst e2
    exact hs i _ hlt p
  · have e : i = n := by omega
    subst e
    exact .inl ⟨Nat.le_refl _, hd H p⟩
/-- list(x) of a list or a tuple, its reading named for use within a comprehension -/
def rListOf (K : PySem.W.Frag) : List V → Hp → VK → Prop := fun xs H Q => ∃ p ys, xs = [V.ref p] ∧ (SqL K H p ys ∨ SqT K H p ys) ∧ ∀ l : Addr, H l = none → Q (V.ref l) (upd H l (.lst ys))
theorem call_listK {X : Cx} : CallR X (.type "list") (rListOf X.K) := call_list_of
/-- an own error made without arguments, its context told -/
theorem pmk_bareN {X : Cx} {C : Addr} {bmB : List Value} {B newId initId : String} {x : Str} {p pos : Pos} (F : ExcBaseFacts B newId initId bmB) (q : PySem.W.excIn X.K C bmB newId = true)
    (gC : X.mg x = some (.ref C)) (kC : PySem.W.keepIn X.K (.ref C) = true) (r : Raises X (.ref C)) (hg : Gl X x) (hdb : (x == ("__debug__" : Str)) = false := by decide) :
    L2N.PMk X (.Call (.Name x p) [] [] pos) (fun _ H Q => Q (.ref C) none H) := by
  intro pins s sl H Q I h
  refine wpAny_Call_Name_kw (ld_glob I hg gC ?_ hdb)
  refine PySem.W.callWith_K0 I.kIn kC ?_
  obtain ⟨bm, N, nm, qn, bs, hdct, sn, sub, ab, col, dd, k0, k1, k2, k3, k5, mN, hC, hN, hni, T⟩ := exc_obj I.kIn q
  exact wpAny_call_exc_subT F T hC hN hni (fun h' e hm => L2N.mk_of I hm r h (I.hok.gone hm.new)) (Nat.zero_le _)
theorem lenv {K : PySem.W.Frag} {H : Hp} {a : Addr} {vs : List V} (h : SqV K H a vs) : LenV K (.ref a) H vs.length := by
  rcases h with h | h
  · exact .inl ⟨vs, h, rfl⟩
  · exact .inr ⟨vs, h, rfl⟩
/-- the lengths of the rows -/
def LensV (K : PySem.W.Frag) (H : Hp) (a : Addr) (vs : List V) (ns : List Nat) : Prop := SqV K H a vs ∧ vs.length = ns.length ∧
  ∀ (i : Nat) w n, vs[i]? = some w → ns[i]? = some n → ∃ b xs, w = V.ref b ∧ SqV K H b xs ∧ xs.length = n
def ShapeOk (ns : List Nat) : Prop := ns.length ≤ 64 ∧ ∀ n ∈ ns, n ≤ 64 ∧ ns.head? = some n
theorem Rd.ex {H H' : Hp} {a : Addr} {o : HO} (h : Rd H a o) (e : Ex H H') : Rd H' a o := by
  rcases h with h | ⟨f, h⟩
  · exact .inl (e _ _ h)
  · exact .inr ⟨f, e _ _ h⟩
theorem SqL.ex {K : PySem.W.Frag} {H H' : Hp} {a : Addr} {xs : List V} (h : SqL K H a xs) (e : Ex H H') : SqL K H' a xs := by
  rcases h with h | h
  · exact .inl (Rd.ex h e)
  · exact .inr h
theorem SqT.ex {K : PySem.W.Frag} {H H' : Hp} {a : Addr} {xs : List V} (h : SqT K H a xs) (e : Ex H H') : SqT K H' a xs := by
  rcases h with h | h
  · exact .inl (Rd.ex h e)
  · exact .inr h
theorem SqV.ex {K : PySem.W.Frag} {H H' : Hp} {a : Addr} {xs : List V} (h : SqV K H a xs) (e : Ex H H') : SqV K H' a xs := by
  rcases h with h | h
  · exact .inl (Fc.SqL.ex h e)
  · exact .inr (Fc.SqT.ex h e)
/-- rows of whole numbers, each a list or a tuple -/
def MatV (K : PySem.W.Frag) (H : Hp) (a : Addr) (vs : List V) (m : List (List Int)) : Prop := SqV K H a vs ∧ vs.length = m.length ∧
  ∀ (i : Nat) w r, vs[i]? = some w → m[i]? = some r → ∃ b, w = V.ref b ∧ SqV K H b (r.map V.int)
/-! ### nested data for == -/
theorem layI (r : List Int) : PyData.canLayAll0 (r.map PyData.int) = true := by
  induction r with
  | nil => simp [PyData.canLayAll0]
  | cons a r ih => simp [PyData.canLayAll0, PyData.canLay0, ih]
theorem depI (r : List Int) : PyData.depthAll (r.map PyData.int) ≤ 1 := by
  induction r with
  | nil => simp [PyData.depthAll]
  | cons a r ih => simp [PyData.depthAll, PyData.depth]; omega
theorem layL (m : List (List Int)) : PyData.canLayAll0 (m.map fun r => PyData.list (r.map PyData.int)) = true := by
  induction m with
  | nil => simp [PyData.canLayAll0]
  | cons a r ih => simp [PyData.canLayAll0, PyData.canLay0, ih, layI]
theorem depL (m : List (List Int)) : PyData.depthAll (m.map fun r => PyData.list (r.map PyData.int)) ≤ 2 := by
  induction m with
  | nil => simp [PyData.depthAll]
  | cons a r ih => have := depI a; simp [PyData.depthAll, PyData.depth]; omega
theorem layT (m : List (List Int)) : PyData.canLayAll0 (m.map fun r => PyData.tuple (r.map PyData.int)) = true := by
  induction m with
  | nil => simp [PyData.canLayAll0]
  | cons a r ih => simp [PyData.canLayAll0, PyData.canLay0, ih, layI]
theorem depT (m : List (List Int)) : PyData.depthAll (m.map fun r => PyData.tuple (r.map PyData.int)) ≤ 2 := by
  induction m with
  | nil => simp [PyData.depthAll]
  | cons a r ih => have := depI a; simp [PyData.depthAll, PyData.depth]; omega
/-- lists of lists of whole numbers, and tuples of tuples, are shaped: == tells them by their items -/
theorem shapedL (m : List (List Int)) : SeqAt.shaped (PyData.list (m.map fun r => PyData.list (r.map PyData.int))) = true := by
  have := depL m
  unfold SeqAt.shaped
  simp [PyData.canLay0, PyData.depth, layL]
  omega
theorem shapedT (m : List (List Int)) : SeqAt.shaped (PyData.tuple (m.map fun r => PyData.tuple (r.map PyData.int))) = true := by
  have := depT m
  unfold SeqAt.shaped
  simp [PyData.canLay0, PyData.depth, layT]
  omega
theorem dpI {K : PySem.W.Frag} {H : Hp} : ∀ r : List Int, DpAll K H (r.map V.int) (r.map PyData.int)
  | [] => .nil
  | a :: r => .cons (.int a) (dpI r)
theorem dpL {K : PySem.W.Frag} {H : Hp} : ∀ (as : List Addr) (m : List (List Int)), as.length = m.length → (∀ (i : Nat) a r, as[i]? = some a → m[i]? = some r → H a = some (.lst (r.map V.int))) →
    DpAll K H (as.map V.ref) (m.map fun r => PyData.list (r.map PyData.int))
  | [], [], _, _ => .nil
  | a :: as, r :: m, el, h => .cons (.lst (SqL.of (h 0 a r rfl rfl)) (dpI r)) (dpL as m (by simpa using el) fun i b q e1 e2 => h (i + 1) b q (by simpa using e1) (by simpa using e2))
  | [], _ :: _, el, _ => by simp at el
  | _ :: _, [], el, _ => by simp at el
end Fc
set_option Elab.async false
set_option linter.all false
set_option maxRecDepth 100000
set_option maxHeartbeats 4000000
/-! Comprehensions read as a whole: each item gives a value that is related to it, whatever becomes of the list that grows. -/
namespace Fc
open PySem PySem.Spec PyProof.Rows L2 L2H
/-- related, and so behind every heap that keeps what stands but at D -/
def Fix (R : V → Hp → Prop) (D : Addr) (v : V) (H : Hp) : Prop := ∀ H3, Keep D H H3 → R v H3
theorem Fix.int {n : Int} {D : Addr} {H : Hp} : Fix (fun v _ => v = V.int n) D (.int n) H := fun _ _ => rfl
theorem Fix.new {a D : Addr} {H : Hp} {o : HO} {R : V → Hp → Prop} (h : H a = some o) (ne : a ≠ D) (k : ∀ H3, H3 a = some o → R (.ref a) H3) : Fix R D (.ref a) H := fun H3 kp => k H3 (kp a o h ne)
/-- the step of a comprehension: what an item gives -/
abbrev LcStep (R : Nat → V → Hp → Prop) (H1 : Hp) (D : Addr) (i : Nat) (H : Hp) (B : VK → Prop) : Prop :=
  Ex H1 H → (∃ o, H D = some o) → ∀ Q : VK, (∀ v H2, Ex H H2 → Fix (R i) D v H2 → Q v H2) → B Q
def LcEnd (R : Nat → V → Hp → Prop) (H1 : Hp) (n : Nat) (Q : VK) : Prop := ∀ D H2 vs, H1 D = none → Ex H1 H2 → H2 D = some (.lst vs) → vs.length = n → (∀ (i : Nat) v, vs[i]? = some v → R i v H2) → Q (.ref D) H2
structure LcInv (R : Nat → V → Hp → Prop) (H1 : Hp) (D : Addr) (i : Nat) (H : Hp) : Prop where
  ex : Ex H1 H
  at_ : ∃ vs, H D = some (.lst vs) ∧ vs.length = i ∧ ∀ j v, vs[j]? = some v → Fix (R j) D v H
theorem LcInv.start {R : Nat → V → Hp → Prop} {H1 : Hp} {D : Addr} (h : H1 D = none) : LcInv R H1 D 0 (upd H1 D (.lst [])) := ⟨Ex.new h, [], upd_same, rfl, fun j v e => by simp at e⟩
theorem LcInv.done {R : Nat → V → Hp → Prop} {H1 H : Hp} {D : Addr} {n : Nat} {Q : VK} (h : LcInv R H1 D n H) (hD : H1 D = none) (k : LcEnd R H1 n Q) : Q (.ref D) H := by
  obtain ⟨ex, vs, h1, h2, h3⟩ := h
  exact k D H vs hD ex h1 h2 fun i v e => h3 i v e H .refl
theorem LcInv.put {R : Nat → V → Hp → Prop} {H1 H H2 : Hp} {D : Addr} {i : Nat} {v : V} (h : LcInv R H1 D i H) (hD : H1 D = none) (hi : i ≤ 100000) (e : Ex H H2) (f : Fix (R i) D v H2) :
    ∃ acc, H2 D = some (.lst acc) ∧ acc.length < sizeLine ∧ LcInv R H1 D (i + 1) (upd H2 D (.lst (acc ++ [v]))) := by
  obtain ⟨ex, vs, h1, h2, h3⟩ := h
  have kp : Keep D H2 (upd H2 D (.lst (vs ++ [v]))) := fun b o hb ne => by rw [upd_ne ne]; exact hb
  refine ⟨vs, e _ _ h1, by rw [h2, sizeLine_eq]; omega, fun b o hb => ?_, vs ++ [v], upd_same, by rw [List.length_append, h2]; rfl, fun j u hj => ?_⟩
  · rw [upd_ne (ne_of_none hb hD)]; exact e _ _ (ex _ _ hb)
  · intro H3 k3
    have k4 : Keep D H2 H3 := fun b o hb ne => k3 b o (kp b o hb ne) ne
    by_cases c : j < vs.length
    · rw [List.getElem?_append_left c] at hj
      exact h3 j u hj H3 fun b o hb ne => k4 b o (e _ _ hb) ne
    · have hj2 : j = vs.length := by
        have := (List.getElem?_eq_some_iff.mp hj).1
        rw [List.length_append] at this
        simp at this
        omega
      subst hj2
      rw [List.getElem?_append_right (Nat.le_refl _)] at hj
      simp at hj
      subst hj
      subst h2
      exact f H3 k4
/-! ### readings opened by one head -/
theorem uNext {D : Ends} {σ : L2.St} {H : Hp} (h : D.nx σ H) : tNext D σ H := h
theorem uNot {t : TT} {σ : L2.St} {H : Hp} {Q : Bool → Hp → Prop} (h : t σ H fun c H1 => Q (!c) H1) : tNot t σ H Q := h
theorem uB {t : TE} {σ : L2.St} {H : Hp} {Q : Bool → Hp → Prop} (h : t σ H fun x H1 => ∃ c, x = .bl c ∧ Q c H1) : tB t σ H Q := h
theorem uTest {t : TE} {σ : L2.St} {H : Hp} {Q : Bool → Hp → Prop} (h : t σ H fun x H1 => ∃ c, x = .bl c ∧ Q c H1) : tTest t σ H Q := h
theorem uSeq {t u : TS} {D : Ends} {σ : L2.St} {H : Hp} (h : t { D with nx := u D } σ H) : tSeq t u D σ H := h
theorem uDrop {t : TE} {D : Ends} {σ : L2.St} {H : Hp} (h : t σ H fun _ H1 => D.nx σ H1) : tDrop t D σ H := h
theorem uRet {t : TE} {D : Ends} {σ : L2.St} {H : Hp} (h : t σ H D.rt) : tRet t D σ H := h
theorem uAsg {t : TE} {g : TG} {D : Ends} {σ : L2.St} {H : Hp} (h : t σ H fun x H1 => g x σ H1 D.nx) : tAsg t g D σ H := h
theorem uFld {K : PySem.W.Frag} {ta tv : TE} {f : Str} {D : Ends} {σ : L2.St} {H : Hp} (h : tv σ H fun y H1 => ta σ H1 fun x H2 => ∃ a C dx fs, x = .ref a ∧ H2 a = some (.ins C dx fs) ∧ Cls K C ∧ NoAttr K C f ∧ fs.length < 1000 ∧
  D.nx σ (upd H2 a (.ins C dx (putF f y fs)))) : sFld K ta tv f D σ H := h
theorem uCB {r : List V → Hp → VK → Prop} {t : TA} {σ : L2.St} {H : Hp} {Q : VK} (h : t σ H fun vs H1 => r vs H1 Q) : tCB r t σ H Q := h
theorem uCons {ta : TE} {tr : TA} {σ : L2.St} {H : Hp} {Q : List V → Hp → Prop} (h : ta σ H fun x H1 => tr σ H1 fun xs H2 => Q (x :: xs) H2) : tCons ta tr σ H Q := h
theorem uOp {r : R2} {ta tb : TE} {σ : L2.St} {H : Hp} {Q : VK} (h : ta σ H fun x H1 => tb σ H1 fun y H2 => r x y H2 Q) : tOp r ta tb σ H Q := h
theorem uTup {t : TA} {σ : L2.St} {H : Hp} {Q : VK} (h : t σ H fun xs H1 => xs.length ≤ sizeLine ∧ ∀ p, H1 p = none → Q (.ref p) (upd H1 p (.tup xs))) : tTup t σ H Q := h
theorem uLst {t : TA} {σ : L2.St} {H : Hp} {Q : VK} (h : t σ H fun xs H1 => xs.length ≤ sizeLine ∧ ∀ p, H1 p = none → Q (.ref p) (upd H1 p (.lst xs))) : tLst t σ H Q := h
theorem uCall {sp : Sp} {dvs : List V} {E : XK} {t : TA} {σ : L2.St} {H : Hp} {Q : VK} (h : t σ H fun vs H1 => sp (vs ++ dvs) H1 Q E) : tCall sp dvs E t σ H Q := h
theorem uMake {C : Addr} {sp : Sp} {dvs : List V} {E : XK} {t : TA} {σ : L2.St} {H : Hp} {Q : VK} (h : t σ H fun vs H1 => ∀ x dx, H1 x = none → H1 dx = none → dx ≠ x →
  sp (.ref x :: (vs ++ dvs)) (upd (upd H1 dx (.own x)) x (.ins C dx [])) (fun v H2 => v = .non ∧ Q (.ref x) H2) E) : tMake C sp dvs E t σ H Q := h
theorem uIf {c : TT} {t u : TS} {D : Ends} {σ : L2.St} {H : Hp} (h : c σ H fun b H1 => if b = true then t D σ H1 else u D σ H1) : tIfS c t u D σ H := h
section
variable {K : PySem.W.Frag} {tl : TE} {g : TG} {te : TE} {ws : List Nat} {σ : L2.St} {H : Hp} {Q : VK} {a : Addr} {xs : List V}
/-- the body of a comprehension at an item -/
abbrev LcBody (g : TG) (te : TE) (ws : List Nat) (σ : L2.St) (x : V) (H : Hp) : VK → Prop := fun Q => g x (wipe σ ws) H fun σ2 H2 => wipe σ2 ws = wipe σ ws ∧ te σ2 H2 Q
theorem lcL (R : Nat → V → Hp → Prop) (htl : ∀ Q : VK, Q (.ref a) H → tl σ H Q) (ha : SqL K H a xs) (hl : xs.length ≤ 100000)
    (hs : ∀ i x H' D, xs[i]? = some x → LcStep R H D i H' (LcBody g te ws σ x H')) (hd : LcEnd R H xs.length Q) : tLc (iList K tl) g tYes te ws σ H Q := by
  refine htl _ ⟨a, rfl, ⟨_, ha⟩, fun D hD => ?_⟩
  refine it_lst (xs := xs) (fun i H' => LcInv R H D i H') (.start hD) (fun i H' _ q => Fc.SqL.ex ha q.ex) (fun i x H' hx q => ?_) (fun H' q => q.done hD hd)
  have hi := (List.getElem?_eq_some_iff.mp hx).1
  exact hs i x H' D hx q.ex ⟨_, q.at_.choose_spec.1⟩ _ fun v H2 e f => q.put hD (by omega) e f
theorem it_tupC {K : PySem.W.Frag} {a : Addr} {xs : List V} {B : (Hp → Prop) → V → Hp → Prop} {H0 : Hp} {Qd : Hp → Prop} (Pv : Nat → Hp → Prop) (h0 : Pv 0 H0) (hl : ∀ i H, i ≤ xs.length → Pv i H → SqT K H a xs)
    (hs : ∀ i x H, xs[i]? = some x → Pv i H → B (Pv (i + 1)) x H) (hd : ∀ H, Pv xs.length H → Qd H) :
    ∃ W : Nat → Nat → Hp → Prop, (∃ m, W 0 m H0) ∧ ∀ i m H, W i m H →
      ((Itt K a).stop i H ∧ Qd H) ∨ ((Itt K a).go i H ∧ ∃ Nx : Hp → Prop, (∀ H', Nx H' → ∃ m', m' < m ∧ W (i + 1) m' H') ∧ ∀ x H', (Itt K a).yld i H x H' → B Nx x H') := by
  refine ⟨fun i m H => m = xs.length - i ∧ i ≤ xs.length ∧ Pv i H, ⟨xs.length, by simp, Nat.zero_le _, h0⟩, ?_⟩
  rintro i m H ⟨rfl, hi, p⟩
  have q := hl i H hi p
  by_cases hlt : i < xs.length
  · refine .inr ⟨⟨xs, xs[i], q, by simp [hlt]⟩, Pv (i + 1), fun H' p' => ⟨xs.length - (i + 1), by omega, rfl, hlt, p'⟩, fun x H' y => ?_⟩
    obtain ⟨e, y⟩ := y
    subst e
    exact hs i x _ (y xs q) p
  · have e : i = xs.length := by omega
    subst e
    exact .inl ⟨⟨xs, q, Nat.le_refl _⟩, hd H p⟩
theorem lcT (R : Nat → V → Hp → Prop) (htl : ∀ Q : VK, Q (.ref a) H → tl σ H Q) (ha : SqT K H a xs) (hl : xs.length ≤ 100000)
    (hs : ∀ i x H' D, xs[i]? = some x → LcStep R H D i H' (LcBody g te ws σ x H')) (hd : LcEnd R H xs.length Q) : tLc (iTup K tl) g tYes te ws σ H Q := by
  refine htl _ ⟨a, rfl, ⟨_, ha⟩, fun D hD => ?_⟩
  refine it_tupC (xs := xs) (fun i H' => LcInv R H D i H') (.start hD) (fun i H' _ q => Fc.SqT.ex ha q.ex) (fun i x H' hx q => ?_) (fun H' q => q.done hD hd)
  have hi := (List.getElem?_eq_some_iff.mp hx).1
  exact hs i x H' D hx q.ex ⟨_, q.at_.choose_spec.1⟩ _ fun v H2 e f => q.put hD (by omega) e f
theorem lcS (R : Nat → V → Hp → Prop) (htl : ∀ Q : VK, Q (.ref a) H → tl σ H Q) (ha : SqV K H a xs) (hl : xs.length ≤ 100000)
    (hs : ∀ i x H' D, xs[i]? = some x → LcStep R H D i H' (LcBody g te ws σ x H')) (hd : LcEnd R H xs.length Q) : tLc (iSeq K tl) g tYes te ws σ H Q := by
  rcases ha with ha | ha
  · exact .inl (lcL R htl ha hl hs hd)
  · exact .inr (lcT R htl ha hl hs hd)
theorem lcR {lo : Int} {n : Nat} {wi : TI} (R : Nat → V → Hp → Prop) (hn : n ≤ 100000) (hw : ∀ P : It → Hp → Prop, P (Itr lo n) H → wi σ H P)
    (hs : ∀ i H' D, i < n → LcStep R H D i H' (LcBody g te ws σ (V.int (lo + (i : Int))) H')) (hd : LcEnd R H n Q) : tLc wi g tYes te ws σ H Q := by
  refine hw _ fun D hD => ?_
  refine it_rng (fun i H' => LcInv R H D i H') (.start hD) (fun i H' hi q => ?_) (fun H' q => q.done hD hd)
  exact hs i H' D hi q.ex ⟨_, q.at_.choose_spec.1⟩ _ fun v H2 e f => q.put hD (by omega) e f
end
section
variable {K : PySem.W.Frag} {tl : TE} {g : TG} {tb : TS} {D : Ends} {σ : L2.St} {H : Hp} {a : Addr} {xs : List V}
theorem forL (Pv : Nat → L2.St → Hp → Prop) (htl : ∀ Q : VK, Q (.ref a) H → tl σ H Q) (ha : SqL K H a xs) (h0 : Pv 0 σ H) (hl : ∀ i σ H', Pv i σ H' → SqL K H' a xs)
    (hs : ∀ i x σ H, xs[i]? = some x → Pv i σ H → g x σ H fun σ2 H2 => tb { D with nx := Pv (i + 1), ct := Pv (i + 1), bk := D.nx } σ2 H2) (hd : ∀ σ H, Pv xs.length σ H → D.nx σ H) : tFor (iList K tl) g tb D σ H :=
  htl _ ⟨a, rfl, ⟨_, ha⟩, for_list (xs := xs) Pv h0 (fun i σ H' _ q => hl i σ H' q) hs hd⟩
theorem forR {lo : Int} {n : Nat} {wi : TI} (Pv : Nat → L2.St → Hp → Prop) (hw : ∀ P : It → Hp → Prop, P (Itr lo n) H → wi σ H P) (h0 : Pv 0 σ H)
    (hs : ∀ i σ H, i < n → Pv i σ H → g (V.int (lo + (i : Int))) σ H fun σ2 H2 => tb { D with nx := Pv (i + 1), ct := Pv (i + 1), bk := D.nx } σ2 H2) (hd : ∀ σ H, Pv n σ H → D.nx σ H) : tFor wi g tb D σ H :=
  hw _ (for_range Pv h0 hs hd)
theorem forT (Pv : Nat → L2.St → Hp → Prop) (htl : ∀ Q : VK, Q (.ref a) H → tl σ H Q) (ha : SqT K H a xs) (h0 : Pv 0 σ H) (hl : ∀ i σ H', Pv i σ H' → SqT K H' a xs)
    (hs : ∀ i x σ H, xs[i]? = some x → Pv i σ H → g x σ H fun σ2 H2 => tb { D with nx := Pv (i + 1), ct := Pv (i + 1), bk := D.nx } σ2 H2) (hd : ∀ σ H, Pv xs.length σ H → D.nx σ H) : tFor (iTup K tl) g tb D σ H :=
  htl _ ⟨a, rfl, ⟨_, ha⟩, for_tup (xs := xs) Pv h0 (fun i σ H' _ q => hl i σ H' q) hs hd⟩
theorem forS (Pv : Nat → L2.St → Hp → Prop) (htl : ∀ Q : VK, Q (.ref a) H → tl σ H Q) (ha : SqV K H a xs) (h0 : Pv 0 σ H) (hl : ∀ i σ H', Pv i σ H' → Ex H H')
    (hs : ∀ i x σ H, xs[i]? = some x → Pv i σ H → g x σ H fun σ2 H2 => tb { D with nx := Pv (i + 1), ct := Pv (i + 1), bk := D.nx } σ2 H2) (hd : ∀ σ H, Pv xs.length σ H → D.nx σ H) : tFor (iSeq K tl) g tb D σ H := by
  rcases ha with ha | ha
  · exact .inl (forL Pv htl ha h0 (fun i σ H' q => Fc.SqL.ex ha (hl i σ H' q)) hs hd)
  · exact .inr (forT Pv htl ha h0 (fun i σ H' q => Fc.SqT.ex ha (hl i σ H' q)) hs hd)
end
section
variable {K : PySem.W.Frag} {tl tl1 : TE} {g g1 : TG} {te : TE} {ws ws1 : List Nat} {σ : L2.St} {H : Hp} {Q : VK} {a : Addr}
/-- [x for row in rows for x in row], lists both -/
theorem lc2L (as : List Addr) (rows : List (List V)) (htl : ∀ Q : VK, Q (.ref a) H → tl σ H Q) (ha : H a = some (.lst (as.map V.ref))) (el : as.length = rows.length)
    (hrow : ∀ (i : Nat) b r, as[i]? = some b → rows[i]? = some r → H b = some (.lst r)) (tot : rows.flatten.length ≤ 100000)
    (hs : ∀ b H', ∃ σ2, (∀ P : L2.St → Hp → Prop, P σ2 H' → g (.ref b) (wipe σ ws) H' P) ∧ wipe σ2 ws = wipe σ ws ∧ (∀ Q' : VK, Q' (.ref b) H' → tl1 σ2 H' Q') ∧
      ∀ v H2, ∃ σ3, (∀ P : L2.St → Hp → Prop, P σ3 H2 → g1 v (wipe σ2 ws1) H2 P) ∧ wipe σ3 ws1 = wipe σ2 ws1 ∧ ∀ Q' : VK, Q' v H2 → te σ3 H2 Q')
    (k : ∀ D H2, H D = none → Ex H H2 → H2 D = some (.lst rows.flatten) → Q (.ref D) H2) : tLc2 (iList K tl) g tYes (iList K tl1) g1 tYes te ws ws1 σ H Q := by
  refine htl _ ⟨a, rfl, ⟨_, SqL.of ha⟩, fun D hD => ?_⟩
  refine it_lst (xs := as.map V.ref) (fun i H' => Ex H H' ∧ H' D = some (.lst (rows.take i).flatten)) ⟨Ex.new hD, upd_same⟩ (fun i H' _ q => SqL.of (q.1 _ _ ha)) (fun i x H' hx q => ?_) (fun H' q => ?_)
  · rw [List.getElem?_map] at hx
    obtain ⟨b, hb, rfl⟩ := Option.map_eq_some_iff.mp hx
    have hi : i < rows.length := by have := (List.getElem?_eq_some_iff.mp hb).1; omega
    have hr := q.1 _ _ (hrow i b _ hb (List.getElem?_eq_getElem hi))
    obtain ⟨σ2, g2, w2, t2, h3⟩ := hs b H'
    refine g2 _ ⟨w2, ?_⟩
    refine t2 _ ⟨b, rfl, ⟨_, SqL.of hr⟩, ?_⟩
    have e1 : (rows.take (i + 1)).flatten = (rows.take i).flatten ++ rows[i] := by
      rw [List.take_add_one, List.getElem?_eq_getElem hi, List.flatten_append]
      simp
    have tk : (rows.take i).flatten.length + rows[i].length ≤ 100000 := by
      have e2 : rows.flatten = (rows.take (i + 1)).flatten ++ (rows.drop (i + 1)).flatten := by rw [← List.flatten_append, List.take_append_drop]
      have e3 := congrArg List.length e2
      rw [e1, List.length_append, List.length_append] at e3
      omega
    refine it_lst (xs := rows[i]) (fun j H2 => Ex H H2 ∧ H2 D = some (.lst ((rows.take i).flatten ++ rows[i].take j))) ⟨q.1, by rw [q.2, List.take_zero, List.append_nil]⟩ (fun j H2 _ p => SqL.of (p.1 _ _ (hrow i b _ hb (List.getElem?_eq_getElem hi)))) (fun j v H2 hv p => ?_) (fun H2 p => ?_)
    · obtain ⟨σ3, g3, w3, t3⟩ := h3 v H2
      refine g3 _ ⟨w3, ?_⟩
      have hj := (List.getElem?_eq_some_iff.mp hv).1
      refine t3 _ ⟨_, p.2, by rw [List.length_append, List.length_take, sizeLine_eq]; omega, fun c o e => by rw [upd_ne (ne_of_none e hD)]; exact p.1 _ _ e, ?_⟩
      rw [upd_same, List.take_add_one, hv, List.append_assoc]
      rfl
    · rw [List.take_length] at p
      exact ⟨p.1, by rw [e1]; exact p.2⟩
  · rw [List.length_map, el, List.take_length] at q
    exact k D H' hD q.1 q.2
end
section
variable {K : PySem.W.Frag} {tl : TE} {g : TG} {te : TE} {ws : List Nat} {σ : L2.St} {H : Hp} {Q : VK} {a : Addr} {xs : List V}
/-! ### what such a list is -/
theorem vals_int {vs : List V} {f : Nat → Int} {n : Nat} (l : vs.length = n) (h : ∀ (i : Nat) v, vs[i]? = some v → v = V.int (f i)) : vs = ((List.range n).map f).map V.int := by
  refine List.ext_getElem? fun i => ?_
  by_cases c : i < vs.length
  · rw [List.getElem?_eq_getElem c, h i _ (List.getElem?_eq_getElem c), List.getElem?_map, List.getElem?_map, List.getElem?_range (by omega)]; rfl
  · rw [List.getElem?_eq_none (by omega), List.getElem?_eq_none (by rw [List.length_map, List.length_map, List.length_range]; omega)]
theorem vals_map {vs : List V} {r : List Int} {f : Int → Int} (l : vs.length = r.length) (h : ∀ (i : Nat) v n, vs[i]? = some v → r[i]? = some n → v = V.int (f n)) : vs = (r.map f).map V.int := by
  refine List.ext_getElem? fun i => ?_
  by_cases c : i < vs.length
  · have c2 : i < r.length := by omega
    rw [List.getElem?_eq_getElem c, h i _ _ (List.getElem?_eq_getElem c) (List.getElem?_eq_getElem c2), List.getElem?_map, List.getElem?_map, List.getElem?_eq_getElem c2]; rfl
  · rw [List.getElem?_eq_none (by omega), List.getElem?_eq_none (by rw [List.length_map, List.length_map]; omega)]
theorem vals_mapG {α : Type} {vs : List V} {r : List α} {f : α → Int} (l : vs.length = r.length) (h : ∀ (i : Nat) v n, vs[i]? = some v → r[i]? = some n → v = V.int (f n)) : vs = (r.map f).map V.int := by
  refine List.ext_getElem? fun i => ?_
  by_cases c : i < vs.length
  · have c2 : i < r.length := by omega
    rw [List.getElem?_eq_getElem c, h i _ _ (List.getElem?_eq_getElem c) (List.getElem?_eq_getElem c2), List.getElem?_map, List.getElem?_map, List.getElem?_eq_getElem c2]; rfl
  · rw [List.getElem?_eq_none (by omega), List.getElem?_eq_none (by rw [List.length_map, List.length_map]; omega)]
theorem refs_of {vs : List V} (h : ∀ (i : Nat) v, vs[i]? = some v → ∃ a, v = V.ref a) : ∃ as : List Addr, vs = as.map V.ref := by
  induction vs with
  | nil => exact ⟨[], rfl⟩
  | cons v vs ih =>
    obtain ⟨a, rfl⟩ := h 0 v rfl
    obtain ⟨as, rfl⟩ := ih fun i v e => h (i + 1) v (by simpa using e)
    exact ⟨a :: as, rfl⟩
/-- [f(x) for x in row], row a list or a tuple of whole numbers -/
theorem lcInts {wi : TI} (f : Int → Int) {r : List Int} (hw : ∀ R, (∀ i x H' D, (r.map V.int)[i]? = some x → LcStep R H D i H' (LcBody g te ws σ x H')) → LcEnd R H (r.map V.int).length Q → tLc wi g tYes te ws σ H Q)
    (hs : ∀ n H', n ∈ r → Ex H H' → ∀ Q : VK, Q (V.int (f n)) H' → LcBody g te ws σ (V.int n) H' Q) (k : ∀ D H2, H D = none → Ex H H2 → H2 D = some (.lst ((r.map f).map V.int)) → Q (.ref D) H2) : tLc wi g tYes te ws σ H Q := by
  refine hw (fun i v _ => ∀ n, r[i]? = some n → v = V.int (f n)) (fun i x H' D hx ex _ Q' kq => ?_) (fun D H2 vs hD ex h1 h2 h3 => ?_)
  · rw [List.getElem?_map] at hx
    obtain ⟨n, hn, rfl⟩ := Option.map_eq_some_iff.mp hx
    refine hs n H' (List.mem_of_getElem? hn) ex Q' (kq _ _ (fun _ _ h => h) fun H3 _ m hm => ?_)
    rw [hn] at hm
    cases hm
    rfl
  · rw [List.length_map] at h2
    exact k D H2 hD ex (by rw [h1, vals_map h2 fun i v n e1 e2 => h3 i v e1 n e2])
end
def RowsL (H : Hp) (L : Addr) (m : List (List Int)) : Prop := ∃ as : List Addr, H L = some (.lst (as.map V.ref)) ∧ as.length = m.length ∧
  ∀ (i : Nat) a r, as[i]? = some a → m[i]? = some r → H a = some (.lst (r.map V.int))
theorem RowsL.ex {H H' : Hp} {L : Addr} {m : List (List Int)} (h : RowsL H L m) (e : Ex H H') : RowsL H' L m := let ⟨as, a, b, c⟩ := h; ⟨as, e _ _ a, b, fun i x r h1 h2 => e _ _ (c i x r h1 h2)⟩
/-- a tuple of tuples of whole numbers -/
def RowsT (H : Hp) (L : Addr) (m : List (List Int)) : Prop := ∃ as : List Addr, H L = some (.tup (as.map V.ref)) ∧ as.length = m.length ∧
  ∀ (i : Nat) a r, as[i]? = some a → m[i]? = some r → H a = some (.tup (r.map V.int))
theorem RowsT.ex {H H' : Hp} {L : Addr} {m : List (List Int)} (h : RowsT H L m) (e : Ex H H') : RowsT H' L m := let ⟨as, a, b, c⟩ := h; ⟨as, e _ _ a, b, fun i x r h1 h2 => e _ _ (c i x r h1 h2)⟩
/-- the item i is a row of m, a list (or what o makes of it) -/
def RowR (o : List V → HO) (m : List (List Int)) (i : Nat) (v : V) (H : Hp) : Prop := ∃ b r, v = .ref b ∧ m[i]? = some r ∧ H b = some (o (r.map V.int))
theorem RowR.fix {o : List V → HO} {m : List (List Int)} {i : Nat} {b D : Addr} {r : List Int} {H : Hp} (hm : m[i]? = some r) (hb : H b = some (o (r.map V.int))) (ne : b ≠ D) : Fix (RowR o m i) D (.ref b) H :=
  fun H3 kp => ⟨b, r, rfl, hm, kp _ _ hb ne⟩
theorem RowR.all {o : List V → HO} {m : List (List Int)} {vs : List V} {H : Hp} (l : vs.length = m.length) (h : ∀ (i : Nat) v, vs[i]? = some v → RowR o m i v H) :
    ∃ as : List Addr, vs = as.map V.ref ∧ as.length = m.length ∧ ∀ (i : Nat) a r, as[i]? = some a → m[i]? = some r → H a = some (o (r.map V.int)) := by
  obtain ⟨as, rfl⟩ := refs_of fun i v e => let ⟨b, _, e2, _⟩ := h i v e; ⟨b, e2⟩
  refine ⟨as, rfl, by simpa using l, fun i a r e1 e2 => ?_⟩
  obtain ⟨b, r2, h1, h2, h3⟩ := h i (.ref a) (by rw [List.getElem?_map, e1]; rfl)
  cases h1
  rw [e2] at h2
  cases h2
  exact h3
theorem RowsL.matv {K : PySem.W.Frag} {H : Hp} {L : Addr} {m : List (List Int)} (h : RowsL H L m) : ∃ xs, MatV K H L xs m := by
  obtain ⟨as, a, b, c⟩ := h
  refine ⟨_, .inl (SqL.of a), by rw [List.length_map, b], fun i w r e1 e2 => ?_⟩
  rw [List.getElem?_map] at e1
  obtain ⟨x, hx, rfl⟩ := Option.map_eq_some_iff.mp e1
  exact ⟨x, rfl, .inl (SqL.of (c i x r hx e2))⟩
theorem RowsT.matv {K : PySem.W.Frag} {H : Hp} {L : Addr} {m : List (List Int)} (h : RowsT H L m) : ∃ xs, MatV K H L xs m := by
  obtain ⟨as, a, b, c⟩ := h
  refine ⟨_, .inr (SqT.of a), by rw [List.length_map, b], fun i w r e1 e2 => ?_⟩
  rw [List.getElem?_map] at e1
  obtain ⟨x, hx, rfl⟩ := Option.map_eq_some_iff.mp e1
  exact ⟨x, rfl, .inr (SqT.of (c i x r hx e2))⟩
theorem MatV.lens {K : PySem.W.Frag} {H : Hp} {a : Addr} {xs : List V} {m : List (List Int)} (h : MatV K H a xs m) : LensV K H a xs (m.map List.length) := by
  obtain ⟨h1, h2, h3⟩ := h
  refine ⟨h1, by rw [h2, List.length_map], fun i w n e1 e2 => ?_⟩
  rw [List.getElem?_map] at e2
  obtain ⟨r, hr, rfl⟩ := Option.map_eq_some_iff.mp e2
  obtain ⟨b, e, hb⟩ := h3 i w r e1 hr
  exact ⟨b, _, e, hb, by rw [List.length_map]⟩
theorem LensV.ex {K : PySem.W.Frag} {H H' : Hp} {a : Addr} {xs : List V} {ns : List Nat} (h : LensV K H a xs ns) (e : Ex H H') : LensV K H' a xs ns := by
  obtain ⟨h1, h2, h3⟩ := h
  exact ⟨h1.ex e, h2, fun i w n e1 e2 => let ⟨b, ys, x, y, z⟩ := h3 i w n e1 e2; ⟨b, ys, x, y.ex e, z⟩⟩
theorem MatV.ex {K : PySem.W.Frag} {H H' : Hp} {a : Addr} {xs : List V} {m : List (List Int)} (h : MatV K H a xs m) (e : Ex H H') : MatV K H' a xs m := by
  obtain ⟨h1, h2, h3⟩ := h
  exact ⟨h1.ex e, h2, fun i w r e1 e2 => let ⟨b, x, y⟩ := h3 i w r e1 e2; ⟨b, x, y.ex e⟩⟩
theorem vals_true {vs : List V} (h : ∀ (i : Nat) v, vs[i]? = some v → v = V.bl true) : vs = (List.replicate vs.length true).map V.bl := by
  refine List.ext_getElem? fun i => ?_
  by_cases c : i < vs.length
  · rw [List.getElem?_eq_getElem c, h i _ (List.getElem?_eq_getElem c), List.getElem?_map, List.getElem?_replicate, if_pos c]; rfl
  · rw [List.getElem?_eq_none (by omega), List.getElem?_eq_none (by rw [List.length_map, List.length_replicate]; omega)]
theorem all_true (n : Nat) : (List.replicate n true).all id = true := by
  rw [List.all_eq_true]
  intro x hx
  rw [(List.mem_replicate.mp hx).2]
  rfl
theorem shapedI (r : List Int) : SeqAt.shaped (PyData.list (r.map PyData.int)) = true := by
  have := depI r
  unfold SeqAt.shaped
  simp [PyData.canLay0, PyData.depth, layI]
  omega
theorem shapedIT (r : List Int) : SeqAt.shaped (PyData.tuple (r.map PyData.int)) = true := by
  have := depI r
  unfold SeqAt.shaped
  simp [PyData.canLay0, PyData.depth, layI]
  omega
/-! ### with a pot that is drawn from -/
theorem PotL.ne {H : Hp} {p l D : Addr} (h : PotL H p l) (n : H D = none) : D ≠ p ∧ D ≠ l := by
  obtain ⟨cs, i, c, ne, h1, h2, _⟩ := h
  exact ⟨(ne_of_none h1 n).symm, (ne_of_none h2 n).symm⟩
theorem ints_ne {H : Hp} {p l a : Addr} {ns : List Int} (h : PotL H p l) (ha : H a = some (.lst (ns.map V.int))) : a ≠ p := by
  obtain ⟨cs, i, c, ne, h1, h2, _⟩ := h
  rintro rfl
  rw [ha] at h1
  cases ns with
  | nil => cases h1
  | cons n ns => cases h1
theorem refs_ne {H : Hp} {p l a : Addr} {as : List Addr} (h : PotL H p l) (ha : H a = some (.lst (as.map V.ref))) : a ≠ p := by
  obtain ⟨cs, i, c, ne, h1, h2, _⟩ := h
  rintro rfl
  rw [ha] at h1
  match as, h1 with
  | [], h1 => cases h1
  | [_], h1 => cases h1
  | _ :: _ :: _, h1 => cases h1
theorem RowsL.kp {H H' : Hp} {L p l : Addr} {m : List (List Int)} (h : RowsL H L m) (pot : PotL H p l) (k : Keep p H H') : RowsL H' L m := by
  obtain ⟨as, a, b, c⟩ := h
  exact ⟨as, k _ _ a (refs_ne pot a), b, fun i x r e1 e2 => k _ _ (c i x r e1 e2) (ints_ne pot (c i x r e1 e2))⟩
theorem RowsT.nl {H H' : Hp} {L : Addr} {m : List (List Int)} (h : RowsT H L m) (k : NL H H') : RowsT H' L m := let ⟨as, a, b, c⟩ := h; ⟨as, k.tup a, b, fun i x r e1 e2 => k.tup (c i x r e1 e2)⟩
theorem kp_at {p D : Addr} {H H' : Hp} {o : HO} (k : Fc.Keep p H H') (hD : H D = none) : Fc.Keep p H (L2.upd H' D o) := fun b ob hb ne => by rw [L2.upd_ne (ne_of_none hb hD)]; exact k b ob hb ne
section
variable {K : PySem.W.Frag} {g : TG} {te : TE} {ws : List Nat} {σ : L2.St} {H : Hp} {Q : VK}
theorem lcRP {lo : Int} {n : Nat} {wi : TI} {p l : Addr} (Pb : Nat → Int → Prop) (hn : n ≤ 100000) (pot : PotL H p l) (hw : ∀ P : It → Hp → Prop, P (Itr lo n) H → wi σ H P)
    (hs : ∀ i H' D, i < n → PotL H' p l → Keep p H H' → (∃ o, H' D = some o) → ∀ Q' : VK, (∀ x H2, Pb i x → PotL H2 p l → Keep p H' H2 → Q' (.int x) H2) → LcBody g te ws σ (V.int (lo + (i : Int))) H' Q')
    (k : ∀ D H2 (xs : List Int), H D = none → H2 D = some (.lst (xs.map V.int)) → xs.length = n → (∀ (i : Nat) x, xs[i]? = some x → Pb i x) → PotL H2 p l → Keep p H H2 → Q (.ref D) H2) : tLc wi g tYes te ws σ H Q := by
  refine hw _ fun D hD => ?_
  obtain ⟨dp, dl⟩ := pot.ne hD
  refine it_rng (fun i H' => PotL H' p l ∧ Keep p H H' ∧ ∃ xs : List Int, H' D = some (.lst (xs.map V.int)) ∧ xs.length = i ∧ ∀ (j : Nat) x, xs[j]? = some x → Pb j x)
    ⟨pot.ex (Ex.new hD), Keep.new hD, [], upd_same, rfl, fun j x e => by simp at e⟩ (fun i H' hi q => ?_) (fun H' q => ?_)
  · obtain ⟨pt, kp, xs, h1, h2, h3⟩ := q
    refine hs i H' D hi pt kp ⟨_, h1⟩ _ fun x H2 px p2 k2 => ?_
    have hD2 := k2 _ _ h1 dp
    refine ⟨_, hD2, by rw [List.length_map, h2, sizeLine_eq]; omega, p2.keep (fun b o hb ne => by rw [upd_ne ne]; exact hb) dp dl, kp_at (kp.trans k2) hD, xs ++ [x], by rw [upd_same, List.map_append]; rfl, by rw [List.length_append, h2]; rfl, fun j y hj => ?_⟩
    by_cases c : j < xs.length
    · rw [List.getElem?_append_left c] at hj
      exact h3 j y hj
    · have hj2 : j = xs.length := by
        have := (List.getElem?_eq_some_iff.mp hj).1
        rw [List.length_append] at this
        simp at this
        omega
      subst hj2
      rw [List.getElem?_append_right (Nat.le_refl _)] at hj
      simp at hj
      subst hj
      rw [h2]
      exact px
  · obtain ⟨pt, kp, xs, h1, h2, h3⟩ := q
    exact k D H' xs hD h1 h2 h3 pt kp
end
theorem pick_all {P : Nat → Addr → List Addr → Prop} : ∀ {vs : List V} {n : Nat}, (∀ (i : Nat) v, vs[i]? = some v → ∃ b cs, v = V.ref b ∧ P (n + i) b cs) →
    ∃ (as : List Addr) (css : List (List Addr)), vs = as.map V.ref ∧ css.length = as.length ∧ ∀ (i : Nat) b cs, as[i]? = some b → css[i]? = some cs → P (n + i) b cs
  | [], n, _ => ⟨[], [], rfl, rfl, fun i b cs h => by simp at h⟩
  | v :: vs, n, h => by
    obtain ⟨b, cs, rfl, hb⟩ := h 0 v rfl
    obtain ⟨as, css, e, l, k⟩ := pick_all (P := P) (vs := vs) (n := n + 1) fun i v hv => by
      have := h (i + 1) v (by simpa using hv)
      rwa [show n + (i + 1) = n + 1 + i by omega] at this
    subst e
    refine ⟨b :: as, cs :: css, rfl, by simpa using l, fun i c ds h1 h2 => ?_⟩
    cases i with
    | zero => cases h1; cases h2; exact hb
    | succ i =>
      have := k i c ds (by simpa using h1) (by simpa using h2)
      rwa [show n + 1 + i = n + (i + 1) by omega] at this
/-- e.f read within a comprehension: the fragment named -/
theorem pe_fldN {X : Cx} (K : PySem.W.Frag) {e : Expr} {f : Str} {pos : Pos} {ta : TE} (he : PE X e ta) (hb : attributeBase e f X.env (eval e X.env) = eval e X.env := by rfl) (hK : X.K = K := by rfl) : PE X (.Attribute e f pos) (tFld K ta f) := by
  subst hK
  exact pe_fld he hb
end Fc
set_option Elab.async false
set_option linter.all false
set_option maxRecDepth 100000
set_option maxHeartbeats 4000000
set_option exponentiation.threshold 100000
namespace Fc
open PySem PySem.Spec PyProof.Rows L2 L2H
/-! ### the text -/
def top (i : Nat) : Stmt := PySem.Challenge.pw_fewcarry_k10_columns_and_mixtures.main.body.getD i (.Pass ⟨0, 0, 0, 0⟩)
abbrev S_oob : Stmt := inClass (top 5) 0
abbrev N_oob : List Str := ["self", "value"]
theorem sc_oob : FnScope N_oob ["self", "value"] (defScope S_oob) := ⟨rfl, rfl, rfl, by decide +kernel, rfl, by decide +kernel, by decide +kernel⟩
abbrev S_bpl : Stmt := inClass (top 8) 0
abbrev N_bpl : List Str := ["self", "place"]
theorem sc_bpl : FnScope N_bpl ["self", "place"] (defScope S_bpl) := ⟨rfl, rfl, rfl, by decide +kernel, rfl, by decide +kernel, by decide +kernel⟩
abbrev S_init : Stmt := inClass (top 14) 0
abbrev N_init : List Str := ["self", "top", "bottom", "divisor"]
theorem sc_init : FnScope N_init ["self", "top", "bottom"] (defScope S_init) := ⟨rfl, rfl, rfl, by decide +kernel, rfl, by decide +kernel, by decide +kernel⟩
abbrev S_cdiv : Stmt := top 20
abbrev N_cdiv : List Str := ["row", "divisor", "number"]
theorem sc_cdiv : FnScope N_cdiv ["row"] (defScope S_cdiv) := ⟨rfl, rfl, rfl, by decide +kernel, rfl, by decide +kernel, by decide +kernel⟩
abbrev S_cleared : Stmt := top 22
abbrev N_cleared : List Str := ["row", "base", "column", "divisor", "pivot", "factor", "x", "y"]
theorem sc_cleared : FnScope N_cleared ["row", "base", "column", "divisor"] (defScope S_cleared) := ⟨rfl, rfl, rfl, by decide +kernel, rfl, by decide +kernel, by decide +kernel⟩
abbrev S_fplace : Stmt := top 23
abbrev N_fplace : List Str := ["table", "start", "column", "k"]
theorem sc_fplace : FnScope N_fplace ["table", "start", "column"] (defScope S_fplace) := ⟨rfl, rfl, rfl, by decide +kernel, rfl, by decide +kernel, by decide +kernel⟩
abbrev S_elim : Stmt := top 21
abbrev N_elim : List Str := ["rows", "width", "table", "row", "places", "pivot", "column", "done", "found", "given_up", "number", "base", "k"]
theorem sc_elim : FnScope N_elim ["rows", "width"] (defScope S_elim) := ⟨rfl, rfl, rfl, by decide +kernel, rfl, by decide +kernel, by decide +kernel⟩
abbrev S_indep : Stmt := top 31
abbrev N_indep : List Str := ["grid"]
theorem sc_indep : FnScope N_indep ["grid"] (defScope S_indep) := ⟨rfl, rfl, rfl, by decide +kernel, rfl, by decide +kernel, by decide +kernel⟩
abbrev S_rank : Stmt := top 32
abbrev N_rank : List Str := ["grid"]
theorem sc_rank : FnScope N_rank ["grid"] (defScope S_rank) := ⟨rfl, rfl, rfl, by decide +kernel, rfl, by decide +kernel, by decide +kernel⟩
abbrev S_mixture : Stmt := top 33
abbrev N_mixture : List Str := ["grid", "column", "table", "places", "pivot", "k"]
theorem sc_mixture : FnScope N_mixture ["grid", "column"] (defScope S_mixture) := ⟨rfl, rfl, rfl, by decide +kernel, rfl, by decide +kernel, by decide +kernel⟩
abbrev S_ginit : Stmt := inClass (top 26) 0
abbrev N_ginit : List Str := ["self", "rows", "over", "divisor", "number", "row"]
theorem sc_ginit : FnScope N_ginit ["self", "rows", "over"] (defScope S_ginit) := ⟨rfl, rfl, rfl, by decide +kernel, rfl, by decide +kernel, by decide +kernel⟩
abbrev S_cshape : Stmt := top 27
abbrev N_cshape : List Str := ["rows", "row"]
theorem sc_cshape : FnScope N_cshape ["rows"] (defScope S_cshape) := ⟨rfl, rfl, rfl, by decide +kernel, rfl, by decide +kernel, by decide +kernel⟩
abbrev S_shared : Stmt := top 28
abbrev N_shared : List Str := ["rows", "over", "divisor", "row"]
theorem sc_shared : FnScope N_shared ["rows", "over"] (defScope S_shared) := ⟨rfl, rfl, rfl, by decide +kernel, rfl, by decide +kernel, by decide +kernel⟩
abbrev S_start : Stmt := top 35
abbrev N_start : List Str := ["script", "cell"]
theorem sc_start : FnScope N_start ["script"] (defScope S_start) := ⟨rfl, rfl, rfl, by decide +kernel, rfl, by decide +kernel, by decide +kernel⟩
abbrev S_digit : Stmt := top 36
abbrev N_digit : List Str := ["pot", "many", "digit"]
theorem sc_digit : FnScope N_digit ["pot", "many"] (defScope S_digit) := ⟨rfl, rfl, rfl, by decide +kernel, rfl, by decide +kernel, by decide +kernel⟩
abbrev S_number : Stmt := top 37
abbrev N_number : List Str := ["pot", "many", "shift"]
theorem sc_number : FnScope N_number ["pot", "many", "shift"] (defScope S_number) := ⟨rfl, rfl, rfl, by decide +kernel, rfl, by decide +kernel, by decide +kernel⟩
abbrev S_more : Stmt := top 38
abbrev N_more : List Str := ["x", "y", "times", "i"]
theorem sc_more : FnScope N_more ["x", "y", "times"] (defScope S_more) := ⟨rfl, rfl, rfl, by decide +kernel, rfl, by decide +kernel, by decide +kernel⟩
abbrev S_lcleared : Stmt := top 40
abbrev N_lcleared : List Str := ["x", "y", "at", "u", "v", "i"]
theorem sc_lcleared : FnScope N_lcleared ["x", "y", "at"] (defScope S_lcleared) := ⟨rfl, rfl, rfl, by decide +kernel, rfl, by decide +kernel, by decide +kernel⟩
abbrev S_islist : Stmt := top 46
abbrev N_islist : List Str := ["told", "places", "one"]
theorem sc_islist : FnScope N_islist ["told", "places"] (defScope S_islist) := ⟨rfl, rfl, rfl, by decide +kernel, rfl, by decide +kernel, by decide +kernel⟩
abbrev S_pair : Stmt := top 43
abbrev N_pair : List Str := ["told", "u", "v", "k", "rest"]
theorem sc_pair : FnScope N_pair ["told"] (defScope S_pair) := ⟨rfl, rfl, rfl, by decide +kernel, rfl, by decide +kernel, by decide +kernel⟩
abbrev S_ismix : Stmt := top 44
abbrev N_ismix : List Str := ["told", "columns", "places", "at", "pairs", "one", "k", "i", "top", "bottom", "cell"]
theorem sc_ismix : FnScope N_ismix ["told", "columns", "places", "at"] (defScope S_ismix) := ⟨rfl, rfl, rfl, by decide +kernel, rfl, by decide +kernel, by decide +kernel⟩
abbrev S_badplace : Stmt := top 45
abbrev N_badplace : List Str := ["a", "place", "e"]
theorem sc_badplace : FnScope N_badplace ["a", "place"] (defScope S_badplace) := ⟨rfl, rfl, rfl, by decide +kernel, rfl, by decide +kernel, by decide +kernel⟩
abbrev S_lindep : Stmt := top 41
abbrev N_lindep : List Str := ["columns", "kept", "places", "j", "column", "pair", "found", "i"]
theorem sc_lindep : FnScope N_lindep ["columns"] (defScope S_lindep) := ⟨rfl, rfl, rfl, by decide +kernel, rfl, by decide +kernel, by decide +kernel⟩
abbrev S_table : Stmt := top 39
abbrev N_table : List Str := ["pot", "height", "width", "kind", "many", "columns", "j", "shift", "column", "i", "other"]
theorem sc_table : FnScope N_table ["pot", "height", "width"] (defScope S_table) := ⟨rfl, rfl, rfl, by decide +kernel, rfl, by decide +kernel, by decide +kernel⟩
abbrev S_law : Stmt := top 47
abbrev N_law : List Str := ["script", "pot", "height", "width", "columns", "over", "rows", "column", "i", "places", "a", "fields", "told", "many", "at", "beyond", "place"]
theorem sc_law : FnScope N_law ["script"] (defScope S_law) := ⟨rfl, rfl, rfl, by decide +kernel, rfl, by decide +kernel, by decide +kernel⟩
abbrev S_whole : Stmt := top 42
abbrev N_whole : List Str := ["told"]
theorem sc_whole : FnScope N_whole ["told"] (defScope S_whole) := ⟨rfl, rfl, rfl, by decide +kernel, rfl, by decide +kernel, by decide +kernel⟩
structure Ad where
  C : Addr
  f_init : Addr
  d_init : FuncData
  Z : Addr
  CE : Addr
  BS : Addr
  O : Addr
  P : Addr
  Gr : Addr
  f_ginit : Addr
  d_ginit : FuncData
  f_oob : Addr
  d_oob : FuncData
  f_bpl : Addr
  d_bpl : FuncData
  f_cdiv : Addr
  d_cdiv : FuncData
  f_cleared : Addr
  d_cleared : FuncData
  f_fplace : Addr
  d_fplace : FuncData
  f_elim : Addr
  d_elim : FuncData
  f_indep : Addr
  d_indep : FuncData
  f_rank : Addr
  d_rank : FuncData
  f_mixture : Addr
  d_mixture : FuncData
  f_cshape : Addr
  d_cshape : FuncData
  f_shared : Addr
  d_shared : FuncData
  f_start : Addr
  d_start : FuncData
  f_digit : Addr
  d_digit : FuncData
  f_number : Addr
  d_number : FuncData
  f_more : Addr
  d_more : FuncData
  f_lcleared : Addr
  d_lcleared : FuncData
  f_islist : Addr
  d_islist : FuncData
  f_pair : Addr
  d_pair : FuncData
  f_ismix : Addr
  d_ismix : FuncData
  f_badplace : Addr
  d_badplace : FuncData
  f_lindep : Addr
  d_lindep : FuncData
  f_table : Addr
  d_table : FuncData
  f_law : Addr
  d_law : FuncData
  f_whole : Addr
  d_whole : FuncData
structure Txt (K : PySem.W.Frag) (mg : Str → Option Value) (A : Ad) : Prop where
  hn : PySem.W.specialIn K (.builtin "object.__class__") "__get__" = some (some (.builtin "getset_descriptor.__get__"))
  htk : PySem.W.takesIn K (.builtin "object.__class__") = some true
  cl : Cls K A.C
  nT : NoAttr K A.C "top"
  nB : NoAttr K A.C "bottom"
  mkC : Mk K A.C A.f_init
  ha : PySem.W.findIn K (.ref A.C) "__class__" = some (some (.builtin "object.__class__"))
  hm : PySem.W.mroIn K A.C (.type "object") = some true
  F_init : FunD K "__init__" "Ratio.__init__" (defArgs S_init) (defBody S_init) (defScope S_init) [.int 1] [] A.f_init A.d_init
  b_init3 : Binds K A.d_init ["self", "top", "bottom"] []
  b_init2 : ∃ ds, Vals [V.int 1] ds ∧ Binds K A.d_init ["self", "top", "bottom"] ds
  g_Ratio : mg "Ratio" = some (.ref A.C)
  g_gcd : mg "gcd" = some (.builtin "math.gcd")
  g_Z : mg "ZeroBottom" = some (.ref A.Z)
  xZ : PySem.W.excIn K A.Z [.type "ValueError", .type "Exception", .type "BaseException", .type "object"] "ValueError.__new__" = true
  kZ : PySem.W.keepIn K (.ref A.Z) = true
  bZ : PySem.W.subIn K (.ref A.Z) (.type "BaseException") = some true
  tZ : PySem.W.typeIn K (.ref A.Z) = some (.type "type")
  g_CE : mg "CarryError" = some (.ref A.CE)
  g_BS : mg "BadShape" = some (.ref A.BS)
  x_BS : PySem.W.excIn K A.BS [.type "ValueError", .type "Exception", .type "BaseException", .type "object"] "ValueError.__new__" = true
  k_BS : PySem.W.keepIn K (.ref A.BS) = true
  bs_BS : PySem.W.subIn K (.ref A.BS) (.type "BaseException") = some true
  t_BS : PySem.W.typeIn K (.ref A.BS) = some (.type "type")
  e_BS : PySem.W.exmOne K (.ref A.BS) (.ref A.CE) = some true
  X_BS : ExcC K A.BS
  v_BS : PySem.W.kitOne K (.ref A.BS) (.type "ValueError") = some true
  g_O : mg "OutOfBounds" = some (.ref A.O)
  o_O : OexC K A.O
  in_O : PySem.W.findIn K (.ref A.O) "__init__" = some (some (.ref A.f_oob))
  ti_O : PySem.W.typeIn K (.ref A.f_oob) = some (.type "function")
  xf_O : XfC K A.O
  e_O : PySem.W.exmOne K (.ref A.O) (.ref A.CE) = some true
  X_O : ExcC K A.O
  v_O : PySem.W.kitOne K (.ref A.O) (.type "ValueError") = some true
  n_O_value : PySem.W.findIn K (.ref A.O) "value" = some none
  g_P : mg "BadPlace" = some (.ref A.P)
  o_P : OexC K A.P
  in_P : PySem.W.findIn K (.ref A.P) "__init__" = some (some (.ref A.f_bpl))
  ti_P : PySem.W.typeIn K (.ref A.f_bpl) = some (.type "function")
  xf_P : XfC K A.P
  e_P : PySem.W.exmOne K (.ref A.P) (.ref A.CE) = some true
  X_P : ExcC K A.P
  v_P : PySem.W.kitOne K (.ref A.P) (.type "ValueError") = some true
  n_P_place : PySem.W.findIn K (.ref A.P) "place" = some none
  pNbs : PySem.W.kitOne K (.ref A.P) (.ref A.BS) = some false
  gi_MOST_SIZE : ∃ tk, mg "_MOST_SIZE" = some (.int 64 tk)
  c_Gr : Cls K A.Gr
  mk_Gr : Mk K A.Gr A.f_ginit
  ha_Gr : PySem.W.findIn K (.ref A.Gr) "__class__" = some (some (.builtin "object.__class__"))
  hm_Gr : PySem.W.mroIn K A.Gr (.type "object") = some true
  g_Grid : mg "Grid" = some (.ref A.Gr)
  F_ginit : FunD K "__init__" "Grid.__init__" (defArgs S_ginit) (defBody S_ginit) (defScope S_ginit) [.int 1] [] A.f_ginit A.d_ginit
  b_ginit : Binds K A.d_ginit ["self", "rows", "over"] []
  b1_ginit : ∃ ds, Vals [V.int 1] ds ∧ Binds K A.d_ginit ["self", "rows", "over"] ds
  na_Gr_rows : NoAttr K A.Gr "rows"
  na_Gr_over : NoAttr K A.Gr "over"
  na_Gr_height : NoAttr K A.Gr "height"
  na_Gr_width : NoAttr K A.Gr "width"
  n_len : mg "len" = none
  n_abs : mg "abs" = none
  n_int : mg "int" = none
  n_bool : mg "bool" = none
  n_isinstance : mg "isinstance" = none
  n_range : mg "range" = none
  n_ValueError : mg "ValueError" = none
  n_list : mg "list" = none
  n_zip : mg "zip" = none
  n_tuple : mg "tuple" = none
  n_all : mg "all" = none
  n_enumerate : mg "enumerate" = none
  F_oob : Fun K "__init__" "OutOfBounds.__init__" S_oob A.f_oob A.d_oob
  b_oob : Binds K A.d_oob ["self", "value"] []
  m_oob : Meth K A.O "__init__" A.f_oob
  F_bpl : Fun K "__init__" "BadPlace.__init__" S_bpl A.f_bpl A.d_bpl
  b_bpl : Binds K A.d_bpl ["self", "place"] []
  m_bpl : Meth K A.P "__init__" A.f_bpl
  F_cdiv : Fun K "common_divisor" "common_divisor" S_cdiv A.f_cdiv A.d_cdiv
  b_cdiv : Binds K A.d_cdiv ["row"] []
  g_cdiv : mg "common_divisor" = some (.ref A.f_cdiv)
  F_cleared : Fun K "cleared" "cleared" S_cleared A.f_cleared A.d_cleared
  b_cleared : Binds K A.d_cleared ["row", "base", "column", "divisor"] []
  g_cleared : mg "cleared" = some (.ref A.f_cleared)
  F_fplace : Fun K "_first_place" "_first_place" S_fplace A.f_fplace A.d_fplace
  b_fplace : Binds K A.d_fplace ["table", "start", "column"] []
  g_fplace : mg "_first_place" = some (.ref A.f_fplace)
  F_elim : Fun K "eliminated" "eliminated" S_elim A.f_elim A.d_elim
  b_elim : Binds K A.d_elim ["rows", "width"] []
  g_elim : mg "eliminated" = some (.ref A.f_elim)
  F_indep : Fun K "independent_columns" "independent_columns" S_indep A.f_indep A.d_indep
  b_indep : Binds K A.d_indep ["grid"] []
  g_indep : mg "independent_columns" = some (.ref A.f_indep)
  F_rank : Fun K "rank" "rank" S_rank A.f_rank A.d_rank
  b_rank : Binds K A.d_rank ["grid"] []
  g_rank : mg "rank" = some (.ref A.f_rank)
  F_mixture : Fun K "mixture" "mixture" S_mixture A.f_mixture A.d_mixture
  b_mixture : Binds K A.d_mixture ["grid", "column"] []
  g_mixture : mg "mixture" = some (.ref A.f_mixture)
  F_cshape : Fun K "_check_shape" "_check_shape" S_cshape A.f_cshape A.d_cshape
  b_cshape : Binds K A.d_cshape ["rows"] []
  g_cshape : mg "_check_shape" = some (.ref A.f_cshape)
  F_shared : Fun K "_shared_divisor" "_shared_divisor" S_shared A.f_shared A.d_shared
  b_shared : Binds K A.d_shared ["rows", "over"] []
  g_shared : mg "_shared_divisor" = some (.ref A.f_shared)
  F_start : Fun K "_law_start" "_law_start" S_start A.f_start A.d_start
  b_start : Binds K A.d_start ["script"] []
  g_start : mg "_law_start" = some (.ref A.f_start)
  F_digit : Fun K "_law_digit" "_law_digit" S_digit A.f_digit A.d_digit
  b_digit : Binds K A.d_digit ["pot", "many"] []
  g_digit : mg "_law_digit" = some (.ref A.f_digit)
  F_number : Fun K "_law_number" "_law_number" S_number A.f_number A.d_number
  b_number : Binds K A.d_number ["pot", "many", "shift"] []
  g_number : mg "_law_number" = some (.ref A.f_number)
  F_more : Fun K "_law_more" "_law_more" S_more A.f_more A.d_more
  b_more : Binds K A.d_more ["x", "y", "times"] []
  g_more : mg "_law_more" = some (.ref A.f_more)
  F_lcleared : Fun K "_law_cleared" "_law_cleared" S_lcleared A.f_lcleared A.d_lcleared
  b_lcleared : Binds K A.d_lcleared ["x", "y", "at"] []
  g_lcleared : mg "_law_cleared" = some (.ref A.f_lcleared)
  F_islist : Fun K "_law_is_list" "_law_is_list" S_islist A.f_islist A.d_islist
  b_islist : Binds K A.d_islist ["told", "places"] []
  g_islist : mg "_law_is_list" = some (.ref A.f_islist)
  F_pair : Fun K "_law_pair" "_law_pair" S_pair A.f_pair A.d_pair
  b_pair : Binds K A.d_pair ["told"] []
  g_pair : mg "_law_pair" = some (.ref A.f_pair)
  F_ismix : Fun K "_law_is_mixture" "_law_is_mixture" S_ismix A.f_ismix A.d_ismix
  b_ismix : Binds K A.d_ismix ["told", "columns", "places", "at"] []
  g_ismix : mg "_law_is_mixture" = some (.ref A.f_ismix)
  F_badplace : Fun K "_law_bad_place" "_law_bad_place" S_badplace A.f_badplace A.d_badplace
  b_badplace : Binds K A.d_badplace ["a", "place"] []
  g_badplace : mg "_law_bad_place" = some (.ref A.f_badplace)
  F_lindep : Fun K "_law_independent" "_law_independent" S_lindep A.f_lindep A.d_lindep
  b_lindep : Binds K A.d_lindep ["columns"] []
  g_lindep : mg "_law_independent" = some (.ref A.f_lindep)
  F_table : Fun K "_law_table" "_law_table" S_table A.f_table A.d_table
  b_table : Binds K A.d_table ["pot", "height", "width"] []
  g_table : mg "_law_table" = some (.ref A.f_table)
  F_law : Fun K "law" "law" S_law A.f_law A.d_law
  b_law : Binds K A.d_law ["script"] []
  g_law : mg "law" = some (.ref A.f_law)
  F_whole : Fun K "_law_whole" "_law_whole" S_whole A.f_whole A.d_whole
  b_whole : Binds K A.d_whole ["told"] []
  g_whole : mg "_law_whole" = some (.ref A.f_whole)
section
variable {P : Program} {w : World} {K : PySem.W.Frag} {mg : Str → Option Value} {base : Heap} {A : Ad}
/-! ### Ratio.__init__: raises for a bottom 0, else lowest terms -/
def spInit (A : Ad) : Sp := fun vs H Q E => ∃ (x dx : Addr) (t b : Int), vs = [.ref x, .int t, .int b] ∧ H x = some (.ins A.C dx []) ∧ (b = 0 → E (.ref A.Z) none H) ∧
  (b ≠ 0 → Bd 8900 b ∧ ∀ H', RatAt A.C H' x (lo t b) → (∀ c o, H c = some o → c ≠ x → H' c = some o) → Q .non H')
theorem ok_init (T : Txt K mg A) : FnOk P w K mg base (L2.CX P w) 1 A.f_init A.d_init ["self", "top", "bottom"] (spInit A) := by
  refine T.F_init.ok sc_init (fun vs H Q E h => ?_) (fun cdv Ar outer s H vs Q E hr h => ?_)
  · obtain ⟨x, dx, t, b, rfl, _⟩ := h
    rfl
  · obtain ⟨x, dx, t, b, rfl, hx, k0, k1⟩ := h
    refine ⟨_, (pss_cons (ps_if (pt_cmpR op_eq (pv 2) pe_int (nomark _))
      (pss_one (ps_raise rfl (takes_of rfl rfl rfl rfl) (pmk_bare PySem.F.excBase_ValueError T.xZ T.g_Z T.kZ (raises_own T.bZ T.tZ) rfl))) pss_nil)
      (pss_cons (ps_set (i := 3) sc_init.nd rfl (Or.inl rfl) (pe_callBfun cr_gcd rfl T.g_gcd (pa_cons (pv 1) (pa_cons (pv 2) pa_nil))))
      (pss_cons (ps_if (pt_cmpR op_lt (pv 2) pe_int (nomark _))
      (pss_one (ps_set (i := 3) sc_init.nd rfl (Or.inl rfl) (pe_un un_neg (pv 3)))) pss_nil)
      (pss_cons (ps_fld (pv 0) (pe_op op_fdv (pv 1) (pv 3)) rfl)
      (pss_one (ps_fld (pv 0) (pe_op op_fdv (pv 2) (pv 3)) rfl)))))), ?_⟩
    refine ⟨_, rfl, rfl, _, rfl, ?_⟩
    by_cases hb : b = 0
    · refine ite2 (fun _ => k0 hb) (fun n => absurd (by rw [hb] <;> rfl) n)
    refine ite2 (fun z => absurd (V.int.inj (of_decide_eq_true z)) hb) (fun _ => ?_)
    obtain ⟨bb, k⟩ := k1 hb
    have g := gcd_pos (t := t) hb
    have gn : ((Nat.gcd t.natAbs b.natAbs : Nat) : Int) = (Int.gcd t b : Int) := rfl
    have gb : Bd 8900 (Int.gcd t b : Int) := by
      refine bb.abs ?_
      have := Nat.le_of_dvd (by omega : 0 < b.natAbs) (Nat.gcd_dvd_right t.natAbs b.natAbs)
      show ((Nat.gcd t.natAbs b.natAbs : Nat) : Int).natAbs ≤ _
      omega
    have lp := lo_prog (t := t) hb
    refine ⟨_, rfl, _, rfl, t, b, rfl, _, rfl, _, _, rfl, rfl, _, rfl, ?_⟩
    have fin : ∀ d : Int, d ≠ 0 → Bd 8900 d → lo t b = (t.fdiv d, b.fdiv d) → ∀ H2 : Hp, H2 = upd (upd H x (.ins A.C dx (putF "top" (.int (t.fdiv d)) []))) x (.ins A.C dx (putF "bottom" (.int (b.fdiv d)) (putF "top" (.int (t.fdiv d)) []))) → Q .non H2 := by
      intro d d0 db e H2 e2
      refine k H2 ⟨dx, ?_⟩ fun c o hc hn => ?_
      · rw [e2, upd_same, rf_put, e]
      · rw [e2, upd_ne hn, upd_ne hn]; exact hc
    refine ite2 (fun c => ?_) (fun c => ?_)
    · have c' : b < 0 := of_decide_eq_true c
      rw [if_pos c'] at lp
      refine ⟨_, rfl, _, rfl, _, rfl, _, rfl, _, _, rfl, rfl, gb.neg.fdv (by omega), _, rfl, x, A.C, dx, _, rfl, hx, T.cl, T.nT, (by show 0 < 1000; decide), ?_⟩
      refine ⟨_, rfl, _, rfl, _, _, rfl, rfl, gb.neg.fdv (by omega), _, rfl, x, A.C, dx, _, rfl, upd_same, T.cl, T.nB, (by show 1 < 1000; decide), ?_⟩
      exact fin _ (by omega) gb.neg lp _ rfl
    · have c' : ¬ b < 0 := fun z => c (decide_eq_true z)
      rw [if_neg c'] at lp
      refine ⟨_, rfl, _, rfl, _, _, rfl, rfl, gb.fdv (by omega), _, rfl, x, A.C, dx, _, rfl, hx, T.cl, T.nT, (by show 0 < 1000; decide), ?_⟩
      refine ⟨_, rfl, _, rfl, _, _, rfl, rfl, gb.fdv (by omega), _, rfl, x, A.C, dx, _, rfl, upd_same, T.cl, T.nB, (by show 1 < 1000; decide), ?_⟩
      exact fin _ (by omega) gb lp _ rfl
/-- Ratio(t, b) read: for b not 0 -/
theorem rd_make {t b : Int} {H : Hp} {Q : VK} {E : XK} (hb : b ≠ 0) (bb : Bd 8900 b) (k : ∀ x H', Ex H H' → H x = none → RatAt A.C H' x (lo t b) → Q (.ref x) H') :
    ∀ x dx, H x = none → H dx = none → dx ≠ x → spInit A [.ref x, .int t, .int b] (upd (upd H dx (.own x)) x (.ins A.C dx [])) (fun v H2 => v = .non ∧ Q (.ref x) H2) E :=
  fun x dx nx nd ne => ⟨x, dx, t, b, rfl, upd_same, fun z => absurd z hb, fun _ => ⟨bb, fun H' r kp => ⟨rfl, k x H' (Same.made nx nd kp) nx r⟩⟩⟩
theorem ok_start (T : Txt K mg A) : FnOk P w K mg base CX0 1 A.f_start A.d_start ["script"] (spStart K) := by
  refine T.F_start.ok sc_start (fun vs H Q E h => ?_) (fun cdv Ar outer s H vs Q E hr h => ?_)
  · obtain ⟨a, ns, rfl, _⟩ := h
    rfl
  · obtain ⟨a, ns, rfl, hS, hl, k⟩ := h
    refine ⟨_, (pss_one (ps_ret (pe_lst (pa_cons (pe_lc (own := [("cell", 1)]) (g := gName 1) (tt := tYes) rfl sc_start.nd (pi_list (pe_slice sl_list (pv 0) po_none (po_some pe_int))) (blkOk_by (own := [("cell", 1)]) (N := N_start) (sc := defScope S_start) (by decide +kernel)) (fun _ _ _ _ _ => pg_name (i := 1) sc_start.nd rfl (Or.inl rfl)) (fun _ _ _ _ _ => pts_nil) (fun _ _ _ _ _ => (pe_callB call_abs (by rfl) T.n_abs (by decide +kernel) (pa_cons (pv 1) pa_nil)))) (pa_cons pe_int (pa_cons pe_int pa_nil)))))), ?_⟩
    obtain ⟨ms, hms, hml⟩ : ∃ ms : List Int, cutV (ns.map V.int) none (some 63) = ms.map V.int ∧ ms.length ≤ 63 := by
      refine ⟨(ns.drop (HT.sIx (ns.map V.int).length 0 none)).take (HT.sIx (ns.map V.int).length (ns.map V.int).length (some 63) - HT.sIx (ns.map V.int).length 0 none), ?_, ?_⟩
      · unfold cutV
        rw [List.map_take, List.map_drop]
      · rw [List.length_take, List.length_drop]
        omega
    refine ⟨_, rfl, _, rfl, a, _, rfl, hS, fun p hp => ⟨p, rfl, ⟨_, SqL.of upd_same⟩, fun D hD => ?_⟩⟩
    rw [hms]
    have hpD : p ≠ D := fun e => by rw [← e, hms, upd_same] at hD; cases hD
    have hD0 : H D = none := by rw [hms, upd_ne hpD.symm] at hD; exact hD
    refine lc_list (K := K) (a := p) (xs := ms.map V.int) (fun i H' => (∃ cs : List Int, H' D = some (.lst (cs.map V.int)) ∧ cs.length = i ∧ (∀ z ∈ cs, 0 ≤ z)) ∧ H' p = some (.lst (ms.map V.int)) ∧ Ex H H')
      ⟨⟨[], upd_same, rfl, fun z hz => by cases hz⟩, ?_, ?_⟩ (fun i H' _ h => SqL.of h.2.1) ?_ ?_
    · rw [upd_ne hpD, upd_same]
    · exact fun c o e => by rw [upd_ne (ne_of_none e hD0), upd_ne (ne_of_none e hp)]; exact e
    · rintro i x H' hx ⟨⟨cs, hcs, hci, hc0⟩, hp', ex⟩
      obtain ⟨z, hz, rfl⟩ : ∃ z, ms[i]? = some z ∧ x = V.int z := by
        rw [List.getElem?_map] at hx
        cases e : ms[i]? with
        | none => rw [e] at hx; cases hx
        | some z => rw [e] at hx; exact ⟨z, rfl, (Option.some.inj hx).symm⟩
      have hi : i < ms.length := (List.getElem?_eq_some_iff.mp hz).1
      refine ⟨rfl, _, rfl, z, rfl, _, hcs, ?_, ⟨⟨cs ++ [if z < 0 then -z else z], ?_, ?_, ?_⟩, ?_, ?_⟩⟩
      · rw [List.length_map, hci, sizeLine_eq]; omega
      · rw [upd_same, List.map_append]; rfl
      · rw [List.length_append, hci]; rfl
      · intro y hy
        rcases List.mem_append.mp hy with h | h
        · exact hc0 y h
        · have : y = if z < 0 then -z else z := by simpa using h
          rw [this]
          split <;> omega
      · rw [upd_ne hpD]; exact hp'
      · exact fun c o e => by rw [upd_ne (ne_of_none e hD0)]; exact ex c o e
    · rintro H' ⟨⟨cs, hcs, hci, hc0⟩, hp', ex⟩
      refine ⟨(by show 3 ≤ sizeLine; exact sz3), fun q hq => ?_⟩
      have nqD : D ≠ q := ne_of_none hcs hq
      refine k q _ ⟨D, cs, 0, 0, nqD.symm, upd_same, by rw [upd_ne nqD]; exact hcs, ?_, by decide, by decide, hc0⟩ (ex.to hq) (ex.free hq)
      rw [List.length_map] at hci
      omega
/-! ### the law's digits -/
def spDigitL : Sp := fun vs H Q _ => ∃ (p l : Addr) (m : Int), vs = [.ref p, .int m] ∧ PotL H p l ∧ 0 < m ∧ Bd 300 m ∧
  ∀ d H', 0 ≤ d → d < m → PotL H' p l → Keep p H H' → Q (.int d) H'
theorem ok_digit (T : Txt K mg A) : FnOk P w K mg base CX0 1 A.f_digit A.d_digit ["pot", "many"] spDigitL := by
  refine T.F_digit.ok sc_digit (fun vs H Q E h => ?_) (fun cdv Ar outer s H vs Q E hr h => ?_)
  · obtain ⟨p, l, m, rfl, _⟩ := h
    rfl
  · obtain ⟨p, l, m, rfl, pot, m0, bm, k⟩ := h
    refine ⟨_, (C8.pss_cut (ps_if (PW.pt (pw_and (pt_cmpR op_eq (pe_ix ix_list (pv 0) pe_int (fun _ _ => rfl)) pe_int (nomark _)) (pw_and1 (pt_cmpR op_lt (pe_ix ix_list (pv 0) pe_int (fun _ _ => rfl)) (pe_callB call_len (by rfl) T.n_len PySem.boot_len (pa_cons (pe_ix ix_list (pv 0) pe_int (fun _ _ => rfl)) pa_nil)) (nomark _)))))
      (pss_cons (ps_asg (pe_ix ix_list (pe_ix ix_list (pv 0) pe_int (fun _ _ => rfl)) (pe_ix ix_list (pv 0) pe_int (fun _ _ => rfl)) (fun _ _ => rfl)) (pg_sub (pv 0) pe_int set_list))
      (pss_one (ps_asg (pe_op op_add (pe_ix ix_list (pv 0) pe_int (fun _ _ => rfl)) pe_int) (pg_sub (pv 0) pe_int set_list)))) pss_nil)
      (pss_cons (ps_set (i := 2) sc_digit.nd rfl (Or.inl rfl) (pe_op op_mod (pe_callTy call_int1 (by rfl) T.n_int (by decide +kernel) (pa_cons (pe_ix ix_list (pv 0) pe_int (fun _ _ => rfl)) pa_nil)) (pv 1)))
      (pss_cons (ps_asg (pe_op op_fdivW (pe_ix ix_list (pv 0) pe_int (fun _ _ => rfl)) (pv 1)) (pg_sub (pv 0) pe_int set_list))
      (pss_one (ps_ret (pv 2)))))), ?_⟩
    obtain ⟨cs, i, c, ne, h1, h2, hl, i0, c0, hc⟩ := id pot
    refine ⟨fun sl H' => sl = [some (.ref p), some (.int m), none] ∧ PotL H' p l ∧ Keep p H H', ?_, ?_⟩
    · refine ⟨_, rfl, _, _, _, _, rfl, rfl, SqL.of h1, rfl, rfl, _, rfl, ?_⟩
      refine ite2 (fun z => ?_) (fun z => iteF ⟨rfl, pot, Keep.refl⟩)
      refine ⟨_, rfl, _, _, _, _, rfl, rfl, SqL.of h1, rfl, _, rfl, _, _, _, _, rfl, rfl, SqL.of h1, rfl, _, _, rfl, .inl ⟨_, SqL.of h2, rfl⟩, _, _, rfl, rfl, _, rfl, ?_⟩
      refine ite2 (fun z2 => ?_) (fun z2 => ⟨rfl, pot, Keep.refl⟩)
      have hi : i < cs.length := by have := of_decide_eq_true z2; rw [List.length_map] at this; exact this
      obtain ⟨j, rfl⟩ : ∃ j : Nat, i = (j : Int) := ⟨i.toNat, by omega⟩
      have hj : j < cs.length := by omega
      have at_ : (cs.map V.int)[j]? = some (.int cs[j]) := by rw [List.getElem?_map, List.getElem?_eq_getElem hj]; rfl
      refine ⟨_, rfl, _, _, _, _, rfl, rfl, SqL.of h1, rfl, _, rfl, _, _, _, _, rfl, rfl, SqL.of h1, rfl, _, _, _, _, rfl, rfl, SqL.of h2, atI_nat at_, _, rfl, p, _, 2, 2, rfl, rfl, h1, rfl, ?_⟩
      refine ⟨_, rfl, _, _, _, _, rfl, rfl, SqL.of upd_same, rfl, _, _, rfl, rfl, _, rfl, p, _, 1, 1, rfl, rfl, upd_same, rfl, rfl, ?_, ?_⟩
      · refine ⟨cs, (j : Int) + 1, cs[j], ne, upd_same, ?_, hl, by omega, hc _ (List.getElem_mem hj), hc⟩
        rw [upd_ne ne.symm, upd_ne ne.symm]; exact h2
      · exact Keep.upd.trans Keep.upd
    · rintro sl H' ⟨rfl, pot', kp⟩
      obtain ⟨cs, i, c, ne, h1, h2, hl, i0, c0, hc⟩ := id pot'
      refine ⟨_, rfl, _, _, _, _, rfl, rfl, SqL.of h1, rfl, .inl ⟨_, rfl, _, rfl, _, _, rfl, rfl, m0, ?_⟩⟩
      refine ⟨_, rfl, _, _, _, _, rfl, rfl, SqL.of h1, rfl, _, rfl, _, _, rfl, rfl, bm.div m0, _, rfl, p, _, 2, 2, rfl, rfl, h1, rfl, _, rfl, ?_⟩
      refine k _ _ (Int.emod_nonneg _ (by omega)) (Int.emod_lt_of_pos _ m0) ⟨cs, i, c / m, ne, upd_same, ?_, hl, i0, Int.ediv_nonneg c0 (by omega), hc⟩ (kp.trans Keep.upd)
      rw [upd_ne ne.symm]; exact h2
def spWhole : Sp := fun vs H Q _ => ∃ (n : Int), vs = [.int n] ∧ Q (.bl true) H
theorem ok_whole (T : Txt K mg A) : FnOk P w K mg base CX0 1 A.f_whole A.d_whole ["told"] spWhole := by
  refine T.F_whole.ok sc_whole (fun vs H Q E h => ?_) (fun cdv Ar outer s H vs Q E hr h => ?_)
  · obtain ⟨n, rfl, _⟩ := h
    rfl
  · obtain ⟨n, rfl, k⟩ := h
    refine ⟨_, (pss_one (ps_ret (pe_and (pe_callB call_isi (by rfl) T.n_isinstance (by decide +kernel) (pa_cons (pv 0) (pa_cons (pe_bltn (v := .ty "int") rfl T.n_int (by decide +kernel) rfl) pa_nil))) (pe_one (pe_not (pe_callB call_isi (by rfl) T.n_isinstance (by decide +kernel) (pa_cons (pv 0) (pa_cons (pe_bltn (v := .ty "bool") rfl T.n_bool (by decide +kernel) rfl) pa_nil)))))))), ?_⟩
    have ii : TyX K H (.int n) (.type "int") := .base (.int n)
    refine ⟨_, rfl, _, .ty "int", _, _, true, rfl, .ty _, ii, kit_ty (by decide +kernel), _, rfl, ?_⟩
    exact ⟨_, rfl, _, .ty "bool", _, _, false, rfl, .ty _, ii, kit_ty (by decide +kernel), _, rfl, k⟩
theorem okH_whole (T : Txt K mg A) : FnH P w K mg base CX0 1 A.f_whole A.d_whole ["told"] spWhole := by
  refine fun_okH T.F_whole sc_whole (fun vs H Q E h => ?_) (fun cdv Ar outer s H vs Q E pp hr hc h => ?_)
  · obtain ⟨n, rfl, _⟩ := h
    rfl
  · obtain ⟨n, rfl, k⟩ := h
    refine ⟨_, (pss_one (ps_ret (pe_and (pe_callB call_isi (by rfl) T.n_isinstance (by decide +kernel) (pa_cons (pv 0) (pa_cons (pe_bltn (v := .ty "int") rfl T.n_int (by decide +kernel) rfl) pa_nil))) (pe_one (pe_not (pe_callB call_isi (by rfl) T.n_isinstance (by decide +kernel) (pa_cons (pv 0) (pa_cons (pe_bltn (v := .ty "bool") rfl T.n_bool (by decide +kernel) rfl) pa_nil)))))))), ?_⟩
    have ii : TyX K H (.int n) (.type "int") := .base (.int n)
    refine ⟨_, rfl, _, .ty "int", _, _, true, rfl, .ty _, ii, kit_ty (by decide +kernel), _, rfl, ?_⟩
    exact ⟨_, rfl, _, .ty "bool", _, _, false, rfl, .ty _, ii, kit_ty (by decide +kernel), _, rfl, k⟩
abbrev ab (z : Int) : Int := if z < 0 then -z else z
theorem ab_nn (z : Int) : 0 ≤ ab z := by unfold Fc.ab; split <;> omega
/-! ### the program's -/
def gcdL (ns : List Int) : Nat := ns.foldl (fun g n => Nat.gcd g n.natAbs) 0
def spCdiv (K : PySem.W.Frag) : Sp := fun vs H Q _ => ∃ (a : Addr) (ns : List Int), vs = [.ref a] ∧ SqL K H a (ns.map V.int) ∧ Q (.int (gcdL ns : Nat)) H
theorem gcdL_take (ns : List Int) (i : Nat) (n : Int) (h : ns[i]? = some n) : gcdL (ns.take (i + 1)) = Nat.gcd (gcdL (ns.take i)) n.natAbs := by
  unfold gcdL
  rw [List.take_add_one, h, List.foldl_append]
  rfl
theorem ok_cdiv (T : Txt K mg A) : FnOk P w K mg base CX0 1 A.f_cdiv A.d_cdiv ["row"] (spCdiv K) := by
  refine T.F_cdiv.ok sc_cdiv (fun vs H Q E h => ?_) (fun cdv Ar outer s H vs Q E hr h => ?_)
  · obtain ⟨a, ns, rfl, _⟩ := h
    rfl
  · obtain ⟨a, ns, rfl, hS, k⟩ := h
    refine ⟨_, (pss_cons (ps_set (i := 1) sc_cdiv.nd rfl (Or.inl rfl) pe_int)
      (pss_cons (ps_for PassesOwn.never rfl (pi_list (pv 0)) (pg_name (i := 2) sc_cdiv.nd rfl (Or.inl rfl))
      (pss_one (ps_set (i := 1) sc_cdiv.nd rfl (Or.inl rfl) (pe_callBfun cr_gcd rfl T.g_gcd (pa_cons (pv 1) (pa_cons (pv 2) pa_nil))))))
      (pss_one (ps_ret (pv 1))))), ?_⟩
    refine ⟨_, rfl, a, rfl, ⟨_, hS⟩, for_list (K := K) (a := a) (xs := ns.map V.int) (fun i sl H' => (∃ o, sl = [some (.ref a), some (.int (gcdL (ns.take i) : Nat)), o]) ∧ H' = H) ⟨⟨_, rfl⟩, rfl⟩ (fun i sl H' _ q => by rw [q.2]; exact hS) (fun i v sl H' hv q => ?_) (fun sl H' q => ?_)⟩
    · obtain ⟨⟨o, rfl⟩, rfl⟩ := q
      rw [List.getElem?_map] at hv
      obtain ⟨n, h1, rfl⟩ := Option.map_eq_some_iff.mp hv
      refine ⟨_, rfl, _, rfl, _, _, rfl, ⟨some (.int n), ?_⟩, rfl⟩
      rw [gcdL_take ns i n h1, Int.natAbs_natCast]
      rfl
    · obtain ⟨⟨o, rfl⟩, rfl⟩ := q
      rw [List.length_map, List.take_length]
      exact ⟨_, rfl, k⟩
end
end Fc
set_option linter.all false
set_option maxRecDepth 100000
set_option maxHeartbeats 4000000
/-! Determinants by expansion along the first row: linear in each column, zero where two columns are equal. -/
namespace Fc
abbrev Mx := Nat → Nat → Int
def sumN : Nat → (Nat → Int) → Int
  | 0, _ => 0
  | n + 1, f => sumN n f + f n
theorem sumN_congr {n : Nat} {f g : Nat → Int} (h : ∀ i, i < n → f i = g i) : sumN n f = sumN n g := by
  induction n with
  | zero => rfl
  | succ n ih => rw [sumN, sumN, ih fun i hi => h i (by omega), h n (by omega)]
theorem sumN_add (n : Nat) (f g : Nat → Int) : sumN n (fun i => f i + g i) = sumN n f + sumN n g := by
  induction n with
  | zero => rfl
  | succ n ih => rw [sumN, sumN, sumN, ih]; omega
theorem sumN_mul (n : Nat) (x : Int) (f : Nat → Int) : sumN n (fun i => x * f i) = x * sumN n f := by
  induction n with
  | zero => simp [sumN]
  | succ n ih => rw [sumN, sumN, ih, Int.mul_add]
theorem sumN_zero {n : Nat} {f : Nat → Int} (h : ∀ i, i < n → f i = 0) : sumN n f = 0 := by
  rw [sumN_congr (g := fun _ => 0) h]
  induction n with
  | zero => rfl
  | succ n ih => rw [sumN, ih fun i hi => h i (by omega)]; rfl
/-- all but one vanish -/
theorem sumN_one {n c : Nat} {f : Nat → Int} (hc : c < n) (h : ∀ i, i < n → i ≠ c → f i = 0) : sumN n f = f c := by
  induction n with
  | zero => omega
  | succ n ih =>
    rw [sumN]
    by_cases e : c = n
    · subst e
      rw [sumN_zero fun i hi => h i (by omega) (by omega), Int.zero_add]
    · rw [ih (by omega) fun i hi ne => h i (by omega) ne, h n (by omega) (fun z => e z.symm), Int.add_zero]
theorem sumN_two {n c : Nat} {f : Nat → Int} (hc : c + 1 < n) (h : ∀ i, i < n → i ≠ c → i ≠ c + 1 → f i = 0) : sumN n f = f c + f (c + 1) := by
  induction n with
  | zero => omega
  | succ n ih =>
    rw [sumN]
    by_cases e : c + 1 = n
    · subst e
      rw [sumN_one (c := c) (by omega) fun i hi ne => h i (by omega) ne (by omega)]
    · rw [ih (by omega) fun i hi n1 n2 => h i (by omega) n1 n2, h n (by omega) (by omega) (fun z => e z.symm), Int.add_zero]
def sg (j : Nat) : Int := if j % 2 = 0 then 1 else -1
theorem sg_succ (j : Nat) : sg (j + 1) = - sg j := by
  unfold sg
  split <;> split <;> omega
def skip (j k : Nat) : Nat := if k < j then k else k + 1
def unskip (j c : Nat) : Nat := if c < j then c else c - 1
theorem skip_ne (j k : Nat) : skip j k ≠ j := by unfold skip; split <;> omega
theorem skip_iff {j c k : Nat} (h : j ≠ c) : skip j k = c ↔ k = unskip j c := by unfold skip unskip; split <;> split <;> omega
def minor (A : Mx) (j : Nat) : Mx := fun i k => A (i + 1) (skip j k)
def D : Nat → Mx → Int
  | 0, _ => 1
  | n + 1, A => sumN (n + 1) fun j => sg j * A 0 j * D n (minor A j)
/-- a column put in -/
def upc (A : Mx) (c : Nat) (v : Nat → Int) : Mx := fun i k => if k = c then v i else A i k
theorem upc_self (A : Mx) (c : Nat) : upc A c (fun i => A i c) = A := by
  funext i k
  unfold upc
  split
  · rename_i h; rw [h]
  · rfl
theorem upc_upc (A : Mx) (c : Nat) (u v : Nat → Int) : upc (upc A c u) c v = upc A c v := by
  funext i k
  unfold upc
  split <;> rfl
theorem upc_comm {A : Mx} {c d : Nat} {u v : Nat → Int} (h : c ≠ d) : upc (upc A c u) d v = upc (upc A d v) c u := by
  funext i k
  unfold upc
  by_cases h1 : k = c <;> by_cases h2 : k = d <;> simp [h1, h2] <;> omega
theorem upc_at (A : Mx) (c : Nat) (v : Nat → Int) (i : Nat) : upc A c v i c = v i := by unfold upc; rw [if_pos rfl]
theorem upc_ne {A : Mx} {c k : Nat} {v : Nat → Int} (h : k ≠ c) (i : Nat) : upc A c v i k = A i k := by unfold upc; rw [if_neg h]
theorem minor_self (A : Mx) (c : Nat) (v : Nat → Int) : minor (upc A c v) c = minor A c := by
  funext i k
  unfold minor upc
  rw [if_neg (skip_ne c k)]
theorem minor_up {A : Mx} {c j : Nat} (v : Nat → Int) (h : j ≠ c) : minor (upc A c v) j = upc (minor A j) (unskip j c) fun i => v (i + 1) := by
  funext i k
  unfold minor upc
  by_cases e : k = unskip j c
  · rw [if_pos ((skip_iff h).mpr e), if_pos e]
  · rw [if_neg (fun z => e ((skip_iff h).mp z)), if_neg e]
theorem D_congr : ∀ {n : Nat} {A B : Mx}, (∀ i k, i < n → k < n → A i k = B i k) → D n A = D n B
  | 0, _, _, _ => rfl
  | n + 1, A, B, h => by
    rw [D, D]
    refine sumN_congr fun j hj => ?_
    rw [h 0 j (by omega) hj, D_congr (A := minor A j) (B := minor B j) fun i k hi hk => h _ _ (by omega) (by unfold skip; split <;> omega)]
/-- linear in a column -/
theorem D_lin : ∀ {n : Nat} {A : Mx} {c : Nat} (x y : Int) (u v : Nat → Int), c < n → D n (upc A c fun i => x * u i + y * v i) = x * D n (upc A c u) + y * D n (upc A c v)
  | 0, _, _, _, _, _, _, h => by omega
  | n + 1, A, c, x, y, u, v, h => by
    rw [D, D, D, ← sumN_mul, ← sumN_mul, ← sumN_add]
    refine sumN_congr fun j hj => ?_
    by_cases e : j = c
    · subst e
      rw [minor_self, minor_self, minor_self, upc_at, upc_at, upc_at]
      grind
    · rw [minor_up _ e, minor_up _ e, minor_up _ e, upc_ne e, upc_ne e, upc_ne e, D_lin x y _ _ (by unfold unskip; split <;> omega)]
      grind
theorem D_scale {n : Nat} {A : Mx} {c : Nat} (x : Int) (u : Nat → Int) (h : c < n) : D n (upc A c fun i => x * u i) = x * D n (upc A c u) := by
  have := D_lin (A := A) x 0 u u h
  rw [Int.zero_mul, Int.add_zero] at this
  rw [← this]
  congr 1
  congr 1
  funext i
  omega
theorem D_addc {n : Nat} {A : Mx} {c : Nat} (u v : Nat → Int) (h : c < n) : D n (upc A c fun i => u i + v i) = D n (upc A c u) + D n (upc A c v) := by
  have := D_lin (A := A) 1 1 u v h
  rw [Int.one_mul, Int.one_mul] at this
  rw [← this]
  congr 1
  congr 1
  funext i
  omega
theorem D_zeroc {n : Nat} {A : Mx} {c : Nat} (h : c < n) : D n (upc A c fun _ => 0) = 0 := by
  have := D_scale (A := A) 0 (fun _ => 0) h
  simpa using this
/-- two columns beside each other are equal -/
theorem D_adj : ∀ {n : Nat} {A : Mx} {c : Nat}, c + 1 < n → (∀ i, i < n → A i c = A i (c + 1)) → D n A = 0
  | 0, _, _, h, _ => by omega
  | n + 1, A, c, h, e => by
    rw [D, sumN_two (c := c) h fun j hj n1 n2 => ?_]
    · have m : D n (minor A c) = D n (minor A (c + 1)) := D_congr fun i k hi hk => by
        unfold minor skip
        by_cases z : k = c
        · subst z
          rw [if_neg (by omega), if_pos (by omega)]
          exact (e _ (by omega)).symm
        · by_cases z1 : k < c
          · rw [if_pos z1, if_pos (by omega)]
          · rw [if_neg z1, if_neg (by omega)]
      rw [m, sg_succ, e 0 (by omega)]
      grind
    · have : D n (minor A j) = 0 := by
        by_cases l : j < c
        · refine D_adj (c := c - 1) (by omega) fun i hi => ?_
          unfold minor skip
          rw [if_neg (by omega), if_neg (by omega), show c - 1 + 1 = c by omega]
          exact e _ (by omega)
        · refine D_adj (c := c) (by omega) fun i hi => ?_
          unfold minor skip
          rw [if_pos (by omega), if_pos (by omega)]
          exact e _ (by omega)
      rw [this, Int.mul_zero]
theorem D_swap {n : Nat} {A : Mx} {c : Nat} (h : c + 1 < n) (u v : Nat → Int) : D n (upc (upc A c u) (c + 1) v) = - D n (upc (upc A c v) (c + 1) u) := by
  have ne : c ≠ c + 1 := by omega
  have z : ∀ w : Nat → Int, D n (upc (upc A c w) (c + 1) w) = 0 := fun w => D_adj h fun i _ => by rw [upc_at, upc_ne ne, upc_at]
  have s := z fun i => u i + v i
  rw [D_addc _ _ h, upc_comm ne, D_addc _ _ (by omega), upc_comm ne.symm, upc_comm ne.symm, z, upc_comm (u := fun i => u i + v i) ne, D_addc _ _ (by omega), upc_comm ne.symm, upc_comm ne.symm, z] at s
  omega
/-- any two columns are equal -/
theorem D_eq : ∀ (d : Nat) {n : Nat} {A : Mx} {a : Nat}, a + d + 1 < n → (∀ i, A i a = A i (a + d + 1)) → D n A = 0
  | 0, n, A, a, h, e => D_adj h fun i _ => e i
  | d + 1, n, A, a, h, e => by
    have s := D_swap (n := n) (A := A) (c := a) (by omega) (fun i => A i a) (fun i => A i (a + 1))
    rw [upc_self, upc_self] at s
    rw [s]
    have : D n (upc (upc A a fun i => A i (a + 1)) (a + 1) fun i => A i a) = 0 := by
      refine D_eq d (a := a + 1) (by omega) fun i => ?_
      rw [upc_at, upc_ne (by omega), upc_ne (by omega), e i]
      congr 1
      omega
    rw [this]
    rfl
theorem D_same {n : Nat} {A : Mx} {a b : Nat} (ha : a < n) (hb : b < n) (ne : a ≠ b) (e : ∀ i, A i a = A i b) : D n A = 0 := by
  rcases Nat.lt_or_ge a b with h | h
  · exact D_eq (b - a - 1) (a := a) (by omega) fun i => by rw [e i]; congr 1; omega
  · exact D_eq (a - b - 1) (a := b) (by omega) fun i => by rw [← e i]; congr 1; omega
/-- a column put in that is there already -/
theorem D_put {n : Nat} {A : Mx} {c t : Nat} (hc : c < n) (ht : t < n) (ne : t ≠ c) : D n (upc A c fun i => A i t) = 0 :=
  D_same hc ht (Ne.symm ne) fun i => by rw [upc_at, upc_ne ne]
/-- what is a sum of multiples of the other columns does not count -/
theorem D_comb {n : Nat} {A : Mx} {c : Nat} (hc : c < n) (l : Nat → Int) (w : Nat → Int) : ∀ m, m ≤ n → (∀ t, t < m → t ≠ c) → D n (upc A c fun i => sumN m (fun t => l t * A i t) + w i) = D n (upc A c w)
  | 0, _, _ => by
    congr 1
    congr 1
    funext i
    rw [sumN, Int.zero_add]
  | m + 1, hm, hne => by
    have e : (fun i => sumN (m + 1) (fun t => l t * A i t) + w i) = fun i => (sumN m (fun t => l t * A i t) + w i) + l m * A i m := by
      funext i
      rw [sumN]
      omega
    rw [e, D_addc _ _ hc, D_comb hc l w m (by omega) fun t ht => hne t (by omega), D_scale _ _ hc, D_put hc (by omega) (hne m (by omega)), Int.mul_zero, Int.add_zero]
/-- a last column that has but its last entry -/
theorem D_last : ∀ {n : Nat} {A : Mx} (x : Int), (∀ i, i < n → A i n = 0) → A n n = x → D (n + 1) A = x * D n A
  | 0, A, x, _, h => by
    rw [D, D, sumN, sumN, D, h]
    simp [sg]
  | n + 1, A, x, h0, h => by
    rw [D, sumN, h0 0 (by omega), Int.mul_zero, Int.zero_mul, Int.add_zero, D, ← sumN_mul]
    refine sumN_congr fun j hj => ?_
    rw [D_last (A := minor A j) x (fun i hi => ?_) ?_]
    · grind
    · unfold minor skip
      rw [if_neg (by omega)]
      exact h
    · unfold minor skip
      rw [if_neg (by omega)]
      exact h0 _ (by omega)
end Fc
set_option linter.all false
set_option maxRecDepth 100000
set_option maxHeartbeats 4000000
/-! Elimination without fractions: the table that is left is made of minors, so each division leaves no rest. -/
namespace Fc
/-- the columns of the pivots, the first r rows -/
def cols (A : Mx) (cs : Nat → Nat) : Mx := fun i t => A i (cs t)
/-- what holds of a table T behind r pivots in the columns cs, of the table A whose rows were exchanged alike -/
structure El (A T : Mx) (h N r : Nat) (cs : Nat → Nat) (p : Int) : Prop where
  p0 : p ≠ 0
  rh : r ≤ h
  det : p = D r (cols A cs)
  rel : ∀ i j, i < h → j < N → p * A i j = sumN r (fun t => T t j * A i (cs t)) + (if r ≤ i then T i j else 0)
  cN : ∀ t, t < r → cs t < N
theorem El.start (A : Mx) (h N : Nat) (cs : Nat → Nat) : El A A h N 0 cs 1 := ⟨by decide, by omega, rfl, fun i j _ _ => by rw [if_pos (by omega)]; simp [sumN], fun t h => by omega⟩
/-- a new pivot's column put behind -/
def put (cs : Nat → Nat) (r c : Nat) : Nat → Nat := fun t => if t = r then c else cs t
theorem put_lt {cs : Nat → Nat} {r c t : Nat} (h : t < r) : put cs r c t = cs t := by unfold put; rw [if_neg (by omega)]
theorem put_at (cs : Nat → Nat) (r c : Nat) : put cs r c r = c := by unfold put; rw [if_pos rfl]
/-- the numbers ahead of the division -/
def num (T : Mx) (r c : Nat) : Mx := fun k j => T r c * T k j - T k c * T r j
section
variable {A T : Mx} {h N r c : Nat} {cs : Nat → Nat} {p : Int}
theorem El.numrel (e : El A T h N r cs p) (hr : r < h) (hc : c < N) {i j : Nat} (hi : i < h) (hj : j < N) :
    p * (T r c * A i j) = sumN r (fun t => num T r c t j * A i (cs t)) + p * (T r j * A i c) + (if r < i then num T r c i j else 0) := by
  have e1 := e.rel i j hi hj
  have e2 := e.rel i c hi hc
  have s : sumN r (fun t => num T r c t j * A i (cs t)) = T r c * sumN r (fun t => T t j * A i (cs t)) - T r j * sumN r (fun t => T t c * A i (cs t)) := by
    rw [← sumN_mul, show ∀ a b : Int, a - b = a + (-1) * b by intros; omega, ← sumN_mul, ← sumN_mul, ← sumN_add]
    refine sumN_congr fun t _ => ?_
    unfold num
    grind
  generalize sumN r (fun t => T t j * A i (cs t)) = x at *
  generalize sumN r (fun t => T t c * A i (cs t)) = y at *
  rw [s]
  unfold num
  rcases Nat.lt_trichotomy i r with l | l | l
  · rw [if_neg (by omega)] at e1 e2
    rw [if_neg (by omega)]
    grind
  · subst l
    rw [if_pos (by omega)] at e1 e2
    rw [if_neg (by omega)]
    grind
  · rw [if_pos (by omega)] at e1 e2
    rw [if_pos l]
    grind
/-- the new pivot is a determinant -/
theorem El.newdet (e : El A T h N r cs p) (hr : r < h) (hc : c < N) : T r c = D (r + 1) (cols A (put cs r c)) := by
  have hD : p * D (r + 1) (cols A (put cs r c)) = T r c * p := by
    have s1 : D (r + 1) (upc (cols A (put cs r c)) r fun i => p * A i c) = p * D (r + 1) (cols A (put cs r c)) := by
      rw [D_scale _ _ (by omega)]
      congr 1
      refine D_congr fun i k hi hk => ?_
      unfold upc cols
      split
      · rename_i z; subst z; rw [put_at]
      · rfl
    have s2 : D (r + 1) (upc (cols A (put cs r c)) r fun i => p * A i c) = D (r + 1) (upc (cols A (put cs r c)) r fun i => sumN r (fun t => T t c * cols A (put cs r c) i t) + (if r ≤ i then T i c else 0)) := by
      refine D_congr fun i k hi hk => ?_
      unfold upc
      split
      · dsimp only
        rw [e.rel i c (by omega) hc]
        congr 1
        refine sumN_congr fun t ht => ?_
        unfold cols
        rw [put_lt ht]
      · rfl
    rw [← s1, s2, D_comb (by omega) (fun t => T t c) _ r (by omega) fun t ht => by omega]
    rw [D_last (T r c) (fun i hi => by rw [upc_at, if_neg (by omega)]) (by rw [upc_at, if_pos (by omega)]), e.det]
    congr 1
    refine D_congr fun i k hi hk => ?_
    rw [upc_ne (by omega)]
    unfold cols
    rw [put_lt hk]
  refine Int.eq_of_mul_eq_mul_left e.p0 ?_
  rw [hD, Int.mul_comm]
/-- above the new pivot's row the division leaves no rest -/
theorem El.top (e : El A T h N r cs p) (hr : r < h) (hc : c < N) (q0 : T r c ≠ 0) {k j : Nat} (hk : k < r) (hj : j < N) :
    num T r c k j = p * D (r + 1) (upc (cols A (put cs r c)) k fun i => A i j) := by
  have nd := e.newdet hr hc
  have s1 : D (r + 1) (upc (cols A (put cs r c)) k fun i => p * (T r c * A i j)) = num T r c k j * T r c := by
    have s2 : D (r + 1) (upc (cols A (put cs r c)) k fun i => p * (T r c * A i j)) = D (r + 1) (upc (cols A (put cs r c)) k fun i => num T r c k j * A i (cs k) + (sumN (r + 1) (fun t => (if t = k then 0 else if t = r then p * T r j else num T r c t j) * cols A (put cs r c) i t))) := by
      refine D_congr fun i l hi hl => ?_
      unfold upc
      split
      · dsimp only
        rw [e.numrel hr hc (by omega) hj, if_neg (by omega), sumN, if_neg (by omega), if_pos rfl]
        unfold cols
        rw [put_at]
        have s3 : sumN r (fun t => num T r c t j * A i (cs t)) = num T r c k j * A i (cs k) + sumN r (fun t => (if t = k then 0 else if t = r then p * T r j else num T r c t j) * A i (put cs r c t)) := by
          have s4 : sumN r (fun t => if t = k then num T r c k j * A i (cs k) else 0) = num T r c k j * A i (cs k) := by
            rw [sumN_one (c := k) hk fun t _ ne => if_neg ne, if_pos rfl]
          rw [← s4, ← sumN_add]
          refine sumN_congr fun t ht => ?_
          rw [put_lt ht]
          by_cases z : t = k
          · subst z; rw [if_pos rfl, if_pos rfl]; simp
          · rw [if_neg z, if_neg z, if_neg (by omega)]; simp
        rw [s3]
        grind
      · rfl
    rw [s2, D_addc _ _ (by omega), D_scale _ _ (by omega)]
    have s5 : D (r + 1) (upc (cols A (put cs r c)) k fun i => A i (cs k)) = T r c := by
      rw [nd]
      refine D_congr fun i l hi hl => ?_
      unfold upc
      split
      · rename_i z; subst z; unfold cols; rw [put_lt hk]
      · rfl
    have s6 : D (r + 1) (upc (cols A (put cs r c)) k fun i => sumN (r + 1) (fun t => (if t = k then 0 else if t = r then p * T r j else num T r c t j) * cols A (put cs r c) i t)) = 0 := by
      have go : ∀ m, m ≤ r + 1 → D (r + 1) (upc (cols A (put cs r c)) k fun i => sumN m (fun t => (if t = k then 0 else if t = r then p * T r j else num T r c t j) * cols A (put cs r c) i t)) = 0 := by
        intro m
        induction m with
        | zero => intro _; exact D_zeroc (by omega)
        | succ m ih =>
          intro hm
          have e5 : (fun i => sumN (m + 1) (fun t => (if t = k then 0 else if t = r then p * T r j else num T r c t j) * cols A (put cs r c) i t)) = fun i => sumN m (fun t => (if t = k then 0 else if t = r then p * T r j else num T r c t j) * cols A (put cs r c) i t) + (if m = k then 0 else if m = r then p * T r j else num T r c m j) * cols A (put cs r c) i m := by funext i; rw [sumN]
          rw [e5, D_addc _ _ (by omega), ih (by omega), D_scale _ _ (by omega)]
          by_cases z : m = k
          · rw [if_pos z]; simp
          · rw [D_put (by omega) (by omega) z]; simp
      exact go _ (Nat.le_refl _)
    rw [s5, s6, Int.add_zero]
  rw [D_scale _ _ (by omega), D_scale _ _ (by omega)] at s1
  refine Int.eq_of_mul_eq_mul_left q0 ?_
  rw [← Int.mul_comm _ (T r c), ← s1]
  grind
/-- the rows of the pivots, and one more -/
def low (A : Mx) (r k : Nat) : Mx := fun i j => A (if i ≤ r then i else k) j
theorem El.bot (e : El A T h N r cs p) (hr : r < h) (hc : c < N) (q0 : T r c ≠ 0) {k j : Nat} (hk : r < k) (hkh : k < h) (hj : j < N) :
    num T r c k j = p * D (r + 2) (upc (cols (low A r k) (put cs r c)) (r + 1) fun i => low A r k i j) := by
  have nd := e.newdet hr hc
  have s1 : D (r + 2) (upc (cols (low A r k) (put cs r c)) (r + 1) fun i => p * (T r c * low A r k i j)) = num T r c k j * T r c := by
    have s2 : D (r + 2) (upc (cols (low A r k) (put cs r c)) (r + 1) fun i => p * (T r c * low A r k i j)) = D (r + 2) (upc (cols (low A r k) (put cs r c)) (r + 1) fun i => sumN (r + 1) (fun t => (if t = r then p * T r j else num T r c t j) * cols (low A r k) (put cs r c) i t) + (if r + 1 ≤ i then num T r c k j else 0)) := by
      refine D_congr fun i l hi hl => ?_
      unfold upc
      split
      · have go : ∀ i', i' < h → (r < i' ↔ r + 1 ≤ i) → (r < i' → i' = k) → (∀ j, low A r k i j = A i' j) → p * (T r c * low A r k i j) = sumN (r + 1) (fun t => (if t = r then p * T r j else num T r c t j) * cols (low A r k) (put cs r c) i t) + (if r + 1 ≤ i then num T r c k j else 0) := by
          intro i' hi' iff1 ik lo
          rw [lo, e.numrel hr hc hi' hj, sumN, if_pos rfl]
          unfold cols
          rw [put_at, lo]
          have s3 : sumN r (fun t => num T r c t j * A i' (cs t)) = sumN r (fun t => (if t = r then p * T r j else num T r c t j) * low A r k i (put cs r c t)) := sumN_congr fun t ht => by rw [put_lt ht, lo, if_neg (by omega)]
          rw [s3]
          by_cases z : r < i'
          · rw [if_pos z, if_pos (iff1.mp z), ik z]
            grind
          · rw [if_neg z, if_neg fun y => z (iff1.mpr y)]
            grind
        by_cases z : i ≤ r
        · exact go i (by omega) (by omega) (by omega) fun j => by unfold low; rw [if_pos z]
        · exact go k hkh (by omega) (fun _ => rfl) fun j => by unfold low; rw [if_neg z]
      · rfl
    rw [s2, D_comb (by omega) (fun t => if t = r then p * T r j else num T r c t j) _ (r + 1) (by omega) fun t ht => by omega]
    rw [D_last (num T r c k j) (fun i hi => by rw [upc_at, if_neg (by omega)]) (by rw [upc_at, if_pos (by omega)])]
    congr 1
    rw [nd]
    refine D_congr fun i l hi hl => ?_
    rw [upc_ne (by omega)]
    unfold cols low
    rw [if_pos (by omega)]
  rw [D_scale _ _ (by omega), D_scale _ _ (by omega)] at s1
  refine Int.eq_of_mul_eq_mul_left q0 ?_
  rw [← Int.mul_comm _ (T r c), ← s1]
  grind
/-- the table behind the next pivot -/
def nextT (T : Mx) (r c : Nat) (p : Int) : Mx := fun k j => if k = r then T r j else (num T r c k j).fdiv p
theorem El.exact (e : El A T h N r cs p) (hr : r < h) (hc : c < N) (q0 : T r c ≠ 0) {k j : Nat} (hk : k < h) (hj : j < N) (ne : k ≠ r) : p * nextT T r c p k j = num T r c k j := by
  unfold nextT
  rw [if_neg ne]
  have : ∃ d, num T r c k j = p * d := by
    rcases Nat.lt_or_ge k r with l | l
    · exact ⟨_, e.top hr hc q0 l hj⟩
    · exact ⟨_, e.bot hr hc q0 (by omega) hk hj⟩
  obtain ⟨d, hd⟩ := this
  rw [hd, Int.mul_fdiv_cancel_left _ e.p0]
theorem El.next (e : El A T h N r cs p) (hr : r < h) (hc : c < N) (q0 : T r c ≠ 0) : El A (nextT T r c p) h N (r + 1) (put cs r c) (T r c) := by
  refine ⟨q0, by omega, e.newdet hr hc, fun i j hi hj => ?_, fun t ht => ?_⟩
  · refine Int.eq_of_mul_eq_mul_left e.p0 ?_
    rw [e.numrel hr hc hi hj, Int.mul_add, ← sumN_mul, sumN]
    have s1 : sumN r (fun t => p * (nextT T r c p t j * A i (put cs r c t))) = sumN r (fun t => num T r c t j * A i (cs t)) := sumN_congr fun t ht => by
      rw [put_lt ht, ← e.exact hr hc q0 (show t < h by omega) hj (by omega), Int.mul_assoc]
    have s2 : nextT T r c p r j = T r j := by unfold nextT; rw [if_pos rfl]
    rw [s1, s2, put_at]
    congr 1
    by_cases z : r < i
    · rw [if_pos z, if_pos (by omega), e.exact hr hc q0 hi hj (by omega)]
    · rw [if_neg z, if_neg (by omega), Int.mul_zero]
  · by_cases z : t = r
    · subst z; rw [put_at]; exact hc
    · rw [put_lt (by omega)]; exact e.cN t (by omega)
end
end Fc
set_option linter.all false
set_option maxRecDepth 100000
set_option maxHeartbeats 4000000
/-! Elimination without fractions, goes on: rows exchanged, the echelon form, entries as minors, their bound. -/
namespace Fc
/-- each row of either is a row of the other one, or its opposite -/
def Rws (A B : Mx) (h : Nat) : Prop := ∀ i, i < h → ∃ k, k < h ∧ ∃ e : Int, (e = 1 ∨ e = -1) ∧ ∀ j, B i j = e * A k j
theorem Rws.refl (A : Mx) (h : Nat) : Rws A A h := fun i hi => ⟨i, hi, 1, .inl rfl, fun j => by omega⟩
theorem Rws.trans {A B C : Mx} {h : Nat} (x : Rws A B h) (y : Rws B C h) : Rws A C h := fun i hi => by
  obtain ⟨k, hk, e, he, q⟩ := y i hi
  obtain ⟨l, hl, f, hf, q2⟩ := x k hk
  refine ⟨l, hl, e * f, ?_, fun j => by rw [q, q2, Int.mul_assoc]⟩
  rcases he with rfl | rfl <;> rcases hf with rfl | rfl <;> decide
/-- rows r and k exchanged, the one that goes down negated -/
def swp (A : Mx) (r k : Nat) : Mx := fun i j => if i = r then A k j else if i = k then - A r j else A i j
theorem swp_lt {A : Mx} {r k i : Nat} (h : i < r) (hk : r < k) (j : Nat) : swp A r k i j = A i j := by unfold swp; rw [if_neg (by omega), if_neg (by omega)]
theorem swp_r (A : Mx) (r k j : Nat) : swp A r k r j = A k j := by unfold swp; rw [if_pos rfl]
theorem swp_k (A : Mx) {r k : Nat} (hk : r < k) (j : Nat) : swp A r k k j = - A r j := by unfold swp; rw [if_neg (by omega), if_pos rfl]
theorem swp_ne {A : Mx} {r k i : Nat} (h1 : i ≠ r) (h2 : i ≠ k) (j : Nat) : swp A r k i j = A i j := by unfold swp; rw [if_neg h1, if_neg h2]
theorem Rws.swp (A : Mx) {r k h : Nat} (hk : r < k) (hh : k < h) : Rws A (swp A r k) h := fun i hi => by
  by_cases e1 : i = r
  · exact ⟨k, hh, 1, .inl rfl, fun j => by rw [e1, swp_r]; omega⟩
  · by_cases e2 : i = k
    · exact ⟨r, by omega, -1, .inr rfl, fun j => by rw [e2, swp_k _ hk]; omega⟩
    · exact ⟨i, hi, 1, .inl rfl, fun j => by rw [swp_ne e1 e2]; omega⟩
theorem Rws.swp' (A : Mx) {r k h : Nat} (hk : r < k) (hh : k < h) : Rws (Fc.swp A r k) A h := fun i hi => by
  by_cases e1 : i = r
  · exact ⟨k, hh, -1, .inr rfl, fun j => by rw [e1, swp_k _ hk]; omega⟩
  · by_cases e2 : i = k
    · exact ⟨r, by omega, 1, .inl rfl, fun j => by rw [e2, swp_r]; omega⟩
    · exact ⟨i, hi, 1, .inl rfl, fun j => by rw [swp_ne e1 e2]; omega⟩
section
variable {A T : Mx} {h N r c : Nat} {cs : Nat → Nat} {p : Int}
theorem El.swp (e : El A T h N r cs p) {k : Nat} (hk : r < k) (hh : k < h) : El (swp A r k) (swp T r k) h N r cs p := by
  refine ⟨e.p0, e.rh, ?_, fun i j hi hj => ?_, e.cN⟩
  · rw [e.det]
    exact D_congr fun i t hi ht => (swp_lt (A := A) hi hk (cs t)).symm
  · have s : ∀ i', sumN r (fun t => Fc.swp T r k t j * Fc.swp A r k i' (cs t)) = sumN r (fun t => T t j * Fc.swp A r k i' (cs t)) := fun i' => sumN_congr fun t ht => by rw [swp_lt ht hk]
    rw [s]
    by_cases e1 : i = r
    · have q := e.rel k j hh hj
      rw [if_pos (by omega)] at q ⊢
      subst e1
      rw [swp_r, swp_r, q, sumN_congr (f := fun t => T t j * Fc.swp A i k i (cs t)) (g := fun t => T t j * A k (cs t)) fun t ht => by rw [swp_r]]
    · by_cases e2 : i = k
      · have q := e.rel r j (by omega) hj
        rw [if_pos (by omega)] at q ⊢
        subst e2
        rw [swp_k _ hk, swp_k _ hk, sumN_congr (g := fun t => (-1) * (T t j * A r (cs t))) fun t ht => by rw [swp_k _ hk]; grind]
        rw [sumN_mul]
        grind
      · have q := e.rel i j hi hj
        rw [swp_ne e1 e2, swp_ne e1 e2, q, sumN_congr (f := fun t => T t j * Fc.swp A r k i (cs t)) (g := fun t => T t j * A i (cs t)) fun t ht => by rw [swp_ne e1 e2]]
/-- the echelon form of the columns below c -/
structure Ec (T : Mx) (h r : Nat) (cs : Nat → Nat) (p : Int) (c : Nat) : Prop where
  inc : ∀ s t, s < t → t < r → cs s < cs t
  ltc : ∀ t, t < r → cs t < c
  low : ∀ i j, r ≤ i → i < h → j < c → T i j = 0
  piv : ∀ t s, t < r → s < r → T t (cs s) = if t = s then p else 0
  left : ∀ t j, t < r → j < cs t → T t j = 0
theorem Ec.start (T : Mx) (h : Nat) (cs : Nat → Nat) : Ec T h 0 cs 1 0 := ⟨fun s t a b => by omega, fun t a => by omega, fun i j a b d => by omega, fun t s a => by omega, fun t j a => by omega⟩
theorem Ec.swp (e : Ec T h r cs p c) {k : Nat} (hk : r < k) (hh : k < h) : Ec (swp T r k) h r cs p c := by
  refine ⟨e.inc, e.ltc, fun i j hi hj hc => ?_, fun t s ht hs => by rw [swp_lt ht hk, e.piv t s ht hs], fun t j ht hj => by rw [swp_lt ht hk, e.left t j ht hj]⟩
  by_cases e1 : i = r
  · rw [e1, swp_r, e.low k j (by omega) hh hc]
  · by_cases e2 : i = k
    · rw [e2, swp_k _ hk, e.low r j (by omega) (by omega) hc]; rfl
    · rw [swp_ne e1 e2, e.low i j hi hj hc]
/-- no pivot in this column -/
theorem Ec.skip (e : Ec T h r cs p c) (z : ∀ i, r ≤ i → i < h → T i c = 0) : Ec T h r cs p (c + 1) :=
  ⟨e.inc, fun t ht => by have := e.ltc t ht; omega, fun i j hi hj hc => by
    by_cases q : j = c
    · rw [q]; exact z i hi hj
    · exact e.low i j hi hj (by omega), e.piv, e.left⟩
theorem Ec.next (e : Ec T h r cs p c) (hp : p ≠ 0) (hr : r < h) (q0 : T r c ≠ 0) : Ec (nextT T r c p) h (r + 1) (put cs r c) (T r c) (c + 1) := by
  have nr : ∀ j, nextT T r c p r j = T r j := fun j => by unfold nextT; rw [if_pos rfl]
  have nz : ∀ k j, k ≠ r → num T r c k j = 0 → nextT T r c p k j = 0 := fun k j ne z => by unfold nextT; rw [if_neg ne, z, Int.zero_fdiv]
  refine ⟨fun s t a b => ?_, fun t ht => ?_, fun i j hi hj hc => ?_, fun t s ht hs => ?_, fun t j ht hj => ?_⟩
  · by_cases z : t = r
    · rw [z, put_at, put_lt (by omega)]; exact e.ltc s (by omega)
    · rw [put_lt (by omega), put_lt (by omega)]; exact e.inc s t a (by omega)
  · by_cases z : t = r
    · rw [z, put_at]; omega
    · rw [put_lt (by omega)]; have := e.ltc t (by omega); omega
  · refine nz i j (by omega) ?_
    unfold num
    by_cases q : j = c
    · subst q; rw [Int.mul_comm]; omega
    · rw [e.low i j (by omega) hj (by omega), e.low r j (by omega) hr (by omega)]; omega
  · by_cases zs : s = r
    · subst zs
      rw [put_at]
      by_cases zt : t = s
      · subst zt; rw [nr, if_pos rfl]
      · rw [if_neg zt]
        refine nz t c zt ?_
        unfold num
        rw [Int.mul_comm]; omega
    · rw [put_lt (by omega)]
      have l := e.ltc s (by omega)
      by_cases zt : t = r
      · rw [zt, nr, if_neg (by omega), e.low r _ (by omega) hr l]
      · unfold nextT
        rw [if_neg zt]
        unfold num
        rw [e.low r _ (by omega) hr l, e.piv t s (by omega) (by omega), Int.mul_zero, Int.sub_zero]
        by_cases q : t = s
        · rw [if_pos q, if_pos q, Int.mul_comm, Int.mul_fdiv_cancel_left _ hp]
        · rw [if_neg q, if_neg q, Int.mul_zero, Int.zero_fdiv]
  · by_cases z : t = r
    · rw [z, put_at] at hj
      rw [z, nr]; exact e.low r j (by omega) hr hj
    · rw [put_lt (by omega)] at hj
      refine nz t j z ?_
      unfold num
      have l := e.ltc t (by omega)
      rw [e.left t j (by omega) hj, e.low r j (by omega) hr (by omega)]; omega
/-- an entry of a pivot's row is a minor -/
theorem El.ent (e : El A T h N r cs p) {t j : Nat} (ht : t < r) (hj : j < N) : T t j = D r (upc (cols A cs) t fun i => A i j) := by
  refine Int.eq_of_mul_eq_mul_left e.p0 ?_
  rw [← D_scale p _ ht]
  have s : D r (upc (cols A cs) t fun i => p * A i j) = D r (upc (cols A cs) t fun i => sumN r (fun s => (if s = t then 0 else T s j) * cols A cs i s) + T t j * cols A cs i t) := by
    refine D_congr fun i k hi hk => ?_
    by_cases q : k = t
    · rw [q, upc_at, upc_at, e.rel i j (by have := e.rh; omega) hj, if_neg (by omega), Int.add_zero]
      have : ∀ n, n ≤ r → sumN n (fun t => T t j * A i (cs t)) = sumN n (fun s => (if s = t then 0 else T s j) * cols A cs i s) + (if t < n then T t j * cols A cs i t else 0) := by
        intro n
        induction n with
        | zero => intro _; simp [sumN]
        | succ n ih =>
          intro hn
          rw [sumN, sumN, ih (by omega)]
          by_cases z : n = t
          · subst z; rw [if_neg (Nat.lt_irrefl n), if_pos (Nat.lt_succ_self n), if_pos (show n = n from rfl), Int.zero_mul]; unfold cols; omega
          · rw [if_neg z]
            by_cases y : t < n
            · rw [if_pos y, if_pos (by omega)]; unfold cols; omega
            · rw [if_neg y, if_neg (by omega)]; unfold cols; omega
      rw [this r (by omega), if_pos ht]
    · rw [upc_ne q, upc_ne q]
  have s2 : ∀ n, n ≤ r → D r (upc (cols A cs) t fun i => sumN n (fun s => (if s = t then 0 else T s j) * cols A cs i s) + T t j * cols A cs i t) = D r (upc (cols A cs) t fun i => T t j * cols A cs i t) := by
    intro n
    induction n with
    | zero => intro _; refine D_congr fun i k hi hk => ?_; by_cases q : k = t
              · rw [q, upc_at, upc_at, sumN, Int.zero_add]
              · rw [upc_ne q, upc_ne q]
    | succ n ih =>
      intro hn
      rw [← ih (by omega)]
      have : (fun i => sumN (n + 1) (fun s => (if s = t then 0 else T s j) * cols A cs i s) + T t j * cols A cs i t) = fun i => (sumN n (fun s => (if s = t then 0 else T s j) * cols A cs i s) + T t j * cols A cs i t) + (if n = t then 0 else T n j) * cols A cs i n := by
        funext i; rw [sumN]; omega
      rw [this, D_addc _ _ ht, D_scale _ _ ht]
      by_cases z : n = t
      · rw [if_pos z, Int.zero_mul, Int.add_zero]
      · rw [D_put ht (by omega) z, Int.mul_zero, Int.add_zero]
  rw [s, s2 r (by omega), D_scale _ _ ht, upc_self, ← e.det, Int.mul_comm]
/-- the first r rows, and row k -/
def rowK (A : Mx) (r k : Nat) : Mx := fun i j => A (if i < r then i else k) j
theorem El.ent2 (e : El A T h N r cs p) {k j : Nat} (hk : r ≤ k) (hh : k < h) (hj : j < N) : T k j = D (r + 1) (upc (cols (rowK A r k) cs) r fun i => rowK A r k i j) := by
  refine Int.eq_of_mul_eq_mul_left e.p0 ?_
  rw [← D_scale p _ (by omega)]
  have s : D (r + 1) (upc (cols (rowK A r k) cs) r fun i => p * rowK A r k i j) = D (r + 1) (upc (cols (rowK A r k) cs) r fun i => sumN r (fun t => T t j * cols (rowK A r k) cs i t) + (if r ≤ i then T k j else 0)) := by
    refine D_congr fun i c hi hc => ?_
    by_cases q : c = r
    · rw [q, upc_at, upc_at]
      unfold rowK cols
      by_cases z : i < r
      · simp only [if_pos z]
        rw [if_neg (by omega), e.rel i j (by omega) hj, if_neg (by omega)]
      · simp only [if_neg z]
        rw [if_pos (by omega), e.rel k j hh hj, if_pos hk]
    · rw [upc_ne q, upc_ne q]
  rw [s, D_comb (by omega) _ _ r (by omega) (fun t ht => by omega), D_last (T k j) (fun i hi => by rw [upc_at, if_neg (by omega)]) (by rw [upc_at, if_pos (by omega)])]
  rw [Int.mul_comm, e.det]
  congr 1
  exact D_congr fun i c hi hc => by
    rw [upc_ne (by omega)]; unfold cols rowK; rw [if_pos hi]
end
/-- the bound of a minor -/
def Fb (M : Int) : Nat → Int
  | 0 => 1
  | n + 1 => (n + 1 : Nat) * (M * Fb M n)
theorem Fb_pos {M : Int} (h : 0 ≤ M) : ∀ n, 0 ≤ Fb M n
  | 0 => by rw [Fb]; decide
  | n + 1 => Int.mul_nonneg (by omega) (Int.mul_nonneg h (Fb_pos h n))
theorem sumN_abs {M : Int} {f : Nat → Int} : ∀ {n : Nat}, (∀ i, i < n → -M ≤ f i ∧ f i ≤ M) → -((n : Int) * M) ≤ sumN n f ∧ sumN n f ≤ (n : Int) * M
  | 0, _ => by simp [sumN]
  | n + 1, h => by
    have q := sumN_abs (n := n) fun i hi => h i (by omega)
    have q2 := h n (by omega)
    rw [sumN]
    have : ((n + 1 : Nat) : Int) * M = n * M + M := by rw [Int.natCast_succ, Int.add_mul, Int.one_mul]
    omega
theorem mul_abs {a b x y : Int} (hx : -x ≤ a ∧ a ≤ x) (hy : -y ≤ b ∧ b ≤ y) : -(x * y) ≤ a * b ∧ a * b ≤ x * y := by
  have l1 : a.natAbs ≤ x.natAbs := by omega
  have l2 : b.natAbs ≤ y.natAbs := by omega
  have := Nat.mul_le_mul l1 l2
  rw [← Int.natAbs_mul, ← Int.natAbs_mul] at this
  have p : 0 ≤ x * y := Int.mul_nonneg (by omega) (by omega)
  omega
theorem D_abs {M : Int} (hM : 0 ≤ M) : ∀ {n : Nat} {A : Mx}, (∀ i k, i < n → k < n → -M ≤ A i k ∧ A i k ≤ M) → -(Fb M n) ≤ D n A ∧ D n A ≤ Fb M n
  | 0, _, _ => by simp [D, Fb]
  | n + 1, A, h => by
    rw [D, Fb]
    refine sumN_abs fun j hj => ?_
    refine mul_abs ?_ (D_abs hM fun i k hi hk => ?_)
    · have := h 0 j (by omega) hj
      unfold sg
      split <;> omega
    · unfold minor skip
      split
      · exact h _ _ (by omega) (by omega)
      · exact h _ _ (by omega) (by omega)
end Fc
set_option linter.all false
set_option maxRecDepth 100000
set_option maxHeartbeats 4000000
/-! Two ways to find the columns that are no mixture of those ahead choose alike. -/
namespace Fc
/-- a mixture of the columns cs -/
def mix (A : Mx) (cs : Nat → Nat) (n : Nat) (l : Nat → Int) (i : Nat) : Int := sumN n fun s => l s * A i (cs s)
theorem mix_zero (A : Mx) (cs : Nat → Nat) (n i : Nat) : mix A cs n (fun _ => 0) i = 0 := sumN_zero fun s _ => Int.zero_mul _
theorem mix_lin (A : Mx) (cs : Nat → Nat) (n i : Nat) (a b : Int) (l m : Nat → Int) : mix A cs n (fun s => a * l s + b * m s) i = a * mix A cs n l i + b * mix A cs n m i := by
  unfold mix
  rw [← sumN_mul, ← sumN_mul, ← sumN_add]
  exact sumN_congr fun s _ => by grind
theorem mix_more {A : Mx} {cs : Nat → Nat} {n i : Nat} (l : Nat → Int) : ∀ {m}, n ≤ m → mix A cs m (fun s => if s < n then l s else 0) i = mix A cs n l i
  | 0, h => by rw [show n = 0 by omega]; rfl
  | m + 1, h => by
    by_cases z : n = m + 1
    · subst z
      exact sumN_congr fun s hs => by dsimp only; rw [if_pos hs]
    · have hm : n ≤ m := by omega
      have := mix_more (A := A) (cs := cs) (i := i) l hm
      unfold mix at this ⊢
      rw [sumN, this]
      dsimp only
      rw [if_neg (show ¬ m < n by omega), Int.zero_mul, Int.add_zero]
theorem mix_cs {A : Mx} {cs ds : Nat → Nat} {n i : Nat} {l : Nat → Int} (h : ∀ s, s < n → cs s = ds s) : mix A cs n l i = mix A ds n l i :=
  sumN_congr fun s hs => by rw [h s hs]
/-- what the columns' own mixtures tell stays true if the rows are exchanged -/
theorem Rws.lin {A B : Mx} {h : Nat} (w : Rws A B h) {cs : Nat → Nat} {n j : Nat} {l : Nat → Int} {q : Int} (e : ∀ i, i < h → q * A i j = mix A cs n l i) {i : Nat} (hi : i < h) : q * B i j = mix B cs n l i := by
  obtain ⟨k, hk, f, hf, g⟩ := w i hi
  have := e k hk
  have s : mix B cs n l i = f * mix A cs n l k := by
    unfold mix
    rw [← sumN_mul]
    exact sumN_congr fun s _ => by rw [g]; grind
  rw [s, ← this, g]
  grind
/-- what the other way keeps of each chosen column: a place, and the column cleared -/
structure Kp (A : Mx) (h : Nat) (cs : Nat → Nat) (r : Nat) (ats : Nat → Nat) (y : Nat → Nat → Int) : Prop where
  lt : ∀ s, s < r → ats s < h
  ne : ∀ s, s < r → y s (ats s) ≠ 0
  z : ∀ s t, s < t → t < r → y t (ats s) = 0
  of : ∀ t, t < r → ∃ u : Int, u ≠ 0 ∧ ∃ l, ∀ i, i < h → y t i = u * A i (cs t) + mix A cs t l i
theorem Kp.start (A : Mx) (h : Nat) (cs ats : Nat → Nat) (y : Nat → Nat → Int) : Kp A h cs 0 ats y := ⟨fun s a => by omega, fun s a => by omega, fun s t a b => by omega, fun t a => by omega⟩
/-- a column cleared by the first n -/
def clr (ats : Nat → Nat) (y : Nat → Nat → Int) (x : Nat → Int) : Nat → Nat → Int
  | 0 => x
  | n + 1 => fun i => clr ats y x n i * y n (ats n) - y n i * clr ats y x n (ats n)
section
variable {A : Mx} {h r : Nat} {cs ats : Nat → Nat} {y : Nat → Nat → Int}
theorem Kp.clr (k : Kp A h cs r ats y) (j : Nat) : ∀ n, n ≤ r → (∃ u : Int, u ≠ 0 ∧ ∃ l, ∀ i, i < h → clr ats y (fun i => A i j) n i = u * A i j + mix A cs n l i) ∧ ∀ s, s < n → Fc.clr ats y (fun i => A i j) n (ats s) = 0
  | 0, _ => ⟨⟨1, by decide, fun _ => 0, fun i _ => by rw [mix_zero]; unfold Fc.clr; omega⟩, fun s hs => by omega⟩
  | n + 1, hn => by
    obtain ⟨⟨u, hu, l, hl⟩, hz⟩ := k.clr j n (by omega)
    obtain ⟨v, hv, m, hm⟩ := k.of n (by omega)
    refine ⟨⟨u * y n (ats n), Int.mul_ne_zero hu (k.ne n (by omega)), fun s => y n (ats n) * (if s < n then l s else 0) + (- Fc.clr ats y (fun i => A i j) n (ats n)) * (if s < n then m s else if s = n then v else 0), fun i hi => ?_⟩, fun s hs => ?_⟩
    · rw [mix_lin, mix_more l (by omega)]
      have e : mix A cs (n + 1) (fun s => if s < n then m s else if s = n then v else 0) i = mix A cs n m i + v * A i (cs n) := by
        unfold mix
        rw [sumN, sumN_congr (g := fun s => m s * A i (cs s)) fun s hs => by dsimp only; rw [if_pos hs]]
        dsimp only
        rw [if_neg (show ¬ n < n by omega), if_pos rfl]
      rw [e]
      show Fc.clr ats y (fun i => A i j) n i * y n (ats n) - y n i * Fc.clr ats y (fun i => A i j) n (ats n) = _
      generalize Fc.clr ats y (fun i => A i j) n (ats n) = q at *
      rw [hl i hi]
      generalize hq : y n (ats n) = w
      rw [hm i hi]
      grind
    · show Fc.clr ats y (fun i => A i j) n (ats s) * y n (ats n) - y n (ats s) * Fc.clr ats y (fun i => A i j) n (ats n) = 0
      by_cases q : s = n
      · subst q; rw [Int.mul_comm]; omega
      · rw [hz s (by omega), k.z s n (by omega) (by omega)]; omega
/-- a mixture of the chosen columns that is 0 at all their places is 0 -/
theorem Kp.zero (k : Kp A h cs r ats y) : ∀ n, n ≤ r → ∀ (m : Nat → Int), (∀ s, s < n → mix A cs n m (ats s) = 0) → ∀ i, i < h → mix A cs n m i = 0
  | 0, _, m, _, i, _ => rfl
  | n + 1, hn, m, hz, i, hi => by
    obtain ⟨u, hu, l, hl⟩ := k.of n (by omega)
    have e : ∀ i, i < h → u * mix A cs (n + 1) m i - m n * y n i = mix A cs n (fun s => u * m s + (- m n) * l s) i := fun i hi => by
      rw [mix_lin, hl i hi]
      unfold mix
      rw [sumN]
      grind
    have w := k.zero n (by omega) (fun s => u * m s + (- m n) * l s) fun s hs => by
      rw [← e _ (k.lt s (by omega)), hz s (by omega), k.z s n hs (by omega)]
      omega
    have ev : ∀ i, i < h → u * mix A cs (n + 1) m i = m n * y n i := fun i hi => by
      have := e i hi
      rw [w i hi] at this
      omega
    have mz : m n = 0 := by
      have := ev _ (k.lt n (by omega))
      rw [hz n (by omega), Int.mul_zero] at this
      rcases Int.mul_eq_zero.1 this.symm with q | q
      · exact q
      · exact absurd q (k.ne n (by omega))
    have := ev i hi
    rw [mz, Int.zero_mul] at this
    rcases Int.mul_eq_zero.1 this with q | q
    · exact absurd q hu
    · exact q
/-- a column kept -/
theorem Kp.next (k : Kp A h cs r ats y) {j at' : Nat} (ha : at' < h) (nz : Fc.clr ats y (fun i => A i j) r at' ≠ 0) {y' : Nat → Nat → Int} (hy : ∀ t, t < r → y' t = y t) (hy' : ∀ i, i < h → y' r i = Fc.clr ats y (fun i => A i j) r i) : Kp A h (put cs r j) (r + 1) (put ats r at') y' := by
  obtain ⟨⟨u, hu, l, hl⟩, hz⟩ := k.clr j r (Nat.le_refl r)
  refine ⟨fun s hs => ?_, fun s hs => ?_, fun s t a b => ?_, fun t ht => ?_⟩
  · by_cases q : s = r
    · rw [q, put_at]; exact ha
    · rw [put_lt (by omega)]; exact k.lt s (by omega)
  · by_cases q : s = r
    · rw [q, put_at, hy' _ ha]; exact nz
    · rw [put_lt (by omega), hy s (by omega)]; exact k.ne s (by omega)
  · rw [put_lt (by omega)]
    by_cases q : t = r
    · rw [q, hy' _ (k.lt s (by omega))]; exact hz s (by omega)
    · rw [hy t (by omega)]; exact k.z s t a (by omega)
  · by_cases q : t = r
    · subst q
      exact ⟨u, hu, l, fun i hi => by rw [hy' i hi, put_at, hl i hi, mix_cs (cs := cs) (ds := put cs t j) fun s hs => (put_lt hs).symm]⟩
    · obtain ⟨v, hv, m, hm⟩ := k.of t (by omega)
      exact ⟨v, hv, m, fun i hi => by rw [hy t (by omega), hm i hi, put_lt (by omega), mix_cs (cs := cs) (ds := put cs r j) fun s hs => (put_lt (by omega)).symm]⟩
end
section
variable {A0 A T : Mx} {h N r : Nat} {cs ats : Nat → Nat} {p : Int} {y : Nat → Nat → Int}
/-- both find a column that is no mixture, or neither does -/
theorem both_zero (w : Rws A0 A h) (w' : Rws A A0 h) (e : El A T h N r cs p) (k : Kp A0 h cs r ats y) {j : Nat} (hj : j < N) :
    (∀ i, r ≤ i → i < h → T i j = 0) ↔ ∀ i, i < h → clr ats y (fun i => A0 i j) r i = 0 := by
  obtain ⟨⟨u, hu, l, hl⟩, hz⟩ := k.clr j r (Nat.le_refl r)
  constructor
  · intro low
    have e1 : ∀ i, i < h → p * A0 i j = mix A0 cs r (fun t => T t j) i := fun i hi => w'.lin (fun i hi => by
      rw [e.rel i j hi hj]
      by_cases q : r ≤ i
      · rw [if_pos q, low i q hi, Int.add_zero]; rfl
      · rw [if_neg q, Int.add_zero]; rfl) hi
    have e2 : ∀ i, i < h → p * clr ats y (fun i => A0 i j) r i = mix A0 cs r (fun s => u * T s j + p * l s) i := fun i hi => by
      rw [mix_lin, ← e1 i hi, hl i hi]
      grind
    intro i hi
    have := k.zero r (Nat.le_refl r) _ (fun s hs => by rw [← e2 _ (k.lt s hs), hz s hs, Int.mul_zero]) i hi
    rw [← e2 i hi] at this
    rcases Int.mul_eq_zero.1 this with q | q
    · exact absurd q e.p0
    · exact q
  · intro z i hi hh
    have e1 : ∀ i, i < h → u * A0 i j = mix A0 cs r (fun s => (-1) * l s + 0 * l s) i := fun i hi => by
      have := hl i hi
      rw [z i hi] at this
      rw [mix_lin]
      omega
    have e2 : ∀ i, i < h → u * A i j = mix A cs r (fun s => (-1) * l s + 0 * l s) i := fun i hi => w.lin e1 hi
    have q : u * T i j = 0 := by
      rw [e.ent2 hi hh hj, ← D_scale u _ (by omega)]
      have s : D (r + 1) (upc (cols (rowK A r i) cs) r fun a => u * rowK A r i a j) = D (r + 1) (upc (cols (rowK A r i) cs) r fun a => sumN r (fun t => ((-1) * l t + 0 * l t) * cols (rowK A r i) cs a t) + 0) := by
        refine D_congr fun a c ha hc => ?_
        by_cases q : c = r
        · rw [q, upc_at, upc_at, Int.add_zero]
          unfold rowK cols
          by_cases g : a < r
          · simp only [if_pos g]
            exact e2 a (by omega)
          · simp only [if_neg g]
            exact e2 i hh
        · rw [upc_ne q, upc_ne q]
      rw [s, D_comb (by omega) _ _ r (by omega) (fun t ht => by omega), D_zeroc (by omega)]
    rcases Int.mul_eq_zero.1 q with q | q
    · exact absurd q hu
    · exact q
/-- a column, as a mixture of those that were chosen -/
theorem El.mixture (w' : Rws A A0 h) (e : El A T h N r cs p) (c : Ec T h r cs p N) {i j : Nat} (hi : i < h) (hj : j < N) : p * A0 i j = mix A0 cs r (fun t => T t j) i :=
  w'.lin (fun i hi => by
    rw [e.rel i j hi hj]
    by_cases q : r ≤ i
    · rw [if_pos q, c.low i j q hi hj, Int.add_zero]; rfl
    · rw [if_neg q, Int.add_zero]; rfl) hi
end
end Fc
set_option Elab.async false
set_option linter.all false
set_option maxRecDepth 100000
set_option maxHeartbeats 4000000
set_option exponentiation.threshold 100000
namespace Fc
open PySem PySem.Spec PyProof.Rows L2 L2H
section
variable {P : Program} {w : World} {K : PySem.W.Frag} {mg : Str → Option Value} {base : Heap} {A : Ad}
/-! ### the law's numbers -/
theorem two_div {i : Int} : CDivW i 2 := (bd_of (by decide) : Bd 3 (2 : Int)).div (by decide)
def spNumber : Sp := fun vs H Q _ => ∃ (p l : Addr) (m s : Int), vs = [.ref p, .int m, .int s] ∧ PotL H p l ∧ 0 < m ∧ Bd 300 m ∧
  ∀ n H', -m ≤ n → n ≤ m → PotL H' p l → Keep p H H' → Q (.int n) H'
theorem ok_number (T : Txt K mg A) : FnOk P w K mg base CX0 2 A.f_number A.d_number ["pot", "many", "shift"] spNumber := by
  refine T.F_number.ok sc_number (fun vs H Q E h => ?_) (fun cdv Ar outer s H vs Q E hr h => ?_)
  · obtain ⟨p, l, m, t, rfl, _⟩ := h
    rfl
  · obtain ⟨p, l, m, t, rfl, pot, m0, bm, k⟩ := h
    refine ⟨_, (pss_one (ps_ret (pe_op op_sub (pe_op op_mod (pe_callTy call_int1 (by rfl) T.n_int (by decide +kernel) (pa_cons (pe_op op_add (pe_op op_add (pe_call (ok_digit T) (hr.mono (by decide)) rfl T.g_digit T.F_digit.kp T.b_digit .nil pass0 (pa_cons (pv 0) (pa_cons (pv 1) pa_nil))) (pv 2)) (pe_op op_fdivW (pv 1) pe_int)) pa_nil)) (pv 1)) (pe_op op_fdivW (pv 1) pe_int)))), ?_⟩
    refine ⟨_, rfl, _, rfl, p, l, m, rfl, pot, m0, bm, fun d H1 d0 d1 p1 k1 => ⟨_, rfl, _, _, rfl, rfl, _, rfl, _, _, rfl, rfl, two_div, _, _, rfl, rfl, .inl ⟨_, rfl, _, rfl, _, _, rfl, rfl, m0, _, rfl, _, _, rfl, rfl, two_div, _, _, rfl, rfl, k _ H1 ?_ ?_ p1 k1⟩⟩⟩
    · have := Int.emod_nonneg (d + t + m / 2) (show m ≠ 0 by omega)
      show -m ≤ (d + t + m / 2) % m - m / 2
      omega
    · have := Int.emod_lt_of_pos (d + t + m / 2) m0
      show (d + t + m / 2) % m - m / 2 ≤ m
      omega
end
end Fc
set_option Elab.async false
set_option linter.all false
set_option maxRecDepth 100000
set_option maxHeartbeats 4000000
set_option exponentiation.threshold 100000
namespace Fc
open PySem PySem.Spec PyProof.Rows L2 L2H
section
variable {P : Program} {w : World} {K : PySem.W.Frag} {mg : Str → Option Value} {base : Heap} {A : Ad}
def spCShape (K : PySem.W.Frag) (A : Ad) : Sp := fun vs H Q E => ∃ (a : Addr) (xs : List V) (ns : List Nat), vs = [.ref a] ∧ LensV K H a xs ns ∧ ns.length ≤ 100000 ∧ (ShapeOk ns → Q .non H) ∧ (¬ ShapeOk ns → E (.ref A.BS) none H)
theorem ok_cshape (T : Txt K mg A) : FnOk P w K mg base (L2N.CX P w) 1 A.f_cshape A.d_cshape ["rows"] (spCShape K A) := by
  refine fun_okN T.F_cshape sc_cshape (fun vs H Q E h => ?_) (fun cdv Ar outer s H vs Q E hr h => ?_)
  · obtain ⟨a, xs, ns, rfl, _⟩ := h
    rfl
  · obtain ⟨a, xs, ns, rfl, ⟨hs, el, hrow⟩, ln, k, kb⟩ := h
    obtain ⟨tM, eM⟩ := T.gi_MOST_SIZE
    refine ⟨_, (C8.pss_cut (ps_if (pt_cmpR op_gt (pe_callB call_len (by rfl) T.n_len PySem.boot_len (pa_cons (pv 0) pa_nil)) (pe_glob (v := .int 64) rfl eM ⟨_, rfl⟩) (nomark _))
      (pss_one (L2N.ps_raise rfl (L2N.takes_of rfl rfl rfl rfl) (pmk_bareN PySem.F.excBase_ValueError T.x_BS T.g_BS T.k_BS (raises_own T.bs_BS T.t_BS) rfl))) pss_nil)
      (pss_one (ps_for (passes_of rfl) rfl (pi_seq (pv 0)) (pg_name (i := 1) sc_cshape.nd rfl (Or.inl rfl))
      (pss_one (ps_if (PW.pt (pw_or (pt_cmpR op_gt (pe_callB call_len (by rfl) T.n_len PySem.boot_len (pa_cons (pv 1) pa_nil)) (pe_glob (v := .int 64) rfl eM ⟨_, rfl⟩) (nomark _)) (pw_or1 (pt_cmpR op_ne (pe_callB call_len (by rfl) T.n_len PySem.boot_len (pa_cons (pv 1) pa_nil)) (pe_callB call_len (by rfl) T.n_len PySem.boot_len (pa_cons (pe_ix ix_seq (pv 0) pe_int (fun _ _ => rfl)) pa_nil)) (nomark _)))))
      (pss_one (L2N.ps_raise rfl (L2N.takes_of rfl rfl rfl rfl) (pmk_bareN PySem.F.excBase_ValueError T.x_BS T.g_BS T.k_BS (raises_own T.bs_BS T.t_BS) rfl))) pss_nil))))), ?_⟩
    refine ⟨fun sl H' => sl = [some (.ref a), none] ∧ H' = H ∧ ns.length ≤ 64, ?_, ?_⟩
    · refine ⟨_, rfl, _, _, rfl, lenv hs, _, _, rfl, rfl, _, rfl, ?_⟩
      by_cases c : ns.length ≤ 64
      · rw [decide_eq_false (by omega)]
        exact iteF ⟨rfl, rfl, c⟩
      · rw [decide_eq_true (by omega)]
        exact iteT (kb fun z => c z.1)
    rintro sl H' ⟨rfl, rfl, l64⟩
    rcases hs with hs | hs
    · refine .inl ⟨_, rfl, a, rfl, ⟨_, hs⟩, for_list (K := K) (a := a) (xs := xs) (fun i sl H2 => (∃ o, sl = [some (.ref a), o]) ∧ H2 = H' ∧ ∀ n ∈ ns.take i, n ≤ 64 ∧ ns.head? = some n) ⟨⟨_, rfl⟩, rfl, fun n hn => by simp at hn⟩ (fun i sl H2 _ q => by rw [q.2.1]; exact hs) (fun i v sl H2 hv q => ?_) (fun sl H2 q => ?_)⟩
      · obtain ⟨⟨o, rfl⟩, rfl, all⟩ := q
        have hi : i < ns.length := by have := (List.getElem?_eq_some_iff.mp hv).1; omega
        have hx0 : 0 < xs.length := by omega
        have hn0 : 0 < ns.length := by omega
        obtain ⟨b, ys, rfl, hb, lb⟩ := hrow i v _ hv (List.getElem?_eq_getElem hi)
        obtain ⟨b0, ys0, e0, hb0, lb0⟩ := hrow 0 _ _ (List.getElem?_eq_getElem hx0) (List.getElem?_eq_getElem hn0)
        have hh : ns.head? = some ns[0] := by rw [List.head?_eq_getElem?, List.getElem?_eq_getElem hn0]
        have at0 : xs[0]? = some (V.ref b0) := by rw [List.getElem?_eq_getElem hx0, e0]
        refine ⟨_, rfl, _, _, rfl, lenv hb, _, _, rfl, rfl, _, rfl, ?_⟩
        by_cases c1 : ys.length ≤ 64
        · rw [decide_eq_false (by omega)]
          refine iteF ⟨_, rfl, _, _, rfl, lenv hb, _, rfl, .inl ⟨_, _, _, _, rfl, rfl, hs, atI_nat at0, _, _, rfl, lenv hb0, rfl, _, rfl, ?_⟩⟩
          by_cases c2 : ys.length = ys0.length
          · rw [decide_eq_true (by rw [c2])]
            refine iteF ⟨⟨_, rfl⟩, rfl, fun n hn => ?_⟩
            rw [List.take_add_one, List.getElem?_eq_getElem hi] at hn
            rcases List.mem_append.mp hn with hn | hn
            · exact all n hn
            · have : n = ns[i] := by simpa using hn
              subst this
              exact ⟨by omega, by rw [hh, ← lb0, ← c2, lb]⟩
          · rw [decide_eq_false (fun z => c2 (by have := V.int.inj z; omega))]
            refine iteT (kb fun z => c2 ?_)
            have := (z.2 ns[i] (List.getElem_mem hi)).2
            rw [hh] at this
            have := Option.some.inj this
            omega
        · rw [decide_eq_true (by omega)]
          exact iteT (kb fun z => c1 (by have := (z.2 ns[i] (List.getElem_mem hi)).1; omega))
      · obtain ⟨⟨o, rfl⟩, rfl, all⟩ := q
        rw [el, List.take_length] at all
        exact k ⟨l64, all⟩
    · refine .inr ⟨_, rfl, a, rfl, ⟨_, hs⟩, for_tup (K := K) (a := a) (xs := xs) (fun i sl H2 => (∃ o, sl = [some (.ref a), o]) ∧ H2 = H' ∧ ∀ n ∈ ns.take i, n ≤ 64 ∧ ns.head? = some n) ⟨⟨_, rfl⟩, rfl, fun n hn => by simp at hn⟩ (fun i sl H2 _ q => by rw [q.2.1]; exact hs) (fun i v sl H2 hv q => ?_) (fun sl H2 q => ?_)⟩
      · obtain ⟨⟨o, rfl⟩, rfl, all⟩ := q
        have hi : i < ns.length := by have := (List.getElem?_eq_some_iff.mp hv).1; omega
        have hx0 : 0 < xs.length := by omega
        have hn0 : 0 < ns.length := by omega
        obtain ⟨b, ys, rfl, hb, lb⟩ := hrow i v _ hv (List.getElem?_eq_getElem hi)
        obtain ⟨b0, ys0, e0, hb0, lb0⟩ := hrow 0 _ _ (List.getElem?_eq_getElem hx0) (List.getElem?_eq_getElem hn0)
        have hh : ns.head? = some ns[0] := by rw [List.head?_eq_getElem?, List.getElem?_eq_getElem hn0]
        have at0 : xs[0]? = some (V.ref b0) := by rw [List.getElem?_eq_getElem hx0, e0]
        refine ⟨_, rfl, _, _, rfl, lenv hb, _, _, rfl, rfl, _, rfl, ?_⟩
        by_cases c1 : ys.length ≤ 64
        · rw [decide_eq_false (by omega)]
          refine iteF ⟨_, rfl, _, _, rfl, lenv hb, _, rfl, .inr (.inl ⟨_, _, _, _, rfl, rfl, hs, atI_nat at0, _, _, rfl, lenv hb0, rfl, _, rfl, ?_⟩)⟩
          by_cases c2 : ys.length = ys0.length
          · rw [decide_eq_true (by rw [c2])]
            refine iteF ⟨⟨_, rfl⟩, rfl, fun n hn => ?_⟩
            rw [List.take_add_one, List.getElem?_eq_getElem hi] at hn
            rcases List.mem_append.mp hn with hn | hn
            · exact all n hn
            · have : n = ns[i] := by simpa using hn
              subst this
              exact ⟨by omega, by rw [hh, ← lb0, ← c2, lb]⟩
          · rw [decide_eq_false (fun z => c2 (by have := V.int.inj z; omega))]
            refine iteT (kb fun z => c2 ?_)
            have := (z.2 ns[i] (List.getElem_mem hi)).2
            rw [hh] at this
            have := Option.some.inj this
            omega
        · rw [decide_eq_true (by omega)]
          exact iteT (kb fun z => c1 (by have := (z.2 ns[i] (List.getElem_mem hi)).1; omega))
      · obtain ⟨⟨o, rfl⟩, rfl, all⟩ := q
        rw [el, List.take_length] at all
        exact k ⟨l64, all⟩
end
end Fc
set_option Elab.async false
set_option linter.all false
set_option maxRecDepth 100000
set_option maxHeartbeats 4000000
set_option exponentiation.threshold 100000
namespace Fc
open PySem PySem.Spec PyProof.Rows L2 L2H
section
variable {P : Program} {w : World} {K : PySem.W.Frag} {mg : Str → Option Value} {base : Heap} {A : Ad}
/-- the greatest common divisor of a bottom and all numbers -/
def sharedG (m : List (List Int)) (g : Nat) : Nat := m.foldl (fun g r => gcdL ((g : Int) :: r)) g
theorem sharedG_take (m : List (List Int)) (g i : Nat) (r : List Int) (h : m[i]? = some r) : sharedG (m.take (i + 1)) g = gcdL (((sharedG (m.take i) g : Nat) : Int) :: r) := by
  unfold sharedG
  rw [List.take_add_one, h, List.foldl_append]
  rfl
def spShared (K : PySem.W.Frag) : Sp := fun vs H Q _ => ∃ (a : Addr) (xs : List V) (m : List (List Int)) (g : Nat), vs = [.ref a, .int (g : Int)] ∧ MatV K H a xs m ∧ (∀ r ∈ m, r.length ≤ 100000) ∧ ∀ H', Ex H H' → Q (.int (sharedG m g : Nat)) H'
theorem ok_shared (T : Txt K mg A) : FnOk P w K mg base CX0 2 A.f_shared A.d_shared ["rows", "over"] (spShared K) := by
  refine T.F_shared.ok sc_shared (fun vs H Q E h => ?_) (fun cdv Ar outer s H vs Q E hr h => ?_)
  · obtain ⟨a, xs, m, g, rfl, _⟩ := h
    rfl
  · obtain ⟨a, xs, m, g, rfl, ⟨hs, el, hrow⟩, lm, k⟩ := h
    refine ⟨_, (pss_cons (ps_set (i := 2) sc_shared.nd rfl (Or.inl rfl) (pv 1))
      (pss_cons (ps_for PassesOwn.never rfl (pi_seq (pv 0)) (pg_name (i := 3) sc_shared.nd rfl (Or.inl rfl))
      (pss_one (ps_set (i := 2) sc_shared.nd rfl (Or.inl rfl) (pe_call (ok_cdiv T) (hr.mono (by decide)) rfl T.g_cdiv T.F_cdiv.kp T.b_cdiv .nil pass0 (pa_cons (pe_lst (pa_cons (pv 2) (StX.pa_star (pv 3) pa_nil))) pa_nil)))))
      (pss_one (ps_ret (pv 2))))), ?_⟩
    refine ⟨_, rfl, ?_⟩
    rcases hs with hs | hs
    · refine .inl ⟨_, rfl, a, rfl, ⟨_, hs⟩, for_list (K := K) (a := a) (xs := xs) (fun i sl H2 => (∃ o, sl = [some (.ref a), some (.int (g : Int)), some (.int (sharedG (m.take i) g : Nat)), o]) ∧ Ex H H2) ⟨⟨_, rfl⟩, fun _ _ h => h⟩ (fun i sl H2 _ q => Fc.SqL.ex hs q.2) (fun i v sl H2 hv q => ?_) (fun sl H2 q => ?_)⟩
      · obtain ⟨⟨o, rfl⟩, ex⟩ := q
        have hi : i < m.length := by have := (List.getElem?_eq_some_iff.mp hv).1; omega
        obtain ⟨b, rfl, hb⟩ := hrow i v _ hv (List.getElem?_eq_getElem hi)
        have hb2 := hb.ex ex
        refine ⟨_, rfl, _, rfl, b, _, rfl, hb2.symm, ?_, fun L nL => ⟨L, ((sharedG (m.take i) g : Nat) : Int) :: m[i], rfl, SqL.of ?_, ⟨some (.ref b), ?_⟩, ex.trans (Ex.new nL)⟩⟩
        · have := lm m[i] (List.getElem_mem hi)
          rw [List.append_nil, List.length_cons, List.length_map, sizeLine_eq]; omega
        · rw [upd_same, List.append_nil]; rfl
        · rw [sharedG_take m g i m[i] (List.getElem?_eq_getElem hi)]
          rfl
      · obtain ⟨⟨o, rfl⟩, ex⟩ := q
        rw [el, List.take_length]
        exact ⟨_, rfl, k H2 ex⟩
    · refine .inr ⟨_, rfl, a, rfl, ⟨_, hs⟩, for_tup (K := K) (a := a) (xs := xs) (fun i sl H2 => (∃ o, sl = [some (.ref a), some (.int (g : Int)), some (.int (sharedG (m.take i) g : Nat)), o]) ∧ Ex H H2) ⟨⟨_, rfl⟩, fun _ _ h => h⟩ (fun i sl H2 _ q => Fc.SqT.ex hs q.2) (fun i v sl H2 hv q => ?_) (fun sl H2 q => ?_)⟩
      · obtain ⟨⟨o, rfl⟩, ex⟩ := q
        have hi : i < m.length := by have := (List.getElem?_eq_some_iff.mp hv).1; omega
        obtain ⟨b, rfl, hb⟩ := hrow i v _ hv (List.getElem?_eq_getElem hi)
        have hb2 := hb.ex ex
        refine ⟨_, rfl, _, rfl, b, _, rfl, hb2.symm, ?_, fun L nL => ⟨L, ((sharedG (m.take i) g : Nat) : Int) :: m[i], rfl, SqL.of ?_, ⟨some (.ref b), ?_⟩, ex.trans (Ex.new nL)⟩⟩
        · have := lm m[i] (List.getElem_mem hi)
          rw [List.append_nil, List.length_cons, List.length_map, sizeLine_eq]; omega
        · rw [upd_same, List.append_nil]; rfl
        · rw [sharedG_take m g i m[i] (List.getElem?_eq_getElem hi)]
          rfl
      · obtain ⟨⟨o, rfl⟩, ex⟩ := q
        rw [el, List.take_length]
        exact ⟨_, rfl, k H2 ex⟩
end
end Fc
set_option Elab.async false
set_option linter.all false
set_option maxRecDepth 100000
set_option maxHeartbeats 4000000
/-! x[i] by an own __getitem__, which may raise in a try. -/
namespace Fc
open PySem PySem.Spec PyProof.Rows L2
section
variable {X : Cx} {CX : CXT} {k : Nat} {C f : Addr} {fd : FuncData} {ps : List Str} {sp : Sp}
def tIxO (C : Addr) (sp : Sp) (E : L2.St → XK) (ta tb : TE) : TE := fun sl H Q => ta sl H fun x H1 => tb sl H1 fun y H2 => ∃ a dx fs, x = .ref a ∧ H2 a = some (.ins C dx fs) ∧ sp [.ref a, y] H2 Q (E sl)
theorem pe_ixO {a b : Expr} {pos : Pos} {E : L2.St → XK} {ta tb : TE} (hs : PySem.W.findIn X.K (.ref C) "__getitem__" = some (some (.ref f))) (hn : PySem.W.fnIn X.K f = true) (hf : PySem.W.isFn X.K (.ref f) = true)
    (F : FnOk X.prog X.w X.K X.mg X.base CX k f fd ps sp) (hr : Room (k + 1) X.A) (hb : Binds X.K fd ps []) (hx : ∀ sl, PassesAt CX X sl (E sl)) (ha : PE X a ta) (hbb : PE X b tb)
    (hsl : ∀ v i, subscripted b true v i = runValue (.builtin "lifetime.subscript" ⟨[v, i], []⟩) := by intro _ _; with_unfolding_all rfl) : PE X (.Subscript a b pos) (tIxO C sp E ta tb) := by
  refine ⟨fun pins s sl H Q I h => ?_⟩
  refine Subscript_ (binT ha hbb I h fun v u s2 x y H2 I2 rx ry q => ?_)
  obtain ⟨a, dx, fs, rfl, h1, q⟩ := q
  cases rx
  obtain ⟨ox, od, J⟩ := inst_at I2 h1
  obtain ⟨m, hF⟩ := I2.fr
  refine PySem.W.sub_K hF I2.ok.mod.kin J hs hn hf ?_ (hsl _ _)
  have e := I2.env0
  have e0 : Env0 X.prog X.w X.K X.mg X.base X.A.in1 X.stack s2 H2 := e.in1
  have r2 : Vals [V.ref a, y] [Value.ref a, u] := .cons rfl (.cons ry .nil)
  have hl := F.len _ _ _ _ q
  refine wpAny_call (codeAny_mono (F.run X.A.in1 X.stack s2 H2 ⟨[.ref a, u], []⟩ [.ref a, u] [.ref a, y] Q (E sl) hr.in1 e0 (by
    have := hb s2 [.ref a, u] I2.kIn (by simpa using hl)
    simpa using this) r2 q) fun r s' hq => ?_)
  cases r with
  | error e => exact hx sl pins H2 s2 e s' I2 hq
  | ok fl =>
    cases fl with
    | ret w => exact I2.after hq
    | next => exact False.elim hq
    | brk => exact False.elim hq
    | cont => exact False.elim hq
theorem pe_meth0S {m : Str} {o : Expr} {ta : TE} {apos pos : Pos} {pl : Sem Bool} {E : L2.St → XK} (ho : PE X o ta) (c : Cls X.K C) (hm : Meth X.K C m f)
    (F : FnOk X.prog X.w X.K X.mg X.base CX k f fd ps sp) (hr : Room k X.A) (hb : Binds X.K fd ps []) (hx : ∀ sl, PassesAt CX X sl (E sl))
    (ht : eval (.Call (.Attribute o m apos) [] [] pos) X.env = (do
      let v ← eval o X.env
      standAt apos.atName
      let (g, first) ← holding [v] (getMethod v m pl)
      callWith pos g first (backTo pos (starEach [] X.env)) (backToKw pos (keywordEach [] X.env))) := by rfl) :
    PE X (.Call (.Attribute o m apos) [] [] pos) (tMethS C m sp E ta tNil) := by
  refine ⟨fun pins s sl H Q I h => PySem.W.methodCall_KW (pl := pl) (thn (ho.run pins s sl H _ I h) fun u s1 hh => ?_) ht⟩
  obtain ⟨x, H1, I1, rx, a, dx, fs, ex, ea, l, q⟩ := hh
  subst ex
  cases rx
  refine getmeth_ok I1 ea c hm l ?_
  exact PySem.W.callWith_K0 (first := [.ref a]) I1.kIn hm.kp (run_fnS (us := [.ref a]) (vs := [.ref a]) F hr hb (hx sl) I1 (.cons rfl .nil) q)
def tSMethS (C : Addr) (sp : Sp) (E : L2.St → XK) (ta : TE) (t : TA) : TE := fun σ H Q => ta σ H fun x H1 => x = .ref C ∧ t σ H1 fun vs H2 => sp vs H2 Q (E σ)
theorem pe_smethS {o e : Expr} {es : List Expr} {m : Str} {apos pos : Pos} {pl : Sem Bool} {mc : Value} {p g : Addr} {E : L2.St → XK} {ta : TE} {t : TA} (he : PE X o ta) (r : ClX.CRead X.K C mc) (c : SMet X.K C mc m p g)
    (F : FnOk X.prog X.w X.K X.mg X.base CX k g fd ps sp) (hr : Room k X.A) (hb : Binds X.K fd ps []) (hx : ∀ sl, PassesAt CX X sl (E sl)) (ha : PA X (e :: es) t)
    (hst : starEach (e :: es) X.env = (false, eval e X.env) :: starEach es X.env := by rfl) (hpl : (backTo pos (starEach es X.env)).any (·.1) = false := by rfl)
    (ht : eval (.Call (.Attribute o m apos) (e :: es) [] pos) X.env = (do
      let ov ← eval o X.env
      standAt apos.atName
      let (f, first) ← holding [ov] (getMethod ov m pl)
      callWith pos f first (backTo pos (starEach (e :: es) X.env)) (backToKw pos (keywordEach [] X.env))) := by rfl) :
    PE X (.Call (.Attribute o m apos) (e :: es) [] pos) (tSMethS C sp E ta t) := by
  refine ⟨fun pins s σ H Q I h => ?_⟩
  refine PySem.W.methodCall_KW (pl := pl) (thn (he.run pins s σ H _ I h) fun u s1 ⟨x, H1, I1, rx, ex, q⟩ => ?_) ht
  subst ex
  obtain rfl : u = Value.ref C := rx
  refine getsm_ok I1 r c fun s2 I2 => ?_
  refine PySem.W.callWith_K (first := []) (h₀ := X.base) I2.ok.mod.kin c.kp ?_ hst hpl
  exact thn (ha.run pos pins s2 σ H1 _ I2 q) fun us s3 ⟨vs, H2, I3, rv, q2⟩ => ⟨I3.kIn, run_fnS F hr hb (hx σ) I3 rv q2⟩
end
def spErr1 (C : Addr) (f : Str) : Sp := fun vs H Q _ => ∃ (a : Addr) (v : V), vs = [.ref a, v] ∧ H a = some (exo a C none) ∧
  ∀ d H2, H d = none → d ≠ a → H2 a = some (exo a C (some d)) → H2 d = some (exd d [(f, v)]) → (∀ c o, H c = some o → c ≠ a → H2 c = some o) → Q .non H2
theorem rd_err1 {C : Addr} {f : Str} {v : V} {H : Hp} {Q : XK} {E : XK} (k : ∀ d H', Ex H H' → H' d = some (.xd [(f, v)]) → Q (.ref C) (some d) H') :
    ([v] : List V).length ≤ 1000 ∧ ∀ a, H a = none → spErr1 C f (.ref a :: ([v] ++ [])) (upd H a (exo a C none))
      (fun u H2 => u = .non ∧ ∃ (d : Addr) (fs : List (Str × V)), H2 a = some (exo a C (some d)) ∧ H2 d = some (exd d fs) ∧ H d = none ∧ Q (.ref C) (some d) (upd (del H2 a) d (.xd fs))) E := by
  refine ⟨(by show 1 ≤ 1000; decide), fun a na => ⟨a, v, rfl, upd_same, fun d H2 nd ne h1 h2 kp => ⟨rfl, d, _, h1, h2, ?_, ?_⟩⟩⟩
  · rw [upd_ne ne] at nd; exact nd
  · have hd : H d = none := by rw [upd_ne ne] at nd; exact nd
    refine k d _ (fun b o e => ?_) upd_same
    rw [upd_ne (ne_of_none e hd), del_ne (ne_of_none e na)]
    exact kp b o (by rw [upd_ne (ne_of_none e na)]; exact e) (ne_of_none e na)

theorem not_take {ns : List Str} {k : Nat} {n : Str} (nd : ns.Nodup) (h : ns[k]? = some n) : n ∉ ns.take k := by
  intro m
  obtain ⟨i, hi⟩ := List.mem_iff_getElem?.mp m
  rw [List.getElem?_take] at hi
  split at hi
  · have := nodup_ix nd hi h
    omega
  · cases hi
/-- a field stored behind the first k ones -/
theorem fput {ns : List Str} {k : Nat} {vs : List V} {n : Str} {v : V} (nd : ns.Nodup) (h : ns[k]? = some n) (l : (ns.take k).length = vs.length) : putF n v ((ns.take k).zip vs) = (ns.take (k + 1)).zip (vs ++ [v]) := by
  rw [put_new (not_take nd h) l, List.take_succ, h]
  rfl
/-- tuple(x), its reading named for use within a comprehension -/
def rTupOf (K : PySem.W.Frag) : List V → Hp → VK → Prop := fun xs H Q => ∃ p ys, xs = [.ref p] ∧ ((SqL K H p ys ∧ ∀ l, H l = none → Q (.ref l) (upd H l (.tup ys))) ∨ (SqT K H p ys ∧ Q (.ref p) H))
theorem call_tupK {X : Cx} : CallR X (.type "tuple") (rTupOf X.K) := call_tuple_of
theorem nf_self {K : PySem.W.Frag} {C : Addr} : PySem.W.notFirst K C (.ref C) = true := by
  unfold PySem.W.notFirst
  simp
theorem nf_ty {K : PySem.W.Frag} {C : Addr} {t : String} (h : PySem.W.subIn K (.type t) (.ref C) = some false) : PySem.W.notFirst K C (.type t) = true := by
  unfold PySem.W.notFirst
  rw [h]
  simp
theorem NL.put {H : Hp} {b : Addr} {xs : List V} {o : HO} (h : H b = some (.lst xs)) : NL H (upd H b o) := fun c ob hc n => by
  rw [upd_ne fun z => by subst z; rw [h] at hc; cases hc; exact n _ rfl]
  exact hc
theorem passE0 {X : Cx} : ∀ sl, PassesAt (L2N.CX X.prog X.w) X sl E0 := fun sl pins H s e s' I h => passLN pins sl H s e s' I h
/-- what stands but at these places stays -/
def St (N : List Addr) (H H' : Hp) : Prop := ∀ b o, H b = some o → b ∉ N → H' b = some o
theorem St.refl {N : List Addr} {H : Hp} : St N H H := fun _ _ h _ => h
theorem St.trans {N : List Addr} {H H1 H2 : Hp} (a : St N H H1) (b : St N H1 H2) : St N H H2 := fun c o h n => b c o (a c o h n) n
theorem St.of {N : List Addr} {H H' : Hp} (h : Ex H H') : St N H H' := fun c o e _ => h c o e
theorem St.kp {N : List Addr} {p : Addr} {H H' : Hp} (h : Keep p H H') (m : p ∈ N) : St N H H' := fun c o e n => h c o e fun z => n (by rw [z]; exact m)
theorem St.put {N : List Addr} {p : Addr} {H : Hp} {o : HO} (m : p ∈ N) : St N H (L2.upd H p o) := fun c oc e n => by rw [L2.upd_ne fun z => n (by rw [z]; exact m)]; exact e
end Fc
set_option Elab.async false
set_option linter.all false
set_option maxRecDepth 100000
set_option maxHeartbeats 4000000
set_option exponentiation.threshold 100000
namespace Fc
open PySem PySem.Spec PyProof.Rows L2 L2H
def wideOf (m : List (List Int)) : Nat := (m.head?.map List.length).getD 0
def GN : List Str := ["rows", "over", "height", "width"]
theorem GN_nd : GN.Nodup := by decide +kernel
/-- a Grid that shows the rows m over o -/
def GridAt (A : Ad) (H : Hp) (g : Addr) (m : List (List Int)) (o : Int) : Prop := ∃ dx R, H g = some (.ins A.Gr dx (GN.zip [.ref R, .int o, .int (m.length : Nat), .int (wideOf m : Nat)])) ∧ RowsT H R m
theorem GridAt.ex {A : Ad} {H H' : Hp} {g : Addr} {m : List (List Int)} {o : Int} (h : GridAt A H g m o) (e : Ex H H') : GridAt A H' g m o := let ⟨dx, R, a, b⟩ := h; ⟨dx, R, e _ _ a, b.ex e⟩
/-- lowest terms -/
def nG (m : List (List Int)) (o : Int) : Int := (sharedG m o.toNat : Nat)
def nR (m : List (List Int)) (o : Int) : List (List Int) := m.map fun r => r.map fun x => x.fdiv (nG m o)
def nO (m : List (List Int)) (o : Int) : Int := o.fdiv (nG m o)
theorem nR_len (m : List (List Int)) (o : Int) : (nR m o).length = m.length := List.length_map ..
theorem nR_wide (m : List (List Int)) (o : Int) : wideOf (nR m o) = wideOf m := by
  unfold wideOf nR
  cases m <;> simp
theorem gcdl_dvd (g : Nat) (r : List Int) : gcdL ((g : Int) :: r) ∣ g := by
  have : ∀ (l : List Int) (a : Nat), l.foldl (fun d n => Nat.gcd d n.natAbs) a ∣ a := by
    intro l
    induction l with
    | nil => intro a; exact Nat.dvd_refl _
    | cons x l ih => intro a; exact Nat.dvd_trans (ih _) (Nat.gcd_dvd_left _ _)
  have e : gcdL ((g : Int) :: r) = r.foldl (fun d n => Nat.gcd d n.natAbs) g := by
    unfold gcdL
    rw [List.foldl_cons, Int.natAbs_natCast, Nat.gcd_zero_left]
  rw [e]
  exact this r g
theorem sharedG_dvd (m : List (List Int)) (g : Nat) : sharedG m g ∣ g := by
  induction m generalizing g with
  | nil => exact Nat.dvd_refl _
  | cons r m ih => exact Nat.dvd_trans (ih _) (gcdl_dvd g r)
theorem nG_pos {m : List (List Int)} {o : Int} (h : 1 ≤ o) : 0 < nG m o := by
  unfold nG
  have := Nat.pos_of_dvd_of_pos (sharedG_dvd m o.toNat) (by omega)
  omega
theorem nG_bd {m : List (List Int)} {o : Int} {n : Nat} (h : 1 ≤ o) (b : Bd n o) : Bd n (nG m o) := by
  have := Nat.le_of_dvd (by omega) (sharedG_dvd m o.toNat)
  refine b.abs ?_
  unfold nG
  omega
section
variable {P : Program} {w : World} {K : PySem.W.Frag} {mg : Str → Option Value} {base : Heap} {A : Ad}
theorem ok_oob (T : Txt K mg A) : FnOk P w K mg base CX0 1 A.f_oob A.d_oob ["self", "value"] (spErr1 A.O "value") := by
  refine T.F_oob.ok sc_oob (fun vs H Q E h => ?_) (fun cdv Ar outer s H vs Q E hr h => ?_)
  · obtain ⟨a, v, rfl, _⟩ := h
    rfl
  · obtain ⟨a, v, rfl, ha, k⟩ := h
    refine ⟨_, (pss_one (ps_ost (pv 0) (pv 1))), ?_⟩
    refine ⟨_, rfl, _, rfl, a, A.O, rfl, T.o_O, T.n_O_value, .inl ⟨ha, fun d hd hn => ?_⟩⟩
    exact k d _ hd hn upd_same (by rw [upd_ne hn, upd_same]) fun c o e ne => by rw [upd_ne ne, upd_ne (ne_of_none e hd)]; exact e
/-! ### a Grid is made -/
def spGInit (K : PySem.W.Frag) (A : Ad) : Sp := fun vs H Q E => ∃ (x dx a : Addr) (xs : List V) (ns : List Nat) (o : Int), vs = [.ref x, .ref a, .int o] ∧ H x = some (.ins A.Gr dx []) ∧ LensV K H a xs ns ∧ ns.length ≤ 100000 ∧
  (¬ ShapeOk ns → E (.ref A.BS) none H) ∧ (ShapeOk ns → o < 1 → ∀ d H', Ex H H' → H' d = some (.xd [("value", .int o)]) → E (.ref A.O) (some d) H') ∧
  (ShapeOk ns → 1 ≤ o → Bd 8900 o ∧ ∃ m, ns = m.map List.length ∧ MatV K H a xs m ∧ ∀ H', Keep x H H' → GridAt A H' x (nR m o) (nO m o) → Q .non H')
theorem shape_len {m : List (List Int)} (h : ShapeOk (m.map List.length)) : m.length ≤ 64 ∧ ∀ r ∈ m, r.length ≤ 64 ∧ wideOf m = r.length := by
  refine ⟨by simpa using h.1, fun r hr => ?_⟩
  obtain ⟨h1, h2⟩ := h.2 r.length (List.mem_map_of_mem hr)
  refine ⟨h1, ?_⟩
  unfold wideOf
  rw [List.head?_map] at h2
  rw [h2]
  rfl
theorem ok_ginit (T : Txt K mg A) : FnOk P w K mg base (L2N.CX P w) 3 A.f_ginit A.d_ginit ["self", "rows", "over"] (spGInit K A) := by
  refine T.F_ginit.ok sc_ginit (fun vs H Q E h => ?_) (fun cdv Ar outer s H vs Q E hr h => ?_)
  · obtain ⟨x, dx, a, xs, ns, o, rfl, _⟩ := h
    rfl
  · obtain ⟨x, dx, a, xs, ns, o, rfl, hx, hl, ln, kb, ko, kg⟩ := h
    refine ⟨_, (C8.pss_cut (ps_expr (pe_call (ok_cshape T) (hr.mono (by decide)) rfl T.g_cshape T.F_cshape.kp T.b_cshape .nil (L2N.passes_call (L2N.takes_of rfl rfl rfl rfl) fun _ _ _ _ h => h) (pa_cons (pv 1) pa_nil)))
      (C8.pss_cut (ps_if (pt_cmpR op_lt (pv 2) pe_int (nomark _))
      (pss_one (L2N.ps_raise rfl (L2N.takes_of rfl rfl rfl rfl) (pmk_oexN T.o_O T.in_O T.ti_O (ok_oob T) (hr.mono (by decide)) T.b_oob passF rfl T.g_O (pa_cons (pv 2) pa_nil)))) pss_nil)
      (C8.pss_cut (ps_set (i := 3) sc_ginit.nd rfl (Or.inr rfl) (pe_call (ok_shared T) (hr.mono (by decide)) rfl T.g_shared T.F_shared.kp T.b_shared .nil pass0 (pa_cons (pv 1) (pa_cons (pv 2) pa_nil))))
      (C8.pss_cut (ps_fld (pv 0) (pe_callTy call_tuple_of (by rfl) T.n_tuple (by decide +kernel) (pa_cons (pe_lc (own := [("row", 5)]) (g := gName 5) (tt := tYes) rfl sc_ginit.nd (pi_seq (pv 1)) (blkOk_by (own := [("row", 5)]) (N := N_ginit) (sc := defScope S_ginit) (by decide +kernel)) (fun _ _ _ _ _ => pg_name (i := 5) sc_ginit.nd rfl (Or.inl rfl)) (fun _ _ _ _ _ => pts_nil) (fun _ _ _ _ _ => (pe_callTy (T := "tuple") (r := rTupOf K) call_tupK (by rfl) T.n_tuple (by decide +kernel) (pa_cons (pe_lc (own := [("number", 4)]) (g := gName 4) (wi := iSeq K (tVar 5)) (tt := tYes) rfl sc_ginit.nd (pi_seq (pv 5)) (blkOk_by (own := [("number", 4)]) (N := N_ginit) (by rfl)) (fun _ _ _ _ _ => pg_name (i := 4) sc_ginit.nd rfl (Or.inl rfl)) (fun _ _ _ _ _ => pts_nil) (fun _ _ _ _ _ => (pe_op op_fdv (pv 4) (pv 3)))) pa_nil)))) pa_nil)) rfl)
      (C8.pss_cut (ps_fld (pv 0) (pe_op op_fdv (pv 2) (pv 3)) rfl)
      (C8.pss_cut (ps_fld (pv 0) (pe_callB call_len (by rfl) T.n_len PySem.boot_len (pa_cons (pe_fld (pv 0) rfl) pa_nil)) rfl)
      (pss_one (ps_fld (pv 0) (pe_ifExp (pt_truth (pe_fld (pv 0) rfl) (by intro _; rfl)) (pe_callB call_len (by rfl) T.n_len PySem.boot_len (pa_cons (pe_ix ix_tup (pe_fld (pv 0) rfl) pe_int (fun _ _ => rfl)) pa_nil)) pe_int) rfl)))))))), ?_⟩
    refine ⟨fun sl H' => sl = [some (.ref x), some (.ref a), some (.int o), none, none, none] ∧ H' = H ∧ ShapeOk ns, ?_, ?_⟩
    · exact ⟨_, rfl, a, xs, ns, rfl, hl, ln, fun h => ⟨rfl, rfl, h⟩, kb⟩
    rintro sl H' ⟨rfl, rfl, sh⟩
    refine ⟨fun sl H2 => sl = [some (.ref x), some (.ref a), some (.int o), none, none, none] ∧ H2 = H' ∧ 1 ≤ o, ?_, ?_⟩
    · refine ⟨_, rfl, _, _, rfl, rfl, _, rfl, ?_⟩
      refine ite2 (fun c => ⟨_, rfl, rd_err1 (ko sh (of_decide_eq_true c))⟩) (fun c => ⟨rfl, rfl, by have := of_decide_eq_false (by simpa using c) (p := o < 1); omega⟩)
    rintro sl H2 ⟨rfl, rfl, o1⟩
    obtain ⟨bo, m, rfl, hm, k⟩ := kg sh o1
    obtain ⟨lm, lr⟩ := shape_len sh
    have eo : o = (o.toNat : Int) := by omega
    refine ⟨fun sl H3 => sl = [some (.ref x), some (.ref a), some (.int o), some (.int (nG m o)), none, none] ∧ Ex H2 H3, ?_, ?_⟩
    · exact ⟨_, rfl, _, rfl, a, xs, m, o.toNat, by rw [← eo]; rfl, hm, fun r hr => by have := (lr r hr).1; omega, fun H3 e => ⟨rfl, e⟩⟩
    rintro sl H3 ⟨rfl, e3⟩
    have gp := nG_pos (m := m) o1
    have gb := nG_bd (m := m) o1 bo
    have hm3 := hm.ex e3
    refine ⟨fun sl H4 => sl = [some (.ref x), some (.ref a), some (.int o), some (.int (nG m o)), none, none] ∧ Keep x H2 H4 ∧ ∃ R, H4 x = some (.ins A.Gr dx ((GN.take 1).zip [.ref R])) ∧ RowsT H4 R (nR m o) ∧ R ≠ x, ?_, ?_⟩
    · refine uFld (uCB (uCons (lcS (RowR .tup (nR m o)) (fun Q q => ⟨_, rfl, q⟩) hm3.1 (by rw [hm3.2.1]; omega) (fun i v H4 D hi ex4 hD Q4 kq => ?_) (fun D H4 vs hD ex4 h1 h2 h3 => ?_))))
      · have hi2 : i < m.length := by have := (List.getElem?_eq_some_iff.mp hi).1; have := hm3.2.1; omega
        obtain ⟨b, rfl, hb⟩ := (hm3.ex ex4).2.2 i v _ hi (List.getElem?_eq_getElem hi2)
        have l64 := (lr m[i] (List.getElem_mem hi2)).1
        refine ⟨rfl, uCB (uCons (lcInts (fun n => n.fdiv (nG m o)) (fun R => lcS R (fun Q q => ⟨_, rfl, q⟩) hb (by rw [List.length_map]; omega)) (fun n H5 _ e5 Q5 q => ⟨rfl, _, rfl, _, rfl, _, _, rfl, rfl, gb.fdv (by omega), q⟩) (fun D2 H5 n2 e5 hD2 => ?_)))⟩
        refine ⟨D2, _, rfl, .inl ⟨SqL.of hD2, fun R nR_ => ?_⟩⟩
        obtain ⟨oD, hoD⟩ := hD
        exact kq _ _ (e5.trans (Ex.new nR_)) (RowR.fix (r := m[i].map fun n => n.fdiv (nG m o)) (by unfold nR; rw [List.getElem?_map, List.getElem?_eq_getElem hi2]; rfl) upd_same (ne_of_none (e5 _ _ hoD) nR_).symm)
      · obtain ⟨as, rfl, la, ha⟩ := RowR.all (m := nR m o) (by rw [h2, hm3.2.1, nR_len]) h3
        refine ⟨D, _, rfl, .inl ⟨SqL.of h1, fun R nR_ => ?_⟩⟩
        have e5 : Ex H2 (upd H4 R (.tup (as.map V.ref))) := e3.trans (ex4.trans (Ex.new nR_))
        have xR : R ≠ x := (ne_of_none (e3.trans ex4 _ _ hx) nR_).symm
        refine ⟨_, rfl, x, A.Gr, dx, _, rfl, e5 _ _ hx, T.c_Gr, T.na_Gr_rows, (by show 0 < 1000; decide), rfl, fun b ob hb ne => by rw [upd_ne ne]; exact e5 _ _ hb, R, upd_same, ⟨as, by rw [upd_ne xR]; exact upd_same, la, fun i c r e1 e2 => ?_⟩, xR⟩
        have hc := ha i c r e1 e2
        have cx : c ≠ x := fun z => by
          subst z
          have := (e3.trans ex4) _ _ hx
          rw [this] at hc
          cases hc
        rw [upd_ne cx, upd_ne (ne_of_none hc nR_)]
        exact hc
    rintro sl H4 ⟨rfl, k4, R, h4, hR, nRx⟩
    have step : ∀ {H5 : Hp} {o' : HO}, Keep x H2 H5 → RowsT H5 R (nR m o) → (∃ ob, H5 x = some ob ∧ ∀ ys, ob ≠ .tup ys) → Keep x H2 (upd H5 x o') ∧ RowsT (upd H5 x o') R (nR m o) := by
      intro H5 o' k5 ⟨as, r1, r2, r3⟩ ⟨ob, hob, nt⟩
      refine ⟨fun b q hb ne => by rw [upd_ne ne]; exact k5 _ _ hb ne, as, by rw [upd_ne nRx]; exact r1, r2, fun i c r e1 e2 => ?_⟩
      have hc := r3 i c r e1 e2
      rw [upd_ne fun z => by subst z; rw [hob] at hc; cases hc; exact nt _ rfl]
      exact hc
    have nt : ∀ {fs : List (Str × V)} (ys : List V), HO.ins A.Gr dx fs ≠ .tup ys := fun ys z => by cases z
    refine ⟨fun sl H5 => sl = [some (.ref x), some (.ref a), some (.int o), some (.int (nG m o)), none, none] ∧ Keep x H2 H5 ∧ RowsT H5 R (nR m o) ∧ H5 x = some (.ins A.Gr dx ((GN.take 2).zip [.ref R, .int (nO m o)])), ?_, ?_⟩
    · refine ⟨_, rfl, _, rfl, _, _, rfl, rfl, gb.fdv (by omega), _, rfl, x, A.Gr, dx, _, rfl, h4, T.c_Gr, T.na_Gr_over, (by show 1 < 1000; decide), rfl, ?_⟩
      obtain ⟨s1, s2⟩ := step (o' := .ins A.Gr dx (putF "over" (.int (nO m o)) ((GN.take 1).zip [.ref R]))) k4 hR ⟨_, h4, nt⟩
      exact ⟨s1, s2, by rw [upd_same, fput GN_nd rfl rfl]; rfl⟩
    rintro sl H5 ⟨rfl, k5, hR5, h5⟩
    have dv := hR5.choose_spec
    refine ⟨fun sl H6 => sl = [some (.ref x), some (.ref a), some (.int o), some (.int (nG m o)), none, none] ∧ Keep x H2 H6 ∧ RowsT H6 R (nR m o) ∧ H6 x = some (.ins A.Gr dx ((GN.take 3).zip [.ref R, .int (nO m o), .int (m.length : Nat)])), ?_, ?_⟩
    · refine ⟨_, rfl, _, _, _, _, _, rfl, h5, T.c_Gr, T.na_Gr_rows, zip_get (i := 0) (by decide +kernel) rfl rfl, _, _, rfl, lenv (.inr (SqT.of dv.1)), _, rfl, x, A.Gr, dx, _, rfl, h5, T.c_Gr, T.na_Gr_height, (by show 2 < 1000; decide), rfl, ?_⟩
      rw [List.length_map, dv.2.1, nR_len]
      obtain ⟨s1, s2⟩ := step (o' := .ins A.Gr dx (putF "height" (.int (m.length : Nat)) ((GN.take 2).zip [.ref R, .int (nO m o)]))) k5 hR5 ⟨_, h5, nt⟩
      exact ⟨s1, s2, by rw [upd_same, fput GN_nd rfl rfl]; rfl⟩
    rintro sl H6 ⟨rfl, k6, hR6, h6⟩
    have fin : Q .non (upd H6 x (.ins A.Gr dx (putF "width" (.int (wideOf m : Nat)) ((GN.take 3).zip [.ref R, .int (nO m o), .int (m.length : Nat)])))) := by
      obtain ⟨s1, s2⟩ := step (o' := .ins A.Gr dx (putF "width" (.int (wideOf m : Nat)) ((GN.take 3).zip [.ref R, .int (nO m o), .int (m.length : Nat)]))) k6 hR6 ⟨_, h6, nt⟩
      refine k _ s1 ⟨dx, R, ?_, s2⟩
      rw [upd_same, fput GN_nd rfl rfl, nR_len, nR_wide]
      rfl
    obtain ⟨as, r1, r2, r3⟩ := hR6
    rw [nR_len] at r2
    refine ⟨_, rfl, _, _, _, _, _, rfl, h6, T.c_Gr, T.na_Gr_rows, zip_get (i := 0) (by decide +kernel) rfl rfl, _, .inr (.inl ⟨_, SqT.of r1, rfl⟩), ?_⟩
    cases m with
    | nil =>
      obtain rfl : as = [] := List.length_eq_zero_iff.mp r2
      exact iteF ⟨_, rfl, x, A.Gr, dx, _, rfl, h6, T.c_Gr, T.na_Gr_width, (by show 3 < 1000; decide), fin⟩
    | cons r0 m =>
      cases as with
      | nil => cases r2
      | cons c as =>
        have hc := r3 0 c (r0.map fun z => z.fdiv (nG (r0 :: m) o)) rfl rfl
        refine iteT ⟨_, rfl, _, _, _, _, _, rfl, h6, T.c_Gr, T.na_Gr_rows, zip_get (i := 0) (by decide +kernel) rfl rfl, _, _, _, _, rfl, rfl, SqT.of r1, atI_nat (j := 0) rfl, _, _, rfl, lenv (.inr (SqT.of hc)), _, rfl, x, A.Gr, dx, _, rfl, h6, T.c_Gr, T.na_Gr_width, (by show 3 < 1000; decide), ?_⟩
        rw [List.length_map, List.length_map]
        exact fin
end
end Fc
set_option Elab.async false
set_option linter.all false
set_option maxRecDepth 100000
set_option maxHeartbeats 4000000
set_option exponentiation.threshold 100000
namespace Fc
open PySem PySem.Spec PyProof.Rows L2 L2H
section
variable {P : Program} {w : World} {K : PySem.W.Frag} {mg : Str → Option Value} {base : Heap} {A : Ad}
/-! ### a row cleared by another one -/
def clL (x y : List Int) (p f d : Int) : List Int := List.zipWith (fun u v => (p * u - f * v).fdiv d) x y
theorem clL_take (xs ys : List Int) (p f d : Int) (i : Nat) (x y : Int) (h1 : xs[i]? = some x) (h2 : ys[i]? = some y) : (clL xs ys p f d).take (i + 1) = (clL xs ys p f d).take i ++ [(p * x - f * y).fdiv d] := by
  unfold clL
  rw [List.take_add_one, List.getElem?_zipWith, h1, h2]
  rfl
def spCleared : Sp := fun vs H Q _ => ∃ (a b : Addr) (xs ys : List Int) (c : Nat) (d p f : Int), vs = [.ref a, .ref b, .int c, .int d] ∧ xs.length = ys.length ∧ xs.length ≤ 100000 ∧ H a = some (.lst (xs.map V.int)) ∧ H b = some (.lst (ys.map V.int)) ∧
  ys[c]? = some p ∧ xs[c]? = some f ∧ (∀ x ∈ xs, Bd 1000 x) ∧ (∀ y ∈ ys, Bd 1000 y) ∧ Bd 1000 d ∧ d ≠ 0 ∧ ∀ R H', H R = none → Ex H H' → H' R = some (.lst ((clL xs ys p f d).map V.int)) → Q (.ref R) H'
theorem ok_cleared (T : Txt K mg A) : FnOk P w K mg base CX0 1 A.f_cleared A.d_cleared ["row", "base", "column", "divisor"] spCleared := by
  refine T.F_cleared.ok sc_cleared (fun vs H Q E h => ?_) (fun cdv Ar outer s H vs Q E hr h => ?_)
  · obtain ⟨a, b, xs, ys, c, d, p, f, rfl, _⟩ := h
    rfl
  · obtain ⟨a, b, xs, ys, c, d, p, f, rfl, el, lx, ha, hb, hp, hf, bx, by_, bd, d0, k⟩ := h
    refine ⟨_, (pss_cons (ps_set (i := 4) sc_cleared.nd rfl (Or.inr rfl) (pe_ix ix_list (pv 1) (pv 2) (fun _ _ => rfl)))
      (pss_cons (ps_set (i := 5) sc_cleared.nd rfl (Or.inr rfl) (pe_ix ix_list (pv 0) (pv 2) (fun _ _ => rfl)))
      (pss_one (ps_ret (pe_lc (own := [("x", 6), ("y", 7)]) (g := gTup K 2 (gCons (gName 6) (gCons (gName 7) gNil))) (tt := tYes) rfl sc_cleared.nd (RZ.pi_zipA rfl T.n_zip (pa_cons (pv 0) (pa_cons (pv 1) pa_nil))) (blkOk_by (own := [("x", 6), ("y", 7)]) (N := N_cleared) (sc := defScope S_cleared) (by decide +kernel)) (fun _ _ _ _ _ => pg_tup rfl (pgs_cons (pg_name (i := 6) sc_cleared.nd rfl (Or.inl rfl)) (pgs_cons (pg_name (i := 7) sc_cleared.nd rfl (Or.inl rfl)) pgs_nil))) (fun _ _ _ _ _ => pts_nil) (fun _ _ _ _ _ => (pe_op op_fdv (pe_op op_sub (pe_op op_mulW (pv 4) (pv 6)) (pe_op op_mulW (pv 5) (pv 7))) (pv 3)))))))), ?_⟩
    have el2 : (xs.map V.int).length = (ys.map V.int).length := by rw [List.length_map, List.length_map]; exact el
    have bp := by_ p (List.mem_of_getElem? hp)
    have bf := bx f (List.mem_of_getElem? hf)
    refine ⟨_, rfl, _, rfl, _, _, _, _, rfl, rfl, SqL.of hb, atI_nat (by rw [List.getElem?_map, hp]; rfl), ?_⟩
    refine ⟨_, rfl, _, rfl, _, _, _, _, rfl, rfl, SqL.of ha, atI_nat (by rw [List.getElem?_map, hf]; rfl), ?_⟩
    let Pv : Addr → Nat → Hp → Prop := fun D i H' => H' D = some (.lst (((clL xs ys p f d).take i).map V.int)) ∧ Ex H H'
    refine ⟨_, rfl, _, rfl, a, b, _, _, rfl, .inl ⟨SqL.of ha, SqL.of hb, fun D hD => ?_⟩⟩
    refine it_zipL (K := K) el2 (Pv D) ⟨upd_same, Ex.new hD⟩ (fun i H' _ q => ⟨SqL.of (q.2 _ _ ha), SqL.of (q.2 _ _ hb)⟩) (fun i x y T H' hx hy q nT => ?_) (fun H' q => ?_)
    · rw [List.getElem?_map] at hx hy
      obtain ⟨u, hu, rfl⟩ := Option.map_eq_some_iff.mp hx
      obtain ⟨v, hv, rfl⟩ := Option.map_eq_some_iff.mp hy
      obtain ⟨h1, ex⟩ := q
      have nDT : D ≠ T := ne_of_none h1 nT
      refine ⟨T, _, rfl, SqT.of upd_same, rfl, _, _, rfl, _, _, rfl, rfl, rfl, ?_⟩
      refine ⟨_, rfl, _, rfl, _, _, rfl, rfl, Bd.w bp (bx u (List.mem_of_getElem? hu)), _, rfl, _, rfl, _, _, rfl, rfl, Bd.w bf (by_ v (List.mem_of_getElem? hv)), _, _, rfl, rfl, _, rfl, _, _, rfl, rfl, bd.fdv d0, _, by rw [upd_ne nDT]; exact h1, ?_, ?_, ?_⟩
      · rw [List.length_map, List.length_take, sizeLine_eq]; have : (clL xs ys p f d).length ≤ xs.length := by unfold clL; rw [List.length_zipWith]; omega
        omega
      · rw [upd_same, clL_take xs ys p f d i u v hu hv, List.map_append]; rfl
      · exact fun c o e => by
          rw [upd_ne (ne_of_none e hD)]
          exact (ex.trans (Ex.new nT)) c o e
    · rw [List.length_map] at q
      refine k D H' hD q.2 ?_
      rw [q.1, List.take_of_length_le (by unfold clL; rw [List.length_zipWith]; omega)]
/-! ### the first place below -/
def spFplace : Sp := fun vs H Q _ => ∃ (a : Addr) (m : List (List Int)) (s c : Nat), vs = [.ref a, .int s, .int c] ∧ RowsL H a m ∧ m.length ≤ 1000 ∧ s ≤ m.length ∧ (∀ r ∈ m, c < r.length) ∧
  ((∀ k r, s ≤ k → m[k]? = some r → r[c]? = some 0) → Q .non H) ∧ (∀ k r x, s ≤ k → m[k]? = some r → r[c]? = some x → x ≠ 0 → (∀ j r, s ≤ j → j < k → m[j]? = some r → r[c]? = some 0) → Q (.int (k : Nat)) H)
theorem ok_fplace (T : Txt K mg A) : FnOk P w K mg base CX0 1 A.f_fplace A.d_fplace ["table", "start", "column"] spFplace := by
  refine T.F_fplace.ok sc_fplace (fun vs H Q E h => ?_) (fun cdv Ar outer s H vs Q E hr h => ?_)
  · obtain ⟨a, m, s, c, rfl, _⟩ := h
    rfl
  · obtain ⟨a, m, s, c, rfl, ⟨as, ha, el, hrw⟩, lm, ls, lc, k0, k1⟩ := h
    refine ⟨_, (pss_cons (ps_for PassesOwn.never rfl (pi_range2 rfl T.n_range (pa_cons (pv 1) (pa_cons (pe_callB call_len (by rfl) T.n_len PySem.boot_len (pa_cons (pv 0) pa_nil)) pa_nil))) (pg_name (i := 3) sc_fplace.nd rfl (Or.inl rfl))
      (pss_one (ps_if (pt_cmpR op_ne (pe_ix ix_list (pe_ix ix_list (pv 0) (pv 3) (fun _ _ => rfl)) (pv 2) (fun _ _ => rfl)) pe_int (nomark _))
      (pss_one (ps_ret (pv 3))) pss_nil)))
      (pss_one (ps_ret pe_non))), ?_⟩
    refine ⟨_, rfl, _, rfl, _, _, rfl, lenv (.inl (SqL.of ha)), ?_⟩
    rw [List.length_map, el]
    refine ⟨_, _, rfl, ⟨by omega, by omega, by omega, by omega⟩, ?_⟩
    rw [show ((m.length : Int) - (s : Int)).toNat = m.length - s by omega]
    refine for_range (lo := (s : Int)) (n := m.length - s) (fun i sl H2 => (∃ o, sl = [some (.ref a), some (.int (s : Int)), some (.int (c : Int)), o]) ∧ H2 = H ∧ ∀ j r, s ≤ j → j < s + i → m[j]? = some r → r[c]? = some 0) ?_ ?_ ?_
    · exact ⟨⟨_, rfl⟩, rfl, fun j r h1 h2 => by omega⟩
    · rintro i sl H2 hi ⟨⟨o, rfl⟩, rfl, low⟩
      have hk : s + i < m.length := by omega
      have hr1 := List.getElem?_eq_getElem hk
      have hk2 : s + i < as.length := by omega
      have hb := hrw (s + i) _ _ (List.getElem?_eq_getElem hk2) hr1
      have hc := lc _ (List.getElem_mem hk)
      have eki : ((s : Int) + (i : Int)) = ((s + i : Nat) : Int) := by omega
      refine ⟨_, rfl, _, rfl, _, _, _, _, rfl, rfl, SqL.of ha, by rw [eki]; exact atI_nat (by rw [List.getElem?_map, List.getElem?_eq_getElem hk2]; rfl), _, rfl, _, _, _, _, rfl, rfl, SqL.of hb, atI_nat (by rw [List.getElem?_map, List.getElem?_eq_getElem hc]; rfl), rfl, _, rfl, ?_⟩
      by_cases z : m[s + i][c] = 0
      · refine iteNS (by rw [z]) ⟨⟨_, rfl⟩, rfl, fun j r h1 h2 h3 => ?_⟩
        by_cases q : j = s + i
        · rw [q, hr1] at h3
          cases h3
          rw [List.getElem?_eq_getElem hc, z]
        · exact low j r h1 (by omega) h3
      · rw [decide_eq_false (fun e => z (V.int.inj e))]
        refine iteT ⟨_, rfl, ?_⟩
        rw [eki]
        exact k1 (s + i) _ _ (by omega) hr1 (List.getElem?_eq_getElem hc) z fun j r h1 h2 h3 => low j r h1 (by omega) h3
    · rintro sl H2 ⟨⟨o, rfl⟩, rfl, low⟩
      refine k0 fun k r h1 h2 => low k r h1 ?_ h2
      have := (List.getElem?_eq_some_iff.mp h2).1
      omega
end
end Fc
set_option linter.all false
set_option maxRecDepth 100000
set_option maxHeartbeats 4000000
/-! enumerate(list), in a comprehension read whole -/
namespace Fc
open PySem PySem.Spec PyProof.Rows L2 L2H
theorem it_enum {K : PySem.W.Frag} {a : Addr} {xs : List V} {B : (Hp → Prop) → V → Hp → Prop} {H0 : Hp} {Qd : Hp → Prop} (Pv : Nat → Hp → Prop) (h0 : Pv 0 H0) (hl : ∀ i H, i ≤ xs.length → Pv i H → SqL K H a xs)
    (hs : ∀ (i : Nat) x T H, xs[i]? = some x → Pv i H → H T = none → B (Pv (i + 1)) (.ref T) (upd H T (.tup [.int (i : Nat), x]))) (hd : ∀ H, Pv xs.length H → Qd H) :
    ∃ W : Nat → Nat → Hp → Prop, (∃ m, W 0 m H0) ∧ ∀ i m H, W i m H →
      ((Ite K a).stop i H ∧ Qd H) ∨ ((Ite K a).go i H ∧ ∃ Nx : Hp → Prop, (∀ H', Nx H' → ∃ m', m' < m ∧ W (i + 1) m' H') ∧ ∀ x H', (Ite K a).yld i H x H' → B Nx x H') := by
  refine ⟨fun i m H => m = xs.length - i ∧ i ≤ xs.length ∧ Pv i H, ⟨xs.length, by simp, Nat.zero_le _, h0⟩, ?_⟩
  rintro i m H ⟨rfl, hi, p⟩
  have q := hl i H hi p
  by_cases hlt : i < xs.length
  · refine .inr ⟨⟨xs, xs[i], q, by simp [hlt]⟩, Pv (i + 1), fun H' p' => ⟨xs.length - (i + 1), by omega, rfl, hlt, p'⟩, fun x H' y => ?_⟩
    obtain ⟨T, u, rfl, nT, rfl, y1⟩ := y
    exact hs i u T H (y1 xs q) p nT
  · have e : i = xs.length := by omega
    subst e
    exact .inl ⟨⟨xs, q, Nat.le_refl _⟩, hd H p⟩
section
variable {K : PySem.W.Frag} {ta : TA} {g : TG} {te : TE} {ws : List Nat} {σ : L2.St} {H : Hp} {Q : VK} {a : Addr} {xs : List V}
theorem lcE (R : Nat → V → Hp → Prop) (hta : ∀ Q : List V → Hp → Prop, Q [.ref a] H → ta σ H Q) (ha : SqL K H a xs) (hl : xs.length ≤ 100000)
    (hs : ∀ (i : Nat) x H' D T, xs[i]? = some x → H D = none → H' T = none → Ex H H' → LcStep R H D i (upd H' T (.tup [.int (i : Nat), x])) (LcBody g te ws σ (.ref T) (upd H' T (.tup [.int (i : Nat), x])))) (hd : LcEnd R H xs.length Q) : tLc (iEnum K ta) g tYes te ws σ H Q := by
  refine hta _ ⟨a, _, rfl, ha, fun D hD => ?_⟩
  refine it_enum (xs := xs) (fun i H' => LcInv R H D i H') (.start hD) (fun i H' _ q => Fc.SqL.ex ha q.ex) (fun i x T H' hx q nT => ?_) (fun H' q => q.done hD hd)
  have hi := (List.getElem?_eq_some_iff.mp hx).1
  have e1 : Ex H' (upd H' T (.tup [.int (i : Nat), x])) := Ex.new nT
  exact hs i x H' D T hx hD nT q.ex (q.ex.trans e1) ⟨_, e1 _ _ q.at_.choose_spec.1⟩ _ fun v H2 e f => q.put hD (by omega) (e1.trans e) f
end
end Fc
set_option linter.all false
set_option maxRecDepth 100000
set_option maxHeartbeats 4000000
/-! The columns that are no mixture of those chosen ahead: one list for each table. -/
namespace Fc
def colsOf (ps : List Nat) : Nat → Nat := fun s => ps[s]?.getD 0
def IsMix (A : Mx) (h : Nat) (ps : List Nat) (j : Nat) : Prop := ∃ q : Int, q ≠ 0 ∧ ∃ l, ∀ i, i < h → q * A i j = mix A (colsOf ps) ps.length l i
inductive Cho (A : Mx) (h : Nat) : Nat → List Nat → Prop
  | nil : Cho A h 0 []
  | skip {c ps} : Cho A h c ps → IsMix A h ps c → Cho A h (c + 1) ps
  | take {c ps} : Cho A h c ps → ¬ IsMix A h ps c → Cho A h (c + 1) (ps ++ [c])
theorem Cho.unique {A : Mx} {h : Nat} : ∀ {c : Nat} {ps qs : List Nat}, Cho A h c ps → Cho A h c qs → ps = qs
  | 0, _, _, .nil, .nil => rfl
  | c + 1, _, _, .skip a _, .skip b _ => a.unique b
  | c + 1, _, _, .take a _, .take b _ => by rw [a.unique b]
  | c + 1, _, _, .skip a x, .take b y => absurd (a.unique b ▸ x) y
  | c + 1, _, _, .take a x, .skip b y => absurd (a.unique b ▸ y) x
theorem colsOf_range {cs : Nat → Nat} {r s : Nat} (h : s < r) : colsOf ((List.range r).map cs) s = cs s := by
  unfold colsOf
  rw [List.getElem?_map, List.getElem?_range h]
  rfl
theorem isMix_range {A : Mx} {h r j : Nat} {cs : Nat → Nat} : IsMix A h ((List.range r).map cs) j ↔ ∃ q : Int, q ≠ 0 ∧ ∃ l, ∀ i, i < h → q * A i j = mix A cs r l i := by
  unfold IsMix
  rw [List.length_map, List.length_range]
  have e : ∀ l i, mix A (colsOf ((List.range r).map cs)) r l i = mix A cs r l i := fun l i => mix_cs fun s hs => colsOf_range hs
  simp only [e]
/-- a table and its multiple -/
theorem isMix_scale {A B : Mx} {h j : Nat} {ps : List Nat} {g : Int} (g0 : g ≠ 0) (e : ∀ i j, i < h → A i j = g * B i j) : IsMix A h ps j ↔ IsMix B h ps j := by
  have s : ∀ l i, i < h → mix A (colsOf ps) ps.length l i = g * mix B (colsOf ps) ps.length l i := fun l i hi => by
    unfold mix
    rw [← sumN_mul]
    exact sumN_congr fun s _ => by rw [e _ _ hi]; grind
  constructor
  · rintro ⟨q, hq, l, hl⟩
    refine ⟨q, hq, l, fun i hi => Int.eq_of_mul_eq_mul_left g0 ?_⟩
    rw [← s l i hi, ← hl i hi, e _ _ hi]
    grind
  · rintro ⟨q, hq, l, hl⟩
    refine ⟨q, hq, l, fun i hi => ?_⟩
    rw [s l i hi, ← hl i hi, e _ _ hi]
    grind
theorem Cho.scale {A B : Mx} {h : Nat} {g : Int} (g0 : g ≠ 0) (e : ∀ i j, i < h → A i j = g * B i j) : ∀ {c : Nat} {ps : List Nat}, Cho A h c ps → Cho B h c ps
  | 0, _, .nil => .nil
  | c + 1, _, .skip a x => .skip (a.scale g0 e) ((isMix_scale g0 e).mp x)
  | c + 1, _, .take a x => .take (a.scale g0 e) fun y => x ((isMix_scale g0 e).mpr y)
section
variable {A0 A T : Mx} {h N r : Nat} {cs ats : Nat → Nat} {p : Int} {y : Nat → Nat → Int}
theorem El.isMix (w' : Rws A A0 h) (e : El A T h N r cs p) {j : Nat} (hj : j < N) (low : ∀ i, r ≤ i → i < h → T i j = 0) : IsMix A0 h ((List.range r).map cs) j :=
  isMix_range.mpr ⟨p, e.p0, fun t => T t j, fun i hi => w'.lin (fun i hi => by
      rw [e.rel i j hi hj]
      by_cases q : r ≤ i
      · rw [if_pos q, low i q hi, Int.add_zero]; rfl
      · rw [if_neg q, Int.add_zero]; rfl) hi⟩
theorem El.noMix (w : Rws A0 A h) (e : El A T h N r cs p) {j : Nat} (hj : j < N) {i : Nat} (hi : r ≤ i) (hh : i < h) (nz : T i j ≠ 0) : ¬ IsMix A0 h ((List.range r).map cs) j := by
  intro hm
  obtain ⟨u, hu, l, e1⟩ := isMix_range.mp hm
  have e2 : ∀ i, i < h → u * A i j = mix A cs r l i := fun i hi => w.lin e1 hi
  have q : u * T i j = 0 := by
    rw [e.ent2 hi hh hj, ← D_scale u _ (by omega)]
    have s : D (r + 1) (upc (cols (rowK A r i) cs) r fun a => u * rowK A r i a j) = D (r + 1) (upc (cols (rowK A r i) cs) r fun a => sumN r (fun t => l t * cols (rowK A r i) cs a t) + 0) := by
      refine D_congr fun a c ha hc => ?_
      by_cases q : c = r
      · rw [q, upc_at, upc_at, Int.add_zero]
        unfold rowK cols
        by_cases g : a < r
        · simp only [if_pos g]
          exact e2 a (by omega)
        · simp only [if_neg g]
          exact e2 i hh
      · rw [upc_ne q, upc_ne q]
    rw [s, D_comb (by omega) _ _ r (by omega) (fun t ht => by omega), D_zeroc (by omega)]
  rcases Int.mul_eq_zero.1 q with q | q
  · exact hu q
  · exact nz q
theorem Kp.isMix (k : Kp A0 h cs r ats y) {j : Nat} (z : ∀ i, i < h → Fc.clr ats y (fun i => A0 i j) r i = 0) : IsMix A0 h ((List.range r).map cs) j := by
  obtain ⟨⟨u, hu, l, hl⟩, hz⟩ := k.clr j r (Nat.le_refl r)
  refine isMix_range.mpr ⟨u, hu, fun s => (-1) * l s + 0 * l s, fun i hi => ?_⟩
  have := hl i hi
  rw [z i hi] at this
  rw [mix_lin]
  omega
theorem Kp.noMix (k : Kp A0 h cs r ats y) {j i : Nat} (hi : i < h) (nz : Fc.clr ats y (fun i => A0 i j) r i ≠ 0) : ¬ IsMix A0 h ((List.range r).map cs) j := by
  intro hm
  obtain ⟨q, hq, m, e1⟩ := isMix_range.mp hm
  obtain ⟨⟨u, hu, l, hl⟩, hz⟩ := k.clr j r (Nat.le_refl r)
  have e2 : ∀ i, i < h → q * Fc.clr ats y (fun i => A0 i j) r i = mix A0 cs r (fun s => u * m s + q * l s) i := fun i hi => by
    rw [mix_lin, ← e1 i hi, hl i hi]
    grind
  have := k.zero r (Nat.le_refl r) _ (fun s hs => by rw [← e2 _ (k.lt s hs), hz s hs, Int.mul_zero]) i hi
  rw [← e2 i hi] at this
  rcases Int.mul_eq_zero.1 this with z | z
  · exact hq z
  · exact nz z
end
end Fc
set_option linter.all false
set_option maxRecDepth 100000
set_option maxHeartbeats 4000000
/-! Tables as lists of lists; the bound of what elimination leaves. -/
namespace Fc
def mxL (T : Mx) (h N : Nat) : List (List Int) := (List.range h).map fun i => (List.range N).map (T i)
def Lmx (m : List (List Int)) : Mx := fun i j => ((m[i]?.getD [])[j]?).getD 0
theorem mxL_len (T : Mx) (h N : Nat) : (mxL T h N).length = h := by unfold mxL; rw [List.length_map, List.length_range]
theorem mxL_row {T : Mx} {h N i : Nat} (hi : i < h) : (mxL T h N)[i]? = some ((List.range N).map (T i)) := by
  unfold mxL
  rw [List.getElem?_map, List.getElem?_range hi]
  rfl
theorem row_get {f : Nat → Int} {N j : Nat} (hj : j < N) : ((List.range N).map f)[j]? = some (f j) := by
  rw [List.getElem?_map, List.getElem?_range hj]
  rfl
theorem mxL_Lmx {m : List (List Int)} {N : Nat} (h : ∀ r ∈ m, r.length = N) : mxL (Lmx m) m.length N = m := by
  refine List.ext_getElem? fun i => ?_
  by_cases hi : i < m.length
  · rw [mxL_row hi, List.getElem?_eq_getElem hi]
    congr 1
    have hr := h _ (List.getElem_mem hi)
    refine List.ext_getElem? fun j => ?_
    by_cases hj : j < N
    · rw [row_get hj]
      unfold Lmx
      rw [List.getElem?_eq_getElem hi, Option.getD_some, List.getElem?_eq_getElem (by omega)]
      rfl
    · rw [List.getElem?_eq_none (by rw [List.length_map, List.length_range]; omega), List.getElem?_eq_none (by omega)]
  · rw [List.getElem?_eq_none (by rw [mxL_len]; omega), List.getElem?_eq_none (by omega)]
theorem mxL_congr {T U : Mx} {h N : Nat} (e : ∀ i j, i < h → j < N → T i j = U i j) : mxL T h N = mxL U h N := by
  unfold mxL
  refine List.map_congr_left fun i hi => List.map_congr_left fun j hj => e i j (List.mem_range.mp hi) (List.mem_range.mp hj)
def InM (M : Int) (A : Mx) (h N : Nat) : Prop := ∀ i j, i < h → j < N → -M ≤ A i j ∧ A i j ≤ M
theorem InM.rws {M : Int} {A B : Mx} {h N : Nat} (a : InM M A h N) (w : Rws A B h) : InM M B h N := fun i j hi hj => by
  obtain ⟨k, hk, e, he, g⟩ := w i hi
  have := a k j hk hj
  rw [g]
  rcases he with rfl | rfl <;> omega
section
variable {A T : Mx} {h N r : Nat} {cs : Nat → Nat} {p M : Int}
theorem El.bound (e : El A T h N r cs p) (hM : 0 ≤ M) (a : InM M A h N) {i j : Nat} (hi : i < h) (hj : j < N) : ∃ n, n ≤ h ∧ -(Fb M n) ≤ T i j ∧ T i j ≤ Fb M n := by
  have rh := e.rh
  by_cases q : i < r
  · refine ⟨r, rh, ?_⟩
    rw [e.ent q hj]
    refine D_abs hM fun x k hx hk => ?_
    by_cases z : k = i
    · rw [z, upc_at]; exact a x j (by omega) hj
    · rw [upc_ne z]; exact a x _ (by omega) (e.cN k hk)
  · refine ⟨r + 1, by omega, ?_⟩
    rw [e.ent2 (by omega) hi hj]
    refine D_abs hM fun x k hx hk => ?_
    have rk : ∀ j, j < N → -M ≤ rowK A r i x j ∧ rowK A r i x j ≤ M := fun j hj => by
      unfold rowK
      exact a _ j (by split <;> omega) hj
    by_cases z : k = r
    · rw [z, upc_at]; exact rk j hj
    · rw [upc_ne z]; exact rk _ (e.cN k (by omega))
theorem El.pbound (e : El A T h N r cs p) (hM : 0 ≤ M) (a : InM M A h N) : -(Fb M r) ≤ p ∧ p ≤ Fb M r := by
  have rh := e.rh
  rw [e.det]
  exact D_abs hM fun x k hx hk => a x _ (by omega) (e.cN k hk)
end
/-- the columns that are no mixture of those ahead, and the rows that tell the others -/
structure Elim (m : List (List Int)) (N : Nat) (T : Mx) (cs : Nat → Nat) (r : Nat) (p : Int) (c : Nat) : Prop where
  at_ : ∃ A, Rws (Lmx m) A m.length ∧ Rws A (Lmx m) m.length ∧ El A T m.length N r cs p ∧ Ec T m.length r cs p c
  cho : Cho (Lmx m) m.length c ((List.range r).map cs)
theorem Elim.start (m : List (List Int)) (N : Nat) : Elim m N (Lmx m) (fun _ => 0) 0 1 0 := ⟨⟨Lmx m, .refl _ _, .refl _ _, El.start _ _ _ _, Ec.start _ _ _⟩, .nil⟩
section
variable {m : List (List Int)} {N r c : Nat} {T : Mx} {cs : Nat → Nat} {p : Int}
theorem Elim.skip (e : Elim m N T cs r p c) (hc : c < N) (z : ∀ i, r ≤ i → i < m.length → T i c = 0) : Elim m N T cs r p (c + 1) :=
  let ⟨A, a, b, x, y⟩ := e.at_
  ⟨⟨A, a, b, x, y.skip z⟩, .skip e.cho (x.isMix b hc z)⟩
theorem Elim.swp (e : Elim m N T cs r p c) {k : Nat} (hk : r < k) (hh : k < m.length) : Elim m N (swp T r k) cs r p c :=
  let ⟨A, a, b, x, y⟩ := e.at_
  ⟨⟨Fc.swp A r k, a.trans (.swp A hk hh), (Rws.swp' A hk hh).trans b, x.swp hk hh, y.swp hk hh⟩, e.cho⟩
theorem places_put (cs : Nat → Nat) (r c : Nat) : (List.range (r + 1)).map (put cs r c) = (List.range r).map cs ++ [c] := by
  rw [List.range_succ, List.map_append]
  congr 1
  · exact List.map_congr_left fun t ht => put_lt (List.mem_range.mp ht)
  · rw [List.map_cons, put_at]; rfl
theorem Elim.next (e : Elim m N T cs r p c) (hr : r < m.length) (hc : c < N) (q0 : T r c ≠ 0) : Elim m N (nextT T r c p) (put cs r c) (r + 1) (T r c) (c + 1) :=
  let ⟨A, a, b, x, y⟩ := e.at_
  ⟨⟨A, a, b, x.next hr hc q0, y.next x.p0 hr q0⟩, by rw [places_put]; exact .take e.cho (x.noMix a hc (Nat.le_refl r) hr q0)⟩
theorem Elim.rm (e : Elim m N T cs r p c) : r ≤ m.length := let ⟨_, _, _, x, _⟩ := e.at_; x.rh
theorem Elim.p0 (e : Elim m N T cs r p c) : p ≠ 0 := let ⟨_, _, _, x, _⟩ := e.at_; x.p0
theorem Elim.bound {M : Int} (e : Elim m N T cs r p c) (hM : 0 ≤ M) (a : InM M (Lmx m) m.length N) {i j : Nat} (hi : i < m.length) (hj : j < N) : ∃ n, n ≤ m.length ∧ -(Fb M n) ≤ T i j ∧ T i j ≤ Fb M n :=
  let ⟨_, w, _, x, _⟩ := e.at_
  x.bound hM (a.rws w) hi hj
theorem Elim.pbound {M : Int} (e : Elim m N T cs r p c) (hM : 0 ≤ M) (a : InM M (Lmx m) m.length N) : -(Fb M r) ≤ p ∧ p ≤ Fb M r :=
  let ⟨_, w, _, x, _⟩ := e.at_
  x.pbound hM (a.rws w)
end
end Fc
set_option Elab.async false
set_option linter.all false
set_option maxRecDepth 100000
set_option maxHeartbeats 4000000
set_option exponentiation.threshold 100000
namespace Fc
open PySem PySem.Spec PyProof.Rows L2 L2H
section
variable {P : Program} {w : World} {K : PySem.W.Frag} {mg : Str → Option Value} {base : Heap} {A : Ad}
/-- a table whose rows are not pl -/
def RowsB (H : Hp) (t pl : Addr) (m : List (List Int)) : Prop := ∃ as : List Addr, H t = some (.lst (as.map V.ref)) ∧ as.length = m.length ∧ (∀ (i : Nat) a r, as[i]? = some a → m[i]? = some r → H a = some (.lst (r.map V.int))) ∧ ∀ a ∈ as, a ≠ pl
theorem RowsB.rows {H : Hp} {t pl : Addr} {m : List (List Int)} (h : RowsB H t pl m) : RowsL H t m := let ⟨as, a, b, c, _⟩ := h; ⟨as, a, b, c⟩
theorem ixN_n {n j : Nat} (h : j < n) : ixN n (j : Int) = some j := by
  have h2 := atI_nat (xs := List.range n) (j := j) (v := j) (List.getElem?_range h)
  unfold atI at h2
  rw [List.length_range] at h2
  cases e : ixN n (j : Int) with
  | none => rw [e] at h2; cases h2
  | some k =>
    rw [e] at h2
    have h3 : (List.range n)[k]? = some j := h2
    obtain ⟨h4, h5⟩ := List.getElem?_eq_some_iff.mp h3
    rw [List.getElem_range] at h5
    rw [h5]
theorem RowsB.row {H : Hp} {t pl : Addr} {T : Mx} {h N i : Nat} (q : RowsB H t pl (mxL T h N)) (hi : i < h) : ∃ b, ∃ as : List Addr, H t = some (.lst (as.map V.ref)) ∧ as[i]? = some b ∧ H b = some (.lst (((List.range N).map (T i)).map V.int)) ∧ b ≠ pl := by
  obtain ⟨as, t1, t2, t3, t4⟩ := q
  have hi2 : i < as.length := by rw [t2, mxL_len]; exact hi
  exact ⟨as[i], as, t1, List.getElem?_eq_getElem hi2, t3 i _ _ (List.getElem?_eq_getElem hi2) (mxL_row hi), t4 _ (List.getElem_mem hi2)⟩
theorem RowsB.swap {H H' : Hp} {t pl G bk : Addr} {as : List Addr} {T : Mx} {h N r k : Nat} (t2 : as.length = (mxL T h N).length) (t3 : ∀ (i : Nat) a r, as[i]? = some a → (mxL T h N)[i]? = some r → H a = some (.lst (r.map V.int))) (t4 : ∀ a ∈ as, a ≠ pl)
    (hr : r < k) (hk : k < h) (hbk : as[k]? = some bk) (hG : H' G = some (.lst ((((List.range N).map (T r)).map fun x => -x).map V.int))) (gp : G ≠ pl) (ht : H' t = some (.lst (((as.set r bk).set k G).map V.ref))) (keep : ∀ a ∈ as, H' a = H a) : RowsB H' t pl (mxL (swp T r k) h N) := by
  rw [mxL_len] at t2
  refine ⟨_, ht, by rw [List.length_set, List.length_set, mxL_len, t2], fun i a q h1 h2 => ?_, fun a ha => ?_⟩
  · have hi : i < h := by have := (List.getElem?_eq_some_iff.mp h2).1; rw [mxL_len] at this; exact this
    rw [mxL_row hi] at h2
    cases h2
    by_cases e1 : i = k
    · subst e1
      rw [List.getElem?_set_self (by rw [List.length_set]; omega)] at h1
      cases h1
      have e : ((List.range N).map (T r)).map (fun x => -x) = (List.range N).map (swp T r i i) := by
        rw [List.map_map]
        exact List.map_congr_left fun j _ => (swp_k T hr j).symm
      rw [hG, e]
    · rw [List.getElem?_set_ne (by omega)] at h1
      by_cases e2 : i = r
      · subst e2
        rw [List.getElem?_set_self (by omega)] at h1
        cases h1
        rw [keep _ (List.mem_of_getElem? hbk), t3 k _ _ hbk (mxL_row hk)]
        congr 3
        exact List.map_congr_left fun j _ => (swp_r T i k j).symm
      · rw [List.getElem?_set_ne (by omega)] at h1
        rw [keep _ (List.mem_of_getElem? h1), t3 i _ _ h1 (mxL_row hi)]
        congr 3
        exact List.map_congr_left fun j _ => (swp_ne e2 e1 j).symm
  · rcases List.mem_or_eq_of_mem_set ha with ha | rfl
    · rcases List.mem_or_eq_of_mem_set ha with ha | rfl
      · exact t4 a ha
      · exact t4 _ (List.mem_of_getElem? hbk)
    · exact gp
theorem clL_row (f g : Nat → Int) (N : Nat) (a b p : Int) : clL ((List.range N).map f) ((List.range N).map g) a b p = (List.range N).map fun j => (a * f j - b * g j).fdiv p := by
  unfold clL
  rw [List.zipWith_map, List.zipWith_self]
def spElim (K : PySem.W.Frag) : Sp := fun vs H Q _ => ∃ (a : Addr) (xs : List V) (m : List (List Int)) (N : Nat) (M : Int), vs = [.ref a, .int N] ∧ MatV K H a xs m ∧ (∀ r ∈ m, r.length = N) ∧ m.length ≤ 64 ∧ N ≤ 64 ∧ 0 ≤ M ∧ InM M (Lmx m) m.length N ∧ (∀ n, n ≤ m.length → Bd 1000 (Fb M n)) ∧
  ∀ T cs r p H' R t pl, Elim m N T cs r p N → Ex H H' → H R = none → H t = none → H pl = none → H' R = some (.tup [.ref t, .ref pl, .int p]) → RowsL H' t (mxL T m.length N) → H' pl = some (.lst (((List.range r).map cs).map fun c : Nat => V.int c)) → Q (.ref R) H'
def ElS (m : List (List Int)) (N : Nat) (H : Hp) (a : Addr) (c : Nat) (sl : L2.St) (H' : Hp) : Prop := ∃ T cs r p t pl o1 o2 o3 o4 o5, Elim m N T cs r p c ∧ sl = [some (.ref a), some (.int (N : Int)), some (.ref t), none, some (.ref pl), some (.int p), o1, o2, o3, o4, none, o5, none] ∧
  Ex H H' ∧ H t = none ∧ H pl = none ∧ RowsB H' t pl (mxL T m.length N) ∧ H' pl = some (.lst (((List.range r).map cs).map fun c : Nat => V.int c)) ∧ t ≠ pl
theorem ok_elim (T : Txt K mg A) : FnOk P w K mg base CX0 2 A.f_elim A.d_elim ["rows", "width"] (spElim K) := by
  refine T.F_elim.ok sc_elim (fun vs H Q E h => ?_) (fun cdv Ar outer s H vs Q E hr h => ?_)
  · obtain ⟨a, xs, m, N, M, rfl, _⟩ := h
    rfl
  · obtain ⟨a, xs, m, N, M, rfl, hm, hN, lm, lN, M0, hM, hF, k⟩ := h
    refine ⟨_, (C8.pss_cut (ps_setLc (i := 2) (own := [("row", 3)]) (g := gName 3) (tt := tYes) rfl sc_elim.nd rfl rfl (sw_true rfl rfl rfl (by decide +kernel)) (pi_seq (pv 0)) (blkOk_by (own := [("row", 3)]) (N := N_elim) (sc := defScope S_elim) (by decide +kernel)) (fun _ _ _ _ _ => pg_name (i := 3) sc_elim.nd rfl (Or.inl rfl)) (fun _ _ _ _ _ => pts_nil) (fun _ _ _ _ _ => (pe_callTy (T := "list") (r := rListOf K) call_listK (by rfl) T.n_list (by decide +kernel) (pa_cons (pv 3) pa_nil))))
      (pss_cons (ps_set (i := 4) sc_elim.nd rfl (Or.inl rfl) (pe_lst pa_nil))
      (pss_cons (ps_set (i := 5) sc_elim.nd rfl (Or.inr rfl) pe_int)
      (pss_cons (ps_for PassesOwn.never rfl (pi_range1 rfl T.n_range (pa_cons (pv 1) pa_nil)) (pg_name (i := 6) sc_elim.nd rfl (Or.inr rfl))
      (pss_cons (ps_set (i := 7) sc_elim.nd rfl (Or.inr rfl) (pe_callB call_len (by rfl) T.n_len PySem.boot_len (pa_cons (pv 4) pa_nil)))
      (C8.pss_cut (ps_set (i := 8) sc_elim.nd rfl (Or.inl rfl) (pe_call (ok_fplace T) (hr.mono (by decide)) rfl T.g_fplace T.F_fplace.kp T.b_fplace .nil pass0 (pa_cons (pv 2) (pa_cons (pv 7) (pa_cons (pv 6) pa_nil)))))
      (C8.pss_cut (ps_if (pt_cmp (pc_isN (pv 8)))
      (pss_one ps_continue) pss_nil)
      (C8.pss_cut (ps_if (pt_cmpR op_gt (pv 8) (pv 7) (nomark _))
      (pss_cons (ps_setLc (i := 9) (own := [("number", 10)]) (g := gName 10) (tt := tYes) rfl sc_elim.nd rfl rfl (sw_true rfl rfl rfl (by decide +kernel)) (pi_list (pe_ix (r := rIxL K) ix_list (pv 2) (pv 7) (fun _ _ => rfl))) (blkOk_by (own := [("number", 10)]) (N := N_elim) (sc := defScope S_elim) (by decide +kernel)) (fun _ _ _ _ _ => pg_name (i := 10) sc_elim.nd rfl (Or.inl rfl)) (fun _ _ _ _ _ => pts_nil) (fun _ _ _ _ _ => (pe_un un_neg (pv 10))))
      (pss_cons (ps_asg (pe_ix ix_list (pv 2) (pv 8) (fun _ _ => rfl)) (pg_sub (pv 2) (pv 7) set_list))
      (pss_one (ps_asg (pv 9) (pg_sub (pv 2) (pv 8) set_list))))) pss_nil)
      (C8.pss_cut (ps_set (i := 11) sc_elim.nd rfl (Or.inr rfl) (pe_ix ix_list (pv 2) (pv 7) (fun _ _ => rfl)))
      (C8.pss_cut (ps_setLc (i := 2) (own := [("k", 12), ("row", 3)]) (g := gTup K 2 (gCons (gName 12) (gCons (gName 3) gNil))) (tt := tYes) rfl sc_elim.nd rfl rfl (sw_true rfl rfl rfl (by decide +kernel)) (pi_enum rfl T.n_enumerate (pa_cons (pv 2) pa_nil)) (blkOk_by (own := [("k", 12), ("row", 3)]) (N := N_elim) (sc := defScope S_elim) (by decide +kernel)) (fun _ _ _ _ _ => pg_tup rfl (pgs_cons (pg_name (i := 12) sc_elim.nd rfl (Or.inl rfl)) (pgs_cons (pg_name (i := 3) sc_elim.nd rfl (Or.inl rfl)) pgs_nil))) (fun _ _ _ _ _ => pts_nil) (fun _ _ _ _ _ => (pe_ifExp (pt_cmpR op_eq (pv 12) (pv 7) (nomark _)) (pv 3) (pe_call (ok_cleared T) (hr.mono (by decide)) rfl T.g_cleared T.F_cleared.kp T.b_cleared .nil pass0 (pa_cons (pv 3) (pa_cons (pv 11) (pa_cons (pv 6) (pa_cons (pv 5) pa_nil))))))))
      (C8.pss_cut (ps_set (i := 5) sc_elim.nd rfl (Or.inr rfl) (pe_ix ix_list (pv 11) (pv 6) (fun _ _ => rfl)))
      (pss_one (ps_expr (pe_bm PySem.F.plainAttrs_list PySem.F.slot_list_append PySem.F.type_list_append mt_append (pv 4) (pa_cons (pv 6) pa_nil))))))))))))
      (pss_one (ps_ret (pe_tup (pa_cons (pv 2) (pa_cons (pv 4) (pa_cons (pv 5) pa_nil)))))))))), ?_⟩
    refine ⟨fun sl H1 => ∃ t, sl = [some (.ref a), some (.int (N : Int)), some (.ref t), none, none, none, none, none, none, none, none, none, none] ∧ Ex H H1 ∧ H t = none ∧ RowsL H1 t m, ?_, ?_⟩
    · refine uAsg (lcS (RowR .lst m) (fun Q q => ⟨_, rfl, q⟩) hm.1 (by rw [hm.2.1]; omega) (fun i v H4 D hi ex4 hD Q4 kq => ?_) (fun D H4 vs hD ex4 h1 h2 h3 => ?_))
      · have hi2 : i < m.length := by have := (List.getElem?_eq_some_iff.mp hi).1; have := hm.2.1; omega
        obtain ⟨b, rfl, hb⟩ := (hm.ex ex4).2.2 i v _ hi (List.getElem?_eq_getElem hi2)
        obtain ⟨oD, hoD⟩ := hD
        refine ⟨rfl, uCB (uCons ⟨_, rfl, b, _, rfl, hb, fun l nl => kq _ _ (Ex.new nl) (RowR.fix (List.getElem?_eq_getElem hi2) upd_same (ne_of_none hoD nl).symm)⟩)⟩
      · obtain ⟨as, rfl, la, ha⟩ := RowR.all (m := m) (by rw [h2, hm.2.1]) h3
        exact ⟨D, rfl, ex4, hD, as, h1, la, ha⟩
    rintro sl H1 ⟨t, rfl, ex1, nt, as, t1, t2, t3⟩
    refine ⟨Nat.zero_le _, fun pl npl => ⟨_, rfl, _, rfl, by omega, by omega, for_range (lo := 0) (n := N) (fun c sl H' => ElS m N H a c sl H') ?_ ?_ ?_⟩⟩
    · have e2 : Ex H1 (upd H1 pl (.lst [])) := Ex.new npl
      refine ⟨Lmx m, fun _ => 0, 0, 1, t, pl, none, none, none, none, none, Elim.start m N, rfl, ex1.trans e2, nt, ex1.free npl, ?_, upd_same, ne_of_none t1 npl⟩
      rw [mxL_Lmx hN]
      exact ⟨as, e2 _ _ t1, t2, fun i b r h1 h2 => e2 _ _ (t3 i b r h1 h2), fun b hb => by
        obtain ⟨i, hi⟩ := List.mem_iff_getElem?.mp hb
        have hi2 : i < m.length := by have := (List.getElem?_eq_some_iff.mp hi).1; omega
        exact ne_of_none (t3 i b _ hi (List.getElem?_eq_getElem hi2)) npl⟩
    · rintro c sl H2 hc ⟨T', cs, r, p, t, pl, o1, o2, o3, o4, o5, el, rfl, ex, nt, npl, rows, hpl, tp⟩
      have e0c : (0 : Int) + (c : Int) = (c : Int) := Int.zero_add _
      have rm := el.rm
      let SL : V → Addr → Option V → Option V → L2.St := fun f t g b => [some (.ref a), some (.int (N : Int)), some (.ref t), none, some (.ref pl), some (.int p), some (.int (c : Int)), some (.int (r : Int)), some f, g, none, b, none]
      refine ⟨_, rfl, _, _, rfl, lenv (.inl (SqL.of hpl)), ?_⟩
      rw [List.length_map, List.length_map, List.length_range, e0c]
      refine ⟨fun sl H' => H' = H2 ∧ ((sl = SL .non t o4 o5 ∧ ∀ i, r ≤ i → i < m.length → T' i c = 0) ∨ ∃ k : Nat, sl = SL (.int k) t o4 o5 ∧ r ≤ k ∧ k < m.length ∧ T' k c ≠ 0), ?_, ?_⟩
      · refine ⟨_, rfl, _, rfl, _, rfl, t, mxL T' m.length N, r, c, rfl, rows.rows, by rw [mxL_len]; omega, by rw [mxL_len]; omega, fun q hq => ?_, fun z => ⟨rfl, .inl ⟨rfl, fun i h1 h2 => ?_⟩⟩, fun k q x h1 h2 h3 h4 _ => ⟨rfl, .inr ⟨k, rfl, h1, ?_, ?_⟩⟩⟩
        · obtain ⟨i, hi, rfl⟩ := List.mem_map.mp hq
          rw [List.length_map, List.length_range]; exact hc
        · have := z i _ h1 (mxL_row h2)
          rw [row_get hc] at this
          exact Option.some.inj this
        · have := (List.getElem?_eq_some_iff.mp h2).1
          rw [mxL_len] at this; exact this
        · have l := (List.getElem?_eq_some_iff.mp h2).1
          rw [mxL_len] at l
          rw [mxL_row l] at h2
          cases h2
          rw [row_get hc] at h3
          rw [Option.some.inj h3]
          exact h4
      rintro sl H3 ⟨rfl, alt⟩
      refine ⟨fun sl H' => H' = H3 ∧ ∃ k : Nat, sl = SL (.int k) t o4 o5 ∧ r ≤ k ∧ k < m.length ∧ T' k c ≠ 0, ?_, ?_⟩
      · rcases alt with ⟨rfl, low⟩ | ⟨k, rfl, h1, h2, h3⟩
        · refine ⟨_, rfl, _, rfl, iteT ?_⟩
          exact ⟨T', cs, r, p, t, pl, _, _, _, _, _, el.skip hc low, rfl, ex, nt, npl, rows, hpl, tp⟩
        · exact ⟨_, rfl, _, rfl, iteF ⟨rfl, k, rfl, h1, h2, h3⟩⟩
      rintro sl H4 ⟨rfl, k, rfl, hrk, hkh, nz⟩
      refine ⟨fun sl H' => ∃ T2 g, sl = SL (.int k) t g o5 ∧ Elim m N T2 cs r p c ∧ T2 r c ≠ 0 ∧ Ex H H' ∧ RowsB H' t pl (mxL T2 m.length N) ∧ H' pl = some (.lst (((List.range r).map cs).map fun c : Nat => V.int c)), ?_, ?_⟩
      · refine ⟨_, rfl, _, rfl, _, _, rfl, rfl, _, rfl, ite2 (fun cc => ?_) (fun cc => ?_)⟩
        · have rk : r < k := by have := of_decide_eq_true cc; omega
          obtain ⟨as, t1, t2, t3, t4⟩ := rows
          have t2' : as.length = m.length := by rw [t2, mxL_len]
          have hr2 : r < as.length := by omega
          have hk2 : k < as.length := by omega
          have row := t3 r _ _ (List.getElem?_eq_getElem hr2) (mxL_row (by omega))
          refine uSeq (uAsg (lcInts (fun n => -n) (fun R => lcL R (fun Q q => ⟨_, rfl, _, rfl, _, _, _, _, rfl, rfl, SqL.of t1, atI_nat (by rw [List.getElem?_map, List.getElem?_eq_getElem hr2]; rfl), q⟩) (SqL.of row) (by rw [List.length_map, List.length_map, List.length_range]; omega)) (fun n H5 _ e5 Q5 q => ⟨rfl, _, rfl, _, rfl, q⟩) (fun G H5 nG e5 hG => ?_)))
          have t5 := e5 _ _ t1
          have tG : t ≠ G := ne_of_none t1 nG
          refine ⟨_, rfl, _, rfl, _, _, _, _, rfl, rfl, SqL.of t5, atI_nat (by rw [List.getElem?_map, List.getElem?_eq_getElem hk2]; rfl), _, rfl, _, rfl, t, _, _, r, rfl, rfl, t5, ixN_n (by rw [List.length_map]; exact hr2), ?_⟩
          refine ⟨_, rfl, _, rfl, _, rfl, t, _, _, k, rfl, rfl, upd_same, ixN_n (by rw [List.length_set, List.length_map]; exact hk2), ?_⟩
          rw [upd_upd]
          have kp : ∀ b ob, H4 b = some ob → b ≠ t → upd H5 t (.lst (((as.map V.ref).set r (.ref as[k])).set k (.ref G))) b = some ob := fun b ob hb ne => by rw [upd_ne ne]; exact e5 _ _ hb
          have at_ : ∀ a ∈ as, a ≠ t := fun a ha z => by
            obtain ⟨i, hi⟩ := List.mem_iff_getElem?.mp ha
            have := t3 i a _ hi (mxL_row (by have := (List.getElem?_eq_some_iff.mp hi).1; omega))
            rw [z, t1] at this
            have q0 := congrArg (fun l => l[0]?) (HO.lst.inj (Option.some.inj this))
            simp only [List.getElem?_map] at q0
            rw [List.getElem?_eq_getElem (show 0 < as.length by omega), List.getElem?_range (show 0 < N by omega)] at q0
            cases q0
          refine ⟨swp T' r k, _, rfl, el.swp rk hkh, by rw [swp_r]; exact nz, fun b ob hb => kp b ob (ex _ _ hb) (ne_of_none hb nt), ?_, kp _ _ hpl tp.symm⟩
          refine RowsB.swap (H := H4) t2 t3 t4 rk hkh (List.getElem?_eq_getElem hk2) (by rw [upd_ne tG.symm]; exact hG) (ne_of_none hpl nG).symm (by rw [upd_same, List.map_set, List.map_set]) fun a ha => ?_
          obtain ⟨i, hi⟩ := List.mem_iff_getElem?.mp ha
          have hi2 : i < m.length := by have := (List.getElem?_eq_some_iff.mp hi).1; omega
          have q := t3 i a _ hi (mxL_row hi2)
          rw [kp _ _ q (at_ a ha), q]
        · have : k = r := by have := of_decide_eq_false (by simpa using cc) (p := (r : Int) < k); omega
          subst this
          exact ⟨T', o4, rfl, el, nz, ex, rows, hpl⟩
      rintro sl H5 ⟨T2, g, rfl, el2, nz2, ex5, rows5, hpl5⟩
      have hrm : r < m.length := by omega
      refine ⟨fun sl H' => ∃ b, sl = SL (.int k) t g (some (.ref b)) ∧ H' = H5 ∧ H5 b = some (.lst (((List.range N).map (T2 r)).map V.int)), ?_, ?_⟩
      · obtain ⟨b, as, q1, q2, q3, q4⟩ := rows5.row hrm
        exact ⟨_, rfl, _, rfl, _, _, _, _, rfl, rfl, SqL.of q1, atI_nat (by rw [List.getElem?_map, q2]; rfl), b, rfl, rfl, q3⟩
      rintro sl H6 ⟨b, rfl, rfl, hb⟩
      have bT : ∀ {i j}, i < m.length → j < N → Bd 1000 (T2 i j) := fun hi hj => by
        obtain ⟨n, l, x, y⟩ := el2.bound M0 hM hi hj
        exact bd_le (hF n l) x y
      have bp : Bd 1000 p := bd_le (hF r (by omega)) (el2.pbound M0 hM).1 (el2.pbound M0 hM).2
      have rows6 := rows5
      obtain ⟨as, t1, t2, t3, t4⟩ := rows5
      have t2' : as.length = m.length := by rw [t2, mxL_len]
      refine ⟨fun sl H' => ∃ D, sl = SL (.int k) D g (some (.ref b)) ∧ Ex H6 H' ∧ H6 D = none ∧ RowsB H' D pl (mxL (nextT T2 r c p) m.length N), ?_, ?_⟩
      · refine uAsg (lcE (fun i v H' => ∃ b r', v = V.ref b ∧ (mxL (nextT T2 r c p) m.length N)[i]? = some r' ∧ H' b = some (.lst (r'.map V.int)) ∧ b ≠ pl) (fun Q q => ⟨_, rfl, q⟩) (SqL.of t1) (by rw [List.length_map]; omega) (fun i x H' D U hx nD0 nU ex7 ex8 hD Q4 kq => ?_) (fun D H' vs hD ex7 h1 h2 h3 => ?_))
        · rw [List.getElem?_map] at hx
          obtain ⟨d, hd, rfl⟩ := Option.map_eq_some_iff.mp hx
          have hi : i < m.length := by have := (List.getElem?_eq_some_iff.mp hd).1; omega
          obtain ⟨oD, hoD⟩ := hD
          have hrow := ex8 _ _ (t3 i d _ hd (mxL_row hi))
          have hbU := ex8 _ _ hb
          have hplU := ex8 _ _ hpl5
          refine ⟨U, _, rfl, SqT.of upd_same, rfl, _, _, rfl, _, _, rfl, rfl, rfl, ?_⟩
          refine ⟨_, rfl, _, rfl, rfl, _, rfl, ?_⟩
          have dD : d ≠ D := ne_of_none (t3 i d _ hd (mxL_row hi)) nD0
          by_cases q : i = r
          · subst q
            rw [decide_eq_true rfl]
            refine iteT ⟨_, rfl, kq _ _ (fun _ _ h => h) fun H9 k9 => ⟨d, _, rfl, mxL_row hi, ?_, t4 d (List.mem_of_getElem? hd)⟩⟩
            rw [k9 d _ hrow dD]
            congr 3
            exact List.map_congr_left fun j _ => by unfold nextT; rw [if_pos rfl]
          · rw [decide_eq_false (fun z => q (by have := V.int.inj z; omega))]
            refine iteF ⟨_, rfl, _, rfl, _, rfl, _, rfl, d, b, (List.range N).map (T2 i), (List.range N).map (T2 r), c, p, T2 r c, T2 i c, rfl, by rw [List.length_map, List.length_map], by rw [List.length_map, List.length_range]; omega, hrow, hbU, row_get hc, row_get hc, fun x hx => ?_, fun x hx => ?_, bp, el2.p0, fun R H9 nR e9 hR => kq _ _ e9 fun H10 k10 => ⟨R, _, rfl, mxL_row hi, ?_, (ne_of_none hplU nR).symm⟩⟩
            · obtain ⟨j, hj, rfl⟩ := List.mem_map.mp hx
              exact bT hi (List.mem_range.mp hj)
            · obtain ⟨j, hj, rfl⟩ := List.mem_map.mp hx
              exact bT hrm (List.mem_range.mp hj)
            · rw [k10 R _ hR (ne_of_none hoD nR).symm, clL_row]
              congr 3
              exact List.map_congr_left fun j _ => by unfold nextT num; rw [if_neg q]
        · rw [List.length_map] at h2
          obtain ⟨bs, rfl⟩ := refs_of fun i v e => (h3 i v e).imp fun b q => q.choose_spec.1
          rw [List.length_map] at h2
          refine ⟨D, rfl, ex7, hD, bs, h1, by rw [h2, t2', mxL_len], fun i a r' e1 e2 => ?_, fun a ha => ?_⟩
          · obtain ⟨b', r2, g1, g2, g3, g4⟩ := h3 i (.ref a) (by rw [List.getElem?_map, e1]; rfl)
            cases g1
            rw [e2] at g2
            cases g2
            exact g3
          · obtain ⟨i, hi⟩ := List.mem_iff_getElem?.mp ha
            obtain ⟨b', r2, g1, g2, g3, g4⟩ := h3 i (.ref a) (by rw [List.getElem?_map, hi]; rfl)
            cases g1
            exact g4
      rintro sl H7 ⟨D, rfl, ex7, nD, rows7⟩
      let SP : L2.St := [some (.ref a), some (.int (N : Int)), some (.ref D), none, some (.ref pl), some (.int (T2 r c)), some (.int (c : Int)), some (.int (r : Int)), some (.int (k : Int)), g, none, some (.ref b), none]
      have hpl7 := ex7 _ _ hpl5
      refine ⟨fun sl H' => sl = SP ∧ H' = H7, ⟨_, rfl, _, rfl, _, _, _, _, rfl, rfl, SqL.of (ex7 _ _ hb), atI_nat (by rw [List.getElem?_map, row_get hc]; rfl), rfl, rfl⟩, ?_⟩
      rintro sl H8 ⟨rfl, rfl⟩
      obtain ⟨bs, r1, r2, r3, r4⟩ := rows7
      have nDp : D ≠ pl := (ne_of_none hpl5 nD).symm
      refine ⟨_, rfl, .inl ⟨rfl, _, SqL.of hpl7⟩, _, rfl, pl, _, _, rfl, rfl, hpl7, by rw [List.length_map, List.length_map, List.length_range, sizeLine_eq]; omega, ?_⟩
      refine ⟨_, _, _, _, D, pl, _, _, _, _, _, el2.next hrm hc nz2, rfl, fun x o h => ?_, ex5.free nD, npl, ⟨bs, by rw [upd_ne nDp]; exact r1, r2, fun i x q e1 e2 => by rw [upd_ne (r4 x (List.mem_of_getElem? e1))]; exact r3 i x q e1 e2, r4⟩, ?_, nDp⟩
      · rw [upd_ne (ne_of_none h npl)]
        exact ex7 _ _ (ex5 _ _ h)
      · rw [upd_same, places_put, List.map_append]
        rfl
    · rintro sl H2 ⟨T', cs, r, p, t, pl, o1, o2, o3, o4, o5, el, rfl, ex, nt, npl, rows, hpl, tp⟩
      refine ⟨_, rfl, _, rfl, _, rfl, (by show 3 ≤ sizeLine; rw [sizeLine_eq]; omega), fun R nR => ?_⟩
      have e2 : Ex H2 (upd H2 R (.tup [.ref t, .ref pl, .int p])) := Ex.new nR
      exact k T' cs r p _ R t pl el (ex.trans e2) (ex.free nR) nt npl upd_same (rows.rows.ex e2) (e2 _ _ hpl)
end
end Fc
set_option Elab.async false
set_option linter.all false
set_option maxRecDepth 100000
set_option maxHeartbeats 4000000
set_option exponentiation.threshold 100000
namespace Fc
open PySem PySem.Spec PyProof.Rows L2 L2H
/-- what a table must keep for its elimination to be read -/
structure GOk (m : List (List Int)) (M : Int) : Prop where
  r : ∀ r ∈ m, r.length = wideOf m
  h : m.length ≤ 64
  w : wideOf m ≤ 64
  m0 : 0 ≤ M
  b : InM M (Lmx m) m.length (wideOf m)
  f : ∀ n, n ≤ m.length → Bd 1000 (Fb M n)
section
variable {P : Program} {w : World} {K : PySem.W.Frag} {mg : Str → Option Value} {base : Heap} {A : Ad}
def spErrP (A : Ad) : Sp := fun vs H Q E => (∃ a v, vs = [.ref a, v] ∧ ((∃ n, v = .int n) ∨ ∃ t xs, v = .ref t ∧ H t = some (.tup xs))) ∧ spErr1 A.P "place" vs H Q E
theorem ok_bpl (T : Txt K mg A) : FnOk P w K mg base CX0 1 A.f_bpl A.d_bpl ["self", "place"] (spErrP A) := by
  refine T.F_bpl.ok sc_bpl (fun vs H Q E h => ?_) (fun cdv Ar outer s H vs Q E hr h => ?_)
  · obtain ⟨_, a, v, rfl, _⟩ := h
    rfl
  · obtain ⟨⟨a', v', e', cv⟩, a, v, rfl, ha, k⟩ := h
    cases e'
    refine ⟨_, (pss_one (ps_ost (pv 0) (pe_ifExp (pt_val (pe_callB call_isi (by rfl) T.n_isinstance (by decide +kernel) (pa_cons (pv 1) (pa_cons (pe_bltn (v := .ty "list") rfl T.n_list (by decide +kernel) rfl) pa_nil)))) (pe_callTy call_tuple_of (by rfl) T.n_tuple (by decide +kernel) (pa_cons (pv 1) pa_nil)) (pv 1)))), ?_⟩
    have fin : ∀ d : Addr, H d = none → d ≠ a' → Q .non (upd (upd H d (exd d [("place", v')])) a' (exo a' A.P (some d))) := fun d hd hn =>
      k d _ hd hn upd_same (by rw [upd_ne hn, upd_same]) fun c o e ne => by rw [upd_ne ne, upd_ne (ne_of_none e hd)]; exact e
    rcases cv with ⟨n, rfl⟩ | ⟨t, xs, rfl, ht⟩
    · exact ⟨_, rfl, _, .ty "list", _, _, false, rfl, .ty _, .base (.int n), kit_ty (by decide +kernel), _, rfl, iteF ⟨_, rfl, _, rfl, a', A.P, rfl, T.o_P, T.n_P_place, .inl ⟨ha, fin⟩⟩⟩
    · exact ⟨_, rfl, _, .ty "list", _, _, false, rfl, .ty _, .base (.tup ht), kit_ty (by decide +kernel), _, rfl, iteF ⟨_, rfl, _, rfl, a', A.P, rfl, T.o_P, T.n_P_place, .inl ⟨ha, fin⟩⟩⟩
theorem rd_errP {A : Ad} {v : V} {H : Hp} {Q : XK} {E : XK} (cv : (∃ n, v = .int n) ∨ ∃ t xs, v = .ref t ∧ H t = some (.tup xs)) (k : ∀ d H', Ex H H' → H' d = some (.xd [("place", v)]) → Q (.ref A.P) (some d) H') :
    ([v] : List V).length ≤ 1000 ∧ ∀ a, H a = none → spErrP A (.ref a :: ([v] ++ [])) (upd H a (exo a A.P none))
      (fun u H2 => u = .non ∧ ∃ (d : Addr) (fs : List (Str × V)), H2 a = some (exo a A.P (some d)) ∧ H2 d = some (exd d fs) ∧ H d = none ∧ Q (.ref A.P) (some d) (upd (del H2 a) d (.xd fs))) E := by
  obtain ⟨h1, h2⟩ := rd_err1 (C := A.P) (f := "place") (v := v) (E := E) k
  refine ⟨h1, fun a na => ⟨⟨a, v, rfl, ?_⟩, h2 a na⟩⟩
  rcases cv with ⟨n, rfl⟩ | ⟨t, xs, rfl, ht⟩
  · exact .inl ⟨n, rfl⟩
  · exact .inr ⟨t, xs, rfl, by rw [upd_ne (ne_of_none ht na)]; exact ht⟩
def spIndep (A : Ad) : Sp := fun vs H Q _ => ∃ (g : Addr) (m : List (List Int)) (o M : Int), vs = [.ref g] ∧ GridAt A H g m o ∧ GOk m M ∧ ∀ ps H' L, Cho (Lmx m) m.length (wideOf m) ps → Ex H H' → H L = none → H' L = some (.lst (ps.map fun c : Nat => V.int c)) → Q (.ref L) H'
theorem ok_indep (T : Txt K mg A) : FnOk P w K mg base CX0 3 A.f_indep A.d_indep ["grid"] (spIndep A) := by
  refine T.F_indep.ok sc_indep (fun vs H Q E h => ?_) (fun cdv Ar outer s H vs Q E hr h => ?_)
  · obtain ⟨g, m, o, M, rfl, _⟩ := h
    rfl
  · obtain ⟨g, m, o, M, rfl, ⟨dx, R, hg, hR⟩, ok, k⟩ := h
    obtain ⟨xs, hm⟩ := hR.matv (K := K)
    refine ⟨_, (pss_one (ps_ret (pe_ix ix_tup (pe_call (ok_elim T) (hr.mono (by decide)) rfl T.g_elim T.F_elim.kp T.b_elim .nil pass0 (pa_cons (pe_fld (pv 0) rfl) (pa_cons (pe_fld (pv 0) rfl) pa_nil))) pe_int (fun _ _ => rfl)))), ?_⟩
    refine ⟨_, rfl, _, _, _, _, _, rfl, hg, T.c_Gr, T.na_Gr_rows, zip_get (i := 0) GN_nd rfl rfl, _, rfl, _, _, _, _, _, rfl, hg, T.c_Gr, T.na_Gr_width, zip_get (i := 3) GN_nd rfl rfl, R, xs, m, wideOf m, M, rfl, hm, ok.r, ok.h, ok.w, ok.m0, ok.b, ok.f, fun T' cs r p H' B t pl el ex nB nt npl hB ht hpl => ?_⟩
    exact ⟨_, _, _, _, rfl, rfl, SqT.of hB, atI_nat (j := 1) rfl, k _ H' pl el.cho ex npl hpl⟩
def spRank (A : Ad) : Sp := fun vs H Q _ => ∃ (g : Addr) (m : List (List Int)) (o M : Int), vs = [.ref g] ∧ GridAt A H g m o ∧ GOk m M ∧ ∀ ps H', Cho (Lmx m) m.length (wideOf m) ps → Ex H H' → Q (.int (ps.length : Nat)) H'
theorem ok_rank (T : Txt K mg A) : FnOk P w K mg base CX0 4 A.f_rank A.d_rank ["grid"] (spRank A) := by
  refine T.F_rank.ok sc_rank (fun vs H Q E h => ?_) (fun cdv Ar outer s H vs Q E hr h => ?_)
  · obtain ⟨g, m, o, M, rfl, _⟩ := h
    rfl
  · obtain ⟨g, m, o, M, rfl, hg, ok, k⟩ := h
    refine ⟨_, (pss_one (ps_ret (pe_callB call_len (by rfl) T.n_len PySem.boot_len (pa_cons (pe_call (ok_indep T) (hr.mono (by decide)) rfl T.g_indep T.F_indep.kp T.b_indep .nil pass0 (pa_cons (pv 0) pa_nil)) pa_nil)))), ?_⟩
    refine ⟨_, rfl, g, m, o, M, rfl, hg, ok, fun ps H' L ch ex nL hL => ⟨_, _, rfl, lenv (.inl (SqL.of hL)), ?_⟩⟩
    rw [List.length_map]
    exact k ps H' ch ex
def spMix (A : Ad) : Sp := fun vs H Q E => ∃ (g : Addr) (m : List (List Int)) (o M c : Int), vs = [.ref g, .int c] ∧ GridAt A H g m o ∧ GOk m M ∧
  (¬ (0 ≤ c ∧ c < wideOf m) → ∀ d H', Ex H H' → H' d = some (.xd [("place", .int c)]) → E (.ref A.P) (some d) H') ∧
  (0 ≤ c → c < wideOf m → ∀ (T : Mx) cs r p H' L (as : List Addr), Elim m (wideOf m) T cs r p (wideOf m) → Ex H H' → H L = none → H' L = some (.lst (as.map V.ref)) → as.length = r → (∀ (i : Nat) a, as[i]? = some a → RatAt A.C H' a (lo (T i c.toNat) p)) → Q (.ref L) H')
theorem ok_mixture (T : Txt K mg A) : FnOk P w K mg base (L2N.CX P w) 5 A.f_mixture A.d_mixture ["grid", "column"] (spMix A) := by
  refine fun_okN T.F_mixture sc_mixture (fun vs H Q E h => ?_) (fun cdv Ar outer s H vs Q E hr h => ?_)
  · obtain ⟨g, m, o, M, c, rfl, _⟩ := h
    rfl
  · obtain ⟨g, m, o, M, c, rfl, ⟨dx, R, hg, hR⟩, ok, kb, k⟩ := h
    obtain ⟨xs, hm⟩ := hR.matv (K := K)
    refine ⟨_, (C8.pss_cut (ps_if (pt_not (pt_chain op_le op_lt pe_int (pv 1) (pe_fld (pv 0) rfl)))
      (pss_one (L2N.ps_raise rfl (L2N.takes_of rfl rfl rfl rfl) (pmk_oexN T.o_P T.in_P T.ti_P (ok_bpl T) (hr.mono (by decide)) T.b_bpl passF rfl T.g_P (pa_cons (pv 1) pa_nil)))) pss_nil)
      (C8.pss_cut (ps_asg (pe_call (ok_elim T) (hr.mono (by decide)) rfl T.g_elim T.F_elim.kp T.b_elim .nil pass0 (pa_cons (pe_fld (pv 0) rfl) (pa_cons (pe_fld (pv 0) rfl) pa_nil))) (pg_tup rfl (pgs_cons (pg_name (i := 2) sc_mixture.nd rfl (Or.inr rfl)) (pgs_cons (pg_name (i := 3) sc_mixture.nd rfl (Or.inl rfl)) (pgs_cons (pg_name (i := 4) sc_mixture.nd rfl (Or.inr rfl)) pgs_nil)))))
      (pss_one (ps_ret (pe_lc (own := [("k", 5)]) (g := gName 5) (tt := tYes) rfl sc_mixture.nd (pi_range1 rfl T.n_range (pa_cons (pe_callB call_len (by rfl) T.n_len PySem.boot_len (pa_cons (pv 3) pa_nil)) pa_nil)) (blkOk_by (own := [("k", 5)]) (N := N_mixture) (sc := defScope S_mixture) (by decide +kernel)) (fun _ _ _ _ _ => pg_name (i := 5) sc_mixture.nd rfl (Or.inl rfl)) (fun _ _ _ _ _ => pts_nil) (fun _ _ _ _ _ => (pe_make T.mkC (ok_init T) (hr.mono (by decide)) rfl T.g_Ratio T.b_init3 .nil passL (pa_cons (pe_ix (r := rIxL K) ix_list (pe_ix (r := rIxL K) ix_list (pv 2) (pv 5) (fun _ _ => rfl)) (pv 1) (fun _ _ => rfl)) (pa_cons (pv 4) pa_nil))))))))), ?_⟩
    refine ⟨fun sl H' => sl = [some (.ref g), some (.int c), none, none, none, none] ∧ H' = H ∧ 0 ≤ c ∧ c < wideOf m, ?_, ?_⟩
    · refine ⟨_, rfl, _, _, rfl, rfl, _, rfl, ite2 (fun z => ⟨_, rfl, _, _, _, _, _, rfl, hg, T.c_Gr, T.na_Gr_width, zip_get (i := 3) GN_nd rfl rfl, _, _, rfl, rfl, _, rfl, ?_⟩) (fun z => ⟨_, rfl, iteT ⟨_, rfl, rd_errP (.inl ⟨_, rfl⟩) fun d H' e hd => kb (fun q => z (decide_eq_true q.1)) d H' e hd⟩⟩)⟩
      have c0 : 0 ≤ c := of_decide_eq_true z
      by_cases c1 : c < wideOf m
      · rw [decide_eq_true c1]
        exact iteF ⟨rfl, rfl, c0, c1⟩
      · rw [decide_eq_false c1]
        exact iteT ⟨_, rfl, rd_errP (.inl ⟨_, rfl⟩) fun d H' e hd => kb (fun q => c1 q.2) d H' e hd⟩
    rintro sl H1 ⟨rfl, rfl, c0, c1⟩
    refine ⟨fun sl H' => ∃ T' cs r p t pl, Elim m (wideOf m) T' cs r p (wideOf m) ∧ Ex H1 H' ∧ sl = [some (.ref g), some (.int c), some (.ref t), some (.ref pl), some (.int p), none] ∧ RowsL H' t (mxL T' m.length (wideOf m)) ∧ H' pl = some (.lst (((List.range r).map cs).map fun c : Nat => V.int c)), ?_, ?_⟩
    · refine ⟨_, rfl, _, _, _, _, _, rfl, hg, T.c_Gr, T.na_Gr_rows, zip_get (i := 0) GN_nd rfl rfl, _, rfl, _, _, _, _, _, rfl, hg, T.c_Gr, T.na_Gr_width, zip_get (i := 3) GN_nd rfl rfl, R, xs, m, wideOf m, M, rfl, hm, ok.r, ok.h, ok.w, ok.m0, ok.b, ok.f, fun T' cs r p H' B t pl el ex nB nt npl hB ht hpl => ?_⟩
      exact ⟨B, _, rfl, SqT.of hB, rfl, _, _, rfl, _, _, rfl, _, _, rfl, rfl, T', cs, r, p, t, pl, el, ex, rfl, ht, hpl⟩
    rintro sl H2 ⟨T', cs, r, p, t, pl, el, ex, rfl, ⟨as, t1, t2, t3⟩, hpl⟩
    have rm := el.rm
    have lm := ok.h
    rw [mxL_len] at t2
    have bp : Bd 8900 p := (bd_le (ok.f r rm) (el.pbound ok.m0 ok.b).1 (el.pbound ok.m0 ok.b).2).mono (by decide)
    have hlen : (((List.range r).map cs).map fun c : Nat => V.int c).length = r := by rw [List.length_map, List.length_map, List.length_range]
    refine uRet (lcR (lo := 0) (n := r) (fun i v H' => ∃ a, v = V.ref a ∧ RatAt A.C H' a (lo (T' i c.toNat) p)) (by omega) (fun P h => ⟨_, rfl, _, _, rfl, lenv (.inl (SqL.of hpl)), _, rfl, by rw [hlen]; omega, by rw [hlen]; omega, by rw [hlen]; exact h⟩) (fun i H3 D hi ex3 hD Q2 kq => ?_) (fun D H3 vs nD ex3 e1 e2 e3 => ?_))
    · have hj0 : (0 : Int) + (i : Int) = (i : Int) := by omega
      rw [hj0]
      have hi2 : i < as.length := by omega
      have hrow := ex3 _ _ (t3 i _ _ (List.getElem?_eq_getElem hi2) (mxL_row (by omega)))
      have ec : c = (c.toNat : Int) := by omega
      refine ⟨rfl, _, rfl, _, rfl, _, _, _, _, rfl, rfl, SqL.of (ex3 _ _ t1), atI_nat (by rw [List.getElem?_map, List.getElem?_eq_getElem hi2]; rfl), _, rfl, _, _, _, _, rfl, rfl, SqL.of hrow, by rw [ec]; exact atI_nat (by rw [List.getElem?_map, row_get (by omega)]; rfl), _, rfl, ?_⟩
      obtain ⟨oD, hoD⟩ := hD
      exact rd_make el.p0 bp fun x H4 e4 nx rx => kq _ _ e4 fun H5 k5 => ⟨x, rfl, let ⟨dx, hx⟩ := rx; ⟨dx, k5 x _ hx (ne_of_none hoD nx).symm⟩⟩
    · obtain ⟨bs, rfl⟩ := refs_of fun i v e => (e3 i v e).imp fun b q => q.1
      rw [List.length_map] at e2
      refine k c0 c1 T' cs r p H3 D bs el (ex.trans ex3) (ex.free nD) e1 e2 fun i a ha => ?_
      obtain ⟨b, q1, q2⟩ := e3 i (.ref a) (by rw [List.getElem?_map, ha]; rfl)
      cases q1
      exact q2
end
end Fc
set_option Elab.async false
set_option linter.all false
set_option maxRecDepth 100000
set_option maxHeartbeats 4000000
set_option exponentiation.threshold 100000
namespace Fc
open PySem PySem.Spec PyProof.Rows L2 L2H
section
variable {P : Program} {w : World} {K : PySem.W.Frag} {mg : Str → Option Value} {base : Heap} {A : Ad}
/-! ### the law's sums and its elimination -/
def moreL (x y : List Int) (t : Int) : List Int := (List.range x.length).map fun i => x.getD i 0 + t * y.getD i 0
theorem getD_some {x : List Int} {i : Nat} (h : i < x.length) : x[i]? = some (x.getD i 0) := by
  rw [List.getD_eq_getElem?_getD, List.getElem?_eq_getElem h]
  rfl
def spMore : Sp := fun vs H Q _ => ∃ (a b : Addr) (x y : List Int) (t : Int), vs = [.ref a, .ref b, .int t] ∧ H a = some (.lst (x.map V.int)) ∧ H b = some (.lst (y.map V.int)) ∧ x.length = y.length ∧ x.length ≤ 1000 ∧ Bd 10 t ∧ (∀ z ∈ y, Bd 5000 z) ∧
  ∀ D H', Ex H H' → H D = none → H' D = some (.lst ((moreL x y t).map V.int)) → Q (.ref D) H'
theorem ok_more (T : Txt K mg A) : FnOk P w K mg base CX0 1 A.f_more A.d_more ["x", "y", "times"] spMore := by
  refine T.F_more.ok sc_more (fun vs H Q E h => ?_) (fun cdv Ar outer s H vs Q E hr h => ?_)
  · obtain ⟨a, b, x, y, t, rfl, _⟩ := h
    rfl
  · obtain ⟨a, b, x, y, t, rfl, ha, hb, el, lx, bt, by_, k⟩ := h
    refine ⟨_, (pss_one (ps_ret (pe_lc (own := [("i", 3)]) (g := gName 3) (tt := tYes) rfl sc_more.nd (pi_range1 rfl T.n_range (pa_cons (pe_callB call_len (by rfl) T.n_len PySem.boot_len (pa_cons (pv 0) pa_nil)) pa_nil)) (blkOk_by (own := [("i", 3)]) (N := N_more) (sc := defScope S_more) (by decide +kernel)) (fun _ _ _ _ _ => pg_name (i := 3) sc_more.nd rfl (Or.inl rfl)) (fun _ _ _ _ _ => pts_nil) (fun _ _ _ _ _ => (pe_op op_add (pe_ix (r := rIxL K) ix_list (pv 0) (pv 3) (fun _ _ => rfl)) (pe_op op_mulW (pv 2) (pe_ix (r := rIxL K) ix_list (pv 1) (pv 3) (fun _ _ => rfl)))))))), ?_⟩
    refine uRet (lcR (lo := 0) (n := x.length) (fun i v H' => v = V.int (x.getD i 0 + t * y.getD i 0)) (by omega) (fun P h => ⟨_, rfl, _, _, rfl, lenv (.inl (SqL.of ha)), _, rfl, by rw [List.length_map]; omega, by rw [List.length_map]; omega, by rw [List.length_map]; exact h⟩) (fun i H3 D hi ex3 hD Q2 kq => ?_) (fun D H3 vs nD ex3 e1 e2 e3 => ?_))
    · have hj0 : (0 : Int) + (i : Int) = (i : Int) := by omega
      rw [hj0]
      have ax := getD_some hi
      have ay := getD_some (x := y) (i := i) (by omega)
      exact ⟨rfl, _, rfl, _, rfl, _, _, _, _, rfl, rfl, SqL.of (ex3 _ _ ha), atI_nat (by rw [List.getElem?_map, ax]; rfl), _, rfl, _, rfl, _, rfl, _, _, _, _, rfl, rfl, SqL.of (ex3 _ _ hb), atI_nat (by rw [List.getElem?_map, ay]; rfl), _, _, rfl, rfl, bt.w (by_ _ (List.mem_of_getElem? ay)), _, _, rfl, rfl, kq _ _ (fun _ _ h => h) fun _ _ => rfl⟩
    · refine k D H3 ex3 nD ?_
      rw [e1, vals_int e2 e3]
      rfl
def lclL (x y : List Int) (at' : Nat) : List Int := (List.range x.length).map fun i => x.getD i 0 * y.getD at' 0 - y.getD i 0 * x.getD at' 0
def spLcleared : Sp := fun vs H Q _ => ∃ (a b : Addr) (x y : List Int) (t : Nat), vs = [.ref a, .ref b, .int t] ∧ H a = some (.lst (x.map V.int)) ∧ H b = some (.lst (y.map V.int)) ∧ x.length = y.length ∧ x.length ≤ 1000 ∧ t < x.length ∧ (∀ z ∈ x, Bd 5000 z) ∧ (∀ z ∈ y, Bd 5000 z) ∧
  ∀ D H', Ex H H' → H D = none → H' D = some (.lst ((lclL x y t).map V.int)) → Q (.ref D) H'
theorem ok_lcleared (T : Txt K mg A) : FnOk P w K mg base CX0 1 A.f_lcleared A.d_lcleared ["x", "y", "at"] spLcleared := by
  refine T.F_lcleared.ok sc_lcleared (fun vs H Q E h => ?_) (fun cdv Ar outer s H vs Q E hr h => ?_)
  · obtain ⟨a, b, x, y, t, rfl, _⟩ := h
    rfl
  · obtain ⟨a, b, x, y, t, rfl, ha, hb, el, lx, lt, bx, by_, k⟩ := h
    refine ⟨_, (pss_cons (ps_set (i := 3) sc_lcleared.nd rfl (Or.inr rfl) (pe_ix ix_list (pv 1) (pv 2) (fun _ _ => rfl)))
      (pss_cons (ps_set (i := 4) sc_lcleared.nd rfl (Or.inr rfl) (pe_ix ix_list (pv 0) (pv 2) (fun _ _ => rfl)))
      (pss_one (ps_ret (pe_lc (own := [("i", 5)]) (g := gName 5) (tt := tYes) rfl sc_lcleared.nd (pi_range1 rfl T.n_range (pa_cons (pe_callB call_len (by rfl) T.n_len PySem.boot_len (pa_cons (pv 0) pa_nil)) pa_nil)) (blkOk_by (own := [("i", 5)]) (N := N_lcleared) (sc := defScope S_lcleared) (by decide +kernel)) (fun _ _ _ _ _ => pg_name (i := 5) sc_lcleared.nd rfl (Or.inl rfl)) (fun _ _ _ _ _ => pts_nil) (fun _ _ _ _ _ => (pe_op op_sub (pe_op op_mulW (pe_ix (r := rIxL K) ix_list (pv 0) (pv 5) (fun _ _ => rfl)) (pv 3)) (pe_op op_mulW (pe_ix (r := rIxL K) ix_list (pv 1) (pv 5) (fun _ _ => rfl)) (pv 4))))))))), ?_⟩
    have atx := getD_some lt
    have aty := getD_some (x := y) (i := t) (by omega)
    refine ⟨_, rfl, _, rfl, _, _, _, _, rfl, rfl, SqL.of hb, atI_nat (by rw [List.getElem?_map, aty]; rfl), ?_⟩
    refine ⟨_, rfl, _, rfl, _, _, _, _, rfl, rfl, SqL.of ha, atI_nat (by rw [List.getElem?_map, atx]; rfl), ?_⟩
    dsimp only [gName]
    refine uRet (lcR (lo := 0) (n := x.length) (fun i v H' => v = V.int (x.getD i 0 * y.getD t 0 - y.getD i 0 * x.getD t 0)) (by omega) (fun P h => ⟨_, rfl, _, _, rfl, lenv (.inl (SqL.of ha)), _, rfl, by rw [List.length_map]; omega, by rw [List.length_map]; omega, by rw [List.length_map]; exact h⟩) (fun i H3 D hi ex3 hD Q2 kq => ?_) (fun D H3 vs nD ex3 e1 e2 e3 => ?_))
    · have hj0 : (0 : Int) + (i : Int) = (i : Int) := by omega
      rw [hj0]
      have ax := getD_some hi
      have ay := getD_some (x := y) (i := i) (by omega)
      exact ⟨rfl, _, rfl, _, rfl, _, _, _, _, rfl, rfl, SqL.of (ex3 _ _ ha), atI_nat (by rw [List.getElem?_map, ax]; rfl), _, rfl, _, _, rfl, rfl, (bx _ (List.mem_of_getElem? ax)).w (by_ _ (List.mem_of_getElem? aty)), _, rfl, _, rfl, _, _, _, _, rfl, rfl, SqL.of (ex3 _ _ hb), atI_nat (by rw [List.getElem?_map, ay]; rfl), _, rfl, _, _, rfl, rfl, (by_ _ (List.mem_of_getElem? ay)).w (bx _ (List.mem_of_getElem? atx)), _, _, rfl, rfl, kq _ _ (fun _ _ h => h) fun _ _ => rfl⟩
    · refine k D H3 ex3 nD ?_
      rw [e1, vals_int e2 e3]
      rfl
end
end Fc
set_option Elab.async false
set_option linter.all false
set_option maxRecDepth 100000
set_option maxHeartbeats 4000000
set_option exponentiation.threshold 100000
namespace Fc
open PySem PySem.Spec PyProof.Rows L2 L2H
theorem eqvI : ∀ r s : List Int, PyData.eqvAll (r.map PyData.int) (s.map PyData.int) = decide (r = s)
  | [], [] => by simp [PyData.eqvAll]
  | [], _ :: _ => by simp [PyData.eqvAll]
  | _ :: _, [] => by simp [PyData.eqvAll]
  | a :: r, b :: s => by
    have := eqvI r s
    have hb : (a == b) = decide (a = b) := rfl
    simp [PyData.eqvAll, PyData.eqv, this, Bool.decide_and, hb]
theorem eqv_list_int (r s : List Int) : PyData.eqv (PyData.list (r.map PyData.int)) (PyData.list (s.map PyData.int)) = decide (r = s) := by simp [PyData.eqv, eqvI]
section
variable {P : Program} {w : World} {K : PySem.W.Frag} {mg : Str → Option Value} {base : Heap} {A : Ad}
def spIslist : Sp := fun vs H Q _ => ∃ (a b : Addr) (ps : List Int), vs = [.ref a, .ref b] ∧ H a = some (.lst (ps.map V.int)) ∧ H b = some (.lst (ps.map V.int)) ∧ ps.length ≤ 1000 ∧ ∀ H', Ex H H' → Q (.bl true) H'
theorem ok_islist (T : Txt K mg A) : FnOk P w K mg base CX0 2 A.f_islist A.d_islist ["told", "places"] spIslist := by
  refine T.F_islist.ok sc_islist (fun vs H Q E h => ?_) (fun cdv Ar outer s H vs Q E hr h => ?_)
  · obtain ⟨a, b, ps, rfl, _⟩ := h
    rfl
  · obtain ⟨a, b, ps, rfl, ha, hb, lp, k⟩ := h
    refine ⟨_, (C8.pss_cut (ps_if (PW.pt (pw_or (pt_not (pt_val (pe_callB call_isi (by rfl) T.n_isinstance (by decide +kernel) (pa_cons (pv 0) (pa_cons (pe_bltn (v := .ty "list") rfl T.n_list (by decide +kernel) rfl) pa_nil))))) (pw_or1 (pt_not (pt_val (pe_callB (cr_all rfl) (by rfl) T.n_all (by decide +kernel) (pa_cons (pe_lc (own := [("one", 2)]) (g := gName 2) (tt := tYes) rfl sc_islist.nd (pi_list (pv 0)) (blkOk_by (own := [("one", 2)]) (N := N_islist) (sc := defScope S_islist) (by decide +kernel)) (fun _ _ _ _ _ => pg_name (i := 2) sc_islist.nd rfl (Or.inl rfl)) (fun _ _ _ _ _ => pts_nil) (fun _ _ _ _ _ => (pe_call (ok_whole T) (hr.mono (by decide)) rfl T.g_whole T.F_whole.kp T.b_whole .nil pass0 (pa_cons (pv 2) pa_nil)))) pa_nil)))))))
      (pss_one (ps_ret pe_bl)) pss_nil)
      (pss_one (ps_ret (pe_cmpR (op_eqD hr.units) (pv 0) (pv 1) (nomark _))))), ?_⟩
    refine ⟨fun sl H2 => sl = [some (.ref a), some (.ref b), none] ∧ Ex H H2, ?_, ?_⟩
    · refine ⟨_, rfl, _, .ty "list", _, _, true, rfl, .ty _, .base (.lst ha), kit_ty (by decide +kernel), _, rfl, iteF ?_⟩
      refine uNot (uB (uCB (uCons (lcL (fun i v _ => v = V.bl true) (fun Q q => ⟨_, rfl, q⟩) (SqL.of ha) (by rw [List.length_map]; omega) (fun j v H8 D2 hv ex hD2 Q8 kq => ?_) (fun D2 H8 vs n2 ex e1 e2 e3 => ?_)))))
      · rw [List.getElem?_map] at hv
        obtain ⟨x, hx, rfl⟩ := Option.map_eq_some_iff.mp hv
        exact ⟨rfl, _, rfl, x, rfl, kq _ _ (fun _ _ h => h) fun _ _ => rfl⟩
      · rw [vals_true fun i v q => e3 i v q] at e1
        refine ⟨D2, _, rfl, SqL.of e1, _, rfl, ?_⟩
        rw [all_true]
        exact iteF ⟨rfl, ex⟩
    rintro sl H2 ⟨rfl, ex⟩
    refine ⟨_, rfl, _, rfl, PyData.list (ps.map PyData.int), PyData.list (ps.map PyData.int), .lst (SqL.of (ex _ _ ha)) (dpI ps), .lst (SqL.of (ex _ _ hb)) (dpI ps), shapedI _, shapedI _, ?_⟩
    rw [eqv_list_int, decide_eq_true rfl]
    exact k _ ex
end
end Fc
set_option Elab.async false
set_option linter.all false
set_option maxRecDepth 100000
set_option maxHeartbeats 4000000
set_option exponentiation.threshold 100000
namespace Fc
open PySem PySem.Spec PyProof.Rows L2 L2H
theorem fib_big2 : 2 ^ 1000 < (fib2 2000).1 := by
  have e : (fib2 2000).1 = fibL 2000 0 1 := (fibL_is 2000 0).symm
  rw [e]
  decide +kernel
theorem Lu.done4 {g N a b : Nat} (h : Lu g N 2000 a b) (hN : N ≤ 2 ^ 1000) : b = 0 := by
  obtain ⟨h1, h2⟩ := h.next (by decide)
  have := fib_big2
  have q := Nat.mul_le_mul_left (fib2 2000).1 (show 1 ≤ a by omega)
  omega
section
variable {P : Program} {w : World} {K : PySem.W.Frag} {mg : Str → Option Value} {base : Heap} {A : Ad}
def spPair (C : Addr) : Sp := fun vs H Q _ => ∃ (a : Addr) (t b : Int), vs = [.ref a] ∧ RatAt C H a (t, b) ∧ 0 < b ∧ Int.gcd t b = 1 ∧ Bd 900 b ∧ ∀ p H', Ex H H' → H p = none → H' p = some (.tup [.int t, .int b]) → Q (.ref p) H'
theorem ok_pair (T : Txt K mg A) : FnOk P w K mg base CX0 2 A.f_pair A.d_pair ["told"] (spPair A.C) := by
  refine T.F_pair.ok sc_pair (fun vs H Q E h => ?_) (fun cdv Ar outer s H vs Q E hr h => ?_)
  · obtain ⟨a, t, b, rfl, _⟩ := h
    rfl
  · obtain ⟨a, t, b, rfl, ⟨dx, hx⟩, b0, g1, bb, k⟩ := h
    refine ⟨_, (pss_cons (ps_if (PW.pt (pw_or (pt_not (pt_val (pe_callB call_isi (by rfl) T.n_isinstance (by decide +kernel) (pa_cons (pv 0) (pa_cons (pe_glob (v := .ref A.C) rfl T.g_Ratio rfl) pa_nil))))) (pw_or (pt_not (pt_val (pe_call (ok_whole T) (hr.mono (by decide)) rfl T.g_whole T.F_whole.kp T.b_whole .nil pass0 (pa_cons (pe_fld (pv 0) rfl) pa_nil)))) (pw_or1 (pt_not (pt_val (pe_call (ok_whole T) (hr.mono (by decide)) rfl T.g_whole T.F_whole.kp T.b_whole .nil pass0 (pa_cons (pe_fld (pv 0) rfl) pa_nil))))))))
      (pss_one (ps_ret pe_non)) pss_nil)
      (C8.pss_cut (ps_if (pt_cmpR op_lt (pe_fld (pv 0) rfl) pe_int (nomark _))
      (pss_one (ps_ret pe_non)) pss_nil)
      (C8.pss_cut (ps_set (i := 1) sc_pair.nd rfl (Or.inl rfl) (pe_callB call_abs (by rfl) T.n_abs (by decide +kernel) (pa_cons (pe_fld (pv 0) rfl) pa_nil)))
      (C8.pss_cut (ps_set (i := 2) sc_pair.nd rfl (Or.inl rfl) (pe_fld (pv 0) rfl))
      (C8.pss_cut (ps_for PassesOwn.never rfl (pi_range1 rfl T.n_range (pa_cons pe_int pa_nil)) (pg_name (i := 3) sc_pair.nd rfl (Or.inl rfl))
      (pss_cons (ps_if (pt_cmpR op_eq (pv 2) pe_int (nomark _))
      (pss_one ps_break) pss_nil)
      (pss_cons (ps_set (i := 4) sc_pair.nd rfl (Or.inl rfl) (pe_op op_mod (pe_callTy call_int1 (by rfl) T.n_int (by decide +kernel) (pa_cons (pv 1) pa_nil)) (pv 2)))
      (pss_cons (ps_set (i := 1) sc_pair.nd rfl (Or.inl rfl) (pv 2))
      (pss_one (ps_set (i := 2) sc_pair.nd rfl (Or.inl rfl) (pv 4)))))))
      (C8.pss_cut (ps_if (pt_cmpR op_ne (pv 1) pe_int (nomark _))
      (pss_one (ps_ret pe_non)) pss_nil)
      (pss_one (ps_ret (pe_tup (pa_cons (pe_fld (pv 0) rfl) (pa_cons (pe_fld (pv 0) rfl) pa_nil))))))))))), ?_⟩
    refine ⟨_, rfl, .ref a, .ref A.C, .ref A.C, .ref A.C, true, rfl, .own _, .base (.ins hx T.cl T.ha T.hn T.htk T.hm), kit_self, _, rfl, iteF ?_⟩
    refine ⟨_, rfl, _, _, _, _, _, rfl, hx, T.cl, T.nT, rf_top _, _, rfl, _, rfl, iteF ?_⟩
    refine ⟨_, rfl, _, _, _, _, _, rfl, hx, T.cl, T.nB, rf_bot _, _, rfl, _, rfl, iteF ?_⟩
    refine ⟨fun sl H' => sl = [some (.ref a), none, none, none, none] ∧ H' = H, ?_, ?_⟩
    · refine ⟨_, rfl, _, _, _, _, _, rfl, hx, T.cl, T.nB, rf_bot _, _, _, rfl, rfl, _, rfl, ?_⟩
      rw [decide_eq_false (by omega)]
      exact iteF ⟨rfl, rfl⟩
    rintro sl H2 ⟨rfl, rfl⟩
    refine ⟨fun sl H' => sl = [some (.ref a), some (.int (ab t)), none, none, none] ∧ H' = H2, ⟨_, rfl, _, _, _, _, _, rfl, hx, T.cl, T.nT, rf_top _, t, rfl, rfl, rfl⟩, ?_⟩
    rintro sl H3 ⟨rfl, rfl⟩
    refine ⟨fun sl H' => sl = [some (.ref a), some (.int (ab t)), some (.int b), none, none] ∧ H' = H3, ⟨_, rfl, _, _, _, _, _, rfl, hx, T.cl, T.nB, rf_bot _, rfl, rfl⟩, ?_⟩
    rintro sl H4 ⟨rfl, rfl⟩
    refine ⟨fun sl H' => (∃ o1 o2 o3, sl = [some (.ref a), some (.int 1), o1, o2, o3]) ∧ H' = H4, ?_, ?_⟩
    · refine ⟨2000, rfl, by decide, by decide, for_range (lo := 0) (n := 2000) (fun i sl H2 => ∃ (x y : Nat) (v1 v2 : Option V), sl = [some (.ref a), some (.int (x : Int)), some (.int (y : Int)), v1, v2] ∧ H2 = H4 ∧ Lu 1 (2 ^ 1000) i x y) ?_ ?_ ?_⟩
      · have e1 : (((ab t).toNat : Nat) : Int) = ab t := by have := ab_nn t; omega
        have e2 : ((b.toNat : Nat) : Int) = b := by omega
        have e3 : Nat.gcd (ab t).toNat b.toNat = 1 := by
          rw [← g1]
          show _ = Nat.gcd t.natAbs b.natAbs
          congr 1
          · unfold ab; split <;> omega
          · omega
        refine ⟨(ab t).toNat, b.toNat, none, none, by rw [e1, e2], rfl, ?_⟩
        rw [← e3]
        refine Lu.start ?_
        have d3 : b.natAbs < 2 ^ 900 := bb
        have : (2 : Nat) ^ 900 ≤ 2 ^ 1000 := Nat.pow_le_pow_right (by decide) (by decide)
        omega
      · rintro i sl H2 hi ⟨x, y, v1, v2, rfl, rfl, eu⟩
        refine ⟨_, rfl, rfl, _, rfl, ite2 (fun c => ?_) (fun c => ?_)⟩
        · have y0 : y = 0 := by have := V.int.inj (of_decide_eq_true c); omega
          subst y0
          have ex := eu.zero
          subst ex
          exact ⟨⟨_, _, _, rfl⟩, rfl⟩
        · have y0 : y ≠ 0 := fun z => c (by rw [z] <;> rfl)
          refine ⟨_, rfl, .inl ⟨_, rfl, _, rfl, _, _, rfl, rfl, (by show (0 : Int) < (y : Int); omega), _, rfl, _, rfl, y, x % y, some (.int (0 + (i : Int))), some (.int ((x : Int) % (y : Int))), ?_, rfl, eu.turn y0⟩⟩
          rw [Int.natCast_emod]
          rfl
      · rintro sl H2 ⟨x, y, v1, v2, rfl, rfl, eu⟩
        have y0 := eu.done4 (Nat.le_refl _)
        subst y0
        have ex := eu.zero
        subst ex
        exact ⟨⟨_, _, _, rfl⟩, rfl⟩
    rintro sl H5 ⟨⟨o1, o2, o3, rfl⟩, rfl⟩
    refine ⟨fun sl H' => sl = [some (.ref a), some (.int 1), o1, o2, o3] ∧ H' = H5, ?_, ?_⟩
    · exact ⟨_, rfl, rfl, _, rfl, iteNS rfl ⟨rfl, rfl⟩⟩
    rintro sl H6 ⟨rfl, rfl⟩
    exact ⟨_, rfl, _, _, _, _, _, rfl, hx, T.cl, T.nT, rf_top _, _, rfl, _, _, _, _, _, rfl, hx, T.cl, T.nB, rf_bot _, (by show 2 ≤ sizeLine; rw [sizeLine_eq]; omega), fun p np => k p _ (Ex.new np) np upd_same⟩
end
end Fc
set_option Elab.async false
set_option linter.all false
set_option maxRecDepth 100000
set_option maxHeartbeats 4000000
set_option exponentiation.threshold 100000
namespace Fc
open PySem PySem.Spec PyProof.Rows L2 L2H
def pairD (p : Int × Int) : PyData := PyData.tuple [.int p.1, .int p.2]
theorem dpPairs {K : PySem.W.Frag} {H : Hp} : ∀ (bs : List Addr) (ts : List (Int × Int)), bs.length = ts.length → (∀ (i : Nat) b p, bs[i]? = some b → ts[i]? = some p → H b = some (.tup [.int p.1, .int p.2])) → DpAll K H (bs.map V.ref) (ts.map pairD)
  | [], [], _, _ => .nil
  | b :: bs, p :: ts, el, h => .cons (.tup (SqT.of (h 0 b p rfl rfl)) (.cons (.int _) (.cons (.int _) .nil))) (dpPairs bs ts (by simpa using el) fun i b q e1 e2 => h (i + 1) b q (by simpa using e1) (by simpa using e2))
theorem anyPairs (ts : List (Int × Int)) : ((ts.map pairD).any fun z => PyData.eqv z PyData.none) = false := by
  induction ts with
  | nil => rfl
  | cons p ts ih =>
    rw [List.map_cons, List.any_cons, ih]
    simp [pairD, PyData.eqv]
theorem layP (m : List (Int × Int)) : PyData.canLayAll0 (m.map pairD) = true := by
  induction m with
  | nil => simp [PyData.canLayAll0]
  | cons a r ih => simp [PyData.canLayAll0, PyData.canLay0, ih, pairD]
theorem depP (m : List (Int × Int)) : PyData.depthAll (m.map pairD) ≤ 2 := by
  induction m with
  | nil => simp [PyData.depthAll]
  | cons a r ih => simp [PyData.depthAll, PyData.depth, pairD]; omega
theorem shapedP (m : List (Int × Int)) : SeqAt.shaped (PyData.list (m.map pairD)) = true := by
  have := depP m
  unfold SeqAt.shaped
  simp [PyData.canLay0, PyData.depth, layP]
  omega
theorem units65 {k : Nat} {A : Around} (r : Room k A) : A.units + 65 < cLine := by have := r.un; omega
/-- top and bottom of a sum of products, term by term -/
def mixAcc (ts : Nat → Int × Int) (x : Nat → Int) : Nat → Int × Int
  | 0 => (0, 1)
  | k + 1 => ((mixAcc ts x k).1 * (ts k).2 + (ts k).1 * x k * (mixAcc ts x k).2, (mixAcc ts x k).2 * (ts k).2)
theorem mixAcc_bd {ts : Nat → Int × Int} {x : Nat → Int} {n : Nat} (h : ∀ k, k < n → Bd 900 (ts k).1 ∧ Bd 900 (ts k).2 ∧ Bd 100 (x k)) : ∀ k, k ≤ n → Bd (2100 * k + 10) (mixAcc ts x k).1 ∧ Bd (1000 * k + 10) (mixAcc ts x k).2
  | 0, _ => ⟨bd_of (by show (0 : Int).natAbs < _; decide), bd_of (by show (1 : Int).natAbs < _; decide)⟩
  | k + 1, hk => by
    obtain ⟨a, b⟩ := mixAcc_bd h k (by omega)
    obtain ⟨c, d, e⟩ := h k (by omega)
    exact ⟨(((a.mul d).mono (by omega : _ ≤ 2100 * k + 2000)).add (((c.mul e).mul b).mono (by omega))).mono (by omega), (b.mul d).mono (by omega)⟩
structure MixOk (C : Addr) (H : Hp) (L D P : Addr) (as : List Addr) (ts : List (Int × Int)) (cols : List (List Int)) (ps : List Nat) (j h : Nat) : Prop where
  l : H L = some (.lst (as.map V.ref))
  el : as.length = ts.length
  rat : ∀ (i : Nat) a p, as[i]? = some a → ts[i]? = some p → RatAt C H a p ∧ 0 < p.2 ∧ Int.gcd p.1 p.2 = 1 ∧ Bd 900 p.1 ∧ Bd 900 p.2
  d : RowsL H D cols
  p : H P = some (.lst (ps.map fun c : Nat => V.int c))
  pl : ps.length = ts.length
  tl : ts.length ≤ 10
  cl : cols.length ≤ 1000
  pc : ∀ c ∈ ps, c < cols.length
  jl : j < cols.length
  hr : ∀ r ∈ cols, r.length = h
  h10 : h ≤ 10
  b : ∀ r ∈ cols, ∀ x ∈ r, Bd 100 x
  z : ∀ (k : Nat) c p, ps[k]? = some c → ts[k]? = some p → j < c → p.1 = 0
  eq : ∀ i, i < h → (mixAcc (fun k => ts.getD k (0, 1)) (fun k => (cols.getD (ps.getD k 0) []).getD i 0) ts.length).1 = (cols.getD j []).getD i 0 * (mixAcc (fun k => ts.getD k (0, 1)) (fun k => (cols.getD (ps.getD k 0) []).getD i 0) ts.length).2
section
variable {P : Program} {w : World} {K : PySem.W.Frag} {mg : Str → Option Value} {base : Heap} {A : Ad}
def spIsmix (C : Addr) : Sp := fun vs H Q _ => ∃ (L D P : Addr) (as : List Addr) (ts : List (Int × Int)) (cols : List (List Int)) (ps : List Nat) (j h : Nat), vs = [.ref L, .ref D, .ref P, .int j] ∧ MixOk C H L D P as ts cols ps j h ∧ ∀ H', Ex H H' → Q (.bl true) H'
theorem ok_ismix (T : Txt K mg A) : FnOk P w K mg base CX0 3 A.f_ismix A.d_ismix ["told", "columns", "places", "at"] (spIsmix A.C) := by
  refine T.F_ismix.ok sc_ismix (fun vs H Q E h => ?_) (fun cdv Ar outer s H vs Q E hr h => ?_)
  · obtain ⟨L, D, P, as, ts, cols, ps, j, hh, rfl, _⟩ := h
    rfl
  · obtain ⟨L, D, P, as, ts, cols, ps, j, hh, rfl, ok, k⟩ := h
    refine ⟨_, (C8.pss_cut (ps_if (PW.pt (pw_or (pt_not (pt_val (pe_callB call_isi (by rfl) T.n_isinstance (by decide +kernel) (pa_cons (pv 0) (pa_cons (pe_bltn (v := .ty "list") rfl T.n_list (by decide +kernel) rfl) pa_nil))))) (pw_or1 (pt_cmpR op_ne (pe_callB call_len (by rfl) T.n_len PySem.boot_len (pa_cons (pv 0) pa_nil)) (pe_callB call_len (by rfl) T.n_len PySem.boot_len (pa_cons (pv 2) pa_nil)) (nomark _)))))
      (pss_one (ps_ret pe_bl)) pss_nil)
      (C8.pss_cut (ps_setLc (i := 4) (own := [("one", 5)]) (g := gName 5) (tt := tYes) rfl sc_ismix.nd rfl rfl (sw_true rfl rfl rfl (by decide +kernel)) (pi_list (pv 0)) (blkOk_by (own := [("one", 5)]) (N := N_ismix) (sc := defScope S_ismix) (by decide +kernel)) (fun _ _ _ _ _ => pg_name (i := 5) sc_ismix.nd rfl (Or.inl rfl)) (fun _ _ _ _ _ => pts_nil) (fun _ _ _ _ _ => (pe_call (ok_pair T) (hr.mono (by decide)) rfl T.g_pair T.F_pair.kp T.b_pair .nil pass0 (pa_cons (pv 5) pa_nil))))
      (C8.pss_cut (ps_if (pt_cmpR (op_inD (units65 hr)) pe_non (pv 4) (by with_unfolding_all rfl))
      (pss_one (ps_ret pe_bl)) pss_nil)
      (C8.pss_cut (ps_for PassesOwn.never rfl (pi_range1 rfl T.n_range (pa_cons (pe_callB call_len (by rfl) T.n_len PySem.boot_len (pa_cons (pv 2) pa_nil)) pa_nil)) (pg_name (i := 6) sc_ismix.nd rfl (Or.inl rfl))
      (pss_one (ps_if (PW.pt (pw_and (pt_cmpR op_gt (pe_ix ix_list (pv 2) (pv 6) (fun _ _ => rfl)) (pv 3) (nomark _)) (pw_and1 (pt_cmpR op_ne (pe_ix ix_tup (pe_ix ix_list (pv 4) (pv 6) (fun _ _ => rfl)) pe_int (fun _ _ => rfl)) pe_int (nomark _)))))
      (pss_one (ps_ret pe_bl)) pss_nil)))
      (C8.pss_cut (ps_for PassesOwn.never rfl (pi_range1 rfl T.n_range (pa_cons (pe_callB call_len (by rfl) T.n_len PySem.boot_len (pa_cons (pe_ix ix_list (pv 1) (pv 3) (fun _ _ => rfl)) pa_nil)) pa_nil)) (pg_name (i := 7) sc_ismix.nd rfl (Or.inl rfl))
      (C8.pss_cut (ps_set (i := 8) sc_ismix.nd rfl (Or.inl rfl) pe_int)
      (C8.pss_cut (ps_set (i := 9) sc_ismix.nd rfl (Or.inl rfl) pe_int)
      (C8.pss_cut (ps_for PassesOwn.never rfl (pi_range1 rfl T.n_range (pa_cons (pe_callB call_len (by rfl) T.n_len PySem.boot_len (pa_cons (pv 2) pa_nil)) pa_nil)) (pg_name (i := 6) sc_ismix.nd rfl (Or.inl rfl))
      (C8.pss_cut (ps_set (i := 10) sc_ismix.nd rfl (Or.inl rfl) (pe_op op_mulW (pe_ix ix_tup (pe_ix ix_list (pv 4) (pv 6) (fun _ _ => rfl)) pe_int (fun _ _ => rfl)) (pe_ix ix_list (pe_ix ix_list (pv 1) (pe_ix ix_list (pv 2) (pv 6) (fun _ _ => rfl)) (fun _ _ => rfl)) (pv 7) (fun _ _ => rfl))))
      (C8.pss_cut (ps_set (i := 8) sc_ismix.nd rfl (Or.inl rfl) (pe_op op_add (pe_op op_mulW (pv 8) (pe_ix ix_tup (pe_ix ix_list (pv 4) (pv 6) (fun _ _ => rfl)) pe_int (fun _ _ => rfl))) (pe_op op_mulW (pv 10) (pv 9))))
      (pss_one (ps_set (i := 9) sc_ismix.nd rfl (Or.inl rfl) (pe_op op_mulW (pv 9) (pe_ix ix_tup (pe_ix ix_list (pv 4) (pv 6) (fun _ _ => rfl)) pe_int (fun _ _ => rfl))))))))
      (pss_one (ps_if (pt_cmpR op_ne (pv 8) (pe_op op_mulW (pe_ix ix_list (pe_ix ix_list (pv 1) (pv 3) (fun _ _ => rfl)) (pv 7) (fun _ _ => rfl)) (pv 9)) (nomark _))
      (pss_one (ps_ret pe_bl)) pss_nil))))))
      (pss_one (ps_ret pe_bl))))))), ?_⟩
    have tl := ok.tl
    have el := ok.el
    have pl := ok.pl
    refine ⟨fun sl H' => sl = [some (.ref L), some (.ref D), some (.ref P), some (.int j), none, none, none, none, none, none, none] ∧ H' = H, ?_, ?_⟩
    · refine ⟨_, rfl, _, .ty "list", _, _, true, rfl, .ty _, .base (.lst ok.l), kit_ty (by decide +kernel), _, rfl, iteF ⟨_, rfl, _, _, rfl, lenv (.inl (SqL.of ok.l)), _, rfl, _, _, rfl, lenv (.inl (SqL.of ok.p)), rfl, _, rfl, iteNS (by rw [List.length_map, List.length_map, el, pl]) ⟨rfl, rfl⟩⟩⟩
    rintro sl H1 ⟨rfl, rfl⟩
    refine ⟨fun sl H' => ∃ (B : Addr) (bs : List Addr), sl = [some (.ref L), some (.ref D), some (.ref P), some (.int j), some (.ref B), none, none, none, none, none, none] ∧ Ex H1 H' ∧ H' B = some (.lst (bs.map V.ref)) ∧ bs.length = ts.length ∧ ∀ (i : Nat) b p, bs[i]? = some b → ts[i]? = some p → H' b = some (.tup [.int p.1, .int p.2]), ?_, ?_⟩
    · refine uAsg (lcL (fun i v H' => ∃ b p, v = V.ref b ∧ ts[i]? = some p ∧ H' b = some (.tup [.int p.1, .int p.2])) (fun Q q => ⟨_, rfl, q⟩) (SqL.of ok.l) (by rw [List.length_map]; omega) (fun i v H2 D2 hv ex hD Q2 kq => ?_) (fun D2 H2 vs nD ex e1 e2 e3 => ?_))
      · rw [List.getElem?_map] at hv
        obtain ⟨a, ha, rfl⟩ := Option.map_eq_some_iff.mp hv
        have hi : i < ts.length := by have := (List.getElem?_eq_some_iff.mp ha).1; omega
        have hp := List.getElem?_eq_getElem hi
        obtain ⟨r1, r2, r3, r4, r5⟩ := ok.rat i a _ ha hp
        obtain ⟨oD, hoD⟩ := hD
        exact ⟨rfl, _, rfl, a, _, _, rfl, r1.ex ex, r2, r3, r5, fun p H3 e3 np hp3 => kq _ _ e3 fun H4 k4 => ⟨p, _, rfl, hp, k4 p _ hp3 (ne_of_none hoD np).symm⟩⟩
      · rw [List.length_map] at e2
        obtain ⟨bs, rfl⟩ := refs_of fun i v e => (e3 i v e).imp fun b q => q.choose_spec.1
        rw [List.length_map] at e2
        refine ⟨D2, bs, rfl, ex, e1, by omega, fun i b p h1 h2 => ?_⟩
        obtain ⟨b', p', g1, g2, g3⟩ := e3 i (.ref b) (by rw [List.getElem?_map, h1]; rfl)
        cases g1
        rw [h2] at g2
        cases g2
        exact g3
    rintro sl H2 ⟨B, bs, rfl, ex, hB, lb, hb⟩
    refine ⟨fun sl H' => sl = [some (.ref L), some (.ref D), some (.ref P), some (.int j), some (.ref B), none, none, none, none, none, none] ∧ H' = H2, ?_, ?_⟩
    · refine ⟨_, rfl, PyData.none, ts.map pairD, .non, .lst (SqL.of hB) (dpPairs bs ts lb hb), by decide +kernel, shapedP ts, _, rfl, ?_⟩
      rw [anyPairs]
      exact iteF ⟨rfl, rfl⟩
    rintro sl H3 ⟨rfl, rfl⟩
    have hP := ex _ _ ok.p
    refine ⟨fun sl H' => (∃ o, sl = [some (.ref L), some (.ref D), some (.ref P), some (.int j), some (.ref B), none, o, none, none, none, none]) ∧ H' = H3, ?_, ?_⟩
    · refine forR (lo := 0) (n := ts.length) (fun i sl H' => (∃ o, sl = [some (.ref L), some (.ref D), some (.ref P), some (.int j), some (.ref B), none, o, none, none, none, none]) ∧ H' = H3) (fun P h => ⟨_, rfl, _, _, rfl, lenv (.inl (SqL.of hP)), _, rfl, by rw [List.length_map]; omega, by rw [List.length_map]; omega, by rw [List.length_map, pl]; exact h⟩) ⟨⟨_, rfl⟩, rfl⟩ (fun i sl H4 hi q => ?_) (fun sl H4 q => q)
      obtain ⟨⟨o, rfl⟩, rfl⟩ := q
      rw [show (0 : Int) + (i : Int) = (i : Int) by omega]
      have hp1 : ps[i]? = some (ps[i]'(by omega)) := List.getElem?_eq_getElem (by omega)
      have hb1 : bs[i]? = some (bs[i]'(by omega)) := List.getElem?_eq_getElem (by omega)
      have ht1 : ts[i]? = some (ts[i]'(by omega)) := List.getElem?_eq_getElem (by omega)
      have hz := ok.z i _ _ hp1 ht1
      have hbb := hb i _ _ hb1 ht1
      refine ⟨_, rfl, _, rfl, _, _, _, _, rfl, rfl, SqL.of hP, atI_nat (by rw [List.getElem?_map, hp1]; rfl), _, rfl, _, _, rfl, rfl, _, rfl, ?_⟩
      refine ite2 (fun c => ⟨_, rfl, _, rfl, _, _, _, _, rfl, rfl, SqL.of hB, atI_nat (by rw [List.getElem?_map, hb1]; rfl), _, _, _, _, rfl, rfl, SqT.of hbb, atI_nat (j := 0) rfl, rfl, _, rfl, ?_⟩) (fun c => ?_)
      · exact iteNS (by rw [hz (by have := of_decide_eq_true c; omega)]) ⟨⟨_, rfl⟩, rfl⟩
      · exact iteF ⟨⟨_, rfl⟩, rfl⟩
    rintro sl H4 ⟨⟨o6, rfl⟩, rfl⟩
    refine ⟨fun sl H' => (∃ o1 o2 o3 o4 o5, sl = [some (.ref L), some (.ref D), some (.ref P), some (.int j), some (.ref B), none, o1, o2, o3, o4, o5]) ∧ H' = H4, ?_, ?_⟩
    · obtain ⟨ds, d1, d2, d3⟩ := id ok.d
      have jl := ok.jl
      have hj1 : ds[j]? = some (ds[j]'(by omega)) := List.getElem?_eq_getElem (by omega)
      have hcj := d3 j _ _ hj1 (List.getElem?_eq_getElem jl)
      have lj := ok.hr _ (List.getElem_mem jl)
      have h10 := ok.h10
      refine forR (lo := 0) (n := hh) (fun i sl H' => (∃ o1 o2 o3 o4 o5, sl = [some (.ref L), some (.ref D), some (.ref P), some (.int j), some (.ref B), none, o1, o2, o3, o4, o5]) ∧ H' = H4) (fun P h => ⟨_, rfl, _, rfl, _, _, _, _, rfl, rfl, SqL.of (ex _ _ d1), atI_nat (by rw [List.getElem?_map, hj1]; rfl), _, _, rfl, lenv (.inl (SqL.of (ex _ _ hcj))), _, rfl, by rw [List.length_map]; omega, by rw [List.length_map]; omega, by rw [List.length_map, lj]; exact h⟩) ⟨⟨_, _, _, _, _, rfl⟩, rfl⟩ (fun i sl H5 hi q => ?_) (fun sl H5 q => q)
      obtain ⟨⟨o1, o2, o3, o4, o5, rfl⟩, rfl⟩ := q
      rw [show (0 : Int) + (i : Int) = (i : Int) by omega]
      refine ⟨fun sl H' => sl = [some (.ref L), some (.ref D), some (.ref P), some (.int j), some (.ref B), none, o1, some (.int i), some (.int 0), o4, o5] ∧ H' = H5, ⟨rfl, rfl⟩, ?_⟩
      rintro sl H6 ⟨rfl, rfl⟩
      refine ⟨fun sl H' => sl = [some (.ref L), some (.ref D), some (.ref P), some (.int j), some (.ref B), none, o1, some (.int i), some (.int 0), some (.int 1), o5] ∧ H' = H6, ⟨rfl, rfl⟩, ?_⟩
      rintro sl H7 ⟨rfl, rfl⟩
      let tf : Nat → Int × Int := fun k => ts.getD k (0, 1)
      let xf : Nat → Int := fun k => (cols.getD (ps.getD k 0) []).getD i 0
      have bdk := fun k (hk : k < ts.length) => show Bd 900 (tf k).1 ∧ Bd 900 (tf k).2 ∧ Bd 100 (xf k) from by
        have ht : tf k = ts[k] := by show ts.getD k (0, 1) = _; rw [List.getD_eq_getElem?_getD, List.getElem?_eq_getElem hk]; rfl
        have ha : as[k]? = some (as[k]'(by omega)) := List.getElem?_eq_getElem (by omega)
        obtain ⟨_, _, _, r4, r5⟩ := ok.rat k _ _ ha (List.getElem?_eq_getElem hk)
        have hp : ps.getD k 0 = ps[k]'(by omega) := by rw [List.getD_eq_getElem?_getD, List.getElem?_eq_getElem (by omega)]; rfl
        have hc := ok.pc _ (List.getElem_mem (show k < ps.length by omega))
        refine ⟨by rw [ht]; exact r4, by rw [ht]; exact r5, ?_⟩
        show Bd 100 ((cols.getD (ps.getD k 0) []).getD i 0)
        have hd : cols.getD (ps.getD k 0) [] = cols[ps[k]'(by omega)] := by rw [hp, List.getD_eq_getElem?_getD, List.getElem?_eq_getElem hc]; rfl
        rw [hd]
        have li := ok.hr _ (List.getElem_mem hc)
        exact ok.b _ (List.getElem_mem hc) _ (List.mem_of_getElem? (getD_some (by omega)))
      refine ⟨fun sl H' => (∃ o1 o5, sl = [some (.ref L), some (.ref D), some (.ref P), some (.int j), some (.ref B), none, o1, some (.int i), some (.int (mixAcc tf xf ts.length).1), some (.int (mixAcc tf xf ts.length).2), o5]) ∧ H' = H7, ?_, ?_⟩
      · refine forR (lo := 0) (n := ts.length) (fun k sl H' => (∃ o1 o5, sl = [some (.ref L), some (.ref D), some (.ref P), some (.int j), some (.ref B), none, o1, some (.int i), some (.int (mixAcc tf xf k).1), some (.int (mixAcc tf xf k).2), o5]) ∧ H' = H7) (fun P h => ⟨_, rfl, _, _, rfl, lenv (.inl (SqL.of hP)), _, rfl, by rw [List.length_map]; omega, by rw [List.length_map]; omega, by rw [List.length_map, pl]; exact h⟩) ⟨⟨_, _, rfl⟩, rfl⟩ (fun k sl H8 hk q => ?_) (fun sl H8 q => q)
        obtain ⟨⟨p1, p5, rfl⟩, rfl⟩ := q
        rw [show (0 : Int) + (k : Int) = (k : Int) by omega]
        obtain ⟨c1, c2, c3⟩ := bdk k hk
        obtain ⟨a1, a2⟩ := mixAcc_bd bdk k (by omega)
        have a1' := a1.mono (show 2100 * k + 10 ≤ 30000 by omega)
        have a2' := a2.mono (show 1000 * k + 10 ≤ 30000 by omega)
        have hb1 : bs[k]? = some (bs[k]'(by omega)) := List.getElem?_eq_getElem (by omega)
        have ht : tf k = ts[k] := by show ts.getD k (0, 1) = _; rw [List.getD_eq_getElem?_getD, List.getElem?_eq_getElem hk]; rfl
        have hbb := hb k _ _ hb1 (List.getElem?_eq_getElem hk)
        rw [← ht] at hbb
        have hp1 : ps[k]? = some (ps[k]'(by omega)) := List.getElem?_eq_getElem (by omega)
        have hc := ok.pc _ (List.getElem_mem (show k < ps.length by omega))
        have hpd : ps.getD k 0 = ps[k]'(by omega) := by rw [List.getD_eq_getElem?_getD, hp1]; rfl
        have hcd : cols.getD (ps.getD k 0) [] = cols[ps[k]'(by omega)] := by rw [hpd, List.getD_eq_getElem?_getD, List.getElem?_eq_getElem hc]; rfl
        have hd1 : ds[ps[k]'(by omega)]? = some (ds[ps[k]'(by omega)]'(by omega)) := List.getElem?_eq_getElem (by omega)
        have hrow := ex _ _ (d3 _ _ _ hd1 (List.getElem?_eq_getElem hc))
        have li := ok.hr _ (List.getElem_mem hc)
        have hx : (cols[ps[k]'(by omega)])[i]? = some (xf k) := by
          rw [getD_some (by omega)]
          show _ = some ((cols.getD (ps.getD k 0) []).getD i 0)
          rw [hcd]
        refine ⟨fun sl H' => sl = [some (.ref L), some (.ref D), some (.ref P), some (.int j), some (.ref B), none, some (.int k), some (.int i), some (.int (mixAcc tf xf k).1), some (.int (mixAcc tf xf k).2), some (.int ((tf k).1 * xf k))] ∧ H' = H8, ?_, ?_⟩
        · exact ⟨_, rfl, _, rfl, _, _, _, _, rfl, rfl, SqL.of hB, atI_nat (by rw [List.getElem?_map, hb1]; rfl), _, _, _, _, rfl, rfl, SqT.of hbb, atI_nat (j := 0) rfl, _, rfl, _, rfl, _, rfl, _, _, _, _, rfl, rfl, SqL.of hP, atI_nat (by rw [List.getElem?_map, hp1]; rfl), _, _, _, _, rfl, rfl, SqL.of (ex _ _ d1), atI_nat (by rw [List.getElem?_map, hd1]; rfl), _, rfl, _, _, _, _, rfl, rfl, SqL.of hrow, atI_nat (by rw [List.getElem?_map, hx]; rfl), _, _, rfl, rfl, c1.w c3, rfl, rfl⟩
        rintro sl H9 ⟨rfl, rfl⟩
        refine ⟨fun sl H' => sl = [some (.ref L), some (.ref D), some (.ref P), some (.int j), some (.ref B), none, some (.int k), some (.int i), some (.int (mixAcc tf xf (k + 1)).1), some (.int (mixAcc tf xf k).2), some (.int ((tf k).1 * xf k))] ∧ H' = H9, ?_, ?_⟩
        · exact ⟨_, rfl, _, rfl, _, rfl, _, _, _, _, rfl, rfl, SqL.of hB, atI_nat (by rw [List.getElem?_map, hb1]; rfl), _, _, _, _, rfl, rfl, SqT.of hbb, atI_nat (j := 1) rfl, _, _, rfl, rfl, a1'.w c2, _, rfl, _, rfl, _, _, rfl, rfl, (c1.mul c3).w a2', _, _, rfl, rfl, rfl, rfl⟩
        rintro sl H10 ⟨rfl, rfl⟩
        exact ⟨_, rfl, _, rfl, _, rfl, _, _, _, _, rfl, rfl, SqL.of hB, atI_nat (by rw [List.getElem?_map, hb1]; rfl), _, _, _, _, rfl, rfl, SqT.of hbb, atI_nat (j := 1) rfl, _, _, rfl, rfl, a2'.w c2, ⟨_, _, rfl⟩, rfl⟩
      rintro sl H8 ⟨⟨p1, p5, rfl⟩, rfl⟩
      obtain ⟨a1, a2⟩ := mixAcc_bd bdk ts.length (by omega)
      have hx : (cols[j])[i]? = some ((cols.getD j []).getD i 0) := by
        rw [getD_some (by omega)]
        have : cols.getD j [] = cols[j] := by rw [List.getD_eq_getElem?_getD, List.getElem?_eq_getElem jl]; rfl
        rw [this]
      have eq := ok.eq i hi
      have bx := ok.b _ (List.getElem_mem jl) _ (List.mem_of_getElem? hx)
      exact ⟨_, rfl, _, rfl, _, rfl, _, _, _, _, rfl, rfl, SqL.of (ex _ _ d1), atI_nat (by rw [List.getElem?_map, hj1]; rfl), _, rfl, _, _, _, _, rfl, rfl, SqL.of (ex _ _ hcj), atI_nat (by rw [List.getElem?_map, hx]; rfl), _, rfl, _, _, rfl, rfl, bx.w (a2.mono (show 1000 * ts.length + 10 ≤ 30000 by omega)), rfl, _, rfl, iteNS (congrArg V.int eq) ⟨⟨_, _, _, _, _, rfl⟩, rfl⟩⟩
    rintro sl H5 ⟨⟨o1, o2, o3, o4, o5, rfl⟩, rfl⟩
    exact k _ ex
end
end Fc
set_option Elab.async false
set_option linter.all false
set_option maxRecDepth 100000
set_option maxHeartbeats 4000000
set_option exponentiation.threshold 100000
namespace Fc
open PySem PySem.Spec PyProof.Rows L2 L2H
section
variable {P : Program} {w : World} {K : PySem.W.Frag} {mg : Str → Option Value} {base : Heap} {A : Ad}
theorem xd1 {f : Str} {v : V} : ([(f, v)] : List (Str × V)).lookup f = some v := by simp [List.lookup]
def spBadplace (A : Ad) : Sp := fun vs H Q _ => ∃ (g : Addr) (m : List (List Int)) (o M c : Int), vs = [.ref g, .int c] ∧ GridAt A H g m o ∧ GOk m M ∧ ¬ (0 ≤ c ∧ c < wideOf m) ∧ ∀ H', Ex H H' → Q (.bl true) H'
theorem ok_badplace (T : Txt K mg A) : FnOk P w K mg base CX0 7 A.f_badplace A.d_badplace ["a", "place"] (spBadplace A) := by
  refine T.F_badplace.ok sc_badplace (fun vs H Q E h => ?_) (fun cdv Ar outer s H vs Q E hr h => ?_)
  · obtain ⟨g, m, o, M, c, rfl, _⟩ := h
    rfl
  · obtain ⟨g, m, o, M, c, rfl, hg, ok, hc, k⟩ := h
    refine ⟨_, (pss_cons (L2N.ps_try_as (i := 2) (tb := fun W => (tDrop (tCallS (spMix A) (WE W) (tCons (tVar 0) (tCons (tVar 1) tNil))))) (ts := fun a cls d => (tSeq (tIfS (tOr (tNot (tB (tCB (rIsX K cls d a) (tCons (tVar 2) (tCons (tC (.ref A.P)) tNil))))) (tOr (tNot (tB (tCB (rIsX K cls d a) (tCons (tVar 2) (tCons (tC (.ty "ValueError")) tNil))))) (tB (tCB (rIsX K cls d a) (tCons (tVar 2) (tCons (tC (.ref A.BS)) tNil)))))) (tRet (tC (.bl false))) tNext) (tRet (tAndV (tCallS (spWhole) (fun _ => E0) (tCons (tXf a cls d A.P "place" (tVar 2)) tNil)) (tOp rEq (tXf a cls d A.P "place" (tVar 2)) (tVar 1)))))) (Wout := fun _ _ _ _ => False) rfl rfl sc_badplace.nd rfl rfl ⟨rfl, by decide, Or.inl T.g_CE⟩ takes0N (fun W pn xe tk _ => (pss_one (ps_expr (pe_callS (ok_mixture T) (hr.mono (by decide)) rfl T.g_mixture T.F_mixture.kp T.b_mixture (fun sl => L2N.passAt tk sl) (pa_cons (pv 0) (pa_cons (pv 1) pa_nil)))))) (fun a oe cls d pn hz hf => (pss_cons (ps_if (PW.pt (pw_or (pt_not (pt_val (pe_callB (call_isX hz.zc hf) (by rfl) T.n_isinstance (by decide +kernel) (pa_cons (pv 2) (pa_cons (pe_glob (v := .ref A.P) rfl T.g_P rfl) pa_nil))))) (pw_or (pt_not (pt_val (pe_callB (call_isX hz.zc hf) (by rfl) T.n_isinstance (by decide +kernel) (pa_cons (pv 2) (pa_cons (pe_bltn (v := .ty "ValueError") rfl T.n_ValueError (by decide +kernel) rfl) pa_nil))))) (pw_or1 (pt_val (pe_callB (call_isX hz.zc hf) (by rfl) T.n_isinstance (by decide +kernel) (pa_cons (pv 2) (pa_cons (pe_glob (v := .ref A.BS) rfl T.g_BS rfl) pa_nil)))))))) (pss_one (ps_ret pe_bl)) pss_nil) (pss_one (ps_ret (pe_and (pe_callH (okH_whole T) (roomH_mark (hr.mono (by decide)) _) (hot_suite hz hf) rfl T.g_whole T.F_whole.kp T.b_whole passH (pa_cons (pe_xf T.xf_P T.n_P_place hz.zc hf (pv 2)) pa_nil)) (pe_one (pe_cmpR op_eq (pe_xf T.xf_P T.n_P_place hz.zc hf (pv 2)) (pv 1) (nomark _)))))))))
      (pss_one (ps_ret pe_bl))), ?_⟩
    refine ⟨_, rfl, _, rfl, g, m, o, M, c, rfl, hg, ok, fun _ d H' ex hd => ?_, fun c0 c1 => absurd ⟨c0, c1⟩ hc⟩
    refine ⟨true, T.e_P, fun _ b nb => ?_, fun z => Bool.noConfusion z⟩
    have nd3 : ∀ dd : Addr, some d = some dd → ∃ fs, H' dd = some (.xd fs) := fun dd e => by cases e; exact ⟨_, hd⟩
    refine ⟨_, rfl, A.P, .ref A.P, .ref A.P, true, rfl, T.X_P, nd3, rfl, fun u e => e, kit_self, _, rfl, iteF ?_⟩
    refine ⟨_, rfl, A.P, .ty "ValueError", _, true, rfl, T.X_P, nd3, rfl, fun u e => e, T.v_P, _, rfl, iteF ?_⟩
    refine ⟨_, rfl, A.P, .ref A.BS, _, false, rfl, T.X_P, nd3, rfl, fun u e => e, T.pNbs, _, rfl, iteF ?_⟩
    refine ⟨_, rfl, rfl, rfl, d, _, _, rfl, hd, xd1, c, rfl, true, rfl, iteT ⟨_, rfl, rfl, rfl, d, _, _, rfl, hd, xd1, _, rfl, rfl, ?_⟩⟩
    rw [decide_eq_true rfl]
    exact k H' ex
end
end Fc
set_option Elab.async false
set_option linter.all false
set_option maxRecDepth 100000
set_option maxHeartbeats 4000000
set_option exponentiation.threshold 100000
namespace Fc
open PySem PySem.Spec PyProof.Rows L2 L2H
def Amx (cols : List (List Int)) : Mx := fun i j => (cols.getD j []).getD i 0
def bS (s : Nat) : Nat := 47 * 2 ^ s - 1
theorem lcl_row (f g : Nat → Int) {h t : Nat} (ht : t < h) : lclL ((List.range h).map f) ((List.range h).map g) t = (List.range h).map fun i => f i * g t - g i * f t := by
  unfold lclL
  rw [List.length_map, List.length_range]
  refine List.map_congr_left fun i hi => ?_
  have hi := List.mem_range.mp hi
  have e : ∀ (f : Nat → Int) (i : Nat), i < h → ((List.range h).map f).getD i 0 = f i := fun f i hi => by rw [List.getD_eq_getElem?_getD, row_get hi]; rfl
  rw [e f i hi, e g i hi, e f t ht, e g t ht]
/-- what is kept -/
def KS (H : Hp) (kp pl : Addr) (h r : Nat) (ats : Nat → Nat) (y : Nat → Nat → Int) : Prop := ∃ us : List Addr, H kp = some (.lst (us.map V.ref)) ∧ us.length = r ∧ ∀ (s : Nat) u, us[s]? = some u → ∃ c, H u = some (.tup [.int (ats s : Nat), .ref c]) ∧ H c = some (.lst (((List.range h).map (y s)).map V.int)) ∧ c ≠ pl ∧ c ≠ kp
section
variable {P : Program} {w : World} {K : PySem.W.Frag} {mg : Str → Option Value} {base : Heap} {A : Ad}
def spLindep : Sp := fun vs H Q _ => ∃ (D : Addr) (cols : List (List Int)) (h : Nat), vs = [.ref D] ∧ RowsL H D cols ∧ (∀ r ∈ cols, r.length = h) ∧ h ≤ 10 ∧ cols.length ≤ 6 ∧ (∀ r ∈ cols, ∀ x ∈ r, Bd 46 x) ∧
  ∀ ps L H', Cho (Amx cols) h cols.length ps → Ex H H' → H L = none → H' L = some (.lst (ps.map fun c : Nat => V.int c)) → Q (.ref L) H'
def LiS (cols : List (List Int)) (h : Nat) (H : Hp) (D : Addr) (j : Nat) (sl : L2.St) (H' : Hp) : Prop := ∃ kp pl r cs ats y o1 o2 o3 o4, sl = [some (.ref D), some (.ref kp), some (.ref pl), o1, o2, o3, o4, none] ∧ Ex H H' ∧ H kp = none ∧ H pl = none ∧ kp ≠ pl ∧ r ≤ j ∧
  Kp (Amx cols) h cs r ats y ∧ Cho (Amx cols) h j ((List.range r).map cs) ∧ (∀ s, s < r → ∀ i, i < h → Bd (bS s) (y s i)) ∧ KS H' kp pl h r ats y ∧ H' pl = some (.lst (((List.range r).map cs).map fun c : Nat => V.int c))
theorem ok_lindep (T : Txt K mg A) : FnOk P w K mg base CX0 2 A.f_lindep A.d_lindep ["columns"] spLindep := by
  refine T.F_lindep.ok sc_lindep (fun vs H Q E h => ?_) (fun cdv Ar outer s H vs Q E hr h => ?_)
  · obtain ⟨D, cols, h, rfl, _⟩ := h
    rfl
  · obtain ⟨D, cols, h, rfl, ⟨ds, d1, d2, d3⟩, hh, h10, lw, hb, k⟩ := h
    refine ⟨_, (pss_cons (ps_set (i := 1) sc_lindep.nd rfl (Or.inl rfl) (pe_lst pa_nil))
      (pss_cons (ps_set (i := 2) sc_lindep.nd rfl (Or.inl rfl) (pe_lst pa_nil))
      (pss_cons (ps_for PassesOwn.never rfl (pi_range1 rfl T.n_range (pa_cons (pe_callB call_len (by rfl) T.n_len PySem.boot_len (pa_cons (pv 0) pa_nil)) pa_nil)) (pg_name (i := 3) sc_lindep.nd rfl (Or.inl rfl))
      (C8.pss_cut (ps_set (i := 4) sc_lindep.nd rfl (Or.inr rfl) (pe_callTy call_list_of (by rfl) T.n_list (by decide +kernel) (pa_cons (pe_ix ix_list (pv 0) (pv 3) (fun _ _ => rfl)) pa_nil)))
      (C8.pss_cut (ps_for PassesOwn.never rfl (pi_list (pv 1)) (pg_name (i := 5) sc_lindep.nd rfl (Or.inl rfl))
      (pss_one (ps_set (i := 4) sc_lindep.nd rfl (Or.inr rfl) (pe_call (ok_lcleared T) (hr.mono (by decide)) rfl T.g_lcleared T.F_lcleared.kp T.b_lcleared .nil pass0 (pa_cons (pv 4) (pa_cons (pe_ix ix_tup (pv 5) pe_int (fun _ _ => rfl)) (pa_cons (pe_ix ix_tup (pv 5) pe_int (fun _ _ => rfl)) pa_nil)))))))
      (C8.pss_cut (ps_setLc (i := 6) (own := [("i", 7)]) (g := gName 7) (tt := (tTest (tOp rNe (tOp (rIxL K) (tVar 4) (tVar 7)) (tC (.int 0))))) rfl sc_lindep.nd rfl rfl (sw_true rfl rfl rfl (by decide +kernel)) (pi_range1 rfl T.n_range (pa_cons (pe_callB call_len (by rfl) T.n_len PySem.boot_len (pa_cons (pv 4) pa_nil)) pa_nil)) (blkOk_by (own := [("i", 7)]) (N := N_lindep) (sc := defScope S_lindep) (by decide +kernel)) (fun _ _ _ _ _ => pg_name (i := 7) sc_lindep.nd rfl (Or.inl rfl)) (fun _ _ _ _ _ => pts_one (pt_cmpR op_ne (pe_ix (r := rIxL K) ix_list (pv 4) (pv 7) (fun _ _ => rfl)) pe_int (nomark _))) (fun _ _ _ _ _ => (pv 7)))
      (pss_one (ps_if (pt_cmpR (op_neD hr.units) (pv 6) (pe_lst pa_nil) (nomark _))
      (pss_cons (ps_expr (pe_bm PySem.F.plainAttrs_list PySem.F.slot_list_append PySem.F.type_list_append mt_append (pv 1) (pa_cons (pe_tup (pa_cons (pe_ix ix_list (pv 6) pe_int (fun _ _ => rfl)) (pa_cons (pv 4) pa_nil))) pa_nil)))
      (pss_one (ps_expr (pe_bm PySem.F.plainAttrs_list PySem.F.slot_list_append PySem.F.type_list_append mt_append (pv 2) (pa_cons (pv 3) pa_nil))))) pss_nil))))))
      (pss_one (ps_ret (pv 2)))))), ?_⟩
    refine ⟨Nat.zero_le _, fun kp nk => ⟨Nat.zero_le _, fun pl np => ?_⟩⟩
    have e0 : Ex H (upd (upd H kp (.lst [])) pl (.lst [])) := (Ex.new nk).trans (Ex.new np)
    have kpl : kp ≠ pl := fun z => by rw [← z, upd_same] at np; cases np
    dsimp only [gName]
    refine uSeq (forR (lo := 0) (n := cols.length) (fun j sl H' => LiS cols h H D j sl H') (fun P q => ⟨_, rfl, _, _, rfl, lenv (.inl (SqL.of (e0 _ _ d1))), _, rfl, by rw [List.length_map]; omega, by rw [List.length_map]; omega, by rw [List.length_map, d2]; exact q⟩) ?_ (fun j sl H2 hj q => ?_) (fun sl H2 q => ?_))
    · exact ⟨kp, pl, 0, fun _ => 0, fun _ => 0, fun _ _ => 0, none, none, none, none, rfl, e0, nk, by rw [upd_ne (Ne.symm kpl)] at np; exact np, kpl, Nat.le_refl _, Kp.start _ _ _ _ _, .nil, fun s hs => by omega, ⟨[], by rw [upd_ne kpl, upd_same]; rfl, rfl, fun s u e => by simp at e⟩, upd_same⟩
    · obtain ⟨kp, pl, r, cs, ats, y, o1, o2, o3, o4, rfl, ex, nk, np, kpl, rj, kk, ch, by_, ks, hpl⟩ := q
      rw [show (0 : Int) + (j : Int) = (j : Int) by omega]
      have hd1 : ds[j]? = some (ds[j]'(by omega)) := List.getElem?_eq_getElem (by omega)
      have hcol := ex _ _ (d3 j _ _ hd1 (List.getElem?_eq_getElem hj))
      have lj := hh _ (List.getElem_mem hj)
      have ecol : cols[j] = (List.range h).map fun i => Amx cols i j := by
        refine List.ext_getElem? fun i => ?_
        by_cases hi : i < h
        · rw [row_get hi, getD_some (by omega)]
          unfold Amx
          have : cols.getD j [] = cols[j] := by rw [List.getD_eq_getElem?_getD, List.getElem?_eq_getElem hj]; rfl
          rw [this]
        · rw [List.getElem?_eq_none (by omega), List.getElem?_eq_none (by rw [List.length_map, List.length_range]; omega)]
      have bcol : ∀ i, i < h → Bd 46 (Amx cols i j) := fun i hi => hb _ (List.getElem_mem hj) _ (by rw [ecol]; exact List.mem_map.mpr ⟨i, List.mem_range.mpr hi, rfl⟩)
      refine ⟨fun sl H' => ∃ c, sl = [some (.ref D), some (.ref kp), some (.ref pl), some (.int j), some (.ref c), o3, o4, none] ∧ Ex H2 H' ∧ H2 c = none ∧ H' c = some (.lst (((List.range h).map (clr ats y (fun i => Amx cols i j) 0)).map V.int)), ?_, ?_⟩
      · refine ⟨_, rfl, _, rfl, _, _, _, _, rfl, rfl, SqL.of (ex _ _ d1), atI_nat (by rw [List.getElem?_map, hd1]; rfl), _, _, rfl, .inl (SqL.of hcol), fun c nc => ⟨c, rfl, Ex.new nc, nc, ?_⟩⟩
        rw [upd_same, ecol]
        rfl
      rintro sl H3 ⟨c, rfl, ex3, nc, hc⟩
      have bx : ∀ s, s ≤ r → ∀ i, i < h → Bd (bS s) (clr ats y (fun i => Amx cols i j) s i) := by
        intro s
        induction s with
        | zero => intro _ i hi; exact bcol i hi
        | succ s ih =>
          intro hs i hi
          have pw : 1 ≤ 2 ^ s := Nat.one_le_two_pow
          have b1 := (ih (by omega) i hi).mul (by_ s (by omega) _ (kk.lt s (by omega)))
          have b2 := (by_ s (by omega) i hi).mul (ih (by omega) _ (kk.lt s (by omega)))
          refine (b1.sub b2).mono ?_
          unfold bS
          rw [Nat.pow_succ]
          omega
      refine ⟨fun sl H' => ∃ c o2, sl = [some (.ref D), some (.ref kp), some (.ref pl), some (.int j), some (.ref c), o2, o4, none] ∧ Ex H2 H' ∧ H2 c = none ∧ H' c = some (.lst (((List.range h).map (clr ats y (fun i => Amx cols i j) r)).map V.int)), ?_, ?_⟩
      · obtain ⟨us, u1, u2, u3⟩ := id ks
        refine forL (xs := us.map V.ref) (fun s sl H' => ∃ c o2, sl = [some (.ref D), some (.ref kp), some (.ref pl), some (.int j), some (.ref c), o2, o4, none] ∧ Ex H2 H' ∧ H2 c = none ∧ H' c = some (.lst (((List.range h).map (clr ats y (fun i => Amx cols i j) s)).map V.int))) (fun Q q => ⟨_, rfl, q⟩) (SqL.of (ex3 _ _ u1)) ⟨c, _, rfl, ex3, nc, hc⟩ (fun s sl H4 q => by obtain ⟨_, _, _, e, _⟩ := q; exact SqL.of (e _ _ u1)) (fun s v sl H4 hv q => ?_) (fun sl H4 q => ?_)
        · obtain ⟨c4, o5, rfl, ex4, nc4, hc4⟩ := q
          rw [List.getElem?_map] at hv
          obtain ⟨u, hu, rfl⟩ := Option.map_eq_some_iff.mp hv
          have hs : s < r := by have := (List.getElem?_eq_some_iff.mp hu).1; omega
          obtain ⟨d, v1, v2, v3, v4⟩ := u3 s u hu
          have bs : bS s ≤ 5000 := by
            unfold bS
            have : 2 ^ s ≤ 2 ^ 6 := Nat.pow_le_pow_right (by decide) (by omega)
            omega
          refine ⟨_, rfl, _, rfl, _, _, _, _, rfl, rfl, SqT.of (ex4 _ _ v1), atI_nat (j := 1) rfl, _, rfl, _, _, _, _, rfl, rfl, SqT.of (ex4 _ _ v1), atI_nat (j := 0) rfl, c4, d, _, _, ats s, rfl, hc4, ex4 _ _ v2, by rw [List.length_map, List.length_map], by rw [List.length_map, List.length_range]; omega, by rw [List.length_map, List.length_range]; exact kk.lt s hs, fun z hz => ?_, fun z hz => ?_, fun D' H5 e5 nD hD' => ⟨D', _, rfl, ex4.trans e5, ex4.free nD, ?_⟩⟩
          · obtain ⟨i, hi, rfl⟩ := List.mem_map.mp hz
            exact (bx s (by omega) i (List.mem_range.mp hi)).mono bs
          · obtain ⟨i, hi, rfl⟩ := List.mem_map.mp hz
            exact (by_ s hs i (List.mem_range.mp hi)).mono bs
          · rw [hD', lcl_row _ _ (kk.lt s hs)]
            rfl
        · obtain ⟨c4, o5, rfl, ex4, nc4, hc4⟩ := q
          rw [List.length_map, u2] at hc4
          exact ⟨c4, o5, rfl, ex4, nc4, hc4⟩
      rintro sl H4 ⟨c, o2, rfl, ex4, nc, hc⟩
      let f : Nat → Int := clr ats y (fun i => Amx cols i j) r
      refine ⟨fun sl H' => ∃ F, ∃ l : List Nat, sl = [some (.ref D), some (.ref kp), some (.ref pl), some (.int j), some (.ref c), o2, some (.ref F), none] ∧ Ex H4 H' ∧ H' F = some (.lst (l.map fun i : Nat => V.int i)) ∧ (l = [] → ∀ i, i < h → f i = 0) ∧ ∀ a, l.head? = some a → a < h ∧ f a ≠ 0, ?_, ?_⟩
      · refine uAsg ⟨_, rfl, _, _, rfl, lenv (.inl (SqL.of hc)), _, rfl, by rw [List.length_map, List.length_map, List.length_range]; omega, by rw [List.length_map, List.length_map, List.length_range]; omega, ?_⟩
        rw [List.length_map, List.length_map, List.length_range]
        refine fun F nF => it_rng (lo := 0) (n := h) (fun i H' => Ex H4 H' ∧ ∃ l : List Nat, H' F = some (.lst (l.map fun i : Nat => V.int i)) ∧ l.length ≤ i ∧ (l = [] → ∀ i', i' < i → f i' = 0) ∧ ∀ a, l.head? = some a → a < h ∧ f a ≠ 0) ⟨Ex.new nF, [], upd_same, Nat.le_refl _, fun _ i hi => by omega, fun a e => by simp at e⟩ (fun i H' hi q => ?_) (fun H' q => ?_)
        · obtain ⟨e, l, l1, l2, l3, l4⟩ := q
          rw [show (0 : Int) + (i : Int) = (i : Int) by omega]
          refine ⟨rfl, _, rfl, _, rfl, _, _, _, _, rfl, rfl, SqL.of (e _ _ hc), atI_nat (by rw [List.getElem?_map, row_get hi]; rfl), rfl, _, rfl, ?_⟩
          by_cases z : f i = 0
          · refine iteNS (by show V.int (f i) = _; rw [z]) ⟨e, l, l1, by omega, fun hl i' hi' => ?_, l4⟩
            by_cases q : i' = i
            · rw [q]; exact z
            · exact l3 hl i' (by omega)
          · rw [decide_eq_false (fun q => z (V.int.inj q))]
            refine iteT ⟨_, rfl, _, l1, by rw [List.length_map, sizeLine_eq]; omega, fun b o hb => ?_, l ++ [i], ?_, by rw [List.length_append]; simp; omega, fun hl => by simp at hl, fun a ha => ?_⟩
            · rw [upd_ne (ne_of_none hb nF)]; exact e _ _ hb
            · rw [upd_same, List.map_append]; rfl
            · cases l with
              | nil => simp at ha; subst ha; exact ⟨hi, z⟩
              | cons b l => exact l4 a (by simpa using ha)
        · obtain ⟨e, l, l1, l2, l3, l4⟩ := q
          exact ⟨F, l, rfl, e, l1, l3, l4⟩
      rintro sl H5 ⟨F, l, rfl, ex5, hF, l3, l4⟩
      have E5 := ex4.trans ex5
      have hkp : KS H5 kp pl h r ats y := let ⟨us, u1, u2, u3⟩ := ks; ⟨us, E5 _ _ u1, u2, fun s u e => let ⟨c, a1, a2, a3⟩ := u3 s u e; ⟨c, E5 _ _ a1, E5 _ _ a2, a3⟩⟩
      have hc5 := ex5 _ _ hc
      have hpl5 := E5 _ _ hpl
      refine ⟨_, rfl, (by show 0 ≤ sizeLine; exact Nat.zero_le _), fun B nB => ⟨PyData.list ((l.map fun i : Nat => (i : Int)).map PyData.int), PyData.list (([] : List Int).map PyData.int), ?_, ?_, shapedI _, shapedI _, _, rfl, ?_⟩⟩
      · refine .lst (SqL.of ?_) (dpI _)
        rw [upd_ne (ne_of_none hF nB), hF, List.map_map]
        rfl
      · exact .lst (SqL.of upd_same) .nil
      rw [eqv_list_int]
      have eB : Ex H5 (upd H5 B (.lst [])) := Ex.new nB
      have EB : Ex H (upd H5 B (.lst [])) := ex.trans (E5.trans eB)
      obtain ⟨us, u1, u2, u3⟩ := hkp
      cases l with
      | nil =>
        refine iteNS rfl ⟨kp, pl, r, cs, ats, y, _, _, _, _, rfl, EB, nk, np, kpl, by omega, kk, .skip ch (kk.isMix (l3 rfl)), by_, ⟨us, eB _ _ u1, u2, fun s u e => ?_⟩, eB _ _ hpl5⟩
        obtain ⟨c, a1, a2, a3⟩ := u3 s u e
        exact ⟨c, eB _ _ a1, eB _ _ a2, a3⟩
      | cons a l =>
        obtain ⟨ah, anz⟩ := l4 a rfl
        rw [decide_eq_false (by simp)]
        have kpc : c ≠ kp := (ne_of_none (by exact ks.choose_spec.1) nc).symm
        have plc : c ≠ pl := (ne_of_none hpl nc).symm
        refine iteT ⟨_, rfl, .inl ⟨rfl, _, SqL.of (eB _ _ u1)⟩, _, rfl, _, _, _, _, rfl, rfl, SqL.of (eB _ _ hF), atI_nat (j := 0) rfl, _, rfl, (by show 2 ≤ sizeLine; rw [sizeLine_eq]; omega), fun u nu => ?_⟩
        have eU : Ex (upd H5 B (.lst [])) (upd (upd H5 B (.lst [])) u (.tup [.int (a : Nat), .ref c])) := Ex.new nu
        have e6 := eB.trans eU
        refine ⟨kp, _, _, rfl, rfl, e6 _ _ u1, by rw [List.length_map, u2, sizeLine_eq]; omega, ?_⟩
        have kpu : u ≠ kp := (ne_of_none (eB _ _ u1) nu).symm
        have plu : u ≠ pl := (ne_of_none (eB _ _ hpl5) nu).symm
        refine ⟨_, rfl, .inl ⟨rfl, _, SqL.of (by rw [upd_ne kpl.symm]; exact e6 _ _ hpl5)⟩, _, rfl, pl, _, _, rfl, rfl, by rw [upd_ne kpl.symm]; exact e6 _ _ hpl5, by rw [List.length_map, List.length_map, List.length_range, sizeLine_eq]; omega, ?_⟩
        refine ⟨kp, pl, r + 1, put cs r j, put ats r a, fun t => if t = r then f else y t, _, _, _, _, rfl, fun b o hb => ?_, nk, np, kpl, by omega, kk.next ah anz (fun t ht => by rw [if_neg (by omega)]) (fun i _ => by rw [if_pos rfl]), by rw [places_put]; exact .take ch (kk.noMix ah anz), fun s hs i hi => ?_, ⟨us ++ [u], ?_, by rw [List.length_append, u2]; rfl, fun s u' e => ?_⟩, ?_⟩
        · rw [upd_ne (ne_of_none hb np), upd_ne (ne_of_none hb nk)]
          exact (EB.trans eU) _ _ hb
        · dsimp only
          by_cases q : s = r
          · rw [if_pos q, q]; exact bx r (Nat.le_refl r) i hi
          · rw [if_neg q]; exact by_ s (by omega) i hi
        · rw [upd_ne kpl, upd_same, List.map_append]; rfl
        · by_cases q : s < r
          · rw [List.getElem?_append_left (by omega)] at e
            obtain ⟨c', a1, a2, a3, a4⟩ := u3 s u' e
            have n1 : u' ≠ kp := fun z => by rw [z, u1] at a1; cases a1
            have n2 : u' ≠ pl := fun z => by rw [z, hpl5] at a1; cases a1
            refine ⟨c', by rw [upd_ne n2, upd_ne n1, put_lt q]; exact e6 _ _ a1, ?_, a3, a4⟩
            rw [upd_ne a3, upd_ne a4]
            dsimp only
            rw [if_neg (show ¬ s = r by omega)]
            exact e6 _ _ a2
          · have hs : s = r := by
              have := (List.getElem?_eq_some_iff.mp e).1
              rw [List.length_append] at this
              simp at this
              omega
            subst hs
            rw [List.getElem?_append_right (by omega), u2, Nat.sub_self] at e
            cases e
            refine ⟨c, by rw [upd_ne plu, upd_ne kpu, put_at]; exact upd_same, ?_, plc, kpc⟩
            rw [upd_ne plc, upd_ne kpc]
            dsimp only
            rw [if_pos (show s = s from rfl)]
            exact e6 _ _ hc5
        · rw [upd_same, places_put, List.map_append]
          rfl
    · obtain ⟨kp, pl, r, cs, ats, y, o1, o2, o3, o4, rfl, ex, nk, np, kpl, rj, kk, ch, by_, ks, hpl⟩ := q
      exact ⟨_, rfl, k _ pl H2 ch ex np hpl⟩
end
end Fc
set_option Elab.async false
set_option linter.all false
set_option maxRecDepth 100000
set_option maxHeartbeats 4000000
set_option exponentiation.threshold 100000
namespace Fc
open PySem PySem.Spec PyProof.Rows L2 L2H
section
variable {P : Program} {w : World} {K : PySem.W.Frag} {mg : Str → Option Value} {base : Heap} {A : Ad}
theorem RowsL.keep {H H' : Hp} {L p l : Addr} {m : List (List Int)} (h : RowsL H L m) (n : L ≠ p) (pot : PotL H p l) (k : Keep p H H') : RowsL H' L m := by
  obtain ⟨as, a, b, c⟩ := h
  obtain ⟨cs, i, d, ne, h1, _⟩ := pot
  refine ⟨as, k _ _ a n, b, fun j x r e1 e2 => k _ _ (c j x r e1 e2) fun e => ?_⟩
  have := c j x r e1 e2
  rw [e, h1] at this
  cases r with
  | nil => cases this
  | cons y r => cases this
theorem RowsL.add {H : Hp} {L D : Addr} {m : List (List Int)} {as : List Addr} {r : List Int} (h1 : H L = some (.lst (as.map V.ref))) (h2 : as.length = m.length)
    (h3 : ∀ (i : Nat) a r, as[i]? = some a → m[i]? = some r → H a = some (.lst (r.map V.int))) (hD : H D = some (.lst (r.map V.int))) (nL : ∀ a ∈ D :: as, a ≠ L) :
    RowsL (upd H L (.lst (as.map V.ref ++ [.ref D]))) L (m ++ [r]) := by
  refine ⟨as ++ [D], by rw [upd_same, List.map_append]; rfl, by rw [List.length_append, List.length_append, h2]; rfl, fun i a q e1 e2 => ?_⟩
  by_cases c : i < as.length
  · rw [List.getElem?_append_left c] at e1
    rw [List.getElem?_append_left (by omega)] at e2
    rw [upd_ne (nL a (by simp [List.mem_of_getElem? e1]))]
    exact h3 i a q e1 e2
  · have hi : i = as.length := by
      have := (List.getElem?_eq_some_iff.mp e1).1
      rw [List.length_append] at this
      simp at this
      omega
    subst hi
    rw [List.getElem?_append_right (Nat.le_refl _)] at e1
    rw [h2, List.getElem?_append_right (Nat.le_refl _)] at e2
    simp at e1 e2
    subst e1 e2
    rw [upd_ne (nL D (by simp))]
    exact hD
theorem mul_small {i j : Int} (h : i.natAbs < 2 ^ 4) (g : j.natAbs < 1000) : CMulW i j := Bd.w (n := 4) (m := 10) h (Nat.lt_trans g (by decide))
theorem PotL.p {H : Hp} {p l a : Addr} (h : PotL H p l) (n : H a = none) : a ≠ p ∧ a ≠ l := by
  obtain ⟨cs, i, c, ne, h1, h2, _⟩ := h
  exact ⟨(fun e => by rw [e, h1] at n; cases n), (fun e => by rw [e, h2] at n; cases n)⟩
def InB (b : Int) (r : List Int) : Prop := ∀ x ∈ r, -b ≤ x ∧ x ≤ b
def bC (s : Nat) : Int := 2 ^ 34 * 4 ^ s
theorem bC_succ (s : Nat) : bC (s + 1) = 4 * bC s := by unfold bC; rw [Int.pow_succ]; omega
theorem bC_pos (s : Nat) : 2 ^ 34 ≤ bC s := by
  induction s with
  | zero => decide
  | succ s ih => rw [bC_succ]; omega
theorem bC_le {s : Nat} (h : s ≤ 6) : bC s ≤ 2 ^ 46 := by
  have : s = 0 ∨ s = 1 ∨ s = 2 ∨ s = 3 ∨ s = 4 ∨ s = 5 ∨ s = 6 := by omega
  rcases this with rfl | rfl | rfl | rfl | rfl | rfl | rfl <;> decide
theorem more_InB {x y : List Int} {a b t : Int} (el : x.length = y.length) (hx : InB a x) (hy : InB b y) (t1 : -3 ≤ t) (t2 : t ≤ 3) : InB (a + 3 * b) (moreL x y t) := by
  intro z hz
  unfold moreL at hz
  obtain ⟨i, hi, rfl⟩ := List.mem_map.mp hz
  have hi := List.mem_range.mp hi
  have h1 := hx _ (List.mem_of_getElem? (getD_some hi))
  have h2 := hy _ (List.mem_of_getElem? (getD_some (x := y) (i := i) (by omega)))
  have h3 := mul_abs (x := 3) (y := b) (show -3 ≤ t ∧ t ≤ 3 from ⟨t1, t2⟩) h2
  omega
def TblOk (cols : List (List Int)) (h : Nat) : Prop := (∀ r ∈ cols, r.length = h) ∧ ∀ (s : Nat) r, cols[s]? = some r → InB (bC s) r
def spTable : Sp := fun vs H Q _ => ∃ (p l : Addr) (h w : Nat), vs = [.ref p, .int (h : Int), .int (w : Int)] ∧ PotL H p l ∧ h ≤ 10 ∧ w ≤ 6 ∧
  ∀ L cols H', RowsL H' L cols → cols.length = w → TblOk cols h → PotL H' p l → Keep p H H' → H L = none → Q (.ref L) H'
theorem ok_table (T : Txt K mg A) : FnOk P w K mg base CX0 3 A.f_table A.d_table ["pot", "height", "width"] spTable := by
  refine T.F_table.ok sc_table (fun vs H Q E h => ?_) (fun cdv Ar outer s H vs Q E hr h => ?_)
  · obtain ⟨p, l, h, w, rfl, _⟩ := h
    rfl
  · obtain ⟨p, l, h, w, rfl, pot, lh, lw, k⟩ := h
    refine ⟨_, (C8.pss_cut (ps_set (i := 3) sc_table.nd rfl (Or.inl rfl) (pe_call (ok_digit T) (hr.mono (by decide)) rfl T.g_digit T.F_digit.kp T.b_digit .nil pass0 (pa_cons (pv 0) (pa_cons pe_int pa_nil))))
      (pss_cons (ps_set (i := 4) sc_table.nd rfl (Or.inl rfl) pe_int)
      (C8.pss_cut (ps_if (pt_cmpR op_gt (pv 3) pe_int (nomark _))
      (pss_one (ps_set (i := 4) sc_table.nd rfl (Or.inl rfl) pe_int)) pss_nil)
      (C8.pss_cut (ps_if (pt_cmpR op_eq (pv 3) pe_int (nomark _))
      (pss_one (ps_set (i := 4) sc_table.nd rfl (Or.inl rfl) (pe_op op_add (pe_op op_mulW pe_int (pe_op op_pow pe_int pe_int)) pe_int))) pss_nil)
      (pss_cons (ps_set (i := 5) sc_table.nd rfl (Or.inl rfl) (pe_lst pa_nil))
      (pss_cons (ps_for PassesOwn.never rfl (pi_range1 rfl T.n_range (pa_cons (pv 2) pa_nil)) (pg_name (i := 6) sc_table.nd rfl (Or.inl rfl))
      (pss_cons (ps_set (i := 3) sc_table.nd rfl (Or.inl rfl) (pe_call (ok_digit T) (hr.mono (by decide)) rfl T.g_digit T.F_digit.kp T.b_digit .nil pass0 (pa_cons (pv 0) (pa_cons pe_int pa_nil))))
      (C8.pss_cut (ps_set (i := 7) sc_table.nd rfl (Or.inl rfl) (pe_op op_add pe_int (pe_op op_mulW (pe_op op_mulW pe_int (pv 6)) (pv 6))))
      (C8.pss_cut (ps_setLc (i := 8) (own := [("i", 9)]) (g := gName 9) (tt := tYes) rfl sc_table.nd rfl rfl (sw_true rfl rfl rfl (by decide +kernel)) (pi_range1 rfl T.n_range (pa_cons (pv 1) pa_nil)) (blkOk_by (own := [("i", 9)]) (N := N_table) (sc := defScope S_table) (by decide +kernel)) (fun _ _ _ _ _ => pg_name (i := 9) sc_table.nd rfl (Or.inl rfl)) (fun _ _ _ _ _ => pts_nil) (fun _ _ _ _ _ => pe_int))
      (C8.pss_cut (ps_if (pt_cmpR op_lt (pv 3) pe_int (nomark _))
      (pss_one (ps_for PassesOwn.never rfl (pi_range1 rfl T.n_range (pa_cons (pv 1) pa_nil)) (pg_name (i := 9) sc_table.nd rfl (Or.inl rfl))
      (pss_one (ps_asg (pe_call (ok_number T) (hr.mono (by decide)) rfl T.g_number T.F_number.kp T.b_number .nil pass0 (pa_cons (pv 0) (pa_cons (pv 4) (pa_cons (pe_op op_add (pv 7) (pe_op op_mulW pe_int (pv 9))) pa_nil)))) (pg_sub (pv 8) (pv 9) set_list))))) pss_nil)
      (C8.pss_cut (ps_if (pt_cmpR op_eq (pv 3) pe_int (nomark _))
      (pss_one (ps_for PassesOwn.never rfl (pi_list (pv 5)) (pg_name (i := 10) sc_table.nd rfl (Or.inl rfl))
      (pss_one (ps_set (i := 8) sc_table.nd rfl (Or.inl rfl) (pe_call (ok_more T) (hr.mono (by decide)) rfl T.g_more T.F_more.kp T.b_more .nil pass0 (pa_cons (pv 8) (pa_cons (pv 10) (pa_cons (pe_op op_sub pe_int (pe_call (ok_digit T) (hr.mono (by decide)) rfl T.g_digit T.F_digit.kp T.b_digit .nil pass0 (pa_cons (pv 0) (pa_cons pe_int pa_nil)))) pa_nil)))))))) pss_nil)
      (pss_one (ps_expr (pe_bm PySem.F.plainAttrs_list PySem.F.slot_list_append PySem.F.type_list_append mt_append (pv 5) (pa_cons (pv 8) pa_nil))))))))))
      (pss_one (ps_ret (pv 5))))))))), ?_⟩
    refine ⟨fun sl H' => ∃ kd : Int, sl = [some (.ref p), some (.int (h : Int)), some (.int (w : Int)), some (.int kd), none, none, none, none, none, none, none] ∧ PotL H' p l ∧ Keep p H H', ?_, ?_⟩
    · exact ⟨_, rfl, p, l, 8, rfl, pot, by decide, bd_of (by decide), fun d H1 a b p1 k1 => ⟨d, rfl, p1, k1⟩⟩
    rintro sl H1 ⟨kd, rfl, p1, k1⟩
    refine ⟨fun sl H' => ∃ m : Int, sl = [some (.ref p), some (.int (h : Int)), some (.int (w : Int)), some (.int kd), some (.int m), none, none, none, none, none, none] ∧ 0 < m ∧ m ≤ 2 * 10 ^ 9 + 1 ∧ H' = H1, ?_, ?_⟩
    · refine ⟨_, rfl, _, _, rfl, rfl, _, rfl, ite2 (fun _ => ?_) (fun _ => ?_)⟩
      · exact ⟨199, rfl, by decide, by decide, rfl⟩
      · exact ⟨19, rfl, by decide, by decide, rfl⟩
    rintro sl H' ⟨m0, rfl, m1, m2, rfl⟩
    have b9 : Bd 30 ((10 : Int) ^ (9 : Int).toNat) := by show ((10 : Int) ^ 9).natAbs < 2 ^ 30; decide +kernel
    refine ⟨fun sl H2 => ∃ m : Int, sl = [some (.ref p), some (.int (h : Int)), some (.int (w : Int)), some (.int kd), some (.int m), none, none, none, none, none, none] ∧ 0 < m ∧ m ≤ 2 * 10 ^ 9 + 1 ∧ H2 = H', ?_, ?_⟩
    · refine ⟨_, rfl, rfl, _, rfl, ite2 (fun _ => ?_) (fun _ => ?_)⟩
      · exact ⟨_, _, rfl, rfl, cpow 10 9 (by decide) (by decide), _, _, rfl, rfl, bd_two.w b9, _, _, rfl, rfl, 2 * (10 : Int) ^ (9 : Int).toNat + 1, rfl, by decide +kernel, by decide +kernel, rfl⟩
      · exact ⟨m0, rfl, m1, m2, rfl⟩
    clear m1 m2
    rintro sl H2 ⟨m, rfl, m1, m2, rfl⟩
    have bm : Bd 300 m := by
      show m.natAbs < 2 ^ 300
      have : (2 : Nat) ^ 300 > 3000000000 := by decide +kernel
      omega
    refine ⟨(by show 0 ≤ sizeLine; exact Nat.zero_le _), fun L nL => ?_⟩
    obtain ⟨np, nl⟩ := p1.p nL
    dsimp only [gName]
    refine uSeq (forR (lo := 0) (n := w) (fun j sl H3 => ∃ cols o3 o6 o7 o8 o9 o10, sl = [some (.ref p), some (.int (h : Int)), some (.int (w : Int)), o3, some (.int m), some (.ref L), o6, o7, o8, o9, o10] ∧ PotL H3 p l ∧ Keep p H2 H3 ∧ RowsL H3 L cols ∧ cols.length = j ∧ TblOk cols h) (fun P q => ⟨_, rfl, (w : Int), rfl, by omega, by omega, by simpa using q⟩) ?_ (fun j sl H3 hj q => ?_) (fun sl H3 q => ?_))
    · exact ⟨[], _, _, _, _, _, _, rfl, p1.ex (Ex.new nL), Keep.new nL, ⟨[], upd_same, rfl, fun i a r e => by simp at e⟩, rfl, ⟨fun r hr => (by cases hr), fun s r e => (by simp at e)⟩⟩
    · obtain ⟨cols, o3, o6, o7, o8, o9, o10, rfl, p3, k3, rw3, lc, ok⟩ := q
      rw [show (0 : Int) + (j : Int) = (j : Int) by omega]
      refine ⟨_, rfl, p, l, 4, rfl, p3, by decide, bd_of (by decide), fun kd H4 a b p4 k4 => ?_⟩
      have bj : Bd 10 (j : Int) := by show (j : Int).natAbs < 2 ^ 10; omega
      have b3j : Bd 12 (3 * (j : Int)) := by show (3 * (j : Int)).natAbs < 2 ^ 12; omega
      refine ⟨fun sl H5 => ∃ sh : Int, sl = [some (.ref p), some (.int (h : Int)), some (.int (w : Int)), some (.int kd), some (.int m), some (.ref L), some (.int j), some (.int sh), o8, o9, o10] ∧ H5 = H4, ?_, ?_⟩
      · exact ⟨_, rfl, _, _, rfl, rfl, (bd_of (by decide) : Bd 3 (3 : Int)).w bj, _, rfl, _, _, rfl, rfl, b3j.w bj, _, _, rfl, rfl, _, rfl, rfl⟩
      rintro sl H5 ⟨sh, rfl, rfl⟩
      refine ⟨fun sl HX => ∃ c, sl = [some (.ref p), some (.int (h : Int)), some (.int (w : Int)), some (.int kd), some (.int m), some (.ref L), some (.int j), some (.int sh), some (.ref c), o9, o10] ∧ H5 c = none ∧ Ex H5 HX ∧ HX c = some (.lst (((List.range h).map fun _ => (0 : Int)).map V.int)), ?_, ?_⟩
      · refine uAsg (lcR (lo := 0) (n := h) (fun i v H' => v = V.int 0) (by omega) (fun P q => ⟨_, rfl, (h : Int), rfl, by omega, by omega, by simpa using q⟩) (fun i HX D hi exX hD Q2 kq => ⟨rfl, kq _ _ (fun _ _ h => h) fun _ _ => rfl⟩) (fun D HX vs nD exX e1 e2 e3 => ⟨D, rfl, nD, exX, ?_⟩))
        rw [e1, vals_int (f := fun _ => 0) e2 e3]
      rintro sl HX ⟨c, rfl, nc, exX, hc⟩
      obtain ⟨cp, cl⟩ := p4.p nc
      refine ⟨fun sl H6 => ∃ cs o9, sl = [some (.ref p), some (.int (h : Int)), some (.int (w : Int)), some (.int kd), some (.int m), some (.ref L), some (.int j), some (.int sh), some (.ref c), o9, o10] ∧ PotL H6 p l ∧ Keep p H5 H6 ∧ H6 c = some (.lst (cs.map V.int)) ∧ cs.length = h ∧ (kd = 2 → InB 0 cs) ∧ InB (2 ^ 34) cs, ?_, ?_⟩
      · have c0 : ((List.range h).map fun _ => (0 : Int)).length = h := by rw [List.length_map, List.length_range]
        have z0 : InB 0 ((List.range h).map fun _ => (0 : Int)) := fun x hx => by
          obtain ⟨_, _, rfl⟩ := List.mem_map.mp hx
          decide
        refine ⟨_, rfl, _, _, rfl, rfl, _, rfl, ite2 (fun cc => ?_) (fun _ => ?_)⟩
        · have k2 : kd < 2 := of_decide_eq_true cc
          refine forR (lo := 0) (n := h) (fun i sl H6 => ∃ cs o9, sl = [some (.ref p), some (.int (h : Int)), some (.int (w : Int)), some (.int kd), some (.int m), some (.ref L), some (.int j), some (.int sh), some (.ref c), o9, o10] ∧ PotL H6 p l ∧ Keep p H5 H6 ∧ H6 c = some (.lst (cs.map V.int)) ∧ cs.length = h ∧ InB (2 ^ 34) cs) (fun P q => ⟨_, rfl, (h : Int), rfl, by omega, by omega, by simpa using q⟩) ?_ (fun i sl H6 hi q => ?_) (fun sl H6 q => ?_)
          · exact ⟨_, _, rfl, p4.ex exX, Keep.of exX, hc, c0, fun x hx => by have := z0 x hx; omega⟩
          · obtain ⟨cs, o9, rfl, p6, k6, hcs, lcs, bcs⟩ := q
            rw [show (0 : Int) + (i : Int) = (i : Int) by omega]
            have c7 : CMulW 7 (i : Int) := (bd_of (by decide) : Bd 3 (7 : Int)).w (show Bd 10 (i : Int) from (by show (i : Int).natAbs < 2 ^ 10; omega))
            refine ⟨_, rfl, _, rfl, _, rfl, _, rfl, _, _, rfl, rfl, c7, _, _, rfl, rfl, p, l, m, _, rfl, p6, m1, bm, fun n H7 n1 n2 p7 k7 => ?_⟩
            have hcs7 := k7 _ _ hcs cp
            refine ⟨_, rfl, _, rfl, c, _, _, i, rfl, rfl, hcs7, ixN_n (by rw [List.length_map]; omega), cs.set i n, _, rfl, p7.keep (D := c) Keep.upd cp cl, fun b o hb ne => ?_, by rw [upd_same, List.map_set], by rw [List.length_set]; exact lcs, fun x hx => ?_⟩
            · rw [upd_ne (ne_of_none hb nc)]; exact (k6.trans k7) b o hb ne
            · rcases List.mem_or_eq_of_mem_set hx with hx | rfl
              · exact bcs x hx
              · omega
          · obtain ⟨cs, o9, rfl, p6, k6, hcs, lcs, bcs⟩ := q
            exact ⟨cs, o9, rfl, p6, k6, hcs, lcs, fun z => by omega, bcs⟩
        · exact ⟨_, _, rfl, p4.ex exX, Keep.of exX, hc, c0, fun _ => z0, fun x hx => by have := z0 x hx; omega⟩
      rintro sl H6 ⟨cs, o9', rfl, p6, k6, hcs, lcs, b0, b34⟩
      refine ⟨fun sl H7 => ∃ c cs o10, sl = [some (.ref p), some (.int (h : Int)), some (.int (w : Int)), some (.int kd), some (.int m), some (.ref L), some (.int j), some (.int sh), some (.ref c), o9', o10] ∧ PotL H7 p l ∧ Keep p H5 H7 ∧ H5 c = none ∧ H7 c = some (.lst (cs.map V.int)) ∧ cs.length = h ∧ InB (bC j) cs, ?_, ?_⟩
      · have rw6 := (rw3.keep np p3 k4).keep np p4 k6
        obtain ⟨as, a1, a2, a3⟩ := id rw6
        have bj34 := bC_pos j
        refine ⟨_, rfl, rfl, _, rfl, ite2 (fun cc => ?_) (fun _ => ?_)⟩
        · have k2 : kd = 2 := V.int.inj (of_decide_eq_true cc)
          refine forL (xs := as.map V.ref) (fun s sl H7 => ∃ c cs o10, sl = [some (.ref p), some (.int (h : Int)), some (.int (w : Int)), some (.int kd), some (.int m), some (.ref L), some (.int j), some (.int sh), some (.ref c), o9', o10] ∧ PotL H7 p l ∧ Keep p H6 H7 ∧ H5 c = none ∧ H7 c = some (.lst (cs.map V.int)) ∧ cs.length = h ∧ InB (bC s - 2 ^ 34) cs) (fun Q q => ⟨_, rfl, q⟩) (SqL.of a1) ⟨c, cs, _, rfl, p6, .refl, nc, hcs, lcs, b0 k2⟩ (fun s sl H7 q => by obtain ⟨_, _, _, _, _, e, _⟩ := q; exact SqL.of (e _ _ a1 np)) (fun s v sl H7 hv q => ?_) (fun sl H7 q => ?_)
          · obtain ⟨c7, cs7, o7', rfl, p7, k7, nc7, hcs7, lcs7, b7⟩ := q
            rw [List.getElem?_map] at hv
            obtain ⟨u, hu, rfl⟩ := Option.map_eq_some_iff.mp hv
            have hs : s < cols.length := by have := (List.getElem?_eq_some_iff.mp hu).1; omega
            have hcu := List.getElem?_eq_getElem hs
            have lu := ok.1 _ (List.getElem_mem hs)
            have bu := ok.2 s _ hcu
            have bs6 := bC_le (show s ≤ 6 by omega)
            refine ⟨_, rfl, _, rfl, _, rfl, p, l, 7, rfl, p7, by decide, bd_of (by decide), fun d H8 d0 d1 p8 k8 => ?_⟩
            have rw8 := (rw6.keep np p6 k7).keep np p7 k8
            obtain ⟨as8, z1, z2, z3⟩ := rw8
            have ea : as8 = as := by
              have q := (k8 _ _ (k7 _ _ a1 np) np)
              rw [q] at z1
              have := HO.lst.inj (Option.some.inj z1)
              exact (List.map_inj_right (fun a b e => V.ref.inj e)).mp this.symm
            subst ea
            have c7p : c7 ≠ p := (p4.p nc7).1
            refine ⟨_, _, rfl, rfl, c7, u, cs7, cols[s], 3 - d, rfl, k8 _ _ hcs7 c7p, z3 s _ _ hu hcu, by rw [lcs7, lu], by omega, ?_, fun z hz => ?_, fun D H9 e9 nD hD => ⟨D, _, _, rfl, p8.ex e9, (k7.trans k8).trans (Keep.of e9), ?_, hD, ?_, ?_⟩⟩
            · have d1' : d < 7 := d1
              show (3 - d).natAbs < 2 ^ 10
              omega
            · have := bu z hz
              exact bd_le (n := 5000) (j := 2 ^ 46) (bd_of (by decide +kernel)) (by omega) (by omega)
            · cases e : H5 D with
              | none => rfl
              | some o => exact absurd (((k6.trans k7).trans k8) D o e (p8.p nD).1) (by rw [nD]; intro z; cases z)
            · unfold moreL
              rw [List.length_map, List.length_range]; exact lcs7
            · have d1' : d < 7 := d1
              have q := more_InB (t := 3 - d) (by rw [lcs7, lu]) b7 bu (by omega) (by omega)
              rw [bC_succ]
              intro z hz
              have := q z hz
              omega
          · obtain ⟨c7, cs7, o7', rfl, p7, k7, nc7, hcs7, lcs7, b7⟩ := q
            rw [List.length_map, a2, lc] at b7
            exact ⟨c7, cs7, _, rfl, p7, k6.trans k7, nc7, hcs7, lcs7, fun x hx => by have := b7 x hx; omega⟩
        · exact ⟨c, cs, _, rfl, p6, k6, nc, hcs, lcs, fun x hx => by have := b34 x hx; omega⟩
      rintro sl H7 ⟨c, cs, o10', rfl, p7, k7, nc, hcs, lcs, bcs⟩
      have rw5 := rw3.keep np p3 k4
      have rw7 := rw5.keep np p4 k7
      obtain ⟨as, a1, a2, a3⟩ := rw7
      obtain ⟨as5, y1, y2, y3⟩ := id rw5
      have cL : c ≠ L := (ne_of_none y1 nc).symm
      refine ⟨_, rfl, .inl ⟨rfl, _, SqL.of a1⟩, _, rfl, L, _, _, rfl, rfl, a1, by rw [List.length_map, sizeLine_eq]; omega, cols ++ [cs], _, _, _, _, _, _, rfl, p7.keep (D := L) Keep.upd np nl, fun b o hb ne => ?_, RowsL.add a1 a2 a3 hcs fun a ha => ?_, by rw [List.length_append, lc]; rfl, ⟨fun r hr' => ?_, fun s r e => ?_⟩⟩
      · rw [upd_ne (ne_of_none hb nL)]
        exact ((k3.trans k4).trans k7) b o hb ne
      · rcases List.mem_cons.mp ha with ha | ha
        · rw [ha]; exact cL
        · intro e
          obtain ⟨i, hi⟩ := List.mem_iff_getElem?.mp ha
          have hil := (List.getElem?_eq_some_iff.mp hi).1
          have := a3 i a _ hi (List.getElem?_eq_getElem (by omega))
          rw [e, a1] at this
          cases as with
          | nil => cases ha
          | cons y as =>
            cases hq : cols[i]'(by omega) with
            | nil => rw [hq] at this; cases this
            | cons z r => rw [hq] at this; cases this
      · rcases List.mem_append.mp hr' with hr' | hr'
        · exact ok.1 r hr'
        · rw [List.mem_singleton.mp hr']; exact lcs
      · by_cases q : s < cols.length
        · rw [List.getElem?_append_left q] at e
          exact ok.2 s r e
        · have hs : s = cols.length := by
            have := (List.getElem?_eq_some_iff.mp e).1
            rw [List.length_append] at this
            simp at this
            omega
          subst hs
          rw [List.getElem?_append_right (Nat.le_refl _)] at e
          simp at e
          subst e
          rw [lc]
          exact bcs
    · obtain ⟨cols, o3, o6, o7, o8, o9, o10, rfl, p3, k3, rw3, lc, ok⟩ := q
      refine ⟨_, rfl, k L cols H3 rw3 lc ok p3 (k1.trans k3) ?_⟩
      cases e : H L with
      | none => rfl
      | some o => exact absurd (k1 L o e np) (by rw [nL]; intro z; cases z)
end
end Fc
set_option Elab.async false
set_option linter.all false
set_option maxRecDepth 100000
set_option maxHeartbeats 4000000
set_option exponentiation.threshold 100000
namespace Fc
open PySem PySem.Spec PyProof.Rows L2 L2H
/-- terms over one bottom p add up to the sum over p -/
theorem mixAcc_sum {ts : Nat → Int × Int} {x X : Nat → Int} {p : Int} : ∀ {n : Nat}, (∀ k, k < n → (ts k).1 * p = X k * (ts k).2) → (mixAcc ts x n).1 * p = (mixAcc ts x n).2 * sumN n fun k => X k * x k
  | 0, _ => by show (0 : Int) * p = 1 * 0; omega
  | n + 1, h => by
    have a := mixAcc_sum (n := n) (x := x) fun k hk => h k (by omega)
    have b := h n (by omega)
    rw [sumN]
    show ((mixAcc ts x n).1 * (ts n).2 + (ts n).1 * x n * (mixAcc ts x n).2) * p = (mixAcc ts x n).2 * (ts n).2 * (sumN n (fun k => X k * x k) + X n * x n)
    generalize (mixAcc ts x n).1 = A1 at *
    generalize (mixAcc ts x n).2 = A2 at *
    generalize sumN n (fun k => X k * x k) = S at *
    have e1 : (A1 * (ts n).2 + (ts n).1 * x n * A2) * p = (A1 * p) * (ts n).2 + ((ts n).1 * p) * (x n * A2) := by grind
    rw [e1, a, b]
    grind
/-- a column told exactly -/
theorem mixAcc_eq {ts : Nat → Int × Int} {x X : Nat → Int} {p c : Int} {n : Nat} (h : ∀ k, k < n → (ts k).1 * p = X k * (ts k).2) (p0 : p ≠ 0) (e : p * c = sumN n fun k => X k * x k) : (mixAcc ts x n).1 = c * (mixAcc ts x n).2 := by
  have a := mixAcc_sum (x := x) h
  rw [← e] at a
  refine Int.eq_of_mul_eq_mul_right p0 ?_
  rw [a]
  grind
/-- a table of lists is told by its entries -/
theorem Lmx_mxL {A : Mx} {h N i j : Nat} (hi : i < h) (hj : j < N) : Lmx (mxL A h N) i j = A i j := by
  unfold Lmx
  rw [mxL_row hi, Option.getD_some, row_get hj]
  rfl
theorem GOk.of {m : List (List Int)} (hm : m.length ≤ 5) (hw : wideOf m ≤ 6) (hr : ∀ r ∈ m, r.length = wideOf m) (b : InM (2 ^ 46) (Lmx m) m.length (wideOf m)) : GOk m (2 ^ 46) :=
  ⟨hr, by omega, by omega, by decide, b, fun n hn => by
    have : n = 0 ∨ n = 1 ∨ n = 2 ∨ n = 3 ∨ n = 4 ∨ n = 5 := by omega
    rcases this with rfl | rfl | rfl | rfl | rfl | rfl <;> exact bd_of (by decide +kernel)⟩
end Fc
set_option Elab.async false
set_option linter.all false
set_option maxRecDepth 100000
set_option maxHeartbeats 4000000
set_option exponentiation.threshold 100000
namespace Fc
open PySem PySem.Spec PyProof.Rows L2 L2H
structure Rect (m : List (List Int)) : Prop where
  l : m.length ≤ 64
  w : wideOf m ≤ 64
  r : ∀ r ∈ m, r.length = wideOf m
theorem Rect.sh {m : List (List Int)} (h : Rect m) : ShapeOk (m.map List.length) := by
  refine ⟨by rw [List.length_map]; exact h.l, fun n hn => ?_⟩
  obtain ⟨r, hr, rfl⟩ := List.mem_map.mp hn
  rw [h.r r hr]
  refine ⟨h.w, ?_⟩
  cases m with
  | nil => cases hr
  | cons a m => rw [List.map_cons, List.head?_cons]; rfl
theorem rd_grid {K : PySem.W.Frag} {A : Ad} {a : Addr} {o : Int} {m : List (List Int)} {H : Hp} {R : Addr → Hp → Prop} {E : XK} (hm : ∃ xs, MatV K H a xs m) (sh : Rect m) (o1 : 1 ≤ o) (bo : Bd 8900 o)
    (k : ∀ x H', Ex H H' → H x = none → GridAt A H' x (nR m o) (nO m o) → R x H') :
    ∀ x dx, H x = none → H dx = none → dx ≠ x → spGInit K A [.ref x, .ref a, .int o] (upd (upd H dx (.own x)) x (.ins A.Gr dx [])) (fun v H2 => v = .non ∧ R x H2) E := by
  intro x dx nx nd ne
  obtain ⟨xs, hm⟩ := hm
  have e : Ex H (upd (upd H dx (.own x)) x (.ins A.Gr dx [])) := fun b o e => by rw [upd_ne (ne_of_none e nx), upd_ne (ne_of_none e nd)]; exact e
  have hm2 := hm.ex e
  exact ⟨x, dx, a, xs, _, o, rfl, upd_same, hm2.lens, by have := sh.l; rw [List.length_map]; omega, fun n => absurd sh.sh n, fun _ c => absurd c (by omega), fun _ _ => ⟨bo, m, rfl, hm2, fun H' kp g => ⟨rfl, k x H' (Same.made nx nd kp) nx g⟩⟩⟩
def mulR (m : List (List Int)) (t : Int) : List (List Int) := m.map fun r => r.map fun x => x * t
theorem gcdL_cons (g : Nat) (r : List Int) : gcdL ((g : Int) :: r) = r.foldl (fun d n => Nat.gcd d n.natAbs) g := by
  unfold gcdL
  rw [List.foldl_cons, Int.natAbs_natCast, Nat.gcd_zero_left]
theorem foldg_dvd : ∀ (l : List Int) (a : Nat), l.foldl (fun g n => Nat.gcd g n.natAbs) a ∣ a ∧ ∀ x ∈ l, l.foldl (fun g n => Nat.gcd g n.natAbs) a ∣ x.natAbs
  | [], a => ⟨Nat.dvd_refl _, fun x h => by cases h⟩
  | y :: l, a => by
    obtain ⟨h1, h2⟩ := foldg_dvd l (Nat.gcd a y.natAbs)
    refine ⟨Nat.dvd_trans h1 (Nat.gcd_dvd_left _ _), fun x hx => ?_⟩
    rcases List.mem_cons.mp hx with rfl | hx
    · exact Nat.dvd_trans h1 (Nat.gcd_dvd_right _ _)
    · exact h2 x hx
theorem sharedG_cell : ∀ (m : List (List Int)) (g : Nat), ∀ r ∈ m, ∀ x ∈ r, sharedG m g ∣ x.natAbs
  | [], _, r, h => by cases h
  | q :: m, g, r, h => fun x hx => by
    show sharedG m (gcdL ((g : Int) :: q)) ∣ _
    rcases List.mem_cons.mp h with rfl | h
    · refine Nat.dvd_trans (sharedG_dvd _ _) ?_
      rw [gcdL_cons]
      exact (foldg_dvd r g).2 x hx
    · exact sharedG_cell m _ r h x hx
theorem fdiv_back {x g : Int} (hg : 0 < g) (h : g.natAbs ∣ x.natAbs) : x.fdiv g * g = x := by
  rw [Int.fdiv_eq_ediv_of_nonneg _ (Int.le_of_lt hg)]
  exact Int.ediv_mul_cancel (Int.natAbs_dvd_natAbs.mp h)
theorem nG_abs (m : List (List Int)) (o : Int) : (nG m o).natAbs = sharedG m o.toNat := Int.natAbs_natCast _
theorem norm_back {m : List (List Int)} {o : Int} (o1 : 1 ≤ o) : m = mulR (nR m o) (nG m o) ∧ o = nO m o * nG m o := by
  constructor
  · unfold mulR nR
    rw [List.map_map]
    conv => lhs; rw [← List.map_id m]
    refine List.map_congr_left fun r hr => ?_
    rw [Function.comp, List.map_map, id]
    conv => lhs; rw [← List.map_id r]
    refine List.map_congr_left fun x hx => ?_
    exact (fdiv_back (nG_pos o1) (by rw [nG_abs]; exact sharedG_cell m _ r hr x hx)).symm
  · unfold nO
    refine (fdiv_back (nG_pos o1) ?_).symm
    rw [nG_abs]
    have := sharedG_dvd m o.toNat
    rwa [show o.natAbs = o.toNat by omega]
theorem nO_pos {m : List (List Int)} {o : Int} (o1 : 1 ≤ o) : 1 ≤ nO m o := by
  have h := (norm_back (m := m) o1).2
  have g := nG_pos (m := m) o1
  rcases Int.lt_or_le (nO m o) 1 with c | c
  · have : nO m o * nG m o ≤ 0 := Int.mul_nonpos_of_nonpos_of_nonneg (by omega) (by omega)
    omega
  · exact c
theorem Lmx_mul (m : List (List Int)) (k : Int) (i j : Nat) : Lmx (mulR m k) i j = k * Lmx m i j := by
  unfold Lmx mulR
  rw [List.getElem?_map]
  cases h : m[i]? with
  | none => simp
  | some r =>
    simp only [Option.map_some, Option.getD_some, List.getElem?_map]
    cases h2 : r[j]? with
    | none => simp
    | some x => simp [Int.mul_comm]
theorem Lmx_norm {m : List (List Int)} {o : Int} (o1 : 1 ≤ o) (i j : Nat) : Lmx m i j = nG m o * Lmx (nR m o) i j := by
  have := congrArg (fun m => Lmx m i j) (norm_back (m := m) o1).1
  rw [← Lmx_mul]
  exact this
/-- a column of the table as it was given, by those that were chosen -/
theorem Elim.told {m : List (List Int)} {o : Int} {N r : Nat} {T : Mx} {cs : Nat → Nat} {p : Int} (o1 : 1 ≤ o) (e : Elim (nR m o) N T cs r p N) {i j : Nat} (hi : i < m.length) (hj : j < N) : p * Lmx m i j = sumN r fun k => T k j * Lmx m i (cs k) := by
  obtain ⟨A, w, w', x, y⟩ := e.at_
  have q := x.mixture w' y (by rw [nR_len]; exact hi) hj
  rw [Lmx_norm o1 i j]
  have s : sumN r (fun k => T k j * Lmx m i (cs k)) = nG m o * mix (Lmx (nR m o)) cs r (fun t => T t j) i := by
    unfold mix
    rw [← sumN_mul]
    exact sumN_congr fun k _ => by rw [Lmx_norm o1 i (cs k)]; grind
  rw [s, ← q]
  grind
/-- the places are those of the table as it was given -/
theorem Elim.places {m : List (List Int)} {o : Int} {N r : Nat} {T : Mx} {cs : Nat → Nat} {p : Int} {ps : List Nat} (o1 : 1 ≤ o) (e : Elim (nR m o) N T cs r p N) (ch : Cho (Lmx m) m.length N ps) : ps = (List.range r).map cs := by
  have c2 := e.cho
  rw [nR_len] at c2
  exact (ch.scale (by have := nG_pos (m := m) o1; omega) fun i j _ => Lmx_norm o1 i j).unique c2
theorem Elim.zero {m : List (List Int)} {N r : Nat} {T : Mx} {cs : Nat → Nat} {p : Int} (e : Elim m N T cs r p N) {t j : Nat} (ht : t < r) (hj : j < cs t) : T t j = 0 :=
  let ⟨_, _, _, _, y⟩ := e.at_
  y.left t j ht hj
theorem Elim.places_lt {m : List (List Int)} {N r : Nat} {T : Mx} {cs : Nat → Nat} {p : Int} (e : Elim m N T cs r p N) {t : Nat} (ht : t < r) : cs t < N :=
  let ⟨_, _, _, _, y⟩ := e.at_
  y.ltc t ht
theorem isMix_congr {A B : Mx} {h j : Nat} {ps : List Nat} (e1 : ∀ i, i < h → A i j = B i j) (e2 : ∀ p ∈ ps, ∀ i, i < h → A i p = B i p) : IsMix A h ps j ↔ IsMix B h ps j := by
  have s : ∀ l i, i < h → mix A (colsOf ps) ps.length l i = mix B (colsOf ps) ps.length l i := fun l i hi => sumN_congr fun s hs => by
    have : colsOf ps s = ps[s] := by unfold colsOf; rw [List.getElem?_eq_getElem hs]; rfl
    rw [this, e2 _ (List.getElem_mem hs) i hi]
  constructor
  · rintro ⟨q, hq, l, hl⟩
    exact ⟨q, hq, l, fun i hi => by rw [← e1 i hi, hl i hi, s l i hi]⟩
  · rintro ⟨q, hq, l, hl⟩
    exact ⟨q, hq, l, fun i hi => by rw [e1 i hi, hl i hi, s l i hi]⟩
/-- a table given by columns and the same by rows -/
theorem Cho.congr {A B : Mx} {h : Nat} : ∀ {c : Nat} {ps : List Nat}, (∀ i j, i < h → j < c → A i j = B i j) → Cho A h c ps → (∀ p ∈ ps, p < c) ∧ Cho B h c ps
  | 0, _, _, .nil => ⟨fun p hp => (by cases hp), .nil⟩
  | c + 1, ps, e, .skip a x => by
    obtain ⟨l, b⟩ := a.congr fun i j hi hj => e i j hi (by omega)
    exact ⟨fun p hp => by have := l p hp; omega, .skip b ((isMix_congr (fun i hi => e i c hi (by omega)) fun p hp i hi => e i p hi (by have := l p hp; omega)).mp x)⟩
  | c + 1, _, e, .take (ps := ps) a x => by
    obtain ⟨l, b⟩ := a.congr fun i j hi hj => e i j hi (by omega)
    refine ⟨fun p hp => ?_, .take b fun y => x ((isMix_congr (fun i hi => e i c hi (by omega)) fun p hp i hi => e i p hi (by have := l p hp; omega)).mpr y)⟩
    rcases List.mem_append.mp hp with hp | hp
    · have := l p hp; omega
    · rw [List.mem_singleton.mp hp]; omega
end Fc
set_option Elab.async false
set_option linter.all false
set_option maxRecDepth 100000
set_option maxHeartbeats 4000000
set_option exponentiation.threshold 100000
namespace Fc
open PySem PySem.Spec PyProof.Rows L2 L2H
theorem lo_bd {n : Nat} {t b : Int} (hb : b ≠ 0) (bt : Bd n t) (bb : Bd n b) : Bd n (lo t b).1 ∧ Bd n (lo t b).2 := by
  obtain ⟨k, k0, e1, e2, _⟩ := lo_split (t := t) hb
  have f : ∀ x : Int, x.natAbs ≤ (x * k).natAbs := fun x => by
    rw [Int.natAbs_mul]
    exact Nat.le_mul_of_pos_right _ (by omega)
  exact ⟨bt.abs (by conv => rhs; rw [e1]
                    exact f _), bb.abs (by conv => rhs; rw [e2]
                                           exact f _)⟩
theorem MixOk.of {C L D Pl : Addr} {H : Hp} {as : List Addr} {cols : List (List Int)} {h wd j r : Nat} {o p : Int} {T : Mx} {cs : Nat → Nat} (o1 : 1 ≤ o) (ok : TblOk cols h) (lc : cols.length = wd) (h5 : h ≤ 5) (w6 : wd ≤ 6) (hj : j < wd)
    (gok : GOk (nR (mxL (Amx cols) h wd) o) (2 ^ 46)) (wm : wideOf (nR (mxL (Amx cols) h wd) o) = wd) (el : Elim (nR (mxL (Amx cols) h wd) o) wd T cs r p wd)
    (hL : H L = some (.lst (as.map V.ref))) (la : as.length = r) (hr : ∀ (i : Nat) a, as[i]? = some a → RatAt C H a (lo (T i j) p)) (hD : RowsL H D cols) (hP : H Pl = some (.lst (((List.range r).map cs).map fun c : Nat => V.int c))) :
    MixOk C H L D Pl as ((List.range r).map fun k => lo (T k j) p) cols ((List.range r).map cs) j h := by
  have rm := el.rm
  rw [nR_len, mxL_len] at rm
  have bF : ∀ n, n ≤ 5 → Bd 900 (Fb (2 ^ 46) n) := fun n hn => by
    have : n = 0 ∨ n = 1 ∨ n = 2 ∨ n = 3 ∨ n = 4 ∨ n = 5 := by omega
    rcases this with rfl | rfl | rfl | rfl | rfl | rfl <;> exact bd_of (by decide +kernel)
  have bA : InM (2 ^ 46) (Lmx (nR (mxL (Amx cols) h wd) o)) (nR (mxL (Amx cols) h wd) o).length wd := by have := gok.b; rwa [wm] at this
  have bT : ∀ i, i < r → Bd 900 (T i j) := fun i hi => by
    obtain ⟨n, l, x, y⟩ := el.bound (by decide) bA (i := i) (j := j) (by rw [nR_len, mxL_len]; omega) hj
    rw [nR_len, mxL_len] at l
    exact bd_le (bF n (by omega)) x y
  have bp : Bd 900 p := bd_le (bF r (by omega)) (el.pbound (by decide) bA).1 (el.pbound (by decide) bA).2
  have ax : ∀ i c, i < h → c < wd → (cols.getD c []).getD i 0 = Lmx (mxL (Amx cols) h wd) i c := fun i c hi hc => (Lmx_mxL (A := Amx cols) hi hc).symm
  have psd : ∀ k, k < r → ((List.range r).map cs).getD k 0 = cs k := fun k hk => by rw [List.getD_eq_getElem?_getD, List.getElem?_map, List.getElem?_range hk]; rfl
  have tsd : ∀ k, k < r → ((List.range r).map fun k => lo (T k j) p).getD k (0, 1) = lo (T k j) p := fun k hk => by rw [List.getD_eq_getElem?_getD, List.getElem?_map, List.getElem?_range hk]; rfl
  have tsg : ∀ (i : Nat) q, ((List.range r).map fun k => lo (T k j) p)[i]? = some q → i < r ∧ q = lo (T i j) p := fun i q e => by
    have hi := (List.getElem?_eq_some_iff.mp e).1
    rw [List.length_map, List.length_range] at hi
    rw [List.getElem?_map, List.getElem?_range hi] at e
    exact ⟨hi, (Option.some.inj e).symm⟩
  have tl : ((List.range r).map fun k => lo (T k j) p).length = r := by rw [List.length_map, List.length_range]
  refine ⟨hL, by rw [tl, la], fun i a q e1 e2 => ?_, hD, hP, by rw [List.length_map, List.length_map], by rw [tl]; omega, by omega, fun c hc => ?_, by omega, ok.1, by omega, fun q hq x hx => ?_, fun k c q e1 e2 e3 => ?_, fun i hi => ?_⟩
  · obtain ⟨hi, rfl⟩ := tsg i q e2
    have b := lo_bd el.p0 (bT i hi) bp
    exact ⟨hr i a e1, lo_pos el.p0, lo_cop el.p0, b.1, b.2⟩
  · obtain ⟨k, hk, rfl⟩ := List.mem_map.mp hc
    have := el.places_lt (List.mem_range.mp hk)
    omega
  · obtain ⟨s, hs⟩ := List.mem_iff_getElem?.mp hq
    have b := ok.2 s q hs x hx
    have := bC_le (show s ≤ 6 by have := (List.getElem?_eq_some_iff.mp hs).1; omega)
    exact bd_le (n := 100) (j := 2 ^ 46) (bd_of (by decide +kernel)) (by omega) (by omega)
  · obtain ⟨hk, rfl⟩ := tsg k q e2
    rw [List.getElem?_map, List.getElem?_range hk] at e1
    have ec := Option.some.inj e1
    have z : T k j = 0 := el.zero hk (by rw [ec]; exact e3)
    rw [z]
    have := lo_cross (t := 0) el.p0
    rw [Int.zero_mul] at this
    rcases Int.mul_eq_zero.1 this with q | q
    · exact q
    · exact absurd q el.p0
  · rw [tl]
    refine mixAcc_eq (X := fun k => T k j) (p := p) (fun k hk => by rw [tsd k hk]; exact lo_cross el.p0) el.p0 ?_
    rw [ax i j hi hj, el.told o1 (by rw [mxL_len]; exact hi) hj]
    exact sumN_congr fun k hk => by
      have := el.places_lt hk
      rw [psd k hk, ax i (cs k) hi this]
theorem dpTup {K : PySem.W.Frag} {H : Hp} : ∀ (as : List Addr) (m : List (List Int)), as.length = m.length → (∀ (i : Nat) a r, as[i]? = some a → m[i]? = some r → H a = some (.tup (r.map V.int))) →
    DpAll K H (as.map V.ref) (m.map fun r => PyData.tuple (r.map PyData.int))
  | [], [], _, _ => .nil
  | a :: as, r :: m, el, h => .cons (.tup (SqT.of (h 0 a r rfl rfl)) (dpI r)) (dpTup as m (by simpa using el) fun i b q e1 e2 => h (i + 1) b q (by simpa using e1) (by simpa using e2))
  | [], _ :: _, el, _ => by simp at el
  | _ :: _, [], el, _ => by simp at el
theorem RowsT.dp {K : PySem.W.Frag} {H : Hp} {L : Addr} {m : List (List Int)} (h : RowsT H L m) : Dp K H (.ref L) (PyData.tuple (m.map fun r => PyData.tuple (r.map PyData.int))) :=
  let ⟨as, a, b, c⟩ := h
  .tup (SqT.of a) (dpTup as m b c)
theorem eqvT : ∀ m n : List (List Int), PyData.eqvAll (m.map fun r => PyData.tuple (r.map PyData.int)) (n.map fun r => PyData.tuple (r.map PyData.int)) = decide (m = n)
  | [], [] => by simp [PyData.eqvAll]
  | [], _ :: _ => by simp [PyData.eqvAll]
  | _ :: _, [] => by simp [PyData.eqvAll]
  | a :: r, b :: s => by
    have := eqvT r s
    simp [PyData.eqvAll, PyData.eqv, eqvI, this, Bool.decide_and]
theorem shapedF (m : List (List Int)) (a b c : Int) : SeqAt.shaped (PyData.tuple [PyData.tuple (m.map fun r => PyData.tuple (r.map PyData.int)), .int a, .int b, .int c]) = true := by
  have := depT m
  unfold SeqAt.shaped
  simp [PyData.canLay0, PyData.canLayAll0, PyData.depth, PyData.depthAll, layT]
  omega
theorem eqvF (m : List (List Int)) (a b c : Int) : PyData.eqv (PyData.tuple [PyData.tuple (m.map fun r => PyData.tuple (r.map PyData.int)), .int a, .int b, .int c]) (PyData.tuple [PyData.tuple (m.map fun r => PyData.tuple (r.map PyData.int)), .int a, .int b, .int c]) = true := by
  simp [PyData.eqv, PyData.eqvAll, eqvT]
theorem rd_mkR {A : Ad} {t b : Int} {H : Hp} {R : Addr → Hp → Prop} {E : XK} (hb : b ≠ 0) (bb : Bd 8900 b) (k : ∀ x H', Ex H H' → H x = none → RatAt A.C H' x (lo t b) → R x H') :
    ∀ x dx, H x = none → H dx = none → dx ≠ x → spInit A [.ref x, .int t, .int b] (upd (upd H dx (.own x)) x (.ins A.C dx [])) (fun v H2 => v = .non ∧ R x H2) E :=
  fun x dx nx nd ne => ⟨x, dx, t, b, rfl, upd_same, fun z => absurd z hb, fun _ => ⟨bb, fun H' r kp => ⟨rfl, k x H' (Same.made nx nd kp) nx r⟩⟩⟩
theorem GridAt.nl {A : Ad} {H H' : Hp} {g : Addr} {m : List (List Int)} {o : Int} (h : GridAt A H g m o) (k : NL H H') : GridAt A H' g m o := let ⟨dx, R, a, b⟩ := h; ⟨dx, R, k.ins a, b.nl k⟩
theorem GridAt.kp {A : Ad} {H H' : Hp} {g p l : Addr} {m : List (List Int)} {o : Int} (h : GridAt A H g m o) (pot : PotL H p l) (k : Keep p H H') : GridAt A H' g m o := h.nl (pot.nl k)
theorem pick_nat {xs : List Int} {b : Nat} {d : Int} (h0 : 0 ≤ d) (h1 : d < xs.length) (h : ∀ x ∈ xs, 0 ≤ x ∧ x ≤ b) : ∃ v : Nat, v ≤ b ∧ atI (xs.map V.int) d = some (V.int (v : Nat)) := by
  have hd : d.toNat < xs.length := by omega
  have e := h _ (List.getElem_mem hd)
  refine ⟨(xs[d.toNat]).toNat, by omega, ?_⟩
  have q := atI_nat (xs := xs.map V.int) (j := d.toNat) (v := V.int xs[d.toNat]) (by rw [List.getElem?_map, List.getElem?_eq_getElem hd]; rfl)
  rw [show ((d.toNat : Nat) : Int) = d by omega] at q
  rw [q, show (((xs[d.toNat]).toNat : Nat) : Int) = xs[d.toNat] by omega]
section
variable {P : Program} {w : World} {K : PySem.W.Frag} {mg : Str → Option Value} {base : Heap} {A : Ad}
theorem ok_law (T : Txt K mg A) : FnOk P w K mg base CX0 9 A.f_law A.d_law ["script"] (spLaw K) := by
  refine T.F_law.ok sc_law (fun vs H Q E h => ?_) (fun cdv Ar outer s H vs Q E hr h => ?_)
  · obtain ⟨a, ns, rfl, _⟩ := h
    rfl
  · obtain ⟨a0, ns, rfl, hS, hl, k⟩ := h
    obtain ⟨ds, vds, b2⟩ := T.b_init2
    refine ⟨_, (C8.pss_cut (ps_set (i := 1) sc_law.nd rfl (Or.inl rfl) (pe_call (ok_start T) (hr.mono (by decide)) rfl T.g_start T.F_start.kp T.b_start .nil pass0 (pa_cons (pv 0) pa_nil)))
      (C8.pss_cut (ps_set (i := 2) sc_law.nd rfl (Or.inl rfl) (pe_ix ix_list (pe_lst (pa_cons pe_int (pa_cons pe_int (pa_cons pe_int (pa_cons pe_int (pa_cons pe_int (pa_cons pe_int pa_nil))))))) (pe_call (ok_digit T) (hr.mono (by decide)) rfl T.g_digit T.F_digit.kp T.b_digit .nil pass0 (pa_cons (pv 1) (pa_cons pe_int pa_nil))) (fun _ _ => rfl)))
      (C8.pss_cut (ps_set (i := 3) sc_law.nd rfl (Or.inl rfl) (pe_ix ix_list (pe_lst (pa_cons pe_int (pa_cons pe_int (pa_cons pe_int (pa_cons pe_int (pa_cons pe_int (pa_cons pe_int (pa_cons pe_int pa_nil)))))))) (pe_call (ok_digit T) (hr.mono (by decide)) rfl T.g_digit T.F_digit.kp T.b_digit .nil pass0 (pa_cons (pv 1) (pa_cons pe_int pa_nil))) (fun _ _ => rfl)))
      (C8.pss_cut (ps_if (pt_cmpR op_eq (pv 2) pe_int (nomark _))
      (pss_one (ps_set (i := 3) sc_law.nd rfl (Or.inl rfl) pe_int)) pss_nil)
      (C8.pss_cut (ps_set (i := 4) sc_law.nd rfl (Or.inr rfl) (pe_call (ok_table T) (hr.mono (by decide)) rfl T.g_table T.F_table.kp T.b_table .nil pass0 (pa_cons (pv 1) (pa_cons (pv 2) (pa_cons (pv 3) pa_nil)))))
      (C8.pss_cut (ps_set (i := 5) sc_law.nd rfl (Or.inl rfl) (pe_op op_sub pe_int (pe_call (ok_digit T) (hr.mono (by decide)) rfl T.g_digit T.F_digit.kp T.b_digit .nil pass0 (pa_cons (pv 1) (pa_cons pe_int pa_nil)))))
      (C8.pss_cut (ps_setLc (i := 6) (own := [("i", 8)]) (g := gName 8) (tt := tYes) rfl sc_law.nd rfl rfl (sw_true rfl rfl rfl (by decide +kernel)) (pi_range1 rfl T.n_range (pa_cons (pv 2) pa_nil)) (blkOk_by (own := [("i", 8)]) (N := N_law) (sc := defScope S_law) (by decide +kernel)) (fun _ _ _ _ _ => pg_name (i := 8) sc_law.nd rfl (Or.inr rfl)) (fun _ _ _ _ _ => pts_nil) (fun _ _ _ _ _ => (pe_lc (own := [("column", 7)]) (g := gName 7) (wi := iList K (tVar 4)) (tt := tYes) rfl sc_law.nd (pi_list (pv 4)) (blkOk_by (own := [("column", 7)]) (N := N_law) (by rfl)) (fun _ _ _ _ _ => pg_name (i := 7) sc_law.nd rfl (Or.inl rfl)) (fun _ _ _ _ _ => pts_nil) (fun _ _ _ _ _ => (pe_ix (r := rIxL K) ix_list (pv 7) (pv 8) (fun _ _ => rfl))))))
      (C8.pss_cut (ps_set (i := 9) sc_law.nd rfl (Or.inl rfl) (pe_call (ok_lindep T) (hr.mono (by decide)) rfl T.g_lindep T.F_lindep.kp T.b_lindep .nil pass0 (pa_cons (pv 4) pa_nil)))
      (C8.pss_cut (ps_set (i := 10) sc_law.nd rfl (Or.inl rfl) (pe_make T.mk_Gr (ok_ginit T) (hr.mono (by decide)) rfl T.g_Grid T.b_ginit .nil passLN (pa_cons (pv 6) (pa_cons (pv 5) pa_nil))))
      (C8.pss_cut (ps_set (i := 11) sc_law.nd rfl (Or.inl rfl) (pe_tup (pa_cons (pe_fld (pv 10) rfl) (pa_cons (pe_fld (pv 10) rfl) (pa_cons (pe_fld (pv 10) rfl) (pa_cons (pe_fld (pv 10) rfl) pa_nil))))))
      (C8.pss_cut (ps_set (i := 12) sc_law.nd rfl (Or.inl rfl) (pe_call (ok_indep T) (hr.mono (by decide)) rfl T.g_indep T.F_indep.kp T.b_indep .nil pass0 (pa_cons (pv 10) pa_nil)))
      (C8.pss_cut (ps_if (pt_not (pt_val (pe_call (ok_islist T) (hr.mono (by decide)) rfl T.g_islist T.F_islist.kp T.b_islist .nil pass0 (pa_cons (pv 12) (pa_cons (pv 9) pa_nil)))))
      (pss_one (ps_ret pe_bl)) pss_nil)
      (C8.pss_cut (ps_expr (pe_bm PySem.F.plainAttrs_list PySem.F.slot_list_append PySem.F.type_list_append mt_append (pv 12) (pa_cons pe_int pa_nil)))
      (C8.pss_cut (ps_set (i := 13) sc_law.nd rfl (Or.inl rfl) (pe_call (ok_rank T) (hr.mono (by decide)) rfl T.g_rank T.F_rank.kp T.b_rank .nil pass0 (pa_cons (pv 10) pa_nil)))
      (C8.pss_cut (ps_if (PW.pt (pw_or (pt_not (pt_val (pe_call (ok_whole T) (hr.mono (by decide)) rfl T.g_whole T.F_whole.kp T.b_whole .nil pass0 (pa_cons (pv 13) pa_nil)))) (pw_or1 (pt_cmpR op_ne (pv 13) (pe_callB call_len (by rfl) T.n_len PySem.boot_len (pa_cons (pv 9) pa_nil)) (nomark _)))))
      (pss_one (ps_ret pe_bl)) pss_nil)
      (C8.pss_cut (ps_for PassesOwn.never rfl (pi_range1 rfl T.n_range (pa_cons (pv 3) pa_nil)) (pg_name (i := 14) sc_law.nd rfl (Or.inl rfl))
      (C8.pss_cut (ps_set (i := 12) sc_law.nd rfl (Or.inl rfl) (pe_call (ok_mixture T) (hr.mono (by decide)) rfl T.g_mixture T.F_mixture.kp T.b_mixture .nil passLN (pa_cons (pv 10) (pa_cons (pv 14) pa_nil))))
      (C8.pss_cut (ps_if (pt_not (pt_val (pe_call (ok_ismix T) (hr.mono (by decide)) rfl T.g_ismix T.F_ismix.kp T.b_ismix .nil pass0 (pa_cons (pv 12) (pa_cons (pv 4) (pa_cons (pv 9) (pa_cons (pv 14) pa_nil)))))))
      (pss_one (ps_ret pe_bl)) pss_nil)
      (C8.pss_cut (ps_expr (pe_bm PySem.F.plainAttrs_list PySem.F.slot_list_append PySem.F.type_list_append mt_append (pv 12) (pa_cons (pe_make T.mkC (ok_init T) (hr.mono (by decide)) rfl T.g_Ratio b2 vds passL (pa_cons pe_int pa_nil)) pa_nil)))
      (pss_one (ps_if (pt_not (pt_val (pe_call (ok_ismix T) (hr.mono (by decide)) rfl T.g_ismix T.F_ismix.kp T.b_ismix .nil pass0 (pa_cons (pe_call (ok_mixture T) (hr.mono (by decide)) rfl T.g_mixture T.F_mixture.kp T.b_mixture .nil passLN (pa_cons (pv 10) (pa_cons (pv 14) pa_nil))) (pa_cons (pv 4) (pa_cons (pv 9) (pa_cons (pv 14) pa_nil)))))))
      (pss_one (ps_ret pe_bl)) pss_nil))))))
      (C8.pss_cut (ps_set (i := 15) sc_law.nd rfl (Or.inl rfl) (pe_call (ok_digit T) (hr.mono (by decide)) rfl T.g_digit T.F_digit.kp T.b_digit .nil pass0 (pa_cons (pv 1) (pa_cons pe_int pa_nil))))
      (C8.pss_cut (ps_for PassesOwn.never rfl (pi_list (pe_lst (pa_cons (pe_op op_sub (pe_un un_neg pe_int) (pv 15)) (pa_cons (pe_op op_add (pv 3) (pv 15)) (pa_cons (pe_un un_neg pe_int) (pa_cons (pv 3) pa_nil)))))) (pg_name (i := 16) sc_law.nd rfl (Or.inl rfl))
      (pss_one (ps_if (pt_not (pt_val (pe_call (ok_badplace T) (hr.mono (by decide)) rfl T.g_badplace T.F_badplace.kp T.b_badplace .nil pass0 (pa_cons (pv 10) (pa_cons (pv 16) pa_nil)))))
      (pss_one (ps_ret pe_bl)) pss_nil)))
      (C8.pss_cut (ps_if (pt_not (pt_val (pe_call (ok_islist T) (hr.mono (by decide)) rfl T.g_islist T.F_islist.kp T.b_islist .nil pass0 (pa_cons (pe_call (ok_indep T) (hr.mono (by decide)) rfl T.g_indep T.F_indep.kp T.b_indep .nil pass0 (pa_cons (pv 10) pa_nil)) (pa_cons (pv 9) pa_nil)))))
      (pss_one (ps_ret pe_bl)) pss_nil)
      (pss_one (ps_ret (pe_cmpR (op_eqD hr.units) (pv 11) (pe_tup (pa_cons (pe_fld (pv 10) rfl) (pa_cons (pe_fld (pv 10) rfl) (pa_cons (pe_fld (pv 10) rfl) (pa_cons (pe_fld (pv 10) rfl) pa_nil))))) (nomark _))))))))))))))))))))))), ?_⟩
    refine ⟨fun sl H1 => ∃ p l, sl = [some (.ref a0), some (.ref p), none, none, none, none, none, none, none, none, none, none, none, none, none, none, none] ∧ PotL H1 p l, ?_, ?_⟩
    · exact ⟨_, rfl, a0, ns, rfl, hS, hl, fun p H' pt _ _ => (by obtain ⟨l, cs, i, c, z⟩ := pt; exact ⟨p, l, rfl, cs, i, c, z⟩)⟩
    rintro sl H1 ⟨p, l, rfl, p1⟩
    refine ⟨fun sl H2 => ∃ h : Nat, h ≤ 5 ∧ sl = [some (.ref a0), some (.ref p), some (.int (h : Nat)), none, none, none, none, none, none, none, none, none, none, none, none, none, none] ∧ PotL H2 p l, ?_, ?_⟩
    · refine ⟨(by show 6 ≤ sizeLine; rw [sizeLine_eq]; omega), fun L nL => ?_⟩
      have pe := p1.ex (Ex.new (o := .lst ([3, 2, 4, 1, 5, 0].map V.int)) nL)
      refine ⟨_, rfl, p, l, 6, rfl, pe, by decide, bd_of (by decide +kernel), fun d H2 d0 d1 p2 k2 => ?_⟩
      obtain ⟨v, v5, hv⟩ := pick_nat (xs := [3, 2, 4, 1, 5, 0]) (b := 5) d0 d1 (by decide)
      exact ⟨L, _, d, _, rfl, rfl, SqL.of (k2 _ _ upd_same (p1.p nL).1), hv, v, v5, rfl, p2⟩
    rintro sl H2 ⟨h, h5, rfl, p2⟩
    refine ⟨fun sl H2 => ∃ w : Nat, w ≤ 6 ∧ sl = [some (.ref a0), some (.ref p), some (.int (h : Nat)), some (.int (w : Nat)), none, none, none, none, none, none, none, none, none, none, none, none, none] ∧ PotL H2 p l, ?_, ?_⟩
    · refine ⟨(by show 7 ≤ sizeLine; rw [sizeLine_eq]; omega), fun L nL => ?_⟩
      have pe := p2.ex (Ex.new (o := .lst ([4, 3, 5, 2, 6, 1, 0].map V.int)) nL)
      refine ⟨_, rfl, p, l, 7, rfl, pe, by decide, bd_of (by decide +kernel), fun d H2 d0 d1 p2' k2 => ?_⟩
      obtain ⟨v, v5, hv⟩ := pick_nat (xs := [4, 3, 5, 2, 6, 1, 0]) (b := 6) d0 d1 (by decide)
      exact ⟨L, _, d, _, rfl, rfl, SqL.of (k2 _ _ upd_same (p2.p nL).1), hv, v, v5, rfl, p2'⟩
    rintro sl H3 ⟨w0, w6, rfl, p3⟩
    refine ⟨fun sl H2 => ∃ w : Nat, w ≤ 6 ∧ (h = 0 → w = 0) ∧ sl = [some (.ref a0), some (.ref p), some (.int (h : Nat)), some (.int (w : Nat)), none, none, none, none, none, none, none, none, none, none, none, none, none] ∧ PotL H2 p l, ?_, ?_⟩
    · refine ⟨_, rfl, rfl, _, rfl, ite2 (fun c => ?_) (fun c => ?_)⟩
      · exact ⟨0, by omega, fun _ => rfl, rfl, p3⟩
      · exact ⟨w0, w6, fun z => absurd (by rw [z] <;> rfl) c, rfl, p3⟩
    rintro sl H4 ⟨wd, w6', hw0, rfl, p4⟩
    refine ⟨fun sl H5 => ∃ D cols, sl = [some (.ref a0), some (.ref p), some (.int (h : Nat)), some (.int (wd : Nat)), some (.ref D), none, none, none, none, none, none, none, none, none, none, none, none] ∧ PotL H5 p l ∧ RowsL H5 D cols ∧ cols.length = wd ∧ TblOk cols h ∧ D ≠ p, ?_, ?_⟩
    · exact ⟨_, rfl, _, rfl, _, rfl, p, l, h, wd, rfl, p4, by omega, w6', fun D cols H5 rw5 lc ok p5 k5 nD => ⟨D, cols, rfl, p5, rw5, lc, ok, (p4.p nD).1⟩⟩
    rintro sl H5 ⟨D, cols, rfl, p5, rw5, lc, ok, Dp⟩
    refine ⟨fun sl H6 => ∃ o : Int, sl = [some (.ref a0), some (.ref p), some (.int (h : Nat)), some (.int (wd : Nat)), some (.ref D), some (.int o), none, none, none, none, none, none, none, none, none, none, none] ∧ PotL H6 p l ∧ RowsL H6 D cols ∧ 1 ≤ o ∧ o ≤ 12, ?_, ?_⟩
    · refine ⟨_, rfl, p, l, 12, rfl, p5, by decide, bd_of (by decide +kernel), fun d H6 d0 d1 p6 k6 => ⟨_, _, rfl, rfl, 12 - d, rfl, p6, rw5.keep Dp p5 k6, ?_, ?_⟩⟩
      · have : d < 12 := d1
        omega
      · omega
    rintro sl H6 ⟨o, rfl, p6, rw6, o1, o12⟩
    let m := mxL (Amx cols) h wd
    have ml : m.length = h := mxL_len _ _ _
    obtain ⟨ds, d1, d2, d3⟩ := id rw6
    refine ⟨fun sl H7 => ∃ R, sl = [some (.ref a0), some (.ref p), some (.int (h : Nat)), some (.int (wd : Nat)), some (.ref D), some (.int o), some (.ref R), none, none, none, none, none, none, none, none, none, none] ∧ Ex H6 H7 ∧ RowsL H7 R m, ?_, ?_⟩
    · refine uAsg (lcR (lo := 0) (n := h) (RowR .lst m) (by omega) (fun P q => ⟨_, rfl, (h : Int), rfl, by omega, by omega, by simpa using q⟩) (fun i H7 B hi ex7 hB Q2 kq => ?_) (fun B H7 vs nB ex7 e1 e2 e3 => ?_))
      · rw [show (0 : Int) + (i : Int) = (i : Int) by omega]
        obtain ⟨oB, hoB⟩ := hB
        refine ⟨rfl, lcL (fun j v _ => v = V.int (Amx cols i j)) (fun Q q => ⟨_, rfl, q⟩) (SqL.of (ex7 _ _ d1)) (by rw [List.length_map]; omega) (fun j v H8 B2 hv ex8 hB2 Q8 kq8 => ?_) (fun B2 H8 vs nB2 ex8 e1 e2 e3 => ?_)⟩
        · rw [List.getElem?_map] at hv
          obtain ⟨c, hc, rfl⟩ := Option.map_eq_some_iff.mp hv
          have hj : j < cols.length := by have := (List.getElem?_eq_some_iff.mp hc).1; omega
          have lj := ok.1 _ (List.getElem_mem hj)
          have hcol := ex8 _ _ (ex7 _ _ (d3 j c _ hc (List.getElem?_eq_getElem hj)))
          have hx : (cols[j])[i]? = some (Amx cols i j) := by
            rw [getD_some (by omega)]
            unfold Amx
            have : cols.getD j [] = cols[j] := by rw [List.getD_eq_getElem?_getD, List.getElem?_eq_getElem hj]; rfl
            rw [this]
          exact ⟨rfl, _, rfl, _, rfl, _, _, _, _, rfl, rfl, SqL.of hcol, atI_nat (by rw [List.getElem?_map, hx]; rfl), kq8 _ _ (fun _ _ h => h) fun _ _ => rfl⟩
        · rw [List.length_map, d2, lc] at e2
          rw [vals_int (f := fun j => Amx cols i j) e2 fun j v q => e3 j v q] at e1
          exact kq _ _ ex8 (RowR.fix (mxL_row hi) e1 (ne_of_none hoB nB2).symm)
      · obtain ⟨as, rfl, la, ha⟩ := RowR.all (m := m) (by rw [e2, ml]) e3
        exact ⟨B, rfl, ex7, as, e1, la, ha⟩
    rintro sl H7 ⟨R, rfl, ex7, rw7⟩
    have rwc7 := rw6.ex ex7
    have p7 := p6.ex ex7
    refine ⟨fun sl H8 => ∃ ps Pl, sl = [some (.ref a0), some (.ref p), some (.int (h : Nat)), some (.int (wd : Nat)), some (.ref D), some (.int o), some (.ref R), none, none, some (.ref Pl), none, none, none, none, none, none, none] ∧ Ex H7 H8 ∧ Cho (Amx cols) h cols.length ps ∧ H8 Pl = some (.lst (ps.map fun c : Nat => V.int c)), ?_, ?_⟩
    · exact ⟨_, rfl, D, cols, h, rfl, rwc7, ok.1, by omega, by omega, fun r hr x hx => by
        obtain ⟨s, hs⟩ := List.mem_iff_getElem?.mp hr
        have := ok.2 s r hs x hx
        have hs6 : s + 1 ≤ 6 := by have := (List.getElem?_eq_some_iff.mp hs).1; omega
        have q := bC_le hs6
        rw [bC_succ] at q
        exact bd_le (n := 46) (j := 2 ^ 44) (bd_of (by decide +kernel)) (by omega) (by omega), fun ps L H8 ch e8 nL hL => ⟨ps, L, rfl, e8, ch, hL⟩⟩
    rintro sl H8 ⟨ps, Pl, rfl, e8, ch, hPl⟩
    have p8 := p7.ex e8
    have wm : wideOf m = wd := by
      by_cases z : h = 0
      · subst z
        rw [hw0 rfl]
        rfl
      · unfold wideOf
        rw [List.head?_eq_getElem?, mxL_row (by omega), Option.map_some, List.length_map, List.length_range]
        rfl
    have rr : ∀ r ∈ m, r.length = wideOf m := fun r hr => by
      obtain ⟨i, _, rfl⟩ := List.mem_map.mp hr
      rw [wm, List.length_map, List.length_range]
    have rc : Rect m := ⟨by omega, by omega, rr⟩
    have gp := nG_pos (m := m) o1
    have bA : ∀ i j, i < h → j < wd → -(2 ^ 46) ≤ Amx cols i j ∧ Amx cols i j ≤ 2 ^ 46 := fun i j hi hj => by
      have hj2 : j < cols.length := by omega
      have lj := ok.1 _ (List.getElem_mem hj2)
      have b := ok.2 j _ (List.getElem?_eq_getElem hj2)
      have e : cols.getD j [] = cols[j] := by rw [List.getD_eq_getElem?_getD, List.getElem?_eq_getElem hj2]; rfl
      have := b (Amx cols i j) (by unfold Amx; rw [e]; exact List.mem_of_getElem? (getD_some (by omega)))
      have := bC_le (show j ≤ 6 by omega)
      omega
    have gok : GOk (nR m o) (2 ^ 46) := by
      refine GOk.of (by rw [nR_len]; omega) (by rw [nR_wide]; omega) (fun r hr => ?_) fun i j hi hj => ?_
      · unfold nR at hr
        obtain ⟨r0, h0, rfl⟩ := List.mem_map.mp hr
        rw [List.length_map, nR_wide]; exact rr r0 h0
      · rw [nR_len] at hi
        rw [nR_wide] at hj
        have e := Lmx_norm (m := m) o1 i j
        rw [Lmx_mxL (by omega) (by omega)] at e
        have b := bA i j (by omega) (by omega)
        have g1 : 1 ≤ nG m o := gp
        have l : (Lmx (nR m o) i j).natAbs ≤ (nG m o * Lmx (nR m o) i j).natAbs := by
          rw [Int.natAbs_mul]
          exact Nat.le_mul_of_pos_left _ (by omega)
        rw [← e] at l
        omega
    refine ⟨fun sl H9 => ∃ g, sl = [some (.ref a0), some (.ref p), some (.int (h : Nat)), some (.int (wd : Nat)), some (.ref D), some (.int o), some (.ref R), none, none, some (.ref Pl), some (.ref g), none, none, none, none, none, none] ∧ Ex H8 H9 ∧ GridAt A H9 g (nR m o) (nO m o), ?_, ?_⟩
    · exact ⟨_, rfl, _, rfl, rd_grid (rw7.ex e8).matv rc o1 ((bd_of (show o.natAbs < 2 ^ 10 by omega)).mono (by decide)) fun g H9 e9 _ hg => ⟨g, rfl, e9, hg⟩⟩
    rintro sl H9 ⟨g, rfl, e9, hg⟩
    obtain ⟨dx, Rg, hgi, hRg⟩ := id hg
    obtain ⟨ltp, ch2⟩ := ch.congr (B := Lmx m) fun i j hi hj => (Lmx_mxL hi (by omega)).symm
    have chN : Cho (Lmx (nR m o)) (nR m o).length (wideOf (nR m o)) ps := by
      rw [nR_len, nR_wide, wm, ml]
      rw [lc] at ch2
      exact ch2.scale (by omega) fun i j _ => Lmx_norm o1 i j
    let pI : List Int := ps.map fun c : Nat => (c : Int)
    have pIe : (ps.map fun c : Nat => V.int c) = pI.map V.int := by rw [List.map_map]; rfl
    have lps : ps.length ≤ 10 := by
      have : ∀ {A h c qs}, Cho A h c qs → qs.length ≤ c := by
        intro A h c qs q
        induction q with
        | nil => exact Nat.le_refl _
        | skip _ _ ih => omega
        | take _ _ ih => rw [List.length_append]; simp; omega
      have := this ch
      omega
    have p9 := p8.ex e9
    let SF (F : Addr) (o12 o13 o14 o15 o16 : Option V) : L2.St := [some (.ref a0), some (.ref p), some (.int (h : Nat)), some (.int (wd : Nat)), some (.ref D), some (.int o), some (.ref R), none, none, some (.ref Pl), some (.ref g), some (.ref F), o12, o13, o14, o15, o16]
    refine ⟨fun sl HA => ∃ F, sl = SF F none none none none none ∧ Ex H9 HA ∧ HA F = some (.tup [.ref Rg, .int (nO m o), .int ((nR m o).length : Nat), .int (wideOf (nR m o) : Nat)]), ?_, ?_⟩
    · exact ⟨_, rfl, _, _, _, _, _, rfl, hgi, T.c_Gr, T.na_Gr_rows, zip_get (i := 0) GN_nd rfl rfl, _, rfl, _, _, _, _, _, rfl, hgi, T.c_Gr, T.na_Gr_over, zip_get (i := 1) GN_nd rfl rfl, _, rfl, _, _, _, _, _, rfl, hgi, T.c_Gr, T.na_Gr_height, zip_get (i := 2) GN_nd rfl rfl, _, rfl, _, _, _, _, _, rfl, hgi, T.c_Gr, T.na_Gr_width, zip_get (i := 3) GN_nd rfl rfl, (by show 4 ≤ sizeLine; rw [sizeLine_eq]; omega), fun F nF => ⟨F, rfl, Ex.new nF, upd_same⟩⟩
    rintro sl HA ⟨F, rfl, eA, hF⟩
    refine ⟨fun sl HB => ∃ L, sl = SF F (some (.ref L)) none none none none ∧ Ex HA HB ∧ HA L = none ∧ HB L = some (.lst (pI.map V.int)), ?_, ?_⟩
    · exact ⟨_, rfl, g, nR m o, nO m o, 2 ^ 46, rfl, hg.ex eA, gok, fun ps' HB L ch' ex nL hL => ⟨L, rfl, ex, nL, by rw [hL, ch'.unique chN, pIe]⟩⟩
    rintro sl HB ⟨L, rfl, eB, nL, hL⟩
    have hPB : HB Pl = some (.lst (pI.map V.int)) := by rw [← pIe]; exact eB _ _ (eA _ _ (e9 _ _ hPl))
    refine ⟨fun sl HC => sl = SF F (some (.ref L)) none none none none ∧ Ex HB HC, ?_, ?_⟩
    · exact ⟨_, rfl, _, rfl, L, Pl, pI, rfl, hL, hPB, by rw [List.length_map]; omega, fun HC e => ⟨_, rfl, iteF ⟨rfl, e⟩⟩⟩
    rintro sl HC ⟨rfl, eC⟩
    refine ⟨fun sl HD => sl = SF F (some (.ref L)) none none none none ∧ Ex HA HD, ?_, ?_⟩
    · refine ⟨_, rfl, .inl ⟨rfl, _, SqL.of (eC _ _ hL)⟩, L, _, _, rfl, rfl, eC _ _ hL, by rw [List.length_map, List.length_map, sizeLine_eq]; omega, rfl, fun b ob hb => ?_⟩
      rw [upd_ne (ne_of_none hb nL)]
      exact eC _ _ (eB _ _ hb)
    rintro sl HD ⟨rfl, eD⟩
    have EAD := eA.trans eD
    refine ⟨fun sl HE => sl = SF F (some (.ref L)) (some (.int (ps.length : Nat))) none none none ∧ Ex HA HE, ?_, ?_⟩
    · exact ⟨_, rfl, g, nR m o, nO m o, 2 ^ 46, rfl, hg.ex EAD, gok, fun ps' HE ch' ex => ⟨by rw [ch'.unique chN]; rfl, eD.trans ex⟩⟩
    rintro sl HE ⟨rfl, eE⟩
    have hPE := eE _ _ (eA _ _ (e9 _ _ hPl))
    refine ⟨fun sl HG => sl = SF F (some (.ref L)) (some (.int (ps.length : Nat))) none none none ∧ HG = HE, ?_, ?_⟩
    · refine ⟨_, rfl, _, rfl, _, rfl, iteF ⟨_, rfl, _, rfl, _, _, rfl, lenv (.inl (SqL.of hPE)), rfl, _, rfl, iteNS (by rw [List.length_map]) ⟨rfl, rfl⟩⟩⟩
    rintro sl HG ⟨rfl, rfl⟩
    have wN : wideOf (nR m o) = wd := by rw [nR_wide, wm]
    have rwHG := (((rwc7.ex e8).ex e9).ex eA).ex eE
    have hgG := (hg.ex eA).ex eE
    refine ⟨fun sl HH => ∃ o12 o14, sl = SF F o12 (some (.int (ps.length : Nat))) o14 none none ∧ Ex HG HH, ?_, ?_⟩
    · refine forR (lo := 0) (n := wd) (fun j sl HH => ∃ o12 o14, sl = SF F o12 (some (.int (ps.length : Nat))) o14 none none ∧ Ex HG HH) (fun P q => ⟨_, rfl, (wd : Int), rfl, by omega, by omega, by simpa using q⟩) ⟨_, _, rfl, fun _ _ h => h⟩ (fun j sl HT hj q => ?_) (fun sl HH q => q)
      obtain ⟨o12, o14, rfl, eT⟩ := q
      rw [show (0 : Int) + (j : Int) = (j : Int) by omega]
      have mk : ∀ {T' : Mx} {cs : Nat → Nat} {r : Nat} {q : Int} {HM : Hp} {L : Addr} {as : List Addr}, Elim (nR m o) (wideOf (nR m o)) T' cs r q (wideOf (nR m o)) → Ex HT HM → HM L = some (.lst (as.map V.ref)) → as.length = r → (∀ (i : Nat) a, as[i]? = some a → RatAt A.C HM a (lo (T' i ((j : Int)).toNat) q)) →
          MixOk A.C HM L D Pl as ((List.range r).map fun k => lo (T' k j) q) cols ps j h := by
        intro T' cs r q HM L as el eM hL la hr
        have ep : ps = (List.range r).map cs := chN.unique (by rw [nR_len]; have := el.cho; rwa [nR_len] at this)
        rw [wN] at el
        rw [ep]
        exact MixOk.of o1 ok lc h5 w6' hj gok wN el hL la hr (rwHG.ex (eT.trans eM)) (by rw [← ep]; exact eM _ _ (eT _ _ hPE))
      refine ⟨fun sl HM => ∃ L as ts, sl = SF F (some (.ref L)) (some (.int (ps.length : Nat))) (some (.int (j : Int))) none none ∧ Ex HT HM ∧ HT L = none ∧ MixOk A.C HM L D Pl as ts cols ps j h, ?_, ?_⟩
      · exact ⟨_, rfl, _, rfl, g, nR m o, nO m o, 2 ^ 46, (j : Int), rfl, hgG.ex eT, gok, fun n => absurd ⟨by omega, by rw [wN]; omega⟩ n, fun c0 c1 T' cs r q HM L as el ex nL hL la hr => ⟨L, as, _, rfl, ex, nL, mk el ex hL la hr⟩⟩
      rintro sl HM ⟨L, as, ts, rfl, eM, nL, mo⟩
      refine ⟨fun sl HM2 => sl = SF F (some (.ref L)) (some (.int (ps.length : Nat))) (some (.int (j : Int))) none none ∧ Ex HM HM2, ?_, ?_⟩
      · exact ⟨_, rfl, _, rfl, _, rfl, _, rfl, L, D, Pl, as, ts, cols, ps, j, h, rfl, mo, fun H' e => ⟨_, rfl, iteF ⟨rfl, e⟩⟩⟩
      rintro sl HM2 ⟨rfl, eM2⟩
      refine ⟨fun sl HM3 => sl = SF F (some (.ref L)) (some (.int (ps.length : Nat))) (some (.int (j : Int))) none none ∧ Ex HT HM3, ?_, ?_⟩
      · refine ⟨_, rfl, .inl ⟨rfl, _, SqL.of (eM2 _ _ mo.l)⟩, rd_mkR (by decide) (bd_of (by decide +kernel)) fun x HX eX _ hx => ⟨L, _, _, rfl, rfl, eX _ _ (eM2 _ _ mo.l), by have := mo.tl; have := mo.el; rw [List.length_map, sizeLine_eq]; omega, rfl, fun b ob hb => ?_⟩⟩
        rw [upd_ne (ne_of_none hb nL)]
        exact eX _ _ (eM2 _ _ (eM _ _ hb))
      rintro sl HM3 ⟨rfl, eM3⟩
      have mk3 := @mk
      refine ⟨_, rfl, _, rfl, g, nR m o, nO m o, 2 ^ 46, (j : Int), rfl, (hgG.ex eT).ex eM3, gok, fun n => absurd ⟨by omega, by rw [wN]; omega⟩ n, fun c0 c1 T' cs r q HM L as el ex nL hL la hr => ?_⟩
      exact ⟨_, rfl, _, rfl, _, rfl, L, D, Pl, as, _, cols, ps, j, h, rfl, mk el (eM3.trans ex) hL la hr, fun H' e => ⟨_, rfl, iteF ⟨_, _, rfl, eT.trans (eM3.trans (ex.trans e))⟩⟩⟩
    rintro sl HH ⟨o12, o14, rfl, eH⟩
    have EH := eA.trans (eE.trans eH)
    have pH := p9.ex EH
    have hgH := hg.ex EH
    have hPH := eH _ _ hPE
    have hFH := eH _ _ (eE _ _ hF)
    have tne : ∀ {a : Addr} {xs : List V}, HH a = some (.tup xs) → a ≠ p := fun {a xs} q z => by
      obtain ⟨cs, i, d, ne, h1, _⟩ := pH
      rw [z, h1] at q
      cases q
    refine ⟨fun sl HI => ∃ b : Int, 0 ≤ b ∧ sl = SF F o12 (some (.int (ps.length : Nat))) o14 (some (.int b)) none ∧ Keep p HH HI, ?_, ?_⟩
    · exact ⟨_, rfl, p, l, 1000, rfl, pH, by decide, bd_of (by decide +kernel), fun d HI d0 d1 pI kI => ⟨d, d0, rfl, kI⟩⟩
    rintro sl HI ⟨b, b0, rfl, kI⟩
    have hgI := hgH.kp pH kI
    have hPI := kI _ _ hPH (ints_ne pH (ns := pI) (by rw [← pIe]; exact hPH))
    have hFI := kI _ _ hFH (tne hFH)
    refine ⟨fun sl HJ => ∃ o16, sl = SF F o12 (some (.int (ps.length : Nat))) o14 (some (.int b)) o16 ∧ Ex HI HJ, ?_, ?_⟩
    · refine ⟨_, rfl, _, rfl, _, _, rfl, rfl, _, rfl, _, rfl, _, _, rfl, rfl, _, rfl, _, rfl, (by show 4 ≤ sizeLine; rw [sizeLine_eq]; omega), fun L2 nL2 => ⟨L2, rfl, ⟨_, SqL.of upd_same⟩, ?_⟩⟩
      have eN := Ex.new (o := .lst [.int (-1 - b), .int ((wd : Int) + b), .int (-1), .int (wd : Int)]) nL2
      have hgN := hgI.ex eN
      refine for_list (K := K) (a := L2) (xs := [.int (-1 - b), .int ((wd : Int) + b), .int (-1), .int (wd : Int)]) (fun i sl HJ => (∃ o16, sl = SF F o12 (some (.int (ps.length : Nat))) o14 (some (.int b)) o16) ∧ Ex (upd HI L2 (.lst [.int (-1 - b), .int ((wd : Int) + b), .int (-1), .int (wd : Int)])) HJ)
        ⟨⟨_, rfl⟩, fun _ _ h => h⟩ (fun i sl HJ _ q => SqL.of (q.2 _ _ upd_same)) (fun i v sl HJ hv q => ?_) (fun sl HJ q => let ⟨⟨o16, e⟩, z⟩ := q; ⟨o16, e, eN.trans z⟩)
      obtain ⟨⟨o16, rfl⟩, eJ⟩ := q
      have hv2 : ∃ c : Int, v = .int c ∧ ¬ (0 ≤ c ∧ c < (wd : Int)) := by
        match i, hv with
        | 0, hv => cases hv; exact ⟨_, rfl, by omega⟩
        | 1, hv => cases hv; exact ⟨_, rfl, by omega⟩
        | 2, hv => cases hv; exact ⟨_, rfl, by omega⟩
        | 3, hv => cases hv; exact ⟨_, rfl, by omega⟩
        | i + 4, hv => simp at hv
      obtain ⟨c, rfl, hc⟩ := hv2
      exact ⟨_, rfl, _, rfl, g, nR m o, nO m o, 2 ^ 46, c, rfl, hgN.ex eJ, gok, by rw [wN]; exact hc, fun HK e => ⟨_, rfl, iteF ⟨⟨_, rfl⟩, eJ.trans e⟩⟩⟩
    rintro sl HJ ⟨o16, rfl, eJ⟩
    have hgJ := hgI.ex eJ
    refine ⟨fun sl HK => sl = SF F o12 (some (.int (ps.length : Nat))) o14 (some (.int b)) o16 ∧ Ex HJ HK, ?_, ?_⟩
    · refine ⟨_, rfl, g, nR m o, nO m o, 2 ^ 46, rfl, hgJ, gok, fun ps' HB L ch' ex nL hL => ⟨_, rfl, L, Pl, pI, rfl, by rw [hL, ch'.unique chN, pIe], by rw [← pIe]; exact ex _ _ (eJ _ _ hPI), by rw [List.length_map]; omega, fun HC e => ⟨_, rfl, iteF ⟨rfl, ex.trans e⟩⟩⟩⟩
    rintro sl HK ⟨rfl, eK⟩
    have hFK := eK _ _ (eJ _ _ hFI)
    have gne : g ≠ p := fun z => by
      obtain ⟨cs, i, d, ne, h1, _⟩ := pH
      have q := EH _ _ hgi
      rw [z, h1] at q
      cases q
    have hgK := eK _ _ (eJ _ _ (kI _ _ (EH _ _ hgi) gne))
    have hRK : RowsT HK Rg (nR m o) := by
      obtain ⟨cs, r1, r2, r3⟩ := hRg
      refine ⟨cs, eK _ _ (eJ _ _ (kI _ _ (EH _ _ r1) (tne (EH _ _ r1)))), r2, fun i c r z1 z2 => ?_⟩
      have q := EH _ _ (r3 i c r z1 z2)
      exact eK _ _ (eJ _ _ (kI _ _ q (tne q)))
    refine ⟨_, rfl, _, rfl, _, _, _, _, _, rfl, hgK, T.c_Gr, T.na_Gr_rows, zip_get (i := 0) GN_nd rfl rfl, _, rfl, _, _, _, _, _, rfl, hgK, T.c_Gr, T.na_Gr_over, zip_get (i := 1) GN_nd rfl rfl, _, rfl, _, _, _, _, _, rfl, hgK, T.c_Gr, T.na_Gr_height, zip_get (i := 2) GN_nd rfl rfl, _, rfl, _, _, _, _, _, rfl, hgK, T.c_Gr, T.na_Gr_width, zip_get (i := 3) GN_nd rfl rfl, (by show 4 ≤ sizeLine; rw [sizeLine_eq]; omega), fun t nt => ?_⟩
    have eT : Ex HK (upd HK t (.tup [.ref Rg, .int (nO m o), .int ((nR m o).length : Nat), .int (wideOf (nR m o) : Nat)])) := Ex.new nt
    refine ⟨_, _, .tup (SqT.of (eT _ _ hFK)) (.cons (hRK.ex eT).dp (.cons (.int _) (.cons (.int _) (.cons (.int _) .nil)))), .tup (SqT.of upd_same) (.cons (hRK.ex eT).dp (.cons (.int _) (.cons (.int _) (.cons (.int _) .nil)))), shapedF _ _ _ _, shapedF _ _ _ _, ?_⟩
    rw [eqvF]
    exact k _
end
end Fc
set_option Elab.async false
set_option linter.all false
set_option maxRecDepth 100000
set_option maxHeartbeats 4000000
namespace Fc
open PySem PySem.Spec PyProof.Rows L2 L2H
theorem all_mk {l : PySem.W.OpenLaw} {w : World} {K : PySem.W.Frag} {h : Heap} {mg : Str → Option Value} {fa : Addr} (X : K.In h) (G : h.Ns mainGlobals mg) (hfa : mg "law" = some (.ref fa))
    {f_oob : Addr} {oc_oob kV_oob dc_oob pm_oob cd_oob ct_oob : Value} {od_oob an_oob : Option Addr} {sl_oob : Array (Option Value)}
    {f_bpl : Addr} {oc_bpl kV_bpl dc_bpl pm_bpl cd_bpl ct_bpl : Value} {od_bpl an_bpl : Option Addr} {sl_bpl : Array (Option Value)}
    {f_cdiv : Addr} {oc_cdiv kV_cdiv dc_cdiv pm_cdiv cd_cdiv ct_cdiv : Value} {od_cdiv an_cdiv : Option Addr} {sl_cdiv : Array (Option Value)}
    {f_cleared : Addr} {oc_cleared kV_cleared dc_cleared pm_cleared cd_cleared ct_cleared : Value} {od_cleared an_cleared : Option Addr} {sl_cleared : Array (Option Value)}
    {f_fplace : Addr} {oc_fplace kV_fplace dc_fplace pm_fplace cd_fplace ct_fplace : Value} {od_fplace an_fplace : Option Addr} {sl_fplace : Array (Option Value)}
    {f_elim : Addr} {oc_elim kV_elim dc_elim pm_elim cd_elim ct_elim : Value} {od_elim an_elim : Option Addr} {sl_elim : Array (Option Value)}
    {f_indep : Addr} {oc_indep kV_indep dc_indep pm_indep cd_indep ct_indep : Value} {od_indep an_indep : Option Addr} {sl_indep : Array (Option Value)}
    {f_rank : Addr} {oc_rank kV_rank dc_rank pm_rank cd_rank ct_rank : Value} {od_rank an_rank : Option Addr} {sl_rank : Array (Option Value)}
    {f_mixture : Addr} {oc_mixture kV_mixture dc_mixture pm_mixture cd_mixture ct_mixture : Value} {od_mixture an_mixture : Option Addr} {sl_mixture : Array (Option Value)}
    {f_cshape : Addr} {oc_cshape kV_cshape dc_cshape pm_cshape cd_cshape ct_cshape : Value} {od_cshape an_cshape : Option Addr} {sl_cshape : Array (Option Value)}
    {f_shared : Addr} {oc_shared kV_shared dc_shared pm_shared cd_shared ct_shared : Value} {od_shared an_shared : Option Addr} {sl_shared : Array (Option Value)}
    {f_start : Addr} {oc_start kV_start dc_start pm_start cd_start ct_start : Value} {od_start an_start : Option Addr} {sl_start : Array (Option Value)}
    {f_digit : Addr} {oc_digit kV_digit dc_digit pm_digit cd_digit ct_digit : Value} {od_digit an_digit : Option Addr} {sl_digit : Array (Option Value)}
    {f_number : Addr} {oc_number kV_number dc_number pm_number cd_number ct_number : Value} {od_number an_number : Option Addr} {sl_number : Array (Option Value)}
    {f_more : Addr} {oc_more kV_more dc_more pm_more cd_more ct_more : Value} {od_more an_more : Option Addr} {sl_more : Array (Option Value)}
    {f_lcleared : Addr} {oc_lcleared kV_lcleared dc_lcleared pm_lcleared cd_lcleared ct_lcleared : Value} {od_lcleared an_lcleared : Option Addr} {sl_lcleared : Array (Option Value)}
    {f_islist : Addr} {oc_islist kV_islist dc_islist pm_islist cd_islist ct_islist : Value} {od_islist an_islist : Option Addr} {sl_islist : Array (Option Value)}
    {f_pair : Addr} {oc_pair kV_pair dc_pair pm_pair cd_pair ct_pair : Value} {od_pair an_pair : Option Addr} {sl_pair : Array (Option Value)}
    {f_ismix : Addr} {oc_ismix kV_ismix dc_ismix pm_ismix cd_ismix ct_ismix : Value} {od_ismix an_ismix : Option Addr} {sl_ismix : Array (Option Value)}
    {f_badplace : Addr} {oc_badplace kV_badplace dc_badplace pm_badplace cd_badplace ct_badplace : Value} {od_badplace an_badplace : Option Addr} {sl_badplace : Array (Option Value)}
    {f_lindep : Addr} {oc_lindep kV_lindep dc_lindep pm_lindep cd_lindep ct_lindep : Value} {od_lindep an_lindep : Option Addr} {sl_lindep : Array (Option Value)}
    {f_table : Addr} {oc_table kV_table dc_table pm_table cd_table ct_table : Value} {od_table an_table : Option Addr} {sl_table : Array (Option Value)}
    {f_law : Addr} {oc_law kV_law dc_law pm_law cd_law ct_law : Value} {od_law an_law : Option Addr} {sl_law : Array (Option Value)}
    {f_whole : Addr} {oc_whole kV_whole dc_whole pm_whole cd_whole ct_whole : Value} {od_whole an_whole : Option Addr} {sl_whole : Array (Option Value)}
    {C f_init T_init : Addr} {oc_init kV_init dc_init pm_init cd_init ct_init : Value} {od_init an_init : Option Addr} {sl_init : Array (Option Value)} {oT : Value} {dT : Option Addr} {tT : Tok} {nT' : Nat} {sT : Array (Option Value)}
    {Z : Addr}
    {CE : Addr}
    {BS : Addr}
    {O : Addr} {nm_O q_O : Str} {N_O : Addr} {bs1_O : List Value} {sn_O : List Str} {sub_O : List Value} {ab_O : Bool} {col_O : Option Bool} {dd_O : Option Addr} {m0_O m1_O m2_O m3_O m5_O : Option Value} {bm_O : List Value}
    {P : Addr} {nm_P q_P : Str} {N_P : Addr} {bs1_P : List Value} {sn_P : List Str} {sub_P : List Value} {ab_P : Bool} {col_P : Option Bool} {dd_P : Option Addr} {m0_P m1_P m2_P m3_P m5_P : Option Value} {bm_P : List Value}
    {tk_MOST_SIZE : Tok}
    {Gr f_ginit T_ginit : Addr} {oc_ginit kV_ginit dc_ginit pm_ginit cd_ginit ct_ginit : Value} {od_ginit an_ginit : Option Addr} {sl_ginit : Array (Option Value)} {oT_ginit : Value} {dT_ginit : Option Addr} {tT_ginit : Tok} {nT_ginit : Nat} {sT_ginit : Array (Option Value)}
    (hn : PySem.W.specialIn K (.builtin "object.__class__") "__get__" = some (some (.builtin "getset_descriptor.__get__")))
    (htk : PySem.W.takesIn K (.builtin "object.__class__") = some true)
    (aC : PySem.W.nsIn K mainGlobals "Ratio" = some (some (.ref C)))
    (pgC : PySem.W.plainGet K C Str.empty = true)
    (hdC : PySem.W.hasDictIn K C = true)
    (poC : PySem.W.plainOver K C = true)
    (saC : PySem.W.findIn K (.ref C) "__setattr__" = some (some (.builtin "object.__setattr__")))
    (mkC : PySem.W.makesIn K C = true)
    (kcC : PySem.W.keepIn K (.ref C) = true)
    (a_init : PySem.W.findIn K (.ref C) "__init__" = some (some (.ref f_init)))
    (i_init : PySem.W.isFn K (.ref f_init) = true)
    (l_init : K.lookup f_init = some ⟨oc_init, od_init, .func (PySem.W.fnOf "__init__" "Ratio.__init__" (defArgs S_init) (defBody S_init) (defScope S_init) (.ref T_init) kV_init dc_init pm_init an_init cd_init ct_init), sl_init⟩)
    (lT : K.lookup T_init = some ⟨oT, dT, .seq #[Value.int 1 tT] nT', sT⟩)
    (c_init : PySem.W.codeIn K cd_init "Ratio.__init__" = true)
    (k_init : PySem.W.keepIn K (.ref f_init) = true)
    (nT : PySem.W.findIn K (.ref C) "top" = some none)
    (nB : PySem.W.findIn K (.ref C) "bottom" = some none)
    (ha : PySem.W.findIn K (.ref C) "__class__" = some (some (.builtin "object.__class__")))
    (hm : PySem.W.mroIn K C (.type "object") = some true)
    (gg : PySem.W.nsIn K mainGlobals "gcd" = some (some (.builtin "math.gcd")))
    (aZ : PySem.W.nsIn K mainGlobals "ZeroBottom" = some (some (.ref Z)))
    (xZ : PySem.W.excIn K Z [.type "ValueError", .type "Exception", .type "BaseException", .type "object"] "ValueError.__new__" = true)
    (kZ : PySem.W.keepIn K (.ref Z) = true)
    (bZ : PySem.W.subIn K (.ref Z) (.type "BaseException") = some true)
    (tZ : PySem.W.typeIn K (.ref Z) = some (.type "type"))
    (aCE : PySem.W.nsIn K mainGlobals "CarryError" = some (some (.ref CE)))
    (CEd : PySem.W.hasDictIn K CE = true)
    (CEb : PySem.W.subIn K (.ref CE) (.type "BaseException") = some true)
    (CEt : PySem.W.typeIn K (.ref CE) = some (.type "type"))
    (a_BS : PySem.W.nsIn K mainGlobals "BadShape" = some (some (.ref BS)))
    (x_BS : PySem.W.excIn K BS [.type "ValueError", .type "Exception", .type "BaseException", .type "object"] "ValueError.__new__" = true)
    (k_BS : PySem.W.keepIn K (.ref BS) = true)
    (bs_BS : PySem.W.subIn K (.ref BS) (.type "BaseException") = some true)
    (t_BS : PySem.W.typeIn K (.ref BS) = some (.type "type"))
    (e_BS : PySem.W.subIn K (.ref BS) (.ref CE) = some true)
    (g0_BS : PySem.W.findIn K (.ref BS) "__getattribute__" = some (some (.builtin "BaseException.__getattribute__")))
    (g1_BS : PySem.W.findIn K (.ref BS) "__getattr__" = some none)
    (d_BS : PySem.W.hasDictIn K BS = true)
    (cl_BS : PySem.W.findIn K (.ref BS) "__class__" = some (some (.builtin "object.__class__")))
    (m_BS : PySem.W.mroIn K BS (.type "object") = some true)
    (v_BS : PySem.W.subIn K (.ref BS) (.type "ValueError") = some true)
    (a_O : PySem.W.nsIn K mainGlobals "OutOfBounds" = some (some (.ref O)))
    (c_O : K.lookup O = some (excClassObj nm_O q_O O N_O bs1_O bm_O true sn_O sub_O ab_O col_O dd_O m0_O m1_O m2_O m3_O m5_O "ValueError.__new__"))
    (r_O : PySem.HandSPX.refsVE bm_O = true)
    (sa_O : PySem.W.findIn K (.ref O) "__setattr__" = some (some (.builtin "object.__setattr__")))
    (k_O : PySem.W.keepIn K (.ref O) = true)
    (bs_O : PySem.W.subIn K (.ref O) (.type "BaseException") = some true)
    (t_O : PySem.W.typeIn K (.ref O) = some (.type "type"))
    (e_O : PySem.W.subIn K (.ref O) (.ref CE) = some true)
    (g0_O : PySem.W.findIn K (.ref O) "__getattribute__" = some (some (.builtin "BaseException.__getattribute__")))
    (g1_O : PySem.W.findIn K (.ref O) "__getattr__" = some none)
    (d_O : PySem.W.hasDictIn K O = true)
    (cl_O : PySem.W.findIn K (.ref O) "__class__" = some (some (.builtin "object.__class__")))
    (m_O : PySem.W.mroIn K O (.type "object") = some true)
    (v_O : PySem.W.subIn K (.ref O) (.type "ValueError") = some true)
    (n_O_value : PySem.W.findIn K (.ref O) "value" = some none)
    (a_P : PySem.W.nsIn K mainGlobals "BadPlace" = some (some (.ref P)))
    (c_P : K.lookup P = some (excClassObj nm_P q_P P N_P bs1_P bm_P true sn_P sub_P ab_P col_P dd_P m0_P m1_P m2_P m3_P m5_P "ValueError.__new__"))
    (r_P : PySem.HandSPX.refsVE bm_P = true)
    (sa_P : PySem.W.findIn K (.ref P) "__setattr__" = some (some (.builtin "object.__setattr__")))
    (k_P : PySem.W.keepIn K (.ref P) = true)
    (bs_P : PySem.W.subIn K (.ref P) (.type "BaseException") = some true)
    (t_P : PySem.W.typeIn K (.ref P) = some (.type "type"))
    (e_P : PySem.W.subIn K (.ref P) (.ref CE) = some true)
    (g0_P : PySem.W.findIn K (.ref P) "__getattribute__" = some (some (.builtin "BaseException.__getattribute__")))
    (g1_P : PySem.W.findIn K (.ref P) "__getattr__" = some none)
    (d_P : PySem.W.hasDictIn K P = true)
    (cl_P : PySem.W.findIn K (.ref P) "__class__" = some (some (.builtin "object.__class__")))
    (m_P : PySem.W.mroIn K P (.type "object") = some true)
    (v_P : PySem.W.subIn K (.ref P) (.type "ValueError") = some true)
    (n_P_place : PySem.W.findIn K (.ref P) "place" = some none)
    (s_pNbs : PySem.W.subIn K (.ref P) (.ref BS) = some false)
    (n_pNbs : P ≠ BS)
    (gi_MOST_SIZE : PySem.W.nsIn K mainGlobals "_MOST_SIZE" = some (some (.int 64 tk_MOST_SIZE)))
    (a_Gr : PySem.W.nsIn K mainGlobals "Grid" = some (some (.ref Gr)))
    (pgGr : PySem.W.plainGet K Gr Str.empty = true)
    (hdGr : PySem.W.hasDictIn K Gr = true)
    (poGr : PySem.W.plainOver K Gr = true)
    (saGr : PySem.W.findIn K (.ref Gr) "__setattr__" = some (some (.builtin "object.__setattr__")))
    (mkGr : PySem.W.makesIn K Gr = true)
    (kcGr : PySem.W.keepIn K (.ref Gr) = true)
    (ha_Gr : PySem.W.findIn K (.ref Gr) "__class__" = some (some (.builtin "object.__class__")))
    (hm_Gr : PySem.W.mroIn K Gr (.type "object") = some true)
    (na_Gr_rows : PySem.W.findIn K (.ref Gr) "rows" = some none)
    (na_Gr_over : PySem.W.findIn K (.ref Gr) "over" = some none)
    (na_Gr_height : PySem.W.findIn K (.ref Gr) "height" = some none)
    (na_Gr_width : PySem.W.findIn K (.ref Gr) "width" = some none)
    (a_ginit : PySem.W.findIn K (.ref Gr) "__init__" = some (some (.ref f_ginit)))
    (i_ginit : PySem.W.isFn K (.ref f_ginit) = true)
    (l_ginit : K.lookup f_ginit = some ⟨oc_ginit, od_ginit, .func (PySem.W.fnOf "__init__" "Grid.__init__" (defArgs S_ginit) (defBody S_ginit) (defScope S_ginit) (.ref T_ginit) kV_ginit dc_ginit pm_ginit an_ginit cd_ginit ct_ginit), sl_ginit⟩)
    (lT_ginit : K.lookup T_ginit = some ⟨oT_ginit, dT_ginit, .seq #[Value.int 1 tT_ginit] nT_ginit, sT_ginit⟩)
    (c_ginit : PySem.W.codeIn K cd_ginit "Grid.__init__" = true)
    (k_ginit : PySem.W.keepIn K (.ref f_ginit) = true)
    (z_len : PySem.W.nsIn K mainGlobals "len" = some none)
    (z_abs : PySem.W.nsIn K mainGlobals "abs" = some none)
    (z_int : PySem.W.nsIn K mainGlobals "int" = some none)
    (z_bool : PySem.W.nsIn K mainGlobals "bool" = some none)
    (z_isinstance : PySem.W.nsIn K mainGlobals "isinstance" = some none)
    (z_range : PySem.W.nsIn K mainGlobals "range" = some none)
    (z_ValueError : PySem.W.nsIn K mainGlobals "ValueError" = some none)
    (z_list : PySem.W.nsIn K mainGlobals "list" = some none)
    (z_zip : PySem.W.nsIn K mainGlobals "zip" = some none)
    (z_tuple : PySem.W.nsIn K mainGlobals "tuple" = some none)
    (z_all : PySem.W.nsIn K mainGlobals "all" = some none)
    (z_enumerate : PySem.W.nsIn K mainGlobals "enumerate" = some none)
    (a_oob : PySem.W.findIn K (.ref O) "__init__" = some (some (.ref f_oob)))
    (i_oob : PySem.W.isFn K (.ref f_oob) = true)
    (l_oob : K.lookup f_oob = some ⟨oc_oob, od_oob, .func (PySem.W.fnOf "__init__" "OutOfBounds.__init__" (defArgs S_oob) (defBody S_oob) (defScope S_oob) .none kV_oob dc_oob pm_oob an_oob cd_oob ct_oob), sl_oob⟩)
    (c_oob : PySem.W.codeIn K cd_oob "OutOfBounds.__init__" = true)
    (k_oob : PySem.W.keepIn K (.ref f_oob) = true)
    (a_bpl : PySem.W.findIn K (.ref P) "__init__" = some (some (.ref f_bpl)))
    (i_bpl : PySem.W.isFn K (.ref f_bpl) = true)
    (l_bpl : K.lookup f_bpl = some ⟨oc_bpl, od_bpl, .func (PySem.W.fnOf "__init__" "BadPlace.__init__" (defArgs S_bpl) (defBody S_bpl) (defScope S_bpl) .none kV_bpl dc_bpl pm_bpl an_bpl cd_bpl ct_bpl), sl_bpl⟩)
    (c_bpl : PySem.W.codeIn K cd_bpl "BadPlace.__init__" = true)
    (k_bpl : PySem.W.keepIn K (.ref f_bpl) = true)
    (a_cdiv : PySem.W.nsIn K mainGlobals "common_divisor" = some (some (.ref f_cdiv)))
    (l_cdiv : K.lookup f_cdiv = some ⟨oc_cdiv, od_cdiv, .func (PySem.W.fnOf "common_divisor" "common_divisor" (defArgs S_cdiv) (defBody S_cdiv) (defScope S_cdiv) .none kV_cdiv dc_cdiv pm_cdiv an_cdiv cd_cdiv ct_cdiv), sl_cdiv⟩)
    (c_cdiv : PySem.W.codeIn K cd_cdiv "common_divisor" = true)
    (k_cdiv : PySem.W.keepIn K (.ref f_cdiv) = true)
    (a_cleared : PySem.W.nsIn K mainGlobals "cleared" = some (some (.ref f_cleared)))
    (l_cleared : K.lookup f_cleared = some ⟨oc_cleared, od_cleared, .func (PySem.W.fnOf "cleared" "cleared" (defArgs S_cleared) (defBody S_cleared) (defScope S_cleared) .none kV_cleared dc_cleared pm_cleared an_cleared cd_cleared ct_cleared), sl_cleared⟩)
    (c_cleared : PySem.W.codeIn K cd_cleared "cleared" = true)
    (k_cleared : PySem.W.keepIn K (.ref f_cleared) = true)
    (a_fplace : PySem.W.nsIn K mainGlobals "_first_place" = some (some (.ref f_fplace)))
    (l_fplace : K.lookup f_fplace = some ⟨oc_fplace, od_fplace, .func (PySem.W.fnOf "_first_place" "_first_place" (defArgs S_fplace) (defBody S_fplace) (defScope S_fplace) .none kV_fplace dc_fplace pm_fplace an_fplace cd_fplace ct_fplace), sl_fplace⟩)
    (c_fplace : PySem.W.codeIn K cd_fplace "_first_place" = true)
    (k_fplace : PySem.W.keepIn K (.ref f_fplace) = true)
    (a_elim : PySem.W.nsIn K mainGlobals "eliminated" = some (some (.ref f_elim)))
    (l_elim : K.lookup f_elim = some ⟨oc_elim, od_elim, .func (PySem.W.fnOf "eliminated" "eliminated" (defArgs S_elim) (defBody S_elim) (defScope S_elim) .none kV_elim dc_elim pm_elim an_elim cd_elim ct_elim), sl_elim⟩)
    (c_elim : PySem.W.codeIn K cd_elim "eliminated" = true)
    (k_elim : PySem.W.keepIn K (.ref f_elim) = true)
    (a_indep : PySem.W.nsIn K mainGlobals "independent_columns" = some (some (.ref f_indep)))
    (l_indep : K.lookup f_indep = some ⟨oc_indep, od_indep, .func (PySem.W.fnOf "independent_columns" "independent_columns" (defArgs S_indep) (defBody S_indep) (defScope S_indep) .none kV_indep dc_indep pm_indep an_indep cd_indep ct_indep), sl_indep⟩)
    (c_indep : PySem.W.codeIn K cd_indep "independent_columns" = true)
    (k_indep : PySem.W.keepIn K (.ref f_indep) = true)
    (a_rank : PySem.W.nsIn K mainGlobals "rank" = some (some (.ref f_rank)))
    (l_rank : K.lookup f_rank = some ⟨oc_rank, od_rank, .func (PySem.W.fnOf "rank" "rank" (defArgs S_rank) (defBody S_rank) (defScope S_rank) .none kV_rank dc_rank pm_rank an_rank cd_rank ct_rank), sl_rank⟩)
    (c_rank : PySem.W.codeIn K cd_rank "rank" = true)
    (k_rank : PySem.W.keepIn K (.ref f_rank) = true)
    (a_mixture : PySem.W.nsIn K mainGlobals "mixture" = some (some (.ref f_mixture)))
    (l_mixture : K.lookup f_mixture = some ⟨oc_mixture, od_mixture, .func (PySem.W.fnOf "mixture" "mixture" (defArgs S_mixture) (defBody S_mixture) (defScope S_mixture) .none kV_mixture dc_mixture pm_mixture an_mixture cd_mixture ct_mixture), sl_mixture⟩)
    (c_mixture : PySem.W.codeIn K cd_mixture "mixture" = true)
    (k_mixture : PySem.W.keepIn K (.ref f_mixture) = true)
    (a_cshape : PySem.W.nsIn K mainGlobals "_check_shape" = some (some (.ref f_cshape)))
    (l_cshape : K.lookup f_cshape = some ⟨oc_cshape, od_cshape, .func (PySem.W.fnOf "_check_shape" "_check_shape" (defArgs S_cshape) (defBody S_cshape) (defScope S_cshape) .none kV_cshape dc_cshape pm_cshape an_cshape cd_cshape ct_cshape), sl_cshape⟩)
    (c_cshape : PySem.W.codeIn K cd_cshape "_check_shape" = true)
    (k_cshape : PySem.W.keepIn K (.ref f_cshape) = true)
    (a_shared : PySem.W.nsIn K mainGlobals "_shared_divisor" = some (some (.ref f_shared)))
    (l_shared : K.lookup f_shared = some ⟨oc_shared, od_shared, .func (PySem.W.fnOf "_shared_divisor" "_shared_divisor" (defArgs S_shared) (defBody S_shared) (defScope S_shared) .none kV_shared dc_shared pm_shared an_shared cd_shared ct_shared), sl_shared⟩)
    (c_shared : PySem.W.codeIn K cd_shared "_shared_divisor" = true)
    (k_shared : PySem.W.keepIn K (.ref f_shared) = true)
    (a_start : PySem.W.nsIn K mainGlobals "_law_start" = some (some (.ref f_start)))
    (l_start : K.lookup f_start = some ⟨oc_start, od_start, .func (PySem.W.fnOf "_law_start" "_law_start" (defArgs S_start) (defBody S_start) (defScope S_start) .none kV_start dc_start pm_start an_start cd_start ct_start), sl_start⟩)
    (c_start : PySem.W.codeIn K cd_start "_law_start" = true)
    (k_start : PySem.W.keepIn K (.ref f_start) = true)
    (a_digit : PySem.W.nsIn K mainGlobals "_law_digit" = some (some (.ref f_digit)))
    (l_digit : K.lookup f_digit = some ⟨oc_digit, od_digit, .func (PySem.W.fnOf "_law_digit" "_law_digit" (defArgs S_digit) (defBody S_digit) (defScope S_digit) .none kV_digit dc_digit pm_digit an_digit cd_digit ct_digit), sl_digit⟩)
    (c_digit : PySem.W.codeIn K cd_digit "_law_digit" = true)
    (k_digit : PySem.W.keepIn K (.ref f_digit) = true)
    (a_number : PySem.W.nsIn K mainGlobals "_law_number" = some (some (.ref f_number)))
    (l_number : K.lookup f_number = some ⟨oc_number, od_number, .func (PySem.W.fnOf "_law_number" "_law_number" (defArgs S_number) (defBody S_number) (defScope S_number) .none kV_number dc_number pm_number an_number cd_number ct_number), sl_number⟩)
    (c_number : PySem.W.codeIn K cd_number "_law_number" = true)
    (k_number : PySem.W.keepIn K (.ref f_number) = true)
    (a_more : PySem.W.nsIn K mainGlobals "_law_more" = some (some (.ref f_more)))
    (l_more : K.lookup f_more = some ⟨oc_more, od_more, .func (PySem.W.fnOf "_law_more" "_law_more" (defArgs S_more) (defBody S_more) (defScope S_more) .none kV_more dc_more pm_more an_more cd_more ct_more), sl_more⟩)
    (c_more : PySem.W.codeIn K cd_more "_law_more" = true)
    (k_more : PySem.W.keepIn K (.ref f_more) = true)
    (a_lcleared : PySem.W.nsIn K mainGlobals "_law_cleared" = some (some (.ref f_lcleared)))
    (l_lcleared : K.lookup f_lcleared = some ⟨oc_lcleared, od_lcleared, .func (PySem.W.fnOf "_law_cleared" "_law_cleared" (defArgs S_lcleared) (defBody S_lcleared) (defScope S_lcleared) .none kV_lcleared dc_lcleared pm_lcleared an_lcleared cd_lcleared ct_lcleared), sl_lcleared⟩)
    (c_lcleared : PySem.W.codeIn K cd_lcleared "_law_cleared" = true)
    (k_lcleared : PySem.W.keepIn K (.ref f_lcleared) = true)
    (a_islist : PySem.W.nsIn K mainGlobals "_law_is_list" = some (some (.ref f_islist)))
    (l_islist : K.lookup f_islist = some ⟨oc_islist, od_islist, .func (PySem.W.fnOf "_law_is_list" "_law_is_list" (defArgs S_islist) (defBody S_islist) (defScope S_islist) .none kV_islist dc_islist pm_islist an_islist cd_islist ct_islist), sl_islist⟩)
    (c_islist : PySem.W.codeIn K cd_islist "_law_is_list" = true)
    (k_islist : PySem.W.keepIn K (.ref f_islist) = true)
    (a_pair : PySem.W.nsIn K mainGlobals "_law_pair" = some (some (.ref f_pair)))
    (l_pair : K.lookup f_pair = some ⟨oc_pair, od_pair, .func (PySem.W.fnOf "_law_pair" "_law_pair" (defArgs S_pair) (defBody S_pair) (defScope S_pair) .none kV_pair dc_pair pm_pair an_pair cd_pair ct_pair), sl_pair⟩)
    (c_pair : PySem.W.codeIn K cd_pair "_law_pair" = true)
    (k_pair : PySem.W.keepIn K (.ref f_pair) = true)
    (a_ismix : PySem.W.nsIn K mainGlobals "_law_is_mixture" = some (some (.ref f_ismix)))
    (l_ismix : K.lookup f_ismix = some ⟨oc_ismix, od_ismix, .func (PySem.W.fnOf "_law_is_mixture" "_law_is_mixture" (defArgs S_ismix) (defBody S_ismix) (defScope S_ismix) .none kV_ismix dc_ismix pm_ismix an_ismix cd_ismix ct_ismix), sl_ismix⟩)
    (c_ismix : PySem.W.codeIn K cd_ismix "_law_is_mixture" = true)
    (k_ismix : PySem.W.keepIn K (.ref f_ismix) = true)
    (a_badplace : PySem.W.nsIn K mainGlobals "_law_bad_place" = some (some (.ref f_badplace)))
    (l_badplace : K.lookup f_badplace = some ⟨oc_badplace, od_badplace, .func (PySem.W.fnOf "_law_bad_place" "_law_bad_place" (defArgs S_badplace) (defBody S_badplace) (defScope S_badplace) .none kV_badplace dc_badplace pm_badplace an_badplace cd_badplace ct_badplace), sl_badplace⟩)
    (c_badplace : PySem.W.codeIn K cd_badplace "_law_bad_place" = true)
    (k_badplace : PySem.W.keepIn K (.ref f_badplace) = true)
    (a_lindep : PySem.W.nsIn K mainGlobals "_law_independent" = some (some (.ref f_lindep)))
    (l_lindep : K.lookup f_lindep = some ⟨oc_lindep, od_lindep, .func (PySem.W.fnOf "_law_independent" "_law_independent" (defArgs S_lindep) (defBody S_lindep) (defScope S_lindep) .none kV_lindep dc_lindep pm_lindep an_lindep cd_lindep ct_lindep), sl_lindep⟩)
    (c_lindep : PySem.W.codeIn K cd_lindep "_law_independent" = true)
    (k_lindep : PySem.W.keepIn K (.ref f_lindep) = true)
    (a_table : PySem.W.nsIn K mainGlobals "_law_table" = some (some (.ref f_table)))
    (l_table : K.lookup f_table = some ⟨oc_table, od_table, .func (PySem.W.fnOf "_law_table" "_law_table" (defArgs S_table) (defBody S_table) (defScope S_table) .none kV_table dc_table pm_table an_table cd_table ct_table), sl_table⟩)
    (c_table : PySem.W.codeIn K cd_table "_law_table" = true)
    (k_table : PySem.W.keepIn K (.ref f_table) = true)
    (a_law : PySem.W.nsIn K mainGlobals "law" = some (some (.ref f_law)))
    (l_law : K.lookup f_law = some ⟨oc_law, od_law, .func (PySem.W.fnOf "law" "law" (defArgs S_law) (defBody S_law) (defScope S_law) .none kV_law dc_law pm_law an_law cd_law ct_law), sl_law⟩)
    (c_law : PySem.W.codeIn K cd_law "law" = true)
    (k_law : PySem.W.keepIn K (.ref f_law) = true)
    (a_whole : PySem.W.nsIn K mainGlobals "_law_whole" = some (some (.ref f_whole)))
    (l_whole : K.lookup f_whole = some ⟨oc_whole, od_whole, .func (PySem.W.fnOf "_law_whole" "_law_whole" (defArgs S_whole) (defBody S_whole) (defScope S_whole) .none kV_whole dc_whole pm_whole an_whole cd_whole ct_whole), sl_whole⟩)
    (c_whole : PySem.W.codeIn K cd_whole "_law_whole" = true)
    (k_whole : PySem.W.keepIn K (.ref f_whole) = true) :
    ∃ fd : FuncData, (∀ (s : Shared) (v : Value), BindsTo s fd ⟨[v], []⟩ [("script", v)]) ∧ ∀ base : Heap, K.In base → base.Ns mainGlobals mg → FnOk l.prog w K mg base CX0 9 fa fd ["script"] (spLaw K) := by
  have e := hfa.symm.trans (PySem.W.mg_of X G a_law)
  cases e
  have F_oob := fun_mk (st := S_oob) l_oob c_oob k_oob
  have b_oob := F_oob.binds (ps := ["self", "value"]) fun _ _ _ _ _ _ us hl => match us, hl with | [_, _], _ => rfl
  have F_bpl := fun_mk (st := S_bpl) l_bpl c_bpl k_bpl
  have b_bpl := F_bpl.binds (ps := ["self", "place"]) fun _ _ _ _ _ _ us hl => match us, hl with | [_, _], _ => rfl
  have F_cdiv := fun_mk (st := S_cdiv) l_cdiv c_cdiv k_cdiv
  have b_cdiv := F_cdiv.binds (ps := ["row"]) fun _ _ _ _ _ _ us hl => match us, hl with | [_], _ => rfl
  have F_cleared := fun_mk (st := S_cleared) l_cleared c_cleared k_cleared
  have b_cleared := F_cleared.binds (ps := ["row", "base", "column", "divisor"]) fun _ _ _ _ _ _ us hl => match us, hl with | [_, _, _, _], _ => rfl
  have F_fplace := fun_mk (st := S_fplace) l_fplace c_fplace k_fplace
  have b_fplace := F_fplace.binds (ps := ["table", "start", "column"]) fun _ _ _ _ _ _ us hl => match us, hl with | [_, _, _], _ => rfl
  have F_elim := fun_mk (st := S_elim) l_elim c_elim k_elim
  have b_elim := F_elim.binds (ps := ["rows", "width"]) fun _ _ _ _ _ _ us hl => match us, hl with | [_, _], _ => rfl
  have F_indep := fun_mk (st := S_indep) l_indep c_indep k_indep
  have b_indep := F_indep.binds (ps := ["grid"]) fun _ _ _ _ _ _ us hl => match us, hl with | [_], _ => rfl
  have F_rank := fun_mk (st := S_rank) l_rank c_rank k_rank
  have b_rank := F_rank.binds (ps := ["grid"]) fun _ _ _ _ _ _ us hl => match us, hl with | [_], _ => rfl
  have F_mixture := fun_mk (st := S_mixture) l_mixture c_mixture k_mixture
  have b_mixture := F_mixture.binds (ps := ["grid", "column"]) fun _ _ _ _ _ _ us hl => match us, hl with | [_, _], _ => rfl
  have F_cshape := fun_mk (st := S_cshape) l_cshape c_cshape k_cshape
  have b_cshape := F_cshape.binds (ps := ["rows"]) fun _ _ _ _ _ _ us hl => match us, hl with | [_], _ => rfl
  have F_shared := fun_mk (st := S_shared) l_shared c_shared k_shared
  have b_shared := F_shared.binds (ps := ["rows", "over"]) fun _ _ _ _ _ _ us hl => match us, hl with | [_, _], _ => rfl
  have F_start := fun_mk (st := S_start) l_start c_start k_start
  have b_start := F_start.binds (ps := ["script"]) fun _ _ _ _ _ _ us hl => match us, hl with | [_], _ => rfl
  have F_digit := fun_mk (st := S_digit) l_digit c_digit k_digit
  have b_digit := F_digit.binds (ps := ["pot", "many"]) fun _ _ _ _ _ _ us hl => match us, hl with | [_, _], _ => rfl
  have F_number := fun_mk (st := S_number) l_number c_number k_number
  have b_number := F_number.binds (ps := ["pot", "many", "shift"]) fun _ _ _ _ _ _ us hl => match us, hl with | [_, _, _], _ => rfl
  have F_more := fun_mk (st := S_more) l_more c_more k_more
  have b_more := F_more.binds (ps := ["x", "y", "times"]) fun _ _ _ _ _ _ us hl => match us, hl with | [_, _, _], _ => rfl
  have F_lcleared := fun_mk (st := S_lcleared) l_lcleared c_lcleared k_lcleared
  have b_lcleared := F_lcleared.binds (ps := ["x", "y", "at"]) fun _ _ _ _ _ _ us hl => match us, hl with | [_, _, _], _ => rfl
  have F_islist := fun_mk (st := S_islist) l_islist c_islist k_islist
  have b_islist := F_islist.binds (ps := ["told", "places"]) fun _ _ _ _ _ _ us hl => match us, hl with | [_, _], _ => rfl
  have F_pair := fun_mk (st := S_pair) l_pair c_pair k_pair
  have b_pair := F_pair.binds (ps := ["told"]) fun _ _ _ _ _ _ us hl => match us, hl with | [_], _ => rfl
  have F_ismix := fun_mk (st := S_ismix) l_ismix c_ismix k_ismix
  have b_ismix := F_ismix.binds (ps := ["told", "columns", "places", "at"]) fun _ _ _ _ _ _ us hl => match us, hl with | [_, _, _, _], _ => rfl
  have F_badplace := fun_mk (st := S_badplace) l_badplace c_badplace k_badplace
  have b_badplace := F_badplace.binds (ps := ["a", "place"]) fun _ _ _ _ _ _ us hl => match us, hl with | [_, _], _ => rfl
  have F_lindep := fun_mk (st := S_lindep) l_lindep c_lindep k_lindep
  have b_lindep := F_lindep.binds (ps := ["columns"]) fun _ _ _ _ _ _ us hl => match us, hl with | [_], _ => rfl
  have F_table := fun_mk (st := S_table) l_table c_table k_table
  have b_table := F_table.binds (ps := ["pot", "height", "width"]) fun _ _ _ _ _ _ us hl => match us, hl with | [_, _, _], _ => rfl
  have F_law := fun_mk (st := S_law) l_law c_law k_law
  have b_law := F_law.binds (ps := ["script"]) fun _ _ _ _ _ _ us hl => match us, hl with | [_], _ => rfl
  have F_whole := fun_mk (st := S_whole) l_whole c_whole k_whole
  have b_whole := F_whole.binds (ps := ["told"]) fun _ _ _ _ _ _ us hl => match us, hl with | [_], _ => rfl
  have F_init : FunD K "__init__" "Ratio.__init__" (defArgs S_init) (defBody S_init) (defScope S_init) [.int 1] [] f_init (PySem.W.fnOf "__init__" "Ratio.__init__" (defArgs S_init) (defBody S_init) (defScope S_init) (.ref T_init) kV_init dc_init pm_init an_init cd_init ct_init) :=
    ⟨⟨_, _, _, _, _, _, _, _, _, _, rfl, l_init, c_init, .inr ⟨(by intro z; cases z), T_init, _, [Value.int 1 tT], _, rfl, lT, rfl, .cons ⟨_, rfl⟩ .nil⟩, .inl rfl⟩, k_init⟩
  have b3 : ∃ ds, Vals (([V.int 1] : List V).drop 1) ds ∧ Binds K (PySem.W.fnOf "__init__" "Ratio.__init__" (defArgs S_init) (defBody S_init) (defScope S_init) (.ref T_init) kV_init dc_init pm_init an_init cd_init ct_init) ["self", "top", "bottom"] ds :=
    F_init.binds1 3 1 (by intro z; cases z) rfl fun T kV doc pm an cdv ct us its h1 h2 => match us, its, h1, h2 with | [_, _, _], [_], _, _ => ⟨_, rfl, rfl⟩
  have b2 : ∃ ds, Vals (([V.int 1] : List V).drop 0) ds ∧ Binds K (PySem.W.fnOf "__init__" "Ratio.__init__" (defArgs S_init) (defBody S_init) (defScope S_init) (.ref T_init) kV_init dc_init pm_init an_init cd_init ct_init) ["self", "top", "bottom"] ds :=
    F_init.binds1 2 0 (by intro z; cases z) rfl fun T kV doc pm an cdv ct us its h1 h2 => match us, its, h1, h2 with | [_, _], [_], _, _ => ⟨_, rfl, rfl⟩
  have b3' : Binds K (PySem.W.fnOf "__init__" "Ratio.__init__" (defArgs S_init) (defBody S_init) (defScope S_init) (.ref T_init) kV_init dc_init pm_init an_init cd_init ct_init) ["self", "top", "bottom"] [] := by
    obtain ⟨ds, v, b⟩ := b3
    cases v
    exact b
  have F_ginit : FunD K "__init__" "Grid.__init__" (defArgs S_ginit) (defBody S_ginit) (defScope S_ginit) [.int 1] [] f_ginit (PySem.W.fnOf "__init__" "Grid.__init__" (defArgs S_ginit) (defBody S_ginit) (defScope S_ginit) (.ref T_ginit) kV_ginit dc_ginit pm_ginit an_ginit cd_ginit ct_ginit) :=
    ⟨⟨_, _, _, _, _, _, _, _, _, _, rfl, l_ginit, c_ginit, .inr ⟨(by intro z; cases z), T_ginit, _, [Value.int 1 tT_ginit], _, rfl, lT_ginit, rfl, .cons ⟨_, rfl⟩ .nil⟩, .inl rfl⟩, k_ginit⟩
  have b3_ginit : ∃ ds, Vals (([V.int 1] : List V).drop 1) ds ∧ Binds K (PySem.W.fnOf "__init__" "Grid.__init__" (defArgs S_ginit) (defBody S_ginit) (defScope S_ginit) (.ref T_ginit) kV_ginit dc_ginit pm_ginit an_ginit cd_ginit ct_ginit) ["self", "rows", "over"] ds :=
    F_ginit.binds1 3 1 (by intro z; cases z) rfl fun T kV doc pm an cdv ct us its h1 h2 => match us, its, h1, h2 with | [_, _, _], [_], _, _ => ⟨_, rfl, rfl⟩
  have b2_ginit : ∃ ds, Vals (([V.int 1] : List V).drop 0) ds ∧ Binds K (PySem.W.fnOf "__init__" "Grid.__init__" (defArgs S_ginit) (defBody S_ginit) (defScope S_ginit) (.ref T_ginit) kV_ginit dc_ginit pm_ginit an_ginit cd_ginit ct_ginit) ["self", "rows", "over"] ds :=
    F_ginit.binds1 2 0 (by intro z; cases z) rfl fun T kV doc pm an cdv ct us its h1 h2 => match us, its, h1, h2 with | [_, _], [_], _, _ => ⟨_, rfl, rfl⟩
  have b4_ginit : Binds K (PySem.W.fnOf "__init__" "Grid.__init__" (defArgs S_ginit) (defBody S_ginit) (defScope S_ginit) (.ref T_ginit) kV_ginit dc_ginit pm_ginit an_ginit cd_ginit ct_ginit) ["self", "rows", "over"] [] := by
    obtain ⟨ds, v, b⟩ := b3_ginit
    cases v
    exact b
  let A : Ad := { C := C, f_init := f_init, d_init := PySem.W.fnOf "__init__" "Ratio.__init__" (defArgs S_init) (defBody S_init) (defScope S_init) (.ref T_init) kV_init dc_init pm_init an_init cd_init ct_init, Z := Z, CE := CE, BS := BS, O := O, P := P, Gr := Gr, f_ginit := f_ginit, d_ginit := PySem.W.fnOf "__init__" "Grid.__init__" (defArgs S_ginit) (defBody S_ginit) (defScope S_ginit) (.ref T_ginit) kV_ginit dc_ginit pm_ginit an_ginit cd_ginit ct_ginit, f_oob := f_oob, d_oob := PySem.W.fnOf "__init__" "OutOfBounds.__init__" (defArgs S_oob) (defBody S_oob) (defScope S_oob) .none kV_oob dc_oob pm_oob an_oob cd_oob ct_oob, f_bpl := f_bpl, d_bpl := PySem.W.fnOf "__init__" "BadPlace.__init__" (defArgs S_bpl) (defBody S_bpl) (defScope S_bpl) .none kV_bpl dc_bpl pm_bpl an_bpl cd_bpl ct_bpl, f_cdiv := f_cdiv, d_cdiv := PySem.W.fnOf "common_divisor" "common_divisor" (defArgs S_cdiv) (defBody S_cdiv) (defScope S_cdiv) .none kV_cdiv dc_cdiv pm_cdiv an_cdiv cd_cdiv ct_cdiv, f_cleared := f_cleared, d_cleared := PySem.W.fnOf "cleared" "cleared" (defArgs S_cleared) (defBody S_cleared) (defScope S_cleared) .none kV_cleared dc_cleared pm_cleared an_cleared cd_cleared ct_cleared, f_fplace := f_fplace, d_fplace := PySem.W.fnOf "_first_place" "_first_place" (defArgs S_fplace) (defBody S_fplace) (defScope S_fplace) .none kV_fplace dc_fplace pm_fplace an_fplace cd_fplace ct_fplace, f_elim := f_elim, d_elim := PySem.W.fnOf "eliminated" "eliminated" (defArgs S_elim) (defBody S_elim) (defScope S_elim) .none kV_elim dc_elim pm_elim an_elim cd_elim ct_elim, f_indep := f_indep, d_indep := PySem.W.fnOf "independent_columns" "independent_columns" (defArgs S_indep) (defBody S_indep) (defScope S_indep) .none kV_indep dc_indep pm_indep an_indep cd_indep ct_indep, f_rank := f_rank, d_rank := PySem.W.fnOf "rank" "rank" (defArgs S_rank) (defBody S_rank) (defScope S_rank) .none kV_rank dc_rank pm_rank an_rank cd_rank ct_rank, f_mixture := f_mixture, d_mixture := PySem.W.fnOf "mixture" "mixture" (defArgs S_mixture) (defBody S_mixture) (defScope S_mixture) .none kV_mixture dc_mixture pm_mixture an_mixture cd_mixture ct_mixture, f_cshape := f_cshape, d_cshape := PySem.W.fnOf "_check_shape" "_check_shape" (defArgs S_cshape) (defBody S_cshape) (defScope S_cshape) .none kV_cshape dc_cshape pm_cshape an_cshape cd_cshape ct_cshape, f_shared := f_shared, d_shared := PySem.W.fnOf "_shared_divisor" "_shared_divisor" (defArgs S_shared) (defBody S_shared) (defScope S_shared) .none kV_shared dc_shared pm_shared an_shared cd_shared ct_shared, f_start := f_start, d_start := PySem.W.fnOf "_law_start" "_law_start" (defArgs S_start) (defBody S_start) (defScope S_start) .none kV_start dc_start pm_start an_start cd_start ct_start, f_digit := f_digit, d_digit := PySem.W.fnOf "_law_digit" "_law_digit" (defArgs S_digit) (defBody S_digit) (defScope S_digit) .none kV_digit dc_digit pm_digit an_digit cd_digit ct_digit, f_number := f_number, d_number := PySem.W.fnOf "_law_number" "_law_number" (defArgs S_number) (defBody S_number) (defScope S_number) .none kV_number dc_number pm_number an_number cd_number ct_number, f_more := f_more, d_more := PySem.W.fnOf "_law_more" "_law_more" (defArgs S_more) (defBody S_more) (defScope S_more) .none kV_more dc_more pm_more an_more cd_more ct_more, f_lcleared := f_lcleared, d_lcleared := PySem.W.fnOf "_law_cleared" "_law_cleared" (defArgs S_lcleared) (defBody S_lcleared) (defScope S_lcleared) .none kV_lcleared dc_lcleared pm_lcleared an_lcleared cd_lcleared ct_lcleared, f_islist := f_islist, d_islist := PySem.W.fnOf "_law_is_list" "_law_is_list" (defArgs S_islist) (defBody S_islist) (defScope S_islist) .none kV_islist dc_islist pm_islist an_islist cd_islist ct_islist, f_pair := f_pair, d_pair := PySem.W.fnOf "_law_pair" "_law_pair" (defArgs S_pair) (defBody S_pair) (defScope S_pair) .none kV_pair dc_pair pm_pair an_pair cd_pair ct_pair, f_ismix := f_ismix, d_ismix := PySem.W.fnOf "_law_is_mixture" "_law_is_mixture" (defArgs S_ismix) (defBody S_ismix) (defScope S_ismix) .none kV_ismix dc_ismix pm_ismix an_ismix cd_ismix ct_ismix, f_badplace := f_badplace, d_badplace := PySem.W.fnOf "_law_bad_place" "_law_bad_place" (defArgs S_badplace) (defBody S_badplace) (defScope S_badplace) .none kV_badplace dc_badplace pm_badplace an_badplace cd_badplace ct_badplace, f_lindep := f_lindep, d_lindep := PySem.W.fnOf "_law_independent" "_law_independent" (defArgs S_lindep) (defBody S_lindep) (defScope S_lindep) .none kV_lindep dc_lindep pm_lindep an_lindep cd_lindep ct_lindep, f_table := f_table, d_table := PySem.W.fnOf "_law_table" "_law_table" (defArgs S_table) (defBody S_table) (defScope S_table) .none kV_table dc_table pm_table an_table cd_table ct_table, f_law := fa, d_law := PySem.W.fnOf "law" "law" (defArgs S_law) (defBody S_law) (defScope S_law) .none kV_law dc_law pm_law an_law cd_law ct_law, f_whole := f_whole, d_whole := PySem.W.fnOf "_law_whole" "_law_whole" (defArgs S_whole) (defBody S_whole) (defScope S_whole) .none kV_whole dc_whole pm_whole an_whole cd_whole ct_whole }
  have T : Txt K mg A := {
    hn := hn,
    htk := htk,
    cl := ⟨pgC, hdC, poC, saC⟩,
    nT := nT,
    nB := nB,
    mkC := ⟨mkC, a_init, i_init, kcC⟩,
    ha := ha,
    hm := hm,
    F_init := F_init,
    b_init3 := b3',
    b_init2 := b2,
    g_Ratio := PySem.W.mg_of X G aC,
    g_gcd := PySem.W.mg_of X G gg,
    g_Z := PySem.W.mg_of X G aZ,
    xZ := xZ,
    kZ := kZ,
    bZ := bZ,
    tZ := tZ,
    g_CE := PySem.W.mg_of X G aCE,
    g_BS := PySem.W.mg_of X G a_BS,
    x_BS := x_BS,
    k_BS := k_BS,
    bs_BS := bs_BS,
    t_BS := t_BS,
    e_BS := PySem.W.exm_ref CEb CEd CEt e_BS,
    X_BS := ⟨g0_BS, g1_BS, bs_BS, d_BS, cl_BS, hn, htk, m_BS⟩,
    v_BS := kit_typ (by decide +kernel) v_BS,
    g_O := PySem.W.mg_of X G a_O,
    o_O := ⟨⟨nm_O, q_O, N_O, bs1_O, bm_O, sn_O, sub_O, ab_O, col_O, dd_O, m0_O, m1_O, m2_O, m3_O, m5_O, c_O, r_O⟩, sa_O, bs_O, t_O, k_O⟩,
    in_O := a_oob,
    ti_O := beq_iff_eq.mp i_oob,
    xf_O := ⟨g0_O, g1_O, bs_O, d_O⟩,
    e_O := PySem.W.exm_ref CEb CEd CEt e_O,
    X_O := ⟨g0_O, g1_O, bs_O, d_O, cl_O, hn, htk, m_O⟩,
    v_O := kit_typ (by decide +kernel) v_O,
    n_O_value := n_O_value,
    g_P := PySem.W.mg_of X G a_P,
    o_P := ⟨⟨nm_P, q_P, N_P, bs1_P, bm_P, sn_P, sub_P, ab_P, col_P, dd_P, m0_P, m1_P, m2_P, m3_P, m5_P, c_P, r_P⟩, sa_P, bs_P, t_P, k_P⟩,
    in_P := a_bpl,
    ti_P := beq_iff_eq.mp i_bpl,
    xf_P := ⟨g0_P, g1_P, bs_P, d_P⟩,
    e_P := PySem.W.exm_ref CEb CEd CEt e_P,
    X_P := ⟨g0_P, g1_P, bs_P, d_P, cl_P, hn, htk, m_P⟩,
    v_P := kit_typ (by decide +kernel) v_P,
    n_P_place := n_P_place,
    pNbs := kit_ref d_BS t_BS s_pNbs (fun z => n_pNbs (Value.ref.inj z)),
    gi_MOST_SIZE := ⟨tk_MOST_SIZE, PySem.W.mg_of X G gi_MOST_SIZE⟩,
    c_Gr := ⟨pgGr, hdGr, poGr, saGr⟩,
    mk_Gr := ⟨mkGr, a_ginit, i_ginit, kcGr⟩,
    ha_Gr := ha_Gr,
    hm_Gr := hm_Gr,
    g_Grid := PySem.W.mg_of X G a_Gr,
    F_ginit := F_ginit,
    b_ginit := b4_ginit,
    b1_ginit := b2_ginit,
    na_Gr_rows := na_Gr_rows,
    na_Gr_over := na_Gr_over,
    na_Gr_height := na_Gr_height,
    na_Gr_width := na_Gr_width,
    n_len := PySem.W.mg_none_of X G z_len,
    n_abs := PySem.W.mg_none_of X G z_abs,
    n_int := PySem.W.mg_none_of X G z_int,
    n_bool := PySem.W.mg_none_of X G z_bool,
    n_isinstance := PySem.W.mg_none_of X G z_isinstance,
    n_range := PySem.W.mg_none_of X G z_range,
    n_ValueError := PySem.W.mg_none_of X G z_ValueError,
    n_list := PySem.W.mg_none_of X G z_list,
    n_zip := PySem.W.mg_none_of X G z_zip,
    n_tuple := PySem.W.mg_none_of X G z_tuple,
    n_all := PySem.W.mg_none_of X G z_all,
    n_enumerate := PySem.W.mg_none_of X G z_enumerate,
    F_oob := F_oob, b_oob := b_oob,
    m_oob := ⟨a_oob, i_oob, k_oob⟩,
    F_bpl := F_bpl, b_bpl := b_bpl,
    m_bpl := ⟨a_bpl, i_bpl, k_bpl⟩,
    F_cdiv := F_cdiv, b_cdiv := b_cdiv,
    g_cdiv := PySem.W.mg_of X G a_cdiv,
    F_cleared := F_cleared, b_cleared := b_cleared,
    g_cleared := PySem.W.mg_of X G a_cleared,
    F_fplace := F_fplace, b_fplace := b_fplace,
    g_fplace := PySem.W.mg_of X G a_fplace,
    F_elim := F_elim, b_elim := b_elim,
    g_elim := PySem.W.mg_of X G a_elim,
    F_indep := F_indep, b_indep := b_indep,
    g_indep := PySem.W.mg_of X G a_indep,
    F_rank := F_rank, b_rank := b_rank,
    g_rank := PySem.W.mg_of X G a_rank,
    F_mixture := F_mixture, b_mixture := b_mixture,
    g_mixture := PySem.W.mg_of X G a_mixture,
    F_cshape := F_cshape, b_cshape := b_cshape,
    g_cshape := PySem.W.mg_of X G a_cshape,
    F_shared := F_shared, b_shared := b_shared,
    g_shared := PySem.W.mg_of X G a_shared,
    F_start := F_start, b_start := b_start,
    g_start := PySem.W.mg_of X G a_start,
    F_digit := F_digit, b_digit := b_digit,
    g_digit := PySem.W.mg_of X G a_digit,
    F_number := F_number, b_number := b_number,
    g_number := PySem.W.mg_of X G a_number,
    F_more := F_more, b_more := b_more,
    g_more := PySem.W.mg_of X G a_more,
    F_lcleared := F_lcleared, b_lcleared := b_lcleared,
    g_lcleared := PySem.W.mg_of X G a_lcleared,
    F_islist := F_islist, b_islist := b_islist,
    g_islist := PySem.W.mg_of X G a_islist,
    F_pair := F_pair, b_pair := b_pair,
    g_pair := PySem.W.mg_of X G a_pair,
    F_ismix := F_ismix, b_ismix := b_ismix,
    g_ismix := PySem.W.mg_of X G a_ismix,
    F_badplace := F_badplace, b_badplace := b_badplace,
    g_badplace := PySem.W.mg_of X G a_badplace,
    F_lindep := F_lindep, b_lindep := b_lindep,
    g_lindep := PySem.W.mg_of X G a_lindep,
    F_table := F_table, b_table := b_table,
    g_table := PySem.W.mg_of X G a_table,
    F_law := F_law, b_law := b_law,
    g_law := PySem.W.mg_of X G a_law,
    F_whole := F_whole, b_whole := b_whole,
    g_whole := PySem.W.mg_of X G a_whole }
  exact ⟨_, fun s v => .of_eq rfl, fun base _ _ => ok_law (P := l.prog) (w := w) (base := base) T⟩
theorem walk {l : PySem.W.OpenLaw} {q : Program} {loose : List Str} {XP : (Str → Option Value) → Heap → Prop} {YP : World → Heap → Prop} {d : DefRec} {K : Params → PySem.W.Frag} (hn : l.most = some 63) (hdf : d.params.defaults = [])
    (hY : ∀ (w : World) (h : Heap), YP w h → (K w.params).In h)
    (F : ∀ (w : World) (mg : Str → Option Value) (fa : Addr) (h : Heap), (K w.params).In h → h.Ns mainGlobals mg → mg d.name = some (.ref fa) →
      ∃ fd : FuncData, (∀ (s : Shared) (u : Value), BindsTo s fd ⟨[u], []⟩ [("script", u)]) ∧ ∀ base : Heap, (K w.params).In base → base.Ns mainGlobals mg → FnOk l.prog w (K w.params) mg base CX0 9 fa fd ["script"] (spLaw (K w.params))) :
    PySem.W.WalkO q loose XP YP l.row.toRowW d [] (fun f vs => PySem.call f vs) :=
  L2.walk_of (n := 63) (k := 9) (x := "script") (CX := fun _ => CX0) (sp := fun w => spLaw (K w.params)) hn (by decide) hdf ⟨rfl, by decide, by decide⟩ hY F
    (fun _ _ a ns hl _ hS => ⟨a, ns, rfl, hS, hl, fun _ => rfl⟩) fun _ _ _ _ _ z => z
end Fc
open PySem PySem.W PyProof.Rows
set_option maxRecDepth 100000 in
set_option maxHeartbeats 0 in
theorem PySem.Challenge.cw_fewcarry_k10_columns_and_mixtures_holds : PySem.Challenge.rw_fewcarry_k10_columns_and_mixtures.Holds := by
  w_on; o_law; k_head; (case hw => w_witness2)
  k_fill
  refine Fc.walk (l := PySem.Challenge.rw_fewcarry_k10_columns_and_mixtures) rfl rfl (fun w h Y => PySem.W.kIn_of Y) ?F
  case F =>
    intro w mg fa h KX G hmg
    refine' Fc.all_mk KX G hmg ?hn ?htk ?aC ?pgC ?hdC ?poC ?saC ?mkC ?kcC ?a_init ?i_init ?l_init ?lT ?c_init ?k_init ?nT ?nB ?ha ?hm ?gg ?aZ ?xZ ?kZ ?bZ ?tZ ?aCE ?CEd ?CEb ?CEt ?a_BS ?x_BS ?k_BS ?bs_BS ?t_BS ?e_BS ?g0_BS ?g1_BS ?d_BS ?cl_BS ?m_BS ?v_BS ?a_O ?c_O ?r_O ?sa_O ?k_O ?bs_O ?t_O ?e_O ?g0_O ?g1_O ?d_O ?cl_O ?m_O ?v_O ?n_O_value ?a_P ?c_P ?r_P ?sa_P ?k_P ?bs_P ?t_P ?e_P ?g0_P ?g1_P ?d_P ?cl_P ?m_P ?v_P ?n_P_place ?s_pNbs ?n_pNbs ?gi_MOST_SIZE ?a_Gr ?pgGr ?hdGr ?poGr ?saGr ?mkGr ?kcGr ?ha_Gr ?hm_Gr ?na_Gr_rows ?na_Gr_over ?na_Gr_height ?na_Gr_width ?a_ginit ?i_ginit ?l_ginit ?lT_ginit ?c_ginit ?k_ginit ?z_len ?z_abs ?z_int ?z_bool ?z_isinstance ?z_range ?z_ValueError ?z_list ?z_zip ?z_tuple ?z_all ?z_enumerate ?a_oob ?i_oob ?l_oob ?c_oob ?k_oob ?a_bpl ?i_bpl ?l_bpl ?c_bpl ?k_bpl ?a_cdiv ?l_cdiv ?c_cdiv ?k_cdiv ?a_cleared ?l_cleared ?c_cleared ?k_cleared ?a_fplace ?l_fplace ?c_fplace ?k_fplace ?a_elim ?l_elim ?c_elim ?k_elim ?a_indep ?l_indep ?c_indep ?k_indep ?a_rank ?l_rank ?c_rank ?k_rank ?a_mixture ?l_mixture ?c_mixture ?k_mixture ?a_cshape ?l_cshape ?c_cshape ?k_cshape ?a_shared ?l_shared ?c_shared ?k_shared ?a_start ?l_start ?c_start ?k_start ?a_digit ?l_digit ?c_digit ?k_digit ?a_number ?l_number ?c_number ?k_number ?a_more ?l_more ?c_more ?k_more ?a_lcleared ?l_lcleared ?c_lcleared ?k_lcleared ?a_islist ?l_islist ?c_islist ?k_islist ?a_pair ?l_pair ?c_pair ?k_pair ?a_ismix ?l_ismix ?c_ismix ?k_ismix ?a_badplace ?l_badplace ?c_badplace ?k_badplace ?a_lindep ?l_lindep ?c_lindep ?k_lindep ?a_table ?l_table ?c_table ?k_table ?a_law ?l_law ?c_law ?k_law ?a_whole ?l_whole ?c_whole ?k_whole
    (case hn => k_is)
    (case htk => k_is)
    (case aC => k_is)
    (case pgC => k_is)
    (case hdC => k_is)
    (case poC => k_is)
    (case saC => k_is)
    (case mkC => k_is)
    (case kcC => k_is)
    (case a_init => k_is)
    (case i_init => k_is)
    (case l_init => k_is)
    (case lT => k_is)
    (case c_init => k_is)
    (case k_init => k_is)
    (case nT => k_is)
    (case nB => k_is)
    (case ha => k_is)
    (case hm => k_is)
    (case gg => k_is)
    (case aZ => k_is)
    (case xZ => k_exc)
    (case kZ => k_is)
    (case bZ => k_is)
    (case tZ => k_is)
    (case aCE => k_is)
    (case CEd => k_is)
    (case CEb => k_is)
    (case CEt => k_is)
    (case a_BS => k_is)
    (case x_BS => k_exc)
    (case k_BS => k_is)
    (case bs_BS => k_is)
    (case t_BS => k_is)
    (case e_BS => k_is)
    (case g0_BS => k_is)
    (case g1_BS => k_is)
    (case d_BS => k_is)
    (case cl_BS => k_is)
    (case m_BS => k_is)
    (case v_BS => k_is)
    (case a_O => k_is)
    (case c_O => k_is)
    (case r_O => decide +kernel)
    (case sa_O => k_is)
    (case k_O => k_is)
    (case bs_O => k_is)
    (case t_O => k_is)
    (case e_O => k_is)
    (case g0_O => k_is)
    (case g1_O => k_is)
    (case d_O => k_is)
    (case cl_O => k_is)
    (case m_O => k_is)
    (case v_O => k_is)
    (case n_O_value => k_is)
    (case a_P => k_is)
    (case c_P => k_is)
    (case r_P => decide +kernel)
    (case sa_P => k_is)
    (case k_P => k_is)
    (case bs_P => k_is)
    (case t_P => k_is)
    (case e_P => k_is)
    (case g0_P => k_is)
    (case g1_P => k_is)
    (case d_P => k_is)
    (case cl_P => k_is)
    (case m_P => k_is)
    (case v_P => k_is)
    (case n_P_place => k_is)
    (case s_pNbs => k_is)
    (case n_pNbs => decide)
    (case gi_MOST_SIZE => k_is)
    (case a_Gr => k_is)
    (case pgGr => k_is)
    (case hdGr => k_is)
    (case poGr => k_is)
    (case saGr => k_is)
    (case mkGr => k_is)
    (case kcGr => k_is)
    (case ha_Gr => k_is)
    (case hm_Gr => k_is)
    (case na_Gr_rows => k_is)
    (case na_Gr_over => k_is)
    (case na_Gr_height => k_is)
    (case na_Gr_width => k_is)
    (case a_ginit => k_is)
    (case i_ginit => k_is)
    (case l_ginit => k_is)
    (case lT_ginit => k_is)
    (case c_ginit => k_is)
    (case k_ginit => k_is)
    (case z_len => k_is)
    (case z_abs => k_is)
    (case z_int => k_is)
    (case z_bool => k_is)
    (case z_isinstance => k_is)
    (case z_range => k_is)
    (case z_ValueError => k_is)
    (case z_list => k_is)
    (case z_zip => k_is)
    (case z_tuple => k_is)
    (case z_all => k_is)
    (case z_enumerate => k_is)
    (case a_oob => k_is)
    (case i_oob => k_is)
    (case l_oob => k_is)
    (case c_oob => k_is)
    (case k_oob => k_is)
    (case a_bpl => k_is)
    (case i_bpl => k_is)
    (case l_bpl => k_is)
    (case c_bpl => k_is)
    (case k_bpl => k_is)
    (case a_cdiv => k_is)
    (case l_cdiv => k_is)
    (case c_cdiv => k_is)
    (case k_cdiv => k_is)
    (case a_cleared => k_is)
    (case l_cleared => k_is)
    (case c_cleared => k_is)
    (case k_cleared => k_is)
    (case a_fplace => k_is)
    (case l_fplace => k_is)
    (case c_fplace => k_is)
    (case k_fplace => k_is)
    (case a_elim => k_is)
    (case l_elim => k_is)
    (case c_elim => k_is)
    (case k_elim => k_is)
    (case a_indep => k_is)
    (case l_indep => k_is)
    (case c_indep => k_is)
    (case k_indep => k_is)
    (case a_rank => k_is)
    (case l_rank => k_is)
    (case c_rank => k_is)
    (case k_rank => k_is)
    (case a_mixture => k_is)
    (case l_mixture => k_is)
    (case c_mixture => k_is)
    (case k_mixture => k_is)
    (case a_cshape => k_is)
    (case l_cshape => k_is)
    (case c_cshape => k_is)
    (case k_cshape => k_is)
    (case a_shared => k_is)
    (case l_shared => k_is)
    (case c_shared => k_is)
    (case k_shared => k_is)
    (case a_start => k_is)
    (case l_start => k_is)
    (case c_start => k_is)
    (case k_start => k_is)
    (case a_digit => k_is)
    (case l_digit => k_is)
    (case c_digit => k_is)
    (case k_digit => k_is)
    (case a_number => k_is)
    (case l_number => k_is)
    (case c_number => k_is)
    (case k_number => k_is)
    (case a_more => k_is)
    (case l_more => k_is)
    (case c_more => k_is)
    (case k_more => k_is)
    (case a_lcleared => k_is)
    (case l_lcleared => k_is)
    (case c_lcleared => k_is)
    (case k_lcleared => k_is)
    (case a_islist => k_is)
    (case l_islist => k_is)
    (case c_islist => k_is)
    (case k_islist => k_is)
    (case a_pair => k_is)
    (case l_pair => k_is)
    (case c_pair => k_is)
    (case k_pair => k_is)
    (case a_ismix => k_is)
    (case l_ismix => k_is)
    (case c_ismix => k_is)
    (case k_ismix => k_is)
    (case a_badplace => k_is)
    (case l_badplace => k_is)
    (case c_badplace => k_is)
    (case k_badplace => k_is)
    (case a_lindep => k_is)
    (case l_lindep => k_is)
    (case c_lindep => k_is)
    (case k_lindep => k_is)
    (case a_table => k_is)
    (case l_table => k_is)
    (case c_table => k_is)
    (case k_table => k_is)
    (case a_law => k_is)
    (case l_law => k_is)
    (case c_law => k_is)
    (case k_law => k_is)
    (case a_whole => k_is)
    (case l_whole => k_is)
    (case c_whole => k_is)
    (case k_whole => k_is)
#print axioms PySem.Challenge.cw_fewcarry_k10_columns_and_mixtures_holds
