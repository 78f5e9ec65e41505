import PyProof.Rows.All
import Wide.All
import OpenK.AllK
import Wide.FinOn
import HandS.ForExc
import HandS.Comp
import HandS.Wide
import HandS.Gcd
import HandS.ExcInit
import HandS.ExcIs
import HandS.ExcField
import HandS.IsInst
import HandS.OwnEq
import HandS.Small
import HandS.Flow
import HandS.Codes
import KE.KOpsOwn
import HandS.Style
import HandS.Defaults
import PySem.Challenge.RW_fewcarry_k05_span_arithmetic
set_option Elab.async false
set_option linter.all false
set_option maxRecDepth 100000
set_option maxHeartbeats 4000000
/-! Rules of mine over the hand layer: operators that an own class defines, abs by an own method, floor division by any divisor,
an own error without arguments, isinstance of a caught error that has fields, a new instance or a method's call that may raise in a try. -/
namespace Fc
open PySem PySem.Spec PyProof.Rows L2

section
variable {X : Cx} {pins : List (Addr × Obj)} {sl : L2.St} {H : Hp} {s : Shared}

/-- a value of ours is never the mark NotImplemented -/
theorem cmpBack {Q : VK} {u : Value} {s' : Shared} (h : EP X pins sl Q u s') : PySem.W.CmpBack (EP X pins sl Q) u s' := by
  obtain ⟨v, H', I, r, q⟩ := id h
  cases v with
  | non => cases r; exact h
  | bl b => cases r; exact h
  | int i => obtain ⟨t, e⟩ := r; cases e; exact h
  | str y => obtain ⟨t, e⟩ := r; cases e; exact h
  | byt y => obtain ⟨t, e⟩ := r; cases e; exact h
  | flt y => obtain ⟨t, e⟩ := r; cases e; exact h
  | ref a => cases r; exact h
  | ty n => cases r; exact h

/-- what is known of an instance, as the library's rules ask it -/
theorem inst_at {a C dx : Addr} {fs : List (Str × V)} (I : Inv X pins sl H s) (e : H a = some (.ins C dx fs)) : ∃ ox od, PySem.W.InstAt s.heap a ox C od := by
  obtain ⟨mA, J, _⟩ := ins_get I.hok e
  obtain ⟨od, J, _⟩ := J.look
  exact ⟨_, _, J⟩
end

/-! ### x op y for two instances of one class -/
section
variable {X : Cx} {CX : CXT} {k : Nat} {C f : Addr} {fd : FuncData} {ps : List Str} {sp : Sp} {E : XK}
def rOwn (C : Addr) (sp : Sp) (E : XK) : R2 := fun x y H Q => ∃ a b dx dy fs gs, x = .ref a ∧ y = .ref b ∧
  H a = some (.ins C dx fs) ∧ H b = some (.ins C dy gs) ∧ sp [.ref a, .ref b] H Q E
theorem op_own {op : Operator} (hc : PySem.W.selfFirst X.K C = true) (hs : PySem.W.findIn X.K (.ref C) (PySem.dunder op.info.2) = some (some (.ref f)))
    (hf : PySem.W.isFn X.K (.ref f) = true) (F : FnOk X.prog X.w X.K X.mg X.base CX k f fd ps sp) (hr : Room k X.A) (hb : Binds X.K fd ps []) (hx : Passes CX X E) :
    OpR X (binaryOp op) (rOwn C sp E) := by
  intro pins s sl H x y u v Q I rx ry h
  obtain ⟨a, b, dx, dy, fs, gs, rfl, rfl, ha, hb', q⟩ := h
  cases rx
  cases ry
  obtain ⟨ox, od, J⟩ := inst_at I ha
  obtain ⟨oy, oe, J'⟩ := inst_at I hb'
  obtain ⟨m, hF⟩ := I.fr
  exact PySem.W.binop_K hF I.ok.mod.kin J J'.type hc hs hf
    (thn (run_fn (vs := [.ref a, .ref b]) (us := [.ref a, .ref b]) F hr hb .nil hx I (.cons rfl (.cons rfl .nil)) q) fun _ _ z => cmpBack z)

/-- x op n for an instance and a whole number -/
def rOwnI (C : Addr) (sp : Sp) (E : XK) : R2 := fun x y H Q => ∃ a dx fs n, x = .ref a ∧ y = .int n ∧ H a = some (.ins C dx fs) ∧ sp [.ref a, .int n] H Q E
theorem op_ownI {op : Operator} {fo ro rc : Option Value} (hc : PySem.W.selfFirst X.K C = true) (hs : PySem.W.findIn X.K (.ref C) (PySem.dunder op.info.2) = some (some (.ref f)))
    (hf : PySem.W.isFn X.K (.ref f) = true) (h0 : PySem.W.findIn X.K (.ref C) (dunderR op.info.2) = some rc) (hp : rc = none ∨ ∃ g : Addr, rc = some (.ref g))
    (h1 : PySem.W.findIn X.K (.type "int") (PySem.dunder op.info.2) = some fo) (h2 : PySem.W.findIn X.K (.type "int") (dunderR op.info.2) = some ro)
    (hsub : PySem.W.subIn X.K (.type "int") (.ref C) = some false)
    (F : FnOk X.prog X.w X.K X.mg X.base CX k f fd ps sp) (hr : Room k X.A) (hb : Binds X.K fd ps []) (hx : Passes CX X E) :
    OpR X (binaryOp op) (rOwnI C sp E) := by
  intro pins s sl H x y u v Q I rx ry h
  obtain ⟨a, dx, fs, n, rfl, rfl, ha, q⟩ := h
  cases rx
  obtain ⟨t, rfl⟩ := ry
  obtain ⟨ox, od, J⟩ := inst_at I ha
  obtain ⟨m, hF⟩ := I.fr
  exact PySem.W.ksp_binT (T := "int") hF I.ok.mod.kin J rfl hc hs hf h0 hp h1 h2 hsub
    (thn (run_fn (vs := [.ref a, .int n]) (us := [.ref a, .int n t]) F hr hb .nil hx I (.cons rfl (.cons ⟨t, rfl⟩ .nil)) q) fun _ _ z => cmpBack z)

/-- -x -/
def rOwnU (C : Addr) (sp : Sp) (E : XK) : V → Hp → VK → Prop := fun x H Q => ∃ a dx fs, x = .ref a ∧ H a = some (.ins C dx fs) ∧ sp [.ref a] H Q E
theorem un_own (hs : PySem.W.findIn X.K (.ref C) "__neg__" = some (some (.ref f))) (hf : PySem.W.isFn X.K (.ref f) = true)
    (F : FnOk X.prog X.w X.K X.mg X.base CX k f fd ps sp) (hr : Room k X.A) (hb : Binds X.K fd ps []) (hx : Passes CX X E) :
    UnR X (unaryOp .USub) (rOwnU C sp E) := by
  intro pins s sl H x u Q I rx h
  obtain ⟨a, dx, fs, rfl, ha, q⟩ := h
  cases rx
  obtain ⟨ox, od, J⟩ := inst_at I ha
  obtain ⟨m, hF⟩ := I.fr
  exact PySem.W.ksp_neg hF I.ok.mod.kin J hs hf (run_fn (vs := [.ref a]) (us := [.ref a]) F hr hb .nil hx I (.cons rfl .nil) q)

/-- abs(x) by an own __abs__ -/
def rOwnAbs (C : Addr) (sp : Sp) (E : XK) : List V → Hp → VK → Prop := fun xs H Q => ∃ a dx fs, xs = [.ref a] ∧ H a = some (.ins C dx fs) ∧ sp [.ref a] H Q E
/-- a call of a built-in function that runs nothing else before its own body: the code that runs within it has one unit more -/
theorem call_own_abs (hs : PySem.W.findIn X.K (.ref C) "__abs__" = some (some (.ref f))) (hf : PySem.W.isFn X.K (.ref f) = true)
    (F : FnOk X.prog X.w X.K X.mg X.base CX k f fd ps sp) (hr : Room (k + 1) X.A) (hb : Binds X.K fd ps []) (hx : Passes CX X E) :
    CallR X (.builtin "abs") (rOwnAbs C sp E) := by
  intro pins s sl H xs us Q I r h
  obtain ⟨a, dx, fs, rfl, ha, q⟩ := h
  obtain ⟨u, rfl, ru⟩ := vals1 r
  cases ru
  obtain ⟨ox, od, J⟩ := inst_at I ha
  have e := I.env0
  have e0 : Env0 X.prog X.w X.K X.mg X.base X.A.in1 X.stack s H := e.in1
  have r2 : Vals [V.ref a] [Value.ref a] := .cons rfl .nil
  have hl := F.len _ _ _ _ q
  refine Calls.call_function_entry kind_abs plain_abs entry_abs (args_abs _) ?_
  unfold Builtin.«abs»
  refine wpAny_bind (m := oneArg "abs" _) (wpAny_pure ?_)
  refine wpAny_bind (PySem.W.special_fn I.kIn J hs (beq_iff_eq.mp hf) ?_)
  refine wpAny_call (codeAny_mono (F.run X.A.in1 X.stack s H ⟨[.ref a], []⟩ [.ref a] [.ref a] Q E hr.in1 e0 (by
    have := hb s [.ref a] I.kIn (by simpa using hl)
    simpa using this) r2 q) fun r s' hq => ?_)
  cases r with
  | error e => exact hx pins sl H s e s' I hq
  | ok fl =>
    cases fl with
    | ret w => exact wpAny_pure ⟨_, rfl, I.after hq⟩
    | next => exact False.elim hq
    | brk => exact False.elim hq
    | cont => exact False.elim hq
end

/-! ### // by any divisor but 0, below 2 ^ 9000 -/
def CFdv (_ j : Int) : Prop := j ≠ 0 ∧ j.natAbs.log2 < 9000
theorem op_fdv {X : Cx} : OpR X (binaryOp .FloorDiv) (rI CFdv fun i j => .int (i.fdiv j)) :=
  opI fun i j _ _ _ _ _ hc q => floordiv_int hc.1 q (.inl (PyProof.noPylong_of_log2 hc.2))

/-! ### an own error made without arguments -/
theorem pmk_bare {X : Cx} {C : Addr} {bmB : List Value} {B newId initId : String} {x : Str} {p pos : Pos} (F : ExcBaseFacts B newId initId bmB) (q : PySem.W.excIn X.K C bmB newId = true)
    (gC : X.mg x = some (.ref C)) (kC : PySem.W.keepIn X.K (.ref C) = true) (r : Raises X (.ref C)) (hg : Gl X x) (hdb : (x == ("__debug__" : Str)) = false := by decide) :
    PMk X (.Call (.Name x p) [] [] pos) (fun _ H Q => Q (.ref C) none H) := by
  intro pins s sl H Q I h
  refine wpAny_Call_Name_kw (ld_glob I hg gC ?_ hdb)
  refine PySem.W.callWith_K0 I.kIn kC ?_
  obtain ⟨bm, N, nm, qn, bs, hdct, sn, sub, ab, col, dd, k0, k1, k2, k3, k5, mN, hC, hN, hni, T⟩ := exc_obj I.kIn q
  exact wpAny_call_exc_subT F T hC hN hni (fun h' e hm => mk_of I hm r h (I.hok.gone hm.new)) (Nat.zero_le _)
end Fc
set_option Elab.async false
set_option linter.all false
set_option maxRecDepth 100000
set_option maxHeartbeats 4000000
/-! More rules of mine: a new instance or a method's call whose error an except clause takes; isinstance of a caught error with fields. -/
namespace Fc
open PySem PySem.Spec PyProof.Rows L2

section
variable {X : Cx} {CX : CXT} {k : Nat} {C f : Addr} {fd : FuncData} {ps : List Str} {sp : Sp} {E : L2.St → XK}
/-- C(..), where what is raised is wished for at the slots -/
def tMakeS (C : Addr) (sp : Sp) (E : L2.St → XK) (t : TA) : TE := fun sl H Q => t sl H fun vs H1 => ∀ x dx, H1 x = none → H1 dx = none → dx ≠ x →
  sp (.ref x :: vs) (upd (upd H1 dx (.own x)) x (.ins C dx [])) (fun v H2 => v = .non ∧ Q (.ref x) H2) (E sl)
theorem run_makeS {pins : List (Addr × Obj)} {sl : L2.St} {H : Hp} {s : Shared} {Q : VK} {us : List Value} {vs : List V} (M : Mk X.K C f)
    (F : FnOk X.prog X.w X.K X.mg X.base CX k f fd ps sp) (hr : Room (k + 1) X.A) (hb : Binds X.K fd ps []) (hx : PassesAt CX X sl (E sl))
    (I : Inv X pins sl H s) (r : Vals vs us)
    (h : ∀ x dx, H x = none → H dx = none → dx ≠ x → sp (.ref x :: vs) (upd (upd H dx (.own x)) x (.ins C dx [])) (fun v H2 => v = .non ∧ Q (.ref x) H2) (E sl)) :
    wpAny (model X.prog X.w) X.A (call (.ref C) us) (EP X pins sl Q) X.xe s := by
  have fr : ∀ j, H (s.heap.objs.size + j) = none := fun j => I.hok.fresh (Nat.le_add_right _ _)
  have hq := h (s.heap.objs.size + 1) s.heap.objs.size (fr 1) (fr 0) (Nat.ne_of_lt (Nat.lt_succ_self _))
  have I2 := Inv.made (C := C) I
  have r2 : Vals (V.ref (s.heap.objs.size + 1) :: vs) (Value.ref (s.heap.objs.size + 1) :: us) := .cons rfl r
  have hl : (Value.ref (s.heap.objs.size + 1) :: us).length = ps.length := r2.length.symm.trans (F.len _ _ _ _ hq)
  have bd := hb { s with heap := (s.heap.push PySem.W.emptyDict).push (PySem.W.instObj C s.heap.objs.size) } (Value.ref (s.heap.objs.size + 1) :: us) I2.kIn (by rw [List.append_nil]; exact hl)
  rw [List.append_nil] at bd
  have run := F.run _ X.stack _ _ ⟨Value.ref (s.heap.objs.size + 1) :: us, []⟩ (Value.ref (s.heap.objs.size + 1) :: us) _ _ (E sl) (hr.make C us []) (I2.env0.make C us []) bd r2 hq
  refine wpAny_call (make_map (f := f) I.kIn M.makes M.init (beq_iff_eq.mp M.fn) (codeAny_mono run fun r s' hq' => ?_))
  cases r with
  | error e => exact hx pins _ _ e s' I2 hq'
  | ok fl =>
    cases fl with
    | ret u =>
      obtain ⟨v, H', I3, rv, ev, q3⟩ := I2.after hq'
      subst ev
      exact ⟨rv, ⟨V.ref (s.heap.objs.size + 1), H', I3, rfl, q3⟩⟩
    | next => exact False.elim hq'
    | brk => exact False.elim hq'
    | cont => exact False.elim hq'
theorem pe_makeS {x : Str} {p pos : Pos} {e : Expr} {es : List Expr} {t : TA} (M : Mk X.K C f) (F : FnOk X.prog X.w X.K X.mg X.base CX k f fd ps sp) (hr : Room (k + 1) X.A)
    (hg : Gl X x) (hm : X.mg x = some (.ref C)) (hb : Binds X.K fd ps []) (hx : ∀ sl, PassesAt CX X sl (E sl)) (ha : PA X (e :: es) t)
    (hdb : (x == ("__debug__" : Str)) = false := by decide) (he : starEach (e :: es) X.env = (false, eval e X.env) :: starEach es X.env := by rfl)
    (hpl : (backTo pos (starEach es X.env)).any (·.1) = false := by rfl) : PE X (.Call (.Name x p) (e :: es) [] pos) (tMakeS C sp E t) :=
  ⟨fun pins s sl H Q I h => wpAny_Call_Name_kw (ld_glob I hg hm (PySem.W.callWith_K (h₀ := X.base) I.ok.mod.kin M.kp
    (thn (ha.run pos pins s sl H _ I h) fun us s1 ⟨vs, H1, I1, r, q⟩ => ⟨I1.kIn, run_makeS M F hr hb (hx sl) I1 r q⟩) he hpl) hdb)⟩

/-- o.m(..), where what is raised is wished for at the slots -/
def tMethS (C : Addr) (m : Str) (sp : Sp) (E : L2.St → XK) (ta : TE) (t : TA) : TE := fun sl H Q => ta sl H fun x H1 => ∃ a dx fs, x = .ref a ∧
  H1 a = some (.ins C dx fs) ∧ fs.lookup m = none ∧ t sl H1 fun vs H2 => sp (x :: vs) H2 Q (E sl)
theorem pe_methS {m : Str} {o e : Expr} {es : List Expr} {ta : TE} {t : TA} {apos pos : Pos} {pl : Sem Bool} (ho : PE X o ta) (c : Cls X.K C) (hm : Meth X.K C m f)
    (F : FnOk X.prog X.w X.K X.mg X.base CX k f fd ps sp) (hr : Room k X.A) (hb : Binds X.K fd ps []) (hx : ∀ sl, PassesAt CX X sl (E sl)) (ha : PA X (e :: es) t)
    (hst : starEach (e :: es) X.env = (false, eval e X.env) :: starEach es X.env := by rfl) (hpl : (backTo pos (starEach es X.env)).any (·.1) = false := by rfl)
    (ht : eval (.Call (.Attribute o m apos) (e :: es) [] pos) X.env = (do
      let v ← eval o X.env
      standAt apos.atName
      let (g, first) ← holding [v] (getMethod v m pl)
      callWith pos g first (backTo pos (starEach (e :: es) X.env)) (backToKw pos (keywordEach [] X.env))) := by rfl) :
    PE X (.Call (.Attribute o m apos) (e :: es) [] pos) (tMethS C m sp E ta t) := by
  refine ⟨fun pins s sl H Q I h => PySem.W.methodCall_KW (pl := pl) (thn (ho.run pins s sl H _ I h) fun u s1 hh => ?_) ht⟩
  obtain ⟨x, H1, I1, rx, a, dx, fs, ex, ea, l, q⟩ := hh
  subst ex
  cases rx
  refine getmeth_ok I1 ea c hm l (PySem.W.callWith_K (first := [.ref a]) (h₀ := X.base) I.ok.mod.kin hm.kp ?_ hst hpl)
  exact thn (ha.run pos pins s1 sl H1 _ I1 q) fun us s2 ⟨vs, H2, I2, r, q2⟩ => ⟨I2.kIn, run_fnS (us := .ref a :: us) (vs := .ref a :: vs) F hr hb (hx sl) I2 (.cons rfl r) q2⟩
end

/-! ### isinstance of a caught error, with or without a dict of its own -/
section
open PySem.W PySem.Calls
variable {prog : Program} {w : World} {A : Around} {E : Value → Shared → Prop} {s : Shared} {K : Frag} {x D : Addr} {ox : Obj} {od : Option Obj}
theorem find_data {name : Str} {a g : Value} (hc : (clsIn K D).isSome = true) (ha : findIn K (.ref D) name = some (some a)) (hg : specialIn K a "__get__" = some (some g))
    (ht : takesIn K a = some true) : findObj K D od name = some (.bind g a) := by
  obtain ⟨cd, e⟩ := Option.isSome_iff_exists.mp hc
  unfold findObj
  rw [e, Option.bind_some, ha, Option.bind_some]
  simp [hg, ht]
theorem err_class {Q : Option Value → Shared → Prop} (T : ExcC K D) (X : K.In s.heap) (I : InstAt s.heap x ox D od) (h : Q (some (.ref D)) { s with toks := s.toks + 1 }) :
    wpAny (model prog w) A (getAttr? (.ref x) "__class__") Q E s := by
  have hf : findObj K D od "__class__" = some (.bind (.builtin "getset_descriptor.__get__") (.builtin "object.__class__")) :=
    find_data (by obtain ⟨cd, hc, _⟩ := any_some T.hd; rw [hc]; rfl) T.ha T.hn T.ht
  obtain ⟨hp, g, d, t, os⟩ := s
  have L0 := I.type (M := model prog w)
  have L1 := looks_findIn (M := model prog w) X T.hg
  have L2 := looks_findIn (M := model prog w) X T.hk
  have L3 := looks_find (M := model prog w) X I hf
  have sub : Looks (model prog w) hp (isInstance (.ref x) (.type "BaseException")) true := L0.andThen (looks_subIn X T.hs)
  have z0 : (false && onTheHeap (Value.builtin "BaseException.__getattribute__")) = false := rfl
  have z2 : (Value.builtin "BaseException.__getattribute__" == Value.builtin "object.__getattribute__") = false := by decide +kernel
  have z1 : (onTheHeap (Value.ref D) && Value.builtin "BaseException.__getattribute__" == Value.builtin "object.__getattribute__") = false := by rw [z2]; rfl
  unfold getAttr? getAttrBy? getAttrBy
  refine wpAny_bind (wpAny_mkText (wpAny_bind (wpAny_attempt (wpAny_holding (wpAny_bind (L0.at (wpAny_bind (L1.at ?_))))))))
  show wpAny _ _ (if (onTheHeap (Value.ref D) && Value.builtin "BaseException.__getattribute__" == Value.builtin "object.__getattribute__") = true then _ else _) _ _ _
  rw [z1, if_neg Bool.false_ne_true]
  unfold getAttrByItsOwn hookBefore
  refine wpAny_bind ?_
  rw [if_pos (show onTheHeap (Value.ref D) = true from rfl)]
  refine L2.at (wpAny_bind (wpAny_attempt (wpAny_holding ?_)))
  unfold callGetattribute
  rw [z0, if_neg Bool.false_ne_true]
  unfold boundAndCalled
  rw [PySem.F.excAttr_ValueError.ga.bind (.ref x)]
  refine wpAny_bind (wpAny_pure ?_)
  show wpAny _ _ (call (.builtin "BaseException.__getattribute__") [.ref x, .str "__class__" t]) _ _ _
  refine wpAny_call (codeAny_call_builtin PySem.F.excAttr_ValueError.ga.plain PySem.F.entry_bexc_ga ?_)
  refine @check_slot (model prog w) _ _ ⟨hp, g, d, t + 1, os⟩ "BaseException.__getattribute__" "BaseException" "__getattribute__" (.ref x)
    [.str "__class__" t] [] _ (by decide +kernel) (by decide +kernel) sub (PySem.F.args_bexc_ga (.ref x) (.str "__class__" t)) ?_
  unfold Builtin.«object.__getattribute__»
  refine wpAny_bind (wpAny_of_eq (a := ((Value.ref x : Value), [Value.str "__class__" t])) (by first | rfl | (simp only [slotArgs]; rfl)) ?_)
  refine wpAny_bind (wpAny_pure (wpAny_bind (L0.at (wpAny_bind (L3.at ?_)))))
  show wpAny _ _ (holding [Value.builtin "object.__class__"] (call (.builtin "getset_descriptor.__get__") [.builtin "object.__class__", .ref x, .ref D]) >>= ret) _ _ _
  refine wpAny_bind (wpAny_holding (wpAny_call (class_get (s := ⟨hp, g, d, t + 1, os⟩) (ox := ox) (od := od) X I T.hm (wpAny_pure ?_))))
  show wpAny _ _ (handedOut (.ref D)) _ _ _
  rw [handedOut_of (v := .ref D) rfl]
  first
    | exact wpAny_pure (wpAny_pure h)
    | exact wpAny_pure h
    | exact wpAny_pure (wpAny_bind (wpAny_pure (wpAny_pure h)))
theorem kit_err (T : ExcC K D) : KitX K (.ref x) (.ref D) (fun h => InstAt h x ox D od) where
  ty := fun _ _ _ I => I.type
  it := fun _ _ X _ => by
    obtain ⟨cd, e, _⟩ := any_some T.hd
    unfold clsIn at e
    split at e
    · rename_i z
      exact fun A' Q' E' s' k q => by
        unfold isType loadHead
        exact wpAny_bind (wpAny_loadPart (k _ _ (X _ _ z)) (wpAny_pure q))
    · cases e
  ne := fun h tp dd its n sl X htp => (handS_kitx_exc (x := x) (ox := ox) T.hg T.hk T.hs T.hd T.ha T.hn T.ht T.hm).ne h tp dd its n sl X htp
  ca := fun X I k => err_class T X I k
end
/-- isinstance(e, c), e the error that the suite holds; its own dict, where it has one, is tracked -/
def rIsX (K : PySem.W.Frag) (cls : Value) (d : Option Addr) (a : Addr) : List V → Hp → VK → Prop := fun xs H Q => ∃ (D : Addr) (c : V) (cv : Value) (b : Bool),
  cls = .ref D ∧ ExcC K D ∧ (∀ dd, d = some dd → ∃ fs, H dd = some (.xd fs)) ∧ xs = [.ref a, c] ∧ (∀ u, RelV c u → u = cv) ∧ PySem.W.kitOne K (.ref D) cv = some b ∧ Q (.bl b) H
theorem call_isX {X : Cx} {a : Addr} {cls : Value} {d : Option Addr} {oe : Obj} {pn : List (Addr × Obj)} (hz : Zc cls d oe) (hf : ∃ vs, oe.data = .fields vs) :
    CallR (X.suite a ((a, oe) :: pn)) (.builtin "isinstance") (rIsX X.K cls d a) := by
  intro pins s sl H xs us Q I r h
  obtain ⟨D, c, cv, b, rfl, T, hd, rfl, hcv, e, q⟩ := h
  obtain ⟨u1, u2, rfl, r1, r2⟩ := vals2 r
  cases r1
  have ec := hcv _ r2
  subst ec
  obtain ⟨hget, _⟩ := I.pin (a, oe) (List.mem_append.mpr (.inl List.mem_cons_self))
  obtain ⟨vs, hv⟩ := hf
  have fin : ∀ tk, EP (X.suite a ((a, oe) :: pn)) pins sl Q (.bool b) { s with toks := tk } := fun tk => ⟨.bl b, H, I.tok tk, rfl, q⟩
  cases d with
  | none =>
    have J : PySem.W.InstAt s.heap a oe D none := ⟨hget, hz.1, by unfold PySem.W.notCls; rw [hv] <;> rfl, by rw [hz.2]; exact True.intro⟩
    exact PySem.W.kia_one (kit_err T) I.kIn J e (fun z => nomatch z) fin
  | some dd =>
    obtain ⟨fs, hx⟩ := hd dd rfl
    obtain ⟨mA, hns, _⟩ := (show ObjOk X.prog X.w H s.heap dd (.xd fs) from I.hok dd _ hx)
    obtain ⟨od, ho, _⟩ := lookIn_ns hns
    have J : PySem.W.InstAt s.heap a oe D (some od) := ⟨hget, hz.1, by unfold PySem.W.notCls; rw [hv] <;> rfl, by rw [hz.2]; exact ho⟩
    exact PySem.W.kia_one (kit_err T) I.kIn J e (fun z => nomatch z) fin
end Fc
set_option Elab.async false
set_option linter.all false
set_option maxRecDepth 100000
set_option maxHeartbeats 4000000
/-! == of an own instance with other kinds, both ways round. -/
namespace Fc
open PySem PySem.Spec PyProof.Rows L2
open AutoSeq1 (wpAny_loadPart')
section
open PySem.W
variable {prog : Program} {w : World} {A : Around} {E : Value → Shared → Prop} {s : Shared} {K : Frag} {x C f : Addr} {ox : Obj} {od : Option Obj}
/-- other == x: other's own == declines, then x's is asked -/
theorem rc_back {b : Value} {T id : String} {Q : Value → Shared → Prop} (hu : A.units < cLine) (hT : s.TypeIs b T) (slot : Slot T (cmpInfo .Eq).2.1 id) (X : K.In s.heap) (I : InstAt s.heap x ox C od)
    (hsub : subIn K (.ref C) (.type T) = some false) (hs : findIn K (.ref C) "__eq__" = some (some (.ref f))) (hf : isFn K (.ref f) = true)
    (decl : ∀ Q' : Value → Shared → Prop, Q' .notImplemented s → wpAny (model prog w) A (call (.builtin id) [b, .ref x]) Q' E s)
    (h : wpAny (model prog w) A (call (.ref f) [.ref x, b]) (PySem.W.CmpBack Q) E s) : wpAny (model prog w) A (richCompare .Eq b (.ref x)) Q E s := by
  have one : wpAny (model prog w) A (tryCompare (.ref x) (cmpInfo .Eq).2.2 b) (fun r s' => ∃ v, r = some v ∧ Q v s') E s := by
    unfold tryCompare
    refine wpAny_bind (ifBound_K X I hs hf (wpAny_mono h (fun v s' hv => ?_) fun _ _ e => e))
    cases v <;> first | exact hv.elim | exact wpAny_pure ⟨_, rfl, hv⟩
  rcases hi : cmpInfo CmpOp.Eq with ⟨sym, g, r⟩
  rw [hi] at slot one
  have hne : (Value.type T != Value.ref C) = true := by simp
  simp only [richCompare, hi, hT.oneThing_none]
  try with_reducible refine wpAny_holding ?_
  refine wpAny_bind (wpAny_cRoomFor_or (.inr hu) ?_)
  refine wpAny_bind (wpAny_typeOf hT (wpAny_bind (I.type.here ?_)))
  simp only [hne, if_true]
  refine wpAny_bind ((looks_subIn X hsub).here ?_)
  simp only [Bool.false_eq_true, if_false, Bool.not_false, if_true]
  refine wpAny_bind (m := tryCompare b _ (.ref x)) (wpAny_tryCompare_declines hT slot (decl _ ⟨rfl, ?_⟩))
  refine wpAny_bind (m := tryCompare (.ref x) _ b) (wpAny_mono one (fun r' s' hr => ?_) fun _ _ e => e)
  obtain ⟨v, rfl, q⟩ := hr
  exact wpAny_pure q
/-- the built-in kinds decline -/
theorem decl_int {i : Int} {t : Tok} {Q : Value → Shared → Prop} (hx : s.heap.get? x = some ox) (hd : ∀ v, ox.data ≠ .prim v) (hq : Q .notImplemented s) :
    wpAny (model prog w) A (call (.builtin "int.__eq__") [.int i t, .ref x]) Q E s := by
  refine GQ.call_here F.slot_int_eq (typeIs_int s i t) F.entry_int_eq (F.args_int_eq_2 _ _) ?_
  obtain ⟨oc, od, da, sl⟩ := ox
  obtain ⟨hp, g, d, tk, os⟩ := s
  cases da
  case prim v => exact absurd rfl (hd v)
  all_goals (wp_walk using wpAny_loadPart' hx)
  all_goals exact hq
theorem decl_str {i : Str} {t : Tok} {Q : Value → Shared → Prop} (hx : s.heap.get? x = some ox) (hd : ∀ v, ox.data ≠ .prim v) (hq : Q .notImplemented s) :
    wpAny (model prog w) A (call (.builtin "str.__eq__") [.str i t, .ref x]) Q E s := by
  refine GQ.call_here F.slot_str_eq (typeIs_str s i t) F.entry_str_eq (F.args_str_eq_2 _ _) ?_
  obtain ⟨oc, od, da, sl⟩ := ox
  obtain ⟨hp, g, d, tk, os⟩ := s
  cases da
  case prim v => exact absurd rfl (hd v)
  all_goals (wp_walk using wpAny_loadPart' hx)
  all_goals exact hq
theorem decl_none {Q : Value → Shared → Prop} (hq : Q .notImplemented s) :
    wpAny (model prog w) A (call (.builtin "NoneType.__eq__") [.none, .ref x]) Q E s := by
  refine GQ.call_here F.slot_NoneType_eq rfl F.entry_NoneType_eq (F.args_NoneType_eq_2 _ _) ?_
  obtain ⟨hp, g, d, tk, os⟩ := s
  wp_walk
  exact hq
theorem decl_tup {l : Addr} {Q : Value → Shared → Prop} (hT : s.TypeIs (.ref l) "tuple") (X : K.In s.heap) (I : InstAt s.heap x ox C od) (hsub : subIn K (.ref C) (.type "tuple") = some false) (hq : Q .notImplemented s) :
    wpAny (model prog w) A (call (.builtin "tuple.__eq__") [.ref l, .ref x]) Q E s := by
  refine GQ.call_here F.slot_tuple_eq hT F.entry_tuple_eq (F.args_tuple_eq_2 _ _) ?_
  have L0 : Looks (model prog w) s.heap (isInstance (.ref x) (.type "tuple")) false := (I.type (M := model prog w)).andThen (looks_subIn X hsub)
  obtain ⟨hp, g, d, tk, os⟩ := s
  wp_walk using L0.at
  exact hq
theorem decl_lst {l : Addr} {Q : Value → Shared → Prop} (hT : s.TypeIs (.ref l) "list") (X : K.In s.heap) (I : InstAt s.heap x ox C od) (hsub : subIn K (.ref C) (.type "list") = some false) (hq : Q .notImplemented s) :
    wpAny (model prog w) A (call (.builtin "list.__eq__") [.ref l, .ref x]) Q E s := by
  refine GQ.call_here F.slot_list_eq hT F.entry_list_eq (F.args_list_eq_2 _ _) ?_
  have L0 : Looks (model prog w) s.heap (isInstance (.ref x) (.type "list")) false := (I.type (M := model prog w)).andThen (looks_subIn X hsub)
  obtain ⟨hp, g, d, tk, os⟩ := s
  wp_walk using L0.at
  exact hq
end

/-- values of built-in kinds whose own == declines -/
inductive BK (H : Hp) : V → String → Prop where
  | int (i : Int) : BK H (.int i) "int"
  | str (x : Str) : BK H (.str x) "str"
  | non : BK H .non "NoneType"
  | tup {a : Addr} {xs : List V} (h : H a = some (.tup xs)) : BK H (.ref a) "tuple"
  | lst {a : Addr} {xs : List V} (h : H a = some (.lst xs)) : BK H (.ref a) "list"
theorem BK.ty {K : PySem.W.Frag} {H : Hp} {x : V} {t : String} (b : BK H x t) : TyX K H x (.type t) := by
  cases b with
  | int i => exact .base (.int i)
  | str x => exact .base (.str x)
  | non => exact .base .non
  | tup h => exact .base (.tup h)
  | lst h => exact .base (.lst h)
theorem BK.mem {H : Hp} {x : V} {t : String} (b : BK H x t) : t ∈ ["int", "str", "NoneType", "tuple", "list"] := by
  cases b <;> decide
/-- ==, where one of the two at least is an instance of the class at C -/
def rEqR (K : PySem.W.Frag) (C : Addr) (sp : Sp) (E : XK) : R2 := fun x y H Q =>
  (∃ a dx fs t, x = .ref a ∧ H a = some (.ins C dx fs) ∧ TyX K H y t ∧ PySem.W.notFirst K C t = true ∧ sp [.ref a, y] H Q E) ∨
  (∃ a dx fs t, y = .ref a ∧ H a = some (.ins C dx fs) ∧ BK H x t ∧ sp [.ref a, x] H Q E)
theorem op_eqR {X : Cx} {CX : CXT} {k : Nat} {C f : Addr} {fd : FuncData} {ps : List Str} {sp : Sp} {E : XK}
    (sub : ∀ t, t ∈ ["int", "str", "NoneType", "tuple", "list"] → PySem.W.subIn X.K (.type t) (.ref C) = some false ∧ PySem.W.subIn X.K (.ref C) (.type t) = some false)
    (hs : PySem.W.findIn X.K (.ref C) "__eq__" = some (some (.ref f))) (hf : PySem.W.isFn X.K (.ref f) = true)
    (F : FnOk X.prog X.w X.K X.mg X.base CX k f fd ps sp) (hr : Room k X.A) (hb : Binds X.K fd ps []) (hx : Passes CX X E) :
    OpR X (compareOp .Eq) (rEqR X.K C sp E) := by
  intro pins s sl H x y u v Q I rx ry h
  show wpAny (model X.prog X.w) X.A (richCompare .Eq u v) (EP X pins sl Q) X.xe s
  rcases h with ⟨a, dx, fs, t, rfl, ha, ty, nf, q⟩ | ⟨a, dx, fs, t, rfl, ha, bk, q⟩
  · cases rx
    obtain ⟨ox, od, J⟩ := inst_at I ha
    obtain ⟨m, hF⟩ := I.fr
    obtain ⟨PP, Z, p, _⟩ := kit_of I ry ty
    exact PySem.W.cmp_K (op := .Eq) hr.units0 hF I.ok.mod.kin J (Z.ty _ _ I.kIn p) nf hs hf
      (thn (run_fn (vs := [.ref a, y]) (us := [.ref a, v]) F hr hb .nil hx I (.cons rfl (.cons ry .nil)) q) fun _ _ z => cmpBack z)
  · cases ry
    obtain ⟨mA, O, _⟩ := ins_get I.hok ha
    obtain ⟨od, J, _⟩ := O.look
    have own := thn (run_fn (vs := [.ref a, x]) (us := [.ref a, u]) F hr hb .nil hx I (.cons rfl (.cons rx .nil)) q) fun _ _ z => cmpBack z
    have s2 := (sub t bk.mem).2
    cases bk with
    | int i =>
      obtain ⟨tk, rfl⟩ := rx
      exact rc_back hr.units0 (typeIs_int s i tk) PySem.F.slot_int_eq I.kIn J s2 hs hf (fun Q' hq => decl_int O.obj (fun w z => by cases z) hq) own
    | str i =>
      obtain ⟨tk, rfl⟩ := rx
      exact rc_back hr.units0 (typeIs_str s i tk) PySem.F.slot_str_eq I.kIn J s2 hs hf (fun Q' hq => decl_str O.obj (fun w z => by cases z) hq) own
    | non =>
      cases rx
      exact rc_back hr.units0 rfl PySem.F.slot_NoneType_eq I.kIn J s2 hs hf (fun Q' hq => decl_none hq) own
    | @tup l xs hl =>
      cases rx
      obtain ⟨_, its, _, o, h1, h2, _⟩ := (show ObjOk X.prog X.w H s.heap l (.tup xs) from I.hok l _ hl)
      have hT : s.TypeIs (.ref l) "tuple" := ⟨o, h1, h2⟩
      exact rc_back hr.units0 hT PySem.F.slot_tuple_eq I.kIn J s2 hs hf (fun Q' hq => decl_tup hT I.kIn J s2 hq) own
    | @lst l xs hl =>
      cases rx
      obtain ⟨_, its, n, _, h1⟩ := (show ObjOk X.prog X.w H s.heap l (.lst xs) from I.hok l _ hl)
      have hT : s.TypeIs (.ref l) "list" := ⟨_, h1, rfl⟩
      exact rc_back hr.units0 hT PySem.F.slot_list_eq I.kIn J s2 hs hf (fun Q' hq => decl_lst hT I.kIn J s2 hq) own
end Fc
set_option Elab.async false
set_option maxHeartbeats 4000000
/-! Plain mathematics: lowest terms, Euclid's steps. -/
namespace Fc

/-- top and bottom in lowest terms, the bottom above 0 -/
def lo (t b : Int) : Int × Int := if b < 0 then (-t / (Int.gcd t b : Int), -b / (Int.gcd t b : Int)) else (t / (Int.gcd t b : Int), b / (Int.gcd t b : Int))

theorem gcd_pos {t b : Int} (h : b ≠ 0) : (0 : Int) < (Int.gcd t b : Int) := by
  have : 0 < Int.gcd t b := Int.gcd_pos_of_ne_zero_right t h
  omega
theorem fdv_neg (a g : Int) (hg : 0 < g) : a.fdiv (-g) = -a / g := by
  have e : a.fdiv (-g) = (- -a).fdiv (-g) := by rw [Int.neg_neg]
  rw [e, Int.neg_fdiv_neg, Int.fdiv_eq_ediv_of_nonneg _ (by omega)]
/-- as the program reckons it: both by the divisor with the bottom's sign -/
theorem lo_prog {t b : Int} (h : b ≠ 0) : lo t b =
    (t.fdiv (if b < 0 then -(Int.gcd t b : Int) else (Int.gcd t b : Int)), b.fdiv (if b < 0 then -(Int.gcd t b : Int) else (Int.gcd t b : Int))) := by
  have g := gcd_pos (t := t) h
  unfold lo
  by_cases c : b < 0
  · simp only [if_pos c, fdv_neg _ _ g]
  · simp only [if_neg c, Int.fdiv_eq_ediv_of_nonneg _ (Int.le_of_lt g)]

/-- the two facts that say it all: what is divided is the common divisor -/
theorem lo_split {t b : Int} (h : b ≠ 0) : ∃ k : Int, k ≠ 0 ∧ t = (lo t b).1 * k ∧ b = (lo t b).2 * k ∧ 0 < (lo t b).2 ∧ Int.gcd (lo t b).1 (lo t b).2 = 1 ∧ k.natAbs = Int.gcd t b := by
  have g := gcd_pos (t := t) h
  have d1 : (Int.gcd t b : Int) ∣ t := Int.gcd_dvd_left _ _
  have d2 : (Int.gcd t b : Int) ∣ b := Int.gcd_dvd_right _ _
  obtain ⟨x, hx⟩ := d1
  obtain ⟨y, hy⟩ := d2
  have e1 : t / (Int.gcd t b : Int) = x := by
    exact Int.ediv_eq_of_eq_mul_right (by omega) hx
  have e2 : b / (Int.gcd t b : Int) = y := by
    exact Int.ediv_eq_of_eq_mul_right (by omega) hy
  have e3 : -t / (Int.gcd t b : Int) = -x := by
    have : -t = (Int.gcd t b : Int) * (-x) := by rw [Int.mul_neg, ← hx]
    rw [this]
    exact Int.mul_ediv_cancel_left _ (by omega)
  have e4 : -b / (Int.gcd t b : Int) = -y := by
    have : -b = (Int.gcd t b : Int) * (-y) := by rw [Int.mul_neg, ← hy]
    rw [this]
    exact Int.mul_ediv_cancel_left _ (by omega)
  have cop : Int.gcd x y = 1 := by
    have z : Int.gcd t b = (Int.gcd t b) * Int.gcd x y := by
      have q : Int.gcd ((Int.gcd t b : Int) * x) ((Int.gcd t b : Int) * y) = (Int.gcd t b : Int).natAbs * Int.gcd x y := Int.gcd_mul_left ..
      rw [← hx, ← hy] at q
      simpa using q
    have gp : 0 < Int.gcd t b := by omega
    have : Int.gcd t b * 1 = Int.gcd t b * Int.gcd x y := by omega
    exact (Nat.eq_of_mul_eq_mul_left gp this).symm
  have ypos : b < 0 → y < 0 := fun c => by
    rcases Int.lt_trichotomy y 0 with q | q | q
    · exact q
    · subst q; omega
    · have := Int.mul_pos g q; omega
  have ypos' : ¬ b < 0 → 0 < y := fun c => by
    rcases Int.lt_trichotomy y 0 with q | q | q
    · have := Int.mul_neg_of_pos_of_neg g q; omega
    · subst q; omega
    · exact q
  by_cases c : b < 0
  · refine ⟨-(Int.gcd t b : Int), by omega, ?_, ?_, ?_, ?_, by omega⟩
    · unfold lo; rw [if_pos c, e3, Int.neg_mul_neg, Int.mul_comm]; exact hx
    · unfold lo; rw [if_pos c, e4, Int.neg_mul_neg, Int.mul_comm]; exact hy
    · unfold lo; rw [if_pos c, e4]; have := ypos c; show 0 < -y; omega
    · unfold lo; rw [if_pos c, e3, e4]; show Int.gcd (-x) (-y) = 1; rw [Int.neg_gcd, Int.gcd_neg]; exact cop
  · refine ⟨(Int.gcd t b : Int), by omega, ?_, ?_, ?_, ?_, by omega⟩
    · unfold lo; rw [if_neg c, e1, Int.mul_comm]; exact hx
    · unfold lo; rw [if_neg c, e2, Int.mul_comm]; exact hy
    · unfold lo; rw [if_neg c, e2]; exact ypos' c
    · unfold lo; rw [if_neg c, e1, e2]; exact cop
theorem lo_pos {t b : Int} (h : b ≠ 0) : 0 < (lo t b).2 := let ⟨_, _, _, _, p, _⟩ := lo_split (t := t) h; p
theorem lo_cop {t b : Int} (h : b ≠ 0) : Int.gcd (lo t b).1 (lo t b).2 = 1 := let ⟨_, _, _, _, _, p, _⟩ := lo_split (t := t) h; p
theorem lo_cross {t b : Int} (h : b ≠ 0) : (lo t b).1 * b = t * (lo t b).2 := by
  obtain ⟨k, _, e1, e2, _⟩ := lo_split (t := t) h
  have : (lo t b).1 * ((lo t b).2 * k) = (lo t b).1 * k * (lo t b).2 := by ac_rfl
  rw [← e1, ← e2] at this
  exact this

theorem dvd_cop {a b d : Int} (h : Int.gcd a b = 1) (e : b ∣ a * d) : b ∣ d := by
  have c : Nat.Coprime b.natAbs a.natAbs := by
    have : Nat.gcd a.natAbs b.natAbs = 1 := h
    rwa [Nat.gcd_comm] at this
  have q := Int.natAbs_dvd_natAbs.mpr e
  rw [Int.natAbs_mul] at q
  exact Int.natAbs_dvd_natAbs.mp (c.dvd_of_dvd_mul_left q)
/-- lowest terms are one pair -/
theorem low_one {a b c d : Int} (hb : 0 < b) (hd : 0 < d) (h1 : Int.gcd a b = 1) (h2 : Int.gcd c d = 1) (e : a * d = c * b) : a = c ∧ b = d := by
  have d1 : b ∣ d := by
    have : b ∣ a * d := by rw [e]; exact Int.dvd_mul_left _ _
    exact dvd_cop h1 this
  have d2 : d ∣ b := by
    have : d ∣ c * b := by rw [← e]; exact Int.dvd_mul_left _ _
    exact dvd_cop h2 this
  have eq : b = d := Int.le_antisymm (Int.le_of_dvd hd d1) (Int.le_of_dvd hb d2)
  subst eq
  exact ⟨Int.eq_of_mul_eq_mul_right (by omega) e, rfl⟩
theorem lo_eq {t b u d : Int} (hb : b ≠ 0) (hd : d ≠ 0) (e : t * d = u * b) : lo t b = lo u d := by
  obtain ⟨k, k0, e1, e2, p, cp, _⟩ := lo_split (t := t) hb
  obtain ⟨m, m0, e3, e4, q, cq, _⟩ := lo_split (t := u) hd
  have z : (lo t b).1 * (lo u d).2 = (lo u d).1 * (lo t b).2 := by
    have : ((lo t b).1 * (lo u d).2) * (k * m) = ((lo u d).1 * (lo t b).2) * (k * m) := by
      have l : ((lo t b).1 * (lo u d).2) * (k * m) = ((lo t b).1 * k) * ((lo u d).2 * m) := by ac_rfl
      have r : ((lo u d).1 * (lo t b).2) * (k * m) = ((lo u d).1 * m) * ((lo t b).2 * k) := by ac_rfl
      rw [l, r, ← e1, ← e2, ← e3, ← e4]
      exact e
    exact Int.eq_of_mul_eq_mul_right (Int.mul_ne_zero k0 m0) this
  obtain ⟨h1, h2⟩ := low_one p q cp cq z
  exact Prod.ext h1 h2
theorem lo_mul {t b k : Int} (hb : b ≠ 0) (hk : k ≠ 0) : lo (t * k) (b * k) = lo t b :=
  lo_eq (Int.mul_ne_zero hb hk) hb (by ac_rfl)
theorem lo_self {t b : Int} (hb : 0 < b) (h : Int.gcd t b = 1) : lo t b = (t, b) := by
  unfold lo
  rw [if_neg (by omega), h]
  simp
theorem lo_one (t : Int) : lo t 1 = (t, 1) := lo_self (by decide) (by simp)
theorem lo_zero {b : Int} (hb : b ≠ 0) : lo 0 b = (0, 1) := by
  have := lo_eq (t := 0) (u := 0) (d := 1) hb (by decide) (by simp)
  rw [this, lo_one]
theorem lo_self2 {t b : Int} (hb : b ≠ 0) : lo (lo t b).1 (lo t b).2 = lo t b := lo_self (lo_pos hb) (lo_cop hb)
theorem natAbs_le_mul {a k : Int} (hk : k ≠ 0) : a.natAbs ≤ (a * k).natAbs := by
  rw [Int.natAbs_mul]
  have : 1 ≤ k.natAbs := by omega
  exact Nat.le_mul_of_pos_right _ this
theorem lo_top_le {t b : Int} (h : b ≠ 0) : (lo t b).1.natAbs ≤ t.natAbs := by
  obtain ⟨k, k0, e1, _⟩ := lo_split (t := t) h
  conv => rhs; rw [e1]
  exact natAbs_le_mul k0
theorem lo_bot_le {t b : Int} (h : b ≠ 0) : (lo t b).2.natAbs ≤ b.natAbs := by
  obtain ⟨k, k0, _, e2, _⟩ := lo_split (t := t) h
  conv => rhs; rw [e2]
  exact natAbs_le_mul k0

/-! ### Euclid, step by step, as the law does it -/
structure Eu (g i a b : Nat) : Prop where
  gcd : Nat.gcd a b = g
  even : i % 2 = 0 → b < 2 ^ (750 - i / 2)
  odd : i % 2 = 1 → b < a ∧ a < 2 ^ (750 - i / 2)
theorem Eu.turn {g i a b : Nat} (h : Eu g i a b) (hb : b ≠ 0) (hi : i < 1500) : Eu g (i + 1) b (a % b) := by
  have lt : a % b < b := Nat.mod_lt _ (by omega)
  refine ⟨?_, fun e => ?_, fun o => ?_⟩
  · have := h.gcd
    rw [Nat.gcd_comm, ← Nat.gcd_rec, Nat.gcd_comm]
    exact this
  · have o : i % 2 = 1 := by omega
    obtain ⟨h1, h2⟩ := h.odd o
    have ex : 750 - i / 2 = (750 - (i + 1) / 2) + 1 := by omega
    rw [ex, Nat.pow_succ] at h2
    have hd := Nat.div_add_mod a b
    have q1 : 1 ≤ a / b := (Nat.one_le_div_iff (by omega)).mpr (by omega)
    have q2 : b * 1 ≤ b * (a / b) := Nat.mul_le_mul_left b q1
    omega
  · have e : i % 2 = 0 := by omega
    have := h.even e
    refine ⟨lt, ?_⟩
    have ex : (i + 1) / 2 = i / 2 := by omega
    rw [ex]
    exact this
theorem Eu.done {g a b : Nat} (h : Eu g 1500 a b) : b = 0 := by
  have := h.even (by decide)
  simpa using this
theorem Eu.zero {g i a : Nat} (h : Eu g i a 0) : a = g := by
  have := h.gcd
  simpa using this
theorem Eu.start {a b : Nat} (h : b < 2 ^ 750) : Eu (Nat.gcd a b) 0 a b := ⟨rfl, fun _ => by simpa using h, fun e => by omega⟩

theorem pow_cop {a b : Int} (n : Nat) (h : Int.gcd a b = 1) : Int.gcd (a ^ n) (b ^ n) = 1 := by
  have : Nat.Coprime (a.natAbs ^ n) (b.natAbs ^ n) := Nat.Coprime.pow n n h
  show Nat.gcd (a ^ n).natAbs (b ^ n).natAbs = 1
  rw [Int.natAbs_pow, Int.natAbs_pow]
  exact this
end Fc
set_option Elab.async false
set_option linter.all false
set_option maxRecDepth 100000
set_option maxHeartbeats 4000000
set_option exponentiation.threshold 100000
/-! What does not hang on a law: sizes, heaps, Ratios and pairs on the heap, the pot, promises. -/
namespace Fc
open PySem PySem.Spec PyProof.Rows L2
/-! ### sizes -/
/-- below 2 ^ n in size -/
def Bd (n : Nat) (i : Int) : Prop := i.natAbs < 2 ^ n
theorem Bd.mono {n m : Nat} {i : Int} (h : Bd n i) (l : n ≤ m) : Bd m i := Nat.lt_of_lt_of_le h (Nat.pow_le_pow_right (by decide) l)
theorem Bd.mul {n m : Nat} {i j : Int} (h : Bd n i) (g : Bd m j) : Bd (n + m) (i * j) := wide_lt h g
theorem Bd.add {n : Nat} {i j : Int} (h : Bd n i) (g : Bd n j) : Bd (n + 1) (i + j) := by
  unfold Bd at *
  rw [Nat.pow_succ]
  omega
theorem Bd.sub {n : Nat} {i j : Int} (h : Bd n i) (g : Bd n j) : Bd (n + 1) (i - j) := by
  unfold Bd at *
  rw [Nat.pow_succ]
  omega
theorem Bd.neg {n : Nat} {i : Int} (h : Bd n i) : Bd n (-i) := by
  unfold Bd at *
  omega
theorem Bd.abs {n : Nat} {i j : Int} (h : Bd n i) (e : j.natAbs ≤ i.natAbs) : Bd n j := Nat.lt_of_le_of_lt e h
theorem Bd.w {n m : Nat} {i j : Int} (h : Bd n i) (g : Bd m j) (a : 0 < n := by decide) (b : 0 < m := by decide) (l : n + m ≤ 1000000 := by decide) : CMulW i j := wide_mul h g a b l
theorem Bd.fdv {n : Nat} {i j : Int} (h : Bd n j) (a : j ≠ 0) (b : 0 < n := by decide) (l : n ≤ 9000 := by decide) : CFdv i j := ⟨a, Nat.lt_of_lt_of_le (PySem.Flt.log2_lt_of b h) l⟩
theorem Bd.div {n : Nat} {i j : Int} (h : Bd n j) (a : 0 < j) (b : 0 < n := by decide) (l : n ≤ 9000 := by decide) : CDivW i j := wide_div a h b l

/-! ### heaps -/
abbrev Ex (H H' : Hp) : Prop := Same H H'
theorem Ex.new {H : Hp} {p : Addr} {o : HO} (h : H p = none) : Ex H (upd H p o) := fun a u e => by rw [upd_ne (ne_of_none e h)]; exact e
theorem Ex.to {H H1 : Hp} {p : Addr} {o : HO} (x : Ex H H1) (h : H1 p = none) : Ex H (upd H1 p o) := x.trans (Ex.new h)
/-- all but what stands at p is as it was -/
def Keep (p : Addr) (H H' : Hp) : Prop := ∀ b o, H b = some o → b ≠ p → H' b = some o
theorem Keep.refl {p : Addr} {H : Hp} : Keep p H H := fun _ _ h _ => h
theorem Keep.trans {p : Addr} {H H1 H2 : Hp} (a : Keep p H H1) (b : Keep p H1 H2) : Keep p H H2 := fun c o h n => b c o (a c o h n) n
theorem Keep.of {p : Addr} {H H' : Hp} (h : Ex H H') : Keep p H H' := fun c o e _ => h c o e
theorem Keep.upd {p : Addr} {H : Hp} {o : HO} : Keep p H (upd H p o) := fun c u e n => by rw [upd_ne n]; exact e
theorem Keep.new {p q : Addr} {H : Hp} {o : HO} (h : H q = none) : Keep p H (L2.upd H q o) := Keep.of (Ex.new h)

/-- the fields of a Ratio -/
def rf (p : Int × Int) : List (Str × V) := [("top", .int p.1), ("bottom", .int p.2)]
theorem ne_tb : ¬ (("top" : Str) = "bottom") := by decide +kernel
theorem rf_put (t b : Int) : putF "bottom" (.int b) (putF "top" (.int t) []) = rf (t, b) := by
  show (if ("top" : Str) = "bottom" then _ else (("top" : Str), V.int t) :: putF "bottom" (.int b) []) = rf (t, b)
  rw [if_neg ne_tb]
  rfl
theorem rf_top (p : Int × Int) : (rf p).lookup ("top" : Str) = some (.int p.1) := by simp [rf, List.lookup]
theorem rf_bot (p : Int × Int) : (rf p).lookup ("bottom" : Str) = some (.int p.2) := by
  have : (("bottom" : Str) == "top") = false := by decide +kernel
  simp [rf, List.lookup, this]
theorem rf_no (p : Int × Int) {m : Str} (h : (m == "top") = false) (h2 : (m == "bottom") = false) : (rf p).lookup m = none := by
  simp [rf, List.lookup, h, h2]
/-- a Ratio with the fields p stands at a -/
def RatAt (C : Addr) (H : Hp) (a : Addr) (p : Int × Int) : Prop := ∃ dx, H a = some (.ins C dx (rf p))
theorem RatAt.ex {C : Addr} {H H' : Hp} {a : Addr} {p : Int × Int} (r : RatAt C H a p) (e : Ex H H') : RatAt C H' a p := let ⟨dx, h⟩ := r; ⟨dx, e _ _ h⟩
/-- a pair of whole numbers stands at a -/
def Pr (H : Hp) (a : Addr) (p : Int × Int) : Prop := H a = some (.tup [.int p.1, .int p.2])
theorem Pr.ex {H H' : Hp} {a : Addr} {p : Int × Int} (r : Pr H a p) (e : Ex H H') : Pr H' a p := e _ _ r
/-- a fair pair: the bottom above 0, both of at most n digits in base 2 -/
structure Sm (n : Nat) (p : Int × Int) : Prop where
  t : Bd n p.1
  b : Bd n p.2
  pos : 0 < p.2
theorem Sm.mono {n m : Nat} {p : Int × Int} (h : Sm n p) (l : n ≤ m) : Sm m p := ⟨h.t.mono l, h.b.mono l, h.pos⟩
theorem Sm.lo {n : Nat} {t b : Int} (ht : Bd n t) (hb : Bd n b) (h : b ≠ 0) : Sm n (lo t b) := ⟨ht.abs (lo_top_le h), hb.abs (lo_bot_le h), lo_pos h⟩
theorem pos_ne {b : Int} (h : 0 < b) : b ≠ 0 := by omega

theorem passF {X : Cx} {E : XK} : Passes CX0 X E := fun _ _ _ _ _ _ _ h => h.elim
theorem Sm.ne {n : Nat} {p : Int × Int} (h : Sm n p) : p.2 ≠ 0 := pos_ne h.pos
theorem Sm.nn {n m : Nat} {p q : Int × Int} (h : Sm n p) (g : Sm m q) : p.2 * q.2 ≠ 0 := Int.mul_ne_zero h.ne g.ne
theorem Bd.pow {m : Nat} {a : Int} (h : Bd m a) : ∀ i : Nat, Bd (m * i + 1) (a ^ i)
  | 0 => by unfold Bd; rw [Int.pow_zero, Nat.mul_zero]; decide
  | i + 1 => by
    rw [Int.pow_succ]
    exact ((Bd.pow h i).mul h).mono (by rw [Nat.mul_succ]; omega)
/-- the pot: a list of the cells, the place, and what is left of the cell -/
def PotAt (H : Hp) (p : Addr) : Prop := ∃ (l : Addr) (cs : List Int) (i c : Int), p ≠ l ∧ H p = some (.lst [.ref l, .int i, .int c]) ∧ H l = some (.lst (cs.map V.int)) ∧
  cs.length ≤ 63 ∧ 0 ≤ i ∧ 0 ≤ c ∧ ∀ z ∈ cs, 0 ≤ z
theorem PotAt.ex {H H' : Hp} {p : Addr} (h : PotAt H p) (e : Ex H H') : PotAt H' p := by
  obtain ⟨l, cs, i, c, ne, h1, h2, r⟩ := h
  exact ⟨l, cs, i, c, ne, e _ _ h1, e _ _ h2, r⟩
theorem PotAt.ne {H : Hp} {p t : Addr} (h : PotAt H p) (n : H t = none) : t ≠ p := fun e => by
  obtain ⟨l, cs, i, c, ne, h1, h2, r⟩ := h
  rw [e, h1] at n
  cases n
theorem Keep.free {p t : Addr} {H H' : Hp} (k : Keep p H H') (h : PotAt H' p) (n : H' t = none) : H t = none := by
  cases q : H t with
  | none => rfl
  | some o =>
    rw [k t o q (h.ne n)] at n
    cases n
theorem Pr.ne {H : Hp} {p t : Addr} {q : Int × Int} (r : Pr H t q) (h : PotAt H p) : t ≠ p := by
  obtain ⟨l, cs, i, c, ne, h1, h2, _⟩ := h
  exact ne_of r h1 (by intro z; cases z)
theorem Pr.keep {H H' : Hp} {p t : Addr} {q : Int × Int} (r : Pr H t q) (h : PotAt H p) (k : Keep p H H') : Pr H' t q := k t _ r (r.ne h)
theorem sz3 : 3 ≤ sizeLine := by rw [sizeLine_eq]; decide
theorem sz2 : 2 ≤ sizeLine := by rw [sizeLine_eq]; decide
def spStart (K : PySem.W.Frag) : Sp := fun vs H Q _ => ∃ (a : Addr) (ns : List Int), vs = [.ref a] ∧ SqL K H a (ns.map V.int) ∧ ns.length ≤ 63 ∧
  ∀ p H', PotAt H' p → Ex H H' → H p = none → Q (.ref p) H'
/-- a digit of the pot: all that is said of it is that it is below many -/
def spDigit : Sp := fun vs H Q _ => ∃ (p : Addr) (m : Int), vs = [.ref p, .int m] ∧ PotAt H p ∧ 0 < m ∧ Bd 300 m ∧
  ∀ d H', 0 ≤ d → d < m → PotAt H' p → Keep p H H' → Q (.int d) H'
/-- a drawn fraction -/
def spFraction : Sp := fun vs H Q _ => ∃ (p : Addr), vs = [.ref p] ∧ PotAt H p ∧ ∀ t q H', Pr H' t q → H t = none → Sm 220 q → PotAt H' p → Keep p H H' → Q (.ref t) H'
theorem bd_ten : Bd 210 ((10 : Int) ^ (60 : Int).toNat) := by show ((10 : Int) ^ 60).natAbs < 2 ^ 210; decide +kernel
theorem ten_pos : (0 : Int) < (10 : Int) ^ (60 : Int).toNat := by decide +kernel
theorem bd_twel : Bd 60 ((10 : Int) ^ (12 : Int).toNat) := by show ((10 : Int) ^ 12).natAbs < 2 ^ 60; decide +kernel
theorem twel_pos : (0 : Int) < (10 : Int) ^ (12 : Int).toNat := by decide +kernel
theorem bd_two : Bd 2 (2 : Int) := by show (2 : Int).natAbs < 2 ^ 2; decide
theorem bd_of {n : Nat} {i : Int} (h : i.natAbs < 2 ^ n) : Bd n i := h
theorem bd_le {n : Nat} {i j : Int} (h : Bd n j) (a : -j ≤ i) (b : i ≤ j) : Bd n i := by
  unfold Bd at *
  omega
theorem cpow (i : Int) (j : Nat) (h : i.natAbs < 2 ^ 64) (l : j ≤ 1000000) : CPow i (j : Int) := ⟨by omega, by omega, h⟩
def spHanded : Sp := fun vs H Q _ => ∃ (p t : Addr) (q : Int × Int), vs = [.ref p, .ref t] ∧ PotAt H p ∧ Pr H t q ∧ Sm 300 q ∧
  ∀ u k H', k ≠ 0 → Bd 3 k → Pr H' u (q.1 * k, q.2 * k) → H u = none → PotAt H' p → Keep p H H' → Q (.ref u) H'
theorem kit_self {K : PySem.W.Frag} {a : Addr} : PySem.W.kitOne K (.ref a) (.ref a) = some true := by
  unfold PySem.W.kitOne
  rw [if_pos (by simp)]
/-- lowest terms of at most 220 digits in base 2 -/
structure Lw (p : Int × Int) : Prop where
  s : Sm 220 p
  c : Int.gcd p.1 p.2 = 1
theorem Lw.s4 {p : Int × Int} (h : Lw p) : Sm 4000 p := h.s.mono (by decide)
theorem Lw.of {q : Int × Int} (h : Sm 220 q) : Lw (lo q.1 q.2) := ⟨Sm.lo h.t h.b h.ne, lo_cop h.ne⟩
theorem lo_k {q : Int × Int} (h : Sm 300 q) {k : Int} (k0 : k ≠ 0) : lo (q.1 * k) (q.2 * k) = lo q.1 q.2 := lo_mul h.ne k0
theorem bd_k {q : Int × Int} (h : Sm 300 q) {k : Int} (bk : Bd 3 k) : Bd 8900 (q.2 * k) := (h.b.mul bk).mono (by decide)
def spLaw (K : PySem.W.Frag) : Sp := fun vs H Q _ => ∃ (a : Addr) (ns : List Int), vs = [.ref a] ∧ SqL K H a (ns.map V.int) ∧ ns.length ≤ 63 ∧ ∀ H', Q (.bl true) H'
theorem kit_ref {K : PySem.W.Frag} {t : Value} {D : Addr} {b : Bool} (hd : PySem.W.hasDictIn K D = true) (ht : PySem.W.typeIn K (.ref D) = some (.type "type")) (hs : PySem.W.subIn K t (.ref D) = some b) (ne : t ≠ .ref D) : PySem.W.kitOne K t (.ref D) = some b := by
  obtain ⟨cd, hc, _⟩ := PySem.W.any_some hd
  have e2 : ((PySem.W.clsIn K D).isSome && PySem.W.typeIn K (.ref D) == some (.type "type")) = true := by rw [hc, ht] <;> rfl
  unfold PySem.W.kitOne
  rw [if_neg (fun z => ne (beq_iff_eq.mp z))]
  show (if ((PySem.W.clsIn K D).isSome && PySem.W.typeIn K (.ref D) == some (.type "type")) = true then PySem.W.subIn K t (.ref D) else none) = some b
  rw [if_pos e2]
  exact hs
theorem kit_typ {K : PySem.W.Frag} {D : Addr} {S : String} {b : Bool} (hm : PySem.W.kitMeta S = true) (hs : PySem.W.subIn K (.ref D) (.type S) = some b) : PySem.W.kitOne K (.ref D) (.type S) = some b := by
  unfold PySem.W.kitOne
  rw [if_neg (fun z => by cases beq_iff_eq.mp z)]
  show (if PySem.W.kitMeta S = true then PySem.W.subIn K (.ref D) (.type S) else none) = some b
  rw [if_pos hm]
  exact hs
end Fc
set_option Elab.async false
set_option linter.all false
set_option maxRecDepth 100000
set_option maxHeartbeats 4000000
/-! Fractions as rational numbers; what the ends of spans do under the five operations and the quotient. -/
namespace Fc
/-- what a pair is worth -/
def vl (p : Int × Int) : Rat := (p.1 : Rat) / (p.2 : Rat)
theorem cast_pos {b : Int} (h : 0 < b) : (0 : Rat) < (b : Rat) := Rat.intCast_pos.mpr h
theorem cast_ne {b : Int} (h : b ≠ 0) : (b : Rat) ≠ 0 := fun z => h (Rat.intCast_inj.mp (by rw [z] <;> rfl))
theorem vl_mul {p : Int × Int} (h : p.2 ≠ 0) : vl p * (p.2 : Rat) = (p.1 : Rat) := by
  have := cast_ne h
  unfold vl
  grind
theorem vl_le {p q : Int × Int} (hp : 0 < p.2) (hq : 0 < q.2) : vl p ≤ vl q ↔ p.1 * q.2 ≤ q.1 * p.2 := by
  have a := cast_pos hp
  have b := cast_pos hq
  have e1 := vl_mul (p := p) (by omega)
  have e2 := vl_mul (p := q) (by omega)
  rw [← Rat.intCast_le_intCast, Rat.intCast_mul, Rat.intCast_mul, ← e1, ← e2]
  constructor
  · intro h
    have := Rat.mul_le_mul_of_nonneg_left h (c := (p.2 : Rat) * (q.2 : Rat)) (Rat.mul_nonneg (by grind) (by grind))
    grind
  · intro h
    rcases (Rat.le_total (a := vl p) (b := vl q)) with z | z
    · exact z
    · have m := Rat.mul_le_mul_of_nonneg_left z (c := (p.2 : Rat) * (q.2 : Rat)) (Rat.mul_nonneg (by grind) (by grind))
      have e : (vl p - vl q) * ((p.2 : Rat) * (q.2 : Rat)) = 0 := by grind
      have n : 0 < (p.2 : Rat) * (q.2 : Rat) := Rat.mul_pos a b
      have : vl p - vl q = 0 := (Rat.mul_eq_zero.mp e).resolve_right (by grind)
      grind
theorem vl_lt {p q : Int × Int} (hp : 0 < p.2) (hq : 0 < q.2) : vl p < vl q ↔ p.1 * q.2 < q.1 * p.2 := by
  have := vl_le hq hp
  constructor
  · intro h
    have : ¬ (q.1 * p.2 ≤ p.1 * q.2) := fun z => by have := this.mpr z; grind
    omega
  · intro h
    have : ¬ (vl q ≤ vl p) := fun z => by have := this.mp z; omega
    grind
theorem vl_eq {p q : Int × Int} (hp : 0 < p.2) (hq : 0 < q.2) (h : vl p = vl q) : p.1 * q.2 = q.1 * p.2 := by
  have a := (vl_le hp hq).mp (by grind)
  have b := (vl_le hq hp).mp (by grind)
  omega
theorem vl_lo {t b : Int} (h : b ≠ 0) : vl (lo t b) = (t : Rat) / (b : Rat) := by
  obtain ⟨k, k0, e1, e2, p, _⟩ := lo_split (t := t) h
  have a := cast_ne k0
  have c := cast_pos p
  have f1 : (t : Rat) = ((lo t b).1 : Rat) * (k : Rat) := by rw [← Rat.intCast_mul, ← e1]
  have f2 : (b : Rat) = ((lo t b).2 : Rat) * (k : Rat) := by rw [← Rat.intCast_mul, ← e2]
  unfold vl
  rw [f1, f2]
  grind
/-! ### ranges -/
theorem mul_hi {a b c d x y : Rat} (h1 : a ≤ x) (h2 : x ≤ b) (h3 : c ≤ y) (h4 : y ≤ d) : x * y ≤ a * c ∨ x * y ≤ a * d ∨ x * y ≤ b * c ∨ x * y ≤ b * d := by
  rcases (Rat.le_total (a := 0) (b := y)) with hy | hy
  · have p1 : 0 ≤ (b - x) * y := Rat.mul_nonneg (by grind) hy
    rcases (Rat.le_total (a := 0) (b := b)) with hb | hb
    · have p2 : 0 ≤ b * (d - y) := Rat.mul_nonneg hb (by grind)
      right; right; right; grind
    · have p2 : 0 ≤ (-b) * (y - c) := Rat.mul_nonneg (by grind) (by grind)
      right; right; left; grind
  · have p1 : 0 ≤ (x - a) * (-y) := Rat.mul_nonneg (by grind) (by grind)
    rcases (Rat.le_total (a := 0) (b := a)) with ha | ha
    · have p2 : 0 ≤ a * (d - y) := Rat.mul_nonneg ha (by grind)
      right; left; grind
    · have p2 : 0 ≤ (-a) * (y - c) := Rat.mul_nonneg (by grind) (by grind)
      left; grind
theorem mul_lw {a b c d x y : Rat} (h1 : a ≤ x) (h2 : x ≤ b) (h3 : c ≤ y) (h4 : y ≤ d) : a * c ≤ x * y ∨ a * d ≤ x * y ∨ b * c ≤ x * y ∨ b * d ≤ x * y := by
  have := mul_hi (a := -b) (b := -a) (x := -x) (by grind) (by grind) h3 h4
  grind
theorem inv_anti {c d y : Rat} (h : 0 < c ∨ d < 0) (h3 : c ≤ y) (h4 : y ≤ d) : d⁻¹ ≤ y⁻¹ ∧ y⁻¹ ≤ c⁻¹ := by
  have one : ∀ u v : Rat, u ≤ v → (0 < u ∨ v < 0) → v⁻¹ ≤ u⁻¹ := by
    intro u v huv hs
    have hu : u ≠ 0 := by grind
    have hv : v ≠ 0 := by grind
    have eu := Rat.mul_inv_cancel u hu
    have ev := Rat.mul_inv_cancel v hv
    have sq : 0 ≤ (u * v) * ((v - u) * ((u⁻¹ * u⁻¹) * (v⁻¹ * v⁻¹))) := by
      have q1 : 0 ≤ u * v := by
        rcases hs with hs | hs
        · exact Rat.mul_nonneg (by grind) (by grind)
        · have := Rat.mul_nonneg (a := -u) (b := -v) (by grind) (by grind)
          grind
      have n1 : 0 ≤ u⁻¹ * u⁻¹ := by
        rcases (Rat.le_total (a := 0) (b := u⁻¹)) with z | z
        · exact Rat.mul_nonneg z z
        · have := Rat.mul_nonneg (a := -u⁻¹) (b := -u⁻¹) (by grind) (by grind)
          grind
      have n2 : 0 ≤ v⁻¹ * v⁻¹ := by
        rcases (Rat.le_total (a := 0) (b := v⁻¹)) with z | z
        · exact Rat.mul_nonneg z z
        · have := Rat.mul_nonneg (a := -v⁻¹) (b := -v⁻¹) (by grind) (by grind)
          grind
      exact Rat.mul_nonneg q1 (Rat.mul_nonneg (by grind) (Rat.mul_nonneg n1 n2))
    have e : (u * v) * ((v - u) * ((u⁻¹ * u⁻¹) * (v⁻¹ * v⁻¹))) = u⁻¹ - v⁻¹ := by grind
    grind
  exact ⟨one y d h4 (by grind), one c y h3 (by grind)⟩
/-- the law's six operations -/
def ow (op : Nat) (x y : Rat) : Rat := if op = 0 then x + y else if op = 1 then x - y else if op = 2 then x * y else if op = 3 then (if y < x then y else x) else if op = 4 then (if x < y then y else x) else x / y
/-- what is the least and the greatest of the four corners -/
structure Lst (op : Nat) (a b c d L : Rat) : Prop where
  at_ : L = ow op a c ∨ L = ow op a d ∨ L = ow op b c ∨ L = ow op b d
  h0 : L ≤ ow op a c
  h1 : L ≤ ow op a d
  h2 : L ≤ ow op b c
  h3 : L ≤ ow op b d
structure Grt (op : Nat) (a b c d L : Rat) : Prop where
  at_ : L = ow op a c ∨ L = ow op a d ∨ L = ow op b c ∨ L = ow op b d
  h0 : ow op a c ≤ L
  h1 : ow op a d ≤ L
  h2 : ow op b c ≤ L
  h3 : ow op b d ≤ L
theorem Lst.one {op : Nat} {a b c d L M : Rat} (x : Lst op a b c d L) (y : Lst op a b c d M) : L = M := by
  obtain ⟨x0, x1, x2, x3, x4⟩ := x
  obtain ⟨y0, y1, y2, y3, y4⟩ := y
  refine Rat.le_antisymm ?_ ?_
  · rcases y0 with e | e | e | e <;> rw [e] <;> assumption
  · rcases x0 with e | e | e | e <;> rw [e] <;> assumption
theorem Grt.one {op : Nat} {a b c d L M : Rat} (x : Grt op a b c d L) (y : Grt op a b c d M) : L = M := by
  obtain ⟨x0, x1, x2, x3, x4⟩ := x
  obtain ⟨y0, y1, y2, y3, y4⟩ := y
  refine Rat.le_antisymm ?_ ?_
  · rcases x0 with e | e | e | e <;> rw [e] <;> assumption
  · rcases y0 with e | e | e | e <;> rw [e] <;> assumption
theorem ow_in {op : Nat} {a b c d x y L U : Rat} (h5 : 5 ≤ op → 0 < c ∨ d < 0) (h1 : a ≤ x) (h2 : x ≤ b) (h3 : c ≤ y) (h4 : y ≤ d) (l : Lst op a b c d L) (g : Grt op a b c d U) : L ≤ ow op x y ∧ ow op x y ≤ U := by
  obtain ⟨_, l0, l1, l2, l3⟩ := l
  obtain ⟨_, g0, g1, g2, g3⟩ := g
  unfold ow at *
  by_cases o0 : op = 0
  · simp only [o0, if_true] at *; grind
  by_cases o1 : op = 1
  · simp only [o1, if_true] at *; simp at *; grind
  by_cases o2 : op = 2
  · subst o2
    simp at *
    have p := mul_hi h1 h2 h3 h4
    have q := mul_lw h1 h2 h3 h4
    constructor <;> grind
  by_cases o3 : op = 3
  · subst o3
    simp at *
    constructor <;> grind
  by_cases o4 : op = 4
  · subst o4
    simp at *
    constructor <;> grind
  · simp only [if_neg o0, if_neg o1, if_neg o2, if_neg o3, if_neg o4, Rat.div_def] at *
    obtain ⟨i1, i2⟩ := inv_anti (h5 (by omega)) h3 h4
    have p := mul_hi h1 h2 i1 i2
    have q := mul_lw h1 h2 i1 i2
    constructor <;> grind
theorem ends0 {a b c d : Rat} (h : a ≤ b) (g : c ≤ d) : Lst 0 a b c d (a + c) ∧ Grt 0 a b c d (b + d) := by
  constructor <;> constructor <;> (unfold ow; simp) <;> grind
theorem ends1 {a b c d : Rat} (h : a ≤ b) (g : c ≤ d) : Lst 1 a b c d (a - d) ∧ Grt 1 a b c d (b - c) := by
  constructor <;> constructor <;> (unfold ow; simp) <;> grind
theorem ends3 {a b c d : Rat} (h : a ≤ b) (g : c ≤ d) : Lst 3 a b c d (if a ≤ c then a else c) ∧ Grt 3 a b c d (if b ≤ d then b else d) := by
  constructor <;> constructor <;> (unfold ow; simp) <;> grind
theorem ends4 {a b c d : Rat} (h : a ≤ b) (g : c ≤ d) : Lst 4 a b c d (if c ≤ a then a else c) ∧ Grt 4 a b c d (if d ≤ b then b else d) := by
  constructor <;> constructor <;> (unfold ow; simp) <;> grind
end Fc
set_option Elab.async false
set_option linter.all false
set_option maxRecDepth 100000
set_option maxHeartbeats 4000000
/-! x in y, where y is an instance of an own class that says what is in it. -/
namespace Fc
open PySem PySem.Spec PyProof.Rows L2
section
open PySem.W
variable {M : Model} {A : Around} {E : Value → Shared → Prop} {s : Shared} {K : Frag} {c C f : Addr} {ox : Obj} {od : Option Obj}
theorem in_K {x : Value} {Q : Bool → Shared → Prop} (X : K.In s.heap) (I : InstAt s.heap c ox C od) (hs : findIn K (.ref C) "__contains__" = some (some (.ref f))) (hf : isFn K (.ref f) = true)
    (h : wpAny M A (call (.ref f) [.ref c, x]) (fun r s' => wpAny M A (truthy r) Q E s') E s) : wpAny M A (contains (.ref c) x) Q E s := by
  unfold contains
  refine wpAny_holding ?_
  have e0 : stdlibNamesSay? (.ref c) x = none := rfl
  simp only [e0, callSpecialUnlessNone?, specialOf]
  refine wpAny_bind (wpAny_bind (I.type.here ((looks_findIn X hs).here ?_)))
  show wpAny M A (if (some (Value.ref f) == some Value.none) = true then _ else _) Q E s
  rw [if_neg (by simp)]
  refine wpAny_bind (wpAny_bind (wpAny_bind (I.type.here ((looks_findIn X hs).here ?_))))
  refine wpAny_holding (wpAny_bind ((bind_fn X _ (beq_iff_eq.mp hf)).here ?_))
  show wpAny M A (if (Value.ref f == Value.none) = true then _ else _) _ E s
  rw [if_neg (by simp)]
  exact wpAny_bind (wpAny_mono h (fun v s' z => wpAny_pure z) fun _ _ z => z)
end
/-- x in y -/
def rIn (C : Addr) (sp : Sp) (E : XK) : R2 := fun x y H Q => ∃ a dx fs, y = .ref a ∧ H a = some (.ins C dx fs) ∧ sp [.ref a, x] H (fun v H' => ∃ b, v = .bl b ∧ Q (.bl b) H') E
theorem op_in {X : Cx} {CX : CXT} {k : Nat} {C f : Addr} {fd : FuncData} {ps : List Str} {sp : Sp} {E : XK}
    (hs : PySem.W.findIn X.K (.ref C) "__contains__" = some (some (.ref f))) (hf : PySem.W.isFn X.K (.ref f) = true)
    (F : FnOk X.prog X.w X.K X.mg X.base CX k f fd ps sp) (hr : Room k X.A) (hb : Binds X.K fd ps []) (hx : Passes CX X E) :
    OpR X (compareOp .In) (rIn C sp E) := by
  intro pins s sl H x y u v Q I rx ry h
  obtain ⟨a, dx, fs, rfl, ha, q⟩ := h
  cases ry
  obtain ⟨ox, od, J⟩ := inst_at I ha
  show wpAny (model X.prog X.w) X.A (do return .bool (← contains (.ref a) u)) (EP X pins sl Q) X.xe s
  refine wpAny_bind (in_K I.kIn J hs hf (thn (run_fn (vs := [.ref a, x]) (us := [.ref a, u]) F hr hb .nil hx I (.cons rfl (.cons rx .nil)) q) fun w s' z => ?_))
  obtain ⟨z', H', I', rz, b, rfl, qz⟩ := z
  cases rz
  exact wpAny_pure (wpAny_pure ⟨.bl b, H', I', rfl, qz⟩)
end Fc
set_option Elab.async false
set_option linter.all false
set_option maxRecDepth 100000
set_option maxHeartbeats 4000000
/-! Ratios, pairs and spans on the heap by what they are worth. -/
namespace Fc
open PySem PySem.Spec PyProof.Rows L2
theorem div_is {t b r : Rat} (h : b ≠ 0) (e : r * b = t) : t / b = r := by grind
theorem cast_mul (a b : Int) : ((a * b : Int) : Rat) = (a : Rat) * (b : Rat) := Rat.intCast_mul a b
theorem cast_add (a b : Int) : ((a + b : Int) : Rat) = (a : Rat) + (b : Rat) := Rat.intCast_add a b
theorem cast_sub (a b : Int) : ((a - b : Int) : Rat) = (a : Rat) - (b : Rat) := Rat.intCast_sub a b
theorem cast_neg (a : Int) : ((-a : Int) : Rat) = -(a : Rat) := Rat.intCast_neg a
theorem v_add {p q : Int × Int} (hp : p.2 ≠ 0) (hq : q.2 ≠ 0) : ((p.1 * q.2 + q.1 * p.2 : Int) : Rat) / ((p.2 * q.2 : Int) : Rat) = vl p + vl q := by
  have e1 := vl_mul hp
  have e2 := vl_mul hq
  refine div_is (cast_ne (Int.mul_ne_zero hp hq)) ?_
  rw [cast_mul, cast_add, cast_mul, cast_mul, ← e1, ← e2]
  grind
theorem v_sub {p q : Int × Int} (hp : p.2 ≠ 0) (hq : q.2 ≠ 0) : ((p.1 * q.2 - q.1 * p.2 : Int) : Rat) / ((p.2 * q.2 : Int) : Rat) = vl p - vl q := by
  have e1 := vl_mul hp
  have e2 := vl_mul hq
  refine div_is (cast_ne (Int.mul_ne_zero hp hq)) ?_
  rw [cast_mul, cast_sub, cast_mul, cast_mul, ← e1, ← e2]
  grind
theorem v_mul {p q : Int × Int} (hp : p.2 ≠ 0) (hq : q.2 ≠ 0) : ((p.1 * q.1 : Int) : Rat) / ((p.2 * q.2 : Int) : Rat) = vl p * vl q := by
  have e1 := vl_mul hp
  have e2 := vl_mul hq
  refine div_is (cast_ne (Int.mul_ne_zero hp hq)) ?_
  rw [cast_mul, cast_mul, ← e1, ← e2]
  grind
theorem v_neg {p : Int × Int} (hp : p.2 ≠ 0) : ((-p.1 : Int) : Rat) / (p.2 : Rat) = -vl p := by
  have e1 := vl_mul hp
  refine div_is (cast_ne hp) ?_
  rw [cast_neg, ← e1]
  grind
theorem v_zero {q : Int × Int} (hq : q.2 ≠ 0) : vl q = 0 ↔ q.1 = 0 := by
  have e2 := vl_mul hq
  have := cast_ne hq
  constructor
  · intro h
    rw [h] at e2
    exact Rat.intCast_inj.mp (by rw [← e2]; grind)
  · intro h
    unfold vl
    rw [h]
    grind
theorem v_div {p q : Int × Int} (hp : p.2 ≠ 0) (hq : q.2 ≠ 0) (h0 : q.1 ≠ 0) : ((p.1 * q.2 : Int) : Rat) / ((p.2 * q.1 : Int) : Rat) = vl p / vl q := by
  have e1 := vl_mul hp
  have e2 := vl_mul hq
  have n : vl q ≠ 0 := fun z => h0 ((v_zero hq).mp z)
  refine div_is (cast_ne (Int.mul_ne_zero hp h0)) ?_
  rw [cast_mul, cast_mul, ← e1, ← e2]
  grind
theorem v_pos {q : Int × Int} (hq : 0 < q.2) : 0 < vl q ↔ 0 < q.1 := by
  have := vl_lt (p := ((0, 1) : Int × Int)) (q := q) (by decide) hq
  have z : vl ((0, 1) : Int × Int) = 0 := (v_zero (by decide)).mpr rfl
  rw [z] at this
  rw [this]
  show (0 : Int) * q.2 < q.1 * 1 ↔ _
  rw [Int.zero_mul, Int.mul_one]
theorem v_nn {q : Int × Int} (hq : 0 < q.2) : 0 ≤ vl q ↔ 0 ≤ q.1 := by
  have := vl_le (p := ((0, 1) : Int × Int)) (q := q) (by decide) hq
  have z : vl ((0, 1) : Int × Int) = 0 := (v_zero (by decide)).mpr rfl
  rw [z] at this
  rw [this]
  show (0 : Int) * q.2 ≤ q.1 * 1 ↔ _
  rw [Int.zero_mul, Int.mul_one]
theorem v_np {q : Int × Int} (hq : 0 < q.2) : vl q ≤ 0 ↔ q.1 ≤ 0 := by
  have := vl_le (p := q) (q := ((0, 1) : Int × Int)) hq (by decide)
  have z : vl ((0, 1) : Int × Int) = 0 := (v_zero (by decide)).mpr rfl
  rw [z] at this
  rw [this]
  show q.1 * 1 ≤ (0 : Int) * q.2 ↔ _
  rw [Int.zero_mul, Int.mul_one]
/-- a Ratio in lowest terms, worth r -/
def RatV (C : Addr) (H : Hp) (n : Nat) (a : Addr) (r : Rat) : Prop := ∃ p, RatAt C H a p ∧ Sm n p ∧ Int.gcd p.1 p.2 = 1 ∧ vl p = r
theorem RatV.ex {C : Addr} {H H' : Hp} {n : Nat} {a : Addr} {r : Rat} (h : RatV C H n a r) (e : Ex H H') : RatV C H' n a r := let ⟨p, x, y⟩ := h; ⟨p, x.ex e, y⟩
theorem RatV.mono {C : Addr} {H : Hp} {n m : Nat} {a : Addr} {r : Rat} (h : RatV C H n a r) (l : n ≤ m) : RatV C H m a r := let ⟨p, x, y, z⟩ := h; ⟨p, x, y.mono l, z⟩
theorem RatV.lo {C : Addr} {H : Hp} {n : Nat} {a : Addr} {t b : Int} (h : RatAt C H a (lo t b)) (ht : Bd n t) (hb : Bd n b) (n0 : b ≠ 0) {r : Rat} (e : (t : Rat) / (b : Rat) = r) : RatV C H n a r :=
  ⟨_, h, Sm.lo ht hb n0, lo_cop n0, (vl_lo n0).trans e⟩
/-- a pair of whole numbers worth r -/
def PrV (H : Hp) (n : Nat) (a : Addr) (r : Rat) : Prop := ∃ p, Pr H a p ∧ Sm n p ∧ vl p = r
theorem PrV.ex {H H' : Hp} {n : Nat} {a : Addr} {r : Rat} (h : PrV H n a r) (e : Ex H H') : PrV H' n a r := let ⟨p, x, y⟩ := h; ⟨p, x.ex e, y⟩
theorem PrV.mono {H : Hp} {n m : Nat} {a : Addr} {r : Rat} (h : PrV H n a r) (l : n ≤ m) : PrV H m a r := let ⟨p, x, y, z⟩ := h; ⟨p, x, y.mono l, z⟩
theorem PrV.keep {H H' : Hp} {n : Nat} {p t : Addr} {r : Rat} (h : PrV H n t r) (pt : PotAt H p) (k : Keep p H H') : PrV H' n t r := let ⟨q, x, y⟩ := h; ⟨q, x.keep pt k, y⟩
/-- the same worth, and lowest terms: the same fraction -/
theorem low_is {n m : Nat} {t p : Int × Int} (ht : Sm n t) (hc : Int.gcd t.1 t.2 = 1) (hp : Sm m p) (e : vl t = vl p) : t = lo p.1 p.2 := by
  have h := lo_eq ht.ne hp.ne (vl_eq ht.pos hp.pos e)
  exact (lo_self ht.pos hc).symm.trans h
/-- -1, 0 or 1 -/
def cmpR (x y : Rat) : Int := if x < y then -1 else if y < x then 1 else 0
theorem cmpR_pos {x y : Rat} : 0 < cmpR x y ↔ y < x := by
  unfold cmpR
  split
  · constructor
    · omega
    · intro h; grind
  · split <;> simp_all
theorem cmpR_np {x y : Rat} : cmpR x y ≤ 0 ↔ x ≤ y := by
  have := cmpR_pos (x := x) (y := y)
  constructor
  · intro h
    have : ¬ y < x := fun z => by have := this.mpr z; omega
    grind
  · intro h
    have : ¬ 0 < cmpR x y := fun z => by have := this.mp z; grind
    omega
theorem cmpR_nn {x y : Rat} : 0 ≤ cmpR x y ↔ y ≤ x := by
  unfold cmpR
  split
  · constructor
    · intro h; omega
    · intro h; grind
  · split
    · constructor
      · intro h; grind
      · intro h; omega
    · constructor
      · intro h; grind
      · intro h; omega
/-- the fields of a Span -/
def sf (l h : Addr) : List (Str × V) := [("low", .ref l), ("high", .ref h)]
theorem ne_lh : ¬ (("low" : Str) = "high") := by decide +kernel
theorem sf_put (l h : Addr) : putF "high" (.ref h) (putF "low" (.ref l) []) = sf l h := by
  show (if ("low" : Str) = "high" then _ else (("low" : Str), V.ref l) :: putF "high" (.ref h) []) = sf l h
  rw [if_neg ne_lh]
  rfl
theorem sf_low (l h : Addr) : (sf l h).lookup ("low" : Str) = some (.ref l) := by simp [sf, List.lookup]
theorem sf_high (l h : Addr) : (sf l h).lookup ("high" : Str) = some (.ref h) := by
  have : (("high" : Str) == "low") = false := by decide +kernel
  simp [sf, List.lookup, this]
theorem sf_no (l h : Addr) {m : Str} (h1 : (m == "low") = false) (h2 : (m == "high") = false) : (sf l h).lookup m = none := by
  simp [sf, List.lookup, h1, h2]
/-- a Span from x to y -/
def SpV (S C : Addr) (H : Hp) (n : Nat) (s : Addr) (x y : Rat) : Prop := ∃ dx l h, H s = some (.ins S dx (sf l h)) ∧ RatV C H n l x ∧ RatV C H n h y
theorem SpV.ex {S C : Addr} {H H' : Hp} {n : Nat} {s : Addr} {x y : Rat} (r : SpV S C H n s x y) (e : Ex H H') : SpV S C H' n s x y := let ⟨dx, l, h, a, b, c⟩ := r; ⟨dx, l, h, e _ _ a, b.ex e, c.ex e⟩
theorem SpV.mono {S C : Addr} {H : Hp} {n m : Nat} {s : Addr} {x y : Rat} (r : SpV S C H n s x y) (e : n ≤ m) : SpV S C H m s x y := let ⟨dx, l, h, a, b, c⟩ := r; ⟨dx, l, h, a, b.mono e, c.mono e⟩
/-- a loop over a tuple, whatever its turn asks -/
theorem it_tup {K : PySem.W.Frag} {a : Addr} {xs : List V} {B : (Hp → Prop) → V → Hp → Prop} {H0 : Hp} {Qd : Hp → Prop} (Pv : Nat → Hp → Prop) (h0 : Pv 0 H0) (hl : ∀ i H, i ≤ xs.length → Pv i H → SqT K H a xs)
    (hs : ∀ i x H, xs[i]? = some x → Pv i H → B (Pv (i + 1)) x H) (hd : ∀ H, Pv xs.length H → Qd H) :
    ∃ W : Nat → Nat → Hp → Prop, (∃ m, W 0 m H0) ∧ ∀ i m H, W i m H →
      ((Itt K a).stop i H ∧ Qd H) ∨ ((Itt K a).go i H ∧ ∃ Nx : Hp → Prop, (∀ H', Nx H' → ∃ m', m' < m ∧ W (i + 1) m' H') ∧ ∀ x H', (Itt K a).yld i H x H' → B Nx x H') := by
  refine ⟨fun i m H => m = xs.length - i ∧ i ≤ xs.length ∧ Pv i H, ⟨xs.length, by simp, Nat.zero_le _, h0⟩, ?_⟩
  rintro i m H ⟨rfl, hi, p⟩
  have q := hl i H hi p
  by_cases hlt : i < xs.length
  · refine .inr ⟨⟨xs, xs[i], q, by simp [hlt]⟩, Pv (i + 1), fun H' p' => ⟨xs.length - (i + 1), by omega, rfl, hlt, p'⟩, fun x H' y => ?_⟩
    obtain ⟨e, y⟩ := y
    subst e
    exact hs i x _ (y xs q) p
  · have e : i = xs.length := by omega
    subst e
    exact .inl ⟨⟨xs, q, Nat.le_refl _⟩, hd H p⟩
/-- the Ratios at these addresses are worth these -/
def Fit (C : Addr) (H : Hp) : List Addr → List Rat → Prop
  | [], [] => True
  | a :: as, r :: rs => RatV C H 2001 a r ∧ Fit C H as rs
  | _, _ => False
theorem Fit.len {C : Addr} {H : Hp} : ∀ {as : List Addr} {rs : List Rat}, Fit C H as rs → as.length = rs.length
  | [], [], _ => rfl
  | _ :: _, _ :: _, h => congrArg (· + 1) (Fit.len h.2)
  | [], _ :: _, h => h.elim
  | _ :: _, [], h => h.elim
theorem Fit.app {C : Addr} {H : Hp} {y : Addr} {r : Rat} (hy : RatV C H 2001 y r) : ∀ {as : List Addr} {rs : List Rat}, Fit C H as rs → Fit C H (as ++ [y]) (rs ++ [r])
  | [], [], _ => ⟨hy, trivial⟩
  | _ :: _, _ :: _, h => ⟨h.1, Fit.app hy h.2⟩
  | [], _ :: _, h => h.elim
  | _ :: _, [], h => h.elim
theorem RatV.keep {C D : Addr} {H H' : Hp} {n : Nat} {a : Addr} {r : Rat} {xs : List V} (h : RatV C H n a r) (hD : H D = some (.lst xs)) (k : Keep D H H') : RatV C H' n a r := by
  obtain ⟨p, ⟨dx, z⟩, y⟩ := h
  refine ⟨p, ⟨dx, k _ _ z ?_⟩, y⟩
  intro e
  rw [e, hD] at z
  cases z
theorem Fit.keep {C D : Addr} {H H' : Hp} {xs : List V} (hD : H D = some (.lst xs)) (k : Keep D H H') : ∀ {as : List Addr} {rs : List Rat}, Fit C H as rs → Fit C H' as rs
  | [], [], _ => trivial
  | _ :: _, _ :: _, h => ⟨h.1.keep hD k, Fit.keep hD k h.2⟩
  | [], _ :: _, h => h.elim
  | _ :: _, [], h => h.elim
theorem Fit.ex {C : Addr} {H H' : Hp} (k : Ex H H') : ∀ {as : List Addr} {rs : List Rat}, Fit C H as rs → Fit C H' as rs
  | [], [], _ => trivial
  | _ :: _, _ :: _, h => ⟨h.1.ex k, Fit.ex k h.2⟩
  | [], _ :: _, h => h.elim
  | _ :: _, [], h => h.elim
def Els (C : Addr) (H : Hp) (D : Addr) (rs : List Rat) : Prop := ∃ ys : List Addr, H D = some (.lst (ys.map V.ref)) ∧ Fit C H ys rs
theorem Keep.exn {D : Addr} {H H' : Hp} (k : Keep D H H') (n : H D = none) : Ex H H' := fun b o e => k b o e (ne_of_none e n)
/-- one more of them -/
theorem Els.app {C D : Addr} {H H1 : Hp} {rs : List Rat} {y : Addr} {r : Rat} (h : Els C H D rs) (e : Ex H H1) (hy : RatV C H1 2001 y r) (l : rs.length < 4) :
    ∃ acc, H1 D = some (.lst acc) ∧ acc.length < sizeLine ∧ Els C (upd H1 D (.lst (acc ++ [.ref y]))) D (rs ++ [r]) := by
  obtain ⟨ys, h1, h2⟩ := h
  refine ⟨ys.map V.ref, e _ _ h1, ?_, ys ++ [y], ?_, ?_⟩
  · rw [List.length_map, h2.len, sizeLine_eq]
    omega
  · rw [upd_same, List.map_append]
    rfl
  · exact ((h2.ex e).app hy).keep (e _ _ h1) Keep.upd
/-- [e for x in (a, b) for y in (c, d)] -/
theorem lc22 {K : PySem.W.Frag} {C : Addr} {s o : V} {wi wi1 : TI} {te : TE} {f : Rat → Rat → Rat} {G : Rat → Prop} {H : Hp} {Q : VK} {a b c d : Addr} {ra rb rc rd : Rat}
    (ha : RatV C H 1000 a ra) (hb : RatV C H 1000 b rb) (hc : RatV C H 1000 c rc) (hd : RatV C H 1000 d rd) (gc : G rc) (gd : G rd)
    (hw : ∀ R, (∀ t H', Ex H H' → H' t = some (.tup [.ref a, .ref b]) → R (Itt K t) H') → wi [some s, some o, none, none] H R)
    (hw1 : ∀ u H2 R, Ex H H2 → (∀ t H', Ex H2 H' → H' t = some (.tup [.ref c, .ref d]) → R (Itt K t) H') → wi1 [some s, some o, some u, none] H2 R)
    (ht : ∀ u v ru rv H2 R, RatV C H2 1000 u ru → RatV C H2 1000 v rv → G rv → (∀ y H', Ex H2 H' → H2 y = none → RatV C H' 2001 y (f ru rv) → R (.ref y) H') → te [some s, some o, some (.ref u), some (.ref v)] H2 R)
    (k : ∀ L H' ys, Ex H H' → H' L = some (.lst (ys.map V.ref)) → Fit C H' ys [f ra rc, f ra rd, f rb rc, f rb rd] → Q (.ref L) H') :
    tLc2 wi (gName 2) tYes wi1 (gName 3) tYes te [2, 3] [3] [some s, some o, none, none] H Q := by
  refine hw _ fun t H1 e1 h1 => ?_
  intro D hD
  have tD : t ≠ D := ne_of_none h1 hD
  refine it_tup (xs := [.ref a, .ref b]) (fun i H' => Keep D H1 H' ∧ Els C H' D (([f ra rc, f ra rd, f rb rc, f rb rd] : List Rat).take (2 * i))) ⟨Keep.upd, [], upd_same, trivial⟩ (fun i H' _ p => SqT.of (p.1 _ _ h1 tD)) (fun i x H' hx p => ?_) (fun H' p => ?_)
  · obtain ⟨kp, els⟩ := p
    obtain ⟨u, ru, rfl, hu, i2, e2⟩ : ∃ u ru, x = V.ref u ∧ RatV C H 1000 u ru ∧ i < 2 ∧ ([f ra rc, f ra rd, f rb rc, f rb rd] : List Rat).take (2 * i + 1) = ([f ra rc, f ra rd, f rb rc, f rb rd] : List Rat).take (2 * i) ++ [f ru rc] ∧
        ([f ra rc, f ra rd, f rb rc, f rb rd] : List Rat).take (2 * (i + 1)) = ([f ra rc, f ra rd, f rb rc, f rb rd] : List Rat).take (2 * i + 1) ++ [f ru rd] := by
      match i, hx with
      | 0, z => cases z; exact ⟨a, ra, rfl, ha, by decide, rfl, rfl⟩
      | 1, z => cases z; exact ⟨b, rb, rfl, hb, by decide, rfl, rfl⟩
      | n + 2, z => simp at z
    refine ⟨rfl, hw1 _ _ _ (e1.trans (kp.exn hD)) fun t2 H4 e4 h4 => ?_⟩
    obtain ⟨ys, hy1, hy2⟩ := els
    have t2D : t2 ≠ D := ne_of h4 (e4 _ _ hy1) (by intro z; cases z)
    refine it_tup (xs := [.ref c, .ref d]) (fun j H' => Keep D H4 H' ∧ Els C H' D (([f ra rc, f ra rd, f rb rc, f rb rd] : List Rat).take (2 * i + j))) ⟨Keep.refl, ys, e4 _ _ hy1, hy2.ex e4⟩ (fun j H' _ p => SqT.of (p.1 _ _ h4 t2D)) (fun j x H5 hx p => ?_) (fun H5 p => ?_)
    · obtain ⟨kp5, els5⟩ := p
      have kk : Keep D H1 H5 := (kp.trans (Keep.of e4)).trans kp5
      have E5 : Ex H H5 := e1.trans (kk.exn hD)
      obtain ⟨v, rv, rfl, hv, gv, j2, ej⟩ : ∃ v rv, x = V.ref v ∧ RatV C H 1000 v rv ∧ G rv ∧ j < 2 ∧ ([f ra rc, f ra rd, f rb rc, f rb rd] : List Rat).take (2 * i + (j + 1)) = ([f ra rc, f ra rd, f rb rc, f rb rd] : List Rat).take (2 * i + j) ++ [f ru rv] := by
        match j, hx with
        | 0, z => cases z; exact ⟨c, rc, rfl, hc, gc, by decide, e2.1⟩
        | 1, z => cases z; exact ⟨d, rd, rfl, hd, gd, by decide, e2.2⟩
        | n + 2, z => simp at z
      refine ⟨rfl, ht u v ru rv H5 _ (hu.ex E5) (hv.ex E5) gv fun y H6 e6 ny ry => ?_⟩
      obtain ⟨acc, q1, q2, q3⟩ := els5.app e6 ry (by rw [List.length_take]; show min (2 * i + j) 4 < 4; omega)
      refine ⟨acc, q1, q2, (kp5.trans (Keep.of e6)).trans Keep.upd, ?_⟩
      rw [ej]
      exact q3
    · exact ⟨(kp.trans (Keep.of e4)).trans p.1, p.2⟩
  · obtain ⟨kp, ys, h3, h4⟩ := p
    exact k D H' ys (e1.trans (kp.exn hD)) h3 h4
end Fc
set_option Elab.async false
set_option linter.all false
set_option maxRecDepth 100000
set_option maxHeartbeats 4000000
set_option exponentiation.threshold 100000
namespace Fc
open PySem PySem.Spec PyProof.Rows L2
/-! ### the text -/
def top (i : Nat) : Stmt := PySem.Challenge.pw_fewcarry_k05_span_arithmetic.main.body.getD i (.Pass ⟨0, 0, 0, 0⟩)
abbrev S_init : Stmt := inClass (top 17) 0
abbrev N_init : List Str := ["self", "top", "bottom", "divisor"]
theorem sc_init : FnScope N_init ["self", "top", "bottom"] (defScope S_init) := ⟨rfl, rfl, rfl, by decide +kernel, rfl, by decide +kernel, by decide +kernel⟩
abbrev S_add : Stmt := inClass (top 17) 2
abbrev N_add : List Str := ["self", "other", "top"]
theorem sc_add : FnScope N_add ["self", "other"] (defScope S_add) := ⟨rfl, rfl, rfl, by decide +kernel, rfl, by decide +kernel, by decide +kernel⟩
abbrev S_sub : Stmt := inClass (top 17) 3
abbrev N_sub : List Str := ["self", "other", "top"]
theorem sc_sub : FnScope N_sub ["self", "other"] (defScope S_sub) := ⟨rfl, rfl, rfl, by decide +kernel, rfl, by decide +kernel, by decide +kernel⟩
abbrev S_mul : Stmt := inClass (top 17) 4
abbrev N_mul : List Str := ["self", "other"]
theorem sc_mul : FnScope N_mul ["self", "other"] (defScope S_mul) := ⟨rfl, rfl, rfl, by decide +kernel, rfl, by decide +kernel, by decide +kernel⟩
abbrev S_neg : Stmt := inClass (top 17) 6
abbrev N_neg : List Str := ["self"]
theorem sc_neg : FnScope N_neg ["self"] (defScope S_neg) := ⟨rfl, rfl, rfl, by decide +kernel, rfl, by decide +kernel, by decide +kernel⟩
abbrev S_divided : Stmt := inClass (top 17) 9
abbrev N_divided : List Str := ["self", "other"]
theorem sc_divided : FnScope N_divided ["self", "other"] (defScope S_divided) := ⟨rfl, rfl, rfl, by decide +kernel, rfl, by decide +kernel, by decide +kernel⟩
abbrev S_compare : Stmt := inClass (top 17) 11
abbrev N_compare : List Str := ["self", "other", "left", "right"]
theorem sc_compare : FnScope N_compare ["self", "other"] (defScope S_compare) := ⟨rfl, rfl, rfl, by decide +kernel, rfl, by decide +kernel, by decide +kernel⟩
abbrev S_sinit : Stmt := inClass (top 19) 0
abbrev N_sinit : List Str := ["self", "low", "high"]
theorem sc_sinit : FnScope N_sinit ["self", "low", "high"] (defScope S_sinit) := ⟨rfl, rfl, rfl, by decide +kernel, rfl, by decide +kernel, by decide +kernel⟩
abbrev S_sadd : Stmt := inClass (top 19) 2
abbrev N_sadd : List Str := ["self", "other"]
theorem sc_sadd : FnScope N_sadd ["self", "other"] (defScope S_sadd) := ⟨rfl, rfl, rfl, by decide +kernel, rfl, by decide +kernel, by decide +kernel⟩
abbrev S_ssub : Stmt := inClass (top 19) 3
abbrev N_ssub : List Str := ["self", "other"]
theorem sc_ssub : FnScope N_ssub ["self", "other"] (defScope S_ssub) := ⟨rfl, rfl, rfl, by decide +kernel, rfl, by decide +kernel, by decide +kernel⟩
abbrev S_smul : Stmt := inClass (top 19) 4
abbrev N_smul : List Str := ["self", "other", "x", "y"]
theorem sc_smul : FnScope N_smul ["self", "other"] (defScope S_smul) := ⟨rfl, rfl, rfl, by decide +kernel, rfl, by decide +kernel, by decide +kernel⟩
abbrev S_sneg : Stmt := inClass (top 19) 5
abbrev N_sneg : List Str := ["self"]
theorem sc_sneg : FnScope N_sneg ["self"] (defScope S_sneg) := ⟨rfl, rfl, rfl, by decide +kernel, rfl, by decide +kernel, by decide +kernel⟩
abbrev S_scontains : Stmt := inClass (top 19) 8
abbrev N_scontains : List Str := ["self", "x"]
theorem sc_scontains : FnScope N_scontains ["self", "x"] (defScope S_scontains) := ⟨rfl, rfl, rfl, by decide +kernel, rfl, by decide +kernel, by decide +kernel⟩
abbrev S_sdivided : Stmt := inClass (top 19) 9
abbrev N_sdivided : List Str := ["self", "other", "x", "y"]
theorem sc_sdivided : FnScope N_sdivided ["self", "other"] (defScope S_sdivided) := ⟨rfl, rfl, rfl, by decide +kernel, rfl, by decide +kernel, by decide +kernel⟩
abbrev S_sleast : Stmt := inClass (top 19) 10
abbrev N_sleast : List Str := ["self", "other"]
theorem sc_sleast : FnScope N_sleast ["self", "other"] (defScope S_sleast) := ⟨rfl, rfl, rfl, by decide +kernel, rfl, by decide +kernel, by decide +kernel⟩
abbrev S_sgreatest : Stmt := inClass (top 19) 11
abbrev N_sgreatest : List Str := ["self", "other"]
theorem sc_sgreatest : FnScope N_sgreatest ["self", "other"] (defScope S_sgreatest) := ⟨rfl, rfl, rfl, by decide +kernel, rfl, by decide +kernel, by decide +kernel⟩
abbrev S_lesser : Stmt := top 10
abbrev N_lesser : List Str := ["a", "b"]
theorem sc_lesser : FnScope N_lesser ["a", "b"] (defScope S_lesser) := ⟨rfl, rfl, rfl, by decide +kernel, rfl, by decide +kernel, by decide +kernel⟩
abbrev S_greater : Stmt := top 11
abbrev N_greater : List Str := ["a", "b"]
theorem sc_greater : FnScope N_greater ["a", "b"] (defScope S_greater) := ⟨rfl, rfl, rfl, by decide +kernel, rfl, by decide +kernel, by decide +kernel⟩
abbrev S_around : Stmt := top 20
abbrev N_around : List Str := ["ratios", "low", "high", "ratio"]
theorem sc_around : FnScope N_around ["ratios"] (defScope S_around) := ⟨rfl, rfl, rfl, by decide +kernel, rfl, by decide +kernel, by decide +kernel⟩
abbrev S_start : Stmt := top 22
abbrev N_start : List Str := ["script", "cell"]
theorem sc_start : FnScope N_start ["script"] (defScope S_start) := ⟨rfl, rfl, rfl, by decide +kernel, rfl, by decide +kernel, by decide +kernel⟩
abbrev S_digit : Stmt := top 23
abbrev N_digit : List Str := ["pot", "many", "digit"]
theorem sc_digit : FnScope N_digit ["pot", "many"] (defScope S_digit) := ⟨rfl, rfl, rfl, by decide +kernel, rfl, by decide +kernel, by decide +kernel⟩
abbrev S_fraction : Stmt := top 24
abbrev N_fraction : List Str := ["pot", "kind", "top"]
theorem sc_fraction : FnScope N_fraction ["pot"] (defScope S_fraction) := ⟨rfl, rfl, rfl, by decide +kernel, rfl, by decide +kernel, by decide +kernel⟩
abbrev S_less : Stmt := top 25
abbrev N_less : List Str := ["p", "q"]
theorem sc_less : FnScope N_less ["p", "q"] (defScope S_less) := ⟨rfl, rfl, rfl, by decide +kernel, rfl, by decide +kernel, by decide +kernel⟩
abbrev S_plus : Stmt := top 26
abbrev N_plus : List Str := ["p", "q"]
theorem sc_plus : FnScope N_plus ["p", "q"] (defScope S_plus) := ⟨rfl, rfl, rfl, by decide +kernel, rfl, by decide +kernel, by decide +kernel⟩
abbrev S_ends : Stmt := top 27
abbrev N_ends : List Str := ["pot", "shift", "kind", "p", "q"]
theorem sc_ends : FnScope N_ends ["pot", "shift"] (defScope S_ends) := ⟨rfl, rfl, rfl, by decide +kernel, rfl, by decide +kernel, by decide +kernel⟩
abbrev S_between : Stmt := top 28
abbrev N_between : List Str := ["pot", "s", "sixths", "way"]
theorem sc_between : FnScope N_between ["pot", "s"] (defScope S_between) := ⟨rfl, rfl, rfl, by decide +kernel, rfl, by decide +kernel, by decide +kernel⟩
abbrev S_own : Stmt := top 29
abbrev N_own : List Str := ["op", "p", "q"]
theorem sc_own : FnScope N_own ["op", "p", "q"] (defScope S_own) := ⟨rfl, rfl, rfl, by decide +kernel, rfl, by decide +kernel, by decide +kernel⟩
abbrev S_asked : Stmt := top 30
abbrev N_asked : List Str := ["op", "a", "b"]
theorem sc_asked : FnScope N_asked ["op", "a", "b"] (defScope S_asked) := ⟨rfl, rfl, rfl, by decide +kernel, rfl, by decide +kernel, by decide +kernel⟩
abbrev S_equals : Stmt := top 31
abbrev N_equals : List Str := ["told", "p", "u", "v", "k", "rest"]
theorem sc_equals : FnScope N_equals ["told", "p"] (defScope S_equals) := ⟨rfl, rfl, rfl, by decide +kernel, rfl, by decide +kernel, by decide +kernel⟩
abbrev S_isspan : Stmt := top 32
abbrev N_isspan : List Str := ["told", "low", "high"]
theorem sc_isspan : FnScope N_isspan ["told", "low", "high"] (defScope S_isspan) := ⟨rfl, rfl, rfl, by decide +kernel, rfl, by decide +kernel, by decide +kernel⟩
abbrev S_fits : Stmt := top 33
abbrev N_fits : List Str := ["told", "op", "s", "t", "x", "y", "corners", "found", "two", "low", "high", "p"]
theorem sc_fits : FnScope N_fits ["told", "op", "s", "t", "x", "y"] (defScope S_fits) := ⟨rfl, rfl, rfl, by decide +kernel, rfl, by decide +kernel, by decide +kernel⟩
abbrev S_noquo : Stmt := top 34
abbrev N_noquo : List Str := ["a", "b", "e"]
theorem sc_noquo : FnScope N_noquo ["a", "b"] (defScope S_noquo) := ⟨rfl, rfl, rfl, by decide +kernel, rfl, by decide +kernel, by decide +kernel⟩
abbrev S_all : Stmt := top 35
abbrev N_all : List Str := ["a", "b", "s", "t", "x", "y", "op"]
theorem sc_all : FnScope N_all ["a", "b", "s", "t", "x", "y"] (defScope S_all) := ⟨rfl, rfl, rfl, by decide +kernel, rfl, by decide +kernel, by decide +kernel⟩
abbrev S_law : Stmt := top 36
abbrev N_law : List Str := ["script", "pot", "s", "t", "x", "y", "z", "a", "b"]
theorem sc_law : FnScope N_law ["script"] (defScope S_law) := ⟨rfl, rfl, rfl, by decide +kernel, rfl, by decide +kernel, by decide +kernel⟩
structure Ad where
  C : Addr
  f_init : Addr
  d_init : FuncData
  Z : Addr
  S : Addr
  CE : Addr
  Ap : Addr
  f_add : Addr
  d_add : FuncData
  f_sub : Addr
  d_sub : FuncData
  f_mul : Addr
  d_mul : FuncData
  f_neg : Addr
  d_neg : FuncData
  f_divided : Addr
  d_divided : FuncData
  f_compare : Addr
  d_compare : FuncData
  f_sinit : Addr
  d_sinit : FuncData
  f_sadd : Addr
  d_sadd : FuncData
  f_ssub : Addr
  d_ssub : FuncData
  f_smul : Addr
  d_smul : FuncData
  f_sneg : Addr
  d_sneg : FuncData
  f_scontains : Addr
  d_scontains : FuncData
  f_sdivided : Addr
  d_sdivided : FuncData
  f_sleast : Addr
  d_sleast : FuncData
  f_sgreatest : Addr
  d_sgreatest : FuncData
  f_lesser : Addr
  d_lesser : FuncData
  f_greater : Addr
  d_greater : FuncData
  f_around : Addr
  d_around : FuncData
  f_start : Addr
  d_start : FuncData
  f_digit : Addr
  d_digit : FuncData
  f_fraction : Addr
  d_fraction : FuncData
  f_less : Addr
  d_less : FuncData
  f_plus : Addr
  d_plus : FuncData
  f_ends : Addr
  d_ends : FuncData
  f_between : Addr
  d_between : FuncData
  f_own : Addr
  d_own : FuncData
  f_asked : Addr
  d_asked : FuncData
  f_equals : Addr
  d_equals : FuncData
  f_isspan : Addr
  d_isspan : FuncData
  f_fits : Addr
  d_fits : FuncData
  f_noquo : Addr
  d_noquo : FuncData
  f_all : Addr
  d_all : FuncData
  f_law : Addr
  d_law : FuncData
structure Txt (K : PySem.W.Frag) (mg : Str → Option Value) (A : Ad) : Prop where
  hn : PySem.W.specialIn K (.builtin "object.__class__") "__get__" = some (some (.builtin "getset_descriptor.__get__"))
  htk : PySem.W.takesIn K (.builtin "object.__class__") = some true
  cl : Cls K A.C
  nT : NoAttr K A.C "top"
  nB : NoAttr K A.C "bottom"
  mkC : Mk K A.C A.f_init
  ha : PySem.W.findIn K (.ref A.C) "__class__" = some (some (.builtin "object.__class__"))
  hm : PySem.W.mroIn K A.C (.type "object") = some true
  F_init : FunD K "__init__" "Ratio.__init__" (defArgs S_init) (defBody S_init) (defScope S_init) [.int 1] [] A.f_init A.d_init
  b_init3 : Binds K A.d_init ["self", "top", "bottom"] []
  b_init2 : ∃ ds, Vals [V.int 1] ds ∧ Binds K A.d_init ["self", "top", "bottom"] ds
  g_Ratio : mg "Ratio" = some (.ref A.C)
  g_gcd : mg "gcd" = some (.builtin "math.gcd")
  sf : PySem.W.selfFirst K A.C = true
  g_Z : mg "ZeroBottom" = some (.ref A.Z)
  xZ : PySem.W.excIn K A.Z [.type "ValueError", .type "Exception", .type "BaseException", .type "object"] "ValueError.__new__" = true
  kZ : PySem.W.keepIn K (.ref A.Z) = true
  bZ : PySem.W.subIn K (.ref A.Z) (.type "BaseException") = some true
  tZ : PySem.W.typeIn K (.ref A.Z) = some (.type "type")
  cS : Cls K A.S
  nL : NoAttr K A.S "low"
  nH : NoAttr K A.S "high"
  mkS : Mk K A.S A.f_sinit
  sfS : PySem.W.selfFirst K A.S = true
  haS : PySem.W.findIn K (.ref A.S) "__class__" = some (some (.builtin "object.__class__"))
  hmS : PySem.W.mroIn K A.S (.type "object") = some true
  g_Span : mg "Span" = some (.ref A.S)
  g_CE : mg "CarryError" = some (.ref A.CE)
  eZ : PySem.W.exmOne K (.ref A.Z) (.ref A.CE) = some true
  XZ : ExcC K A.Z
  zv : PySem.W.kitOne K (.ref A.Z) (.type "ValueError") = some true
  zo : PySem.W.kitOne K (.ref A.Z) (.ref A.Ap) = some false
  g_Ap : mg "Apart" = some (.ref A.Ap)
  n_len : mg "len" = none
  n_abs : mg "abs" = none
  n_int : mg "int" = none
  n_bool : mg "bool" = none
  n_isinstance : mg "isinstance" = none
  n_range : mg "range" = none
  n_ValueError : mg "ValueError" = none
  F_add : Fun K "__add__" "Ratio.__add__" S_add A.f_add A.d_add
  b_add : Binds K A.d_add ["self", "other"] []
  m_add : Meth K A.C "__add__" A.f_add
  F_sub : Fun K "__sub__" "Ratio.__sub__" S_sub A.f_sub A.d_sub
  b_sub : Binds K A.d_sub ["self", "other"] []
  m_sub : Meth K A.C "__sub__" A.f_sub
  F_mul : Fun K "__mul__" "Ratio.__mul__" S_mul A.f_mul A.d_mul
  b_mul : Binds K A.d_mul ["self", "other"] []
  m_mul : Meth K A.C "__mul__" A.f_mul
  F_neg : Fun K "__neg__" "Ratio.__neg__" S_neg A.f_neg A.d_neg
  b_neg : Binds K A.d_neg ["self"] []
  m_neg : Meth K A.C "__neg__" A.f_neg
  F_divided : Fun K "divided" "Ratio.divided" S_divided A.f_divided A.d_divided
  b_divided : Binds K A.d_divided ["self", "other"] []
  m_divided : Meth K A.C "divided" A.f_divided
  F_compare : Fun K "compare" "Ratio.compare" S_compare A.f_compare A.d_compare
  b_compare : Binds K A.d_compare ["self", "other"] []
  m_compare : Meth K A.C "compare" A.f_compare
  F_sinit : Fun K "__init__" "Span.__init__" S_sinit A.f_sinit A.d_sinit
  b_sinit : Binds K A.d_sinit ["self", "low", "high"] []
  m_sinit : Meth K A.S "__init__" A.f_sinit
  F_sadd : Fun K "__add__" "Span.__add__" S_sadd A.f_sadd A.d_sadd
  b_sadd : Binds K A.d_sadd ["self", "other"] []
  m_sadd : Meth K A.S "__add__" A.f_sadd
  F_ssub : Fun K "__sub__" "Span.__sub__" S_ssub A.f_ssub A.d_ssub
  b_ssub : Binds K A.d_ssub ["self", "other"] []
  m_ssub : Meth K A.S "__sub__" A.f_ssub
  F_smul : Fun K "__mul__" "Span.__mul__" S_smul A.f_smul A.d_smul
  b_smul : Binds K A.d_smul ["self", "other"] []
  m_smul : Meth K A.S "__mul__" A.f_smul
  F_sneg : Fun K "__neg__" "Span.__neg__" S_sneg A.f_sneg A.d_sneg
  b_sneg : Binds K A.d_sneg ["self"] []
  m_sneg : Meth K A.S "__neg__" A.f_sneg
  F_scontains : Fun K "__contains__" "Span.__contains__" S_scontains A.f_scontains A.d_scontains
  b_scontains : Binds K A.d_scontains ["self", "x"] []
  m_scontains : Meth K A.S "__contains__" A.f_scontains
  F_sdivided : Fun K "divided" "Span.divided" S_sdivided A.f_sdivided A.d_sdivided
  b_sdivided : Binds K A.d_sdivided ["self", "other"] []
  m_sdivided : Meth K A.S "divided" A.f_sdivided
  F_sleast : Fun K "least" "Span.least" S_sleast A.f_sleast A.d_sleast
  b_sleast : Binds K A.d_sleast ["self", "other"] []
  m_sleast : Meth K A.S "least" A.f_sleast
  F_sgreatest : Fun K "greatest" "Span.greatest" S_sgreatest A.f_sgreatest A.d_sgreatest
  b_sgreatest : Binds K A.d_sgreatest ["self", "other"] []
  m_sgreatest : Meth K A.S "greatest" A.f_sgreatest
  F_lesser : Fun K "lesser" "lesser" S_lesser A.f_lesser A.d_lesser
  b_lesser : Binds K A.d_lesser ["a", "b"] []
  g_lesser : mg "lesser" = some (.ref A.f_lesser)
  F_greater : Fun K "greater" "greater" S_greater A.f_greater A.d_greater
  b_greater : Binds K A.d_greater ["a", "b"] []
  g_greater : mg "greater" = some (.ref A.f_greater)
  F_around : Fun K "_around" "_around" S_around A.f_around A.d_around
  b_around : Binds K A.d_around ["ratios"] []
  g_around : mg "_around" = some (.ref A.f_around)
  F_start : Fun K "_law_start" "_law_start" S_start A.f_start A.d_start
  b_start : Binds K A.d_start ["script"] []
  g_start : mg "_law_start" = some (.ref A.f_start)
  F_digit : Fun K "_law_digit" "_law_digit" S_digit A.f_digit A.d_digit
  b_digit : Binds K A.d_digit ["pot", "many"] []
  g_digit : mg "_law_digit" = some (.ref A.f_digit)
  F_fraction : Fun K "_law_fraction" "_law_fraction" S_fraction A.f_fraction A.d_fraction
  b_fraction : Binds K A.d_fraction ["pot"] []
  g_fraction : mg "_law_fraction" = some (.ref A.f_fraction)
  F_less : Fun K "_law_less" "_law_less" S_less A.f_less A.d_less
  b_less : Binds K A.d_less ["p", "q"] []
  g_less : mg "_law_less" = some (.ref A.f_less)
  F_plus : Fun K "_law_plus" "_law_plus" S_plus A.f_plus A.d_plus
  b_plus : Binds K A.d_plus ["p", "q"] []
  g_plus : mg "_law_plus" = some (.ref A.f_plus)
  F_ends : Fun K "_law_ends" "_law_ends" S_ends A.f_ends A.d_ends
  b_ends : Binds K A.d_ends ["pot", "shift"] []
  g_ends : mg "_law_ends" = some (.ref A.f_ends)
  F_between : Fun K "_law_between" "_law_between" S_between A.f_between A.d_between
  b_between : Binds K A.d_between ["pot", "s"] []
  g_between : mg "_law_between" = some (.ref A.f_between)
  F_own : Fun K "_law_own" "_law_own" S_own A.f_own A.d_own
  b_own : Binds K A.d_own ["op", "p", "q"] []
  g_own : mg "_law_own" = some (.ref A.f_own)
  F_asked : Fun K "_law_asked" "_law_asked" S_asked A.f_asked A.d_asked
  b_asked : Binds K A.d_asked ["op", "a", "b"] []
  g_asked : mg "_law_asked" = some (.ref A.f_asked)
  F_equals : Fun K "_law_equals" "_law_equals" S_equals A.f_equals A.d_equals
  b_equals : Binds K A.d_equals ["told", "p"] []
  g_equals : mg "_law_equals" = some (.ref A.f_equals)
  F_isspan : Fun K "_law_is_span" "_law_is_span" S_isspan A.f_isspan A.d_isspan
  b_isspan : Binds K A.d_isspan ["told", "low", "high"] []
  g_isspan : mg "_law_is_span" = some (.ref A.f_isspan)
  F_fits : Fun K "_law_fits" "_law_fits" S_fits A.f_fits A.d_fits
  b_fits : Binds K A.d_fits ["told", "op", "s", "t", "x", "y"] []
  g_fits : mg "_law_fits" = some (.ref A.f_fits)
  F_noquo : Fun K "_law_no_quotient" "_law_no_quotient" S_noquo A.f_noquo A.d_noquo
  b_noquo : Binds K A.d_noquo ["a", "b"] []
  g_noquo : mg "_law_no_quotient" = some (.ref A.f_noquo)
  F_all : Fun K "_law_all" "_law_all" S_all A.f_all A.d_all
  b_all : Binds K A.d_all ["a", "b", "s", "t", "x", "y"] []
  g_all : mg "_law_all" = some (.ref A.f_all)
  F_law : Fun K "law" "law" S_law A.f_law A.d_law
  b_law : Binds K A.d_law ["script"] []
  g_law : mg "law" = some (.ref A.f_law)
section
variable {P : Program} {w : World} {K : PySem.W.Frag} {mg : Str → Option Value} {base : Heap} {A : Ad}
/-! ### Ratio.__init__: raises for a bottom 0, else lowest terms -/
def spInit (A : Ad) : Sp := fun vs H Q E => ∃ (x dx : Addr) (t b : Int), vs = [.ref x, .int t, .int b] ∧ H x = some (.ins A.C dx []) ∧ (b = 0 → E (.ref A.Z) none H) ∧
  (b ≠ 0 → Bd 8900 b ∧ ∀ H', RatAt A.C H' x (lo t b) → (∀ c o, H c = some o → c ≠ x → H' c = some o) → Q .non H')
theorem ok_init (T : Txt K mg A) : FnOk P w K mg base (L2.CX P w) 1 A.f_init A.d_init ["self", "top", "bottom"] (spInit A) := by
  refine T.F_init.ok sc_init (fun vs H Q E h => ?_) (fun cdv Ar outer s H vs Q E hr h => ?_)
  · obtain ⟨x, dx, t, b, rfl, _⟩ := h
    rfl
  · obtain ⟨x, dx, t, b, rfl, hx, k0, k1⟩ := h
    refine ⟨_, (pss_cons (ps_if (pt_cmpR op_eq (pv 2) pe_int (nomark _))
      (pss_one (ps_raise rfl (takes_of rfl rfl rfl rfl) (pmk_bare PySem.F.excBase_ValueError T.xZ T.g_Z T.kZ (raises_own T.bZ T.tZ) rfl))) pss_nil)
      (pss_cons (ps_set (i := 3) sc_init.nd rfl (Or.inl rfl) (pe_callBfun cr_gcd rfl T.g_gcd (pa_cons (pv 1) (pa_cons (pv 2) pa_nil))))
      (pss_cons (ps_if (pt_cmpR op_lt (pv 2) pe_int (nomark _))
      (pss_one (ps_set (i := 3) sc_init.nd rfl (Or.inl rfl) (pe_un un_neg (pv 3)))) pss_nil)
      (pss_cons (ps_fld (pv 0) (pe_op op_fdv (pv 1) (pv 3)) rfl)
      (pss_one (ps_fld (pv 0) (pe_op op_fdv (pv 2) (pv 3)) rfl)))))), ?_⟩
    refine ⟨_, rfl, rfl, _, rfl, ?_⟩
    by_cases hb : b = 0
    · refine ite2 (fun _ => k0 hb) (fun n => absurd (by rw [hb] <;> rfl) n)
    refine ite2 (fun z => absurd (V.int.inj (of_decide_eq_true z)) hb) (fun _ => ?_)
    obtain ⟨bb, k⟩ := k1 hb
    have g := gcd_pos (t := t) hb
    have gn : ((Nat.gcd t.natAbs b.natAbs : Nat) : Int) = (Int.gcd t b : Int) := rfl
    have gb : Bd 8900 (Int.gcd t b : Int) := by
      refine bb.abs ?_
      have := Nat.le_of_dvd (by omega : 0 < b.natAbs) (Nat.gcd_dvd_right t.natAbs b.natAbs)
      show ((Nat.gcd t.natAbs b.natAbs : Nat) : Int).natAbs ≤ _
      omega
    have lp := lo_prog (t := t) hb
    refine ⟨_, rfl, _, rfl, t, b, rfl, _, rfl, _, _, rfl, rfl, _, rfl, ?_⟩
    have fin : ∀ d : Int, d ≠ 0 → Bd 8900 d → lo t b = (t.fdiv d, b.fdiv d) → ∀ H2 : Hp, H2 = upd (upd H x (.ins A.C dx (putF "top" (.int (t.fdiv d)) []))) x (.ins A.C dx (putF "bottom" (.int (b.fdiv d)) (putF "top" (.int (t.fdiv d)) []))) → Q .non H2 := by
      intro d d0 db e H2 e2
      refine k H2 ⟨dx, ?_⟩ fun c o hc hn => ?_
      · rw [e2, upd_same, rf_put, e]
      · rw [e2, upd_ne hn, upd_ne hn]; exact hc
    refine ite2 (fun c => ?_) (fun c => ?_)
    · have c' : b < 0 := of_decide_eq_true c
      rw [if_pos c'] at lp
      refine ⟨_, rfl, _, rfl, _, rfl, _, rfl, _, _, rfl, rfl, gb.neg.fdv (by omega), _, rfl, x, A.C, dx, _, rfl, hx, T.cl, T.nT, (by show 0 < 1000; decide), ?_⟩
      refine ⟨_, rfl, _, rfl, _, _, rfl, rfl, gb.neg.fdv (by omega), _, rfl, x, A.C, dx, _, rfl, upd_same, T.cl, T.nB, (by show 1 < 1000; decide), ?_⟩
      exact fin _ (by omega) gb.neg lp _ rfl
    · have c' : ¬ b < 0 := fun z => c (decide_eq_true z)
      rw [if_neg c'] at lp
      refine ⟨_, rfl, _, rfl, _, _, rfl, rfl, gb.fdv (by omega), _, rfl, x, A.C, dx, _, rfl, hx, T.cl, T.nT, (by show 0 < 1000; decide), ?_⟩
      refine ⟨_, rfl, _, rfl, _, _, rfl, rfl, gb.fdv (by omega), _, rfl, x, A.C, dx, _, rfl, upd_same, T.cl, T.nB, (by show 1 < 1000; decide), ?_⟩
      exact fin _ (by omega) gb lp _ rfl
/-- Ratio(t, b) read: for b not 0 -/
theorem rd_make {t b : Int} {H : Hp} {Q : VK} {E : XK} (hb : b ≠ 0) (bb : Bd 8900 b) (k : ∀ x H', Ex H H' → H x = none → RatAt A.C H' x (lo t b) → Q (.ref x) H') :
    ∀ x dx, H x = none → H dx = none → dx ≠ x → spInit A [.ref x, .int t, .int b] (upd (upd H dx (.own x)) x (.ins A.C dx [])) (fun v H2 => v = .non ∧ Q (.ref x) H2) E :=
  fun x dx nx nd ne => ⟨x, dx, t, b, rfl, upd_same, fun z => absurd z hb, fun _ => ⟨bb, fun H' r kp => ⟨rfl, k x H' (Same.made nx nd kp) nx r⟩⟩⟩
theorem ok_start (T : Txt K mg A) : FnOk P w K mg base CX0 1 A.f_start A.d_start ["script"] (spStart K) := by
  refine T.F_start.ok sc_start (fun vs H Q E h => ?_) (fun cdv Ar outer s H vs Q E hr h => ?_)
  · obtain ⟨a, ns, rfl, _⟩ := h
    rfl
  · obtain ⟨a, ns, rfl, hS, hl, k⟩ := h
    refine ⟨_, (pss_one (ps_ret (pe_lst (pa_cons (pe_lc (own := [("cell", 1)]) (g := gName 1) (tt := tYes) rfl sc_start.nd (pi_list (pe_slice sl_list (pv 0) po_none (po_some pe_int))) (blkOk_by (own := [("cell", 1)]) (N := N_start) (sc := defScope S_start) (by decide +kernel)) (fun _ _ _ _ _ => pg_name (i := 1) sc_start.nd rfl (Or.inl rfl)) (fun _ _ _ _ _ => pts_nil) (fun _ _ _ _ _ => (pe_callB call_abs (by rfl) T.n_abs (by decide +kernel) (pa_cons (pv 1) pa_nil)))) (pa_cons pe_int (pa_cons pe_int pa_nil)))))), ?_⟩
    obtain ⟨ms, hms, hml⟩ : ∃ ms : List Int, cutV (ns.map V.int) none (some 63) = ms.map V.int ∧ ms.length ≤ 63 := by
      refine ⟨(ns.drop (HT.sIx (ns.map V.int).length 0 none)).take (HT.sIx (ns.map V.int).length (ns.map V.int).length (some 63) - HT.sIx (ns.map V.int).length 0 none), ?_, ?_⟩
      · unfold cutV
        rw [List.map_take, List.map_drop]
      · rw [List.length_take, List.length_drop]
        omega
    refine ⟨_, rfl, _, rfl, a, _, rfl, hS, fun p hp => ⟨p, rfl, ⟨_, SqL.of upd_same⟩, fun D hD => ?_⟩⟩
    rw [hms]
    have hpD : p ≠ D := fun e => by rw [← e, hms, upd_same] at hD; cases hD
    have hD0 : H D = none := by rw [hms, upd_ne hpD.symm] at hD; exact hD
    refine lc_list (K := K) (a := p) (xs := ms.map V.int) (fun i H' => (∃ cs : List Int, H' D = some (.lst (cs.map V.int)) ∧ cs.length = i ∧ (∀ z ∈ cs, 0 ≤ z)) ∧ H' p = some (.lst (ms.map V.int)) ∧ Ex H H')
      ⟨⟨[], upd_same, rfl, fun z hz => by cases hz⟩, ?_, ?_⟩ (fun i H' _ h => SqL.of h.2.1) ?_ ?_
    · rw [upd_ne hpD, upd_same]
    · exact fun c o e => by rw [upd_ne (ne_of_none e hD0), upd_ne (ne_of_none e hp)]; exact e
    · rintro i x H' hx ⟨⟨cs, hcs, hci, hc0⟩, hp', ex⟩
      obtain ⟨z, hz, rfl⟩ : ∃ z, ms[i]? = some z ∧ x = V.int z := by
        rw [List.getElem?_map] at hx
        cases e : ms[i]? with
        | none => rw [e] at hx; cases hx
        | some z => rw [e] at hx; exact ⟨z, rfl, (Option.some.inj hx).symm⟩
      have hi : i < ms.length := (List.getElem?_eq_some_iff.mp hz).1
      refine ⟨rfl, _, rfl, z, rfl, _, hcs, ?_, ⟨⟨cs ++ [if z < 0 then -z else z], ?_, ?_, ?_⟩, ?_, ?_⟩⟩
      · rw [List.length_map, hci, sizeLine_eq]; omega
      · rw [upd_same, List.map_append]; rfl
      · rw [List.length_append, hci]; rfl
      · intro y hy
        rcases List.mem_append.mp hy with h | h
        · exact hc0 y h
        · have : y = if z < 0 then -z else z := by simpa using h
          rw [this]
          split <;> omega
      · rw [upd_ne hpD]; exact hp'
      · exact fun c o e => by rw [upd_ne (ne_of_none e hD0)]; exact ex c o e
    · rintro H' ⟨⟨cs, hcs, hci, hc0⟩, hp', ex⟩
      refine ⟨(by show 3 ≤ sizeLine; exact sz3), fun q hq => ?_⟩
      have nqD : D ≠ q := ne_of_none hcs hq
      refine k q _ ⟨D, cs, 0, 0, nqD.symm, upd_same, by rw [upd_ne nqD]; exact hcs, ?_, by decide, by decide, hc0⟩ (ex.to hq) (ex.free hq)
      rw [List.length_map] at hci
      omega
theorem ok_digit (T : Txt K mg A) : FnOk P w K mg base CX0 1 A.f_digit A.d_digit ["pot", "many"] spDigit := by
  refine T.F_digit.ok sc_digit (fun vs H Q E h => ?_) (fun cdv Ar outer s H vs Q E hr h => ?_)
  · obtain ⟨p, m, rfl, _⟩ := h
    rfl
  · obtain ⟨p, m, rfl, pot, m0, bm, k⟩ := h
    refine ⟨_, (C8.pss_cut (ps_if (PW.pt (pw_and (pt_cmpR op_eq (pe_ix ix_list (pv 0) pe_int (fun _ _ => rfl)) pe_int (nomark _)) (pw_and1 (pt_cmpR op_lt (pe_ix ix_list (pv 0) pe_int (fun _ _ => rfl)) (pe_callB call_len (by rfl) T.n_len PySem.boot_len (pa_cons (pe_ix ix_list (pv 0) pe_int (fun _ _ => rfl)) pa_nil)) (nomark _)))))
      (pss_cons (ps_asg (pe_ix ix_list (pe_ix ix_list (pv 0) pe_int (fun _ _ => rfl)) (pe_ix ix_list (pv 0) pe_int (fun _ _ => rfl)) (fun _ _ => rfl)) (pg_sub (pv 0) pe_int set_list))
      (pss_one (ps_asg (pe_op op_add (pe_ix ix_list (pv 0) pe_int (fun _ _ => rfl)) pe_int) (pg_sub (pv 0) pe_int set_list)))) pss_nil)
      (pss_cons (ps_set (i := 2) sc_digit.nd rfl (Or.inl rfl) (pe_op op_mod (pe_callTy call_int1 (by rfl) T.n_int (by decide +kernel) (pa_cons (pe_ix ix_list (pv 0) pe_int (fun _ _ => rfl)) pa_nil)) (pv 1)))
      (pss_cons (ps_asg (pe_op op_fdivW (pe_ix ix_list (pv 0) pe_int (fun _ _ => rfl)) (pv 1)) (pg_sub (pv 0) pe_int set_list))
      (pss_one (ps_ret (pv 2)))))), ?_⟩
    obtain ⟨l, cs, i, c, ne, h1, h2, hl, i0, c0, hc⟩ := id pot
    refine ⟨fun sl H' => sl = [some (.ref p), some (.int m), none] ∧ PotAt H' p ∧ Keep p H H', ?_, ?_⟩
    · refine ⟨_, rfl, _, _, _, _, rfl, rfl, SqL.of h1, rfl, rfl, _, rfl, ?_⟩
      refine ite2 (fun z => ?_) (fun z => iteF ⟨rfl, pot, Keep.refl⟩)
      refine ⟨_, rfl, _, _, _, _, rfl, rfl, SqL.of h1, rfl, _, rfl, _, _, _, _, rfl, rfl, SqL.of h1, rfl, _, _, rfl, .inl ⟨_, SqL.of h2, rfl⟩, _, _, rfl, rfl, _, rfl, ?_⟩
      refine ite2 (fun z2 => ?_) (fun z2 => ⟨rfl, pot, Keep.refl⟩)
      have hi : i < cs.length := by have := of_decide_eq_true z2; rw [List.length_map] at this; exact this
      obtain ⟨j, rfl⟩ : ∃ j : Nat, i = (j : Int) := ⟨i.toNat, by omega⟩
      have hj : j < cs.length := by omega
      have at_ : (cs.map V.int)[j]? = some (.int cs[j]) := by rw [List.getElem?_map, List.getElem?_eq_getElem hj]; rfl
      refine ⟨_, rfl, _, _, _, _, rfl, rfl, SqL.of h1, rfl, _, rfl, _, _, _, _, rfl, rfl, SqL.of h1, rfl, _, _, _, _, rfl, rfl, SqL.of h2, atI_nat at_, _, rfl, p, _, 2, 2, rfl, rfl, h1, rfl, ?_⟩
      refine ⟨_, rfl, _, _, _, _, rfl, rfl, SqL.of upd_same, rfl, _, _, rfl, rfl, _, rfl, p, _, 1, 1, rfl, rfl, upd_same, rfl, rfl, ?_, ?_⟩
      · refine ⟨l, cs, (j : Int) + 1, cs[j], ne, upd_same, ?_, hl, by omega, hc _ (List.getElem_mem hj), hc⟩
        rw [upd_ne ne.symm, upd_ne ne.symm]; exact h2
      · exact Keep.upd.trans Keep.upd
    · rintro sl H' ⟨rfl, pot', kp⟩
      obtain ⟨l, cs, i, c, ne, h1, h2, hl, i0, c0, hc⟩ := id pot'
      refine ⟨_, rfl, _, _, _, _, rfl, rfl, SqL.of h1, rfl, .inl ⟨_, rfl, _, rfl, _, _, rfl, rfl, m0, ?_⟩⟩
      refine ⟨_, rfl, _, _, _, _, rfl, rfl, SqL.of h1, rfl, _, rfl, _, _, rfl, rfl, bm.div m0, _, rfl, p, _, 2, 2, rfl, rfl, h1, rfl, _, rfl, ?_⟩
      refine k _ _ (Int.emod_nonneg _ (by omega)) (Int.emod_lt_of_pos _ m0) ⟨l, cs, i, c / m, ne, upd_same, ?_, hl, i0, Int.ediv_nonneg c0 (by omega), hc⟩ (kp.trans Keep.upd)
      rw [upd_ne ne.symm]; exact h2
/-- a drawn fraction of at most 41 digits in base 2 -/
def spFrac : Sp := fun vs H Q _ => ∃ (p : Addr), vs = [.ref p] ∧ PotAt H p ∧ ∀ t q H', Pr H' t q → H t = none → Sm 41 q → PotAt H' p → Keep p H H' → Q (.ref t) H'
theorem ok_fraction (T : Txt K mg A) : FnOk P w K mg base CX0 2 A.f_fraction A.d_fraction ["pot"] spFrac := by
  refine T.F_fraction.ok sc_fraction (fun vs H Q E h => ?_) (fun cdv Ar outer s H vs Q E hr h => ?_)
  · obtain ⟨p, rfl, _⟩ := h
    rfl
  · obtain ⟨p, rfl, pot, k⟩ := h
    refine ⟨_, (pss_cons (ps_set (i := 1) sc_fraction.nd rfl (Or.inl rfl) (pe_call (ok_digit T) (hr.mono (by decide)) rfl T.g_digit T.F_digit.kp T.b_digit .nil pass0 (pa_cons (pv 0) (pa_cons pe_int pa_nil))))
      (pss_cons (ps_if (pt_cmpR op_eq (pv 1) pe_int (nomark _))
      (pss_cons (ps_set (i := 2) sc_fraction.nd rfl (Or.inl rfl) (pe_op op_sub (pe_call (ok_digit T) (hr.mono (by decide)) rfl T.g_digit T.F_digit.kp T.b_digit .nil pass0 (pa_cons (pv 0) (pa_cons (pe_op op_add (pe_op op_mulW pe_int (pe_op op_pow pe_int pe_int)) pe_int) pa_nil))) (pe_op op_pow pe_int pe_int)))
      (pss_one (ps_ret (pe_tup (pa_cons (pv 2) (pa_cons (pe_op op_add pe_int (pe_call (ok_digit T) (hr.mono (by decide)) rfl T.g_digit T.F_digit.kp T.b_digit .nil pass0 (pa_cons (pv 0) (pa_cons (pe_op op_pow pe_int pe_int) pa_nil)))) pa_nil)))))) pss_nil)
      (pss_cons (ps_if (pt_cmpR op_eq (pv 1) pe_int (nomark _))
      (pss_cons (ps_set (i := 2) sc_fraction.nd rfl (Or.inl rfl) (pe_op op_sub (pe_call (ok_digit T) (hr.mono (by decide)) rfl T.g_digit T.F_digit.kp T.b_digit .nil pass0 (pa_cons (pv 0) (pa_cons pe_int pa_nil))) pe_int))
      (pss_one (ps_ret (pe_tup (pa_cons (pv 2) (pa_cons (pe_op op_add pe_int (pe_call (ok_digit T) (hr.mono (by decide)) rfl T.g_digit T.F_digit.kp T.b_digit .nil pass0 (pa_cons (pv 0) (pa_cons pe_int pa_nil)))) pa_nil)))))) pss_nil)
      (pss_cons (ps_set (i := 2) sc_fraction.nd rfl (Or.inl rfl) (pe_op op_sub pe_int (pe_call (ok_digit T) (hr.mono (by decide)) rfl T.g_digit T.F_digit.kp T.b_digit .nil pass0 (pa_cons (pv 0) (pa_cons pe_int pa_nil)))))
      (pss_one (ps_ret (pe_tup (pa_cons (pv 2) (pa_cons (pe_op op_sub pe_int (pe_call (ok_digit T) (hr.mono (by decide)) rfl T.g_digit T.F_digit.kp T.b_digit .nil pass0 (pa_cons (pv 0) (pa_cons pe_int pa_nil)))) pa_nil))))))))), ?_⟩
    have fin : ∀ (q : Int × Int) (H' : Hp), Sm 41 q → PotAt H' p → Keep p H H' → ∀ t, H' t = none → Q (.ref t) (upd H' t (.tup [.int q.1, .int q.2])) := fun q H' sq pt kp t ht =>
      k t q _ upd_same (kp.free pt ht) sq (pt.ex (Ex.new ht)) (kp.trans (Keep.new ht))
    have bt : Bd 41 ((10 : Int) ^ (12 : Int).toNat) := by show ((10 : Int) ^ 12).natAbs < 2 ^ 41; decide +kernel
    refine ⟨_, rfl, p, 4, rfl, pot, by decide, bd_of (by decide), fun d0 H0 a0 b0 pot0 k0 => ?_⟩
    refine ⟨_, rfl, rfl, _, rfl, ite2 (fun _ => ?_) (fun _ => ?_)⟩
    · have e2 : Bd 62 (2 * (10 : Int) ^ (12 : Int).toNat) := bd_two.mul bd_twel
      refine ⟨_, rfl, _, _, rfl, rfl, cpow 10 12 (by decide) (by decide), _, _, rfl, rfl, bd_two.w bd_twel, _, _, rfl, rfl, p, _, rfl, pot0, ?_, ?_, fun d H1 a b pt k1 => ?_⟩
      · have := twel_pos; show 0 < 2 * (10 : Int) ^ (12 : Int).toNat + 1; omega
      · exact (e2.add (show Bd 62 (1 : Int) from bd_of (by decide +kernel))).mono (by decide)
      have b' : d < 2 * (10 : Int) ^ (12 : Int).toNat + 1 := b
      refine ⟨_, _, rfl, rfl, cpow 10 12 (by decide) (by decide), _, _, rfl, rfl, _, rfl, _, rfl, _, _, rfl, rfl, cpow 10 12 (by decide) (by decide), p, _, rfl, pt, twel_pos, bd_twel.mono (by decide), fun d2 H2 a2 b2 pt2 k2 => ?_⟩
      have b2' : d2 < (10 : Int) ^ (12 : Int).toNat := b2
      refine ⟨_, _, rfl, rfl, (by show 2 ≤ sizeLine; exact sz2), fun t ht => ?_⟩
      exact fin (d - (10 : Int) ^ (12 : Int).toNat, 1 + d2) H2 ⟨bd_le bt (by show -(10 : Int) ^ (12 : Int).toNat ≤ d - (10 : Int) ^ (12 : Int).toNat; omega) (by show d - (10 : Int) ^ (12 : Int).toNat ≤ (10 : Int) ^ (12 : Int).toNat; omega), bd_le bt (by show -(10 : Int) ^ (12 : Int).toNat ≤ 1 + d2; omega) (by show 1 + d2 ≤ (10 : Int) ^ (12 : Int).toNat; omega), by show 0 < 1 + d2; omega⟩ pt2 ((k0.trans k1).trans k2) t ht
    refine ⟨_, rfl, rfl, _, rfl, ite2 (fun _ => ?_) (fun _ => ?_)⟩
    · refine ⟨_, rfl, p, 2001, rfl, pot0, by decide, bd_of (by decide), fun d H1 a b pt k1 => ?_⟩
      refine ⟨_, _, rfl, rfl, _, rfl, _, rfl, p, 1000, rfl, pt, by decide, bd_of (by decide), fun d2 H2 a2 b2 pt2 k2 => ?_⟩
      refine ⟨_, _, rfl, rfl, (by show 2 ≤ sizeLine; exact sz2), fun t ht => ?_⟩
      exact fin (d - 1000, 1 + d2) H2 ⟨(bd_le (j := 2001) (bd_of (by decide)) (by omega) (by omega) : Bd 41 (d - 1000)), (bd_le (j := 2001) (bd_of (by decide)) (by omega) (by omega) : Bd 41 (1 + d2)), by show 0 < 1 + d2; omega⟩ pt2 ((k0.trans k1).trans k2) t ht
    · refine ⟨_, rfl, p, 13, rfl, pot0, by decide, bd_of (by decide), fun d H1 a b pt k1 => ?_⟩
      refine ⟨_, _, rfl, rfl, _, rfl, _, rfl, p, 7, rfl, pt, by decide, bd_of (by decide), fun d2 H2 a2 b2 pt2 k2 => ?_⟩
      refine ⟨_, _, rfl, rfl, (by show 2 ≤ sizeLine; exact sz2), fun t ht => ?_⟩
      exact fin (6 - d, 7 - d2) H2 ⟨(bd_le (j := 2001) (bd_of (by decide)) (by omega) (by omega) : Bd 41 (6 - d)), (bd_le (j := 2001) (bd_of (by decide)) (by omega) (by omega) : Bd 41 (7 - d2)), by show 0 < 7 - d2; omega⟩ pt2 ((k0.trans k1).trans k2) t ht
/-! ### the Ratio's operations, by what they are worth -/
def spBin (C : Addr) (G : Rat → Prop) (f : Rat → Rat → Rat) : Sp := fun vs H Q _ => ∃ (a b : Addr) (x y : Rat), vs = [.ref a, .ref b] ∧ RatV C H 1000 a x ∧ RatV C H 1000 b y ∧ G y ∧ ∀ c H', Ex H H' → H c = none → RatV C H' 2001 c (f x y) → Q (.ref c) H'
theorem ok_add (T : Txt K mg A) : FnOk P w K mg base CX0 3 A.f_add A.d_add ["self", "other"] (spBin A.C (fun _ => True) fun x y => x + y) := by
  refine T.F_add.ok sc_add (fun vs H Q E h => ?_) (fun cdv Ar outer s H vs Q E hr h => ?_)
  · obtain ⟨a, b, x, y, rfl, _⟩ := h
    rfl
  · obtain ⟨a, b, x, y, rfl, ⟨p, ⟨dx, ha⟩, sp, cp, rfl⟩, ⟨q, ⟨dy, hb⟩, sq, cq, rfl⟩, _, k⟩ := h
    refine ⟨_, (pss_cons (ps_set (i := 2) sc_add.nd rfl (Or.inl rfl) (pe_op op_add (pe_op op_mulW (pe_fld (pv 0) rfl) (pe_fld (pv 1) rfl)) (pe_op op_mulW (pe_fld (pv 1) rfl) (pe_fld (pv 0) rfl))))
      (pss_one (ps_ret (pe_make T.mkC (ok_init T) (hr.mono (by decide)) rfl T.g_Ratio T.b_init3 .nil passL (pa_cons (pv 2) (pa_cons (pe_op op_mulW (pe_fld (pv 0) rfl) (pe_fld (pv 1) rfl)) pa_nil)))))), ?_⟩
    refine ⟨_, rfl, _, _, _, _, _, rfl, ha, T.cl, T.nT, rf_top _, _, rfl, _, _, _, _, _, rfl, hb, T.cl, T.nB, rf_bot _, _, _, rfl, rfl, sp.t.w sq.b, _, rfl, _, _, _, _, _, rfl, hb, T.cl, T.nT, rf_top _, _, rfl, _, _, _, _, _, rfl, ha, T.cl, T.nB, rf_bot _, _, _, rfl, rfl, sq.t.w sp.b, _, _, rfl, rfl, _, rfl, _, rfl, _, _, _, _, _, rfl, ha, T.cl, T.nB, rf_bot _, _, rfl, _, _, _, _, _, rfl, hb, T.cl, T.nB, rf_bot _, _, _, rfl, rfl, sp.b.w sq.b, ?_⟩
    exact rd_make (sp.nn sq) ((sp.b.mul sq.b).mono (by decide)) fun c H' ex nc r => k c H' ex nc (.lo r (((sp.t.mul sq.b).add (sq.t.mul sp.b)).mono (by decide)) ((sp.b.mul sq.b).mono (by decide)) (sp.nn sq) (v_add sp.ne sq.ne))
theorem ok_sub (T : Txt K mg A) : FnOk P w K mg base CX0 3 A.f_sub A.d_sub ["self", "other"] (spBin A.C (fun _ => True) fun x y => x - y) := by
  refine T.F_sub.ok sc_sub (fun vs H Q E h => ?_) (fun cdv Ar outer s H vs Q E hr h => ?_)
  · obtain ⟨a, b, x, y, rfl, _⟩ := h
    rfl
  · obtain ⟨a, b, x, y, rfl, ⟨p, ⟨dx, ha⟩, sp, cp, rfl⟩, ⟨q, ⟨dy, hb⟩, sq, cq, rfl⟩, _, k⟩ := h
    refine ⟨_, (pss_cons (ps_set (i := 2) sc_sub.nd rfl (Or.inl rfl) (pe_op op_sub (pe_op op_mulW (pe_fld (pv 0) rfl) (pe_fld (pv 1) rfl)) (pe_op op_mulW (pe_fld (pv 1) rfl) (pe_fld (pv 0) rfl))))
      (pss_one (ps_ret (pe_make T.mkC (ok_init T) (hr.mono (by decide)) rfl T.g_Ratio T.b_init3 .nil passL (pa_cons (pv 2) (pa_cons (pe_op op_mulW (pe_fld (pv 0) rfl) (pe_fld (pv 1) rfl)) pa_nil)))))), ?_⟩
    refine ⟨_, rfl, _, _, _, _, _, rfl, ha, T.cl, T.nT, rf_top _, _, rfl, _, _, _, _, _, rfl, hb, T.cl, T.nB, rf_bot _, _, _, rfl, rfl, sp.t.w sq.b, _, rfl, _, _, _, _, _, rfl, hb, T.cl, T.nT, rf_top _, _, rfl, _, _, _, _, _, rfl, ha, T.cl, T.nB, rf_bot _, _, _, rfl, rfl, sq.t.w sp.b, _, _, rfl, rfl, _, rfl, _, rfl, _, _, _, _, _, rfl, ha, T.cl, T.nB, rf_bot _, _, rfl, _, _, _, _, _, rfl, hb, T.cl, T.nB, rf_bot _, _, _, rfl, rfl, sp.b.w sq.b, ?_⟩
    exact rd_make (sp.nn sq) ((sp.b.mul sq.b).mono (by decide)) fun c H' ex nc r => k c H' ex nc (.lo r (((sp.t.mul sq.b).sub (sq.t.mul sp.b)).mono (by decide)) ((sp.b.mul sq.b).mono (by decide)) (sp.nn sq) (v_sub sp.ne sq.ne))
theorem ok_mul (T : Txt K mg A) : FnOk P w K mg base CX0 3 A.f_mul A.d_mul ["self", "other"] (spBin A.C (fun _ => True) fun x y => x * y) := by
  refine T.F_mul.ok sc_mul (fun vs H Q E h => ?_) (fun cdv Ar outer s H vs Q E hr h => ?_)
  · obtain ⟨a, b, x, y, rfl, _⟩ := h
    rfl
  · obtain ⟨a, b, x, y, rfl, ⟨p, ⟨dx, ha⟩, sp, cp, rfl⟩, ⟨q, ⟨dy, hb⟩, sq, cq, rfl⟩, _, k⟩ := h
    refine ⟨_, (pss_one (ps_ret (pe_make T.mkC (ok_init T) (hr.mono (by decide)) rfl T.g_Ratio T.b_init3 .nil passL (pa_cons (pe_op op_mulW (pe_fld (pv 0) rfl) (pe_fld (pv 1) rfl)) (pa_cons (pe_op op_mulW (pe_fld (pv 0) rfl) (pe_fld (pv 1) rfl)) pa_nil))))), ?_⟩
    refine ⟨_, rfl, _, _, _, _, _, rfl, ha, T.cl, T.nT, rf_top _, _, rfl, _, _, _, _, _, rfl, hb, T.cl, T.nT, rf_top _, _, _, rfl, rfl, sp.t.w sq.t, _, rfl, _, _, _, _, _, rfl, ha, T.cl, T.nB, rf_bot _, _, rfl, _, _, _, _, _, rfl, hb, T.cl, T.nB, rf_bot _, _, _, rfl, rfl, sp.b.w sq.b, ?_⟩
    exact rd_make (sp.nn sq) ((sp.b.mul sq.b).mono (by decide)) fun c H' ex nc r => k c H' ex nc (.lo r ((sp.t.mul sq.t).mono (by decide)) ((sp.b.mul sq.b).mono (by decide)) (sp.nn sq) (v_mul sp.ne sq.ne))
theorem ok_divided (T : Txt K mg A) : FnOk P w K mg base CX0 3 A.f_divided A.d_divided ["self", "other"] (spBin A.C (fun y => y ≠ 0) fun x y => x / y) := by
  refine T.F_divided.ok sc_divided (fun vs H Q E h => ?_) (fun cdv Ar outer s H vs Q E hr h => ?_)
  · obtain ⟨a, b, x, y, rfl, _⟩ := h
    rfl
  · obtain ⟨a, b, x, y, rfl, ⟨p, ⟨dx, ha⟩, sp, cp, rfl⟩, ⟨q, ⟨dy, hb⟩, sq, cq, rfl⟩, n, k⟩ := h
    refine ⟨_, (pss_one (ps_ret (pe_make T.mkC (ok_init T) (hr.mono (by decide)) rfl T.g_Ratio T.b_init3 .nil passL (pa_cons (pe_op op_mulW (pe_fld (pv 0) rfl) (pe_fld (pv 1) rfl)) (pa_cons (pe_op op_mulW (pe_fld (pv 0) rfl) (pe_fld (pv 1) rfl)) pa_nil))))), ?_⟩
    have q0 : q.1 ≠ 0 := fun z => n ((v_zero sq.ne).mpr z)
    refine ⟨_, rfl, _, _, _, _, _, rfl, ha, T.cl, T.nT, rf_top _, _, rfl, _, _, _, _, _, rfl, hb, T.cl, T.nB, rf_bot _, _, _, rfl, rfl, sp.t.w sq.b, _, rfl, _, _, _, _, _, rfl, ha, T.cl, T.nB, rf_bot _, _, rfl, _, _, _, _, _, rfl, hb, T.cl, T.nT, rf_top _, _, _, rfl, rfl, sp.b.w sq.t, ?_⟩
    exact rd_make (Int.mul_ne_zero sp.ne q0) ((sp.b.mul sq.t).mono (by decide)) fun c H' ex nc r => k c H' ex nc (.lo r ((sp.t.mul sq.b).mono (by decide)) ((sp.b.mul sq.t).mono (by decide)) (Int.mul_ne_zero sp.ne q0) (v_div sp.ne sq.ne q0))
def spNeg (C : Addr) : Sp := fun vs H Q _ => ∃ (a : Addr) (x : Rat), vs = [.ref a] ∧ RatV C H 1000 a x ∧ ∀ c H', Ex H H' → H c = none → RatV C H' 2001 c (-x) → Q (.ref c) H'
theorem ok_neg (T : Txt K mg A) : FnOk P w K mg base CX0 3 A.f_neg A.d_neg ["self"] (spNeg A.C) := by
  refine T.F_neg.ok sc_neg (fun vs H Q E h => ?_) (fun cdv Ar outer s H vs Q E hr h => ?_)
  · obtain ⟨a, x, rfl, _⟩ := h
    rfl
  · obtain ⟨a, x, rfl, ⟨p, ⟨dx, ha⟩, sp, cp, rfl⟩, k⟩ := h
    refine ⟨_, (pss_one (ps_ret (pe_make T.mkC (ok_init T) (hr.mono (by decide)) rfl T.g_Ratio T.b_init3 .nil passL (pa_cons (pe_un un_neg (pe_fld (pv 0) rfl)) (pa_cons (pe_fld (pv 0) rfl) pa_nil))))), ?_⟩
    refine ⟨_, rfl, _, _, _, _, _, rfl, ha, T.cl, T.nT, rf_top _, _, rfl, _, rfl, _, _, _, _, _, rfl, ha, T.cl, T.nB, rf_bot _, ?_⟩
    exact rd_make sp.ne (sp.b.mono (by decide)) fun c H' ex nc r => k c H' ex nc (.lo r (sp.t.neg.mono (by decide)) (sp.b.mono (by decide)) sp.ne (v_neg sp.ne))
def spCmp (C : Addr) : Sp := fun vs H Q _ => ∃ (a b : Addr) (x y : Rat), vs = [.ref a, .ref b] ∧ RatV C H 2001 a x ∧ RatV C H 2001 b y ∧ Q (.int (cmpR x y)) H
theorem ok_compare (T : Txt K mg A) : FnOk P w K mg base CX0 1 A.f_compare A.d_compare ["self", "other"] (spCmp A.C) := by
  refine T.F_compare.ok sc_compare (fun vs H Q E h => ?_) (fun cdv Ar outer s H vs Q E hr h => ?_)
  · obtain ⟨a, b, x, y, rfl, _⟩ := h
    rfl
  · obtain ⟨a, b, x, y, rfl, ⟨p, ⟨dx, ha⟩, sp, cp, rfl⟩, ⟨q, ⟨dy, hb⟩, sq, cq, rfl⟩, k⟩ := h
    refine ⟨_, (pss_cons (ps_set (i := 2) sc_compare.nd rfl (Or.inl rfl) (pe_op op_mulW (pe_fld (pv 0) rfl) (pe_fld (pv 1) rfl)))
      (pss_cons (ps_set (i := 3) sc_compare.nd rfl (Or.inl rfl) (pe_op op_mulW (pe_fld (pv 1) rfl) (pe_fld (pv 0) rfl)))
      (pss_cons (ps_if (pt_cmpR op_lt (pv 2) (pv 3) (nomark _))
      (pss_one (ps_ret (pe_un un_neg pe_int))) pss_nil)
      (pss_one (ps_ret (pe_ifExp (pt_cmpR op_gt (pv 2) (pv 3) (nomark _)) pe_int pe_int)))))), ?_⟩
    refine ⟨_, rfl, _, _, _, _, _, rfl, ha, T.cl, T.nT, rf_top _, _, rfl, _, _, _, _, _, rfl, hb, T.cl, T.nB, rf_bot _, _, _, rfl, rfl, sp.t.w sq.b, _, rfl, _, _, _, _, _, rfl, hb, T.cl, T.nT, rf_top _, _, rfl, _, _, _, _, _, rfl, ha, T.cl, T.nB, rf_bot _, _, _, rfl, rfl, sq.t.w sp.b, _, rfl, _, rfl, _, _, rfl, rfl, _, rfl, ?_⟩
    unfold cmpR at k
    by_cases c : p.1 * q.2 < q.1 * p.2
    · rw [if_pos ((vl_lt sp.pos sq.pos).mpr c)] at k
      exact ite2 (fun _ => ⟨_, rfl, k⟩) (fun n => absurd (decide_eq_true c) n)
    · rw [if_neg (fun z => c ((vl_lt sp.pos sq.pos).mp z))] at k
      refine ite2 (fun z => absurd (of_decide_eq_true z) c) (fun _ => ?_)
      refine ⟨_, rfl, _, rfl, _, _, rfl, rfl, _, rfl, ?_⟩
      by_cases d : q.1 * p.2 < p.1 * q.2
      · rw [if_pos ((vl_lt sq.pos sp.pos).mpr d)] at k
        exact ite2 (fun _ => k) (fun n => absurd (decide_eq_true d) n)
      · rw [if_neg (fun z => d ((vl_lt sq.pos sp.pos).mp z))] at k
        exact ite2 (fun z => absurd (of_decide_eq_true z) d) (fun _ => k)
end
end Fc
set_option Elab.async false
set_option linter.all false
set_option maxRecDepth 100000
set_option maxHeartbeats 4000000
set_option exponentiation.threshold 100000
namespace Fc
open PySem PySem.Spec PyProof.Rows L2
section
variable {P : Program} {w : World} {K : PySem.W.Frag} {mg : Str → Option Value} {base : Heap} {A : Ad}
/-! ### a Span is made -/
def spSInit (A : Ad) : Sp := fun vs H Q _ => ∃ (s dx l h : Addr) (x y : Rat), vs = [.ref s, .ref l, .ref h] ∧ H s = some (.ins A.S dx []) ∧ RatV A.C H 2001 l x ∧ RatV A.C H 2001 h y ∧ x ≤ y ∧
  ∀ H', H' s = some (.ins A.S dx (sf l h)) → (∀ c o, H c = some o → c ≠ s → H' c = some o) → Q .non H'
theorem np_compare (r : Int × Int) : (rf r).lookup ("compare" : Str) = none := rf_no _ (by decide +kernel) (by decide +kernel)
theorem ok_sinit (T : Txt K mg A) : FnOk P w K mg base CX0 2 A.f_sinit A.d_sinit ["self", "low", "high"] (spSInit A) := by
  refine T.F_sinit.ok sc_sinit (fun vs H Q E h => ?_) (fun cdv Ar outer s H vs Q E hr h => ?_)
  · obtain ⟨s, dx, l, h, x, y, rfl, _⟩ := h
    rfl
  · obtain ⟨s, dx, l, h, x, y, rfl, hs, hl, hh, le, k⟩ := h
    refine ⟨_, (pss_cons (ps_if (pt_cmpR op_gt (pe_meth (pv 1) T.cl T.m_compare (ok_compare T) (hr.mono (by decide)) T.b_compare .nil pass0 (pa_cons (pv 2) pa_nil)) pe_int (nomark _))
      (pss_one ps_never) pss_nil)
      (pss_cons (ps_fld (pv 0) (pv 1) rfl)
      (pss_one (ps_fld (pv 0) (pv 2) rfl)))), ?_⟩
    obtain ⟨p, ⟨dl, hp⟩, rp⟩ := id hl
    refine ⟨_, rfl, l, dl, _, rfl, hp, np_compare _, _, rfl, l, h, x, y, rfl, hl, hh, _, _, rfl, rfl, _, rfl, ?_⟩
    refine ite2 (fun z => absurd (cmpR_pos.mp (of_decide_eq_true z)) (by grind)) (fun _ => ?_)
    refine ⟨_, rfl, _, rfl, s, A.S, dx, _, rfl, hs, T.cS, T.nL, (by show 0 < 1000; decide), ?_⟩
    refine ⟨_, rfl, _, rfl, s, A.S, dx, _, rfl, upd_same, T.cS, T.nH, (by show 1 < 1000; decide), ?_⟩
    refine k _ (by rw [upd_same, sf_put]) fun c o hc hn => ?_
    rw [upd_ne hn, upd_ne hn]
    exact hc
theorem rd_span {l h : Addr} {x y : Rat} {H : Hp} {Q : VK} {E : XK} (hl : RatV A.C H 2001 l x) (hh : RatV A.C H 2001 h y) (le : x ≤ y) (k : ∀ c H', Ex H H' → H c = none → SpV A.S A.C H' 2001 c x y → Q (.ref c) H') :
    ∀ c dx, H c = none → H dx = none → dx ≠ c → spSInit A [.ref c, .ref l, .ref h] (upd (upd H dx (.own c)) c (.ins A.S dx [])) (fun v H2 => v = .non ∧ Q (.ref c) H2) E := by
  intro c dx nx nd ne
  have e : Ex H (upd (upd H dx (.own c)) c (.ins A.S dx [])) := fun b o e => by rw [upd_ne (ne_of_none e nx), upd_ne (ne_of_none e nd)]; exact e
  exact ⟨c, dx, l, h, x, y, rfl, upd_same, hl.ex e, hh.ex e, le, fun H' hc kp => ⟨rfl, k c H' (Same.made nx nd kp) nx ⟨dx, l, h, hc, hl.ex (Same.made nx nd kp), hh.ex (Same.made nx nd kp)⟩⟩⟩
/-! ### the lesser, the greater, the span around -/
def spPick (C : Addr) (R : Rat → Rat → Rat) : Sp := fun vs H Q _ => ∃ (a b : Addr) (x y : Rat), vs = [.ref a, .ref b] ∧ RatV C H 2001 a x ∧ RatV C H 2001 b y ∧ ∀ c, RatV C H 2001 c (R x y) → Q (.ref c) H
abbrev lsR (x y : Rat) : Rat := if x ≤ y then x else y
abbrev gtR (x y : Rat) : Rat := if y ≤ x then x else y
theorem ok_lesser (T : Txt K mg A) : FnOk P w K mg base CX0 2 A.f_lesser A.d_lesser ["a", "b"] (spPick A.C lsR) := by
  refine T.F_lesser.ok sc_lesser (fun vs H Q E h => ?_) (fun cdv Ar outer s H vs Q E hr h => ?_)
  · obtain ⟨a, b, x, y, rfl, _⟩ := h
    rfl
  · obtain ⟨a, b, x, y, rfl, ha, hb, k⟩ := h
    refine ⟨_, (pss_one (ps_ret (pe_ifExp (pt_cmpR op_le (pe_meth (pv 0) T.cl T.m_compare (ok_compare T) (hr.mono (by decide)) T.b_compare .nil pass0 (pa_cons (pv 1) pa_nil)) pe_int (nomark _)) (pv 0) (pv 1)))), ?_⟩
    obtain ⟨p, ⟨dl, hp⟩, rp⟩ := id ha
    refine ⟨_, rfl, a, dl, _, rfl, hp, np_compare _, _, rfl, a, b, x, y, rfl, ha, hb, _, _, rfl, rfl, _, rfl, ?_⟩
    unfold lsR at k
    by_cases c : x ≤ y
    · rw [if_pos c] at k
      exact ite2 (fun _ => ⟨_, rfl, k _ ha⟩) (fun n => absurd (decide_eq_true (cmpR_np.mpr c)) n)
    · rw [if_neg c] at k
      exact ite2 (fun z => absurd (cmpR_np.mp (of_decide_eq_true z)) c) (fun _ => ⟨_, rfl, k _ hb⟩)
theorem ok_greater (T : Txt K mg A) : FnOk P w K mg base CX0 2 A.f_greater A.d_greater ["a", "b"] (spPick A.C gtR) := by
  refine T.F_greater.ok sc_greater (fun vs H Q E h => ?_) (fun cdv Ar outer s H vs Q E hr h => ?_)
  · obtain ⟨a, b, x, y, rfl, _⟩ := h
    rfl
  · obtain ⟨a, b, x, y, rfl, ha, hb, k⟩ := h
    refine ⟨_, (pss_one (ps_ret (pe_ifExp (pt_cmpR op_ge (pe_meth (pv 0) T.cl T.m_compare (ok_compare T) (hr.mono (by decide)) T.b_compare .nil pass0 (pa_cons (pv 1) pa_nil)) pe_int (nomark _)) (pv 0) (pv 1)))), ?_⟩
    obtain ⟨p, ⟨dl, hp⟩, rp⟩ := id ha
    refine ⟨_, rfl, a, dl, _, rfl, hp, np_compare _, _, rfl, a, b, x, y, rfl, ha, hb, _, _, rfl, rfl, _, rfl, ?_⟩
    unfold gtR at k
    by_cases c : y ≤ x
    · rw [if_pos c] at k
      exact ite2 (fun _ => ⟨_, rfl, k _ ha⟩) (fun n => absurd (decide_eq_true (cmpR_nn.mpr c)) n)
    · rw [if_neg c] at k
      exact ite2 (fun z => absurd (cmpR_nn.mp (of_decide_eq_true z)) c) (fun _ => ⟨_, rfl, k _ hb⟩)
theorem Fit.at {C : Addr} {H : Hp} : ∀ {as : List Addr} {rs : List Rat}, Fit C H as rs → ∀ (i : Nat) (a : Addr), as[i]? = some a → ∃ r, rs[i]? = some r ∧ RatV C H 2001 a r
  | [], [], _, _, _, h => by simp at h
  | a :: as, r :: rs, h, 0, b, e => by cases e; exact ⟨r, rfl, h.1⟩
  | a :: as, r :: rs, h, i + 1, b, e => Fit.at h.2 i b e
  | [], _ :: _, h, _, _, _ => h.elim
  | _ :: _, [], h, _, _, _ => h.elim
def spAround (K : PySem.W.Frag) (A : Ad) : Sp := fun vs H Q _ => ∃ (L : Addr) (ys : List Addr) (rs : List Rat), vs = [.ref L] ∧ H L = some (.lst (ys.map V.ref)) ∧ Fit A.C H ys rs ∧ 0 < rs.length ∧
  ∀ c H' l u, Ex H H' → H c = none → SpV A.S A.C H' 2001 c l u → l ∈ rs → u ∈ rs → (∀ r ∈ rs, l ≤ r ∧ r ≤ u) → Q (.ref c) H'
theorem ok_around (T : Txt K mg A) : FnOk P w K mg base CX0 4 A.f_around A.d_around ["ratios"] (spAround K A) := by
  refine T.F_around.ok sc_around (fun vs H Q E h => ?_) (fun cdv Ar outer s H vs Q E hr h => ?_)
  · obtain ⟨L, ys, rs, rfl, _⟩ := h
    rfl
  · obtain ⟨L, ys, rs, rfl, hL, ft, n0, k⟩ := h
    refine ⟨_, (pss_cons (ps_asg2 (pe_ix ix_list (pv 0) pe_int (fun _ _ => rfl)) (pg_name (i := 1) sc_around.nd rfl (Or.inl rfl)) (pg_name (i := 2) sc_around.nd rfl (Or.inl rfl)))
      (pss_cons (ps_for PassesOwn.never rfl (pi_list (pv 0)) (pg_name (i := 3) sc_around.nd rfl (Or.inl rfl))
      (pss_cons (ps_set (i := 1) sc_around.nd rfl (Or.inl rfl) (pe_call (ok_lesser T) (hr.mono (by decide)) rfl T.g_lesser T.F_lesser.kp T.b_lesser .nil pass0 (pa_cons (pv 1) (pa_cons (pv 3) pa_nil))))
      (pss_one (ps_set (i := 2) sc_around.nd rfl (Or.inl rfl) (pe_call (ok_greater T) (hr.mono (by decide)) rfl T.g_greater T.F_greater.kp T.b_greater .nil pass0 (pa_cons (pv 2) (pa_cons (pv 3) pa_nil)))))))
      (pss_one (ps_ret (pe_make T.mkS (ok_sinit T) (hr.mono (by decide)) rfl T.g_Span T.b_sinit .nil pass0 (pa_cons (pv 1) (pa_cons (pv 2) pa_nil))))))), ?_⟩
    have ny : 0 < ys.length := by rw [ft.len]; exact n0
    have e0 : ys[0]? = some ys[0] := List.getElem?_eq_getElem ny
    obtain ⟨r0, hr0, hv0⟩ := ft.at 0 ys[0] e0
    refine ⟨_, rfl, _, _, _, _, rfl, rfl, SqL.of hL, atI_nat (j := 0) (by rw [List.getElem?_map, e0]; rfl), ?_⟩
    refine ⟨_, rfl, L, rfl, ⟨_, SqL.of hL⟩, for_list (K := K) (a := L) (xs := ys.map V.ref) (fun i sl H' => H' = H ∧ ∃ (lo hi : Addr) (ml mh : Rat) (v : Option V), sl = [some (.ref L), some (.ref lo), some (.ref hi), v] ∧ RatV A.C H 2001 lo ml ∧ RatV A.C H 2001 hi mh ∧ ml ∈ rs ∧ mh ∈ rs ∧ ml ≤ r0 ∧ r0 ≤ mh ∧
      ∀ j r, j < i → rs[j]? = some r → ml ≤ r ∧ r ≤ mh) ⟨rfl, ys[0], ys[0], r0, r0, none, rfl, hv0, hv0, List.mem_of_getElem? hr0, List.mem_of_getElem? hr0, by grind, by grind, fun j r z => absurd z (by omega)⟩ (fun i sl H' _ h => by rw [h.1]; exact SqL.of hL) ?_ ?_⟩
    · rintro i x sl H' hx ⟨rfl, lo, hi, ml, mh, v, rfl, hlo, hhi, m1, m2, b1, b2, all⟩
      obtain ⟨y, hy, rfl⟩ : ∃ y, ys[i]? = some y ∧ x = V.ref y := by
        rw [List.getElem?_map] at hx
        cases e : ys[i]? with
        | none => rw [e] at hx; cases hx
        | some z => rw [e] at hx; exact ⟨z, rfl, (Option.some.inj hx).symm⟩
      obtain ⟨r, hr1, hv⟩ := ft.at i y hy
      have mr := List.mem_of_getElem? hr1
      refine ⟨_, rfl, _, rfl, lo, y, ml, r, rfl, hlo, hv, fun lo' hlo' => ?_⟩
      refine ⟨_, rfl, _, rfl, hi, y, mh, r, rfl, hhi, hv, fun hi' hhi' => ?_⟩
      refine ⟨rfl, lo', hi', _, _, some (.ref y), rfl, hlo', hhi', ?_, ?_, ?_, ?_, fun j r' hj hr' => ?_⟩
      · unfold lsR; split <;> assumption
      · unfold gtR; split <;> assumption
      · unfold lsR; split <;> grind
      · unfold gtR; split <;> grind
      · rcases Nat.lt_or_ge j i with hji | hji
        · have := all j r' hji hr'
          unfold lsR gtR
          constructor <;> split <;> grind
        · have : j = i := by omega
          subst this
          rw [hr1] at hr'
          cases hr'
          unfold lsR gtR
          constructor <;> split <;> grind
    · rintro sl H' ⟨rfl, lo, hi, ml, mh, v, rfl, hlo, hhi, m1, m2, b1, b2, all⟩
      refine ⟨_, rfl, _, rfl, ?_⟩
      refine rd_span hlo hhi (by grind) fun c H1 ex nc sp => ?_
      refine k c H1 ml mh ex nc sp m1 m2 fun r mr => ?_
      obtain ⟨j, hj, e⟩ := List.getElem_of_mem mr
      exact all j r (by rw [List.length_map, ft.len]; exact hj) (by rw [List.getElem?_eq_getElem hj, e])
end
end Fc
set_option Elab.async false
set_option linter.all false
set_option maxRecDepth 100000
set_option maxHeartbeats 4000000
set_option exponentiation.threshold 100000
namespace Fc
open PySem PySem.Spec PyProof.Rows L2
section
variable {P : Program} {w : World} {K : PySem.W.Frag} {mg : Str → Option Value} {base : Heap} {A : Ad}
/-! ### the Span's operations -/
theorem rd_own {C : Addr} {G : Rat → Prop} {f : Rat → Rat → Rat} {a b : Addr} {x y : Rat} {H : Hp} {Q : VK} {E : XK} (ha : RatV C H 1000 a x) (hb : RatV C H 1000 b y) (g : G y) (k : ∀ c H', Ex H H' → H c = none → RatV C H' 2001 c (f x y) → Q (.ref c) H') :
    rOwn C (spBin C G f) E (.ref a) (.ref b) H Q := by
  obtain ⟨p, ⟨dx, h1⟩, rp⟩ := id ha
  obtain ⟨q, ⟨dy, h2⟩, rq⟩ := id hb
  exact ⟨a, b, dx, dy, _, _, rfl, rfl, h1, h2, a, b, x, y, rfl, ha, hb, g, k⟩
theorem rd_neg {C : Addr} {a : Addr} {x : Rat} {H : Hp} {Q : VK} {E : XK} (ha : RatV C H 1000 a x) (k : ∀ c H', Ex H H' → H c = none → RatV C H' 2001 c (-x) → Q (.ref c) H') :
    rOwnU C (spNeg C) E (.ref a) H Q := by
  obtain ⟨p, ⟨dx, h1⟩, rp⟩ := id ha
  exact ⟨a, dx, _, rfl, h1, a, x, rfl, ha, k⟩
theorem cor_of {op : Nat} {f : Rat → Rat → Rat} {a b c d l u : Rat} (hf : ∀ x y, ow op x y = f x y) (m1 : l ∈ [f a c, f a d, f b c, f b d]) (m2 : u ∈ [f a c, f a d, f b c, f b d]) (all : ∀ r ∈ [f a c, f a d, f b c, f b d], l ≤ r ∧ r ≤ u) :
    Lst op a b c d l ∧ Grt op a b c d u := by
  have a1 := all (f a c) (by simp)
  have a2 := all (f a d) (by simp)
  have a3 := all (f b c) (by simp)
  have a4 := all (f b d) (by simp)
  simp only [List.mem_cons, List.not_mem_nil, or_false] at m1 m2
  exact ⟨⟨by simp only [hf]; exact m1, by rw [hf]; exact a1.1, by rw [hf]; exact a2.1, by rw [hf]; exact a3.1, by rw [hf]; exact a4.1⟩, ⟨by simp only [hf]; exact m2, by rw [hf]; exact a1.2, by rw [hf]; exact a2.2, by rw [hf]; exact a3.2, by rw [hf]; exact a4.2⟩⟩
def spSBin (A : Ad) (op : Nat) : Sp := fun vs H Q _ => ∃ (a b : Addr) (x1 y1 x2 y2 : Rat), vs = [.ref a, .ref b] ∧ SpV A.S A.C H 1000 a x1 y1 ∧ SpV A.S A.C H 1000 b x2 y2 ∧ x1 ≤ y1 ∧ x2 ≤ y2 ∧
  ∀ c H' l u, Ex H H' → SpV A.S A.C H' 2001 c l u → Lst op x1 y1 x2 y2 l → Grt op x1 y1 x2 y2 u → Q (.ref c) H'
theorem ok_sadd (T : Txt K mg A) : FnOk P w K mg base CX0 5 A.f_sadd A.d_sadd ["self", "other"] (spSBin A 0) := by
  refine T.F_sadd.ok sc_sadd (fun vs H Q E h => ?_) (fun cdv Ar outer s H vs Q E hr h => ?_)
  · obtain ⟨a, b, x1, y1, x2, y2, rfl, _⟩ := h
    rfl
  · obtain ⟨a, b, x1, y1, x2, y2, rfl, ⟨dx, l1, h1, ha, hl1, hh1⟩, ⟨dy, l2, h2, hb, hl2, hh2⟩, le1, le2, k⟩ := h
    refine ⟨_, (pss_one (ps_ret (pe_make T.mkS (ok_sinit T) (hr.mono (by decide)) rfl T.g_Span T.b_sinit .nil pass0 (pa_cons (pe_op (op_own T.sf T.m_add.at_ T.m_add.fn (ok_add T) (hr.mono (by decide)) T.b_add pass0) (pe_fld (pv 0) rfl) (pe_fld (pv 1) rfl)) (pa_cons (pe_op (op_own T.sf T.m_add.at_ T.m_add.fn (ok_add T) (hr.mono (by decide)) T.b_add pass0) (pe_fld (pv 0) rfl) (pe_fld (pv 1) rfl)) pa_nil))))), ?_⟩
    refine ⟨_, rfl, _, _, _, _, _, rfl, ha, T.cS, T.nL, sf_low _ _, _, rfl, _, _, _, _, _, rfl, hb, T.cS, T.nL, sf_low _ _, rd_own hl1 hl2 trivial fun c H1 e1 n1 r1 => ?_⟩
    refine ⟨_, rfl, _, _, _, _, _, rfl, e1 _ _ ha, T.cS, T.nH, sf_high _ _, _, rfl, _, _, _, _, _, rfl, e1 _ _ hb, T.cS, T.nH, sf_high _ _, rd_own (hh1.ex e1) (hh2.ex e1) trivial fun d H2 e2 n2 r2 => ?_⟩
    have := ends0 le1 le2
    exact rd_span (r1.ex e2) r2 (by grind) fun e H3 e3 n3 sp => k e H3 _ _ ((e1.trans e2).trans e3) sp this.1 this.2
theorem ok_ssub (T : Txt K mg A) : FnOk P w K mg base CX0 5 A.f_ssub A.d_ssub ["self", "other"] (spSBin A 1) := by
  refine T.F_ssub.ok sc_ssub (fun vs H Q E h => ?_) (fun cdv Ar outer s H vs Q E hr h => ?_)
  · obtain ⟨a, b, x1, y1, x2, y2, rfl, _⟩ := h
    rfl
  · obtain ⟨a, b, x1, y1, x2, y2, rfl, ⟨dx, l1, h1, ha, hl1, hh1⟩, ⟨dy, l2, h2, hb, hl2, hh2⟩, le1, le2, k⟩ := h
    refine ⟨_, (pss_one (ps_ret (pe_make T.mkS (ok_sinit T) (hr.mono (by decide)) rfl T.g_Span T.b_sinit .nil pass0 (pa_cons (pe_op (op_own T.sf T.m_sub.at_ T.m_sub.fn (ok_sub T) (hr.mono (by decide)) T.b_sub pass0) (pe_fld (pv 0) rfl) (pe_fld (pv 1) rfl)) (pa_cons (pe_op (op_own T.sf T.m_sub.at_ T.m_sub.fn (ok_sub T) (hr.mono (by decide)) T.b_sub pass0) (pe_fld (pv 0) rfl) (pe_fld (pv 1) rfl)) pa_nil))))), ?_⟩
    refine ⟨_, rfl, _, _, _, _, _, rfl, ha, T.cS, T.nL, sf_low _ _, _, rfl, _, _, _, _, _, rfl, hb, T.cS, T.nH, sf_high _ _, rd_own hl1 hh2 trivial fun c H1 e1 n1 r1 => ?_⟩
    refine ⟨_, rfl, _, _, _, _, _, rfl, e1 _ _ ha, T.cS, T.nH, sf_high _ _, _, rfl, _, _, _, _, _, rfl, e1 _ _ hb, T.cS, T.nL, sf_low _ _, rd_own (hh1.ex e1) (hl2.ex e1) trivial fun d H2 e2 n2 r2 => ?_⟩
    have := ends1 le1 le2
    exact rd_span (r1.ex e2) r2 (by grind) fun e H3 e3 n3 sp => k e H3 _ _ ((e1.trans e2).trans e3) sp this.1 this.2
def spSNeg (A : Ad) : Sp := fun vs H Q _ => ∃ (a : Addr) (x y : Rat), vs = [.ref a] ∧ SpV A.S A.C H 1000 a x y ∧ x ≤ y ∧ ∀ c H', Ex H H' → SpV A.S A.C H' 2001 c (-y) (-x) → Q (.ref c) H'
theorem ok_sneg (T : Txt K mg A) : FnOk P w K mg base CX0 5 A.f_sneg A.d_sneg ["self"] (spSNeg A) := by
  refine T.F_sneg.ok sc_sneg (fun vs H Q E h => ?_) (fun cdv Ar outer s H vs Q E hr h => ?_)
  · obtain ⟨a, x, y, rfl, _⟩ := h
    rfl
  · obtain ⟨a, x, y, rfl, ⟨dx, l1, h1, ha, hl1, hh1⟩, le, k⟩ := h
    refine ⟨_, (pss_one (ps_ret (pe_make T.mkS (ok_sinit T) (hr.mono (by decide)) rfl T.g_Span T.b_sinit .nil pass0 (pa_cons (pe_un (un_own T.m_neg.at_ T.m_neg.fn (ok_neg T) (hr.mono (by decide)) T.b_neg pass0) (pe_fld (pv 0) rfl)) (pa_cons (pe_un (un_own T.m_neg.at_ T.m_neg.fn (ok_neg T) (hr.mono (by decide)) T.b_neg pass0) (pe_fld (pv 0) rfl)) pa_nil))))), ?_⟩
    refine ⟨_, rfl, _, _, _, _, _, rfl, ha, T.cS, T.nH, sf_high _ _, rd_neg hh1 fun c H1 e1 n1 r1 => ?_⟩
    refine ⟨_, rfl, _, _, _, _, _, rfl, e1 _ _ ha, T.cS, T.nL, sf_low _ _, rd_neg (hl1.ex e1) fun d H2 e2 n2 r2 => ?_⟩
    exact rd_span (r1.ex e2) r2 (by grind) fun e H3 e3 n3 sp => k e H3 ((e1.trans e2).trans e3) sp
theorem ok_sleast (T : Txt K mg A) : FnOk P w K mg base CX0 5 A.f_sleast A.d_sleast ["self", "other"] (spSBin A 3) := by
  refine T.F_sleast.ok sc_sleast (fun vs H Q E h => ?_) (fun cdv Ar outer s H vs Q E hr h => ?_)
  · obtain ⟨a, b, x1, y1, x2, y2, rfl, _⟩ := h
    rfl
  · obtain ⟨a, b, x1, y1, x2, y2, rfl, ⟨dx, l1, h1, ha, hl1, hh1⟩, ⟨dy, l2, h2, hb, hl2, hh2⟩, le1, le2, k⟩ := h
    refine ⟨_, (pss_one (ps_ret (pe_make T.mkS (ok_sinit T) (hr.mono (by decide)) rfl T.g_Span T.b_sinit .nil pass0 (pa_cons (pe_call (ok_lesser T) (hr.mono (by decide)) rfl T.g_lesser T.F_lesser.kp T.b_lesser .nil pass0 (pa_cons (pe_fld (pv 0) rfl) (pa_cons (pe_fld (pv 1) rfl) pa_nil))) (pa_cons (pe_call (ok_lesser T) (hr.mono (by decide)) rfl T.g_lesser T.F_lesser.kp T.b_lesser .nil pass0 (pa_cons (pe_fld (pv 0) rfl) (pa_cons (pe_fld (pv 1) rfl) pa_nil))) pa_nil))))), ?_⟩
    refine ⟨_, rfl, _, _, _, _, _, rfl, ha, T.cS, T.nL, sf_low _ _, _, rfl, _, _, _, _, _, rfl, hb, T.cS, T.nL, sf_low _ _, l1, l2, x1, x2, rfl, hl1.mono (by decide), hl2.mono (by decide), fun c r1 => ?_⟩
    refine ⟨_, rfl, _, _, _, _, _, rfl, ha, T.cS, T.nH, sf_high _ _, _, rfl, _, _, _, _, _, rfl, hb, T.cS, T.nH, sf_high _ _, h1, h2, y1, y2, rfl, hh1.mono (by decide), hh2.mono (by decide), fun d r2 => ?_⟩
    have := ends3 le1 le2
    exact rd_span r1 r2 (by unfold lsR; grind) fun e H3 e3 n3 sp => k e H3 _ _ e3 sp this.1 this.2
theorem ok_sgreatest (T : Txt K mg A) : FnOk P w K mg base CX0 5 A.f_sgreatest A.d_sgreatest ["self", "other"] (spSBin A 4) := by
  refine T.F_sgreatest.ok sc_sgreatest (fun vs H Q E h => ?_) (fun cdv Ar outer s H vs Q E hr h => ?_)
  · obtain ⟨a, b, x1, y1, x2, y2, rfl, _⟩ := h
    rfl
  · obtain ⟨a, b, x1, y1, x2, y2, rfl, ⟨dx, l1, h1, ha, hl1, hh1⟩, ⟨dy, l2, h2, hb, hl2, hh2⟩, le1, le2, k⟩ := h
    refine ⟨_, (pss_one (ps_ret (pe_make T.mkS (ok_sinit T) (hr.mono (by decide)) rfl T.g_Span T.b_sinit .nil pass0 (pa_cons (pe_call (ok_greater T) (hr.mono (by decide)) rfl T.g_greater T.F_greater.kp T.b_greater .nil pass0 (pa_cons (pe_fld (pv 0) rfl) (pa_cons (pe_fld (pv 1) rfl) pa_nil))) (pa_cons (pe_call (ok_greater T) (hr.mono (by decide)) rfl T.g_greater T.F_greater.kp T.b_greater .nil pass0 (pa_cons (pe_fld (pv 0) rfl) (pa_cons (pe_fld (pv 1) rfl) pa_nil))) pa_nil))))), ?_⟩
    refine ⟨_, rfl, _, _, _, _, _, rfl, ha, T.cS, T.nL, sf_low _ _, _, rfl, _, _, _, _, _, rfl, hb, T.cS, T.nL, sf_low _ _, l1, l2, x1, x2, rfl, hl1.mono (by decide), hl2.mono (by decide), fun c r1 => ?_⟩
    refine ⟨_, rfl, _, _, _, _, _, rfl, ha, T.cS, T.nH, sf_high _ _, _, rfl, _, _, _, _, _, rfl, hb, T.cS, T.nH, sf_high _ _, h1, h2, y1, y2, rfl, hh1.mono (by decide), hh2.mono (by decide), fun d r2 => ?_⟩
    have := ends4 le1 le2
    exact rd_span r1 r2 (by unfold gtR; grind) fun e H3 e3 n3 sp => k e H3 _ _ e3 sp this.1 this.2
def spCont (A : Ad) : Sp := fun vs H Q _ => ∃ (s r : Addr) (x y v : Rat), vs = [.ref s, .ref r] ∧ SpV A.S A.C H 2001 s x y ∧ RatV A.C H 2001 r v ∧ Q (.bl (decide (x ≤ v) && decide (v ≤ y))) H
theorem ok_scontains (T : Txt K mg A) : FnOk P w K mg base CX0 2 A.f_scontains A.d_scontains ["self", "x"] (spCont A) := by
  refine T.F_scontains.ok sc_scontains (fun vs H Q E h => ?_) (fun cdv Ar outer s H vs Q E hr h => ?_)
  · obtain ⟨s, r, x, y, v, rfl, _⟩ := h
    rfl
  · obtain ⟨s, r, x, y, v, rfl, ⟨dx, l, h, hs, hl, hh⟩, hv, k⟩ := h
    refine ⟨_, (pss_one (ps_ret (pe_and (pe_cmpR op_le (pe_meth (pe_fld (pv 0) rfl) T.cl T.m_compare (ok_compare T) (hr.mono (by decide)) T.b_compare .nil pass0 (pa_cons (pv 1) pa_nil)) pe_int (nomark _)) (pe_one (pe_cmpR op_ge (pe_meth (pe_fld (pv 0) rfl) T.cl T.m_compare (ok_compare T) (hr.mono (by decide)) T.b_compare .nil pass0 (pa_cons (pv 1) pa_nil)) pe_int (nomark _)))))), ?_⟩
    obtain ⟨p, ⟨dl, hp⟩, rp⟩ := id hl
    obtain ⟨q, ⟨dh, hq⟩, rq⟩ := id hh
    refine ⟨_, rfl, _, _, _, _, _, rfl, hs, T.cS, T.nL, sf_low _ _, l, dl, _, rfl, hp, np_compare _, _, rfl, l, r, x, v, rfl, hl, hv, _, _, rfl, rfl, ?_⟩
    by_cases c : x ≤ v
    · refine ⟨true, congrArg V.bl (decide_eq_true (cmpR_np.mpr c)), ?_⟩
      refine ⟨_, rfl, _, _, _, _, _, rfl, hs, T.cS, T.nH, sf_high _ _, h, dh, _, rfl, hq, np_compare _, _, rfl, h, r, y, v, rfl, hh, hv, _, _, rfl, rfl, ?_⟩
      have e : decide (0 ≤ cmpR y v) = decide (v ≤ y) := decide_eq_decide.mpr cmpR_nn
      rw [decide_eq_true c, Bool.true_and, ← e] at k
      exact k
    · refine ⟨false, congrArg V.bl (decide_eq_false (fun z => c (cmpR_np.mp z))), ?_⟩
      rw [decide_eq_false c, Bool.false_and] at k
      exact k
theorem ok_smul (T : Txt K mg A) : FnOk P w K mg base CX0 5 A.f_smul A.d_smul ["self", "other"] (spSBin A 2) := by
  refine T.F_smul.ok sc_smul (fun vs H Q E h => ?_) (fun cdv Ar outer s H vs Q E hr h => ?_)
  · obtain ⟨a, b, x1, y1, x2, y2, rfl, _⟩ := h
    rfl
  · obtain ⟨a, b, x1, y1, x2, y2, rfl, ⟨dx, l1, h1, ha, hl1, hh1⟩, ⟨dy, l2, h2, hb, hl2, hh2⟩, le1, le2, k⟩ := h
    refine ⟨_, (pss_one (ps_ret (pe_call (ok_around T) (hr.mono (by decide)) rfl T.g_around T.F_around.kp T.b_around .nil pass0 (pa_cons (pe_lc2 (own := [("x", 2), ("y", 3)]) (vs1 := [3]) (g := gName 2) (g1 := gName 3) (wi1 := iTup K (tTup (tCons (tFld K (tVar 1) "low") (tCons (tFld K (tVar 1) "high") tNil)))) (tt := tYes) (tt1 := tYes) rfl sc_smul.nd (pi_tup (pe_tup (pa_cons (pe_fld (pv 0) rfl) (pa_cons (pe_fld (pv 0) rfl) pa_nil)))) (blkOk_by (own := [("x", 2), ("y", 3)]) (N := N_smul) (sc := defScope S_smul) (by decide +kernel)) (by decide) (fun _ _ _ _ _ => pg_name (i := 2) sc_smul.nd rfl (Or.inl rfl)) (fun _ _ _ _ _ => pts_nil) (fun _ _ _ _ _ => pi_tup (pe_tup (pa_cons (pe_fld (pv 1) rfl) (pa_cons (pe_fld (pv 1) rfl) pa_nil)))) (fun _ _ _ _ _ => pg_name (i := 3) sc_smul.nd rfl (Or.inl rfl)) (fun _ _ _ _ _ => pts_nil) (fun _ _ _ _ _ => (pe_op (op_own T.sf T.m_mul.at_ T.m_mul.fn (ok_mul T) (hr.mono (by decide)) T.b_mul pass0) (pv 2) (pv 3)))) pa_nil)))), ?_⟩
    delta tRet tCall tCons
    refine lc22 (K := K) (C := A.C) (f := fun x y => x * y) (G := fun _ => True) hl1 hh1 hl2 hh2 trivial trivial ?_ ?_ ?_ ?_
    · exact fun R k => ⟨_, rfl, _, _, _, _, _, rfl, ha, T.cS, T.nL, sf_low _ _, _, rfl, _, _, _, _, _, rfl, ha, T.cS, T.nH, sf_high _ _, (by show 2 ≤ sizeLine; exact sz2), fun t ht => ⟨t, rfl, ⟨_, SqT.of upd_same⟩, k t _ (Ex.new ht) upd_same⟩⟩
    · exact fun u H2 R ex k => ⟨_, rfl, _, _, _, _, _, rfl, ex _ _ hb, T.cS, T.nL, sf_low _ _, _, rfl, _, _, _, _, _, rfl, ex _ _ hb, T.cS, T.nH, sf_high _ _, (by show 2 ≤ sizeLine; exact sz2), fun t ht => ⟨t, rfl, ⟨_, SqT.of upd_same⟩, k t _ (Ex.new ht) upd_same⟩⟩
    · exact fun u v ru rv H2 R hu hv _ k => ⟨_, rfl, _, rfl, rd_own hu hv trivial k⟩
    · intro L H1 ys e1 hL ft
      refine ⟨L, ys, _, rfl, hL, ft, (by show 0 < 4; decide), fun c H2 l u e2 n2 sp m1 m2 all => ?_⟩
      have := cor_of (op := 2) (f := fun x y => x * y) (fun x y => rfl) m1 m2 all
      exact k c H2 l u (e1.trans e2) sp this.1 this.2
def spSDiv (A : Ad) : Sp := fun vs H Q E => ∃ (a b : Addr) (x1 y1 x2 y2 : Rat), vs = [.ref a, .ref b] ∧ SpV A.S A.C H 1000 a x1 y1 ∧ SpV A.S A.C H 1000 b x2 y2 ∧ x1 ≤ y1 ∧ x2 ≤ y2 ∧
  ((x2 ≤ 0 ∧ 0 ≤ y2) → ∀ H', Ex H H' → E (.ref A.Z) none H') ∧
  (¬ (x2 ≤ 0 ∧ 0 ≤ y2) → ∀ c H' l u, Ex H H' → SpV A.S A.C H' 2001 c l u → Lst 5 x1 y1 x2 y2 l → Grt 5 x1 y1 x2 y2 u → Q (.ref c) H')
theorem ok_sdivided (T : Txt K mg A) : FnOk P w K mg base (L2.CX P w) 5 A.f_sdivided A.d_sdivided ["self", "other"] (spSDiv A) := by
  obtain ⟨ds, vds, b2⟩ := T.b_init2
  refine T.F_sdivided.okX sc_sdivided (fun vs H Q E h => ?_) (fun cdv Ar outer s H vs Q E hr h => ?_)
  · obtain ⟨a, b, x1, y1, x2, y2, rfl, _⟩ := h
    rfl
  · obtain ⟨a, b, x1, y1, x2, y2, rfl, ⟨dx, l1, h1, ha, hl1, hh1⟩, ⟨dy, l2, h2, hb, hl2, hh2⟩, le1, le2, k0, k⟩ := h
    refine ⟨_, (pss_cons (ps_if (pt_cmpR (op_in T.m_scontains.at_ T.m_scontains.fn (ok_scontains T) (hr.mono (by decide)) T.b_scontains pass0) (pe_make T.mkC (ok_init T) (hr.mono (by decide)) rfl T.g_Ratio b2 vds passL (pa_cons pe_int pa_nil)) (pv 1) (by with_unfolding_all rfl))
      (pss_one (ps_raise rfl (takes_of rfl rfl rfl rfl) (pmk_bare PySem.F.excBase_ValueError T.xZ T.g_Z T.kZ (raises_own T.bZ T.tZ) rfl))) pss_nil)
      (pss_one (ps_ret (pe_call (ok_around T) (hr.mono (by decide)) rfl T.g_around T.F_around.kp T.b_around .nil pass0 (pa_cons (pe_lc2 (own := [("x", 2), ("y", 3)]) (vs1 := [3]) (g := gName 2) (g1 := gName 3) (wi1 := iTup K (tTup (tCons (tFld K (tVar 1) "low") (tCons (tFld K (tVar 1) "high") tNil)))) (tt := tYes) (tt1 := tYes) rfl sc_sdivided.nd (pi_tup (pe_tup (pa_cons (pe_fld (pv 0) rfl) (pa_cons (pe_fld (pv 0) rfl) pa_nil)))) (blkOk_by (own := [("x", 2), ("y", 3)]) (N := N_sdivided) (sc := defScope S_sdivided) (by decide +kernel)) (by decide) (fun _ _ _ _ _ => pg_name (i := 2) sc_sdivided.nd rfl (Or.inl rfl)) (fun _ _ _ _ _ => pts_nil) (fun _ _ _ _ _ => pi_tup (pe_tup (pa_cons (pe_fld (pv 1) rfl) (pa_cons (pe_fld (pv 1) rfl) pa_nil)))) (fun _ _ _ _ _ => pg_name (i := 3) sc_sdivided.nd rfl (Or.inl rfl)) (fun _ _ _ _ _ => pts_nil) (fun _ _ _ _ _ => (pe_meth (pv 2) T.cl T.m_divided (ok_divided T) (hr.mono (by decide)) T.b_divided .nil pass0 (pa_cons (pv 3) pa_nil)))) pa_nil))))), ?_⟩
    intro z dz nz ndz nez
    refine ⟨z, dz, _, _, rfl, upd_same, fun n => absurd n (by decide), fun _ => ⟨bd_of (show (1 : Int).natAbs < 2 ^ 8900 from Nat.one_lt_two_pow (by decide)), fun G1 rz kp => ⟨rfl, ?_⟩⟩⟩
    have E1 : Ex H G1 := Same.made nz ndz kp
    clear kp
    have hz : RatV A.C G1 2001 z 0 := by
      refine .lo rz (bd_of (by show (0 : Int).natAbs < 2 ^ 2001; exact Nat.two_pow_pos _)) (bd_of (by show (1 : Int).natAbs < 2 ^ 2001; exact Nat.one_lt_two_pow (by decide))) (by decide) ?_
      grind
    refine ⟨_, rfl, b, dy, _, rfl, E1 _ _ hb, b, z, x2, y2, 0, rfl, ⟨dy, l2, h2, E1 _ _ hb, (hl2.ex E1).mono (by decide), (hh2.ex E1).mono (by decide)⟩, hz, _, rfl, _, rfl, ?_⟩
    by_cases c : x2 ≤ 0 ∧ 0 ≤ y2
    · exact ite2 (fun _ => k0 c G1 E1) (fun n => absurd (by rw [decide_eq_true c.1, decide_eq_true c.2]; rfl) n)
    refine ite2 (fun n => absurd ?_ c) (fun _ => ?_)
    · exact ⟨of_decide_eq_true (Bool.and_eq_true_iff.mp n).1, of_decide_eq_true (Bool.and_eq_true_iff.mp n).2⟩
    delta tNext tRet tCall tCons
    dsimp only
    refine lc22 (K := K) (C := A.C) (f := fun x y => x / y) (G := fun y => y ≠ 0) (hl1.ex E1) (hh1.ex E1) (hl2.ex E1) (hh2.ex E1) (by grind) (by grind) ?_ ?_ ?_ ?_
    · exact fun R k => ⟨_, rfl, _, _, _, _, _, rfl, E1 _ _ ha, T.cS, T.nL, sf_low _ _, _, rfl, _, _, _, _, _, rfl, E1 _ _ ha, T.cS, T.nH, sf_high _ _, (by show 2 ≤ sizeLine; exact sz2), fun t ht => ⟨t, rfl, ⟨_, SqT.of upd_same⟩, k t _ (Ex.new ht) upd_same⟩⟩
    · exact fun u H2 R ex k => ⟨_, rfl, _, _, _, _, _, rfl, ex _ _ (E1 _ _ hb), T.cS, T.nL, sf_low _ _, _, rfl, _, _, _, _, _, rfl, ex _ _ (E1 _ _ hb), T.cS, T.nH, sf_high _ _, (by show 2 ≤ sizeLine; exact sz2), fun t ht => ⟨t, rfl, ⟨_, SqT.of upd_same⟩, k t _ (Ex.new ht) upd_same⟩⟩
    · intro u v ru rv H2 R hu hv g k
      obtain ⟨p, ⟨du, hu'⟩, rp⟩ := id hu
      exact ⟨_, rfl, u, du, _, rfl, hu', rf_no _ (by decide +kernel) (by decide +kernel), _, rfl, u, v, ru, rv, rfl, hu, hv, g, k⟩
    · intro L H1 ys e1 hL ft
      refine ⟨L, ys, _, rfl, hL, ft, (by show 0 < 4; decide), fun d H2 l u e2 n2 sp m1 m2 all => ?_⟩
      have := cor_of (op := 5) (f := fun x y => x / y) (fun x y => rfl) m1 m2 all
      exact k c d H2 l u ((E1.trans e1).trans e2) sp this.1 this.2
end
end Fc
set_option Elab.async false
set_option linter.all false
set_option maxRecDepth 100000
set_option maxHeartbeats 4000000
set_option exponentiation.threshold 100000
namespace Fc
open PySem PySem.Spec PyProof.Rows L2
section
variable {P : Program} {w : World} {K : PySem.W.Frag} {mg : Str → Option Value} {base : Heap} {A : Ad}
/-! ### the law's own fractions -/
def spLess : Sp := fun vs H Q _ => ∃ (a b : Addr) (x y : Rat), vs = [.ref a, .ref b] ∧ PrV H 600 a x ∧ PrV H 600 b y ∧ Q (.bl (decide (x < y))) H
theorem ok_less (T : Txt K mg A) : FnOk P w K mg base CX0 1 A.f_less A.d_less ["p", "q"] spLess := by
  refine T.F_less.ok sc_less (fun vs H Q E h => ?_) (fun cdv Ar outer s H vs Q E hr h => ?_)
  · obtain ⟨a, b, x, y, rfl, _⟩ := h
    rfl
  · obtain ⟨a, b, x, y, rfl, ⟨p, hp, sp, rfl⟩, ⟨q, hq, sq, rfl⟩, k⟩ := h
    refine ⟨_, (pss_one (ps_ret (pe_cmpR op_lt (pe_op op_mulW (pe_ix ix_tup (pv 0) pe_int (fun _ _ => rfl)) (pe_ix ix_tup (pv 1) pe_int (fun _ _ => rfl))) (pe_op op_mulW (pe_ix ix_tup (pv 1) pe_int (fun _ _ => rfl)) (pe_ix ix_tup (pv 0) pe_int (fun _ _ => rfl))) (nomark _)))), ?_⟩
    refine ⟨_, rfl, _, _, _, _, rfl, rfl, SqT.of (hp), rfl, _, rfl, _, _, _, _, rfl, rfl, SqT.of (hq), rfl, _, _, rfl, rfl, sp.t.w sq.b, _, rfl, _, _, _, _, rfl, rfl, SqT.of (hq), rfl, _, rfl, _, _, _, _, rfl, rfl, SqT.of (hp), rfl, _, _, rfl, rfl, sq.t.w sp.b, _, _, rfl, rfl, ?_⟩
    have e : decide (p.1 * q.2 < q.1 * p.2) = decide (vl p < vl q) := decide_eq_decide.mpr (vl_lt sp.pos sq.pos).symm
    rw [← e] at k
    exact k
def spPlus : Sp := fun vs H Q _ => ∃ (a b : Addr) (x y : Rat) (n m : Nat), vs = [.ref a, .ref b] ∧ PrV H n a x ∧ PrV H m b y ∧ 0 < n ∧ 0 < m ∧ n + m ≤ 10000 ∧ ∀ c H', Ex H H' → H c = none → PrV H' (n + m + 1) c (x + y) → Q (.ref c) H'
theorem ok_plus (T : Txt K mg A) : FnOk P w K mg base CX0 1 A.f_plus A.d_plus ["p", "q"] spPlus := by
  refine T.F_plus.ok sc_plus (fun vs H Q E h => ?_) (fun cdv Ar outer s H vs Q E hr h => ?_)
  · obtain ⟨a, b, x, y, n, m, rfl, _⟩ := h
    rfl
  · obtain ⟨a, b, x, y, n, m, rfl, ⟨p, hp, sp, rfl⟩, ⟨q, hq, sq, rfl⟩, n0, m0, nm, k⟩ := h
    refine ⟨_, (pss_one (ps_ret (pe_tup (pa_cons (pe_op op_add (pe_op op_mulW (pe_ix ix_tup (pv 0) pe_int (fun _ _ => rfl)) (pe_ix ix_tup (pv 1) pe_int (fun _ _ => rfl))) (pe_op op_mulW (pe_ix ix_tup (pv 1) pe_int (fun _ _ => rfl)) (pe_ix ix_tup (pv 0) pe_int (fun _ _ => rfl)))) (pa_cons (pe_op op_mulW (pe_ix ix_tup (pv 0) pe_int (fun _ _ => rfl)) (pe_ix ix_tup (pv 1) pe_int (fun _ _ => rfl))) pa_nil))))), ?_⟩
    refine ⟨_, rfl, _, _, _, _, rfl, rfl, SqT.of (hp), rfl, _, rfl, _, _, _, _, rfl, rfl, SqT.of (hq), rfl, _, _, rfl, rfl, sp.t.w sq.b n0 m0 (by omega), _, rfl, _, _, _, _, rfl, rfl, SqT.of (hq), rfl, _, rfl, _, _, _, _, rfl, rfl, SqT.of (hp), rfl, _, _, rfl, rfl, sq.t.w sp.b m0 n0 (by omega), _, _, rfl, rfl, _, rfl, _, _, _, _, rfl, rfl, SqT.of (hp), rfl, _, rfl, _, _, _, _, rfl, rfl, SqT.of (hq), rfl, _, _, rfl, rfl, sp.b.w sq.b n0 m0 (by omega), (by show 2 ≤ sizeLine; exact sz2), fun u hu => ?_⟩
    refine k u _ (Ex.new hu) hu ⟨(p.1 * q.2 + q.1 * p.2, p.2 * q.2), upd_same, ⟨(sp.t.mul sq.b).add ((sq.t.mul sp.b).mono (by omega)), (sp.b.mul sq.b).mono (by omega), Int.mul_pos sp.pos sq.pos⟩, v_add sp.ne sq.ne⟩
/-- the ends of a span, as the law holds them -/
def EnV (H : Hp) (t : Addr) (x y : Rat) : Prop := ∃ a b, H t = some (.tup [.ref a, .ref b]) ∧ PrV H 83 a x ∧ PrV H 83 b y
theorem EnV.ex {H H' : Hp} {t : Addr} {x y : Rat} (h : EnV H t x y) (e : Ex H H') : EnV H' t x y := let ⟨a, b, z, u, v⟩ := h; ⟨a, b, e _ _ z, u.ex e, v.ex e⟩
theorem EnV.keep {H H' : Hp} {t p : Addr} {x y : Rat} (h : EnV H t x y) (pt : PotAt H p) (k : Keep p H H') : EnV H' t x y := by
  obtain ⟨a, b, z, u, v⟩ := h
  refine ⟨a, b, k _ _ z ?_, u.keep pt k, v.keep pt k⟩
  obtain ⟨l, cs, i, c, ne, h1, h2, _⟩ := pt
  exact ne_of z h1 (by intro z; cases z)
theorem Keep.newk {p t : Addr} {H H' : Hp} {o : HO} (k : Keep p H H') (n : H' t = none) : Keep p H (L2.upd H' t o) := k.trans (Keep.new n)
theorem PrV.new {H : Hp} {u : Addr} {n : Nat} (q : Int × Int) (s : Sm n q) : PrV (upd H u (.tup [.int q.1, .int q.2])) n u (vl q) := ⟨q, upd_same, s, rfl⟩
def spEnds : Sp := fun vs H Q _ => ∃ (p : Addr) (sh : Int), vs = [.ref p, .int sh] ∧ PotAt H p ∧ ∀ t x y H', EnV H' t x y → x ≤ y → PotAt H' p → Keep p H H' → Q (.ref t) H'
abbrev ab (z : Int) : Int := if z < 0 then -z else z
theorem Bd.ab {n : Nat} {z : Int} (h : Bd n z) : Bd n (ab z) := h.abs (by unfold Fc.ab; split <;> omega)
theorem ab_nn (z : Int) : 0 ≤ ab z := by unfold Fc.ab; split <;> omega
theorem one41 : Bd 41 (1 : Int) := bd_of (by decide)
theorem zer41 : Bd 41 (0 : Int) := bd_of (by decide)
theorem ok_ends (T : Txt K mg A) : FnOk P w K mg base CX0 3 A.f_ends A.d_ends ["pot", "shift"] spEnds := by
  refine T.F_ends.ok sc_ends (fun vs H Q E h => ?_) (fun cdv Ar outer s H vs Q E hr h => ?_)
  · obtain ⟨p, sh, rfl, _⟩ := h
    rfl
  · obtain ⟨pt, sh, rfl, pot, k⟩ := h
    refine ⟨_, (pss_cons (ps_set (i := 2) sc_ends.nd rfl (Or.inl rfl) (pe_op op_mod (pe_callTy call_int1 (by rfl) T.n_int (by decide +kernel) (pa_cons (pe_op op_add (pe_call (ok_digit T) (hr.mono (by decide)) rfl T.g_digit T.F_digit.kp T.b_digit .nil pass0 (pa_cons (pv 0) (pa_cons pe_int pa_nil))) (pv 1)) pa_nil)) pe_int))
      (C8.pss_cut (ps_set (i := 3) sc_ends.nd rfl (Or.inl rfl) (pe_call (ok_fraction T) (hr.mono (by decide)) rfl T.g_fraction T.F_fraction.kp T.b_fraction .nil pass0 (pa_cons (pv 0) pa_nil)))
      (pss_cons (ps_if (pt_cmpR op_eq (pv 2) pe_int (nomark _))
      (pss_one (ps_ret (pe_tup (pa_cons (pv 3) (pa_cons (pv 3) pa_nil))))) pss_nil)
      (C8.pss_cut (ps_set (i := 4) sc_ends.nd rfl (Or.inl rfl) (pe_call (ok_fraction T) (hr.mono (by decide)) rfl T.g_fraction T.F_fraction.kp T.b_fraction .nil pass0 (pa_cons (pv 0) pa_nil)))
      (pss_cons (ps_if (pt_cmpR op_eq (pv 2) pe_int (nomark _))
      (pss_one (ps_ret (pe_tup (pa_cons (pv 3) (pa_cons (pe_call (ok_plus T) (hr.mono (by decide)) rfl T.g_plus T.F_plus.kp T.b_plus .nil pass0 (pa_cons (pv 3) (pa_cons (pe_tup (pa_cons (pe_callB call_abs (by rfl) T.n_abs (by decide +kernel) (pa_cons (pe_ix ix_tup (pv 4) pe_int (fun _ _ => rfl)) pa_nil)) (pa_cons (pe_ix ix_tup (pv 4) pe_int (fun _ _ => rfl)) pa_nil))) pa_nil))) pa_nil))))) pss_nil)
      (pss_cons (ps_if (pt_cmpR op_eq (pv 2) pe_int (nomark _))
      (pss_one (ps_ret (pe_tup (pa_cons (pe_tup (pa_cons (pe_un un_neg (pe_callB call_abs (by rfl) T.n_abs (by decide +kernel) (pa_cons (pe_ix ix_tup (pv 3) pe_int (fun _ _ => rfl)) pa_nil))) (pa_cons (pe_ix ix_tup (pv 3) pe_int (fun _ _ => rfl)) pa_nil))) (pa_cons (pe_tup (pa_cons (pe_callB call_abs (by rfl) T.n_abs (by decide +kernel) (pa_cons (pe_ix ix_tup (pv 4) pe_int (fun _ _ => rfl)) pa_nil)) (pa_cons (pe_ix ix_tup (pv 4) pe_int (fun _ _ => rfl)) pa_nil))) pa_nil))))) pss_nil)
      (pss_cons (ps_if (pt_cmpR op_eq (pv 2) pe_int (nomark _))
      (pss_one (ps_ret (pe_tup (pa_cons (pe_tup (pa_cons pe_int (pa_cons pe_int pa_nil))) (pa_cons (pe_tup (pa_cons (pe_callB call_abs (by rfl) T.n_abs (by decide +kernel) (pa_cons (pe_ix ix_tup (pv 4) pe_int (fun _ _ => rfl)) pa_nil)) (pa_cons (pe_ix ix_tup (pv 4) pe_int (fun _ _ => rfl)) pa_nil))) pa_nil))))) pss_nil)
      (pss_cons (ps_if (pt_cmpR op_eq (pv 2) pe_int (nomark _))
      (pss_one (ps_ret (pe_tup (pa_cons (pe_tup (pa_cons (pe_un un_neg (pe_callB call_abs (by rfl) T.n_abs (by decide +kernel) (pa_cons (pe_ix ix_tup (pv 4) pe_int (fun _ _ => rfl)) pa_nil))) (pa_cons (pe_ix ix_tup (pv 4) pe_int (fun _ _ => rfl)) pa_nil))) (pa_cons (pe_tup (pa_cons pe_int (pa_cons pe_int pa_nil))) pa_nil))))) pss_nil)
      (pss_cons (ps_if (pt_val (pe_call (ok_less T) (hr.mono (by decide)) rfl T.g_less T.F_less.kp T.b_less .nil pass0 (pa_cons (pv 4) (pa_cons (pv 3) pa_nil))))
      (pss_one (ps_ret (pe_tup (pa_cons (pv 4) (pa_cons (pv 3) pa_nil))))) pss_nil)
      (pss_one (ps_ret (pe_tup (pa_cons (pv 3) (pa_cons (pv 4) pa_nil)))))))))))))), ?_⟩
    have fin : ∀ (a b : Addr) (x y : Rat) (H' : Hp), PrV H' 83 a x → PrV H' 83 b y → x ≤ y → PotAt H' pt → Keep pt H H' → ∀ t, H' t = none → Q (.ref t) (upd H' t (.tup [.ref a, .ref b])) := fun a b x y H' ha hb le p1 k1 t ht =>
      k t x y _ ⟨a, b, upd_same, ha.ex (Ex.new ht), hb.ex (Ex.new ht)⟩ le (p1.ex (Ex.new ht)) (k1.newk ht)
    refine ⟨_, rfl, pt, 6, rfl, pot, by decide, bd_of (by decide), fun d0 H0 a0 b0 pot0 k0 => ?_⟩
    refine ⟨_, rfl, _, _, rfl, rfl, .inl ⟨_, rfl, _, _, rfl, rfl, (by decide : (0 : Int) < 6), ?_⟩⟩
    refine ⟨fun sl H' => ∃ (a : Addr) (x : Rat) (kd : Int) (q : Int × Int), sl = [some (.ref pt), some (.int sh), some (.int kd), some (.ref a), none] ∧ Pr H' a q ∧ Sm 41 q ∧ PotAt H' pt ∧ Keep pt H H', ?_, ?_⟩
    · refine ⟨_, rfl, pt, rfl, pot0, fun t q H' hq nt sq p1 k1 => ?_⟩
      exact ⟨t, 0, _, q, rfl, hq, sq, p1, k0.trans k1⟩
    rintro sl H1 ⟨a, x, kd, q, rfl, hq, sq, p1, k1⟩
    have s83 : ∀ {r : Int × Int}, Sm 41 r → Sm 83 r := fun h => h.mono (by decide)
    refine ⟨_, rfl, rfl, _, rfl, ite2 (fun _ => ?_) (fun _ => ?_)⟩
    · exact ⟨_, rfl, _, rfl, (by show 2 ≤ sizeLine; exact sz2), fun t ht => fin a a _ _ H1 ⟨q, hq, s83 sq, rfl⟩ ⟨q, hq, s83 sq, rfl⟩ (by grind) p1 k1 t ht⟩
    refine ⟨fun sl H' => ∃ (b : Addr) (r : Int × Int), sl = [some (.ref pt), some (.int sh), some (.int kd), some (.ref a), some (.ref b)] ∧ Pr H' a q ∧ Pr H' b r ∧ Sm 41 r ∧ PotAt H' pt ∧ Keep pt H H', ?_, ?_⟩
    · refine ⟨_, rfl, pt, rfl, p1, fun t r H' hr nt sr p2 k2 => ?_⟩
      exact ⟨t, r, rfl, hq.keep p1 k2, hr, sr, p2, k1.trans k2⟩
    clear hq p1 k1
    rintro sl H1 ⟨b, r, rfl, hq, hr', sr, p1, k1⟩
    have vr := vl_mul sr.ne
    refine ⟨_, rfl, rfl, _, rfl, ite2 (fun _ => ?_) (fun _ => ?_)⟩
    · refine ⟨_, rfl, _, rfl, _, rfl, _, _, _, _, rfl, rfl, SqT.of (hr'), rfl, r.1, rfl, _, rfl, _, _, _, _, rfl, rfl, SqT.of (hr'), rfl, (by show 2 ≤ sizeLine; exact sz2), fun u hu => ?_⟩
      have hs : Sm 41 (ab r.1, r.2) := ⟨sr.t.ab, sr.b, sr.pos⟩
      refine ⟨a, u, vl q, vl (ab r.1, r.2), 41, 41, rfl, ⟨q, hq.ex (Ex.new hu), sq, rfl⟩, PrV.new (ab r.1, r.2) hs, by decide, by decide, by decide, fun c H2 e2 nc hc => ?_⟩
      refine ⟨(by show 2 ≤ sizeLine; exact sz2), fun t ht => ?_⟩
      have nn := (v_nn (q := (ab r.1, r.2)) sr.pos).mpr (ab_nn _)
      exact fin a c _ _ H2 ⟨q, (hq.ex (Ex.new hu)).ex e2, s83 sq, rfl⟩ hc (by grind) ((p1.ex (Ex.new hu)).ex e2) ((k1.newk hu).trans (Keep.of e2)) t ht
    refine ⟨_, rfl, rfl, _, rfl, ite2 (fun _ => ?_) (fun _ => ?_)⟩
    · refine ⟨_, rfl, _, _, _, _, rfl, rfl, SqT.of (hq), rfl, q.1, rfl, _, rfl, _, rfl, _, _, _, _, rfl, rfl, SqT.of (hq), rfl, (by show 2 ≤ sizeLine; exact sz2), fun u hu => ?_⟩
      have e1 : Ex H1 (upd H1 u (.tup [.int (-ab q.1), .int q.2])) := Ex.new hu
      refine ⟨_, rfl, _, _, _, _, rfl, rfl, SqT.of (e1 _ _ hr'), rfl, r.1, rfl, _, rfl, _, _, _, _, rfl, rfl, SqT.of (e1 _ _ hr'), rfl, (by show 2 ≤ sizeLine; exact sz2), fun v hv => ⟨(by show 2 ≤ sizeLine; exact sz2), fun t ht => ?_⟩⟩
      have h1 : Sm 83 (-ab q.1, q.2) := s83 ⟨sq.t.ab.neg, sq.b, sq.pos⟩
      have h2 : Sm 83 (ab r.1, r.2) := s83 ⟨sr.t.ab, sr.b, sr.pos⟩
      have n1 := (v_np (q := (-ab q.1, q.2)) sq.pos).mpr (by have := ab_nn q.1; show -ab q.1 ≤ 0; omega)
      have n2 := (v_nn (q := (ab r.1, r.2)) sr.pos).mpr (ab_nn _)
      exact fin u v _ _ _ ((PrV.new (-ab q.1, q.2) h1).ex (Ex.new hv)) (PrV.new (ab r.1, r.2) h2) (by grind) ((p1.ex e1).ex (Ex.new hv)) ((k1.newk hu).newk hv) t ht
    have z83 : Sm 83 ((0, 1) : Int × Int) := s83 ⟨zer41, one41, by decide⟩
    have zv : vl ((0, 1) : Int × Int) = 0 := (v_zero (by decide)).mpr rfl
    refine ⟨_, rfl, rfl, _, rfl, ite2 (fun _ => ?_) (fun _ => ?_)⟩
    · refine ⟨(by show 2 ≤ sizeLine; exact sz2), fun u hu => ?_⟩
      have e1 : Ex H1 (upd H1 u (.tup [.int 0, .int 1])) := Ex.new hu
      refine ⟨_, rfl, _, _, _, _, rfl, rfl, SqT.of (e1 _ _ hr'), rfl, r.1, rfl, _, rfl, _, _, _, _, rfl, rfl, SqT.of (e1 _ _ hr'), rfl, (by show 2 ≤ sizeLine; exact sz2), fun v hv => ⟨(by show 2 ≤ sizeLine; exact sz2), fun t ht => ?_⟩⟩
      have h2 : Sm 83 (ab r.1, r.2) := s83 ⟨sr.t.ab, sr.b, sr.pos⟩
      have n2 := (v_nn (q := (ab r.1, r.2)) sr.pos).mpr (ab_nn _)
      exact fin u v _ _ _ ((PrV.new (0, 1) z83).ex (Ex.new hv)) (PrV.new (ab r.1, r.2) h2) (by grind) ((p1.ex e1).ex (Ex.new hv)) ((k1.newk hu).newk hv) t ht
    refine ⟨_, rfl, rfl, _, rfl, ite2 (fun _ => ?_) (fun _ => ?_)⟩
    · refine ⟨_, rfl, _, _, _, _, rfl, rfl, SqT.of (hr'), rfl, r.1, rfl, _, rfl, _, rfl, _, _, _, _, rfl, rfl, SqT.of (hr'), rfl, (by show 2 ≤ sizeLine; exact sz2), fun u hu => ?_⟩
      refine ⟨(by show 2 ≤ sizeLine; exact sz2), fun v hv => ⟨(by show 2 ≤ sizeLine; exact sz2), fun t ht => ?_⟩⟩
      have e1 : Ex H1 (upd H1 u (.tup [.int (-ab r.1), .int r.2])) := Ex.new hu
      have h1 : Sm 83 (-ab r.1, r.2) := s83 ⟨sr.t.ab.neg, sr.b, sr.pos⟩
      have n1 := (v_np (q := (-ab r.1, r.2)) sr.pos).mpr (by have := ab_nn r.1; show -ab r.1 ≤ 0; omega)
      exact fin u v _ _ _ ((PrV.new (-ab r.1, r.2) h1).ex (Ex.new hv)) (PrV.new (0, 1) z83) (by grind) ((p1.ex e1).ex (Ex.new hv)) ((k1.newk hu).newk hv) t ht
    refine ⟨_, rfl, _, rfl, b, a, vl r, vl q, rfl, ⟨r, hr', sr.mono (by decide), rfl⟩, ⟨q, hq, sq.mono (by decide), rfl⟩, _, rfl, ?_⟩
    by_cases c : vl r < vl q
    · refine ite2 (fun _ => ?_) (fun n => absurd (decide_eq_true c) n)
      exact ⟨_, rfl, _, rfl, (by show 2 ≤ sizeLine; exact sz2), fun t ht => fin b a _ _ H1 ⟨r, hr', s83 sr, rfl⟩ ⟨q, hq, s83 sq, rfl⟩ (by grind) p1 k1 t ht⟩
    · refine ite2 (fun z => absurd (of_decide_eq_true z) c) (fun _ => ?_)
      exact ⟨_, rfl, _, rfl, (by show 2 ≤ sizeLine; exact sz2), fun t ht => fin a b _ _ H1 ⟨q, hq, s83 sq, rfl⟩ ⟨r, hr', s83 sr, rfl⟩ (by grind) p1 k1 t ht⟩
end
end Fc
set_option Elab.async false
set_option linter.all false
set_option maxRecDepth 100000
set_option maxHeartbeats 4000000
set_option exponentiation.threshold 100000
namespace Fc
open PySem PySem.Spec PyProof.Rows L2
section
variable {P : Program} {w : World} {K : PySem.W.Frag} {mg : Str → Option Value} {base : Heap} {A : Ad}
theorem sz7 : 7 ≤ sizeLine := by rw [sizeLine_eq]; decide
theorem v_six {q : Int × Int} (hq : q.2 ≠ 0) (c : Int) : vl (q.1 * c, q.2 * 6) = vl q * ((c : Rat) / 6) := by
  have e := vl_mul hq
  have n := cast_ne (Int.mul_ne_zero hq (by decide : (6 : Int) ≠ 0))
  have m := cast_ne hq
  show ((q.1 * c : Int) : Rat) / ((q.2 * 6 : Int) : Rat) = _
  refine div_is n ?_
  rw [cast_mul, cast_mul, ← e]
  show vl q * ((c : Rat) / 6) * ((q.2 : Rat) * (6 : Rat)) = _
  grind
theorem mid {x y : Rat} {c : Int} (le : x ≤ y) (c0 : 0 ≤ c) (c6 : c ≤ 6) : x ≤ x + (y + -x) * ((c : Rat) / 6) ∧ x + (y + -x) * ((c : Rat) / 6) ≤ y := by
  have a : (0 : Rat) ≤ (c : Rat) := Rat.intCast_le_intCast.mpr c0
  have b : (c : Rat) ≤ ((6 : Int) : Rat) := Rat.intCast_le_intCast.mpr c6
  have b' : (c : Rat) ≤ 6 := b
  have p := Rat.mul_nonneg (a := y + -x) (b := (c : Rat) / 6) (by grind) (by grind)
  have q := Rat.mul_nonneg (a := y + -x) (b := 1 - (c : Rat) / 6) (by grind) (by grind)
  constructor <;> grind
def spBetween : Sp := fun vs H Q _ => ∃ (pt s : Addr) (x y : Rat), vs = [.ref pt, .ref s] ∧ PotAt H pt ∧ EnV H s x y ∧ x ≤ y ∧ ∀ u v H', PrV H' 254 u v → x ≤ v → v ≤ y → PotAt H' pt → Keep pt H H' → Q (.ref u) H'
theorem ok_between (T : Txt K mg A) : FnOk P w K mg base CX0 2 A.f_between A.d_between ["pot", "s"] spBetween := by
  refine T.F_between.ok sc_between (fun vs H Q E h => ?_) (fun cdv Ar outer s H vs Q E hr h => ?_)
  · obtain ⟨pt, s, x, y, rfl, _⟩ := h
    rfl
  · obtain ⟨pt, s, x, y, rfl, pot, en, le, k⟩ := h
    refine ⟨_, (pss_cons (ps_set (i := 2) sc_between.nd rfl (Or.inl rfl) (pe_ix ix_list (pe_lst (pa_cons pe_int (pa_cons pe_int (pa_cons pe_int (pa_cons pe_int (pa_cons pe_int (pa_cons pe_int (pa_cons pe_int pa_nil)))))))) (pe_call (ok_digit T) (hr.mono (by decide)) rfl T.g_digit T.F_digit.kp T.b_digit .nil pass0 (pa_cons (pv 0) (pa_cons pe_int pa_nil))) (fun _ _ => rfl)))
      (pss_cons (ps_set (i := 3) sc_between.nd rfl (Or.inl rfl) (pe_call (ok_plus T) (hr.mono (by decide)) rfl T.g_plus T.F_plus.kp T.b_plus .nil pass0 (pa_cons (pe_ix ix_tup (pv 1) pe_int (fun _ _ => rfl)) (pa_cons (pe_tup (pa_cons (pe_un un_neg (pe_ix ix_tup (pe_ix ix_tup (pv 1) pe_int (fun _ _ => rfl)) pe_int (fun _ _ => rfl))) (pa_cons (pe_ix ix_tup (pe_ix ix_tup (pv 1) pe_int (fun _ _ => rfl)) pe_int (fun _ _ => rfl)) pa_nil))) pa_nil))))
      (pss_one (ps_ret (pe_call (ok_plus T) (hr.mono (by decide)) rfl T.g_plus T.F_plus.kp T.b_plus .nil pass0 (pa_cons (pe_ix ix_tup (pv 1) pe_int (fun _ _ => rfl)) (pa_cons (pe_tup (pa_cons (pe_op op_mulW (pe_ix ix_tup (pv 3) pe_int (fun _ _ => rfl)) (pv 2)) (pa_cons (pe_op op_mulW (pe_ix ix_tup (pv 3) pe_int (fun _ _ => rfl)) pe_int) pa_nil))) pa_nil))))))), ?_⟩
    refine ⟨(by show 7 ≤ sizeLine; exact sz7), fun L hL => ?_⟩
    have e0 : Ex H (upd H L (.lst [.int 3, .int 0, .int 6, .int 1, .int 2, .int 4, .int 5])) := Ex.new hL
    have gL : upd H L (.lst [.int 3, .int 0, .int 6, .int 1, .int 2, .int 4, .int 5]) L = some (.lst [.int 3, .int 0, .int 6, .int 1, .int 2, .int 4, .int 5]) := upd_same
    generalize upd H L (.lst [.int 3, .int 0, .int 6, .int 1, .int 2, .int 4, .int 5]) = H0 at e0 gL ⊢
    have pot0 := pot.ex e0
    have nL : L ≠ pt := fun e => by rw [e, pot.choose_spec.choose_spec.choose_spec.choose_spec.2.1] at hL; cases hL
    refine ⟨_, rfl, pt, 7, rfl, pot0, by decide, bd_of (by decide), fun d H1 d0 d7 pot1 k1 => ?_⟩
    have gL1 := k1 _ _ gL nL
    have K1 : Keep pt H H1 := (Keep.of e0).trans k1
    obtain ⟨c, hc, c0, c6, bc⟩ : ∃ c : Int, atI ([.int 3, .int 0, .int 6, .int 1, .int 2, .int 4, .int 5] : List V) d = some (.int c) ∧ 0 ≤ c ∧ c ≤ 6 ∧ Bd 3 c := by
      have : d = 0 ∨ d = 1 ∨ d = 2 ∨ d = 3 ∨ d = 4 ∨ d = 5 ∨ d = 6 := by omega
      rcases this with rfl | rfl | rfl | rfl | rfl | rfl | rfl
      · exact ⟨3, rfl, by decide, by decide, bd_of (by decide)⟩
      · exact ⟨0, rfl, by decide, by decide, bd_of (by decide)⟩
      · exact ⟨6, rfl, by decide, by decide, bd_of (by decide)⟩
      · exact ⟨1, rfl, by decide, by decide, bd_of (by decide)⟩
      · exact ⟨2, rfl, by decide, by decide, bd_of (by decide)⟩
      · exact ⟨4, rfl, by decide, by decide, bd_of (by decide)⟩
      · exact ⟨5, rfl, by decide, by decide, bd_of (by decide)⟩
    refine ⟨_, _, _, _, rfl, rfl, SqL.of gL1, hc, ?_⟩
    obtain ⟨a, b, hs, ⟨p, hp, sp, rfl⟩, ⟨q, hq, sq, rfl⟩⟩ := en.keep pot K1
    refine ⟨_, rfl, _, _, _, _, rfl, rfl, SqT.of (hs), rfl, _, rfl, _, _, _, _, rfl, rfl, SqT.of (hs), rfl, _, _, _, _, rfl, rfl, SqT.of (hp), rfl, _, rfl, _, rfl, _, _, _, _, rfl, rfl, SqT.of (hs), rfl, _, _, _, _, rfl, rfl, SqT.of (hp), rfl, (by show 2 ≤ sizeLine; exact sz2), fun u hu => ?_⟩
    have e1 : Ex H1 (upd H1 u (.tup [.int (-p.1), .int p.2])) := Ex.new hu
    have sn : Sm 83 (-p.1, p.2) := ⟨sp.t.neg, sp.b, sp.pos⟩
    have hn : PrV (upd H1 u (.tup [.int (-p.1), .int p.2])) 83 u (vl (-p.1, p.2)) := PrV.new (-p.1, p.2) sn
    have vn : vl (-p.1, p.2) = -vl p := v_neg sp.ne
    generalize upd H1 u (.tup [.int (-p.1), .int p.2]) = H2 at e1 hn ⊢
    refine ⟨b, u, vl q, vl (-p.1, p.2), 83, 83, rfl, ⟨q, e1 _ _ hq, sq, rfl⟩, hn, by decide, by decide, by decide, fun wy H3 e3 nw hw => ?_⟩
    obtain ⟨r, hr3, sr, vr⟩ := hw
    have E3 := e1.trans e3
    refine ⟨_, rfl, _, _, _, _, rfl, rfl, SqT.of (E3 _ _ hs), rfl, _, rfl, _, _, _, _, rfl, rfl, SqT.of (hr3), rfl, _, rfl, _, _, rfl, rfl, sr.t.w bc, _, rfl, _, _, _, _, rfl, rfl, SqT.of (hr3), rfl, _, _, rfl, rfl, sr.b.w (show Bd 3 (6 : Int) from bd_of (by decide)), (by show 2 ≤ sizeLine; exact sz2), fun v hv => ?_⟩
    have sm : Sm 170 (r.1 * c, r.2 * 6) := ⟨(sr.t.mul bc).mono (by decide), (sr.b.mul (show Bd 3 (6 : Int) from bd_of (by decide))).mono (by decide), Int.mul_pos sr.pos (by decide)⟩
    refine ⟨a, v, vl p, vl (r.1 * c, r.2 * 6), 83, 170, rfl, ⟨p, (E3 _ _ hp : _).trans (by rfl) |> fun z => (Ex.new hv) _ _ z, sp, rfl⟩, PrV.new (r.1 * c, r.2 * 6) sm, by decide, by decide, by decide, fun t H4 e4 nt ht => ?_⟩
    have m := mid (c := c) le c0 c6
    rw [v_six sr.ne, vr, vn] at ht
    refine k t _ H4 ht m.1 m.2 (((pot1.ex E3).ex (Ex.new hv)).ex e4) ?_
    exact (K1.trans (Keep.of E3)).trans ((Keep.new hv).trans (Keep.of e4))
theorem v_divn {p q : Int × Int} (hp : p.2 ≠ 0) (hq : q.2 ≠ 0) (h0 : q.1 ≠ 0) : ((-p.1 * q.2 : Int) : Rat) / ((-p.2 * q.1 : Int) : Rat) = vl p / vl q := by
  have e1 := vl_mul hp
  have e2 := vl_mul hq
  have n : vl q ≠ 0 := fun z => h0 ((v_zero hq).mp z)
  refine div_is (cast_ne (Int.mul_ne_zero (by omega) h0)) ?_
  rw [cast_mul, cast_mul, cast_neg, cast_neg, ← e1, ← e2]
  grind
def spOwn : Sp := fun vs H Q _ => ∃ (n : Nat) (a b : Addr) (x y : Rat), vs = [.int n, .ref a, .ref b] ∧ n ≤ 5 ∧ PrV H 254 a x ∧ PrV H 254 b y ∧ (5 ≤ n → y ≠ 0) ∧ ∀ c H', Ex H H' → PrV H' 509 c (ow n x y) → Q (.ref c) H'
theorem ok_own (T : Txt K mg A) : FnOk P w K mg base CX0 2 A.f_own A.d_own ["op", "p", "q"] spOwn := by
  refine T.F_own.ok sc_own (fun vs H Q E h => ?_) (fun cdv Ar outer s H vs Q E hr h => ?_)
  · obtain ⟨n, a, b, x, y, rfl, _⟩ := h
    rfl
  · obtain ⟨n, a, b, x, y, rfl, n5, ha, hb, y0, k⟩ := h
    refine ⟨_, (pss_cons (ps_if (pt_cmpR op_eq (pv 0) pe_int (nomark _))
      (pss_one (ps_ret (pe_call (ok_plus T) (hr.mono (by decide)) rfl T.g_plus T.F_plus.kp T.b_plus .nil pass0 (pa_cons (pv 1) (pa_cons (pv 2) pa_nil))))) pss_nil)
      (pss_cons (ps_if (pt_cmpR op_eq (pv 0) pe_int (nomark _))
      (pss_one (ps_ret (pe_call (ok_plus T) (hr.mono (by decide)) rfl T.g_plus T.F_plus.kp T.b_plus .nil pass0 (pa_cons (pv 1) (pa_cons (pe_tup (pa_cons (pe_un un_neg (pe_ix ix_tup (pv 2) pe_int (fun _ _ => rfl))) (pa_cons (pe_ix ix_tup (pv 2) pe_int (fun _ _ => rfl)) pa_nil))) pa_nil))))) pss_nil)
      (pss_cons (ps_if (pt_cmpR op_eq (pv 0) pe_int (nomark _))
      (pss_one (ps_ret (pe_tup (pa_cons (pe_op op_mulW (pe_ix ix_tup (pv 1) pe_int (fun _ _ => rfl)) (pe_ix ix_tup (pv 2) pe_int (fun _ _ => rfl))) (pa_cons (pe_op op_mulW (pe_ix ix_tup (pv 1) pe_int (fun _ _ => rfl)) (pe_ix ix_tup (pv 2) pe_int (fun _ _ => rfl))) pa_nil))))) pss_nil)
      (pss_cons (ps_if (pt_cmpR op_eq (pv 0) pe_int (nomark _))
      (pss_one (ps_ret (pe_ifExp (pt_val (pe_call (ok_less T) (hr.mono (by decide)) rfl T.g_less T.F_less.kp T.b_less .nil pass0 (pa_cons (pv 2) (pa_cons (pv 1) pa_nil)))) (pv 2) (pv 1)))) pss_nil)
      (pss_cons (ps_if (pt_cmpR op_eq (pv 0) pe_int (nomark _))
      (pss_one (ps_ret (pe_ifExp (pt_val (pe_call (ok_less T) (hr.mono (by decide)) rfl T.g_less T.F_less.kp T.b_less .nil pass0 (pa_cons (pv 1) (pa_cons (pv 2) pa_nil)))) (pv 2) (pv 1)))) pss_nil)
      (pss_cons (ps_if (pt_cmpR op_lt (pe_ix ix_tup (pv 2) pe_int (fun _ _ => rfl)) pe_int (nomark _))
      (pss_one (ps_ret (pe_tup (pa_cons (pe_op op_mulW (pe_un un_neg (pe_ix ix_tup (pv 1) pe_int (fun _ _ => rfl))) (pe_ix ix_tup (pv 2) pe_int (fun _ _ => rfl))) (pa_cons (pe_op op_mulW (pe_un un_neg (pe_ix ix_tup (pv 1) pe_int (fun _ _ => rfl))) (pe_ix ix_tup (pv 2) pe_int (fun _ _ => rfl))) pa_nil))))) pss_nil)
      (pss_one (ps_ret (pe_tup (pa_cons (pe_op op_mulW (pe_ix ix_tup (pv 1) pe_int (fun _ _ => rfl)) (pe_ix ix_tup (pv 2) pe_int (fun _ _ => rfl))) (pa_cons (pe_op op_mulW (pe_ix ix_tup (pv 1) pe_int (fun _ _ => rfl)) (pe_ix ix_tup (pv 2) pe_int (fun _ _ => rfl))) pa_nil))))))))))), ?_⟩
    have n_of : ∀ {m : Nat}, V.int (n : Int) = V.int (m : Int) → n = m := fun h => by have := V.int.inj h; omega
    obtain ⟨p, hp, sp, vp⟩ := id ha
    obtain ⟨q, hq, sq, vq⟩ := id hb
    refine ⟨_, rfl, rfl, _, rfl, ite2 (fun z => ?_) (fun z0 => ?_)⟩
    · have e := n_of (m := 0) (of_decide_eq_true z)
      subst e
      exact ⟨_, rfl, _, rfl, a, b, x, y, 254, 254, rfl, ha, hb, by decide, by decide, by decide, fun c H' e n h => k c H' e h⟩
    refine ⟨_, rfl, rfl, _, rfl, ite2 (fun z => ?_) (fun z1 => ?_)⟩
    · have e := n_of (m := 1) (of_decide_eq_true z)
      subst e
      refine ⟨_, rfl, _, rfl, _, _, _, _, rfl, rfl, SqT.of (hq), rfl, _, rfl, _, rfl, _, _, _, _, rfl, rfl, SqT.of (hq), rfl, (by show 2 ≤ sizeLine; exact sz2), fun u hu => ?_⟩
      have sn : Sm 254 (-q.1, q.2) := ⟨sq.t.neg, sq.b, sq.pos⟩
      refine ⟨a, u, x, vl (-q.1, q.2), 254, 254, rfl, ha.ex (Ex.new hu), PrV.new (-q.1, q.2) sn, by decide, by decide, by decide, fun c H' e n h => k c H' ((Ex.new hu).trans e) ?_⟩
      have vn : vl (-q.1, q.2) = -vl q := v_neg sq.ne
      rw [vn, vq] at h
      show PrV H' 509 c (x - y)
      rw [Rat.sub_eq_add_neg]
      exact h
    refine ⟨_, rfl, rfl, _, rfl, ite2 (fun z => ?_) (fun z2 => ?_)⟩
    · have e := n_of (m := 2) (of_decide_eq_true z)
      subst e
      refine ⟨_, rfl, _, _, _, _, rfl, rfl, SqT.of (hp), rfl, _, rfl, _, _, _, _, rfl, rfl, SqT.of (hq), rfl, _, _, rfl, rfl, sp.t.w sq.t, _, rfl, _, _, _, _, rfl, rfl, SqT.of (hp), rfl, _, rfl, _, _, _, _, rfl, rfl, SqT.of (hq), rfl, _, _, rfl, rfl, sp.b.w sq.b, (by show 2 ≤ sizeLine; exact sz2), fun u hu => ?_⟩
      refine k u _ (Ex.new hu) ⟨(p.1 * q.1, p.2 * q.2), upd_same, ⟨(sp.t.mul sq.t).mono (by decide), (sp.b.mul sq.b).mono (by decide), Int.mul_pos sp.pos sq.pos⟩, ?_⟩
      exact (v_mul sp.ne sq.ne).trans (by rw [vp, vq]; rfl)
    refine ⟨_, rfl, rfl, _, rfl, ite2 (fun z => ?_) (fun z3 => ?_)⟩
    · have e := n_of (m := 3) (of_decide_eq_true z)
      subst e
      refine ⟨_, rfl, _, rfl, b, a, y, x, rfl, hb.mono (by decide), ha.mono (by decide), _, rfl, ?_⟩
      have ee : ow 3 x y = if y < x then y else x := rfl
      rw [ee] at k
      by_cases c : y < x
      · rw [if_pos c] at k
        exact ite2 (fun _ => ⟨_, rfl, k b H (fun _ _ h => h) (hb.mono (by decide))⟩) (fun n => absurd (decide_eq_true c) n)
      · rw [if_neg c] at k
        exact ite2 (fun z => absurd (of_decide_eq_true z) c) (fun _ => ⟨_, rfl, k a H (fun _ _ h => h) (ha.mono (by decide))⟩)
    refine ⟨_, rfl, rfl, _, rfl, ite2 (fun z => ?_) (fun z4 => ?_)⟩
    · have e := n_of (m := 4) (of_decide_eq_true z)
      subst e
      refine ⟨_, rfl, _, rfl, a, b, x, y, rfl, ha.mono (by decide), hb.mono (by decide), _, rfl, ?_⟩
      have ee : ow 4 x y = if x < y then y else x := rfl
      rw [ee] at k
      by_cases c : x < y
      · rw [if_pos c] at k
        exact ite2 (fun _ => ⟨_, rfl, k b H (fun _ _ h => h) (hb.mono (by decide))⟩) (fun n => absurd (decide_eq_true c) n)
      · rw [if_neg c] at k
        exact ite2 (fun z => absurd (of_decide_eq_true z) c) (fun _ => ⟨_, rfl, k a H (fun _ _ h => h) (ha.mono (by decide))⟩)
    have e : n = 5 := by
      have h0 : n ≠ 0 := fun e => z0 (by rw [e]; rfl)
      have h1 : n ≠ 1 := fun e => z1 (by rw [e]; rfl)
      have h2 : n ≠ 2 := fun e => z2 (by rw [e]; rfl)
      have h3 : n ≠ 3 := fun e => z3 (by rw [e]; rfl)
      have h4 : n ≠ 4 := fun e => z4 (by rw [e]; rfl)
      omega
    subst e
    have q0 : q.1 ≠ 0 := fun z => y0 (by decide) (by rw [← vq]; exact (v_zero sq.ne).mpr z)
    have ee : ow 5 x y = x / y := rfl
    rw [ee] at k
    refine ⟨_, rfl, _, _, _, _, rfl, rfl, SqT.of (hq), rfl, _, _, rfl, rfl, _, rfl, ite2 (fun z => ?_) (fun z => ?_)⟩
    · have neg : q.1 < 0 := of_decide_eq_true z
      refine ⟨_, rfl, _, _, _, _, rfl, rfl, SqT.of (hp), rfl, _, rfl, _, rfl, _, _, _, _, rfl, rfl, SqT.of (hq), rfl, _, _, rfl, rfl, sp.t.neg.w sq.b, _, rfl, _, _, _, _, rfl, rfl, SqT.of (hp), rfl, _, rfl, _, rfl, _, _, _, _, rfl, rfl, SqT.of (hq), rfl, _, _, rfl, rfl, sp.b.neg.w sq.t, (by show 2 ≤ sizeLine; exact sz2), fun u hu => ?_⟩
      refine k u _ (Ex.new hu) ⟨(-p.1 * q.2, -p.2 * q.1), upd_same, ⟨(sp.t.neg.mul sq.b).mono (by decide), (sp.b.neg.mul sq.t).mono (by decide), Int.mul_pos_of_neg_of_neg (by have := sp.pos; omega) neg⟩, ?_⟩
      exact (v_divn sp.ne sq.ne q0).trans (by rw [vp, vq])
    · have pos : 0 < q.1 := by have : ¬ q.1 < 0 := fun y => z (decide_eq_true y); omega
      refine ⟨_, rfl, _, _, _, _, rfl, rfl, SqT.of (hp), rfl, _, rfl, _, _, _, _, rfl, rfl, SqT.of (hq), rfl, _, _, rfl, rfl, sp.t.w sq.b, _, rfl, _, _, _, _, rfl, rfl, SqT.of (hp), rfl, _, rfl, _, _, _, _, rfl, rfl, SqT.of (hq), rfl, _, _, rfl, rfl, sp.b.w sq.t, (by show 2 ≤ sizeLine; exact sz2), fun u hu => ?_⟩
      refine k u _ (Ex.new hu) ⟨(p.1 * q.2, p.2 * q.1), upd_same, ⟨(sp.t.mul sq.b).mono (by decide), (sp.b.mul sq.t).mono (by decide), Int.mul_pos sp.pos pos⟩, ?_⟩
      exact (v_div sp.ne sq.ne q0).trans (by rw [vp, vq])
theorem rd_ownS {op : Nat} {a b : Addr} {x1 y1 x2 y2 : Rat} {H : Hp} {Q : VK} {E : XK} (ha : SpV A.S A.C H 1000 a x1 y1) (hb : SpV A.S A.C H 1000 b x2 y2) (le1 : x1 ≤ y1) (le2 : x2 ≤ y2)
    (k : ∀ c H' l u, Ex H H' → SpV A.S A.C H' 2001 c l u → Lst op x1 y1 x2 y2 l → Grt op x1 y1 x2 y2 u → Q (.ref c) H') : rOwn A.S (spSBin A op) E (.ref a) (.ref b) H Q := by
  obtain ⟨dx, l1, h1, i1, _⟩ := id ha
  obtain ⟨dy, l2, h2, i2, _⟩ := id hb
  exact ⟨a, b, dx, dy, _, _, rfl, rfl, i1, i2, a, b, x1, y1, x2, y2, rfl, ha, hb, le1, le2, k⟩
def spAsked (A : Ad) : Sp := fun vs H Q _ => ∃ (n : Nat) (a b : Addr) (x1 y1 x2 y2 : Rat), vs = [.int n, .ref a, .ref b] ∧ n ≤ 5 ∧ SpV A.S A.C H 1000 a x1 y1 ∧ SpV A.S A.C H 1000 b x2 y2 ∧ x1 ≤ y1 ∧ x2 ≤ y2 ∧ (5 ≤ n → ¬ (x2 ≤ 0 ∧ 0 ≤ y2)) ∧
  ∀ c H' l u, Ex H H' → SpV A.S A.C H' 2001 c l u → Lst n x1 y1 x2 y2 l → Grt n x1 y1 x2 y2 u → Q (.ref c) H'
theorem ok_asked (T : Txt K mg A) : FnOk P w K mg base CX0 6 A.f_asked A.d_asked ["op", "a", "b"] (spAsked A) := by
  refine T.F_asked.ok sc_asked (fun vs H Q E h => ?_) (fun cdv Ar outer s H vs Q E hr h => ?_)
  · obtain ⟨n, a, b, x1, y1, x2, y2, rfl, _⟩ := h
    rfl
  · obtain ⟨n, a, b, x1, y1, x2, y2, rfl, n5, ha, hb, le1, le2, y0, k⟩ := h
    refine ⟨_, (pss_cons (ps_if (pt_cmpR op_eq (pv 0) pe_int (nomark _))
      (pss_one (ps_ret (pe_op (op_own T.sfS T.m_sadd.at_ T.m_sadd.fn (ok_sadd T) (hr.mono (by decide)) T.b_sadd pass0) (pv 1) (pv 2)))) pss_nil)
      (pss_cons (ps_if (pt_cmpR op_eq (pv 0) pe_int (nomark _))
      (pss_one (ps_ret (pe_op (op_own T.sfS T.m_ssub.at_ T.m_ssub.fn (ok_ssub T) (hr.mono (by decide)) T.b_ssub pass0) (pv 1) (pv 2)))) pss_nil)
      (pss_cons (ps_if (pt_cmpR op_eq (pv 0) pe_int (nomark _))
      (pss_one (ps_ret (pe_op (op_own T.sfS T.m_smul.at_ T.m_smul.fn (ok_smul T) (hr.mono (by decide)) T.b_smul pass0) (pv 1) (pv 2)))) pss_nil)
      (pss_cons (ps_if (pt_cmpR op_eq (pv 0) pe_int (nomark _))
      (pss_one (ps_ret (pe_meth (pv 1) T.cS T.m_sleast (ok_sleast T) (hr.mono (by decide)) T.b_sleast .nil pass0 (pa_cons (pv 2) pa_nil)))) pss_nil)
      (pss_cons (ps_if (pt_cmpR op_eq (pv 0) pe_int (nomark _))
      (pss_one (ps_ret (pe_meth (pv 1) T.cS T.m_sgreatest (ok_sgreatest T) (hr.mono (by decide)) T.b_sgreatest .nil pass0 (pa_cons (pv 2) pa_nil)))) pss_nil)
      (pss_one (ps_ret (pe_meth (pv 1) T.cS T.m_sdivided (ok_sdivided T) (hr.mono (by decide)) T.b_sdivided .nil passL (pa_cons (pv 2) pa_nil))))))))), ?_⟩
    have n_of : ∀ {m : Nat}, V.int (n : Int) = V.int (m : Int) → n = m := fun h => by have := V.int.inj h; omega
    obtain ⟨dx, l1, h1, i1, _⟩ := id ha
    refine ⟨_, rfl, rfl, _, rfl, ite2 (fun z => ?_) (fun z0 => ?_)⟩
    · have e := n_of (m := 0) (of_decide_eq_true z)
      subst e
      exact ⟨_, rfl, _, rfl, rd_ownS ha hb le1 le2 k⟩
    refine ⟨_, rfl, rfl, _, rfl, ite2 (fun z => ?_) (fun z1 => ?_)⟩
    · have e := n_of (m := 1) (of_decide_eq_true z)
      subst e
      exact ⟨_, rfl, _, rfl, rd_ownS ha hb le1 le2 k⟩
    refine ⟨_, rfl, rfl, _, rfl, ite2 (fun z => ?_) (fun z2 => ?_)⟩
    · have e := n_of (m := 2) (of_decide_eq_true z)
      subst e
      exact ⟨_, rfl, _, rfl, rd_ownS ha hb le1 le2 k⟩
    refine ⟨_, rfl, rfl, _, rfl, ite2 (fun z => ?_) (fun z3 => ?_)⟩
    · have e := n_of (m := 3) (of_decide_eq_true z)
      subst e
      exact ⟨_, rfl, a, dx, _, rfl, i1, sf_no _ _ (by decide +kernel) (by decide +kernel), _, rfl, a, b, x1, y1, x2, y2, rfl, ha, hb, le1, le2, k⟩
    refine ⟨_, rfl, rfl, _, rfl, ite2 (fun z => ?_) (fun z4 => ?_)⟩
    · have e := n_of (m := 4) (of_decide_eq_true z)
      subst e
      exact ⟨_, rfl, a, dx, _, rfl, i1, sf_no _ _ (by decide +kernel) (by decide +kernel), _, rfl, a, b, x1, y1, x2, y2, rfl, ha, hb, le1, le2, k⟩
    have e : n = 5 := by
      have h0 : n ≠ 0 := fun e => z0 (by rw [e]; rfl)
      have h1 : n ≠ 1 := fun e => z1 (by rw [e]; rfl)
      have h2 : n ≠ 2 := fun e => z2 (by rw [e]; rfl)
      have h3 : n ≠ 3 := fun e => z3 (by rw [e]; rfl)
      have h4 : n ≠ 4 := fun e => z4 (by rw [e]; rfl)
      omega
    subst e
    exact ⟨_, rfl, a, dx, _, rfl, i1, sf_no _ _ (by decide +kernel) (by decide +kernel), _, rfl, a, b, x1, y1, x2, y2, rfl, ha, hb, le1, le2, fun z => absurd z (y0 (by decide)), fun _ => k⟩
def spEquals (A : Ad) : Sp := fun vs H Q _ => ∃ (t a : Addr) (r : Rat), vs = [.ref t, .ref a] ∧ RatV A.C H 2001 t r ∧ PrV H 600 a r ∧ Q (.bl true) H
theorem ok_equals (T : Txt K mg A) : FnOk P w K mg base CX0 1 A.f_equals A.d_equals ["told", "p"] (spEquals A) := by
  refine T.F_equals.ok sc_equals (fun vs H Q E h => ?_) (fun cdv Ar outer s H vs Q E hr h => ?_)
  · obtain ⟨t, a, r, rfl, _⟩ := h
    rfl
  · obtain ⟨t, a, r, rfl, ⟨tp, ⟨dx, ht⟩, st, ct, vt⟩, ⟨p, hp, sp, vp⟩, k⟩ := h
    refine ⟨_, (pss_cons (ps_if (pt_not (pt_val (pe_callB call_isi (by rfl) T.n_isinstance (by decide +kernel) (pa_cons (pv 0) (pa_cons (pe_glob (v := .ref A.C) rfl T.g_Ratio rfl) pa_nil)))))
      (pss_one (ps_ret pe_bl)) pss_nil)
      (pss_cons (ps_if (PW.pt (pw_or (pt_not (pt_val (pe_callB call_isi (by rfl) T.n_isinstance (by decide +kernel) (pa_cons (pe_fld (pv 0) rfl) (pa_cons (pe_bltn (v := .ty "int") rfl T.n_int (by decide +kernel) rfl) pa_nil))))) (pw_or1 (pt_val (pe_callB call_isi (by rfl) T.n_isinstance (by decide +kernel) (pa_cons (pe_fld (pv 0) rfl) (pa_cons (pe_bltn (v := .ty "bool") rfl T.n_bool (by decide +kernel) rfl) pa_nil)))))))
      (pss_one (ps_ret pe_bl)) pss_nil)
      (pss_cons (ps_if (PW.pt (pw_or (pt_not (pt_val (pe_callB call_isi (by rfl) T.n_isinstance (by decide +kernel) (pa_cons (pe_fld (pv 0) rfl) (pa_cons (pe_bltn (v := .ty "int") rfl T.n_int (by decide +kernel) rfl) pa_nil))))) (pw_or1 (pt_val (pe_callB call_isi (by rfl) T.n_isinstance (by decide +kernel) (pa_cons (pe_fld (pv 0) rfl) (pa_cons (pe_bltn (v := .ty "bool") rfl T.n_bool (by decide +kernel) rfl) pa_nil)))))))
      (pss_one (ps_ret pe_bl)) pss_nil)
      (pss_cons (ps_set (i := 2) sc_equals.nd rfl (Or.inl rfl) (pe_callB call_abs (by rfl) T.n_abs (by decide +kernel) (pa_cons (pe_ix ix_tup (pv 1) pe_int (fun _ _ => rfl)) pa_nil)))
      (C8.pss_cut (ps_set (i := 3) sc_equals.nd rfl (Or.inl rfl) (pe_ix ix_tup (pv 1) pe_int (fun _ _ => rfl)))
      (pss_cons (ps_for PassesOwn.never rfl (pi_range1 rfl T.n_range (pa_cons pe_int pa_nil)) (pg_name (i := 4) sc_equals.nd rfl (Or.inl rfl))
      (pss_cons (ps_if (pt_cmpR op_eq (pv 3) pe_int (nomark _))
      (pss_one ps_break) pss_nil)
      (pss_cons (ps_set (i := 5) sc_equals.nd rfl (Or.inl rfl) (pe_op op_mod (pe_callTy call_int1 (by rfl) T.n_int (by decide +kernel) (pa_cons (pv 2) pa_nil)) (pv 3)))
      (pss_cons (ps_set (i := 2) sc_equals.nd rfl (Or.inl rfl) (pv 3))
      (pss_one (ps_set (i := 3) sc_equals.nd rfl (Or.inl rfl) (pv 5)))))))
      (pss_one (ps_ret (pe_and (pe_cmpR op_eq (pe_fld (pv 0) rfl) (pe_op op_fdivW (pe_ix ix_tup (pv 1) pe_int (fun _ _ => rfl)) (pv 2)) (nomark _)) (pe_one (pe_cmpR op_eq (pe_fld (pv 0) rfl) (pe_op op_fdivW (pe_ix ix_tup (pv 1) pe_int (fun _ _ => rfl)) (pv 2)) (nomark _)))))))))))), ?_⟩
    have same : tp = lo p.1 p.2 := low_is st ct sp (vt.trans vp.symm)
    have ii : ∀ n : Int, TyX K H (.int n) (.type "int") := fun n => .base (.int n)
    refine ⟨_, rfl, .ref t, .ref A.C, .ref A.C, .ref A.C, true, rfl, .own _, .base (.ins ht T.cl T.ha T.hn T.htk T.hm), kit_self, _, rfl, iteF ?_⟩
    refine ⟨_, rfl, _, _, _, _, _, rfl, ht, T.cl, T.nT, rf_top _, _, .ty "int", _, _, true, rfl, .ty _, ii _, kit_ty (by decide +kernel), _, rfl, iteF ?_⟩
    refine ⟨_, rfl, _, _, _, _, _, rfl, ht, T.cl, T.nT, rf_top _, _, .ty "bool", _, _, false, rfl, .ty _, ii _, kit_ty (by decide +kernel), _, rfl, iteF ?_⟩
    refine ⟨_, rfl, _, _, _, _, _, rfl, ht, T.cl, T.nB, rf_bot _, _, .ty "int", _, _, true, rfl, .ty _, ii _, kit_ty (by decide +kernel), _, rfl, iteF ?_⟩
    refine ⟨_, rfl, _, _, _, _, _, rfl, ht, T.cl, T.nB, rf_bot _, _, .ty "bool", _, _, false, rfl, .ty _, ii _, kit_ty (by decide +kernel), _, rfl, iteF ?_⟩
    have fit : tp = (p.1 / (Int.gcd p.1 p.2 : Int), p.2 / (Int.gcd p.1 p.2 : Int)) := by
      rw [same]
      unfold lo
      rw [if_neg (by have := sp.pos; omega)]
    have p0 := sp.pos
    have eg : Int.gcd p.1 p.2 = Nat.gcd (ab p.1).toNat p.2.toNat := by
      show Nat.gcd p.1.natAbs p.2.natAbs = _
      congr 1
      · unfold ab; split <;> omega
      · omega
    have gp : 0 < Int.gcd p.1 p.2 := Int.gcd_pos_of_ne_zero_right p.1 (by omega)
    have bg : Bd 600 (Int.gcd p.1 p.2 : Int) := by
      refine sp.b.abs ?_
      have := Nat.le_of_dvd (by omega : 0 < p.2.natAbs) (Nat.gcd_dvd_right p.1.natAbs p.2.natAbs)
      show ((Nat.gcd p.1.natAbs p.2.natAbs : Nat) : Int).natAbs ≤ _
      omega
    have f1 : tp.1 = p.1 / (Int.gcd p.1 p.2 : Int) := by rw [fit]
    have f2 : tp.2 = p.2 / (Int.gcd p.1 p.2 : Int) := by rw [fit]
    refine ⟨_, rfl, _, _, _, _, rfl, rfl, SqT.of (hp), rfl, p.1, rfl, ?_⟩
    refine ⟨fun sl H' => sl = [some (.ref t), some (.ref a), some (.int (ab p.1)), some (.int p.2), none, none] ∧ H' = H, ?_, ?_⟩
    · exact ⟨_, rfl, _, _, _, _, rfl, rfl, SqT.of (hp), rfl, rfl, rfl⟩
    rintro sl H' ⟨rfl, rfl⟩
    refine ⟨1500, rfl, by decide, by decide, for_range (lo := 0) (n := 1500) (fun i sl H2 => ∃ (x y : Nat) (v1 v2 : Option V), sl = [some (.ref t), some (.ref a), some (.int (x : Int)), some (.int (y : Int)), v1, v2] ∧ H2 = H' ∧ Eu (Int.gcd p.1 p.2) i x y) ?_ ?_ ?_⟩
    · refine ⟨(ab p.1).toNat, p.2.toNat, none, none, ?_, rfl, ?_⟩
      · have e1 : (((ab p.1).toNat : Nat) : Int) = ab p.1 := by have := ab_nn p.1; omega
        have e2 : ((p.2.toNat : Nat) : Int) = p.2 := by omega
        rw [e1, e2]
      · rw [eg]
        refine Eu.start ?_
        have : p.2.natAbs < 2 ^ 600 := sp.b
        have l : (2 : Nat) ^ 600 ≤ 2 ^ 750 := Nat.pow_le_pow_right (by decide) (by decide)
        omega
    · rintro i sl H2 hi ⟨x, y, v1, v2, rfl, rfl, eu⟩
      refine ⟨_, rfl, rfl, _, rfl, ite2 (fun c => ?_) (fun c => ?_)⟩
      · have y0 : y = 0 := by have := V.int.inj (of_decide_eq_true c); omega
        subst y0
        have ex := eu.zero
        subst ex
        refine ⟨_, rfl, _, _, _, _, _, rfl, ht, T.cl, T.nT, rf_top _, _, rfl, _, _, _, _, rfl, rfl, SqT.of (hp), rfl, _, rfl, _, _, rfl, rfl, bg.div (by omega), rfl, true, congrArg V.bl (decide_eq_true (by rw [f1])), ?_⟩
        refine ⟨_, rfl, _, _, _, _, _, rfl, ht, T.cl, T.nB, rf_bot _, _, rfl, _, _, _, _, rfl, rfl, SqT.of (hp), rfl, _, rfl, _, _, rfl, rfl, bg.div (by omega), rfl, ?_⟩
        show Q (V.bl (decide (V.int tp.2 = V.int (p.2 / (Int.gcd p.1 p.2 : Int))))) H2
        rw [decide_eq_true (congrArg V.int f2)]
        exact k
      · have y0 : y ≠ 0 := fun z => c (by rw [z] <;> rfl)
        refine ⟨_, rfl, .inl ⟨_, rfl, _, rfl, _, _, rfl, rfl, (by show (0 : Int) < (y : Int); omega), _, rfl, _, rfl, y, x % y, some (.int (0 + (i : Int))), some (.int ((x : Int) % (y : Int))), ?_, rfl, eu.turn y0 hi⟩⟩
        rw [Int.natCast_emod]
        rfl
    · rintro sl H2 ⟨x, y, v1, v2, rfl, rfl, eu⟩
      have y0 := eu.done
      subst y0
      have ex := eu.zero
      subst ex
      refine ⟨_, rfl, _, _, _, _, _, rfl, ht, T.cl, T.nT, rf_top _, _, rfl, _, _, _, _, rfl, rfl, SqT.of (hp), rfl, _, rfl, _, _, rfl, rfl, bg.div (by omega), rfl, true, congrArg V.bl (decide_eq_true (by rw [f1])), ?_⟩
      refine ⟨_, rfl, _, _, _, _, _, rfl, ht, T.cl, T.nB, rf_bot _, _, rfl, _, _, _, _, rfl, rfl, SqT.of (hp), rfl, _, rfl, _, _, rfl, rfl, bg.div (by omega), rfl, ?_⟩
      show Q (V.bl (decide (V.int tp.2 = V.int (p.2 / (Int.gcd p.1 p.2 : Int))))) H2
      rw [decide_eq_true (congrArg V.int f2)]
      exact k
def spIsSpan (A : Ad) : Sp := fun vs H Q _ => ∃ (t a b : Addr) (l u : Rat), vs = [.ref t, .ref a, .ref b] ∧ SpV A.S A.C H 2001 t l u ∧ PrV H 600 a l ∧ PrV H 600 b u ∧ Q (.bl true) H
theorem ok_isspan (T : Txt K mg A) : FnOk P w K mg base CX0 2 A.f_isspan A.d_isspan ["told", "low", "high"] (spIsSpan A) := by
  refine T.F_isspan.ok sc_isspan (fun vs H Q E h => ?_) (fun cdv Ar outer s H vs Q E hr h => ?_)
  · obtain ⟨t, a, b, l, u, rfl, _⟩ := h
    rfl
  · obtain ⟨t, a, b, l, u, rfl, ⟨dx, la, ha, ht, hl, hh⟩, pa, pb, k⟩ := h
    refine ⟨_, (pss_cons (ps_if (pt_not (pt_val (pe_callB call_isi (by rfl) T.n_isinstance (by decide +kernel) (pa_cons (pv 0) (pa_cons (pe_glob (v := .ref A.S) rfl T.g_Span rfl) pa_nil)))))
      (pss_one (ps_ret pe_bl)) pss_nil)
      (pss_one (ps_ret (pe_and (pe_call (ok_equals T) (hr.mono (by decide)) rfl T.g_equals T.F_equals.kp T.b_equals .nil pass0 (pa_cons (pe_fld (pv 0) rfl) (pa_cons (pv 1) pa_nil))) (pe_one (pe_call (ok_equals T) (hr.mono (by decide)) rfl T.g_equals T.F_equals.kp T.b_equals .nil pass0 (pa_cons (pe_fld (pv 0) rfl) (pa_cons (pv 2) pa_nil)))))))), ?_⟩
    refine ⟨_, rfl, .ref t, .ref A.S, .ref A.S, .ref A.S, true, rfl, .own _, .base (.ins ht T.cS T.haS T.hn T.htk T.hmS), kit_self, _, rfl, iteF ?_⟩
    refine ⟨_, rfl, _, _, _, _, _, rfl, ht, T.cS, T.nL, sf_low _ _, _, rfl, la, a, l, rfl, hl, pa, true, rfl, ?_⟩
    exact ⟨_, rfl, _, _, _, _, _, rfl, ht, T.cS, T.nH, sf_high _ _, _, rfl, ha, b, u, rfl, hh, pb, k⟩
end
end Fc
set_option Elab.async false
set_option linter.all false
set_option maxRecDepth 100000
set_option maxHeartbeats 4000000
set_option exponentiation.threshold 100000
namespace Fc
open PySem PySem.Spec PyProof.Rows L2
/-- the pairs at these addresses are worth these -/
def PFit (H : Hp) : List Addr → List Rat → Prop
  | [], [] => True
  | a :: as, r :: rs => PrV H 509 a r ∧ PFit H as rs
  | _, _ => False
theorem PFit.len {H : Hp} : ∀ {as : List Addr} {rs : List Rat}, PFit H as rs → as.length = rs.length
  | [], [], _ => rfl
  | _ :: _, _ :: _, h => congrArg (· + 1) (PFit.len h.2)
  | [], _ :: _, h => h.elim
  | _ :: _, [], h => h.elim
theorem PFit.app {H : Hp} {y : Addr} {r : Rat} (hy : PrV H 509 y r) : ∀ {as : List Addr} {rs : List Rat}, PFit H as rs → PFit H (as ++ [y]) (rs ++ [r])
  | [], [], _ => ⟨hy, trivial⟩
  | _ :: _, _ :: _, h => ⟨h.1, PFit.app hy h.2⟩
  | [], _ :: _, h => h.elim
  | _ :: _, [], h => h.elim
theorem PrV.keepD {D : Addr} {H H' : Hp} {n : Nat} {a : Addr} {r : Rat} {xs : List V} (h : PrV H n a r) (hD : H D = some (.lst xs)) (k : Keep D H H') : PrV H' n a r := by
  obtain ⟨p, z, y⟩ := h
  refine ⟨p, k _ _ z ?_, y⟩
  intro e
  have z' : H a = some (.tup [.int p.1, .int p.2]) := z
  rw [e, hD] at z'
  cases z'
theorem PFit.keep {D : Addr} {H H' : Hp} {xs : List V} (hD : H D = some (.lst xs)) (k : Keep D H H') : ∀ {as : List Addr} {rs : List Rat}, PFit H as rs → PFit H' as rs
  | [], [], _ => trivial
  | _ :: _, _ :: _, h => ⟨h.1.keepD hD k, PFit.keep hD k h.2⟩
  | [], _ :: _, h => h.elim
  | _ :: _, [], h => h.elim
theorem PFit.ex {H H' : Hp} (k : Ex H H') : ∀ {as : List Addr} {rs : List Rat}, PFit H as rs → PFit H' as rs
  | [], [], _ => trivial
  | _ :: _, _ :: _, h => ⟨h.1.ex k, PFit.ex k h.2⟩
  | [], _ :: _, h => h.elim
  | _ :: _, [], h => h.elim
theorem PFit.at {H : Hp} : ∀ {as : List Addr} {rs : List Rat}, PFit H as rs → ∀ (i : Nat) (a : Addr), as[i]? = some a → ∃ r, rs[i]? = some r ∧ PrV H 509 a r
  | [], [], _, _, _, h => by simp at h
  | a :: as, r :: rs, h, 0, b, e => by cases e; exact ⟨r, rfl, h.1⟩
  | a :: as, r :: rs, h, i + 1, b, e => PFit.at h.2 i b e
  | [], _ :: _, h, _, _, _ => h.elim
  | _ :: _, [], h, _, _, _ => h.elim
section
variable {P : Program} {w : World} {K : PySem.W.Frag} {mg : Str → Option Value} {base : Heap} {A : Ad}
theorem sz4 : 4 ≤ sizeLine := by rw [sizeLine_eq]; decide
structure FitsIn (A : Ad) (H : Hp) (n : Nat) (told s t x y : Addr) (a b c d vx vy l u : Rat) : Prop where
  n5 : n ≤ 5
  sp : SpV A.S A.C H 2001 told l u
  s : EnV H s a b
  t : EnV H t c d
  x : PrV H 254 x vx
  y : PrV H 254 y vy
  x1 : a ≤ vx
  x2 : vx ≤ b
  y1 : c ≤ vy
  y2 : vy ≤ d
  l : Lst n a b c d l
  u : Grt n a b c d u
  h5 : 5 ≤ n → 0 < c ∨ d < 0
def spFits (A : Ad) : Sp := fun vs H Q _ => ∃ (n : Nat) (told s t x y : Addr) (a b c d vx vy l u : Rat), vs = [.ref told, .int n, .ref s, .ref t, .ref x, .ref y] ∧ FitsIn A H n told s t x y a b c d vx vy l u ∧ ∀ H', Ex H H' → Q (.bl true) H'
theorem ok_fits (T : Txt K mg A) : FnOk P w K mg base CX0 3 A.f_fits A.d_fits ["told", "op", "s", "t", "x", "y"] (spFits A) := by
  refine T.F_fits.ok sc_fits (fun vs H Q E h => ?_) (fun cdv Ar outer s H vs Q E hr h => ?_)
  · obtain ⟨n, told, s, t, x, y, a, b, c, d, vx, vy, l, u, rfl, _⟩ := h
    rfl
  · obtain ⟨n, told, s, t, x, y, a, b, c, d, vx, vy, l, u, rfl, g, k⟩ := h
    refine ⟨_, (C8.pss_cut (ps_set (i := 6) sc_fits.nd rfl (Or.inl rfl) (pe_lst (pa_cons (pe_tup (pa_cons (pe_ix ix_tup (pv 2) pe_int (fun _ _ => rfl)) (pa_cons (pe_ix ix_tup (pv 3) pe_int (fun _ _ => rfl)) pa_nil))) (pa_cons (pe_tup (pa_cons (pe_ix ix_tup (pv 2) pe_int (fun _ _ => rfl)) (pa_cons (pe_ix ix_tup (pv 3) pe_int (fun _ _ => rfl)) pa_nil))) (pa_cons (pe_tup (pa_cons (pe_ix ix_tup (pv 2) pe_int (fun _ _ => rfl)) (pa_cons (pe_ix ix_tup (pv 3) pe_int (fun _ _ => rfl)) pa_nil))) (pa_cons (pe_tup (pa_cons (pe_ix ix_tup (pv 2) pe_int (fun _ _ => rfl)) (pa_cons (pe_ix ix_tup (pv 3) pe_int (fun _ _ => rfl)) pa_nil))) pa_nil))))))
      (C8.pss_cut (ps_setLc (i := 7) (own := [("two", 8)]) (g := gName 8) (tt := tYes) rfl sc_fits.nd rfl rfl (sw_true rfl rfl rfl (by decide +kernel)) (pi_list (pv 6)) (blkOk_by (own := [("two", 8)]) (N := N_fits) (sc := defScope S_fits) (by decide +kernel)) (fun _ _ _ _ _ => pg_name (i := 8) sc_fits.nd rfl (Or.inl rfl)) (fun _ _ _ _ _ => pts_nil) (fun _ _ _ _ _ => (pe_call (ok_own T) (hr.mono (by decide)) rfl T.g_own T.F_own.kp T.b_own .nil pass0 (pa_cons (pv 1) (pa_cons (pe_ix (r := rIxT K) ix_tup (pv 8) pe_int (fun _ _ => rfl)) (pa_cons (pe_ix (r := rIxT K) ix_tup (pv 8) pe_int (fun _ _ => rfl)) pa_nil))))))
      (pss_cons (ps_set (i := 9) sc_fits.nd rfl (Or.inl rfl) (pe_ix ix_list (pv 7) pe_int (fun _ _ => rfl)))
      (pss_cons (ps_set (i := 10) sc_fits.nd rfl (Or.inl rfl) (pe_ix ix_list (pv 7) pe_int (fun _ _ => rfl)))
      (C8.pss_cut (ps_for PassesOwn.never rfl (pi_list (pv 7)) (pg_name (i := 11) sc_fits.nd rfl (Or.inl rfl))
      (pss_cons (ps_if (pt_val (pe_call (ok_less T) (hr.mono (by decide)) rfl T.g_less T.F_less.kp T.b_less .nil pass0 (pa_cons (pv 11) (pa_cons (pv 9) pa_nil))))
      (pss_one (ps_set (i := 9) sc_fits.nd rfl (Or.inl rfl) (pv 11))) pss_nil)
      (pss_one (ps_if (pt_val (pe_call (ok_less T) (hr.mono (by decide)) rfl T.g_less T.F_less.kp T.b_less .nil pass0 (pa_cons (pv 10) (pa_cons (pv 11) pa_nil))))
      (pss_one (ps_set (i := 10) sc_fits.nd rfl (Or.inl rfl) (pv 11))) pss_nil))))
      (pss_cons (ps_if (pt_not (pt_val (pe_call (ok_isspan T) (hr.mono (by decide)) rfl T.g_isspan T.F_isspan.kp T.b_isspan .nil pass0 (pa_cons (pv 0) (pa_cons (pv 9) (pa_cons (pv 10) pa_nil))))))
      (pss_one (ps_ret pe_bl)) pss_nil)
      (pss_cons (ps_set (i := 11) sc_fits.nd rfl (Or.inl rfl) (pe_call (ok_own T) (hr.mono (by decide)) rfl T.g_own T.F_own.kp T.b_own .nil pass0 (pa_cons (pv 1) (pa_cons (pv 4) (pa_cons (pv 5) pa_nil)))))
      (pss_one (ps_ret (pe_cmpR op_isBl (pe_cmpR (op_in T.m_scontains.at_ T.m_scontains.fn (ok_scontains T) (hr.mono (by decide)) T.b_scontains pass0) (pe_make T.mkC (ok_init T) (hr.mono (by decide)) rfl T.g_Ratio T.b_init3 .nil passL (pa_cons (pe_ix ix_tup (pv 11) pe_int (fun _ _ => rfl)) (pa_cons (pe_ix ix_tup (pv 11) pe_int (fun _ _ => rfl)) pa_nil))) (pv 0) (by with_unfolding_all rfl)) pe_bl (nomark _))))))))))), ?_⟩
    -- the corners
    refine ⟨fun sl H' => ∃ (L c1 c2 c3 c4 p1 p2 q1 q2 : Addr), sl = [some (.ref told), some (.int n), some (.ref s), some (.ref t), some (.ref x), some (.ref y), some (.ref L), none, none, none, none, none] ∧ Ex H H' ∧ H' L = some (.lst [.ref c1, .ref c2, .ref c3, .ref c4]) ∧
      H' c1 = some (.tup [.ref p1, .ref q1]) ∧ H' c2 = some (.tup [.ref p1, .ref q2]) ∧ H' c3 = some (.tup [.ref p2, .ref q1]) ∧ H' c4 = some (.tup [.ref p2, .ref q2]) ∧ PrV H 83 p1 a ∧ PrV H 83 p2 b ∧ PrV H 83 q1 c ∧ PrV H 83 q2 d, ?_, ?_⟩
    · obtain ⟨p1, p2, hs, hp1, hp2⟩ := g.s
      obtain ⟨q1, q2, ht, hq1, hq2⟩ := g.t
      refine ⟨_, rfl, _, _, _, _, rfl, rfl, SqT.of (hs), rfl, _, rfl, _, _, _, _, rfl, rfl, SqT.of (ht), rfl, (by show 2 ≤ sizeLine; exact sz2), fun c1 n1 => ?_⟩
      have e1 : Ex H (upd H c1 (.tup [.ref p1, .ref q1])) := Ex.new n1
      have h1 : upd H c1 (.tup [.ref p1, .ref q1]) c1 = some (.tup [.ref p1, .ref q1]) := upd_same
      generalize upd H c1 (.tup [.ref p1, .ref q1]) = H1 at e1 h1 ⊢
      refine ⟨_, rfl, _, _, _, _, rfl, rfl, SqT.of (e1 _ _ hs), rfl, _, rfl, _, _, _, _, rfl, rfl, SqT.of (e1 _ _ ht), rfl, (by show 2 ≤ sizeLine; exact sz2), fun c2 n2 => ?_⟩
      have e2 : Ex H1 (upd H1 c2 (.tup [.ref p1, .ref q2])) := Ex.new n2
      have h2 : upd H1 c2 (.tup [.ref p1, .ref q2]) c2 = some (.tup [.ref p1, .ref q2]) := upd_same
      generalize upd H1 c2 (.tup [.ref p1, .ref q2]) = H2 at e2 h2 ⊢
      have E2 := e1.trans e2
      refine ⟨_, rfl, _, _, _, _, rfl, rfl, SqT.of (E2 _ _ hs), rfl, _, rfl, _, _, _, _, rfl, rfl, SqT.of (E2 _ _ ht), rfl, (by show 2 ≤ sizeLine; exact sz2), fun c3 n3 => ?_⟩
      have e3 : Ex H2 (upd H2 c3 (.tup [.ref p2, .ref q1])) := Ex.new n3
      have h3 : upd H2 c3 (.tup [.ref p2, .ref q1]) c3 = some (.tup [.ref p2, .ref q1]) := upd_same
      generalize upd H2 c3 (.tup [.ref p2, .ref q1]) = H3 at e3 h3 ⊢
      have E3 := E2.trans e3
      refine ⟨_, rfl, _, _, _, _, rfl, rfl, SqT.of (E3 _ _ hs), rfl, _, rfl, _, _, _, _, rfl, rfl, SqT.of (E3 _ _ ht), rfl, (by show 2 ≤ sizeLine; exact sz2), fun c4 n4 => ?_⟩
      have e4 : Ex H3 (upd H3 c4 (.tup [.ref p2, .ref q2])) := Ex.new n4
      have h4 : upd H3 c4 (.tup [.ref p2, .ref q2]) c4 = some (.tup [.ref p2, .ref q2]) := upd_same
      generalize upd H3 c4 (.tup [.ref p2, .ref q2]) = H4 at e4 h4 ⊢
      refine ⟨(by show 4 ≤ sizeLine; exact sz4), fun L nL => ?_⟩
      have e5 : Ex H4 (upd H4 L (.lst [.ref c1, .ref c2, .ref c3, .ref c4])) := Ex.new nL
      exact ⟨L, c1, c2, c3, c4, p1, p2, q1, q2, rfl, (E3.trans e4).trans e5, upd_same, e5 _ _ (e4 _ _ (e3 _ _ (e2 _ _ h1))), e5 _ _ (e4 _ _ (e3 _ _ h2)), e5 _ _ (e4 _ _ h3), e5 _ _ h4, hp1, hp2, hq1, hq2⟩
    rintro sl H5 ⟨L, c1, c2, c3, c4, p1, p2, q1, q2, rfl, E5, hL, h1, h2, h3, h4, hp1, hp2, hq1, hq2⟩
    have y0 : ∀ r : Rat, c ≤ r → r ≤ d → 5 ≤ n → r ≠ 0 := fun r r1 r2 n5 => by rcases g.h5 n5 with z | z <;> grind
    have cd : c ≤ d := by have := g.y1; have := g.y2; grind
    -- what is found there
    refine ⟨fun sl H' => ∃ (D : Addr) (ys : List Addr), sl = [some (.ref told), some (.int n), some (.ref s), some (.ref t), some (.ref x), some (.ref y), some (.ref L), some (.ref D), none, none, none, none] ∧ Ex H H' ∧ H' D = some (.lst (ys.map V.ref)) ∧
      PFit H' ys [ow n a c, ow n a d, ow n b c, ow n b d], ?_, ?_⟩
    · refine ⟨_, rfl, L, rfl, ⟨_, SqL.of hL⟩, fun D nD => ?_⟩
      have LD : L ≠ D := ne_of_none hL nD
      refine lc_list (K := K) (a := L) (xs := [.ref c1, .ref c2, .ref c3, .ref c4]) (fun i H' => Keep D H5 H' ∧ ∃ ys : List Addr, H' D = some (.lst (ys.map V.ref)) ∧ PFit H' ys (([ow n a c, ow n a d, ow n b c, ow n b d] : List Rat).take i))
        ⟨Keep.upd, [], upd_same, trivial⟩ (fun i H' _ p => SqL.of (p.1 _ _ hL LD)) ?_ ?_
      · rintro i z H' hz ⟨kp, ys, hD, ft⟩
        have E' : Ex H H' := E5.trans (kp.exn nD)
        obtain ⟨cc, pp, qq, rp, rq, rfl, hcc, hpp, hqq, nn, i4, ei⟩ : ∃ (cc pp qq : Addr) (rp rq : Rat), z = V.ref cc ∧ H' cc = some (.tup [.ref pp, .ref qq]) ∧ PrV H 83 pp rp ∧ PrV H 83 qq rq ∧ (5 ≤ n → rq ≠ 0) ∧ i < 4 ∧
            ([ow n a c, ow n a d, ow n b c, ow n b d] : List Rat).take (i + 1) = ([ow n a c, ow n a d, ow n b c, ow n b d] : List Rat).take i ++ [ow n rp rq] := by
          match i, hz with
          | 0, e => cases e; exact ⟨c1, p1, q1, a, c, rfl, (kp.exn nD) _ _ h1, hp1, hq1, y0 c (by grind) cd, by decide, rfl⟩
          | 1, e => cases e; exact ⟨c2, p1, q2, a, d, rfl, (kp.exn nD) _ _ h2, hp1, hq2, y0 d cd (by grind), by decide, rfl⟩
          | 2, e => cases e; exact ⟨c3, p2, q1, b, c, rfl, (kp.exn nD) _ _ h3, hp2, hq1, y0 c (by grind) cd, by decide, rfl⟩
          | 3, e => cases e; exact ⟨c4, p2, q2, b, d, rfl, (kp.exn nD) _ _ h4, hp2, hq2, y0 d cd (by grind), by decide, rfl⟩
          | j + 4, e => simp at e
        refine ⟨rfl, _, rfl, _, rfl, _, _, _, _, rfl, rfl, SqT.of (hcc), rfl, _, rfl, _, _, _, _, rfl, rfl, SqT.of (hcc), rfl, n, pp, qq, rp, rq, rfl, g.n5, (hpp.ex E').mono (by decide), (hqq.ex E').mono (by decide), nn, fun r H6 e6 hr6 => ?_⟩
        refine ⟨_, e6 _ _ hD, ?_, (kp.trans (Keep.of e6)).trans Keep.upd, ys ++ [r], ?_, ?_⟩
        · rw [List.length_map, ft.len, List.length_take, sizeLine_eq]
          show min i 4 < _
          omega
        · rw [upd_same, List.map_append]
          rfl
        · rw [ei]
          exact ((ft.ex e6).app hr6).keep (e6 _ _ hD) Keep.upd
      · rintro H' ⟨kp, ys, hD, ft⟩
        exact ⟨D, ys, rfl, E5.trans (kp.exn nD), hD, ft⟩
    clear h1 h2 h3 h4 hp1 hp2 hq1 hq2 hL E5
    rintro sl H6 ⟨D, ys, rfl, E6, hD, ft⟩
    have ny : 0 < ys.length := by rw [ft.len]; show 0 < 4; decide
    have e0 : ys[0]? = some ys[0] := List.getElem?_eq_getElem ny
    obtain ⟨r0, hr0, hv0⟩ := ft.at 0 ys[0] e0
    have ix0 : atI (ys.map V.ref) 0 = some (V.ref ys[0]) := atI_nat (j := 0) (by rw [List.getElem?_map, e0]; rfl)
    have m0 := List.mem_of_getElem? hr0
    refine ⟨_, rfl, _, _, _, _, rfl, rfl, SqL.of hD, ix0, _, rfl, _, _, _, _, rfl, rfl, SqL.of hD, ix0, ?_⟩
    refine ⟨fun sl H' => H' = H6 ∧ ∃ (lo hi : Addr) (ml mh : Rat) (v1 v2 : Option V), sl = [some (.ref told), some (.int n), some (.ref s), some (.ref t), some (.ref x), some (.ref y), some (.ref L), some (.ref D), v1, some (.ref lo), some (.ref hi), v2] ∧ PrV H' 509 lo ml ∧ PrV H' 509 hi mh ∧
      Lst n a b c d ml ∧ Grt n a b c d mh, ?_, ?_⟩
    · refine ⟨_, rfl, D, rfl, ⟨_, SqL.of hD⟩, for_list (K := K) (a := D) (xs := ys.map V.ref) (fun i sl H' => H' = H6 ∧ ∃ (lo hi : Addr) (ml mh : Rat) (v : Option V), sl = [some (.ref told), some (.int n), some (.ref s), some (.ref t), some (.ref x), some (.ref y), some (.ref L), some (.ref D), none, some (.ref lo), some (.ref hi), v] ∧ PrV H' 509 lo ml ∧ PrV H' 509 hi mh ∧
        ml ∈ [ow n a c, ow n a d, ow n b c, ow n b d] ∧ mh ∈ [ow n a c, ow n a d, ow n b c, ow n b d] ∧ ∀ j r, j < i → [ow n a c, ow n a d, ow n b c, ow n b d][j]? = some r → ml ≤ r ∧ r ≤ mh)
        ⟨rfl, ys[0], ys[0], r0, r0, none, rfl, hv0, hv0, m0, m0, fun j r z => absurd z (by omega)⟩ (fun i sl H' _ h => by rw [h.1]; exact SqL.of hD) ?_ ?_⟩
      · rintro i z sl H' hz ⟨rfl, lo, hi, ml, mh, v, rfl, hlo, hhi, m1, m2, all⟩
        obtain ⟨yy, hy, rfl⟩ : ∃ y, ys[i]? = some y ∧ z = V.ref y := by
          rw [List.getElem?_map] at hz
          cases e : ys[i]? with
          | none => rw [e] at hz; cases hz
          | some z => rw [e] at hz; exact ⟨z, rfl, (Option.some.inj hz).symm⟩
        obtain ⟨r, hr1, hv⟩ := ft.at i yy hy
        have mr := List.mem_of_getElem? hr1
        have next : ∀ ml' mh' : Rat, ml' ≤ ml → ml' ≤ r → mh ≤ mh' → r ≤ mh' → ∀ j r', j < i + 1 → [ow n a c, ow n a d, ow n b c, ow n b d][j]? = some r' → ml' ≤ r' ∧ r' ≤ mh' := by
          intro ml' mh' q1 q2 q3 q4 j r' hj hr'
          rcases Nat.lt_or_ge j i with hji | hji
          · have := all j r' hji hr'
            constructor <;> grind
          · have : j = i := by omega
            subst this
            rw [hr1] at hr'
            cases hr'
            exact ⟨q2, q4⟩
        refine ⟨_, rfl, _, rfl, yy, lo, r, ml, rfl, hv.mono (by decide), hlo.mono (by decide), _, rfl, ?_⟩
        by_cases s1 : r < ml
        · refine ite2 (fun _ => ⟨_, rfl, ?_⟩) (fun z => absurd (decide_eq_true s1) z)
          refine ⟨_, rfl, _, rfl, hi, yy, mh, r, rfl, hhi.mono (by decide), hv.mono (by decide), _, rfl, ?_⟩
          by_cases s2 : mh < r
          · exact ite2 (fun _ => ⟨_, rfl, rfl, yy, yy, r, r, _, rfl, hv, hv, mr, mr, next r r (by grind) (by grind) (by grind) (by grind)⟩) (fun z => absurd (decide_eq_true s2) z)
          · exact ite2 (fun z => absurd (of_decide_eq_true z) s2) (fun _ => ⟨rfl, yy, hi, r, mh, _, rfl, hv, hhi, mr, m2, next r mh (by grind) (by grind) (by grind) (by grind)⟩)
        · refine ite2 (fun z => absurd (of_decide_eq_true z) s1) (fun _ => ?_)
          refine ⟨_, rfl, _, rfl, hi, yy, mh, r, rfl, hhi.mono (by decide), hv.mono (by decide), _, rfl, ?_⟩
          by_cases s2 : mh < r
          · exact ite2 (fun _ => ⟨_, rfl, rfl, lo, yy, ml, r, _, rfl, hlo, hv, m1, mr, next ml r (by grind) (by grind) (by grind) (by grind)⟩) (fun z => absurd (decide_eq_true s2) z)
          · exact ite2 (fun z => absurd (of_decide_eq_true z) s2) (fun _ => ⟨rfl, lo, hi, ml, mh, _, rfl, hlo, hhi, m1, m2, next ml mh (by grind) (by grind) (by grind) (by grind)⟩)
      · rintro sl H' ⟨rfl, lo, hi, ml, mh, v, rfl, hlo, hhi, m1, m2, all⟩
        have cor := cor_of (op := n) (f := ow n) (fun _ _ => rfl) m1 m2 fun r mr => by
          obtain ⟨j, hj, e⟩ := List.getElem_of_mem mr
          exact all j r (by rw [List.length_map, ft.len]; exact hj) (by rw [List.getElem?_eq_getElem hj, e])
        exact ⟨rfl, lo, hi, ml, mh, _, _, rfl, hlo, hhi, cor.1, cor.2⟩
    rintro sl H' ⟨rfl, lo, hi, ml, mh, v1, v2, rfl, hlo, hhi, L1, G1⟩
    have el := L1.one g.l
    have eu := G1.one g.u
    subst el
    subst eu
    refine ⟨_, rfl, _, rfl, _, rfl, told, lo, hi, ml, mh, rfl, g.sp.ex E6, hlo.mono (by decide), hhi.mono (by decide), _, rfl, iteF ?_⟩
    refine ⟨_, rfl, _, rfl, _, rfl, n, x, y, vx, vy, rfl, g.n5, g.x.ex E6, g.y.ex E6, y0 vy g.y1 g.y2, fun r H7 e7 hr7 => ?_⟩
    obtain ⟨q, hq, sq, vq⟩ := hr7
    refine ⟨_, rfl, _, _, _, _, rfl, rfl, SqT.of (hq), rfl, _, rfl, _, _, _, _, rfl, rfl, SqT.of (hq), rfl, ?_⟩
    intro z dz nz nd _
    refine ⟨z, dz, _, _, rfl, upd_same, fun zz => absurd zz sq.ne, fun _ => ⟨sq.b.mono (by decide), fun H8 rz kp => ⟨rfl, ?_⟩⟩⟩
    have e8 : Ex H7 H8 := Same.made nz nd kp
    clear nz nd kp
    have vz : RatV A.C H8 2001 z (ow n vx vy) := .lo rz (sq.t.mono (by decide)) (sq.b.mono (by decide)) sq.ne vq
    have E8 := (E6.trans e7).trans e8
    have sp8 := g.sp.ex E8
    obtain ⟨dx, l1, l2, hs8, _⟩ := id sp8
    have w := ow_in g.h5 g.x1 g.x2 g.y1 g.y2 L1 G1
    refine ⟨_, rfl, told, dx, _, rfl, hs8, told, z, ml, mh, _, rfl, sp8, vz, _, rfl, _, _, rfl, rfl, ?_⟩
    rw [decide_eq_true w.1, decide_eq_true w.2]
    exact k H8 E8
/-! ### what is refused -/
def t_bare (K : PySem.W.Frag) (A : Ad) (i : Nat) : Addr → Value → Option Addr → TS := fun a cls d =>
  tRet (tAndV (tCB (rIsX K cls d a) (tCons (tVar i) (tCons (tC (.ref A.Z)) tNil))) (tAndV (tCB (rIsX K cls d a) (tCons (tVar i) (tCons (tC (.ty "ValueError")) tNil))) (tNotV (tCB (rIsX K cls d a) (tCons (tVar i) (tCons (tC (.ref A.Ap)) tNil))))))
theorem rd_bare (T : Txt K mg A) {i : Nat} {a : Addr} {sl : L2.St} {H : Hp} {D : Ends} (h : sl[i]? = some (some (.ref a))) (k : D.rt (.bl true) H) : t_bare K A i a (.ref A.Z) none D sl H := by
  have nd : ∀ dd : Addr, (none : Option Addr) = some dd → ∃ fs, H dd = some (.xd fs) := fun dd e => by cases e
  refine ⟨_, h, A.Z, .ref A.Z, .ref A.Z, true, rfl, T.XZ, nd, rfl, fun u e => e, kit_self, true, rfl, ?_⟩
  refine ⟨_, h, A.Z, .ty "ValueError", _, true, rfl, T.XZ, nd, rfl, fun u e => e, T.zv, true, rfl, ?_⟩
  exact ⟨_, h, A.Z, .ref A.Ap, _, false, rfl, T.XZ, nd, rfl, fun u e => e, T.zo, false, rfl, k⟩
def spNoQuo (A : Ad) : Sp := fun vs H Q _ => ∃ (a b : Addr) (x1 y1 x2 y2 : Rat), vs = [.ref a, .ref b] ∧ SpV A.S A.C H 1000 a x1 y1 ∧ SpV A.S A.C H 1000 b x2 y2 ∧ x1 ≤ y1 ∧ x2 ≤ y2 ∧ x2 ≤ 0 ∧ 0 ≤ y2 ∧ ∀ H', Ex H H' → Q (.bl true) H'
theorem ok_noquo (T : Txt K mg A) : FnOk P w K mg base CX0 6 A.f_noquo A.d_noquo ["a", "b"] (spNoQuo A) := by
  refine T.F_noquo.ok sc_noquo (fun vs H Q E h => ?_) (fun cdv Ar outer s H vs Q E hr h => ?_)
  · obtain ⟨a, b, x1, y1, x2, y2, rfl, _⟩ := h
    rfl
  · obtain ⟨a, b, x1, y1, x2, y2, rfl, ha, hb, le1, le2, z1, z2, k⟩ := h
    refine ⟨_, (pss_cons (ps_try_as (i := 2) (tb := fun W => tDrop (tMethS A.S "divided" (spSDiv A) (WE W) (tVar 0) (tCons (tVar 1) tNil))) (ts := t_bare K A 2) (Wout := fun _ _ _ _ => False) rfl rfl sc_noquo.nd rfl rfl ⟨rfl, by decide, Or.inl T.g_CE⟩ takes0 (fun W pn xe tk _ => pss_one (ps_expr (pe_methS (pv 0) T.cS T.m_sdivided (ok_sdivided T) (hr.mono (by decide)) T.b_sdivided (fun sl => passAt tk sl) (pa_cons (pv 1) pa_nil)))) (fun a oe cls d pn hz hf => pss_one (ps_ret (pe_and (pe_callB (call_isX hz hf) (by rfl) T.n_isinstance (by decide +kernel) (pa_cons (pv 2) (pa_cons (pe_glob (v := .ref A.Z) rfl T.g_Z rfl) pa_nil))) (pe_and (pe_callB (call_isX hz hf) (by rfl) T.n_isinstance (by decide +kernel) (pa_cons (pv 2) (pa_cons (pe_bltn (v := .ty "ValueError") rfl T.n_ValueError (by decide +kernel) rfl) pa_nil))) (pe_one (pe_not (pe_callB (call_isX hz hf) (by rfl) T.n_isinstance (by decide +kernel) (pa_cons (pv 2) (pa_cons (pe_glob (v := .ref A.Ap) rfl T.g_Ap rfl) pa_nil))))))))))
      (pss_one (ps_ret pe_bl))), ?_⟩
    obtain ⟨dx, l1, h1, i1, _⟩ := id ha
    refine ⟨_, rfl, a, dx, _, rfl, i1, sf_no _ _ (by decide +kernel) (by decide +kernel), _, rfl, ?_⟩
    refine ⟨a, b, x1, y1, x2, y2, rfl, ha, hb, le1, le2, fun _ H' ex => ⟨true, T.eZ, fun _ b nb => ?_, fun z => Bool.noConfusion z⟩, fun n => absurd ⟨z1, z2⟩ n⟩
    exact rd_bare T rfl (k H' ex)
structure AllIn (A : Ad) (H : Hp) (a b s t x y : Addr) (x1 y1 x2 y2 vx vy : Rat) : Prop where
  a : SpV A.S A.C H 1000 a x1 y1
  b : SpV A.S A.C H 1000 b x2 y2
  s : EnV H s x1 y1
  t : EnV H t x2 y2
  x : PrV H 254 x vx
  y : PrV H 254 y vy
  i1 : x1 ≤ vx
  i2 : vx ≤ y1
  j1 : x2 ≤ vy
  j2 : vy ≤ y2
theorem AllIn.ex {H H' : Hp} {a b s t x y : Addr} {x1 y1 x2 y2 vx vy : Rat} (h : AllIn A H a b s t x y x1 y1 x2 y2 vx vy) (e : Ex H H') : AllIn A H' a b s t x y x1 y1 x2 y2 vx vy :=
  ⟨h.a.ex e, h.b.ex e, h.s.ex e, h.t.ex e, h.x.ex e, h.y.ex e, h.i1, h.i2, h.j1, h.j2⟩
def spAll (A : Ad) : Sp := fun vs H Q _ => ∃ (a b s t x y : Addr) (x1 y1 x2 y2 vx vy : Rat), vs = [.ref a, .ref b, .ref s, .ref t, .ref x, .ref y] ∧ AllIn A H a b s t x y x1 y1 x2 y2 vx vy ∧ ∀ H', Ex H H' → Q (.bl true) H'
theorem ok_all (T : Txt K mg A) : FnOk P w K mg base CX0 7 A.f_all A.d_all ["a", "b", "s", "t", "x", "y"] (spAll A) := by
  refine T.F_all.ok sc_all (fun vs H Q E h => ?_) (fun cdv Ar outer s H vs Q E hr h => ?_)
  · obtain ⟨a, b, s, t, x, y, x1, y1, x2, y2, vx, vy, rfl, _⟩ := h
    rfl
  · obtain ⟨a, b, s, t, x, y, x1, y1, x2, y2, vx, vy, rfl, g, k⟩ := h
    refine ⟨_, (C8.pss_cut (ps_for PassesOwn.never rfl (pi_range1 rfl T.n_range (pa_cons pe_int pa_nil)) (pg_name (i := 6) sc_all.nd rfl (Or.inl rfl))
      (pss_one (ps_if (pt_not (pt_val (pe_call (ok_fits T) (hr.mono (by decide)) rfl T.g_fits T.F_fits.kp T.b_fits .nil pass0 (pa_cons (pe_call (ok_asked T) (hr.mono (by decide)) rfl T.g_asked T.F_asked.kp T.b_asked .nil pass0 (pa_cons (pv 6) (pa_cons (pv 0) (pa_cons (pv 1) pa_nil)))) (pa_cons (pv 6) (pa_cons (pv 2) (pa_cons (pv 3) (pa_cons (pv 4) (pa_cons (pv 5) pa_nil)))))))))
      (pss_one (ps_ret pe_bl)) pss_nil)))
      (pss_cons (ps_if (PW.pt (pw_and (pt_cmpR op_le (pe_ix ix_tup (pe_ix ix_tup (pv 3) pe_int (fun _ _ => rfl)) pe_int (fun _ _ => rfl)) pe_int (nomark _)) (pw_and1 (pt_cmpR op_ge (pe_ix ix_tup (pe_ix ix_tup (pv 3) pe_int (fun _ _ => rfl)) pe_int (fun _ _ => rfl)) pe_int (nomark _)))))
      (pss_one (ps_ret (pe_call (ok_noquo T) (hr.mono (by decide)) rfl T.g_noquo T.F_noquo.kp T.b_noquo .nil pass0 (pa_cons (pv 0) (pa_cons (pv 1) pa_nil))))) pss_nil)
      (pss_one (ps_ret (pe_call (ok_fits T) (hr.mono (by decide)) rfl T.g_fits T.F_fits.kp T.b_fits .nil pass0 (pa_cons (pe_call (ok_asked T) (hr.mono (by decide)) rfl T.g_asked T.F_asked.kp T.b_asked .nil pass0 (pa_cons pe_int (pa_cons (pv 0) (pa_cons (pv 1) pa_nil)))) (pa_cons pe_int (pa_cons (pv 2) (pa_cons (pv 3) (pa_cons (pv 4) (pa_cons (pv 5) pa_nil))))))))))), ?_⟩
    have le1 : x1 ≤ y1 := by have := g.i1; have := g.i2; grind
    have le2 : x2 ≤ y2 := by have := g.j1; have := g.j2; grind
    refine ⟨fun sl H' => ∃ v, sl = [some (.ref a), some (.ref b), some (.ref s), some (.ref t), some (.ref x), some (.ref y), v] ∧ Ex H H', ?_, ?_⟩
    · refine ⟨5, rfl, by decide, by decide, for_range (lo := 0) (n := 5) (fun i sl H' => ∃ v, sl = [some (.ref a), some (.ref b), some (.ref s), some (.ref t), some (.ref x), some (.ref y), v] ∧ Ex H H') ⟨none, rfl, fun _ _ h => h⟩ ?_ ?_⟩
      · rintro i sl H' hi ⟨v, rfl, ex⟩
        have g' := g.ex ex
        have z : (0 + (i : Int)) = (i : Int) := by omega
        refine ⟨_, rfl, _, rfl, _, rfl, i, a, b, x1, y1, x2, y2, (by rw [z]; rfl), by omega, g'.a, g'.b, le1, le2, fun n5 => by omega, fun c H2 l u e2 sp L G => ?_⟩
        have g2 := g'.ex e2
        refine ⟨_, rfl, _, rfl, _, rfl, _, rfl, _, rfl, i, c, s, t, x, y, x1, y1, x2, y2, vx, vy, l, u, (by rw [z]; rfl), ⟨by omega, sp, g2.s, g2.t, g2.x, g2.y, g.i1, g.i2, g.j1, g.j2, L, G, fun n5 => by omega⟩, fun H3 e3 => ⟨_, rfl, iteF ?_⟩⟩
        exact ⟨_, rfl, (ex.trans e2).trans e3⟩
      · rintro sl H' ⟨v, rfl, ex⟩
        exact ⟨v, rfl, ex⟩
    rintro sl H' ⟨v, rfl, ex⟩
    have g' := g.ex ex
    obtain ⟨pa, pb, ht, ⟨p, hp, sp, vp⟩, ⟨q, hq, sq, vq⟩⟩ := g'.t
    have last : ¬ (x2 ≤ 0 ∧ 0 ≤ y2) → ∀ c H2 l u, Ex H' H2 → SpV A.S A.C H2 2001 c l u → Lst 5 x1 y1 x2 y2 l → Grt 5 x1 y1 x2 y2 u → FitsIn A H2 5 c s t x y x1 y1 x2 y2 vx vy l u := fun n c H2 l u e2 sp L G =>
      have g2 := g'.ex e2
      ⟨by decide, sp, g2.s, g2.t, g2.x, g2.y, g.i1, g.i2, g.j1, g.j2, L, G, fun _ => by grind⟩
    have rest : ∀ n : ¬ (x2 ≤ 0 ∧ 0 ≤ y2), True := fun _ => trivial
    refine ⟨_, rfl, _, _, _, _, rfl, rfl, SqT.of (ht), rfl, _, _, _, _, rfl, rfl, SqT.of (hp), rfl, _, _, rfl, rfl, _, rfl, ?_⟩
    by_cases z1 : x2 ≤ 0
    · have z1' : p.1 ≤ 0 := (v_np sp.pos).mp (by rw [vp]; exact z1)
      refine ite2 (fun _ => ?_) (fun n => absurd (decide_eq_true z1') n)
      refine ⟨_, rfl, _, _, _, _, rfl, rfl, SqT.of (ht), rfl, _, _, _, _, rfl, rfl, SqT.of (hq), rfl, _, _, rfl, rfl, _, rfl, ?_⟩
      by_cases z2 : 0 ≤ y2
      · have z2' : 0 ≤ q.1 := (v_nn sq.pos).mp (by rw [vq]; exact z2)
        refine ite2 (fun _ => ?_) (fun n => absurd (decide_eq_true z2') n)
        exact ⟨_, rfl, _, rfl, a, b, x1, y1, x2, y2, rfl, g'.a, g'.b, le1, le2, z1, z2, fun H2 e2 => k H2 (ex.trans e2)⟩
      · have z2' : ¬ 0 ≤ q.1 := fun h => z2 (by rw [← vq]; exact (v_nn sq.pos).mpr h)
        refine ite2 (fun h => absurd (of_decide_eq_true h) z2') (fun _ => ?_)
        have n : ¬ (x2 ≤ 0 ∧ 0 ≤ y2) := fun h => z2 h.2
        refine ⟨_, rfl, _, rfl, 5, a, b, x1, y1, x2, y2, rfl, by decide, g'.a, g'.b, le1, le2, fun _ => n, fun c H2 l u e2 sp L G => ?_⟩
        exact ⟨_, rfl, _, rfl, _, rfl, _, rfl, 5, c, s, t, x, y, x1, y1, x2, y2, vx, vy, l, u, rfl, last n c H2 l u e2 sp L G, fun H3 e3 => k H3 ((ex.trans e2).trans e3)⟩
    · have z1' : ¬ p.1 ≤ 0 := fun h => z1 (by rw [← vp]; exact (v_np sp.pos).mpr h)
      refine ite2 (fun h => absurd (of_decide_eq_true h) z1') (fun _ => iteF ?_)
      have n : ¬ (x2 ≤ 0 ∧ 0 ≤ y2) := fun h => z1 h.1
      refine ⟨_, rfl, _, rfl, 5, a, b, x1, y1, x2, y2, rfl, by decide, g'.a, g'.b, le1, le2, fun _ => n, fun c H2 l u e2 sp L G => ?_⟩
      exact ⟨_, rfl, _, rfl, _, rfl, _, rfl, 5, c, s, t, x, y, x1, y1, x2, y2, vx, vy, l, u, rfl, last n c H2 l u e2 sp L G, fun H3 e3 => k H3 ((ex.trans e2).trans e3)⟩
end
end Fc
set_option Elab.async false
set_option linter.all false
set_option maxRecDepth 100000
set_option maxHeartbeats 4000000
set_option exponentiation.threshold 100000
namespace Fc
open PySem PySem.Spec PyProof.Rows L2
section
variable {P : Program} {w : World} {K : PySem.W.Frag} {mg : Str → Option Value} {base : Heap} {A : Ad}
/-- a fraction of the law's, as its Ratio -/
theorem rat_of {C : Addr} {H : Hp} {u : Addr} {p : Int × Int} (r : RatAt C H u (lo p.1 p.2)) (s : Sm 83 p) : RatV C H 1000 u (vl p) := .lo r (s.t.mono (by decide)) (s.b.mono (by decide)) s.ne rfl
theorem ok_law (T : Txt K mg A) : FnOk P w K mg base CX0 8 A.f_law A.d_law ["script"] (spLaw K) := by
  refine T.F_law.ok sc_law (fun vs H Q E h => ?_) (fun cdv Ar outer s H vs Q E hr h => ?_)
  · obtain ⟨a, ns, rfl, _⟩ := h
    rfl
  · obtain ⟨a0, ns, rfl, hS, hlen, k⟩ := h
    refine ⟨_, (C8.pss_cut (ps_set (i := 1) sc_law.nd rfl (Or.inl rfl) (pe_call (ok_start T) (hr.mono (by decide)) rfl T.g_start T.F_start.kp T.b_start .nil pass0 (pa_cons (pv 0) pa_nil)))
      (pss_cons (ps_set (i := 2) sc_law.nd rfl (Or.inl rfl) (pe_call (ok_ends T) (hr.mono (by decide)) rfl T.g_ends T.F_ends.kp T.b_ends .nil pass0 (pa_cons (pv 1) (pa_cons pe_int pa_nil))))
      (pss_cons (ps_set (i := 3) sc_law.nd rfl (Or.inl rfl) (pe_call (ok_ends T) (hr.mono (by decide)) rfl T.g_ends T.F_ends.kp T.b_ends .nil pass0 (pa_cons (pv 1) (pa_cons pe_int pa_nil))))
      (pss_cons (ps_set (i := 4) sc_law.nd rfl (Or.inl rfl) (pe_call (ok_between T) (hr.mono (by decide)) rfl T.g_between T.F_between.kp T.b_between .nil pass0 (pa_cons (pv 1) (pa_cons (pv 2) pa_nil))))
      (pss_cons (ps_set (i := 5) sc_law.nd rfl (Or.inl rfl) (pe_call (ok_between T) (hr.mono (by decide)) rfl T.g_between T.F_between.kp T.b_between .nil pass0 (pa_cons (pv 1) (pa_cons (pv 3) pa_nil))))
      (C8.pss_cut (ps_set (i := 6) sc_law.nd rfl (Or.inl rfl) (pe_call (ok_between T) (hr.mono (by decide)) rfl T.g_between T.F_between.kp T.b_between .nil pass0 (pa_cons (pv 1) (pa_cons (pv 2) pa_nil))))
      (C8.pss_cut (ps_set (i := 7) sc_law.nd rfl (Or.inl rfl) (pe_make T.mkS (ok_sinit T) (hr.mono (by decide)) rfl T.g_Span T.b_sinit .nil pass0 (pa_cons (pe_make T.mkC (ok_init T) (hr.mono (by decide)) rfl T.g_Ratio T.b_init3 .nil passL (pa_cons (pe_ix ix_tup (pe_ix ix_tup (pv 2) pe_int (fun _ _ => rfl)) pe_int (fun _ _ => rfl)) (pa_cons (pe_ix ix_tup (pe_ix ix_tup (pv 2) pe_int (fun _ _ => rfl)) pe_int (fun _ _ => rfl)) pa_nil))) (pa_cons (pe_make T.mkC (ok_init T) (hr.mono (by decide)) rfl T.g_Ratio T.b_init3 .nil passL (pa_cons (pe_ix ix_tup (pe_ix ix_tup (pv 2) pe_int (fun _ _ => rfl)) pe_int (fun _ _ => rfl)) (pa_cons (pe_ix ix_tup (pe_ix ix_tup (pv 2) pe_int (fun _ _ => rfl)) pe_int (fun _ _ => rfl)) pa_nil))) pa_nil))))
      (C8.pss_cut (ps_set (i := 8) sc_law.nd rfl (Or.inl rfl) (pe_make T.mkS (ok_sinit T) (hr.mono (by decide)) rfl T.g_Span T.b_sinit .nil pass0 (pa_cons (pe_make T.mkC (ok_init T) (hr.mono (by decide)) rfl T.g_Ratio T.b_init3 .nil passL (pa_cons (pe_ix ix_tup (pe_ix ix_tup (pv 3) pe_int (fun _ _ => rfl)) pe_int (fun _ _ => rfl)) (pa_cons (pe_ix ix_tup (pe_ix ix_tup (pv 3) pe_int (fun _ _ => rfl)) pe_int (fun _ _ => rfl)) pa_nil))) (pa_cons (pe_make T.mkC (ok_init T) (hr.mono (by decide)) rfl T.g_Ratio T.b_init3 .nil passL (pa_cons (pe_ix ix_tup (pe_ix ix_tup (pv 3) pe_int (fun _ _ => rfl)) pe_int (fun _ _ => rfl)) (pa_cons (pe_ix ix_tup (pe_ix ix_tup (pv 3) pe_int (fun _ _ => rfl)) pe_int (fun _ _ => rfl)) pa_nil))) pa_nil))))
      (pss_cons (ps_if (pt_not (pt_val (pe_call (ok_all T) (hr.mono (by decide)) rfl T.g_all T.F_all.kp T.b_all .nil pass0 (pa_cons (pv 7) (pa_cons (pv 8) (pa_cons (pv 2) (pa_cons (pv 3) (pa_cons (pv 4) (pa_cons (pv 5) pa_nil)))))))))
      (pss_one (ps_ret pe_bl)) pss_nil)
      (pss_cons (ps_if (pt_not (pt_val (pe_call (ok_all T) (hr.mono (by decide)) rfl T.g_all T.F_all.kp T.b_all .nil pass0 (pa_cons (pv 7) (pa_cons (pv 7) (pa_cons (pv 2) (pa_cons (pv 2) (pa_cons (pv 4) (pa_cons (pv 6) pa_nil)))))))))
      (pss_one (ps_ret pe_bl)) pss_nil)
      (pss_cons (ps_if (pt_not (pt_val (pe_call (ok_all T) (hr.mono (by decide)) rfl T.g_all T.F_all.kp T.b_all .nil pass0 (pa_cons (pv 8) (pa_cons (pv 7) (pa_cons (pv 3) (pa_cons (pv 2) (pa_cons (pv 5) (pa_cons (pv 4) pa_nil)))))))))
      (pss_one (ps_ret pe_bl)) pss_nil)
      (C8.pss_cut (ps_if (pt_not (pt_val (pe_call (ok_all T) (hr.mono (by decide)) rfl T.g_all T.F_all.kp T.b_all .nil pass0 (pa_cons (pv 7) (pa_cons (pv 8) (pa_cons (pv 2) (pa_cons (pv 3) (pa_cons (pv 6) (pa_cons (pv 5) pa_nil)))))))))
      (pss_one (ps_ret pe_bl)) pss_nil)
      (pss_cons (ps_if (pt_not (pt_val (pe_call (ok_isspan T) (hr.mono (by decide)) rfl T.g_isspan T.F_isspan.kp T.b_isspan .nil pass0 (pa_cons (pe_un (un_own T.m_sneg.at_ T.m_sneg.fn (ok_sneg T) (hr.mono (by decide)) T.b_sneg pass0) (pv 7)) (pa_cons (pe_tup (pa_cons (pe_un un_neg (pe_ix ix_tup (pe_ix ix_tup (pv 2) pe_int (fun _ _ => rfl)) pe_int (fun _ _ => rfl))) (pa_cons (pe_ix ix_tup (pe_ix ix_tup (pv 2) pe_int (fun _ _ => rfl)) pe_int (fun _ _ => rfl)) pa_nil))) (pa_cons (pe_tup (pa_cons (pe_un un_neg (pe_ix ix_tup (pe_ix ix_tup (pv 2) pe_int (fun _ _ => rfl)) pe_int (fun _ _ => rfl))) (pa_cons (pe_ix ix_tup (pe_ix ix_tup (pv 2) pe_int (fun _ _ => rfl)) pe_int (fun _ _ => rfl)) pa_nil))) pa_nil))))))
      (pss_one (ps_ret pe_bl)) pss_nil)
      (C8.pss_cut (ps_if (pt_not (pt_val (pe_call (ok_isspan T) (hr.mono (by decide)) rfl T.g_isspan T.F_isspan.kp T.b_isspan .nil pass0 (pa_cons (pe_un (un_own T.m_sneg.at_ T.m_sneg.fn (ok_sneg T) (hr.mono (by decide)) T.b_sneg pass0) (pv 8)) (pa_cons (pe_tup (pa_cons (pe_un un_neg (pe_ix ix_tup (pe_ix ix_tup (pv 3) pe_int (fun _ _ => rfl)) pe_int (fun _ _ => rfl))) (pa_cons (pe_ix ix_tup (pe_ix ix_tup (pv 3) pe_int (fun _ _ => rfl)) pe_int (fun _ _ => rfl)) pa_nil))) (pa_cons (pe_tup (pa_cons (pe_un un_neg (pe_ix ix_tup (pe_ix ix_tup (pv 3) pe_int (fun _ _ => rfl)) pe_int (fun _ _ => rfl))) (pa_cons (pe_ix ix_tup (pe_ix ix_tup (pv 3) pe_int (fun _ _ => rfl)) pe_int (fun _ _ => rfl)) pa_nil))) pa_nil))))))
      (pss_one (ps_ret pe_bl)) pss_nil)
      (pss_one (ps_ret (pe_and (pe_call (ok_isspan T) (hr.mono (by decide)) rfl T.g_isspan T.F_isspan.kp T.b_isspan .nil pass0 (pa_cons (pv 7) (pa_cons (pe_ix ix_tup (pv 2) pe_int (fun _ _ => rfl)) (pa_cons (pe_ix ix_tup (pv 2) pe_int (fun _ _ => rfl)) pa_nil)))) (pe_one (pe_call (ok_isspan T) (hr.mono (by decide)) rfl T.g_isspan T.F_isspan.kp T.b_isspan .nil pass0 (pa_cons (pv 8) (pa_cons (pe_ix ix_tup (pv 3) pe_int (fun _ _ => rfl)) (pa_cons (pe_ix ix_tup (pv 3) pe_int (fun _ _ => rfl)) pa_nil)))))))))))))))))))))), ?_⟩
    refine ⟨fun sl H' => ∃ pt, sl = [some (.ref a0), some (.ref pt), none, none, none, none, none, none, none] ∧ PotAt H' pt, ?_, ?_⟩
    · exact ⟨_, rfl, a0, ns, rfl, hS, hlen, fun pt H1 pt1 e1 n1 => ⟨pt, rfl, pt1⟩⟩
    rintro sl H1 ⟨pt, rfl, pt1⟩
    refine ⟨_, rfl, pt, 0, rfl, pt1, fun s x1 y1 H2 es les pt2 k2 => ?_⟩
    refine ⟨_, rfl, pt, 2, rfl, pt2, fun t x2 y2 H3 et let_ pt3 k3 => ?_⟩
    replace es := es.keep pt2 k3
    refine ⟨_, rfl, _, rfl, pt, s, x1, y1, rfl, pt3, es, les, fun x vx H4 hx a1 a2 pt4 k4 => ?_⟩
    replace es := es.keep pt3 k4
    replace et := et.keep pt3 k4
    refine ⟨_, rfl, _, rfl, pt, t, x2, y2, rfl, pt4, et, let_, fun y vy H5 hy b1 b2 pt5 k5 => ?_⟩
    replace es := es.keep pt4 k5
    replace et := et.keep pt4 k5
    replace hx := hx.keep pt4 k5
    refine ⟨fun sl H' => ∃ z vz, sl = [some (.ref a0), some (.ref pt), some (.ref s), some (.ref t), some (.ref x), some (.ref y), some (.ref z), none, none] ∧ EnV H' s x1 y1 ∧ EnV H' t x2 y2 ∧ PrV H' 254 x vx ∧ PrV H' 254 y vy ∧ PrV H' 254 z vz ∧ x1 ≤ vz ∧ vz ≤ y1, ?_, ?_⟩
    · refine ⟨_, rfl, _, rfl, pt, s, x1, y1, rfl, pt5, es, les, fun z vz H6 hz c1 c2 pt6 k6 => ?_⟩
      exact ⟨z, vz, rfl, es.keep pt5 k6, et.keep pt5 k6, hx.keep pt5 k6, hy.keep pt5 k6, hz, c1, c2⟩
    clear es et hx hy
    rintro sl H6 ⟨z, vz, rfl, es, et, hx, hy, hz, c1, c2⟩
    refine ⟨fun sl H' => ∃ a, sl = [some (.ref a0), some (.ref pt), some (.ref s), some (.ref t), some (.ref x), some (.ref y), some (.ref z), some (.ref a), none] ∧ Ex H6 H' ∧ SpV A.S A.C H' 2001 a x1 y1 ∧ SpV A.S A.C H' 1000 a x1 y1, ?_, ?_⟩
    · obtain ⟨pa, pb, hs, ⟨p, hp, sp, rfl⟩, ⟨q, hq, sq, rfl⟩⟩ := id es
      refine ⟨_, rfl, _, _, _, _, rfl, rfl, SqT.of (hs), rfl, _, _, _, _, rfl, rfl, SqT.of (hp), rfl, _, rfl, _, _, _, _, rfl, rfl, SqT.of (hs), rfl, _, _, _, _, rfl, rfl, SqT.of (hp), rfl, ?_⟩
      intro u du nu nd _
      refine ⟨u, du, _, _, rfl, upd_same, fun zz => absurd zz sp.ne, fun _ => ⟨sp.b.mono (by decide), fun H7 ru kp => ⟨rfl, ?_⟩⟩⟩
      have e7 : Ex H6 H7 := Same.made nu nd kp
      clear nu nd kp
      refine ⟨_, rfl, _, _, _, _, rfl, rfl, SqT.of (e7 _ _ hs), rfl, _, _, _, _, rfl, rfl, SqT.of (e7 _ _ hq), rfl, _, rfl, _, _, _, _, rfl, rfl, SqT.of (e7 _ _ hs), rfl, _, _, _, _, rfl, rfl, SqT.of (e7 _ _ hq), rfl, ?_⟩
      intro v dv nv nd _
      refine ⟨v, dv, _, _, rfl, upd_same, fun zz => absurd zz sq.ne, fun _ => ⟨sq.b.mono (by decide), fun H8 rv kp => ⟨rfl, ?_⟩⟩⟩
      have e8 : Ex H7 H8 := Same.made nv nd kp
      clear nv nd kp
      have r1 := (rat_of ru sp).ex e8
      have r2 := rat_of rv sq
      intro c dc nc nd ne
      have em : Ex H8 (upd (upd H8 dc (.own c)) c (.ins A.S dc [])) := fun b o e => by rw [upd_ne (ne_of_none e nc), upd_ne (ne_of_none e nd)]; exact e
      refine ⟨c, dc, u, v, _, _, rfl, upd_same, (r1.ex em).mono (by decide), (r2.ex em).mono (by decide), les, fun H9 hc kp => ⟨rfl, ?_⟩⟩
      have e9 : Ex H8 H9 := Same.made nc nd kp
      have fin : SpV A.S A.C H9 1000 c (vl p) (vl q) := ⟨dc, u, v, hc, r1.ex e9, r2.ex e9⟩
      exact ⟨c, rfl, (e7.trans e8).trans e9, fin.mono (by decide), fin⟩
    rintro sl H7 ⟨a, rfl, ea, ha2, ha⟩
    replace es := es.ex ea
    replace et := et.ex ea
    replace hx := hx.ex ea
    replace hy := hy.ex ea
    replace hz := hz.ex ea
    clear ea
    refine ⟨fun sl H' => ∃ b, sl = [some (.ref a0), some (.ref pt), some (.ref s), some (.ref t), some (.ref x), some (.ref y), some (.ref z), some (.ref a), some (.ref b)] ∧ Ex H7 H' ∧ SpV A.S A.C H' 2001 b x2 y2 ∧ SpV A.S A.C H' 1000 b x2 y2, ?_, ?_⟩
    · obtain ⟨pa, pb, hs, ⟨p, hp, sp, rfl⟩, ⟨q, hq, sq, rfl⟩⟩ := id et
      refine ⟨_, rfl, _, _, _, _, rfl, rfl, SqT.of (hs), rfl, _, _, _, _, rfl, rfl, SqT.of (hp), rfl, _, rfl, _, _, _, _, rfl, rfl, SqT.of (hs), rfl, _, _, _, _, rfl, rfl, SqT.of (hp), rfl, ?_⟩
      intro u du nu nd _
      refine ⟨u, du, _, _, rfl, upd_same, fun zz => absurd zz sp.ne, fun _ => ⟨sp.b.mono (by decide), fun H8 ru kp => ⟨rfl, ?_⟩⟩⟩
      have e7 : Ex H7 H8 := Same.made nu nd kp
      clear nu nd kp
      refine ⟨_, rfl, _, _, _, _, rfl, rfl, SqT.of (e7 _ _ hs), rfl, _, _, _, _, rfl, rfl, SqT.of (e7 _ _ hq), rfl, _, rfl, _, _, _, _, rfl, rfl, SqT.of (e7 _ _ hs), rfl, _, _, _, _, rfl, rfl, SqT.of (e7 _ _ hq), rfl, ?_⟩
      intro v dv nv nd _
      refine ⟨v, dv, _, _, rfl, upd_same, fun zz => absurd zz sq.ne, fun _ => ⟨sq.b.mono (by decide), fun H9 rv kp => ⟨rfl, ?_⟩⟩⟩
      have e8 : Ex H8 H9 := Same.made nv nd kp
      clear nv nd kp
      have r1 := (rat_of ru sp).ex e8
      have r2 := rat_of rv sq
      intro c dc nc nd ne
      have em : Ex H9 (upd (upd H9 dc (.own c)) c (.ins A.S dc [])) := fun b o e => by rw [upd_ne (ne_of_none e nc), upd_ne (ne_of_none e nd)]; exact e
      refine ⟨c, dc, u, v, _, _, rfl, upd_same, (r1.ex em).mono (by decide), (r2.ex em).mono (by decide), let_, fun H10 hc kp => ⟨rfl, ?_⟩⟩
      have e9 : Ex H9 H10 := Same.made nc nd kp
      have fin : SpV A.S A.C H10 1000 c (vl p) (vl q) := ⟨dc, u, v, hc, r1.ex e9, r2.ex e9⟩
      exact ⟨c, rfl, (e7.trans e8).trans e9, fin.mono (by decide), fin⟩
    rintro sl H8 ⟨b, rfl, eb, hb2, hb⟩
    replace es := es.ex eb
    replace et := et.ex eb
    replace hx := hx.ex eb
    replace hy := hy.ex eb
    replace hz := hz.ex eb
    replace ha := ha.ex eb
    replace ha2 := ha2.ex eb
    clear eb
    -- all of it, four times
    refine ⟨_, rfl, _, rfl, _, rfl, _, rfl, _, rfl, _, rfl, a, b, s, t, x, y, x1, y1, x2, y2, vx, vy, rfl, ⟨ha, hb, es, et, hx, hy, a1, a2, b1, b2⟩, fun G1 e1 => ⟨_, rfl, iteF ?_⟩⟩
    refine ⟨_, rfl, _, rfl, _, rfl, _, rfl, _, rfl, _, rfl, a, a, s, s, x, z, x1, y1, x1, y1, vx, vz, rfl, ⟨ha.ex e1, ha.ex e1, es.ex e1, es.ex e1, hx.ex e1, hz.ex e1, a1, a2, c1, c2⟩, fun G2 e2 => ⟨_, rfl, iteF ?_⟩⟩
    have E2 := e1.trans e2
    refine ⟨_, rfl, _, rfl, _, rfl, _, rfl, _, rfl, _, rfl, b, a, t, s, y, x, x2, y2, x1, y1, vy, vx, rfl, ⟨hb.ex E2, ha.ex E2, et.ex E2, es.ex E2, hy.ex E2, hx.ex E2, b1, b2, a1, a2⟩, fun G3 e3 => ⟨_, rfl, iteF ?_⟩⟩
    have E3 := E2.trans e3
    refine ⟨fun sl H' => sl = [some (.ref a0), some (.ref pt), some (.ref s), some (.ref t), some (.ref x), some (.ref y), some (.ref z), some (.ref a), some (.ref b)] ∧ Ex H8 H', ?_, ?_⟩
    · refine ⟨_, rfl, _, rfl, _, rfl, _, rfl, _, rfl, _, rfl, a, b, s, t, z, y, x1, y1, x2, y2, vz, vy, rfl, ⟨ha.ex E3, hb.ex E3, es.ex E3, et.ex E3, hz.ex E3, hy.ex E3, c1, c2, b1, b2⟩, fun G4 e4 => ⟨_, rfl, iteF ?_⟩⟩
      exact ⟨rfl, E3.trans e4⟩
    clear e1 e2 e3 E2 E3
    rintro sl G ⟨rfl, eg⟩
    replace es := es.ex eg
    replace et := et.ex eg
    replace ha := ha.ex eg
    replace ha2 := ha2.ex eg
    replace hb := hb.ex eg
    replace hb2 := hb2.ex eg
    clear eg hx hy hz
    -- the two of the other sign
    obtain ⟨pa, pb, hs, ⟨p, hp, sp, vp⟩, ⟨q, hq, sq, vq⟩⟩ := id es
    obtain ⟨da, l1, h1, ia, _⟩ := id ha
    refine ⟨_, rfl, a, da, _, rfl, ia, a, x1, y1, rfl, ha, les, fun c G1 e1 sc => ?_⟩
    refine ⟨_, rfl, _, _, _, _, rfl, rfl, SqT.of (e1 _ _ hs), rfl, _, _, _, _, rfl, rfl, SqT.of (e1 _ _ hq), rfl, _, rfl, _, rfl, _, _, _, _, rfl, rfl, SqT.of (e1 _ _ hs), rfl, _, _, _, _, rfl, rfl, SqT.of (e1 _ _ hq), rfl, (by show 2 ≤ sizeLine; exact sz2), fun e ne => ?_⟩
    have e2 : Ex G1 (upd G1 e (.tup [.int (-q.1), .int q.2])) := Ex.new ne
    have n1 : PrV (upd G1 e (.tup [.int (-q.1), .int q.2])) 600 e (-y1) := ⟨(-q.1, q.2), upd_same, ⟨sq.t.neg.mono (by decide), sq.b.mono (by decide), sq.pos⟩, (v_neg sq.ne).trans (by rw [vq])⟩
    generalize upd G1 e (.tup [.int (-q.1), .int q.2]) = G2 at e2 n1 ⊢
    have E2 := e1.trans e2
    refine ⟨_, rfl, _, _, _, _, rfl, rfl, SqT.of (E2 _ _ hs), rfl, _, _, _, _, rfl, rfl, SqT.of (E2 _ _ hp), rfl, _, rfl, _, rfl, _, _, _, _, rfl, rfl, SqT.of (E2 _ _ hs), rfl, _, _, _, _, rfl, rfl, SqT.of (E2 _ _ hp), rfl, (by show 2 ≤ sizeLine; exact sz2), fun f nf => ?_⟩
    have e3 : Ex G2 (upd G2 f (.tup [.int (-p.1), .int p.2])) := Ex.new nf
    have n2 : PrV (upd G2 f (.tup [.int (-p.1), .int p.2])) 600 f (-x1) := ⟨(-p.1, p.2), upd_same, ⟨sp.t.neg.mono (by decide), sp.b.mono (by decide), sp.pos⟩, (v_neg sp.ne).trans (by rw [vp])⟩
    generalize upd G2 f (.tup [.int (-p.1), .int p.2]) = G3 at e3 n2 ⊢
    have E3 := E2.trans e3
    refine ⟨c, e, f, _, _, rfl, sc.ex (e2.trans e3), n1.ex e3, n2, _, rfl, iteF ?_⟩
    clear n1 n2 sc ne nf e1 e2 e3 E2
    obtain ⟨pa', pb', ht, ⟨p', hp', sp', vp'⟩, ⟨q', hq', sq', vq'⟩⟩ := et.ex E3
    obtain ⟨db, l2, h2, ib, _⟩ := id (hb.ex E3)
    refine ⟨fun sl H' => sl = [some (.ref a0), some (.ref pt), some (.ref s), some (.ref t), some (.ref x), some (.ref y), some (.ref z), some (.ref a), some (.ref b)] ∧ Ex G H', ?_, ?_⟩
    · refine ⟨_, rfl, b, db, _, rfl, ib, b, x2, y2, rfl, hb.ex E3, let_, fun c G4 e1 sc => ?_⟩
      refine ⟨_, rfl, _, _, _, _, rfl, rfl, SqT.of (e1 _ _ ht), rfl, _, _, _, _, rfl, rfl, SqT.of (e1 _ _ hq'), rfl, _, rfl, _, rfl, _, _, _, _, rfl, rfl, SqT.of (e1 _ _ ht), rfl, _, _, _, _, rfl, rfl, SqT.of (e1 _ _ hq'), rfl, (by show 2 ≤ sizeLine; exact sz2), fun e ne => ?_⟩
      have e2 : Ex G4 (upd G4 e (.tup [.int (-q'.1), .int q'.2])) := Ex.new ne
      have n1 : PrV (upd G4 e (.tup [.int (-q'.1), .int q'.2])) 600 e (-y2) := ⟨(-q'.1, q'.2), upd_same, ⟨sq'.t.neg.mono (by decide), sq'.b.mono (by decide), sq'.pos⟩, (v_neg sq'.ne).trans (by rw [vq'])⟩
      generalize upd G4 e (.tup [.int (-q'.1), .int q'.2]) = G5 at e2 n1 ⊢
      have E2 := e1.trans e2
      refine ⟨_, rfl, _, _, _, _, rfl, rfl, SqT.of (E2 _ _ ht), rfl, _, _, _, _, rfl, rfl, SqT.of (E2 _ _ hp'), rfl, _, rfl, _, rfl, _, _, _, _, rfl, rfl, SqT.of (E2 _ _ ht), rfl, _, _, _, _, rfl, rfl, SqT.of (E2 _ _ hp'), rfl, (by show 2 ≤ sizeLine; exact sz2), fun f nf => ?_⟩
      have e4 : Ex G5 (upd G5 f (.tup [.int (-p'.1), .int p'.2])) := Ex.new nf
      have n2 : PrV (upd G5 f (.tup [.int (-p'.1), .int p'.2])) 600 f (-x2) := ⟨(-p'.1, p'.2), upd_same, ⟨sp'.t.neg.mono (by decide), sp'.b.mono (by decide), sp'.pos⟩, (v_neg sp'.ne).trans (by rw [vp'])⟩
      generalize upd G5 f (.tup [.int (-p'.1), .int p'.2]) = G6 at e4 n2 ⊢
      refine ⟨c, e, f, _, _, rfl, sc.ex (e2.trans e4), n1.ex e4, n2, _, rfl, iteF ?_⟩
      exact ⟨rfl, E3.trans (E2.trans e4)⟩
    clear ht hs
    rintro sl G' ⟨rfl, eg⟩
    obtain ⟨pa, pb, hs, hp, hq⟩ := es.ex eg
    obtain ⟨pa', pb', ht, hp', hq'⟩ := et.ex eg
    refine ⟨_, rfl, _, rfl, _, _, _, _, rfl, rfl, SqT.of (hs), rfl, _, rfl, _, _, _, _, rfl, rfl, SqT.of (hs), rfl, a, pa, pb, x1, y1, rfl, ha2.ex eg, hp.mono (by decide), hq.mono (by decide), true, rfl, ?_⟩
    exact ⟨_, rfl, _, rfl, _, _, _, _, rfl, rfl, SqT.of (ht), rfl, _, rfl, _, _, _, _, rfl, rfl, SqT.of (ht), rfl, b, pa', pb', x2, y2, rfl, hb2.ex eg, hp'.mono (by decide), hq'.mono (by decide), k G'⟩
end
end Fc
set_option Elab.async false
set_option linter.all false
set_option maxRecDepth 100000
set_option maxHeartbeats 4000000
namespace Fc
open PySem PySem.Spec PyProof.Rows L2
theorem all_mk {l : PySem.W.OpenLaw} {w : World} {K : PySem.W.Frag} {h : Heap} {mg : Str → Option Value} {fa : Addr} (X : K.In h) (G : h.Ns mainGlobals mg) (hfa : mg "law" = some (.ref fa))
    {f_add : Addr} {oc_add kV_add dc_add pm_add cd_add ct_add : Value} {od_add an_add : Option Addr} {sl_add : Array (Option Value)}
    {f_sub : Addr} {oc_sub kV_sub dc_sub pm_sub cd_sub ct_sub : Value} {od_sub an_sub : Option Addr} {sl_sub : Array (Option Value)}
    {f_mul : Addr} {oc_mul kV_mul dc_mul pm_mul cd_mul ct_mul : Value} {od_mul an_mul : Option Addr} {sl_mul : Array (Option Value)}
    {f_neg : Addr} {oc_neg kV_neg dc_neg pm_neg cd_neg ct_neg : Value} {od_neg an_neg : Option Addr} {sl_neg : Array (Option Value)}
    {f_divided : Addr} {oc_divided kV_divided dc_divided pm_divided cd_divided ct_divided : Value} {od_divided an_divided : Option Addr} {sl_divided : Array (Option Value)}
    {f_compare : Addr} {oc_compare kV_compare dc_compare pm_compare cd_compare ct_compare : Value} {od_compare an_compare : Option Addr} {sl_compare : Array (Option Value)}
    {f_sinit : Addr} {oc_sinit kV_sinit dc_sinit pm_sinit cd_sinit ct_sinit : Value} {od_sinit an_sinit : Option Addr} {sl_sinit : Array (Option Value)}
    {f_sadd : Addr} {oc_sadd kV_sadd dc_sadd pm_sadd cd_sadd ct_sadd : Value} {od_sadd an_sadd : Option Addr} {sl_sadd : Array (Option Value)}
    {f_ssub : Addr} {oc_ssub kV_ssub dc_ssub pm_ssub cd_ssub ct_ssub : Value} {od_ssub an_ssub : Option Addr} {sl_ssub : Array (Option Value)}
    {f_smul : Addr} {oc_smul kV_smul dc_smul pm_smul cd_smul ct_smul : Value} {od_smul an_smul : Option Addr} {sl_smul : Array (Option Value)}
    {f_sneg : Addr} {oc_sneg kV_sneg dc_sneg pm_sneg cd_sneg ct_sneg : Value} {od_sneg an_sneg : Option Addr} {sl_sneg : Array (Option Value)}
    {f_scontains : Addr} {oc_scontains kV_scontains dc_scontains pm_scontains cd_scontains ct_scontains : Value} {od_scontains an_scontains : Option Addr} {sl_scontains : Array (Option Value)}
    {f_sdivided : Addr} {oc_sdivided kV_sdivided dc_sdivided pm_sdivided cd_sdivided ct_sdivided : Value} {od_sdivided an_sdivided : Option Addr} {sl_sdivided : Array (Option Value)}
    {f_sleast : Addr} {oc_sleast kV_sleast dc_sleast pm_sleast cd_sleast ct_sleast : Value} {od_sleast an_sleast : Option Addr} {sl_sleast : Array (Option Value)}
    {f_sgreatest : Addr} {oc_sgreatest kV_sgreatest dc_sgreatest pm_sgreatest cd_sgreatest ct_sgreatest : Value} {od_sgreatest an_sgreatest : Option Addr} {sl_sgreatest : Array (Option Value)}
    {f_lesser : Addr} {oc_lesser kV_lesser dc_lesser pm_lesser cd_lesser ct_lesser : Value} {od_lesser an_lesser : Option Addr} {sl_lesser : Array (Option Value)}
    {f_greater : Addr} {oc_greater kV_greater dc_greater pm_greater cd_greater ct_greater : Value} {od_greater an_greater : Option Addr} {sl_greater : Array (Option Value)}
    {f_around : Addr} {oc_around kV_around dc_around pm_around cd_around ct_around : Value} {od_around an_around : Option Addr} {sl_around : Array (Option Value)}
    {f_start : Addr} {oc_start kV_start dc_start pm_start cd_start ct_start : Value} {od_start an_start : Option Addr} {sl_start : Array (Option Value)}
    {f_digit : Addr} {oc_digit kV_digit dc_digit pm_digit cd_digit ct_digit : Value} {od_digit an_digit : Option Addr} {sl_digit : Array (Option Value)}
    {f_fraction : Addr} {oc_fraction kV_fraction dc_fraction pm_fraction cd_fraction ct_fraction : Value} {od_fraction an_fraction : Option Addr} {sl_fraction : Array (Option Value)}
    {f_less : Addr} {oc_less kV_less dc_less pm_less cd_less ct_less : Value} {od_less an_less : Option Addr} {sl_less : Array (Option Value)}
    {f_plus : Addr} {oc_plus kV_plus dc_plus pm_plus cd_plus ct_plus : Value} {od_plus an_plus : Option Addr} {sl_plus : Array (Option Value)}
    {f_ends : Addr} {oc_ends kV_ends dc_ends pm_ends cd_ends ct_ends : Value} {od_ends an_ends : Option Addr} {sl_ends : Array (Option Value)}
    {f_between : Addr} {oc_between kV_between dc_between pm_between cd_between ct_between : Value} {od_between an_between : Option Addr} {sl_between : Array (Option Value)}
    {f_own : Addr} {oc_own kV_own dc_own pm_own cd_own ct_own : Value} {od_own an_own : Option Addr} {sl_own : Array (Option Value)}
    {f_asked : Addr} {oc_asked kV_asked dc_asked pm_asked cd_asked ct_asked : Value} {od_asked an_asked : Option Addr} {sl_asked : Array (Option Value)}
    {f_equals : Addr} {oc_equals kV_equals dc_equals pm_equals cd_equals ct_equals : Value} {od_equals an_equals : Option Addr} {sl_equals : Array (Option Value)}
    {f_isspan : Addr} {oc_isspan kV_isspan dc_isspan pm_isspan cd_isspan ct_isspan : Value} {od_isspan an_isspan : Option Addr} {sl_isspan : Array (Option Value)}
    {f_fits : Addr} {oc_fits kV_fits dc_fits pm_fits cd_fits ct_fits : Value} {od_fits an_fits : Option Addr} {sl_fits : Array (Option Value)}
    {f_noquo : Addr} {oc_noquo kV_noquo dc_noquo pm_noquo cd_noquo ct_noquo : Value} {od_noquo an_noquo : Option Addr} {sl_noquo : Array (Option Value)}
    {f_all : Addr} {oc_all kV_all dc_all pm_all cd_all ct_all : Value} {od_all an_all : Option Addr} {sl_all : Array (Option Value)}
    {f_law : Addr} {oc_law kV_law dc_law pm_law cd_law ct_law : Value} {od_law an_law : Option Addr} {sl_law : Array (Option Value)}
    {C f_init T_init : Addr} {oc_init kV_init dc_init pm_init cd_init ct_init : Value} {od_init an_init : Option Addr} {sl_init : Array (Option Value)} {oT : Value} {dT : Option Addr} {tT : Tok} {nT' : Nat} {sT : Array (Option Value)}
    {Z : Addr}
    {S : Addr}
    {CE Ap : Addr}
    (hn : PySem.W.specialIn K (.builtin "object.__class__") "__get__" = some (some (.builtin "getset_descriptor.__get__")))
    (htk : PySem.W.takesIn K (.builtin "object.__class__") = some true)
    (aC : PySem.W.nsIn K mainGlobals "Ratio" = some (some (.ref C)))
    (pgC : PySem.W.plainGet K C Str.empty = true)
    (hdC : PySem.W.hasDictIn K C = true)
    (poC : PySem.W.plainOver K C = true)
    (saC : PySem.W.findIn K (.ref C) "__setattr__" = some (some (.builtin "object.__setattr__")))
    (mkC : PySem.W.makesIn K C = true)
    (kcC : PySem.W.keepIn K (.ref C) = true)
    (a_init : PySem.W.findIn K (.ref C) "__init__" = some (some (.ref f_init)))
    (i_init : PySem.W.isFn K (.ref f_init) = true)
    (l_init : K.lookup f_init = some ⟨oc_init, od_init, .func (PySem.W.fnOf "__init__" "Ratio.__init__" (defArgs S_init) (defBody S_init) (defScope S_init) (.ref T_init) kV_init dc_init pm_init an_init cd_init ct_init), sl_init⟩)
    (lT : K.lookup T_init = some ⟨oT, dT, .seq #[Value.int 1 tT] nT', sT⟩)
    (c_init : PySem.W.codeIn K cd_init "Ratio.__init__" = true)
    (k_init : PySem.W.keepIn K (.ref f_init) = true)
    (nT : PySem.W.findIn K (.ref C) "top" = some none)
    (nB : PySem.W.findIn K (.ref C) "bottom" = some none)
    (ha : PySem.W.findIn K (.ref C) "__class__" = some (some (.builtin "object.__class__")))
    (hm : PySem.W.mroIn K C (.type "object") = some true)
    (gg : PySem.W.nsIn K mainGlobals "gcd" = some (some (.builtin "math.gcd")))
    (sf : PySem.W.selfFirst K C = true)
    (aZ : PySem.W.nsIn K mainGlobals "ZeroBottom" = some (some (.ref Z)))
    (xZ : PySem.W.excIn K Z [.type "ValueError", .type "Exception", .type "BaseException", .type "object"] "ValueError.__new__" = true)
    (kZ : PySem.W.keepIn K (.ref Z) = true)
    (bZ : PySem.W.subIn K (.ref Z) (.type "BaseException") = some true)
    (tZ : PySem.W.typeIn K (.ref Z) = some (.type "type"))
    (aS : PySem.W.nsIn K mainGlobals "Span" = some (some (.ref S)))
    (pgS : PySem.W.plainGet K S Str.empty = true)
    (hdS : PySem.W.hasDictIn K S = true)
    (poS : PySem.W.plainOver K S = true)
    (saS : PySem.W.findIn K (.ref S) "__setattr__" = some (some (.builtin "object.__setattr__")))
    (mkS : PySem.W.makesIn K S = true)
    (kcS : PySem.W.keepIn K (.ref S) = true)
    (nL : PySem.W.findIn K (.ref S) "low" = some none)
    (nH : PySem.W.findIn K (.ref S) "high" = some none)
    (sfS : PySem.W.selfFirst K S = true)
    (haS : PySem.W.findIn K (.ref S) "__class__" = some (some (.builtin "object.__class__")))
    (hmS : PySem.W.mroIn K S (.type "object") = some true)
    (aCE : PySem.W.nsIn K mainGlobals "CarryError" = some (some (.ref CE)))
    (aO : PySem.W.nsIn K mainGlobals "Apart" = some (some (.ref Ap)))
    (eZ : PySem.W.subIn K (.ref Z) (.ref CE) = some true)
    (CEd : PySem.W.hasDictIn K CE = true)
    (CEb : PySem.W.subIn K (.ref CE) (.type "BaseException") = some true)
    (CEt : PySem.W.typeIn K (.ref CE) = some (.type "type"))
    (Zg : PySem.W.findIn K (.ref Z) "__getattribute__" = some (some (.builtin "BaseException.__getattribute__")))
    (Zk : PySem.W.findIn K (.ref Z) "__getattr__" = some none)
    (Zd : PySem.W.hasDictIn K Z = true)
    (Za : PySem.W.findIn K (.ref Z) "__class__" = some (some (.builtin "object.__class__")))
    (Zm : PySem.W.mroIn K Z (.type "object") = some true)
    (zv : PySem.W.subIn K (.ref Z) (.type "ValueError") = some true)
    (zo : PySem.W.subIn K (.ref Z) (.ref Ap) = some false)
    (nZO : Z ≠ Ap)
    (Od : PySem.W.hasDictIn K Ap = true)
    (Ot : PySem.W.typeIn K (.ref Ap) = some (.type "type"))
    (z_len : PySem.W.nsIn K mainGlobals "len" = some none)
    (z_abs : PySem.W.nsIn K mainGlobals "abs" = some none)
    (z_int : PySem.W.nsIn K mainGlobals "int" = some none)
    (z_bool : PySem.W.nsIn K mainGlobals "bool" = some none)
    (z_isinstance : PySem.W.nsIn K mainGlobals "isinstance" = some none)
    (z_range : PySem.W.nsIn K mainGlobals "range" = some none)
    (z_ValueError : PySem.W.nsIn K mainGlobals "ValueError" = some none)
    (a_add : PySem.W.findIn K (.ref C) "__add__" = some (some (.ref f_add)))
    (i_add : PySem.W.isFn K (.ref f_add) = true)
    (l_add : K.lookup f_add = some ⟨oc_add, od_add, .func (PySem.W.fnOf "__add__" "Ratio.__add__" (defArgs S_add) (defBody S_add) (defScope S_add) .none kV_add dc_add pm_add an_add cd_add ct_add), sl_add⟩)
    (c_add : PySem.W.codeIn K cd_add "Ratio.__add__" = true)
    (k_add : PySem.W.keepIn K (.ref f_add) = true)
    (a_sub : PySem.W.findIn K (.ref C) "__sub__" = some (some (.ref f_sub)))
    (i_sub : PySem.W.isFn K (.ref f_sub) = true)
    (l_sub : K.lookup f_sub = some ⟨oc_sub, od_sub, .func (PySem.W.fnOf "__sub__" "Ratio.__sub__" (defArgs S_sub) (defBody S_sub) (defScope S_sub) .none kV_sub dc_sub pm_sub an_sub cd_sub ct_sub), sl_sub⟩)
    (c_sub : PySem.W.codeIn K cd_sub "Ratio.__sub__" = true)
    (k_sub : PySem.W.keepIn K (.ref f_sub) = true)
    (a_mul : PySem.W.findIn K (.ref C) "__mul__" = some (some (.ref f_mul)))
    (i_mul : PySem.W.isFn K (.ref f_mul) = true)
    (l_mul : K.lookup f_mul = some ⟨oc_mul, od_mul, .func (PySem.W.fnOf "__mul__" "Ratio.__mul__" (defArgs S_mul) (defBody S_mul) (defScope S_mul) .none kV_mul dc_mul pm_mul an_mul cd_mul ct_mul), sl_mul⟩)
    (c_mul : PySem.W.codeIn K cd_mul "Ratio.__mul__" = true)
    (k_mul : PySem.W.keepIn K (.ref f_mul) = true)
    (a_neg : PySem.W.findIn K (.ref C) "__neg__" = some (some (.ref f_neg)))
    (i_neg : PySem.W.isFn K (.ref f_neg) = true)
    (l_neg : K.lookup f_neg = some ⟨oc_neg, od_neg, .func (PySem.W.fnOf "__neg__" "Ratio.__neg__" (defArgs S_neg) (defBody S_neg) (defScope S_neg) .none kV_neg dc_neg pm_neg an_neg cd_neg ct_neg), sl_neg⟩)
    (c_neg : PySem.W.codeIn K cd_neg "Ratio.__neg__" = true)
    (k_neg : PySem.W.keepIn K (.ref f_neg) = true)
    (a_divided : PySem.W.findIn K (.ref C) "divided" = some (some (.ref f_divided)))
    (i_divided : PySem.W.isFn K (.ref f_divided) = true)
    (l_divided : K.lookup f_divided = some ⟨oc_divided, od_divided, .func (PySem.W.fnOf "divided" "Ratio.divided" (defArgs S_divided) (defBody S_divided) (defScope S_divided) .none kV_divided dc_divided pm_divided an_divided cd_divided ct_divided), sl_divided⟩)
    (c_divided : PySem.W.codeIn K cd_divided "Ratio.divided" = true)
    (k_divided : PySem.W.keepIn K (.ref f_divided) = true)
    (a_compare : PySem.W.findIn K (.ref C) "compare" = some (some (.ref f_compare)))
    (i_compare : PySem.W.isFn K (.ref f_compare) = true)
    (l_compare : K.lookup f_compare = some ⟨oc_compare, od_compare, .func (PySem.W.fnOf "compare" "Ratio.compare" (defArgs S_compare) (defBody S_compare) (defScope S_compare) .none kV_compare dc_compare pm_compare an_compare cd_compare ct_compare), sl_compare⟩)
    (c_compare : PySem.W.codeIn K cd_compare "Ratio.compare" = true)
    (k_compare : PySem.W.keepIn K (.ref f_compare) = true)
    (a_sinit : PySem.W.findIn K (.ref S) "__init__" = some (some (.ref f_sinit)))
    (i_sinit : PySem.W.isFn K (.ref f_sinit) = true)
    (l_sinit : K.lookup f_sinit = some ⟨oc_sinit, od_sinit, .func (PySem.W.fnOf "__init__" "Span.__init__" (defArgs S_sinit) (defBody S_sinit) (defScope S_sinit) .none kV_sinit dc_sinit pm_sinit an_sinit cd_sinit ct_sinit), sl_sinit⟩)
    (c_sinit : PySem.W.codeIn K cd_sinit "Span.__init__" = true)
    (k_sinit : PySem.W.keepIn K (.ref f_sinit) = true)
    (a_sadd : PySem.W.findIn K (.ref S) "__add__" = some (some (.ref f_sadd)))
    (i_sadd : PySem.W.isFn K (.ref f_sadd) = true)
    (l_sadd : K.lookup f_sadd = some ⟨oc_sadd, od_sadd, .func (PySem.W.fnOf "__add__" "Span.__add__" (defArgs S_sadd) (defBody S_sadd) (defScope S_sadd) .none kV_sadd dc_sadd pm_sadd an_sadd cd_sadd ct_sadd), sl_sadd⟩)
    (c_sadd : PySem.W.codeIn K cd_sadd "Span.__add__" = true)
    (k_sadd : PySem.W.keepIn K (.ref f_sadd) = true)
    (a_ssub : PySem.W.findIn K (.ref S) "__sub__" = some (some (.ref f_ssub)))
    (i_ssub : PySem.W.isFn K (.ref f_ssub) = true)
    (l_ssub : K.lookup f_ssub = some ⟨oc_ssub, od_ssub, .func (PySem.W.fnOf "__sub__" "Span.__sub__" (defArgs S_ssub) (defBody S_ssub) (defScope S_ssub) .none kV_ssub dc_ssub pm_ssub an_ssub cd_ssub ct_ssub), sl_ssub⟩)
    (c_ssub : PySem.W.codeIn K cd_ssub "Span.__sub__" = true)
    (k_ssub : PySem.W.keepIn K (.ref f_ssub) = true)
    (a_smul : PySem.W.findIn K (.ref S) "__mul__" = some (some (.ref f_smul)))
    (i_smul : PySem.W.isFn K (.ref f_smul) = true)
    (l_smul : K.lookup f_smul = some ⟨oc_smul, od_smul, .func (PySem.W.fnOf "__mul__" "Span.__mul__" (defArgs S_smul) (defBody S_smul) (defScope S_smul) .none kV_smul dc_smul pm_smul an_smul cd_smul ct_smul), sl_smul⟩)
    (c_smul : PySem.W.codeIn K cd_smul "Span.__mul__" = true)
    (k_smul : PySem.W.keepIn K (.ref f_smul) = true)
    (a_sneg : PySem.W.findIn K (.ref S) "__neg__" = some (some (.ref f_sneg)))
    (i_sneg : PySem.W.isFn K (.ref f_sneg) = true)
    (l_sneg : K.lookup f_sneg = some ⟨oc_sneg, od_sneg, .func (PySem.W.fnOf "__neg__" "Span.__neg__" (defArgs S_sneg) (defBody S_sneg) (defScope S_sneg) .none kV_sneg dc_sneg pm_sneg an_sneg cd_sneg ct_sneg), sl_sneg⟩)
    (c_sneg : PySem.W.codeIn K cd_sneg "Span.__neg__" = true)
    (k_sneg : PySem.W.keepIn K (.ref f_sneg) = true)
    (a_scontains : PySem.W.findIn K (.ref S) "__contains__" = some (some (.ref f_scontains)))
    (i_scontains : PySem.W.isFn K (.ref f_scontains) = true)
    (l_scontains : K.lookup f_scontains = some ⟨oc_scontains, od_scontains, .func (PySem.W.fnOf "__contains__" "Span.__contains__" (defArgs S_scontains) (defBody S_scontains) (defScope S_scontains) .none kV_scontains dc_scontains pm_scontains an_scontains cd_scontains ct_scontains), sl_scontains⟩)
    (c_scontains : PySem.W.codeIn K cd_scontains "Span.__contains__" = true)
    (k_scontains : PySem.W.keepIn K (.ref f_scontains) = true)
    (a_sdivided : PySem.W.findIn K (.ref S) "divided" = some (some (.ref f_sdivided)))
    (i_sdivided : PySem.W.isFn K (.ref f_sdivided) = true)
    (l_sdivided : K.lookup f_sdivided = some ⟨oc_sdivided, od_sdivided, .func (PySem.W.fnOf "divided" "Span.divided" (defArgs S_sdivided) (defBody S_sdivided) (defScope S_sdivided) .none kV_sdivided dc_sdivided pm_sdivided an_sdivided cd_sdivided ct_sdivided), sl_sdivided⟩)
    (c_sdivided : PySem.W.codeIn K cd_sdivided "Span.divided" = true)
    (k_sdivided : PySem.W.keepIn K (.ref f_sdivided) = true)
    (a_sleast : PySem.W.findIn K (.ref S) "least" = some (some (.ref f_sleast)))
    (i_sleast : PySem.W.isFn K (.ref f_sleast) = true)
    (l_sleast : K.lookup f_sleast = some ⟨oc_sleast, od_sleast, .func (PySem.W.fnOf "least" "Span.least" (defArgs S_sleast) (defBody S_sleast) (defScope S_sleast) .none kV_sleast dc_sleast pm_sleast an_sleast cd_sleast ct_sleast), sl_sleast⟩)
    (c_sleast : PySem.W.codeIn K cd_sleast "Span.least" = true)
    (k_sleast : PySem.W.keepIn K (.ref f_sleast) = true)
    (a_sgreatest : PySem.W.findIn K (.ref S) "greatest" = some (some (.ref f_sgreatest)))
    (i_sgreatest : PySem.W.isFn K (.ref f_sgreatest) = true)
    (l_sgreatest : K.lookup f_sgreatest = some ⟨oc_sgreatest, od_sgreatest, .func (PySem.W.fnOf "greatest" "Span.greatest" (defArgs S_sgreatest) (defBody S_sgreatest) (defScope S_sgreatest) .none kV_sgreatest dc_sgreatest pm_sgreatest an_sgreatest cd_sgreatest ct_sgreatest), sl_sgreatest⟩)
    (c_sgreatest : PySem.W.codeIn K cd_sgreatest "Span.greatest" = true)
    (k_sgreatest : PySem.W.keepIn K (.ref f_sgreatest) = true)
    (a_lesser : PySem.W.nsIn K mainGlobals "lesser" = some (some (.ref f_lesser)))
    (l_lesser : K.lookup f_lesser = some ⟨oc_lesser, od_lesser, .func (PySem.W.fnOf "lesser" "lesser" (defArgs S_lesser) (defBody S_lesser) (defScope S_lesser) .none kV_lesser dc_lesser pm_lesser an_lesser cd_lesser ct_lesser), sl_lesser⟩)
    (c_lesser : PySem.W.codeIn K cd_lesser "lesser" = true)
    (k_lesser : PySem.W.keepIn K (.ref f_lesser) = true)
    (a_greater : PySem.W.nsIn K mainGlobals "greater" = some (some (.ref f_greater)))
    (l_greater : K.lookup f_greater = some ⟨oc_greater, od_greater, .func (PySem.W.fnOf "greater" "greater" (defArgs S_greater) (defBody S_greater) (defScope S_greater) .none kV_greater dc_greater pm_greater an_greater cd_greater ct_greater), sl_greater⟩)
    (c_greater : PySem.W.codeIn K cd_greater "greater" = true)
    (k_greater : PySem.W.keepIn K (.ref f_greater) = true)
    (a_around : PySem.W.nsIn K mainGlobals "_around" = some (some (.ref f_around)))
    (l_around : K.lookup f_around = some ⟨oc_around, od_around, .func (PySem.W.fnOf "_around" "_around" (defArgs S_around) (defBody S_around) (defScope S_around) .none kV_around dc_around pm_around an_around cd_around ct_around), sl_around⟩)
    (c_around : PySem.W.codeIn K cd_around "_around" = true)
    (k_around : PySem.W.keepIn K (.ref f_around) = true)
    (a_start : PySem.W.nsIn K mainGlobals "_law_start" = some (some (.ref f_start)))
    (l_start : K.lookup f_start = some ⟨oc_start, od_start, .func (PySem.W.fnOf "_law_start" "_law_start" (defArgs S_start) (defBody S_start) (defScope S_start) .none kV_start dc_start pm_start an_start cd_start ct_start), sl_start⟩)
    (c_start : PySem.W.codeIn K cd_start "_law_start" = true)
    (k_start : PySem.W.keepIn K (.ref f_start) = true)
    (a_digit : PySem.W.nsIn K mainGlobals "_law_digit" = some (some (.ref f_digit)))
    (l_digit : K.lookup f_digit = some ⟨oc_digit, od_digit, .func (PySem.W.fnOf "_law_digit" "_law_digit" (defArgs S_digit) (defBody S_digit) (defScope S_digit) .none kV_digit dc_digit pm_digit an_digit cd_digit ct_digit), sl_digit⟩)
    (c_digit : PySem.W.codeIn K cd_digit "_law_digit" = true)
    (k_digit : PySem.W.keepIn K (.ref f_digit) = true)
    (a_fraction : PySem.W.nsIn K mainGlobals "_law_fraction" = some (some (.ref f_fraction)))
    (l_fraction : K.lookup f_fraction = some ⟨oc_fraction, od_fraction, .func (PySem.W.fnOf "_law_fraction" "_law_fraction" (defArgs S_fraction) (defBody S_fraction) (defScope S_fraction) .none kV_fraction dc_fraction pm_fraction an_fraction cd_fraction ct_fraction), sl_fraction⟩)
    (c_fraction : PySem.W.codeIn K cd_fraction "_law_fraction" = true)
    (k_fraction : PySem.W.keepIn K (.ref f_fraction) = true)
    (a_less : PySem.W.nsIn K mainGlobals "_law_less" = some (some (.ref f_less)))
    (l_less : K.lookup f_less = some ⟨oc_less, od_less, .func (PySem.W.fnOf "_law_less" "_law_less" (defArgs S_less) (defBody S_less) (defScope S_less) .none kV_less dc_less pm_less an_less cd_less ct_less), sl_less⟩)
    (c_less : PySem.W.codeIn K cd_less "_law_less" = true)
    (k_less : PySem.W.keepIn K (.ref f_less) = true)
    (a_plus : PySem.W.nsIn K mainGlobals "_law_plus" = some (some (.ref f_plus)))
    (l_plus : K.lookup f_plus = some ⟨oc_plus, od_plus, .func (PySem.W.fnOf "_law_plus" "_law_plus" (defArgs S_plus) (defBody S_plus) (defScope S_plus) .none kV_plus dc_plus pm_plus an_plus cd_plus ct_plus), sl_plus⟩)
    (c_plus : PySem.W.codeIn K cd_plus "_law_plus" = true)
    (k_plus : PySem.W.keepIn K (.ref f_plus) = true)
    (a_ends : PySem.W.nsIn K mainGlobals "_law_ends" = some (some (.ref f_ends)))
    (l_ends : K.lookup f_ends = some ⟨oc_ends, od_ends, .func (PySem.W.fnOf "_law_ends" "_law_ends" (defArgs S_ends) (defBody S_ends) (defScope S_ends) .none kV_ends dc_ends pm_ends an_ends cd_ends ct_ends), sl_ends⟩)
    (c_ends : PySem.W.codeIn K cd_ends "_law_ends" = true)
    (k_ends : PySem.W.keepIn K (.ref f_ends) = true)
    (a_between : PySem.W.nsIn K mainGlobals "_law_between" = some (some (.ref f_between)))
    (l_between : K.lookup f_between = some ⟨oc_between, od_between, .func (PySem.W.fnOf "_law_between" "_law_between" (defArgs S_between) (defBody S_between) (defScope S_between) .none kV_between dc_between pm_between an_between cd_between ct_between), sl_between⟩)
    (c_between : PySem.W.codeIn K cd_between "_law_between" = true)
    (k_between : PySem.W.keepIn K (.ref f_between) = true)
    (a_own : PySem.W.nsIn K mainGlobals "_law_own" = some (some (.ref f_own)))
    (l_own : K.lookup f_own = some ⟨oc_own, od_own, .func (PySem.W.fnOf "_law_own" "_law_own" (defArgs S_own) (defBody S_own) (defScope S_own) .none kV_own dc_own pm_own an_own cd_own ct_own), sl_own⟩)
    (c_own : PySem.W.codeIn K cd_own "_law_own" = true)
    (k_own : PySem.W.keepIn K (.ref f_own) = true)
    (a_asked : PySem.W.nsIn K mainGlobals "_law_asked" = some (some (.ref f_asked)))
    (l_asked : K.lookup f_asked = some ⟨oc_asked, od_asked, .func (PySem.W.fnOf "_law_asked" "_law_asked" (defArgs S_asked) (defBody S_asked) (defScope S_asked) .none kV_asked dc_asked pm_asked an_asked cd_asked ct_asked), sl_asked⟩)
    (c_asked : PySem.W.codeIn K cd_asked "_law_asked" = true)
    (k_asked : PySem.W.keepIn K (.ref f_asked) = true)
    (a_equals : PySem.W.nsIn K mainGlobals "_law_equals" = some (some (.ref f_equals)))
    (l_equals : K.lookup f_equals = some ⟨oc_equals, od_equals, .func (PySem.W.fnOf "_law_equals" "_law_equals" (defArgs S_equals) (defBody S_equals) (defScope S_equals) .none kV_equals dc_equals pm_equals an_equals cd_equals ct_equals), sl_equals⟩)
    (c_equals : PySem.W.codeIn K cd_equals "_law_equals" = true)
    (k_equals : PySem.W.keepIn K (.ref f_equals) = true)
    (a_isspan : PySem.W.nsIn K mainGlobals "_law_is_span" = some (some (.ref f_isspan)))
    (l_isspan : K.lookup f_isspan = some ⟨oc_isspan, od_isspan, .func (PySem.W.fnOf "_law_is_span" "_law_is_span" (defArgs S_isspan) (defBody S_isspan) (defScope S_isspan) .none kV_isspan dc_isspan pm_isspan an_isspan cd_isspan ct_isspan), sl_isspan⟩)
    (c_isspan : PySem.W.codeIn K cd_isspan "_law_is_span" = true)
    (k_isspan : PySem.W.keepIn K (.ref f_isspan) = true)
    (a_fits : PySem.W.nsIn K mainGlobals "_law_fits" = some (some (.ref f_fits)))
    (l_fits : K.lookup f_fits = some ⟨oc_fits, od_fits, .func (PySem.W.fnOf "_law_fits" "_law_fits" (defArgs S_fits) (defBody S_fits) (defScope S_fits) .none kV_fits dc_fits pm_fits an_fits cd_fits ct_fits), sl_fits⟩)
    (c_fits : PySem.W.codeIn K cd_fits "_law_fits" = true)
    (k_fits : PySem.W.keepIn K (.ref f_fits) = true)
    (a_noquo : PySem.W.nsIn K mainGlobals "_law_no_quotient" = some (some (.ref f_noquo)))
    (l_noquo : K.lookup f_noquo = some ⟨oc_noquo, od_noquo, .func (PySem.W.fnOf "_law_no_quotient" "_law_no_quotient" (defArgs S_noquo) (defBody S_noquo) (defScope S_noquo) .none kV_noquo dc_noquo pm_noquo an_noquo cd_noquo ct_noquo), sl_noquo⟩)
    (c_noquo : PySem.W.codeIn K cd_noquo "_law_no_quotient" = true)
    (k_noquo : PySem.W.keepIn K (.ref f_noquo) = true)
    (a_all : PySem.W.nsIn K mainGlobals "_law_all" = some (some (.ref f_all)))
    (l_all : K.lookup f_all = some ⟨oc_all, od_all, .func (PySem.W.fnOf "_law_all" "_law_all" (defArgs S_all) (defBody S_all) (defScope S_all) .none kV_all dc_all pm_all an_all cd_all ct_all), sl_all⟩)
    (c_all : PySem.W.codeIn K cd_all "_law_all" = true)
    (k_all : PySem.W.keepIn K (.ref f_all) = true)
    (a_law : PySem.W.nsIn K mainGlobals "law" = some (some (.ref f_law)))
    (l_law : K.lookup f_law = some ⟨oc_law, od_law, .func (PySem.W.fnOf "law" "law" (defArgs S_law) (defBody S_law) (defScope S_law) .none kV_law dc_law pm_law an_law cd_law ct_law), sl_law⟩)
    (c_law : PySem.W.codeIn K cd_law "law" = true)
    (k_law : PySem.W.keepIn K (.ref f_law) = true) :
    ∃ fd : FuncData, (∀ (s : Shared) (v : Value), BindsTo s fd ⟨[v], []⟩ [("script", v)]) ∧ ∀ base : Heap, K.In base → base.Ns mainGlobals mg → FnOk l.prog w K mg base CX0 8 fa fd ["script"] (spLaw K) := by
  have e := hfa.symm.trans (PySem.W.mg_of X G a_law)
  cases e
  have F_add := fun_mk (st := S_add) l_add c_add k_add
  have b_add := F_add.binds (ps := ["self", "other"]) fun _ _ _ _ _ _ us hl => match us, hl with | [_, _], _ => rfl
  have F_sub := fun_mk (st := S_sub) l_sub c_sub k_sub
  have b_sub := F_sub.binds (ps := ["self", "other"]) fun _ _ _ _ _ _ us hl => match us, hl with | [_, _], _ => rfl
  have F_mul := fun_mk (st := S_mul) l_mul c_mul k_mul
  have b_mul := F_mul.binds (ps := ["self", "other"]) fun _ _ _ _ _ _ us hl => match us, hl with | [_, _], _ => rfl
  have F_neg := fun_mk (st := S_neg) l_neg c_neg k_neg
  have b_neg := F_neg.binds (ps := ["self"]) fun _ _ _ _ _ _ us hl => match us, hl with | [_], _ => rfl
  have F_divided := fun_mk (st := S_divided) l_divided c_divided k_divided
  have b_divided := F_divided.binds (ps := ["self", "other"]) fun _ _ _ _ _ _ us hl => match us, hl with | [_, _], _ => rfl
  have F_compare := fun_mk (st := S_compare) l_compare c_compare k_compare
  have b_compare := F_compare.binds (ps := ["self", "other"]) fun _ _ _ _ _ _ us hl => match us, hl with | [_, _], _ => rfl
  have F_sinit := fun_mk (st := S_sinit) l_sinit c_sinit k_sinit
  have b_sinit := F_sinit.binds (ps := ["self", "low", "high"]) fun _ _ _ _ _ _ us hl => match us, hl with | [_, _, _], _ => rfl
  have F_sadd := fun_mk (st := S_sadd) l_sadd c_sadd k_sadd
  have b_sadd := F_sadd.binds (ps := ["self", "other"]) fun _ _ _ _ _ _ us hl => match us, hl with | [_, _], _ => rfl
  have F_ssub := fun_mk (st := S_ssub) l_ssub c_ssub k_ssub
  have b_ssub := F_ssub.binds (ps := ["self", "other"]) fun _ _ _ _ _ _ us hl => match us, hl with | [_, _], _ => rfl
  have F_smul := fun_mk (st := S_smul) l_smul c_smul k_smul
  have b_smul := F_smul.binds (ps := ["self", "other"]) fun _ _ _ _ _ _ us hl => match us, hl with | [_, _], _ => rfl
  have F_sneg := fun_mk (st := S_sneg) l_sneg c_sneg k_sneg
  have b_sneg := F_sneg.binds (ps := ["self"]) fun _ _ _ _ _ _ us hl => match us, hl with | [_], _ => rfl
  have F_scontains := fun_mk (st := S_scontains) l_scontains c_scontains k_scontains
  have b_scontains := F_scontains.binds (ps := ["self", "x"]) fun _ _ _ _ _ _ us hl => match us, hl with | [_, _], _ => rfl
  have F_sdivided := fun_mk (st := S_sdivided) l_sdivided c_sdivided k_sdivided
  have b_sdivided := F_sdivided.binds (ps := ["self", "other"]) fun _ _ _ _ _ _ us hl => match us, hl with | [_, _], _ => rfl
  have F_sleast := fun_mk (st := S_sleast) l_sleast c_sleast k_sleast
  have b_sleast := F_sleast.binds (ps := ["self", "other"]) fun _ _ _ _ _ _ us hl => match us, hl with | [_, _], _ => rfl
  have F_sgreatest := fun_mk (st := S_sgreatest) l_sgreatest c_sgreatest k_sgreatest
  have b_sgreatest := F_sgreatest.binds (ps := ["self", "other"]) fun _ _ _ _ _ _ us hl => match us, hl with | [_, _], _ => rfl
  have F_lesser := fun_mk (st := S_lesser) l_lesser c_lesser k_lesser
  have b_lesser := F_lesser.binds (ps := ["a", "b"]) fun _ _ _ _ _ _ us hl => match us, hl with | [_, _], _ => rfl
  have F_greater := fun_mk (st := S_greater) l_greater c_greater k_greater
  have b_greater := F_greater.binds (ps := ["a", "b"]) fun _ _ _ _ _ _ us hl => match us, hl with | [_, _], _ => rfl
  have F_around := fun_mk (st := S_around) l_around c_around k_around
  have b_around := F_around.binds (ps := ["ratios"]) fun _ _ _ _ _ _ us hl => match us, hl with | [_], _ => rfl
  have F_start := fun_mk (st := S_start) l_start c_start k_start
  have b_start := F_start.binds (ps := ["script"]) fun _ _ _ _ _ _ us hl => match us, hl with | [_], _ => rfl
  have F_digit := fun_mk (st := S_digit) l_digit c_digit k_digit
  have b_digit := F_digit.binds (ps := ["pot", "many"]) fun _ _ _ _ _ _ us hl => match us, hl with | [_, _], _ => rfl
  have F_fraction := fun_mk (st := S_fraction) l_fraction c_fraction k_fraction
  have b_fraction := F_fraction.binds (ps := ["pot"]) fun _ _ _ _ _ _ us hl => match us, hl with | [_], _ => rfl
  have F_less := fun_mk (st := S_less) l_less c_less k_less
  have b_less := F_less.binds (ps := ["p", "q"]) fun _ _ _ _ _ _ us hl => match us, hl with | [_, _], _ => rfl
  have F_plus := fun_mk (st := S_plus) l_plus c_plus k_plus
  have b_plus := F_plus.binds (ps := ["p", "q"]) fun _ _ _ _ _ _ us hl => match us, hl with | [_, _], _ => rfl
  have F_ends := fun_mk (st := S_ends) l_ends c_ends k_ends
  have b_ends := F_ends.binds (ps := ["pot", "shift"]) fun _ _ _ _ _ _ us hl => match us, hl with | [_, _], _ => rfl
  have F_between := fun_mk (st := S_between) l_between c_between k_between
  have b_between := F_between.binds (ps := ["pot", "s"]) fun _ _ _ _ _ _ us hl => match us, hl with | [_, _], _ => rfl
  have F_own := fun_mk (st := S_own) l_own c_own k_own
  have b_own := F_own.binds (ps := ["op", "p", "q"]) fun _ _ _ _ _ _ us hl => match us, hl with | [_, _, _], _ => rfl
  have F_asked := fun_mk (st := S_asked) l_asked c_asked k_asked
  have b_asked := F_asked.binds (ps := ["op", "a", "b"]) fun _ _ _ _ _ _ us hl => match us, hl with | [_, _, _], _ => rfl
  have F_equals := fun_mk (st := S_equals) l_equals c_equals k_equals
  have b_equals := F_equals.binds (ps := ["told", "p"]) fun _ _ _ _ _ _ us hl => match us, hl with | [_, _], _ => rfl
  have F_isspan := fun_mk (st := S_isspan) l_isspan c_isspan k_isspan
  have b_isspan := F_isspan.binds (ps := ["told", "low", "high"]) fun _ _ _ _ _ _ us hl => match us, hl with | [_, _, _], _ => rfl
  have F_fits := fun_mk (st := S_fits) l_fits c_fits k_fits
  have b_fits := F_fits.binds (ps := ["told", "op", "s", "t", "x", "y"]) fun _ _ _ _ _ _ us hl => match us, hl with | [_, _, _, _, _, _], _ => rfl
  have F_noquo := fun_mk (st := S_noquo) l_noquo c_noquo k_noquo
  have b_noquo := F_noquo.binds (ps := ["a", "b"]) fun _ _ _ _ _ _ us hl => match us, hl with | [_, _], _ => rfl
  have F_all := fun_mk (st := S_all) l_all c_all k_all
  have b_all := F_all.binds (ps := ["a", "b", "s", "t", "x", "y"]) fun _ _ _ _ _ _ us hl => match us, hl with | [_, _, _, _, _, _], _ => rfl
  have F_law := fun_mk (st := S_law) l_law c_law k_law
  have b_law := F_law.binds (ps := ["script"]) fun _ _ _ _ _ _ us hl => match us, hl with | [_], _ => rfl
  have F_init : FunD K "__init__" "Ratio.__init__" (defArgs S_init) (defBody S_init) (defScope S_init) [.int 1] [] f_init (PySem.W.fnOf "__init__" "Ratio.__init__" (defArgs S_init) (defBody S_init) (defScope S_init) (.ref T_init) kV_init dc_init pm_init an_init cd_init ct_init) :=
    ⟨⟨_, _, _, _, _, _, _, _, _, _, rfl, l_init, c_init, .inr ⟨(by intro z; cases z), T_init, _, [Value.int 1 tT], _, rfl, lT, rfl, .cons ⟨_, rfl⟩ .nil⟩, .inl rfl⟩, k_init⟩
  have b3 : ∃ ds, Vals (([V.int 1] : List V).drop 1) ds ∧ Binds K (PySem.W.fnOf "__init__" "Ratio.__init__" (defArgs S_init) (defBody S_init) (defScope S_init) (.ref T_init) kV_init dc_init pm_init an_init cd_init ct_init) ["self", "top", "bottom"] ds :=
    F_init.binds1 3 1 (by intro z; cases z) rfl fun T kV doc pm an cdv ct us its h1 h2 => match us, its, h1, h2 with | [_, _, _], [_], _, _ => ⟨_, rfl, rfl⟩
  have b2 : ∃ ds, Vals (([V.int 1] : List V).drop 0) ds ∧ Binds K (PySem.W.fnOf "__init__" "Ratio.__init__" (defArgs S_init) (defBody S_init) (defScope S_init) (.ref T_init) kV_init dc_init pm_init an_init cd_init ct_init) ["self", "top", "bottom"] ds :=
    F_init.binds1 2 0 (by intro z; cases z) rfl fun T kV doc pm an cdv ct us its h1 h2 => match us, its, h1, h2 with | [_, _], [_], _, _ => ⟨_, rfl, rfl⟩
  have b3' : Binds K (PySem.W.fnOf "__init__" "Ratio.__init__" (defArgs S_init) (defBody S_init) (defScope S_init) (.ref T_init) kV_init dc_init pm_init an_init cd_init ct_init) ["self", "top", "bottom"] [] := by
    obtain ⟨ds, v, b⟩ := b3
    cases v
    exact b
  let A : Ad := { C := C, f_init := f_init, d_init := PySem.W.fnOf "__init__" "Ratio.__init__" (defArgs S_init) (defBody S_init) (defScope S_init) (.ref T_init) kV_init dc_init pm_init an_init cd_init ct_init, Z := Z, S := S, CE := CE, Ap := Ap, f_add := f_add, d_add := PySem.W.fnOf "__add__" "Ratio.__add__" (defArgs S_add) (defBody S_add) (defScope S_add) .none kV_add dc_add pm_add an_add cd_add ct_add, f_sub := f_sub, d_sub := PySem.W.fnOf "__sub__" "Ratio.__sub__" (defArgs S_sub) (defBody S_sub) (defScope S_sub) .none kV_sub dc_sub pm_sub an_sub cd_sub ct_sub, f_mul := f_mul, d_mul := PySem.W.fnOf "__mul__" "Ratio.__mul__" (defArgs S_mul) (defBody S_mul) (defScope S_mul) .none kV_mul dc_mul pm_mul an_mul cd_mul ct_mul, f_neg := f_neg, d_neg := PySem.W.fnOf "__neg__" "Ratio.__neg__" (defArgs S_neg) (defBody S_neg) (defScope S_neg) .none kV_neg dc_neg pm_neg an_neg cd_neg ct_neg, f_divided := f_divided, d_divided := PySem.W.fnOf "divided" "Ratio.divided" (defArgs S_divided) (defBody S_divided) (defScope S_divided) .none kV_divided dc_divided pm_divided an_divided cd_divided ct_divided, f_compare := f_compare, d_compare := PySem.W.fnOf "compare" "Ratio.compare" (defArgs S_compare) (defBody S_compare) (defScope S_compare) .none kV_compare dc_compare pm_compare an_compare cd_compare ct_compare, f_sinit := f_sinit, d_sinit := PySem.W.fnOf "__init__" "Span.__init__" (defArgs S_sinit) (defBody S_sinit) (defScope S_sinit) .none kV_sinit dc_sinit pm_sinit an_sinit cd_sinit ct_sinit, f_sadd := f_sadd, d_sadd := PySem.W.fnOf "__add__" "Span.__add__" (defArgs S_sadd) (defBody S_sadd) (defScope S_sadd) .none kV_sadd dc_sadd pm_sadd an_sadd cd_sadd ct_sadd, f_ssub := f_ssub, d_ssub := PySem.W.fnOf "__sub__" "Span.__sub__" (defArgs S_ssub) (defBody S_ssub) (defScope S_ssub) .none kV_ssub dc_ssub pm_ssub an_ssub cd_ssub ct_ssub, f_smul := f_smul, d_smul := PySem.W.fnOf "__mul__" "Span.__mul__" (defArgs S_smul) (defBody S_smul) (defScope S_smul) .none kV_smul dc_smul pm_smul an_smul cd_smul ct_smul, f_sneg := f_sneg, d_sneg := PySem.W.fnOf "__neg__" "Span.__neg__" (defArgs S_sneg) (defBody S_sneg) (defScope S_sneg) .none kV_sneg dc_sneg pm_sneg an_sneg cd_sneg ct_sneg, f_scontains := f_scontains, d_scontains := PySem.W.fnOf "__contains__" "Span.__contains__" (defArgs S_scontains) (defBody S_scontains) (defScope S_scontains) .none kV_scontains dc_scontains pm_scontains an_scontains cd_scontains ct_scontains, f_sdivided := f_sdivided, d_sdivided := PySem.W.fnOf "divided" "Span.divided" (defArgs S_sdivided) (defBody S_sdivided) (defScope S_sdivided) .none kV_sdivided dc_sdivided pm_sdivided an_sdivided cd_sdivided ct_sdivided, f_sleast := f_sleast, d_sleast := PySem.W.fnOf "least" "Span.least" (defArgs S_sleast) (defBody S_sleast) (defScope S_sleast) .none kV_sleast dc_sleast pm_sleast an_sleast cd_sleast ct_sleast, f_sgreatest := f_sgreatest, d_sgreatest := PySem.W.fnOf "greatest" "Span.greatest" (defArgs S_sgreatest) (defBody S_sgreatest) (defScope S_sgreatest) .none kV_sgreatest dc_sgreatest pm_sgreatest an_sgreatest cd_sgreatest ct_sgreatest, f_lesser := f_lesser, d_lesser := PySem.W.fnOf "lesser" "lesser" (defArgs S_lesser) (defBody S_lesser) (defScope S_lesser) .none kV_lesser dc_lesser pm_lesser an_lesser cd_lesser ct_lesser, f_greater := f_greater, d_greater := PySem.W.fnOf "greater" "greater" (defArgs S_greater) (defBody S_greater) (defScope S_greater) .none kV_greater dc_greater pm_greater an_greater cd_greater ct_greater, f_around := f_around, d_around := PySem.W.fnOf "_around" "_around" (defArgs S_around) (defBody S_around) (defScope S_around) .none kV_around dc_around pm_around an_around cd_around ct_around, f_start := f_start, d_start := PySem.W.fnOf "_law_start" "_law_start" (defArgs S_start) (defBody S_start) (defScope S_start) .none kV_start dc_start pm_start an_start cd_start ct_start, f_digit := f_digit, d_digit := PySem.W.fnOf "_law_digit" "_law_digit" (defArgs S_digit) (defBody S_digit) (defScope S_digit) .none kV_digit dc_digit pm_digit an_digit cd_digit ct_digit, f_fraction := f_fraction, d_fraction := PySem.W.fnOf "_law_fraction" "_law_fraction" (defArgs S_fraction) (defBody S_fraction) (defScope S_fraction) .none kV_fraction dc_fraction pm_fraction an_fraction cd_fraction ct_fraction, f_less := f_less, d_less := PySem.W.fnOf "_law_less" "_law_less" (defArgs S_less) (defBody S_less) (defScope S_less) .none kV_less dc_less pm_less an_less cd_less ct_less, f_plus := f_plus, d_plus := PySem.W.fnOf "_law_plus" "_law_plus" (defArgs S_plus) (defBody S_plus) (defScope S_plus) .none kV_plus dc_plus pm_plus an_plus cd_plus ct_plus, f_ends := f_ends, d_ends := PySem.W.fnOf "_law_ends" "_law_ends" (defArgs S_ends) (defBody S_ends) (defScope S_ends) .none kV_ends dc_ends pm_ends an_ends cd_ends ct_ends, f_between := f_between, d_between := PySem.W.fnOf "_law_between" "_law_between" (defArgs S_between) (defBody S_between) (defScope S_between) .none kV_between dc_between pm_between an_between cd_between ct_between, f_own := f_own, d_own := PySem.W.fnOf "_law_own" "_law_own" (defArgs S_own) (defBody S_own) (defScope S_own) .none kV_own dc_own pm_own an_own cd_own ct_own, f_asked := f_asked, d_asked := PySem.W.fnOf "_law_asked" "_law_asked" (defArgs S_asked) (defBody S_asked) (defScope S_asked) .none kV_asked dc_asked pm_asked an_asked cd_asked ct_asked, f_equals := f_equals, d_equals := PySem.W.fnOf "_law_equals" "_law_equals" (defArgs S_equals) (defBody S_equals) (defScope S_equals) .none kV_equals dc_equals pm_equals an_equals cd_equals ct_equals, f_isspan := f_isspan, d_isspan := PySem.W.fnOf "_law_is_span" "_law_is_span" (defArgs S_isspan) (defBody S_isspan) (defScope S_isspan) .none kV_isspan dc_isspan pm_isspan an_isspan cd_isspan ct_isspan, f_fits := f_fits, d_fits := PySem.W.fnOf "_law_fits" "_law_fits" (defArgs S_fits) (defBody S_fits) (defScope S_fits) .none kV_fits dc_fits pm_fits an_fits cd_fits ct_fits, f_noquo := f_noquo, d_noquo := PySem.W.fnOf "_law_no_quotient" "_law_no_quotient" (defArgs S_noquo) (defBody S_noquo) (defScope S_noquo) .none kV_noquo dc_noquo pm_noquo an_noquo cd_noquo ct_noquo, f_all := f_all, d_all := PySem.W.fnOf "_law_all" "_law_all" (defArgs S_all) (defBody S_all) (defScope S_all) .none kV_all dc_all pm_all an_all cd_all ct_all, f_law := fa, d_law := PySem.W.fnOf "law" "law" (defArgs S_law) (defBody S_law) (defScope S_law) .none kV_law dc_law pm_law an_law cd_law ct_law }
  have T : Txt K mg A := {
    hn := hn,
    htk := htk,
    cl := ⟨pgC, hdC, poC, saC⟩,
    nT := nT,
    nB := nB,
    mkC := ⟨mkC, a_init, i_init, kcC⟩,
    ha := ha,
    hm := hm,
    F_init := F_init,
    b_init3 := b3',
    b_init2 := b2,
    g_Ratio := PySem.W.mg_of X G aC,
    g_gcd := PySem.W.mg_of X G gg,
    sf := sf,
    g_Z := PySem.W.mg_of X G aZ,
    xZ := xZ,
    kZ := kZ,
    bZ := bZ,
    tZ := tZ,
    cS := ⟨pgS, hdS, poS, saS⟩,
    nL := nL,
    nH := nH,
    mkS := ⟨mkS, a_sinit, i_sinit, kcS⟩,
    sfS := sfS,
    haS := haS,
    hmS := hmS,
    g_Span := PySem.W.mg_of X G aS,
    g_CE := PySem.W.mg_of X G aCE,
    g_Ap := PySem.W.mg_of X G aO,
    eZ := PySem.W.exm_ref CEb CEd CEt eZ,
    XZ := ⟨Zg, Zk, bZ, Zd, Za, hn, htk, Zm⟩,
    zv := kit_typ (by decide +kernel) zv,
    zo := kit_ref Od Ot zo (fun z => nZO (Value.ref.inj z)),
    n_len := PySem.W.mg_none_of X G z_len,
    n_abs := PySem.W.mg_none_of X G z_abs,
    n_int := PySem.W.mg_none_of X G z_int,
    n_bool := PySem.W.mg_none_of X G z_bool,
    n_isinstance := PySem.W.mg_none_of X G z_isinstance,
    n_range := PySem.W.mg_none_of X G z_range,
    n_ValueError := PySem.W.mg_none_of X G z_ValueError,
    F_add := F_add, b_add := b_add,
    m_add := ⟨a_add, i_add, k_add⟩,
    F_sub := F_sub, b_sub := b_sub,
    m_sub := ⟨a_sub, i_sub, k_sub⟩,
    F_mul := F_mul, b_mul := b_mul,
    m_mul := ⟨a_mul, i_mul, k_mul⟩,
    F_neg := F_neg, b_neg := b_neg,
    m_neg := ⟨a_neg, i_neg, k_neg⟩,
    F_divided := F_divided, b_divided := b_divided,
    m_divided := ⟨a_divided, i_divided, k_divided⟩,
    F_compare := F_compare, b_compare := b_compare,
    m_compare := ⟨a_compare, i_compare, k_compare⟩,
    F_sinit := F_sinit, b_sinit := b_sinit,
    m_sinit := ⟨a_sinit, i_sinit, k_sinit⟩,
    F_sadd := F_sadd, b_sadd := b_sadd,
    m_sadd := ⟨a_sadd, i_sadd, k_sadd⟩,
    F_ssub := F_ssub, b_ssub := b_ssub,
    m_ssub := ⟨a_ssub, i_ssub, k_ssub⟩,
    F_smul := F_smul, b_smul := b_smul,
    m_smul := ⟨a_smul, i_smul, k_smul⟩,
    F_sneg := F_sneg, b_sneg := b_sneg,
    m_sneg := ⟨a_sneg, i_sneg, k_sneg⟩,
    F_scontains := F_scontains, b_scontains := b_scontains,
    m_scontains := ⟨a_scontains, i_scontains, k_scontains⟩,
    F_sdivided := F_sdivided, b_sdivided := b_sdivided,
    m_sdivided := ⟨a_sdivided, i_sdivided, k_sdivided⟩,
    F_sleast := F_sleast, b_sleast := b_sleast,
    m_sleast := ⟨a_sleast, i_sleast, k_sleast⟩,
    F_sgreatest := F_sgreatest, b_sgreatest := b_sgreatest,
    m_sgreatest := ⟨a_sgreatest, i_sgreatest, k_sgreatest⟩,
    F_lesser := F_lesser, b_lesser := b_lesser,
    g_lesser := PySem.W.mg_of X G a_lesser,
    F_greater := F_greater, b_greater := b_greater,
    g_greater := PySem.W.mg_of X G a_greater,
    F_around := F_around, b_around := b_around,
    g_around := PySem.W.mg_of X G a_around,
    F_start := F_start, b_start := b_start,
    g_start := PySem.W.mg_of X G a_start,
    F_digit := F_digit, b_digit := b_digit,
    g_digit := PySem.W.mg_of X G a_digit,
    F_fraction := F_fraction, b_fraction := b_fraction,
    g_fraction := PySem.W.mg_of X G a_fraction,
    F_less := F_less, b_less := b_less,
    g_less := PySem.W.mg_of X G a_less,
    F_plus := F_plus, b_plus := b_plus,
    g_plus := PySem.W.mg_of X G a_plus,
    F_ends := F_ends, b_ends := b_ends,
    g_ends := PySem.W.mg_of X G a_ends,
    F_between := F_between, b_between := b_between,
    g_between := PySem.W.mg_of X G a_between,
    F_own := F_own, b_own := b_own,
    g_own := PySem.W.mg_of X G a_own,
    F_asked := F_asked, b_asked := b_asked,
    g_asked := PySem.W.mg_of X G a_asked,
    F_equals := F_equals, b_equals := b_equals,
    g_equals := PySem.W.mg_of X G a_equals,
    F_isspan := F_isspan, b_isspan := b_isspan,
    g_isspan := PySem.W.mg_of X G a_isspan,
    F_fits := F_fits, b_fits := b_fits,
    g_fits := PySem.W.mg_of X G a_fits,
    F_noquo := F_noquo, b_noquo := b_noquo,
    g_noquo := PySem.W.mg_of X G a_noquo,
    F_all := F_all, b_all := b_all,
    g_all := PySem.W.mg_of X G a_all,
    F_law := F_law, b_law := b_law,
    g_law := PySem.W.mg_of X G a_law }
  exact ⟨_, fun s v => .of_eq rfl, fun base _ _ => ok_law (P := l.prog) (w := w) (base := base) T⟩
theorem walk {l : PySem.W.OpenLaw} {q : Program} {loose : List Str} {XP : (Str → Option Value) → Heap → Prop} {YP : World → Heap → Prop} {d : DefRec} {K : Params → PySem.W.Frag} (hn : l.most = some 63) (hdf : d.params.defaults = [])
    (hY : ∀ (w : World) (h : Heap), YP w h → (K w.params).In h)
    (F : ∀ (w : World) (mg : Str → Option Value) (fa : Addr) (h : Heap), (K w.params).In h → h.Ns mainGlobals mg → mg d.name = some (.ref fa) →
      ∃ fd : FuncData, (∀ (s : Shared) (u : Value), BindsTo s fd ⟨[u], []⟩ [("script", u)]) ∧ ∀ base : Heap, (K w.params).In base → base.Ns mainGlobals mg → FnOk l.prog w (K w.params) mg base CX0 8 fa fd ["script"] (spLaw (K w.params))) :
    PySem.W.WalkO q loose XP YP l.row.toRowW d [] (fun f vs => PySem.call f vs) :=
  L2.walk_of (n := 63) (k := 8) (x := "script") (CX := fun _ => CX0) (sp := fun w => spLaw (K w.params)) hn (by decide) hdf ⟨rfl, by decide, by decide⟩ hY F
    (fun _ _ a ns hl _ hS => ⟨a, ns, rfl, hS, hl, fun _ => rfl⟩) fun _ _ _ _ _ z => z
end Fc
open PySem PySem.W PyProof.Rows
set_option maxRecDepth 100000 in
set_option maxHeartbeats 0 in
theorem PySem.Challenge.cw_fewcarry_k05_span_arithmetic_holds : PySem.Challenge.rw_fewcarry_k05_span_arithmetic.Holds := by
  w_on; o_law; k_head; (case hw => w_witness2)
  k_fill
  refine Fc.walk (l := PySem.Challenge.rw_fewcarry_k05_span_arithmetic) rfl rfl (fun w h Y => PySem.W.kIn_of Y) ?F
  case F =>
    intro w mg fa h KX G hmg
    refine' Fc.all_mk KX G hmg ?hn ?htk ?aC ?pgC ?hdC ?poC ?saC ?mkC ?kcC ?a_init ?i_init ?l_init ?lT ?c_init ?k_init ?nT ?nB ?ha ?hm ?gg ?sf ?aZ ?xZ ?kZ ?bZ ?tZ ?aS ?pgS ?hdS ?poS ?saS ?mkS ?kcS ?nL ?nH ?sfS ?haS ?hmS ?aCE ?aO ?eZ ?CEd ?CEb ?CEt ?Zg ?Zk ?Zd ?Za ?Zm ?zv ?zo ?nZO ?Od ?Ot ?z_len ?z_abs ?z_int ?z_bool ?z_isinstance ?z_range ?z_ValueError ?a_add ?i_add ?l_add ?c_add ?k_add ?a_sub ?i_sub ?l_sub ?c_sub ?k_sub ?a_mul ?i_mul ?l_mul ?c_mul ?k_mul ?a_neg ?i_neg ?l_neg ?c_neg ?k_neg ?a_divided ?i_divided ?l_divided ?c_divided ?k_divided ?a_compare ?i_compare ?l_compare ?c_compare ?k_compare ?a_sinit ?i_sinit ?l_sinit ?c_sinit ?k_sinit ?a_sadd ?i_sadd ?l_sadd ?c_sadd ?k_sadd ?a_ssub ?i_ssub ?l_ssub ?c_ssub ?k_ssub ?a_smul ?i_smul ?l_smul ?c_smul ?k_smul ?a_sneg ?i_sneg ?l_sneg ?c_sneg ?k_sneg ?a_scontains ?i_scontains ?l_scontains ?c_scontains ?k_scontains ?a_sdivided ?i_sdivided ?l_sdivided ?c_sdivided ?k_sdivided ?a_sleast ?i_sleast ?l_sleast ?c_sleast ?k_sleast ?a_sgreatest ?i_sgreatest ?l_sgreatest ?c_sgreatest ?k_sgreatest ?a_lesser ?l_lesser ?c_lesser ?k_lesser ?a_greater ?l_greater ?c_greater ?k_greater ?a_around ?l_around ?c_around ?k_around ?a_start ?l_start ?c_start ?k_start ?a_digit ?l_digit ?c_digit ?k_digit ?a_fraction ?l_fraction ?c_fraction ?k_fraction ?a_less ?l_less ?c_less ?k_less ?a_plus ?l_plus ?c_plus ?k_plus ?a_ends ?l_ends ?c_ends ?k_ends ?a_between ?l_between ?c_between ?k_between ?a_own ?l_own ?c_own ?k_own ?a_asked ?l_asked ?c_asked ?k_asked ?a_equals ?l_equals ?c_equals ?k_equals ?a_isspan ?l_isspan ?c_isspan ?k_isspan ?a_fits ?l_fits ?c_fits ?k_fits ?a_noquo ?l_noquo ?c_noquo ?k_noquo ?a_all ?l_all ?c_all ?k_all ?a_law ?l_law ?c_law ?k_law
    (case hn => k_is)
    (case htk => k_is)
    (case aC => k_is)
    (case pgC => k_is)
    (case hdC => k_is)
    (case poC => k_is)
    (case saC => k_is)
    (case mkC => k_is)
    (case kcC => k_is)
    (case a_init => k_is)
    (case i_init => k_is)
    (case l_init => k_is)
    (case lT => k_is)
    (case c_init => k_is)
    (case k_init => k_is)
    (case nT => k_is)
    (case nB => k_is)
    (case ha => k_is)
    (case hm => k_is)
    (case gg => k_is)
    (case sf => k_is)
    (case aZ => k_is)
    (case xZ => k_exc)
    (case kZ => k_is)
    (case bZ => k_is)
    (case tZ => k_is)
    (case aS => k_is)
    (case pgS => k_is)
    (case hdS => k_is)
    (case poS => k_is)
    (case saS => k_is)
    (case mkS => k_is)
    (case kcS => k_is)
    (case nL => k_is)
    (case nH => k_is)
    (case sfS => k_is)
    (case haS => k_is)
    (case hmS => k_is)
    (case aCE => k_is)
    (case aO => k_is)
    (case eZ => k_is)
    (case CEd => k_is)
    (case CEb => k_is)
    (case CEt => k_is)
    (case Zg => k_is)
    (case Zk => k_is)
    (case Zd => k_is)
    (case Za => k_is)
    (case Zm => k_is)
    (case zv => k_is)
    (case zo => k_is)
    (case nZO => decide)
    (case Od => k_is)
    (case Ot => k_is)
    (case z_len => k_is)
    (case z_abs => k_is)
    (case z_int => k_is)
    (case z_bool => k_is)
    (case z_isinstance => k_is)
    (case z_range => k_is)
    (case z_ValueError => k_is)
    (case a_add => k_is)
    (case i_add => k_is)
    (case l_add => k_is)
    (case c_add => k_is)
    (case k_add => k_is)
    (case a_sub => k_is)
    (case i_sub => k_is)
    (case l_sub => k_is)
    (case c_sub => k_is)
    (case k_sub => k_is)
    (case a_mul => k_is)
    (case i_mul => k_is)
    (case l_mul => k_is)
    (case c_mul => k_is)
    (case k_mul => k_is)
    (case a_neg => k_is)
    (case i_neg => k_is)
    (case l_neg => k_is)
    (case c_neg => k_is)
    (case k_neg => k_is)
    (case a_divided => k_is)
    (case i_divided => k_is)
    (case l_divided => k_is)
    (case c_divided => k_is)
    (case k_divided => k_is)
    (case a_compare => k_is)
    (case i_compare => k_is)
    (case l_compare => k_is)
    (case c_compare => k_is)
    (case k_compare => k_is)
    (case a_sinit => k_is)
    (case i_sinit => k_is)
    (case l_sinit => k_is)
    (case c_sinit => k_is)
    (case k_sinit => k_is)
    (case a_sadd => k_is)
    (case i_sadd => k_is)
    (case l_sadd => k_is)
    (case c_sadd => k_is)
    (case k_sadd => k_is)
    (case a_ssub => k_is)
    (case i_ssub => k_is)
    (case l_ssub => k_is)
    (case c_ssub => k_is)
    (case k_ssub => k_is)
    (case a_smul => k_is)
    (case i_smul => k_is)
    (case l_smul => k_is)
    (case c_smul => k_is)
    (case k_smul => k_is)
    (case a_sneg => k_is)
    (case i_sneg => k_is)
    (case l_sneg => k_is)
    (case c_sneg => k_is)
    (case k_sneg => k_is)
    (case a_scontains => k_is)
    (case i_scontains => k_is)
    (case l_scontains => k_is)
    (case c_scontains => k_is)
    (case k_scontains => k_is)
    (case a_sdivided => k_is)
    (case i_sdivided => k_is)
    (case l_sdivided => k_is)
    (case c_sdivided => k_is)
    (case k_sdivided => k_is)
    (case a_sleast => k_is)
    (case i_sleast => k_is)
    (case l_sleast => k_is)
    (case c_sleast => k_is)
    (case k_sleast => k_is)
    (case a_sgreatest => k_is)
    (case i_sgreatest => k_is)
    (case l_sgreatest => k_is)
    (case c_sgreatest => k_is)
    (case k_sgreatest => k_is)
    (case a_lesser => k_is)
    (case l_lesser => k_is)
    (case c_lesser => k_is)
    (case k_lesser => k_is)
    (case a_greater => k_is)
    (case l_greater => k_is)
    (case c_greater => k_is)
    (case k_greater => k_is)
    (case a_around => k_is)
    (case l_around => k_is)
    (case c_around => k_is)
    (case k_around => k_is)
    (case a_start => k_is)
    (case l_start => k_is)
    (case c_start => k_is)
    (case k_start => k_is)
    (case a_digit => k_is)
    (case l_digit => k_is)
    (case c_digit => k_is)
    (case k_digit => k_is)
    (case a_fraction => k_is)
    (case l_fraction => k_is)
    (case c_fraction => k_is)
    (case k_fraction => k_is)
    (case a_less => k_is)
    (case l_less => k_is)
    (case c_less => k_is)
    (case k_less => k_is)
    (case a_plus => k_is)
    (case l_plus => k_is)
    (case c_plus => k_is)
    (case k_plus => k_is)
    (case a_ends => k_is)
    (case l_ends => k_is)
    (case c_ends => k_is)
    (case k_ends => k_is)
    (case a_between => k_is)
    (case l_between => k_is)
    (case c_between => k_is)
    (case k_between => k_is)
    (case a_own => k_is)
    (case l_own => k_is)
    (case c_own => k_is)
    (case k_own => k_is)
    (case a_asked => k_is)
    (case l_asked => k_is)
    (case c_asked => k_is)
    (case k_asked => k_is)
    (case a_equals => k_is)
    (case l_equals => k_is)
    (case c_equals => k_is)
    (case k_equals => k_is)
    (case a_isspan => k_is)
    (case l_isspan => k_is)
    (case c_isspan => k_is)
    (case k_isspan => k_is)
    (case a_fits => k_is)
    (case l_fits => k_is)
    (case c_fits => k_is)
    (case k_fits => k_is)
    (case a_noquo => k_is)
    (case l_noquo => k_is)
    (case c_noquo => k_is)
    (case k_noquo => k_is)
    (case a_all => k_is)
    (case l_all => k_is)
    (case c_all => k_is)
    (case k_all => k_is)
    (case a_law => k_is)
    (case l_law => k_is)
    (case c_law => k_is)
    (case k_law => k_is)
#print axioms PySem.Challenge.cw_fewcarry_k05_span_arithmetic_holds
