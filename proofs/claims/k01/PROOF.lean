import PyProof.Rows.All
import Wide.All
import OpenK.AllK
import Wide.FinOn
import HandS.ForExc
import HandS.Comp
import HandS.Wide
import HandS.Gcd
import HandS.ExcInit
import HandS.ExcIs
import HandS.ExcField
import HandS.IsInst
import HandS.OwnEq
import HandS.Small
import HandS.Flow
import HandS.Codes
import KE.KOpsOwn
import HandS.Defaults
import PySem.Challenge.RW_fewcarry_k01_fraction_arithmetic
set_option Elab.async false
set_option linter.all false
set_option maxRecDepth 100000
set_option maxHeartbeats 4000000
/-! Rules of mine over the hand layer: operators that an own class defines, abs by an own method, floor division by any divisor,
an own error without arguments, isinstance of a caught error that has fields, a new instance or a method's call that may raise in a try. -/
namespace Fc
open PySem PySem.Spec PyProof.Rows L2

section
variable {X : Cx} {pins : List (Addr × Obj)} {sl : L2.St} {H : Hp} {s : Shared}

/-- a value of ours is never the mark NotImplemented -/
theorem cmpBack {Q : VK} {u : Value} {s' : Shared} (h : EP X pins sl Q u s') : PySem.W.CmpBack (EP X pins sl Q) u s' := by
  obtain ⟨v, H', I, r, q⟩ := id h
  cases v with
  | non => cases r; exact h
  | bl b => cases r; exact h
  | int i => obtain ⟨t, e⟩ := r; cases e; exact h
  | str y => obtain ⟨t, e⟩ := r; cases e; exact h
  | byt y => obtain ⟨t, e⟩ := r; cases e; exact h
  | flt y => obtain ⟨t, e⟩ := r; cases e; exact h
  | ref a => cases r; exact h
  | ty n => cases r; exact h

/-- what is known of an instance, as the library's rules ask it -/
theorem inst_at {a C dx : Addr} {fs : List (Str × V)} (I : Inv X pins sl H s) (e : H a = some (.ins C dx fs)) : ∃ ox od, PySem.W.InstAt s.heap a ox C od := by
  obtain ⟨mA, J, _⟩ := ins_get I.hok e
  obtain ⟨od, J, _⟩ := J.look
  exact ⟨_, _, J⟩
end

/-! ### x op y for two instances of one class -/
section
variable {X : Cx} {CX : CXT} {k : Nat} {C f : Addr} {fd : FuncData} {ps : List Str} {sp : Sp} {E : XK}
def rOwn (C : Addr) (sp : Sp) (E : XK) : R2 := fun x y H Q => ∃ a b dx dy fs gs, x = .ref a ∧ y = .ref b ∧
  H a = some (.ins C dx fs) ∧ H b = some (.ins C dy gs) ∧ sp [.ref a, .ref b] H Q E
theorem op_own {op : Operator} (hc : PySem.W.selfFirst X.K C = true) (hs : PySem.W.findIn X.K (.ref C) (PySem.dunder op.info.2) = some (some (.ref f)))
    (hf : PySem.W.isFn X.K (.ref f) = true) (F : FnOk X.prog X.w X.K X.mg X.base CX k f fd ps sp) (hr : Room k X.A) (hb : Binds X.K fd ps []) (hx : Passes CX X E) :
    OpR X (binaryOp op) (rOwn C sp E) := by
  intro pins s sl H x y u v Q I rx ry h
  obtain ⟨a, b, dx, dy, fs, gs, rfl, rfl, ha, hb', q⟩ := h
  cases rx
  cases ry
  obtain ⟨ox, od, J⟩ := inst_at I ha
  obtain ⟨oy, oe, J'⟩ := inst_at I hb'
  obtain ⟨m, hF⟩ := I.fr
  exact PySem.W.binop_K hF I.ok.mod.kin J J'.type hc hs hf
    (thn (run_fn (vs := [.ref a, .ref b]) (us := [.ref a, .ref b]) F hr hb .nil hx I (.cons rfl (.cons rfl .nil)) q) fun _ _ z => cmpBack z)

/-- x op n for an instance and a whole number -/
def rOwnI (C : Addr) (sp : Sp) (E : XK) : R2 := fun x y H Q => ∃ a dx fs n, x = .ref a ∧ y = .int n ∧ H a = some (.ins C dx fs) ∧ sp [.ref a, .int n] H Q E
theorem op_ownI {op : Operator} {fo ro rc : Option Value} (hc : PySem.W.selfFirst X.K C = true) (hs : PySem.W.findIn X.K (.ref C) (PySem.dunder op.info.2) = some (some (.ref f)))
    (hf : PySem.W.isFn X.K (.ref f) = true) (h0 : PySem.W.findIn X.K (.ref C) (dunderR op.info.2) = some rc) (hp : rc = none ∨ ∃ g : Addr, rc = some (.ref g))
    (h1 : PySem.W.findIn X.K (.type "int") (PySem.dunder op.info.2) = some fo) (h2 : PySem.W.findIn X.K (.type "int") (dunderR op.info.2) = some ro)
    (hsub : PySem.W.subIn X.K (.type "int") (.ref C) = some false)
    (F : FnOk X.prog X.w X.K X.mg X.base CX k f fd ps sp) (hr : Room k X.A) (hb : Binds X.K fd ps []) (hx : Passes CX X E) :
    OpR X (binaryOp op) (rOwnI C sp E) := by
  intro pins s sl H x y u v Q I rx ry h
  obtain ⟨a, dx, fs, n, rfl, rfl, ha, q⟩ := h
  cases rx
  obtain ⟨t, rfl⟩ := ry
  obtain ⟨ox, od, J⟩ := inst_at I ha
  obtain ⟨m, hF⟩ := I.fr
  exact PySem.W.ksp_binT (T := "int") hF I.ok.mod.kin J rfl hc hs hf h0 hp h1 h2 hsub
    (thn (run_fn (vs := [.ref a, .int n]) (us := [.ref a, .int n t]) F hr hb .nil hx I (.cons rfl (.cons ⟨t, rfl⟩ .nil)) q) fun _ _ z => cmpBack z)

/-- -x -/
def rOwnU (C : Addr) (sp : Sp) (E : XK) : V → Hp → VK → Prop := fun x H Q => ∃ a dx fs, x = .ref a ∧ H a = some (.ins C dx fs) ∧ sp [.ref a] H Q E
theorem un_own (hs : PySem.W.findIn X.K (.ref C) "__neg__" = some (some (.ref f))) (hf : PySem.W.isFn X.K (.ref f) = true)
    (F : FnOk X.prog X.w X.K X.mg X.base CX k f fd ps sp) (hr : Room k X.A) (hb : Binds X.K fd ps []) (hx : Passes CX X E) :
    UnR X (unaryOp .USub) (rOwnU C sp E) := by
  intro pins s sl H x u Q I rx h
  obtain ⟨a, dx, fs, rfl, ha, q⟩ := h
  cases rx
  obtain ⟨ox, od, J⟩ := inst_at I ha
  obtain ⟨m, hF⟩ := I.fr
  exact PySem.W.ksp_neg hF I.ok.mod.kin J hs hf (run_fn (vs := [.ref a]) (us := [.ref a]) F hr hb .nil hx I (.cons rfl .nil) q)

/-- abs(x) by an own __abs__ -/
def rOwnAbs (C : Addr) (sp : Sp) (E : XK) : List V → Hp → VK → Prop := fun xs H Q => ∃ a dx fs, xs = [.ref a] ∧ H a = some (.ins C dx fs) ∧ sp [.ref a] H Q E
/-- a call of a built-in function that runs nothing else before its own body: the code that runs within it has one unit more -/
theorem call_own_abs (hs : PySem.W.findIn X.K (.ref C) "__abs__" = some (some (.ref f))) (hf : PySem.W.isFn X.K (.ref f) = true)
    (F : FnOk X.prog X.w X.K X.mg X.base CX k f fd ps sp) (hr : Room (k + 1) X.A) (hb : Binds X.K fd ps []) (hx : Passes CX X E) :
    CallR X (.builtin "abs") (rOwnAbs C sp E) := by
  intro pins s sl H xs us Q I r h
  obtain ⟨a, dx, fs, rfl, ha, q⟩ := h
  obtain ⟨u, rfl, ru⟩ := vals1 r
  cases ru
  obtain ⟨ox, od, J⟩ := inst_at I ha
  have e := I.env0
  have e0 : Env0 X.prog X.w X.K X.mg X.base X.A.in1 X.stack s H := e.in1
  have r2 : Vals [V.ref a] [Value.ref a] := .cons rfl .nil
  have hl := F.len _ _ _ _ q
  refine Calls.call_function_entry kind_abs plain_abs entry_abs (args_abs _) ?_
  unfold Builtin.«abs»
  refine wpAny_bind (m := oneArg "abs" _) (wpAny_pure ?_)
  refine wpAny_bind (PySem.W.special_fn I.kIn J hs (beq_iff_eq.mp hf) ?_)
  refine wpAny_call (codeAny_mono (F.run X.A.in1 X.stack s H ⟨[.ref a], []⟩ [.ref a] [.ref a] Q E hr.in1 e0 (by
    have := hb s [.ref a] I.kIn (by simpa using hl)
    simpa using this) r2 q) fun r s' hq => ?_)
  cases r with
  | error e => exact hx pins sl H s e s' I hq
  | ok fl =>
    cases fl with
    | ret w => exact wpAny_pure ⟨_, rfl, I.after hq⟩
    | next => exact False.elim hq
    | brk => exact False.elim hq
    | cont => exact False.elim hq
end

/-! ### // by any divisor but 0, below 2 ^ 9000 -/
def CFdv (_ j : Int) : Prop := j ≠ 0 ∧ j.natAbs.log2 < 9000
theorem op_fdv {X : Cx} : OpR X (binaryOp .FloorDiv) (rI CFdv fun i j => .int (i.fdiv j)) :=
  opI fun i j _ _ _ _ _ hc q => floordiv_int hc.1 q (.inl (PyProof.noPylong_of_log2 hc.2))

/-! ### an own error made without arguments -/
theorem pmk_bare {X : Cx} {C : Addr} {bmB : List Value} {B newId initId : String} {x : Str} {p pos : Pos} (F : ExcBaseFacts B newId initId bmB) (q : PySem.W.excIn X.K C bmB newId = true)
    (gC : X.mg x = some (.ref C)) (kC : PySem.W.keepIn X.K (.ref C) = true) (r : Raises X (.ref C)) (hg : Gl X x) (hdb : (x == ("__debug__" : Str)) = false := by decide) :
    PMk X (.Call (.Name x p) [] [] pos) (fun _ H Q => Q (.ref C) none H) := by
  intro pins s sl H Q I h
  refine wpAny_Call_Name_kw (ld_glob I hg gC ?_ hdb)
  refine PySem.W.callWith_K0 I.kIn kC ?_
  obtain ⟨bm, N, nm, qn, bs, hdct, sn, sub, ab, col, dd, k0, k1, k2, k3, k5, mN, hC, hN, hni, T⟩ := exc_obj I.kIn q
  exact wpAny_call_exc_subT F T hC hN hni (fun h' e hm => mk_of I hm r h (I.hok.gone hm.new)) (Nat.zero_le _)
end Fc
set_option Elab.async false
set_option linter.all false
set_option maxRecDepth 100000
set_option maxHeartbeats 4000000
/-! More rules of mine: a new instance or a method's call whose error an except clause takes; isinstance of a caught error with fields. -/
namespace Fc
open PySem PySem.Spec PyProof.Rows L2

section
variable {X : Cx} {CX : CXT} {k : Nat} {C f : Addr} {fd : FuncData} {ps : List Str} {sp : Sp} {E : L2.St → XK}
/-- C(..), where what is raised is wished for at the slots -/
def tMakeS (C : Addr) (sp : Sp) (E : L2.St → XK) (t : TA) : TE := fun sl H Q => t sl H fun vs H1 => ∀ x dx, H1 x = none → H1 dx = none → dx ≠ x →
  sp (.ref x :: vs) (upd (upd H1 dx (.own x)) x (.ins C dx [])) (fun v H2 => v = .non ∧ Q (.ref x) H2) (E sl)
theorem run_makeS {pins : List (Addr × Obj)} {sl : L2.St} {H : Hp} {s : Shared} {Q : VK} {us : List Value} {vs : List V} (M : Mk X.K C f)
    (F : FnOk X.prog X.w X.K X.mg X.base CX k f fd ps sp) (hr : Room (k + 1) X.A) (hb : Binds X.K fd ps []) (hx : PassesAt CX X sl (E sl))
    (I : Inv X pins sl H s) (r : Vals vs us)
    (h : ∀ x dx, H x = none → H dx = none → dx ≠ x → sp (.ref x :: vs) (upd (upd H dx (.own x)) x (.ins C dx [])) (fun v H2 => v = .non ∧ Q (.ref x) H2) (E sl)) :
    wpAny (model X.prog X.w) X.A (call (.ref C) us) (EP X pins sl Q) X.xe s := by
  have fr : ∀ j, H (s.heap.objs.size + j) = none := fun j => I.hok.fresh (Nat.le_add_right _ _)
  have hq := h (s.heap.objs.size + 1) s.heap.objs.size (fr 1) (fr 0) (Nat.ne_of_lt (Nat.lt_succ_self _))
  have I2 := Inv.made (C := C) I
  have r2 : Vals (V.ref (s.heap.objs.size + 1) :: vs) (Value.ref (s.heap.objs.size + 1) :: us) := .cons rfl r
  have hl : (Value.ref (s.heap.objs.size + 1) :: us).length = ps.length := r2.length.symm.trans (F.len _ _ _ _ hq)
  have bd := hb { s with heap := (s.heap.push PySem.W.emptyDict).push (PySem.W.instObj C s.heap.objs.size) } (Value.ref (s.heap.objs.size + 1) :: us) I2.kIn (by rw [List.append_nil]; exact hl)
  rw [List.append_nil] at bd
  have run := F.run _ X.stack _ _ ⟨Value.ref (s.heap.objs.size + 1) :: us, []⟩ (Value.ref (s.heap.objs.size + 1) :: us) _ _ (E sl) (hr.make C us []) (I2.env0.make C us []) bd r2 hq
  refine wpAny_call (make_map (f := f) I.kIn M.makes M.init (beq_iff_eq.mp M.fn) (codeAny_mono run fun r s' hq' => ?_))
  cases r with
  | error e => exact hx pins _ _ e s' I2 hq'
  | ok fl =>
    cases fl with
    | ret u =>
      obtain ⟨v, H', I3, rv, ev, q3⟩ := I2.after hq'
      subst ev
      exact ⟨rv, ⟨V.ref (s.heap.objs.size + 1), H', I3, rfl, q3⟩⟩
    | next => exact False.elim hq'
    | brk => exact False.elim hq'
    | cont => exact False.elim hq'
theorem pe_makeS {x : Str} {p pos : Pos} {e : Expr} {es : List Expr} {t : TA} (M : Mk X.K C f) (F : FnOk X.prog X.w X.K X.mg X.base CX k f fd ps sp) (hr : Room (k + 1) X.A)
    (hg : Gl X x) (hm : X.mg x = some (.ref C)) (hb : Binds X.K fd ps []) (hx : ∀ sl, PassesAt CX X sl (E sl)) (ha : PA X (e :: es) t)
    (hdb : (x == ("__debug__" : Str)) = false := by decide) (he : starEach (e :: es) X.env = (false, eval e X.env) :: starEach es X.env := by rfl)
    (hpl : (backTo pos (starEach es X.env)).any (·.1) = false := by rfl) : PE X (.Call (.Name x p) (e :: es) [] pos) (tMakeS C sp E t) :=
  ⟨fun pins s sl H Q I h => wpAny_Call_Name_kw (ld_glob I hg hm (PySem.W.callWith_K (h₀ := X.base) I.ok.mod.kin M.kp
    (thn (ha.run pos pins s sl H _ I h) fun us s1 ⟨vs, H1, I1, r, q⟩ => ⟨I1.kIn, run_makeS M F hr hb (hx sl) I1 r q⟩) he hpl) hdb)⟩

/-- o.m(..), where what is raised is wished for at the slots -/
def tMethS (C : Addr) (m : Str) (sp : Sp) (E : L2.St → XK) (ta : TE) (t : TA) : TE := fun sl H Q => ta sl H fun x H1 => ∃ a dx fs, x = .ref a ∧
  H1 a = some (.ins C dx fs) ∧ fs.lookup m = none ∧ t sl H1 fun vs H2 => sp (x :: vs) H2 Q (E sl)
theorem pe_methS {m : Str} {o e : Expr} {es : List Expr} {ta : TE} {t : TA} {apos pos : Pos} {pl : Sem Bool} (ho : PE X o ta) (c : Cls X.K C) (hm : Meth X.K C m f)
    (F : FnOk X.prog X.w X.K X.mg X.base CX k f fd ps sp) (hr : Room k X.A) (hb : Binds X.K fd ps []) (hx : ∀ sl, PassesAt CX X sl (E sl)) (ha : PA X (e :: es) t)
    (hst : starEach (e :: es) X.env = (false, eval e X.env) :: starEach es X.env := by rfl) (hpl : (backTo pos (starEach es X.env)).any (·.1) = false := by rfl)
    (ht : eval (.Call (.Attribute o m apos) (e :: es) [] pos) X.env = (do
      let v ← eval o X.env
      standAt apos.atName
      let (g, first) ← holding [v] (getMethod v m pl)
      callWith pos g first (backTo pos (starEach (e :: es) X.env)) (backToKw pos (keywordEach [] X.env))) := by rfl) :
    PE X (.Call (.Attribute o m apos) (e :: es) [] pos) (tMethS C m sp E ta t) := by
  refine ⟨fun pins s sl H Q I h => PySem.W.methodCall_KW (pl := pl) (thn (ho.run pins s sl H _ I h) fun u s1 hh => ?_) ht⟩
  obtain ⟨x, H1, I1, rx, a, dx, fs, ex, ea, l, q⟩ := hh
  subst ex
  cases rx
  refine getmeth_ok I1 ea c hm l (PySem.W.callWith_K (first := [.ref a]) (h₀ := X.base) I.ok.mod.kin hm.kp ?_ hst hpl)
  exact thn (ha.run pos pins s1 sl H1 _ I1 q) fun us s2 ⟨vs, H2, I2, r, q2⟩ => ⟨I2.kIn, run_fnS (us := .ref a :: us) (vs := .ref a :: vs) F hr hb (hx sl) I2 (.cons rfl r) q2⟩
end

/-! ### isinstance of a caught error, with or without a dict of its own -/
section
open PySem.W PySem.Calls
variable {prog : Program} {w : World} {A : Around} {E : Value → Shared → Prop} {s : Shared} {K : Frag} {x D : Addr} {ox : Obj} {od : Option Obj}
theorem find_data {name : Str} {a g : Value} (hc : (clsIn K D).isSome = true) (ha : findIn K (.ref D) name = some (some a)) (hg : specialIn K a "__get__" = some (some g))
    (ht : takesIn K a = some true) : findObj K D od name = some (.bind g a) := by
  obtain ⟨cd, e⟩ := Option.isSome_iff_exists.mp hc
  unfold findObj
  rw [e, Option.bind_some, ha, Option.bind_some]
  simp [hg, ht]
theorem err_class {Q : Option Value → Shared → Prop} (T : ExcC K D) (X : K.In s.heap) (I : InstAt s.heap x ox D od) (h : Q (some (.ref D)) { s with toks := s.toks + 1 }) :
    wpAny (model prog w) A (getAttr? (.ref x) "__class__") Q E s := by
  have hf : findObj K D od "__class__" = some (.bind (.builtin "getset_descriptor.__get__") (.builtin "object.__class__")) :=
    find_data (by obtain ⟨cd, hc, _⟩ := any_some T.hd; rw [hc]; rfl) T.ha T.hn T.ht
  obtain ⟨hp, g, d, t, os⟩ := s
  have L0 := I.type (M := model prog w)
  have L1 := looks_findIn (M := model prog w) X T.hg
  have L2 := looks_findIn (M := model prog w) X T.hk
  have L3 := looks_find (M := model prog w) X I hf
  have sub : Looks (model prog w) hp (isInstance (.ref x) (.type "BaseException")) true := L0.andThen (looks_subIn X T.hs)
  have z0 : (false && onTheHeap (Value.builtin "BaseException.__getattribute__")) = false := rfl
  have z2 : (Value.builtin "BaseException.__getattribute__" == Value.builtin "object.__getattribute__") = false := by decide +kernel
  have z1 : (onTheHeap (Value.ref D) && Value.builtin "BaseException.__getattribute__" == Value.builtin "object.__getattribute__") = false := by rw [z2]; rfl
  unfold getAttr? getAttrBy? getAttrBy
  refine wpAny_bind (wpAny_mkText (wpAny_bind (wpAny_attempt (wpAny_holding (wpAny_bind (L0.at (wpAny_bind (L1.at ?_))))))))
  show wpAny _ _ (if (onTheHeap (Value.ref D) && Value.builtin "BaseException.__getattribute__" == Value.builtin "object.__getattribute__") = true then _ else _) _ _ _
  rw [z1, if_neg Bool.false_ne_true]
  unfold getAttrByItsOwn hookBefore
  refine wpAny_bind ?_
  rw [if_pos (show onTheHeap (Value.ref D) = true from rfl)]
  refine L2.at (wpAny_bind (wpAny_attempt (wpAny_holding ?_)))
  unfold callGetattribute
  rw [z0, if_neg Bool.false_ne_true]
  unfold boundAndCalled
  rw [PySem.F.excAttr_ValueError.ga.bind (.ref x)]
  refine wpAny_bind (wpAny_pure ?_)
  show wpAny _ _ (call (.builtin "BaseException.__getattribute__") [.ref x, .str "__class__" t]) _ _ _
  refine wpAny_call (codeAny_call_builtin PySem.F.excAttr_ValueError.ga.plain PySem.F.entry_bexc_ga ?_)
  refine @check_slot (model prog w) _ _ ⟨hp, g, d, t + 1, os⟩ "BaseException.__getattribute__" "BaseException" "__getattribute__" (.ref x)
    [.str "__class__" t] [] _ (by decide +kernel) (by decide +kernel) sub (PySem.F.args_bexc_ga (.ref x) (.str "__class__" t)) ?_
  unfold Builtin.«object.__getattribute__»
  refine wpAny_bind (wpAny_of_eq (a := ((Value.ref x : Value), [Value.str "__class__" t])) (by first | rfl | (simp only [slotArgs]; rfl)) ?_)
  refine wpAny_bind (wpAny_pure (wpAny_bind (L0.at (wpAny_bind (L3.at ?_)))))
  show wpAny _ _ (holding [Value.builtin "object.__class__"] (call (.builtin "getset_descriptor.__get__") [.builtin "object.__class__", .ref x, .ref D]) >>= ret) _ _ _
  refine wpAny_bind (wpAny_holding (wpAny_call (class_get (s := ⟨hp, g, d, t + 1, os⟩) (ox := ox) (od := od) X I T.hm (wpAny_pure ?_))))
  show wpAny _ _ (handedOut (.ref D)) _ _ _
  rw [handedOut_of (v := .ref D) rfl]
  first
    | exact wpAny_pure (wpAny_pure h)
    | exact wpAny_pure h
    | exact wpAny_pure (wpAny_bind (wpAny_pure (wpAny_pure h)))
theorem kit_err (T : ExcC K D) : KitX K (.ref x) (.ref D) (fun h => InstAt h x ox D od) where
  ty := fun _ _ _ I => I.type
  it := fun _ _ X _ => by
    obtain ⟨cd, e, _⟩ := any_some T.hd
    unfold clsIn at e
    split at e
    · rename_i z
      exact fun A' Q' E' s' k q => by
        unfold isType loadHead
        exact wpAny_bind (wpAny_loadPart (k _ _ (X _ _ z)) (wpAny_pure q))
    · cases e
  ne := fun h tp dd its n sl X htp => (handS_kitx_exc (x := x) (ox := ox) T.hg T.hk T.hs T.hd T.ha T.hn T.ht T.hm).ne h tp dd its n sl X htp
  ca := fun X I k => err_class T X I k
end
/-- isinstance(e, c), e the error that the suite holds; its own dict, where it has one, is tracked -/
def rIsX (K : PySem.W.Frag) (cls : Value) (d : Option Addr) (a : Addr) : List V → Hp → VK → Prop := fun xs H Q => ∃ (D : Addr) (c : V) (cv : Value) (b : Bool),
  cls = .ref D ∧ ExcC K D ∧ (∀ dd, d = some dd → ∃ fs, H dd = some (.xd fs)) ∧ xs = [.ref a, c] ∧ (∀ u, RelV c u → u = cv) ∧ PySem.W.kitOne K (.ref D) cv = some b ∧ Q (.bl b) H
theorem call_isX {X : Cx} {a : Addr} {cls : Value} {d : Option Addr} {oe : Obj} {pn : List (Addr × Obj)} (hz : Zc cls d oe) (hf : ∃ vs, oe.data = .fields vs) :
    CallR (X.suite a ((a, oe) :: pn)) (.builtin "isinstance") (rIsX X.K cls d a) := by
  intro pins s sl H xs us Q I r h
  obtain ⟨D, c, cv, b, rfl, T, hd, rfl, hcv, e, q⟩ := h
  obtain ⟨u1, u2, rfl, r1, r2⟩ := vals2 r
  cases r1
  have ec := hcv _ r2
  subst ec
  obtain ⟨hget, _⟩ := I.pin (a, oe) (List.mem_append.mpr (.inl List.mem_cons_self))
  obtain ⟨vs, hv⟩ := hf
  have fin : ∀ tk, EP (X.suite a ((a, oe) :: pn)) pins sl Q (.bool b) { s with toks := tk } := fun tk => ⟨.bl b, H, I.tok tk, rfl, q⟩
  cases d with
  | none =>
    have J : PySem.W.InstAt s.heap a oe D none := ⟨hget, hz.1, by unfold PySem.W.notCls; rw [hv] <;> rfl, by rw [hz.2]; exact True.intro⟩
    exact PySem.W.kia_one (kit_err T) I.kIn J e (fun z => nomatch z) fin
  | some dd =>
    obtain ⟨fs, hx⟩ := hd dd rfl
    obtain ⟨mA, hns, _⟩ := (show ObjOk X.prog X.w H s.heap dd (.xd fs) from I.hok dd _ hx)
    obtain ⟨od, ho, _⟩ := lookIn_ns hns
    have J : PySem.W.InstAt s.heap a oe D (some od) := ⟨hget, hz.1, by unfold PySem.W.notCls; rw [hv] <;> rfl, by rw [hz.2]; exact ho⟩
    exact PySem.W.kia_one (kit_err T) I.kIn J e (fun z => nomatch z) fin
end Fc
set_option Elab.async false
set_option maxHeartbeats 4000000
/-! Plain mathematics: lowest terms, Euclid's steps. -/
namespace Fc

/-- top and bottom in lowest terms, the bottom above 0 -/
def lo (t b : Int) : Int × Int := if b < 0 then (-t / (Int.gcd t b : Int), -b / (Int.gcd t b : Int)) else (t / (Int.gcd t b : Int), b / (Int.gcd t b : Int))

theorem gcd_pos {t b : Int} (h : b ≠ 0) : (0 : Int) < (Int.gcd t b : Int) := by
  have : 0 < Int.gcd t b := Int.gcd_pos_of_ne_zero_right t h
  omega
theorem fdv_neg (a g : Int) (hg : 0 < g) : a.fdiv (-g) = -a / g := by
  have e : a.fdiv (-g) = (- -a).fdiv (-g) := by rw [Int.neg_neg]
  rw [e, Int.neg_fdiv_neg, Int.fdiv_eq_ediv_of_nonneg _ (by omega)]
/-- as the program reckons it: both by the divisor with the bottom's sign -/
theorem lo_prog {t b : Int} (h : b ≠ 0) : lo t b =
    (t.fdiv (if b < 0 then -(Int.gcd t b : Int) else (Int.gcd t b : Int)), b.fdiv (if b < 0 then -(Int.gcd t b : Int) else (Int.gcd t b : Int))) := by
  have g := gcd_pos (t := t) h
  unfold lo
  by_cases c : b < 0
  · simp only [if_pos c, fdv_neg _ _ g]
  · simp only [if_neg c, Int.fdiv_eq_ediv_of_nonneg _ (Int.le_of_lt g)]

/-- the two facts that say it all: what is divided is the common divisor -/
theorem lo_split {t b : Int} (h : b ≠ 0) : ∃ k : Int, k ≠ 0 ∧ t = (lo t b).1 * k ∧ b = (lo t b).2 * k ∧ 0 < (lo t b).2 ∧ Int.gcd (lo t b).1 (lo t b).2 = 1 ∧ k.natAbs = Int.gcd t b := by
  have g := gcd_pos (t := t) h
  have d1 : (Int.gcd t b : Int) ∣ t := Int.gcd_dvd_left _ _
  have d2 : (Int.gcd t b : Int) ∣ b := Int.gcd_dvd_right _ _
  obtain ⟨x, hx⟩ := d1
  obtain ⟨y, hy⟩ := d2
  have e1 : t / (Int.gcd t b : Int) = x := by
    exact Int.ediv_eq_of_eq_mul_right (by omega) hx
  have e2 : b / (Int.gcd t b : Int) = y := by
    exact Int.ediv_eq_of_eq_mul_right (by omega) hy
  have e3 : -t / (Int.gcd t b : Int) = -x := by
    have : -t = (Int.gcd t b : Int) * (-x) := by rw [Int.mul_neg, ← hx]
    rw [this]
    exact Int.mul_ediv_cancel_left _ (by omega)
  have e4 : -b / (Int.gcd t b : Int) = -y := by
    have : -b = (Int.gcd t b : Int) * (-y) := by rw [Int.mul_neg, ← hy]
    rw [this]
    exact Int.mul_ediv_cancel_left _ (by omega)
  have cop : Int.gcd x y = 1 := by
    have z : Int.gcd t b = (Int.gcd t b) * Int.gcd x y := by
      have q : Int.gcd ((Int.gcd t b : Int) * x) ((Int.gcd t b : Int) * y) = (Int.gcd t b : Int).natAbs * Int.gcd x y := Int.gcd_mul_left ..
      rw [← hx, ← hy] at q
      simpa using q
    have gp : 0 < Int.gcd t b := by omega
    have : Int.gcd t b * 1 = Int.gcd t b * Int.gcd x y := by omega
    exact (Nat.eq_of_mul_eq_mul_left gp this).symm
  have ypos : b < 0 → y < 0 := fun c => by
    rcases Int.lt_trichotomy y 0 with q | q | q
    · exact q
    · subst q; omega
    · have := Int.mul_pos g q; omega
  have ypos' : ¬ b < 0 → 0 < y := fun c => by
    rcases Int.lt_trichotomy y 0 with q | q | q
    · have := Int.mul_neg_of_pos_of_neg g q; omega
    · subst q; omega
    · exact q
  by_cases c : b < 0
  · refine ⟨-(Int.gcd t b : Int), by omega, ?_, ?_, ?_, ?_, by omega⟩
    · unfold lo; rw [if_pos c, e3, Int.neg_mul_neg, Int.mul_comm]; exact hx
    · unfold lo; rw [if_pos c, e4, Int.neg_mul_neg, Int.mul_comm]; exact hy
    · unfold lo; rw [if_pos c, e4]; have := ypos c; show 0 < -y; omega
    · unfold lo; rw [if_pos c, e3, e4]; show Int.gcd (-x) (-y) = 1; rw [Int.neg_gcd, Int.gcd_neg]; exact cop
  · refine ⟨(Int.gcd t b : Int), by omega, ?_, ?_, ?_, ?_, by omega⟩
    · unfold lo; rw [if_neg c, e1, Int.mul_comm]; exact hx
    · unfold lo; rw [if_neg c, e2, Int.mul_comm]; exact hy
    · unfold lo; rw [if_neg c, e2]; exact ypos' c
    · unfold lo; rw [if_neg c, e1, e2]; exact cop
theorem lo_pos {t b : Int} (h : b ≠ 0) : 0 < (lo t b).2 := let ⟨_, _, _, _, p, _⟩ := lo_split (t := t) h; p
theorem lo_cop {t b : Int} (h : b ≠ 0) : Int.gcd (lo t b).1 (lo t b).2 = 1 := let ⟨_, _, _, _, _, p, _⟩ := lo_split (t := t) h; p
theorem lo_cross {t b : Int} (h : b ≠ 0) : (lo t b).1 * b = t * (lo t b).2 := by
  obtain ⟨k, _, e1, e2, _⟩ := lo_split (t := t) h
  have : (lo t b).1 * ((lo t b).2 * k) = (lo t b).1 * k * (lo t b).2 := by ac_rfl
  rw [← e1, ← e2] at this
  exact this

theorem dvd_cop {a b d : Int} (h : Int.gcd a b = 1) (e : b ∣ a * d) : b ∣ d := by
  have c : Nat.Coprime b.natAbs a.natAbs := by
    have : Nat.gcd a.natAbs b.natAbs = 1 := h
    rwa [Nat.gcd_comm] at this
  have q := Int.natAbs_dvd_natAbs.mpr e
  rw [Int.natAbs_mul] at q
  exact Int.natAbs_dvd_natAbs.mp (c.dvd_of_dvd_mul_left q)
/-- lowest terms are one pair -/
theorem low_one {a b c d : Int} (hb : 0 < b) (hd : 0 < d) (h1 : Int.gcd a b = 1) (h2 : Int.gcd c d = 1) (e : a * d = c * b) : a = c ∧ b = d := by
  have d1 : b ∣ d := by
    have : b ∣ a * d := by rw [e]; exact Int.dvd_mul_left _ _
    exact dvd_cop h1 this
  have d2 : d ∣ b := by
    have : d ∣ c * b := by rw [← e]; exact Int.dvd_mul_left _ _
    exact dvd_cop h2 this
  have eq : b = d := Int.le_antisymm (Int.le_of_dvd hd d1) (Int.le_of_dvd hb d2)
  subst eq
  exact ⟨Int.eq_of_mul_eq_mul_right (by omega) e, rfl⟩
theorem lo_eq {t b u d : Int} (hb : b ≠ 0) (hd : d ≠ 0) (e : t * d = u * b) : lo t b = lo u d := by
  obtain ⟨k, k0, e1, e2, p, cp, _⟩ := lo_split (t := t) hb
  obtain ⟨m, m0, e3, e4, q, cq, _⟩ := lo_split (t := u) hd
  have z : (lo t b).1 * (lo u d).2 = (lo u d).1 * (lo t b).2 := by
    have : ((lo t b).1 * (lo u d).2) * (k * m) = ((lo u d).1 * (lo t b).2) * (k * m) := by
      have l : ((lo t b).1 * (lo u d).2) * (k * m) = ((lo t b).1 * k) * ((lo u d).2 * m) := by ac_rfl
      have r : ((lo u d).1 * (lo t b).2) * (k * m) = ((lo u d).1 * m) * ((lo t b).2 * k) := by ac_rfl
      rw [l, r, ← e1, ← e2, ← e3, ← e4]
      exact e
    exact Int.eq_of_mul_eq_mul_right (Int.mul_ne_zero k0 m0) this
  obtain ⟨h1, h2⟩ := low_one p q cp cq z
  exact Prod.ext h1 h2
theorem lo_mul {t b k : Int} (hb : b ≠ 0) (hk : k ≠ 0) : lo (t * k) (b * k) = lo t b :=
  lo_eq (Int.mul_ne_zero hb hk) hb (by ac_rfl)
theorem lo_self {t b : Int} (hb : 0 < b) (h : Int.gcd t b = 1) : lo t b = (t, b) := by
  unfold lo
  rw [if_neg (by omega), h]
  simp
theorem lo_one (t : Int) : lo t 1 = (t, 1) := lo_self (by decide) (by simp)
theorem lo_zero {b : Int} (hb : b ≠ 0) : lo 0 b = (0, 1) := by
  have := lo_eq (t := 0) (u := 0) (d := 1) hb (by decide) (by simp)
  rw [this, lo_one]
theorem lo_self2 {t b : Int} (hb : b ≠ 0) : lo (lo t b).1 (lo t b).2 = lo t b := lo_self (lo_pos hb) (lo_cop hb)
theorem natAbs_le_mul {a k : Int} (hk : k ≠ 0) : a.natAbs ≤ (a * k).natAbs := by
  rw [Int.natAbs_mul]
  have : 1 ≤ k.natAbs := by omega
  exact Nat.le_mul_of_pos_right _ this
theorem lo_top_le {t b : Int} (h : b ≠ 0) : (lo t b).1.natAbs ≤ t.natAbs := by
  obtain ⟨k, k0, e1, _⟩ := lo_split (t := t) h
  conv => rhs; rw [e1]
  exact natAbs_le_mul k0
theorem lo_bot_le {t b : Int} (h : b ≠ 0) : (lo t b).2.natAbs ≤ b.natAbs := by
  obtain ⟨k, k0, _, e2, _⟩ := lo_split (t := t) h
  conv => rhs; rw [e2]
  exact natAbs_le_mul k0

/-! ### Euclid, step by step, as the law does it -/
structure Eu (g i a b : Nat) : Prop where
  gcd : Nat.gcd a b = g
  even : i % 2 = 0 → b < 2 ^ (750 - i / 2)
  odd : i % 2 = 1 → b < a ∧ a < 2 ^ (750 - i / 2)
theorem Eu.turn {g i a b : Nat} (h : Eu g i a b) (hb : b ≠ 0) (hi : i < 1500) : Eu g (i + 1) b (a % b) := by
  have lt : a % b < b := Nat.mod_lt _ (by omega)
  refine ⟨?_, fun e => ?_, fun o => ?_⟩
  · have := h.gcd
    rw [Nat.gcd_comm, ← Nat.gcd_rec, Nat.gcd_comm]
    exact this
  · have o : i % 2 = 1 := by omega
    obtain ⟨h1, h2⟩ := h.odd o
    have ex : 750 - i / 2 = (750 - (i + 1) / 2) + 1 := by omega
    rw [ex, Nat.pow_succ] at h2
    have hd := Nat.div_add_mod a b
    have q1 : 1 ≤ a / b := (Nat.one_le_div_iff (by omega)).mpr (by omega)
    have q2 : b * 1 ≤ b * (a / b) := Nat.mul_le_mul_left b q1
    omega
  · have e : i % 2 = 0 := by omega
    have := h.even e
    refine ⟨lt, ?_⟩
    have ex : (i + 1) / 2 = i / 2 := by omega
    rw [ex]
    exact this
theorem Eu.done {g a b : Nat} (h : Eu g 1500 a b) : b = 0 := by
  have := h.even (by decide)
  simpa using this
theorem Eu.zero {g i a : Nat} (h : Eu g i a 0) : a = g := by
  have := h.gcd
  simpa using this
theorem Eu.start {a b : Nat} (h : b < 2 ^ 750) : Eu (Nat.gcd a b) 0 a b := ⟨rfl, fun _ => by simpa using h, fun e => by omega⟩

theorem pow_cop {a b : Int} (n : Nat) (h : Int.gcd a b = 1) : Int.gcd (a ^ n) (b ^ n) = 1 := by
  have : Nat.Coprime (a.natAbs ^ n) (b.natAbs ^ n) := Nat.Coprime.pow n n h
  show Nat.gcd (a ^ n).natAbs (b ^ n).natAbs = 1
  rw [Int.natAbs_pow, Int.natAbs_pow]
  exact this
end Fc
set_option Elab.async false
set_option linter.all false
set_option maxRecDepth 100000
set_option maxHeartbeats 4000000
namespace Fc
open PySem PySem.Spec PyProof.Rows L2
/-! ### the text -/
def top (i : Nat) : Stmt := PySem.Challenge.pw_fewcarry_k01_fraction_arithmetic.main.body.getD i (.Pass ⟨0, 0, 0, 0⟩)
abbrev S_OB : Stmt := inClass (top 5) 0
abbrev N_OB : List Str := ["self", "value"]
theorem sc_OB : FnScope N_OB ["self", "value"] (defScope S_OB) := ⟨rfl, rfl, rfl, by decide +kernel, rfl, by decide +kernel, by decide +kernel⟩
abbrev S_init : Stmt := inClass (top 12) 0
abbrev N_init : List Str := ["self", "top", "bottom", "divisor"]
theorem sc_init : FnScope N_init ["self", "top", "bottom"] (defScope S_init) := ⟨rfl, rfl, rfl, by decide +kernel, rfl, by decide +kernel, by decide +kernel⟩
abbrev S_add : Stmt := inClass (top 12) 2
abbrev N_add : List Str := ["self", "other", "top"]
theorem sc_add : FnScope N_add ["self", "other"] (defScope S_add) := ⟨rfl, rfl, rfl, by decide +kernel, rfl, by decide +kernel, by decide +kernel⟩
abbrev S_sub : Stmt := inClass (top 12) 3
abbrev N_sub : List Str := ["self", "other", "top"]
theorem sc_sub : FnScope N_sub ["self", "other"] (defScope S_sub) := ⟨rfl, rfl, rfl, by decide +kernel, rfl, by decide +kernel, by decide +kernel⟩
abbrev S_mul : Stmt := inClass (top 12) 4
abbrev N_mul : List Str := ["self", "other"]
theorem sc_mul : FnScope N_mul ["self", "other"] (defScope S_mul) := ⟨rfl, rfl, rfl, by decide +kernel, rfl, by decide +kernel, by decide +kernel⟩
abbrev S_pow : Stmt := inClass (top 12) 5
abbrev N_pow : List Str := ["self", "other"]
theorem sc_pow : FnScope N_pow ["self", "other"] (defScope S_pow) := ⟨rfl, rfl, rfl, by decide +kernel, rfl, by decide +kernel, by decide +kernel⟩
abbrev S_neg : Stmt := inClass (top 12) 6
abbrev N_neg : List Str := ["self"]
theorem sc_neg : FnScope N_neg ["self"] (defScope S_neg) := ⟨rfl, rfl, rfl, by decide +kernel, rfl, by decide +kernel, by decide +kernel⟩
abbrev S_abs : Stmt := inClass (top 12) 7
abbrev N_abs : List Str := ["self"]
theorem sc_abs : FnScope N_abs ["self"] (defScope S_abs) := ⟨rfl, rfl, rfl, by decide +kernel, rfl, by decide +kernel, by decide +kernel⟩
abbrev S_divided : Stmt := inClass (top 12) 9
abbrev N_divided : List Str := ["self", "other"]
theorem sc_divided : FnScope N_divided ["self", "other"] (defScope S_divided) := ⟨rfl, rfl, rfl, by decide +kernel, rfl, by decide +kernel, by decide +kernel⟩
abbrev S_raised : Stmt := inClass (top 12) 10
abbrev N_raised : List Str := ["self", "n", "top", "bottom", "_"]
theorem sc_raised : FnScope N_raised ["self", "n"] (defScope S_raised) := ⟨rfl, rfl, rfl, by decide +kernel, rfl, by decide +kernel, by decide +kernel⟩
abbrev S_start : Stmt := top 14
abbrev N_start : List Str := ["script", "cell"]
theorem sc_start : FnScope N_start ["script"] (defScope S_start) := ⟨rfl, rfl, rfl, by decide +kernel, rfl, by decide +kernel, by decide +kernel⟩
abbrev S_digit : Stmt := top 15
abbrev N_digit : List Str := ["pot", "many", "digit"]
theorem sc_digit : FnScope N_digit ["pot", "many"] (defScope S_digit) := ⟨rfl, rfl, rfl, by decide +kernel, rfl, by decide +kernel, by decide +kernel⟩
abbrev S_fraction : Stmt := top 16
abbrev N_fraction : List Str := ["pot", "kind", "top"]
theorem sc_fraction : FnScope N_fraction ["pot"] (defScope S_fraction) := ⟨rfl, rfl, rfl, by decide +kernel, rfl, by decide +kernel, by decide +kernel⟩
abbrev S_handed : Stmt := top 17
abbrev N_handed : List Str := ["pot", "pair", "times"]
theorem sc_handed : FnScope N_handed ["pot", "pair"] (defScope S_handed) := ⟨rfl, rfl, rfl, by decide +kernel, rfl, by decide +kernel, by decide +kernel⟩
abbrev S_lowest : Stmt := top 18
abbrev N_lowest : List Str := ["top", "bottom", "u", "v", "k", "rest"]
theorem sc_lowest : FnScope N_lowest ["top", "bottom"] (defScope S_lowest) := ⟨rfl, rfl, rfl, by decide +kernel, rfl, by decide +kernel, by decide +kernel⟩
abbrev S_plus : Stmt := top 19
abbrev N_plus : List Str := ["a", "b"]
theorem sc_plus : FnScope N_plus ["a", "b"] (defScope S_plus) := ⟨rfl, rfl, rfl, by decide +kernel, rfl, by decide +kernel, by decide +kernel⟩
abbrev S_times : Stmt := top 20
abbrev N_times : List Str := ["a", "b"]
theorem sc_times : FnScope N_times ["a", "b"] (defScope S_times) := ⟨rfl, rfl, rfl, by decide +kernel, rfl, by decide +kernel, by decide +kernel⟩
abbrev S_lis : Stmt := top 21
abbrev N_lis : List Str := ["told", "pair"]
theorem sc_lis : FnScope N_lis ["told", "pair"] (defScope S_lis) := ⟨rfl, rfl, rfl, by decide +kernel, rfl, by decide +kernel, by decide +kernel⟩
abbrev S_nobot : Stmt := top 22
abbrev N_nobot : List Str := ["top", "e"]
theorem sc_nobot : FnScope N_nobot ["top"] (defScope S_nobot) := ⟨rfl, rfl, rfl, by decide +kernel, rfl, by decide +kernel, by decide +kernel⟩
abbrev S_noquo : Stmt := top 23
abbrev N_noquo : List Str := ["x", "zero", "e"]
theorem sc_noquo : FnScope N_noquo ["x", "zero"] (defScope S_noquo) := ⟨rfl, rfl, rfl, by decide +kernel, rfl, by decide +kernel, by decide +kernel⟩
abbrev S_noexp : Stmt := top 24
abbrev N_noexp : List Str := ["x", "many", "e"]
theorem sc_noexp : FnScope N_noexp ["x", "many"] (defScope S_noexp) := ⟨rfl, rfl, rfl, by decide +kernel, rfl, by decide +kernel, by decide +kernel⟩
abbrev S_four : Stmt := top 25
abbrev N_four : List Str := ["x", "y", "a", "b"]
theorem sc_four : FnScope N_four ["x", "y", "a", "b"] (defScope S_four) := ⟨rfl, rfl, rfl, by decide +kernel, rfl, by decide +kernel, by decide +kernel⟩
abbrev S_small : Stmt := top 26
abbrev N_small : List Str := ["x", "a", "told", "own", "k"]
theorem sc_small : FnScope N_small ["x", "a"] (defScope S_small) := ⟨rfl, rfl, rfl, by decide +kernel, rfl, by decide +kernel, by decide +kernel⟩
abbrev S_great : Stmt := top 27
abbrev N_great : List Str := ["x", "a", "many", "own", "k"]
theorem sc_great : FnScope N_great ["x", "a", "many"] (defScope S_great) := ⟨rfl, rfl, rfl, by decide +kernel, rfl, by decide +kernel, by decide +kernel⟩
abbrev S_alone : Stmt := top 28
abbrev N_alone : List Str := ["x", "a"]
theorem sc_alone : FnScope N_alone ["x", "a"] (defScope S_alone) := ⟨rfl, rfl, rfl, by decide +kernel, rfl, by decide +kernel, by decide +kernel⟩
abbrev S_law : Stmt := top 29
abbrev N_law : List Str := ["script", "pot", "a", "b", "c", "many", "first", "second", "third", "low", "high", "x", "y", "z", "zero"]
theorem sc_law : FnScope N_law ["script"] (defScope S_law) := ⟨rfl, rfl, rfl, by decide +kernel, rfl, by decide +kernel, by decide +kernel⟩
/-- the addresses -/
structure Ad where
  C : Addr
  CE : Addr
  Z : Addr
  O : Addr
  f_init : Addr
  d_init : FuncData
  f_OB : Addr
  d_OB : FuncData
  f_add : Addr
  d_add : FuncData
  f_sub : Addr
  d_sub : FuncData
  f_mul : Addr
  d_mul : FuncData
  f_pow : Addr
  d_pow : FuncData
  f_neg : Addr
  d_neg : FuncData
  f_abs : Addr
  d_abs : FuncData
  f_divided : Addr
  d_divided : FuncData
  f_raised : Addr
  d_raised : FuncData
  f_start : Addr
  d_start : FuncData
  f_digit : Addr
  d_digit : FuncData
  f_fraction : Addr
  d_fraction : FuncData
  f_handed : Addr
  d_handed : FuncData
  f_lowest : Addr
  d_lowest : FuncData
  f_plus : Addr
  d_plus : FuncData
  f_times : Addr
  d_times : FuncData
  f_lis : Addr
  d_lis : FuncData
  f_nobot : Addr
  d_nobot : FuncData
  f_noquo : Addr
  d_noquo : FuncData
  f_noexp : Addr
  d_noexp : FuncData
  f_four : Addr
  d_four : FuncData
  f_small : Addr
  d_small : FuncData
  f_great : Addr
  d_great : FuncData
  f_alone : Addr
  d_alone : FuncData
  f_law : Addr
  d_law : FuncData
/-- what the top has left -/
structure Txt (K : PySem.W.Frag) (mg : Str → Option Value) (A : Ad) : Prop where
  cl : Cls K A.C
  nT : NoAttr K A.C "top"
  nB : NoAttr K A.C "bottom"
  mkC : Mk K A.C A.f_init
  sf : PySem.W.selfFirst K A.C = true
  ha : PySem.W.findIn K (.ref A.C) "__class__" = some (some (.builtin "object.__class__"))
  hn : PySem.W.specialIn K (.builtin "object.__class__") "__get__" = some (some (.builtin "getset_descriptor.__get__"))
  htk : PySem.W.takesIn K (.builtin "object.__class__") = some true
  hm : PySem.W.mroIn K A.C (.type "object") = some true
  rp : ∃ rc, PySem.W.findIn K (.ref A.C) "__rpow__" = some rc ∧ (rc = none ∨ ∃ g : Addr, rc = some (.ref g))
  ip : ∃ fo, PySem.W.findIn K (.type "int") "__pow__" = some fo
  irp : ∃ ro, PySem.W.findIn K (.type "int") "__rpow__" = some ro
  isub : PySem.W.subIn K (.type "int") (.ref A.C) = some false
  F_init : FunD K "__init__" "Ratio.__init__" (defArgs S_init) (defBody S_init) (defScope S_init) [.int 1] [] A.f_init A.d_init
  b_init3 : Binds K A.d_init ["self", "top", "bottom"] []
  b_init2 : ∃ ds, Vals [V.int 1] ds ∧ Binds K A.d_init ["self", "top", "bottom"] ds
  g_Ratio : mg "Ratio" = some (.ref A.C)
  g_gcd : mg "gcd" = some (.builtin "math.gcd")
  g_CE : mg "CarryError" = some (.ref A.CE)
  g_Z : mg "ZeroBottom" = some (.ref A.Z)
  xZ : PySem.W.excIn K A.Z [.type "ValueError", .type "Exception", .type "BaseException", .type "object"] "ValueError.__new__" = true
  kZ : PySem.W.keepIn K (.ref A.Z) = true
  bZ : PySem.W.subIn K (.ref A.Z) (.type "BaseException") = some true
  tZ : PySem.W.typeIn K (.ref A.Z) = some (.type "type")
  eZ : PySem.W.exmOne K (.ref A.Z) (.ref A.CE) = some true
  XZ : ExcC K A.Z
  zv : PySem.W.kitOne K (.ref A.Z) (.type "ValueError") = some true
  zo : PySem.W.kitOne K (.ref A.Z) (.ref A.O) = some false
  g_O : mg "OutOfBounds" = some (.ref A.O)
  oO : OexC K A.O
  iO : PySem.W.findIn K (.ref A.O) "__init__" = some (some (.ref A.f_OB))
  tiO : PySem.W.typeIn K (.ref A.f_OB) = some (.type "function")
  nV : PySem.W.findIn K (.ref A.O) "value" = some none
  xfO : XfC K A.O
  eO : PySem.W.exmOne K (.ref A.O) (.ref A.CE) = some true
  XO : ExcC K A.O
  ov : PySem.W.kitOne K (.ref A.O) (.type "ValueError") = some true
  oz : PySem.W.kitOne K (.ref A.O) (.ref A.Z) = some false
  g_most : ∃ tk, mg "_MOST_EXPONENT" = some (.int 64 tk)
  n_len : mg "len" = none
  n_abs : mg "abs" = none
  n_int : mg "int" = none
  n_bool : mg "bool" = none
  n_range : mg "range" = none
  n_isinstance : mg "isinstance" = none
  n_ValueError : mg "ValueError" = none
  F_OB : Fun K "__init__" "OutOfBounds.__init__" S_OB A.f_OB A.d_OB
  b_OB : Binds K A.d_OB ["self", "value"] []
  m_OB : Meth K A.O "__init__" A.f_OB
  F_add : Fun K "__add__" "Ratio.__add__" S_add A.f_add A.d_add
  b_add : Binds K A.d_add ["self", "other"] []
  m_add : Meth K A.C "__add__" A.f_add
  F_sub : Fun K "__sub__" "Ratio.__sub__" S_sub A.f_sub A.d_sub
  b_sub : Binds K A.d_sub ["self", "other"] []
  m_sub : Meth K A.C "__sub__" A.f_sub
  F_mul : Fun K "__mul__" "Ratio.__mul__" S_mul A.f_mul A.d_mul
  b_mul : Binds K A.d_mul ["self", "other"] []
  m_mul : Meth K A.C "__mul__" A.f_mul
  F_pow : Fun K "__pow__" "Ratio.__pow__" S_pow A.f_pow A.d_pow
  b_pow : Binds K A.d_pow ["self", "other"] []
  m_pow : Meth K A.C "__pow__" A.f_pow
  F_neg : Fun K "__neg__" "Ratio.__neg__" S_neg A.f_neg A.d_neg
  b_neg : Binds K A.d_neg ["self"] []
  m_neg : Meth K A.C "__neg__" A.f_neg
  F_abs : Fun K "__abs__" "Ratio.__abs__" S_abs A.f_abs A.d_abs
  b_abs : Binds K A.d_abs ["self"] []
  m_abs : Meth K A.C "__abs__" A.f_abs
  F_divided : Fun K "divided" "Ratio.divided" S_divided A.f_divided A.d_divided
  b_divided : Binds K A.d_divided ["self", "other"] []
  m_divided : Meth K A.C "divided" A.f_divided
  F_raised : Fun K "raised" "Ratio.raised" S_raised A.f_raised A.d_raised
  b_raised : Binds K A.d_raised ["self", "n"] []
  m_raised : Meth K A.C "raised" A.f_raised
  F_start : Fun K "_law_start" "_law_start" S_start A.f_start A.d_start
  b_start : Binds K A.d_start ["script"] []
  g_start : mg "_law_start" = some (.ref A.f_start)
  F_digit : Fun K "_law_digit" "_law_digit" S_digit A.f_digit A.d_digit
  b_digit : Binds K A.d_digit ["pot", "many"] []
  g_digit : mg "_law_digit" = some (.ref A.f_digit)
  F_fraction : Fun K "_law_fraction" "_law_fraction" S_fraction A.f_fraction A.d_fraction
  b_fraction : Binds K A.d_fraction ["pot"] []
  g_fraction : mg "_law_fraction" = some (.ref A.f_fraction)
  F_handed : Fun K "_law_handed" "_law_handed" S_handed A.f_handed A.d_handed
  b_handed : Binds K A.d_handed ["pot", "pair"] []
  g_handed : mg "_law_handed" = some (.ref A.f_handed)
  F_lowest : Fun K "_law_lowest" "_law_lowest" S_lowest A.f_lowest A.d_lowest
  b_lowest : Binds K A.d_lowest ["top", "bottom"] []
  g_lowest : mg "_law_lowest" = some (.ref A.f_lowest)
  F_plus : Fun K "_law_plus" "_law_plus" S_plus A.f_plus A.d_plus
  b_plus : Binds K A.d_plus ["a", "b"] []
  g_plus : mg "_law_plus" = some (.ref A.f_plus)
  F_times : Fun K "_law_times" "_law_times" S_times A.f_times A.d_times
  b_times : Binds K A.d_times ["a", "b"] []
  g_times : mg "_law_times" = some (.ref A.f_times)
  F_lis : Fun K "_law_is" "_law_is" S_lis A.f_lis A.d_lis
  b_lis : Binds K A.d_lis ["told", "pair"] []
  g_lis : mg "_law_is" = some (.ref A.f_lis)
  F_nobot : Fun K "_law_no_bottom" "_law_no_bottom" S_nobot A.f_nobot A.d_nobot
  b_nobot : Binds K A.d_nobot ["top"] []
  g_nobot : mg "_law_no_bottom" = some (.ref A.f_nobot)
  F_noquo : Fun K "_law_no_quotient" "_law_no_quotient" S_noquo A.f_noquo A.d_noquo
  b_noquo : Binds K A.d_noquo ["x", "zero"] []
  g_noquo : mg "_law_no_quotient" = some (.ref A.f_noquo)
  F_noexp : Fun K "_law_no_exponent" "_law_no_exponent" S_noexp A.f_noexp A.d_noexp
  b_noexp : Binds K A.d_noexp ["x", "many"] []
  g_noexp : mg "_law_no_exponent" = some (.ref A.f_noexp)
  F_four : Fun K "_law_four" "_law_four" S_four A.f_four A.d_four
  b_four : Binds K A.d_four ["x", "y", "a", "b"] []
  g_four : mg "_law_four" = some (.ref A.f_four)
  F_small : Fun K "_law_small_powers" "_law_small_powers" S_small A.f_small A.d_small
  b_small : Binds K A.d_small ["x", "a"] []
  g_small : mg "_law_small_powers" = some (.ref A.f_small)
  F_great : Fun K "_law_great_powers" "_law_great_powers" S_great A.f_great A.d_great
  b_great : Binds K A.d_great ["x", "a", "many"] []
  g_great : mg "_law_great_powers" = some (.ref A.f_great)
  F_alone : Fun K "_law_alone" "_law_alone" S_alone A.f_alone A.d_alone
  b_alone : Binds K A.d_alone ["x", "a"] []
  g_alone : mg "_law_alone" = some (.ref A.f_alone)
  F_law : Fun K "law" "law" S_law A.f_law A.d_law
  b_law : Binds K A.d_law ["script"] []
  g_law : mg "law" = some (.ref A.f_law)

/-! ### sizes -/
/-- below 2 ^ n in size -/
def Bd (n : Nat) (i : Int) : Prop := i.natAbs < 2 ^ n
theorem Bd.mono {n m : Nat} {i : Int} (h : Bd n i) (l : n ≤ m) : Bd m i := Nat.lt_of_lt_of_le h (Nat.pow_le_pow_right (by decide) l)
theorem Bd.mul {n m : Nat} {i j : Int} (h : Bd n i) (g : Bd m j) : Bd (n + m) (i * j) := wide_lt h g
theorem Bd.add {n : Nat} {i j : Int} (h : Bd n i) (g : Bd n j) : Bd (n + 1) (i + j) := by
  unfold Bd at *
  rw [Nat.pow_succ]
  omega
theorem Bd.sub {n : Nat} {i j : Int} (h : Bd n i) (g : Bd n j) : Bd (n + 1) (i - j) := by
  unfold Bd at *
  rw [Nat.pow_succ]
  omega
theorem Bd.neg {n : Nat} {i : Int} (h : Bd n i) : Bd n (-i) := by
  unfold Bd at *
  omega
theorem Bd.abs {n : Nat} {i j : Int} (h : Bd n i) (e : j.natAbs ≤ i.natAbs) : Bd n j := Nat.lt_of_le_of_lt e h
theorem Bd.w {n m : Nat} {i j : Int} (h : Bd n i) (g : Bd m j) (a : 0 < n := by decide) (b : 0 < m := by decide) (l : n + m ≤ 1000000 := by decide) : CMulW i j := wide_mul h g a b l
theorem Bd.fdv {n : Nat} {i j : Int} (h : Bd n j) (a : j ≠ 0) (b : 0 < n := by decide) (l : n ≤ 9000 := by decide) : CFdv i j := ⟨a, Nat.lt_of_lt_of_le (PySem.Flt.log2_lt_of b h) l⟩
theorem Bd.div {n : Nat} {i j : Int} (h : Bd n j) (a : 0 < j) (b : 0 < n := by decide) (l : n ≤ 9000 := by decide) : CDivW i j := wide_div a h b l

/-! ### heaps -/
abbrev Ex (H H' : Hp) : Prop := Same H H'
theorem Ex.new {H : Hp} {p : Addr} {o : HO} (h : H p = none) : Ex H (upd H p o) := fun a u e => by rw [upd_ne (ne_of_none e h)]; exact e
theorem Ex.to {H H1 : Hp} {p : Addr} {o : HO} (x : Ex H H1) (h : H1 p = none) : Ex H (upd H1 p o) := x.trans (Ex.new h)
/-- all but what stands at p is as it was -/
def Keep (p : Addr) (H H' : Hp) : Prop := ∀ b o, H b = some o → b ≠ p → H' b = some o
theorem Keep.refl {p : Addr} {H : Hp} : Keep p H H := fun _ _ h _ => h
theorem Keep.trans {p : Addr} {H H1 H2 : Hp} (a : Keep p H H1) (b : Keep p H1 H2) : Keep p H H2 := fun c o h n => b c o (a c o h n) n
theorem Keep.of {p : Addr} {H H' : Hp} (h : Ex H H') : Keep p H H' := fun c o e _ => h c o e
theorem Keep.upd {p : Addr} {H : Hp} {o : HO} : Keep p H (upd H p o) := fun c u e n => by rw [upd_ne n]; exact e
theorem Keep.new {p q : Addr} {H : Hp} {o : HO} (h : H q = none) : Keep p H (L2.upd H q o) := Keep.of (Ex.new h)

/-- the fields of a Ratio -/
def rf (p : Int × Int) : List (Str × V) := [("top", .int p.1), ("bottom", .int p.2)]
theorem ne_tb : ¬ (("top" : Str) = "bottom") := by decide +kernel
theorem rf_put (t b : Int) : putF "bottom" (.int b) (putF "top" (.int t) []) = rf (t, b) := by
  show (if ("top" : Str) = "bottom" then _ else (("top" : Str), V.int t) :: putF "bottom" (.int b) []) = rf (t, b)
  rw [if_neg ne_tb]
  rfl
theorem rf_top (p : Int × Int) : (rf p).lookup ("top" : Str) = some (.int p.1) := by simp [rf, List.lookup]
theorem rf_bot (p : Int × Int) : (rf p).lookup ("bottom" : Str) = some (.int p.2) := by
  have : (("bottom" : Str) == "top") = false := by decide +kernel
  simp [rf, List.lookup, this]
theorem rf_no (p : Int × Int) {m : Str} (h : (m == "top") = false) (h2 : (m == "bottom") = false) : (rf p).lookup m = none := by
  simp [rf, List.lookup, h, h2]
/-- a Ratio with the fields p stands at a -/
def RatAt (C : Addr) (H : Hp) (a : Addr) (p : Int × Int) : Prop := ∃ dx, H a = some (.ins C dx (rf p))
theorem RatAt.ex {C : Addr} {H H' : Hp} {a : Addr} {p : Int × Int} (r : RatAt C H a p) (e : Ex H H') : RatAt C H' a p := let ⟨dx, h⟩ := r; ⟨dx, e _ _ h⟩
/-- a pair of whole numbers stands at a -/
def Pr (H : Hp) (a : Addr) (p : Int × Int) : Prop := H a = some (.tup [.int p.1, .int p.2])
theorem Pr.ex {H H' : Hp} {a : Addr} {p : Int × Int} (r : Pr H a p) (e : Ex H H') : Pr H' a p := e _ _ r
/-- a fair pair: the bottom above 0, both of at most n digits in base 2 -/
structure Sm (n : Nat) (p : Int × Int) : Prop where
  t : Bd n p.1
  b : Bd n p.2
  pos : 0 < p.2
theorem Sm.mono {n m : Nat} {p : Int × Int} (h : Sm n p) (l : n ≤ m) : Sm m p := ⟨h.t.mono l, h.b.mono l, h.pos⟩
theorem Sm.lo {n : Nat} {t b : Int} (ht : Bd n t) (hb : Bd n b) (h : b ≠ 0) : Sm n (lo t b) := ⟨ht.abs (lo_top_le h), hb.abs (lo_bot_le h), lo_pos h⟩
theorem pos_ne {b : Int} (h : 0 < b) : b ≠ 0 := by omega

section
variable {P : Program} {w : World} {K : PySem.W.Frag} {mg : Str → Option Value} {base : Heap} {A : Ad}

/-! ### OutOfBounds.__init__ -/
def spOB (K : PySem.W.Frag) (A : Ad) : Sp := fun vs H Q _ => ∃ (a : Addr) (n : Int), vs = [.ref a, .int n] ∧ H a = some (exo a A.O none) ∧
  ∀ dx, H dx = none → dx ≠ a → Q .non (upd (upd H dx (exd dx [("value", .int n)])) a (exo a A.O (some dx)))
theorem ok_OB (T : Txt K mg A) : FnOk P w K mg base CX0 1 A.f_OB A.d_OB ["self", "value"] (spOB K A) := by
  refine T.F_OB.ok sc_OB (fun vs H Q E h => ?_) (fun cdv Ar outer s H vs Q E hr h => ?_)
  · obtain ⟨a, n, rfl, _⟩ := h
    rfl
  · obtain ⟨a, n, rfl, ha, k⟩ := h
    refine ⟨_, (pss_one (ps_ost (pv 0) (pv 1))), ?_⟩
    exact ⟨_, rfl, _, rfl, a, A.O, rfl, T.oO, T.nV, .inl ⟨ha, fun dx hd hn => k dx hd hn⟩⟩

/-! ### Ratio.__init__: raises for a bottom 0, else lowest terms -/
def spInit (A : Ad) : Sp := fun vs H Q E => ∃ (x dx : Addr) (t b : Int), vs = [.ref x, .int t, .int b] ∧ H x = some (.ins A.C dx []) ∧ (b = 0 → E (.ref A.Z) none H) ∧
  (b ≠ 0 → Bd 8900 b ∧ ∀ H', RatAt A.C H' x (lo t b) → (∀ c o, H c = some o → c ≠ x → H' c = some o) → Q .non H')
theorem ok_init (T : Txt K mg A) : FnOk P w K mg base (L2.CX P w) 1 A.f_init A.d_init ["self", "top", "bottom"] (spInit A) := by
  refine T.F_init.ok sc_init (fun vs H Q E h => ?_) (fun cdv Ar outer s H vs Q E hr h => ?_)
  · obtain ⟨x, dx, t, b, rfl, _⟩ := h
    rfl
  · obtain ⟨x, dx, t, b, rfl, hx, k0, k1⟩ := h
    refine ⟨_, (pss_cons (ps_if (pt_cmpR op_eq (pv 2) pe_int (nomark _))
      (pss_one (ps_raise rfl (takes_of rfl rfl rfl rfl) (pmk_bare PySem.F.excBase_ValueError T.xZ T.g_Z T.kZ (raises_own T.bZ T.tZ) rfl))) pss_nil)
      (pss_cons (ps_set (i := 3) sc_init.nd rfl (Or.inl rfl) (pe_callBfun cr_gcd rfl T.g_gcd (pa_cons (pv 1) (pa_cons (pv 2) pa_nil))))
      (pss_cons (ps_if (pt_cmpR op_lt (pv 2) pe_int (nomark _))
      (pss_one (ps_set (i := 3) sc_init.nd rfl (Or.inl rfl) (pe_un un_neg (pv 3)))) pss_nil)
      (pss_cons (ps_fld (pv 0) (pe_op op_fdv (pv 1) (pv 3)) rfl)
      (pss_one (ps_fld (pv 0) (pe_op op_fdv (pv 2) (pv 3)) rfl)))))), ?_⟩
    refine ⟨_, rfl, rfl, _, rfl, ?_⟩
    by_cases hb : b = 0
    · refine ite2 (fun _ => k0 hb) (fun n => absurd (by rw [hb] <;> rfl) n)
    refine ite2 (fun z => absurd (V.int.inj (of_decide_eq_true z)) hb) (fun _ => ?_)
    obtain ⟨bb, k⟩ := k1 hb
    have g := gcd_pos (t := t) hb
    have gn : ((Nat.gcd t.natAbs b.natAbs : Nat) : Int) = (Int.gcd t b : Int) := rfl
    have gb : Bd 8900 (Int.gcd t b : Int) := by
      refine bb.abs ?_
      have := Nat.le_of_dvd (by omega : 0 < b.natAbs) (Nat.gcd_dvd_right t.natAbs b.natAbs)
      show ((Nat.gcd t.natAbs b.natAbs : Nat) : Int).natAbs ≤ _
      omega
    have lp := lo_prog (t := t) hb
    refine ⟨_, rfl, _, rfl, t, b, rfl, _, rfl, _, _, rfl, rfl, _, rfl, ?_⟩
    have fin : ∀ d : Int, d ≠ 0 → Bd 8900 d → lo t b = (t.fdiv d, b.fdiv d) → ∀ H2 : Hp, H2 = upd (upd H x (.ins A.C dx (putF "top" (.int (t.fdiv d)) []))) x (.ins A.C dx (putF "bottom" (.int (b.fdiv d)) (putF "top" (.int (t.fdiv d)) []))) → Q .non H2 := by
      intro d d0 db e H2 e2
      refine k H2 ⟨dx, ?_⟩ fun c o hc hn => ?_
      · rw [e2, upd_same, rf_put, e]
      · rw [e2, upd_ne hn, upd_ne hn]; exact hc
    refine ite2 (fun c => ?_) (fun c => ?_)
    · have c' : b < 0 := of_decide_eq_true c
      rw [if_pos c'] at lp
      refine ⟨_, rfl, _, rfl, _, rfl, _, rfl, _, _, rfl, rfl, gb.neg.fdv (by omega), _, rfl, x, A.C, dx, _, rfl, hx, T.cl, T.nT, (by show 0 < 1000; decide), ?_⟩
      refine ⟨_, rfl, _, rfl, _, _, rfl, rfl, gb.neg.fdv (by omega), _, rfl, x, A.C, dx, _, rfl, upd_same, T.cl, T.nB, (by show 1 < 1000; decide), ?_⟩
      exact fin _ (by omega) gb.neg lp _ rfl
    · have c' : ¬ b < 0 := fun z => c (decide_eq_true z)
      rw [if_neg c'] at lp
      refine ⟨_, rfl, _, rfl, _, _, rfl, rfl, gb.fdv (by omega), _, rfl, x, A.C, dx, _, rfl, hx, T.cl, T.nT, (by show 0 < 1000; decide), ?_⟩
      refine ⟨_, rfl, _, rfl, _, _, rfl, rfl, gb.fdv (by omega), _, rfl, x, A.C, dx, _, rfl, upd_same, T.cl, T.nB, (by show 1 < 1000; decide), ?_⟩
      exact fin _ (by omega) gb lp _ rfl
/-- Ratio(t, b) read: for b not 0 -/
theorem rd_make {t b : Int} {H : Hp} {Q : VK} {E : XK} (hb : b ≠ 0) (bb : Bd 8900 b) (k : ∀ x H', Ex H H' → H x = none → RatAt A.C H' x (lo t b) → Q (.ref x) H') :
    ∀ x dx, H x = none → H dx = none → dx ≠ x → spInit A [.ref x, .int t, .int b] (upd (upd H dx (.own x)) x (.ins A.C dx [])) (fun v H2 => v = .non ∧ Q (.ref x) H2) E :=
  fun x dx nx nd ne => ⟨x, dx, t, b, rfl, upd_same, fun z => absurd z hb, fun _ => ⟨bb, fun H' r kp => ⟨rfl, k x H' (Same.made nx nd kp) nx r⟩⟩⟩
end
end Fc
set_option Elab.async false
set_option linter.all false
set_option maxRecDepth 100000
set_option maxHeartbeats 4000000
namespace Fc
open PySem PySem.Spec PyProof.Rows L2
section
variable {P : Program} {w : World} {K : PySem.W.Frag} {mg : Str → Option Value} {base : Heap} {A : Ad}
theorem passF {X : Cx} {E : XK} : Passes CX0 X E := fun _ _ _ _ _ _ _ h => h.elim
theorem Sm.ne {n : Nat} {p : Int × Int} (h : Sm n p) : p.2 ≠ 0 := pos_ne h.pos
theorem Sm.nn {n m : Nat} {p q : Int × Int} (h : Sm n p) (g : Sm m q) : p.2 * q.2 ≠ 0 := Int.mul_ne_zero h.ne g.ne
/-- a promise of a method of two Ratios -/
def spBin (C : Addr) (G : Int × Int → Int × Int → Prop) (R : Int × Int → Int × Int → Int × Int) : Sp := fun vs H Q _ => ∃ a b p q, vs = [.ref a, .ref b] ∧ RatAt C H a p ∧ RatAt C H b q ∧ Sm 4000 p ∧ Sm 4000 q ∧ G p q ∧
  ∀ x H', Ex H H' → H x = none → RatAt C H' x (R p q) → Q (.ref x) H'
abbrev gAny (_ _ : Int × Int) : Prop := True
abbrev rAdd (p q : Int × Int) : Int × Int := lo (p.1 * q.2 + q.1 * p.2) (p.2 * q.2)
abbrev rSub (p q : Int × Int) : Int × Int := lo (p.1 * q.2 - q.1 * p.2) (p.2 * q.2)
abbrev rMul (p q : Int × Int) : Int × Int := lo (p.1 * q.1) (p.2 * q.2)
abbrev rDiv (p q : Int × Int) : Int × Int := lo (p.1 * q.2) (p.2 * q.1)
theorem ok_add (T : Txt K mg A) : FnOk P w K mg base CX0 3 A.f_add A.d_add ["self", "other"] (spBin A.C gAny rAdd) := by
  refine T.F_add.ok sc_add (fun vs H Q E h => ?_) (fun cdv Ar outer s H vs Q E hr h => ?_)
  · obtain ⟨a, b, p, q, rfl, _⟩ := h
    rfl
  · obtain ⟨a, b, p, q, rfl, ⟨dx, ha⟩, ⟨dy, hb⟩, sp, sq, _, k⟩ := h
    refine ⟨_, (pss_cons (ps_set (i := 2) sc_add.nd rfl (Or.inl rfl) (pe_op op_add (pe_op op_mulW (pe_fld (pv 0) rfl) (pe_fld (pv 1) rfl)) (pe_op op_mulW (pe_fld (pv 1) rfl) (pe_fld (pv 0) rfl))))
      (pss_one (ps_ret (pe_make T.mkC (ok_init T) (hr.mono (by decide)) rfl T.g_Ratio T.b_init3 .nil passL (pa_cons (pv 2) (pa_cons (pe_op op_mulW (pe_fld (pv 0) rfl) (pe_fld (pv 1) rfl)) pa_nil)))))), ?_⟩
    refine ⟨_, rfl, _, _, _, _, _, rfl, ha, T.cl, T.nT, rf_top _, _, rfl, _, _, _, _, _, rfl, hb, T.cl, T.nB, rf_bot _, _, _, rfl, rfl, sp.t.w sq.b, _, rfl, _, _, _, _, _, rfl, hb, T.cl, T.nT, rf_top _, _, rfl, _, _, _, _, _, rfl, ha, T.cl, T.nB, rf_bot _, _, _, rfl, rfl, sq.t.w sp.b, _, _, rfl, rfl, _, rfl, _, rfl, _, _, _, _, _, rfl, ha, T.cl, T.nB, rf_bot _, _, rfl, _, _, _, _, _, rfl, hb, T.cl, T.nB, rf_bot _, _, _, rfl, rfl, sp.b.w sq.b, ?_⟩
    exact rd_make (sp.nn sq) ((sp.b.mul sq.b).mono (by decide)) k
theorem ok_sub (T : Txt K mg A) : FnOk P w K mg base CX0 3 A.f_sub A.d_sub ["self", "other"] (spBin A.C gAny rSub) := by
  refine T.F_sub.ok sc_sub (fun vs H Q E h => ?_) (fun cdv Ar outer s H vs Q E hr h => ?_)
  · obtain ⟨a, b, p, q, rfl, _⟩ := h
    rfl
  · obtain ⟨a, b, p, q, rfl, ⟨dx, ha⟩, ⟨dy, hb⟩, sp, sq, _, k⟩ := h
    refine ⟨_, (pss_cons (ps_set (i := 2) sc_sub.nd rfl (Or.inl rfl) (pe_op op_sub (pe_op op_mulW (pe_fld (pv 0) rfl) (pe_fld (pv 1) rfl)) (pe_op op_mulW (pe_fld (pv 1) rfl) (pe_fld (pv 0) rfl))))
      (pss_one (ps_ret (pe_make T.mkC (ok_init T) (hr.mono (by decide)) rfl T.g_Ratio T.b_init3 .nil passL (pa_cons (pv 2) (pa_cons (pe_op op_mulW (pe_fld (pv 0) rfl) (pe_fld (pv 1) rfl)) pa_nil)))))), ?_⟩
    refine ⟨_, rfl, _, _, _, _, _, rfl, ha, T.cl, T.nT, rf_top _, _, rfl, _, _, _, _, _, rfl, hb, T.cl, T.nB, rf_bot _, _, _, rfl, rfl, sp.t.w sq.b, _, rfl, _, _, _, _, _, rfl, hb, T.cl, T.nT, rf_top _, _, rfl, _, _, _, _, _, rfl, ha, T.cl, T.nB, rf_bot _, _, _, rfl, rfl, sq.t.w sp.b, _, _, rfl, rfl, _, rfl, _, rfl, _, _, _, _, _, rfl, ha, T.cl, T.nB, rf_bot _, _, rfl, _, _, _, _, _, rfl, hb, T.cl, T.nB, rf_bot _, _, _, rfl, rfl, sp.b.w sq.b, ?_⟩
    exact rd_make (sp.nn sq) ((sp.b.mul sq.b).mono (by decide)) k
theorem ok_mul (T : Txt K mg A) : FnOk P w K mg base CX0 3 A.f_mul A.d_mul ["self", "other"] (spBin A.C gAny rMul) := by
  refine T.F_mul.ok sc_mul (fun vs H Q E h => ?_) (fun cdv Ar outer s H vs Q E hr h => ?_)
  · obtain ⟨a, b, p, q, rfl, _⟩ := h
    rfl
  · obtain ⟨a, b, p, q, rfl, ⟨dx, ha⟩, ⟨dy, hb⟩, sp, sq, _, k⟩ := h
    refine ⟨_, (pss_one (ps_ret (pe_make T.mkC (ok_init T) (hr.mono (by decide)) rfl T.g_Ratio T.b_init3 .nil passL (pa_cons (pe_op op_mulW (pe_fld (pv 0) rfl) (pe_fld (pv 1) rfl)) (pa_cons (pe_op op_mulW (pe_fld (pv 0) rfl) (pe_fld (pv 1) rfl)) pa_nil))))), ?_⟩
    refine ⟨_, rfl, _, _, _, _, _, rfl, ha, T.cl, T.nT, rf_top _, _, rfl, _, _, _, _, _, rfl, hb, T.cl, T.nT, rf_top _, _, _, rfl, rfl, sp.t.w sq.t, _, rfl, _, _, _, _, _, rfl, ha, T.cl, T.nB, rf_bot _, _, rfl, _, _, _, _, _, rfl, hb, T.cl, T.nB, rf_bot _, _, _, rfl, rfl, sp.b.w sq.b, ?_⟩
    exact rd_make (sp.nn sq) ((sp.b.mul sq.b).mono (by decide)) k
/-- divided: raises for a divisor 0 -/
def spDiv (A : Ad) : Sp := fun vs H Q E => ∃ a b p q, vs = [.ref a, .ref b] ∧ RatAt A.C H a p ∧ RatAt A.C H b q ∧ Sm 4000 p ∧ Sm 4000 q ∧
  (q.1 = 0 → ∀ H', Ex H H' → E (.ref A.Z) none H') ∧ (q.1 ≠ 0 → ∀ x H', Ex H H' → H x = none → RatAt A.C H' x (rDiv p q) → Q (.ref x) H')
theorem ok_divided (T : Txt K mg A) : FnOk P w K mg base (L2.CX P w) 3 A.f_divided A.d_divided ["self", "other"] (spDiv A) := by
  refine T.F_divided.okX sc_divided (fun vs H Q E h => ?_) (fun cdv Ar outer s H vs Q E hr h => ?_)
  · obtain ⟨a, b, p, q, rfl, _⟩ := h
    rfl
  · obtain ⟨a, b, p, q, rfl, ⟨dx, ha⟩, ⟨dy, hb⟩, sp, sq, k0, k⟩ := h
    refine ⟨_, (pss_one (ps_ret (pe_make T.mkC (ok_init T) (hr.mono (by decide)) rfl T.g_Ratio T.b_init3 .nil (passes_call (E := E) (takes_of (E := E) rfl rfl rfl rfl) (fun _ _ _ _ h => h)) (pa_cons (pe_op op_mulW (pe_fld (pv 0) rfl) (pe_fld (pv 1) rfl)) (pa_cons (pe_op op_mulW (pe_fld (pv 0) rfl) (pe_fld (pv 1) rfl)) pa_nil))))), ?_⟩
    refine ⟨_, rfl, _, _, _, _, _, rfl, ha, T.cl, T.nT, rf_top _, _, rfl, _, _, _, _, _, rfl, hb, T.cl, T.nB, rf_bot _, _, _, rfl, rfl, sp.t.w sq.b, _, rfl, _, _, _, _, _, rfl, ha, T.cl, T.nB, rf_bot _, _, rfl, _, _, _, _, _, rfl, hb, T.cl, T.nT, rf_top _, _, _, rfl, rfl, sp.b.w sq.t, ?_⟩
    intro x dx nx nd ne
    refine ⟨x, dx, _, _, rfl, upd_same, fun z => ?_, fun z => ⟨(sp.b.mul sq.t).mono (by decide), fun H' r kp => ⟨rfl, ?_⟩⟩⟩
    · have q0 : q.1 = 0 := (Int.mul_eq_zero.mp z).resolve_left sp.ne
      exact k0 q0 _ fun c o e => by rw [upd_ne (ne_of_none e nx), upd_ne (ne_of_none e nd)]; exact e
    · exact k (fun e => z (by rw [e, Int.mul_zero])) x H' (Same.made nx nd kp) nx r
def spUn (C : Addr) (R : Int × Int → Int × Int) : Sp := fun vs H Q _ => ∃ a p, vs = [.ref a] ∧ RatAt C H a p ∧ Sm 4000 p ∧ ∀ x H', Ex H H' → H x = none → RatAt C H' x (R p) → Q (.ref x) H'
abbrev rNeg (p : Int × Int) : Int × Int := lo (-p.1) p.2
abbrev rAbs (p : Int × Int) : Int × Int := lo (if p.1 < 0 then -p.1 else p.1) p.2
theorem ok_neg (T : Txt K mg A) : FnOk P w K mg base CX0 3 A.f_neg A.d_neg ["self"] (spUn A.C rNeg) := by
  refine T.F_neg.ok sc_neg (fun vs H Q E h => ?_) (fun cdv Ar outer s H vs Q E hr h => ?_)
  · obtain ⟨a, p, rfl, _⟩ := h
    rfl
  · obtain ⟨a, p, rfl, ⟨dx, ha⟩, sp, k⟩ := h
    refine ⟨_, (pss_one (ps_ret (pe_make T.mkC (ok_init T) (hr.mono (by decide)) rfl T.g_Ratio T.b_init3 .nil passL (pa_cons (pe_un un_neg (pe_fld (pv 0) rfl)) (pa_cons (pe_fld (pv 0) rfl) pa_nil))))), ?_⟩
    refine ⟨_, rfl, _, _, _, _, _, rfl, ha, T.cl, T.nT, rf_top _, _, rfl, _, rfl, _, _, _, _, _, rfl, ha, T.cl, T.nB, rf_bot _, ?_⟩
    exact rd_make sp.ne (sp.b.mono (by decide)) k
theorem ok_abs (T : Txt K mg A) : FnOk P w K mg base CX0 3 A.f_abs A.d_abs ["self"] (spUn A.C rAbs) := by
  refine T.F_abs.ok sc_abs (fun vs H Q E h => ?_) (fun cdv Ar outer s H vs Q E hr h => ?_)
  · obtain ⟨a, p, rfl, _⟩ := h
    rfl
  · obtain ⟨a, p, rfl, ⟨dx, ha⟩, sp, k⟩ := h
    refine ⟨_, (pss_one (ps_ret (pe_make T.mkC (ok_init T) (hr.mono (by decide)) rfl T.g_Ratio T.b_init3 .nil passL (pa_cons (pe_callB call_abs (by rfl) T.n_abs (by decide +kernel) (pa_cons (pe_fld (pv 0) rfl) pa_nil)) (pa_cons (pe_fld (pv 0) rfl) pa_nil))))), ?_⟩
    refine ⟨_, rfl, _, _, _, _, _, rfl, ha, T.cl, T.nT, rf_top _, _, rfl, _, rfl, _, _, _, _, _, rfl, ha, T.cl, T.nB, rf_bot _, ?_⟩
    exact rd_make sp.ne (sp.b.mono (by decide)) k

/-! ### raised -/
theorem Bd.pow {m : Nat} {a : Int} (h : Bd m a) : ∀ i : Nat, Bd (m * i + 1) (a ^ i)
  | 0 => by unfold Bd; rw [Int.pow_zero, Nat.mul_zero]; decide
  | i + 1 => by
    rw [Int.pow_succ]
    exact ((Bd.pow h i).mul h).mono (by rw [Nat.mul_succ]; omega)
def spRaised (A : Ad) : Sp := fun vs H Q E => ∃ (a : Addr) (p : Int × Int) (n : Int), vs = [.ref a, .int n] ∧ RatAt A.C H a p ∧
  ((n < 0 ∨ 64 < n) → ∀ d H', Ex H H' → H' d = some (.xd [("value", .int n)]) → E (.ref A.O) (some d) H') ∧
  (¬ (n < 0 ∨ 64 < n) → ∃ m, Sm m p ∧ 0 < m ∧ m * n.toNat ≤ 8000 ∧ Int.gcd p.1 p.2 = 1 ∧ ∀ x H', Ex H H' → H x = none → RatAt A.C H' x (p.1 ^ n.toNat, p.2 ^ n.toNat) → Q (.ref x) H')
theorem ok_raised (T : Txt K mg A) : FnOk P w K mg base (L2.CX P w) 3 A.f_raised A.d_raised ["self", "n"] (spRaised A) := by
  obtain ⟨tk, gM⟩ := T.g_most
  refine T.F_raised.okX sc_raised (fun vs H Q E h => ?_) (fun cdv Ar outer s H vs Q E hr h => ?_)
  · obtain ⟨a, p, n, rfl, _⟩ := h
    rfl
  · obtain ⟨a, p, n, rfl, ⟨dx, ha⟩, k0, k1⟩ := h
    refine ⟨_, (pss_cons (ps_if (PW.pt (pw_or (pt_cmpR op_lt (pv 1) pe_int (nomark _)) (pw_or1 (pt_cmpR op_gt (pv 1) (pe_glob (v := .int 64) rfl gM ⟨_, rfl⟩) (nomark _)))))
      (pss_one (ps_raise rfl (takes_of rfl rfl rfl rfl) (pmk_oex T.oO T.iO T.tiO (ok_OB T) (hr.mono (by decide)) T.b_OB .nil passF rfl T.g_O (pa_cons (pv 1) pa_nil)))) pss_nil)
      (pss_cons (ps_set (i := 2) sc_raised.nd rfl (Or.inl rfl) pe_int)
      (pss_cons (ps_set (i := 3) sc_raised.nd rfl (Or.inl rfl) pe_int)
      (pss_cons (ps_for (passes_of rfl) rfl (pi_range1 rfl T.n_range (pa_cons (pv 1) pa_nil)) (pg_name (i := 4) sc_raised.nd rfl (Or.inl rfl))
      (pss_cons (ps_set (i := 2) sc_raised.nd rfl (Or.inl rfl) (pe_op op_mulW (pv 2) (pe_fld (pv 0) rfl)))
      (pss_one (ps_set (i := 3) sc_raised.nd rfl (Or.inl rfl) (pe_op op_mulW (pv 3) (pe_fld (pv 0) rfl))))))
      (pss_one (ps_ret (pe_make T.mkC (ok_init T) (hr.mono (by decide)) rfl T.g_Ratio T.b_init3 .nil passL (pa_cons (pv 2) (pa_cons (pv 3) pa_nil))))))))), ?_⟩
    have bad : (n < 0 ∨ 64 < n) → ∀ b : Addr, H b = none → spOB K A [.ref b, .int n] (upd H b (exo b A.O none)) (fun v H2 => v = .non ∧ ∃ (d : Addr) (fs : List (Str × V)),
        H2 b = some (exo b A.O (some d)) ∧ H2 d = some (exd d fs) ∧ H d = none ∧ E (.ref A.O) (some d) (upd (del H2 b) d (.xd fs))) (fun _ _ _ => False) := by
      intro hn b nb
      refine ⟨b, n, rfl, upd_same, fun d nd ne => ⟨rfl, d, [("value", .int n)], upd_same, ?_, ?_, ?_⟩⟩
      · rw [upd_ne ne, upd_same]
      · rw [upd_ne ne] at nd; exact nd
      · have hd : H d = none := by rw [upd_ne ne] at nd; exact nd
        refine k0 hn d _ (fun c o e => ?_) upd_same
        rw [upd_ne (ne_of_none e hd), del_ne (ne_of_none e nb), upd_ne (ne_of_none e nb), upd_ne (ne_of_none e hd), upd_ne (ne_of_none e nb)]
        exact e
    refine ⟨_, rfl, _, _, rfl, rfl, _, rfl, ?_⟩
    by_cases h0 : n < 0
    · refine ite2 (fun _ => iteT ⟨_, rfl, (by show 1 ≤ 1000; decide), bad (.inl h0)⟩) (fun z => absurd (decide_eq_true h0) z)
    refine ite2 (fun z => absurd (of_decide_eq_true z) h0) (fun _ => ?_)
    refine ⟨_, rfl, _, _, rfl, rfl, _, rfl, ?_⟩
    by_cases h1 : 64 < n
    · refine ite2 (fun _ => ⟨_, rfl, (by show 1 ≤ 1000; decide), bad (.inr h1)⟩) (fun z => absurd (decide_eq_true h1) z)
    refine ite2 (fun z => absurd (of_decide_eq_true z) h1) (fun _ => ?_)
    obtain ⟨m, sp, m0, mn, cop, k⟩ := k1 (by omega)
    refine ⟨_, rfl, n, rfl, by omega, by omega, for_range (lo := 0) (n := n.toNat) (fun i sl H' => ∃ v, sl = [some (.ref a), some (.int n), some (.int (p.1 ^ i)), some (.int (p.2 ^ i)), v] ∧ H' = H) ⟨none, (by rw [Int.pow_zero, Int.pow_zero] <;> rfl), rfl⟩ ?_ ?_⟩
    · rintro i sl H' hi ⟨v, rfl, rfl⟩
      have hm : m * i ≤ m * n.toNat := Nat.mul_le_mul_left m (by omega)
      have hm1 : m * 1 ≤ m * n.toNat := Nat.mul_le_mul_left m (by omega)
      refine ⟨_, rfl, _, rfl, _, _, _, _, _, rfl, ha, T.cl, T.nT, rf_top _, _, _, rfl, rfl, (sp.t.pow i).w sp.t (by omega) m0 (by omega), _, rfl, _, rfl, _, _, _, _, _, rfl, ha, T.cl, T.nB, rf_bot _, _, _, rfl, rfl, (sp.b.pow i).w sp.b (by omega) m0 (by omega), some (.int (0 + (i : Int))), ?_, rfl⟩
      rw [Int.pow_succ, Int.pow_succ]
      rfl
    · rintro sl H' ⟨v, rfl, rfl⟩
      have pb : p.2 ^ n.toNat ≠ 0 := pos_ne (Int.pow_pos sp.pos)
      refine ⟨_, rfl, _, rfl, ?_⟩
      have e : lo (p.1 ^ n.toNat) (p.2 ^ n.toNat) = (p.1 ^ n.toNat, p.2 ^ n.toNat) := lo_self (Int.pow_pos sp.pos) (pow_cop n.toNat cop)
      refine rd_make pb ((sp.b.pow n.toNat).mono (by omega)) (fun x H' ex nx r => k x H' ex nx ?_)
      rw [e] at r
      exact r
theorem ok_pow (T : Txt K mg A) : FnOk P w K mg base (L2.CX P w) 4 A.f_pow A.d_pow ["self", "other"] (spRaised A) := by
  refine T.F_pow.okX sc_pow (fun vs H Q E h => ?_) (fun cdv Ar outer s H vs Q E hr h => ?_)
  · obtain ⟨a, p, n, rfl, _⟩ := h
    rfl
  · obtain ⟨a, p, n, rfl, ⟨dx, ha⟩, k0, k1⟩ := h
    refine ⟨_, (pss_one (ps_ret (pe_meth (pv 0) T.cl T.m_raised (ok_raised T) (hr.mono (by decide)) T.b_raised .nil (passes_call (E := E) (takes_of (E := E) rfl rfl rfl rfl) (fun _ _ _ _ h => h)) (pa_cons (pv 1) pa_nil)))), ?_⟩
    refine ⟨_, rfl, a, dx, _, rfl, ha, rf_no _ (by decide +kernel) (by decide +kernel), _, rfl, ?_⟩
    exact ⟨a, p, n, rfl, ⟨dx, ha⟩, k0, k1⟩
end
end Fc
set_option Elab.async false
set_option linter.all false
set_option maxRecDepth 100000
set_option maxHeartbeats 4000000
set_option exponentiation.threshold 100000
namespace Fc
open PySem PySem.Spec PyProof.Rows L2
/-- the pot: a list of the cells, the place, and what is left of the cell -/
def PotAt (H : Hp) (p : Addr) : Prop := ∃ (l : Addr) (cs : List Int) (i c : Int), p ≠ l ∧ H p = some (.lst [.ref l, .int i, .int c]) ∧ H l = some (.lst (cs.map V.int)) ∧
  cs.length ≤ 63 ∧ 0 ≤ i ∧ 0 ≤ c ∧ ∀ z ∈ cs, 0 ≤ z
theorem PotAt.ex {H H' : Hp} {p : Addr} (h : PotAt H p) (e : Ex H H') : PotAt H' p := by
  obtain ⟨l, cs, i, c, ne, h1, h2, r⟩ := h
  exact ⟨l, cs, i, c, ne, e _ _ h1, e _ _ h2, r⟩
theorem PotAt.ne {H : Hp} {p t : Addr} (h : PotAt H p) (n : H t = none) : t ≠ p := fun e => by
  obtain ⟨l, cs, i, c, ne, h1, h2, r⟩ := h
  rw [e, h1] at n
  cases n
theorem Keep.free {p t : Addr} {H H' : Hp} (k : Keep p H H') (h : PotAt H' p) (n : H' t = none) : H t = none := by
  cases q : H t with
  | none => rfl
  | some o =>
    rw [k t o q (h.ne n)] at n
    cases n
theorem Pr.ne {H : Hp} {p t : Addr} {q : Int × Int} (r : Pr H t q) (h : PotAt H p) : t ≠ p := by
  obtain ⟨l, cs, i, c, ne, h1, h2, _⟩ := h
  exact ne_of r h1 (by intro z; cases z)
theorem Pr.keep {H H' : Hp} {p t : Addr} {q : Int × Int} (r : Pr H t q) (h : PotAt H p) (k : Keep p H H') : Pr H' t q := k t _ r (r.ne h)
theorem sz3 : 3 ≤ sizeLine := by rw [sizeLine_eq]; decide
theorem sz2 : 2 ≤ sizeLine := by rw [sizeLine_eq]; decide
section
variable {P : Program} {w : World} {K : PySem.W.Frag} {mg : Str → Option Value} {base : Heap} {A : Ad}
def spStart (K : PySem.W.Frag) : Sp := fun vs H Q _ => ∃ (a : Addr) (ns : List Int), vs = [.ref a] ∧ SqL K H a (ns.map V.int) ∧ ns.length ≤ 63 ∧
  ∀ p H', PotAt H' p → Ex H H' → H p = none → Q (.ref p) H'
theorem ok_start (T : Txt K mg A) : FnOk P w K mg base CX0 1 A.f_start A.d_start ["script"] (spStart K) := by
  refine T.F_start.ok sc_start (fun vs H Q E h => ?_) (fun cdv Ar outer s H vs Q E hr h => ?_)
  · obtain ⟨a, ns, rfl, _⟩ := h
    rfl
  · obtain ⟨a, ns, rfl, hS, hl, k⟩ := h
    refine ⟨_, (pss_one (ps_ret (pe_lst (pa_cons (pe_lc (own := [("cell", 1)]) (g := gName 1) (tt := tYes) rfl sc_start.nd (pi_list (pe_slice sl_list (pv 0) po_none (po_some pe_int))) (blkOk_by (own := [("cell", 1)]) (N := N_start) (sc := defScope S_start) (by decide +kernel)) (fun _ _ _ _ _ => pg_name (i := 1) sc_start.nd rfl (Or.inl rfl)) (fun _ _ _ _ _ => pts_nil) (fun _ _ _ _ _ => (pe_callB call_abs (by rfl) T.n_abs (by decide +kernel) (pa_cons (pv 1) pa_nil)))) (pa_cons pe_int (pa_cons pe_int pa_nil)))))), ?_⟩
    obtain ⟨ms, hms, hml⟩ : ∃ ms : List Int, cutV (ns.map V.int) none (some 63) = ms.map V.int ∧ ms.length ≤ 63 := by
      refine ⟨(ns.drop (HT.sIx (ns.map V.int).length 0 none)).take (HT.sIx (ns.map V.int).length (ns.map V.int).length (some 63) - HT.sIx (ns.map V.int).length 0 none), ?_, ?_⟩
      · unfold cutV
        rw [List.map_take, List.map_drop]
      · rw [List.length_take, List.length_drop]
        omega
    refine ⟨_, rfl, _, rfl, a, _, rfl, hS, fun p hp => ⟨p, rfl, ⟨_, SqL.of upd_same⟩, fun D hD => ?_⟩⟩
    rw [hms]
    have hpD : p ≠ D := fun e => by rw [← e, hms, upd_same] at hD; cases hD
    have hD0 : H D = none := by rw [hms, upd_ne hpD.symm] at hD; exact hD
    refine lc_list (K := K) (a := p) (xs := ms.map V.int) (fun i H' => (∃ cs : List Int, H' D = some (.lst (cs.map V.int)) ∧ cs.length = i ∧ (∀ z ∈ cs, 0 ≤ z)) ∧ H' p = some (.lst (ms.map V.int)) ∧ Ex H H')
      ⟨⟨[], upd_same, rfl, fun z hz => by cases hz⟩, ?_, ?_⟩ (fun i H' _ h => SqL.of h.2.1) ?_ ?_
    · rw [upd_ne hpD, upd_same]
    · exact fun c o e => by rw [upd_ne (ne_of_none e hD0), upd_ne (ne_of_none e hp)]; exact e
    · rintro i x H' hx ⟨⟨cs, hcs, hci, hc0⟩, hp', ex⟩
      obtain ⟨z, hz, rfl⟩ : ∃ z, ms[i]? = some z ∧ x = V.int z := by
        rw [List.getElem?_map] at hx
        cases e : ms[i]? with
        | none => rw [e] at hx; cases hx
        | some z => rw [e] at hx; exact ⟨z, rfl, (Option.some.inj hx).symm⟩
      have hi : i < ms.length := (List.getElem?_eq_some_iff.mp hz).1
      refine ⟨rfl, _, rfl, z, rfl, _, hcs, ?_, ⟨⟨cs ++ [if z < 0 then -z else z], ?_, ?_, ?_⟩, ?_, ?_⟩⟩
      · rw [List.length_map, hci, sizeLine_eq]; omega
      · rw [upd_same, List.map_append]; rfl
      · rw [List.length_append, hci]; rfl
      · intro y hy
        rcases List.mem_append.mp hy with h | h
        · exact hc0 y h
        · have : y = if z < 0 then -z else z := by simpa using h
          rw [this]
          split <;> omega
      · rw [upd_ne hpD]; exact hp'
      · exact fun c o e => by rw [upd_ne (ne_of_none e hD0)]; exact ex c o e
    · rintro H' ⟨⟨cs, hcs, hci, hc0⟩, hp', ex⟩
      refine ⟨(by show 3 ≤ sizeLine; exact sz3), fun q hq => ?_⟩
      have nqD : D ≠ q := ne_of_none hcs hq
      refine k q _ ⟨D, cs, 0, 0, nqD.symm, upd_same, by rw [upd_ne nqD]; exact hcs, ?_, by decide, by decide, hc0⟩ (ex.to hq) (ex.free hq)
      rw [List.length_map] at hci
      omega
/-- a digit of the pot: all that is said of it is that it is below many -/
def spDigit : Sp := fun vs H Q _ => ∃ (p : Addr) (m : Int), vs = [.ref p, .int m] ∧ PotAt H p ∧ 0 < m ∧ Bd 300 m ∧
  ∀ d H', 0 ≤ d → d < m → PotAt H' p → Keep p H H' → Q (.int d) H'
theorem ok_digit (T : Txt K mg A) : FnOk P w K mg base CX0 1 A.f_digit A.d_digit ["pot", "many"] spDigit := by
  refine T.F_digit.ok sc_digit (fun vs H Q E h => ?_) (fun cdv Ar outer s H vs Q E hr h => ?_)
  · obtain ⟨p, m, rfl, _⟩ := h
    rfl
  · obtain ⟨p, m, rfl, pot, m0, bm, k⟩ := h
    refine ⟨_, (C8.pss_cut (ps_if (PW.pt (pw_and (pt_cmpR op_eq (pe_ix ix_list (pv 0) pe_int (fun _ _ => rfl)) pe_int (nomark _)) (pw_and1 (pt_cmpR op_lt (pe_ix ix_list (pv 0) pe_int (fun _ _ => rfl)) (pe_callB call_len (by rfl) T.n_len PySem.boot_len (pa_cons (pe_ix ix_list (pv 0) pe_int (fun _ _ => rfl)) pa_nil)) (nomark _)))))
      (pss_cons (ps_asg (pe_ix ix_list (pe_ix ix_list (pv 0) pe_int (fun _ _ => rfl)) (pe_ix ix_list (pv 0) pe_int (fun _ _ => rfl)) (fun _ _ => rfl)) (pg_sub (pv 0) pe_int set_list))
      (pss_one (ps_asg (pe_op op_add (pe_ix ix_list (pv 0) pe_int (fun _ _ => rfl)) pe_int) (pg_sub (pv 0) pe_int set_list)))) pss_nil)
      (pss_cons (ps_set (i := 2) sc_digit.nd rfl (Or.inl rfl) (pe_op op_mod (pe_callTy call_int1 (by rfl) T.n_int (by decide +kernel) (pa_cons (pe_ix ix_list (pv 0) pe_int (fun _ _ => rfl)) pa_nil)) (pv 1)))
      (pss_cons (ps_asg (pe_op op_fdivW (pe_ix ix_list (pv 0) pe_int (fun _ _ => rfl)) (pv 1)) (pg_sub (pv 0) pe_int set_list))
      (pss_one (ps_ret (pv 2)))))), ?_⟩
    obtain ⟨l, cs, i, c, ne, h1, h2, hl, i0, c0, hc⟩ := id pot
    refine ⟨fun sl H' => sl = [some (.ref p), some (.int m), none] ∧ PotAt H' p ∧ Keep p H H', ?_, ?_⟩
    · refine ⟨_, rfl, _, _, _, _, rfl, rfl, SqL.of h1, rfl, rfl, _, rfl, ?_⟩
      refine ite2 (fun z => ?_) (fun z => iteF ⟨rfl, pot, Keep.refl⟩)
      refine ⟨_, rfl, _, _, _, _, rfl, rfl, SqL.of h1, rfl, _, rfl, _, _, _, _, rfl, rfl, SqL.of h1, rfl, _, _, rfl, .inl ⟨_, SqL.of h2, rfl⟩, _, _, rfl, rfl, _, rfl, ?_⟩
      refine ite2 (fun z2 => ?_) (fun z2 => ⟨rfl, pot, Keep.refl⟩)
      have hi : i < cs.length := by have := of_decide_eq_true z2; rw [List.length_map] at this; exact this
      obtain ⟨j, rfl⟩ : ∃ j : Nat, i = (j : Int) := ⟨i.toNat, by omega⟩
      have hj : j < cs.length := by omega
      have at_ : (cs.map V.int)[j]? = some (.int cs[j]) := by rw [List.getElem?_map, List.getElem?_eq_getElem hj]; rfl
      refine ⟨_, rfl, _, _, _, _, rfl, rfl, SqL.of h1, rfl, _, rfl, _, _, _, _, rfl, rfl, SqL.of h1, rfl, _, _, _, _, rfl, rfl, SqL.of h2, atI_nat at_, _, rfl, p, _, 2, 2, rfl, rfl, h1, rfl, ?_⟩
      refine ⟨_, rfl, _, _, _, _, rfl, rfl, SqL.of upd_same, rfl, _, _, rfl, rfl, _, rfl, p, _, 1, 1, rfl, rfl, upd_same, rfl, rfl, ?_, ?_⟩
      · refine ⟨l, cs, (j : Int) + 1, cs[j], ne, upd_same, ?_, hl, by omega, hc _ (List.getElem_mem hj), hc⟩
        rw [upd_ne ne.symm, upd_ne ne.symm]; exact h2
      · exact Keep.upd.trans Keep.upd
    · rintro sl H' ⟨rfl, pot', kp⟩
      obtain ⟨l, cs, i, c, ne, h1, h2, hl, i0, c0, hc⟩ := id pot'
      refine ⟨_, rfl, _, _, _, _, rfl, rfl, SqL.of h1, rfl, .inl ⟨_, rfl, _, rfl, _, _, rfl, rfl, m0, ?_⟩⟩
      refine ⟨_, rfl, _, _, _, _, rfl, rfl, SqL.of h1, rfl, _, rfl, _, _, rfl, rfl, bm.div m0, _, rfl, p, _, 2, 2, rfl, rfl, h1, rfl, _, rfl, ?_⟩
      refine k _ _ (Int.emod_nonneg _ (by omega)) (Int.emod_lt_of_pos _ m0) ⟨l, cs, i, c / m, ne, upd_same, ?_, hl, i0, Int.ediv_nonneg c0 (by omega), hc⟩ (kp.trans Keep.upd)
      rw [upd_ne ne.symm]; exact h2
/-- a drawn fraction -/
def spFraction : Sp := fun vs H Q _ => ∃ (p : Addr), vs = [.ref p] ∧ PotAt H p ∧ ∀ t q H', Pr H' t q → H t = none → Sm 220 q → PotAt H' p → Keep p H H' → Q (.ref t) H'
theorem bd_ten : Bd 210 ((10 : Int) ^ (60 : Int).toNat) := by show ((10 : Int) ^ 60).natAbs < 2 ^ 210; decide +kernel
theorem ten_pos : (0 : Int) < (10 : Int) ^ (60 : Int).toNat := by decide +kernel
theorem bd_twel : Bd 60 ((10 : Int) ^ (12 : Int).toNat) := by show ((10 : Int) ^ 12).natAbs < 2 ^ 60; decide +kernel
theorem twel_pos : (0 : Int) < (10 : Int) ^ (12 : Int).toNat := by decide +kernel
theorem bd_two : Bd 2 (2 : Int) := by show (2 : Int).natAbs < 2 ^ 2; decide
theorem bd_of {n : Nat} {i : Int} (h : i.natAbs < 2 ^ n) : Bd n i := h
theorem bd_le {n : Nat} {i j : Int} (h : Bd n j) (a : -j ≤ i) (b : i ≤ j) : Bd n i := by
  unfold Bd at *
  omega
theorem cpow (i : Int) (j : Nat) (h : i.natAbs < 2 ^ 64) (l : j ≤ 1000000) : CPow i (j : Int) := ⟨by omega, by omega, h⟩
theorem ok_fraction (T : Txt K mg A) : FnOk P w K mg base CX0 2 A.f_fraction A.d_fraction ["pot"] spFraction := by
  refine T.F_fraction.ok sc_fraction (fun vs H Q E h => ?_) (fun cdv Ar outer s H vs Q E hr h => ?_)
  · obtain ⟨p, rfl, _⟩ := h
    rfl
  · obtain ⟨p, rfl, pot, k⟩ := h
    refine ⟨_, (pss_cons (ps_set (i := 1) sc_fraction.nd rfl (Or.inl rfl) (pe_call (ok_digit T) (hr.mono (by decide)) rfl T.g_digit T.F_digit.kp T.b_digit .nil pass0 (pa_cons (pv 0) (pa_cons pe_int pa_nil))))
      (pss_cons (ps_if (pt_cmpR op_eq (pv 1) pe_int (nomark _))
      (pss_one (ps_ret (pe_tup (pa_cons pe_int (pa_cons (pe_op op_add pe_int (pe_call (ok_digit T) (hr.mono (by decide)) rfl T.g_digit T.F_digit.kp T.b_digit .nil pass0 (pa_cons (pv 0) (pa_cons pe_int pa_nil)))) pa_nil))))) pss_nil)
      (pss_cons (ps_if (pt_cmpR op_eq (pv 1) pe_int (nomark _))
      (pss_cons (ps_set (i := 2) sc_fraction.nd rfl (Or.inl rfl) (pe_op op_sub (pe_call (ok_digit T) (hr.mono (by decide)) rfl T.g_digit T.F_digit.kp T.b_digit .nil pass0 (pa_cons (pv 0) (pa_cons (pe_op op_add (pe_op op_mulW pe_int (pe_op op_pow pe_int pe_int)) pe_int) pa_nil))) (pe_op op_pow pe_int pe_int)))
      (pss_one (ps_ret (pe_tup (pa_cons (pv 2) (pa_cons (pe_op op_add pe_int (pe_call (ok_digit T) (hr.mono (by decide)) rfl T.g_digit T.F_digit.kp T.b_digit .nil pass0 (pa_cons (pv 0) (pa_cons (pe_op op_pow pe_int pe_int) pa_nil)))) pa_nil)))))) pss_nil)
      (pss_cons (ps_if (pt_cmpR op_eq (pv 1) pe_int (nomark _))
      (pss_cons (ps_set (i := 2) sc_fraction.nd rfl (Or.inl rfl) (pe_op op_sub (pe_call (ok_digit T) (hr.mono (by decide)) rfl T.g_digit T.F_digit.kp T.b_digit .nil pass0 (pa_cons (pv 0) (pa_cons (pe_op op_add (pe_op op_mulW pe_int (pe_op op_pow pe_int pe_int)) pe_int) pa_nil))) (pe_op op_pow pe_int pe_int)))
      (pss_one (ps_ret (pe_tup (pa_cons (pv 2) (pa_cons (pe_op op_add pe_int (pe_call (ok_digit T) (hr.mono (by decide)) rfl T.g_digit T.F_digit.kp T.b_digit .nil pass0 (pa_cons (pv 0) (pa_cons (pe_op op_pow pe_int pe_int) pa_nil)))) pa_nil)))))) pss_nil)
      (pss_cons (ps_if (pt_cmpR op_eq (pv 1) pe_int (nomark _))
      (pss_cons (ps_set (i := 2) sc_fraction.nd rfl (Or.inl rfl) (pe_op op_sub (pe_call (ok_digit T) (hr.mono (by decide)) rfl T.g_digit T.F_digit.kp T.b_digit .nil pass0 (pa_cons (pv 0) (pa_cons pe_int pa_nil))) pe_int))
      (pss_one (ps_ret (pe_tup (pa_cons (pv 2) (pa_cons (pe_op op_add pe_int (pe_call (ok_digit T) (hr.mono (by decide)) rfl T.g_digit T.F_digit.kp T.b_digit .nil pass0 (pa_cons (pv 0) (pa_cons pe_int pa_nil)))) pa_nil)))))) pss_nil)
      (pss_cons (ps_set (i := 2) sc_fraction.nd rfl (Or.inl rfl) (pe_op op_sub pe_int (pe_call (ok_digit T) (hr.mono (by decide)) rfl T.g_digit T.F_digit.kp T.b_digit .nil pass0 (pa_cons (pv 0) (pa_cons pe_int pa_nil)))))
      (pss_one (ps_ret (pe_tup (pa_cons (pv 2) (pa_cons (pe_op op_sub pe_int (pe_call (ok_digit T) (hr.mono (by decide)) rfl T.g_digit T.F_digit.kp T.b_digit .nil pass0 (pa_cons (pv 0) (pa_cons pe_int pa_nil)))) pa_nil))))))))))), ?_⟩
    -- a tuple is made behind the digits
    have fin : ∀ (q : Int × Int) (H' : Hp), Sm 220 q → PotAt H' p → Keep p H H' → ∀ t, H' t = none → Q (.ref t) (upd H' t (.tup [.int q.1, .int q.2])) := fun q H' sq pt kp t ht =>
      k t q _ upd_same (kp.free pt ht) sq (pt.ex (Ex.new ht)) (kp.trans (Keep.new ht))
    refine ⟨_, rfl, p, 8, rfl, pot, by decide, bd_of (by decide), fun d0 H0 a0 b0 pot0 k0 => ?_⟩
    refine ⟨_, rfl, rfl, _, rfl, ite2 (fun _ => ?_) (fun _ => ?_)⟩
    · refine ⟨_, rfl, p, 12, rfl, pot0, by decide, bd_of (by decide), fun d H1 a b pt k1 => ?_⟩
      refine ⟨_, _, rfl, rfl, (by show 2 ≤ sizeLine; exact sz2), fun t ht => ?_⟩
      exact fin (0, 1 + d) H1 ⟨(bd_of (by decide) : Bd 220 (0 : Int)), (bd_le (j := 12) (bd_of (by decide)) (by omega) (by omega) : Bd 220 (1 + d)), by show 0 < 1 + d; omega⟩ pt (k0.trans k1) t ht
    refine ⟨_, rfl, rfl, _, rfl, ite2 (fun _ => ?_) (fun _ => ?_)⟩
    · have e2 : Bd 212 (2 * (10 : Int) ^ (60 : Int).toNat) := bd_two.mul bd_ten
      refine ⟨_, rfl, _, _, rfl, rfl, cpow 10 60 (by decide) (by decide), _, _, rfl, rfl, bd_two.w bd_ten, _, _, rfl, rfl, p, _, rfl, pot0, ?_, ?_, fun d H1 a b pt k1 => ?_⟩
      · have := ten_pos; show 0 < 2 * (10 : Int) ^ (60 : Int).toNat + 1; omega
      · exact (e2.add (show Bd 212 (1 : Int) from bd_of (by decide +kernel))).mono (by decide)
      have b' : d < 2 * (10 : Int) ^ (60 : Int).toNat + 1 := b
      refine ⟨_, _, rfl, rfl, cpow 10 60 (by decide) (by decide), _, _, rfl, rfl, _, rfl, _, rfl, _, _, rfl, rfl, cpow 10 60 (by decide) (by decide), p, _, rfl, pt, ten_pos, bd_ten.mono (by decide), fun d2 H2 a2 b2 pt2 k2 => ?_⟩
      have b2' : d2 < (10 : Int) ^ (60 : Int).toNat := b2
      refine ⟨_, _, rfl, rfl, (by show 2 ≤ sizeLine; exact sz2), fun t ht => ?_⟩
      exact fin (d - (10 : Int) ^ (60 : Int).toNat, 1 + d2) H2 ⟨(bd_le bd_ten (by omega) (by omega) : Bd 210 (d - (10 : Int) ^ (60 : Int).toNat)).mono (by decide), (bd_le bd_ten (by omega) (by omega) : Bd 210 (1 + d2)).mono (by decide), by show 0 < 1 + d2; omega⟩ pt2 ((k0.trans k1).trans k2) t ht
    refine ⟨_, rfl, rfl, _, rfl, ite2 (fun _ => ?_) (fun _ => ?_)⟩
    · have e2 : Bd 62 (2 * (10 : Int) ^ (12 : Int).toNat) := bd_two.mul bd_twel
      refine ⟨_, rfl, _, _, rfl, rfl, cpow 10 12 (by decide) (by decide), _, _, rfl, rfl, bd_two.w bd_twel, _, _, rfl, rfl, p, _, rfl, pot0, ?_, ?_, fun d H1 a b pt k1 => ?_⟩
      · have := twel_pos; show 0 < 2 * (10 : Int) ^ (12 : Int).toNat + 1; omega
      · exact (e2.add (show Bd 62 (1 : Int) from bd_of (by decide +kernel))).mono (by decide)
      have b' : d < 2 * (10 : Int) ^ (12 : Int).toNat + 1 := b
      refine ⟨_, _, rfl, rfl, cpow 10 12 (by decide) (by decide), _, _, rfl, rfl, _, rfl, _, rfl, _, _, rfl, rfl, cpow 10 12 (by decide) (by decide), p, _, rfl, pt, twel_pos, bd_twel.mono (by decide), fun d2 H2 a2 b2 pt2 k2 => ?_⟩
      have b2' : d2 < (10 : Int) ^ (12 : Int).toNat := b2
      refine ⟨_, _, rfl, rfl, (by show 2 ≤ sizeLine; exact sz2), fun t ht => ?_⟩
      exact fin (d - (10 : Int) ^ (12 : Int).toNat, 1 + d2) H2 ⟨(bd_le bd_twel (by omega) (by omega) : Bd 60 (d - (10 : Int) ^ (12 : Int).toNat)).mono (by decide), (bd_le bd_twel (by omega) (by omega) : Bd 60 (1 + d2)).mono (by decide), by show 0 < 1 + d2; omega⟩ pt2 ((k0.trans k1).trans k2) t ht
    refine ⟨_, rfl, rfl, _, rfl, ite2 (fun _ => ?_) (fun _ => ?_)⟩
    · refine ⟨_, rfl, p, 2001, rfl, pot0, by decide, bd_of (by decide), fun d H1 a b pt k1 => ?_⟩
      refine ⟨_, _, rfl, rfl, _, rfl, _, rfl, p, 1000, rfl, pt, by decide, bd_of (by decide), fun d2 H2 a2 b2 pt2 k2 => ?_⟩
      refine ⟨_, _, rfl, rfl, (by show 2 ≤ sizeLine; exact sz2), fun t ht => ?_⟩
      exact fin (d - 1000, 1 + d2) H2 ⟨(bd_le (j := 2001) (bd_of (by decide)) (by omega) (by omega) : Bd 220 (d - 1000)), (bd_le (j := 2001) (bd_of (by decide)) (by omega) (by omega) : Bd 220 (1 + d2)), by show 0 < 1 + d2; omega⟩ pt2 ((k0.trans k1).trans k2) t ht
    · refine ⟨_, rfl, p, 13, rfl, pot0, by decide, bd_of (by decide), fun d H1 a b pt k1 => ?_⟩
      refine ⟨_, _, rfl, rfl, _, rfl, _, rfl, p, 7, rfl, pt, by decide, bd_of (by decide), fun d2 H2 a2 b2 pt2 k2 => ?_⟩
      refine ⟨_, _, rfl, rfl, (by show 2 ≤ sizeLine; exact sz2), fun t ht => ?_⟩
      exact fin (6 - d, 7 - d2) H2 ⟨(bd_le (j := 2001) (bd_of (by decide)) (by omega) (by omega) : Bd 220 (6 - d)), (bd_le (j := 2001) (bd_of (by decide)) (by omega) (by omega) : Bd 220 (7 - d2)), by show 0 < 7 - d2; omega⟩ pt2 ((k0.trans k1).trans k2) t ht
end
end Fc
set_option Elab.async false
set_option linter.all false
set_option maxRecDepth 100000
set_option maxHeartbeats 4000000
set_option exponentiation.threshold 100000
namespace Fc
open PySem PySem.Spec PyProof.Rows L2
section
variable {P : Program} {w : World} {K : PySem.W.Frag} {mg : Str → Option Value} {base : Heap} {A : Ad}
def spHanded : Sp := fun vs H Q _ => ∃ (p t : Addr) (q : Int × Int), vs = [.ref p, .ref t] ∧ PotAt H p ∧ Pr H t q ∧ Sm 220 q ∧
  ∀ u k H', k ≠ 0 → Bd 3 k → Pr H' u (q.1 * k, q.2 * k) → H u = none → PotAt H' p → Keep p H H' → Q (.ref u) H'
theorem ok_handed (T : Txt K mg A) : FnOk P w K mg base CX0 2 A.f_handed A.d_handed ["pot", "pair"] spHanded := by
  refine T.F_handed.ok sc_handed (fun vs H Q E h => ?_) (fun cdv Ar outer s H vs Q E hr h => ?_)
  · obtain ⟨p, t, q, rfl, _⟩ := h
    rfl
  · obtain ⟨p, t, q, rfl, pot, ht, sq, k⟩ := h
    refine ⟨_, (pss_cons (ps_set (i := 2) sc_handed.nd rfl (Or.inl rfl) (pe_op op_add pe_int (pe_call (ok_digit T) (hr.mono (by decide)) rfl T.g_digit T.F_digit.kp T.b_digit .nil pass0 (pa_cons (pv 0) (pa_cons pe_int pa_nil)))))
      (C8.pss_cut (ps_if (pt_cmpR op_eq (pe_call (ok_digit T) (hr.mono (by decide)) rfl T.g_digit T.F_digit.kp T.b_digit .nil pass0 (pa_cons (pv 0) (pa_cons pe_int pa_nil))) pe_int (nomark _))
      (pss_one (ps_set (i := 2) sc_handed.nd rfl (Or.inl rfl) (pe_un un_neg (pv 2)))) pss_nil)
      (pss_one (ps_ret (pe_tup (pa_cons (pe_op op_mulW (pe_ix ix_tup (pv 1) pe_int (fun _ _ => rfl)) (pv 2)) (pa_cons (pe_op op_mulW (pe_ix ix_tup (pv 1) pe_int (fun _ _ => rfl)) (pv 2)) pa_nil))))))), ?_⟩
    refine ⟨_, rfl, p, 6, rfl, pot, by decide, bd_of (by decide), fun d0 H0 a0 b0 pot0 k0 => ?_⟩
    refine ⟨_, _, rfl, rfl, fun sl H' => ∃ m : Int, sl = [some (.ref p), some (.ref t), some (.int m)] ∧ m ≠ 0 ∧ Bd 3 m ∧ PotAt H' p ∧ Keep p H H', ?_, ?_⟩
    · refine ⟨_, rfl, p, 2, rfl, pot0, by decide, bd_of (by decide), fun d1 H1 a1 b1 pot1 k1 => ?_⟩
      refine ⟨rfl, _, rfl, ite2 (fun _ => ?_) (fun _ => ?_)⟩
      · refine ⟨_, rfl, _, rfl, ⟨-(1 + d0), rfl, by omega, ?_, pot1, k0.trans k1⟩⟩
        show (-(1 + d0)).natAbs < 2 ^ 3
        omega
      · refine ⟨1 + d0, rfl, by omega, ?_, pot1, k0.trans k1⟩
        show (1 + d0).natAbs < 2 ^ 3
        omega
    · rintro sl H' ⟨m, rfl, m0, bm, pt, kp⟩
      have hp : Pr H' t q := ht.keep pot kp
      refine ⟨_, rfl, _, _, _, _, rfl, rfl, SqT.of hp, rfl, _, rfl, _, _, rfl, rfl, sq.t.w bm, _, rfl, _, _, _, _, rfl, rfl, SqT.of hp, rfl, _, rfl, _, _, rfl, rfl, sq.b.w bm, (by show 2 ≤ sizeLine; exact sz2), fun u hu => ?_⟩
      exact k u m _ m0 bm upd_same (kp.free pt hu) (pt.ex (Ex.new hu)) (kp.trans (Keep.new hu))
/-! ### lowest terms as the law reckons them -/
def spLowest : Sp := fun vs H Q _ => ∃ (t b : Int), vs = [.int t, .int b] ∧ b ≠ 0 ∧ Bd 750 b ∧ ∀ u H', Pr H' u (lo t b) → Ex H H' → H u = none → Q (.ref u) H'
theorem ok_lowest (T : Txt K mg A) : FnOk P w K mg base CX0 1 A.f_lowest A.d_lowest ["top", "bottom"] spLowest := by
  refine T.F_lowest.ok sc_lowest (fun vs H Q E h => ?_) (fun cdv Ar outer s H vs Q E hr h => ?_)
  · obtain ⟨t, b, rfl, _⟩ := h
    rfl
  · obtain ⟨t, b, rfl, b0, bb, k⟩ := h
    refine ⟨_, (C8.pss_cut (ps_if (pt_cmpR op_lt (pv 1) pe_int (nomark _))
      (pss_cons (ps_set (i := 0) sc_lowest.nd rfl (Or.inl rfl) (pe_un un_neg (pv 0)))
      (pss_one (ps_set (i := 1) sc_lowest.nd rfl (Or.inl rfl) (pe_un un_neg (pv 1))))) pss_nil)
      (pss_cons (ps_set (i := 2) sc_lowest.nd rfl (Or.inl rfl) (pe_callB call_abs (by rfl) T.n_abs (by decide +kernel) (pa_cons (pv 0) pa_nil)))
      (pss_cons (ps_set (i := 3) sc_lowest.nd rfl (Or.inl rfl) (pv 1))
      (pss_cons (ps_for PassesOwn.never rfl (pi_range1 rfl T.n_range (pa_cons pe_int pa_nil)) (pg_name (i := 4) sc_lowest.nd rfl (Or.inl rfl))
      (pss_cons (ps_if (pt_cmpR op_eq (pv 3) pe_int (nomark _))
      (pss_one ps_break) pss_nil)
      (pss_cons (ps_set (i := 5) sc_lowest.nd rfl (Or.inl rfl) (pe_op op_mod (pe_callTy call_int1 (by rfl) T.n_int (by decide +kernel) (pa_cons (pv 2) pa_nil)) (pv 3)))
      (pss_cons (ps_set (i := 2) sc_lowest.nd rfl (Or.inl rfl) (pv 3))
      (pss_one (ps_set (i := 3) sc_lowest.nd rfl (Or.inl rfl) (pv 5)))))))
      (pss_one (ps_ret (pe_tup (pa_cons (pe_op op_fdivW (pv 0) (pv 2)) (pa_cons (pe_op op_fdivW (pv 1) (pv 2)) pa_nil))))))))), ?_⟩
    refine ⟨fun sl H' => ∃ t' b' : Int, sl = [some (.int t'), some (.int b'), none, none, none, none] ∧ H' = H ∧ 0 < b' ∧ Bd 750 b' ∧ (t' / (Int.gcd t' b' : Int), b' / (Int.gcd t' b' : Int)) = lo t b, ?_, ?_⟩
    · refine ⟨_, rfl, _, _, rfl, rfl, _, rfl, ite2 (fun c => ?_) (fun c => ?_)⟩
      · have c' : b < 0 := of_decide_eq_true c
        refine ⟨_, rfl, _, rfl, _, rfl, _, rfl, ⟨-t, -b, rfl, rfl, by omega, bb.neg, ?_⟩⟩
        unfold lo
        rw [if_pos c', Int.neg_gcd, Int.gcd_neg]
      · have c' : ¬ b < 0 := fun z => c (decide_eq_true z)
        refine ⟨t, b, rfl, rfl, by omega, bb, ?_⟩
        unfold lo
        rw [if_neg c']
    · rintro sl H' ⟨t', b', rfl, rfl, p, bp, e⟩
      have eg : Int.gcd t' b' = Nat.gcd (if t' < 0 then -t' else t').toNat b'.toNat := by
        show Nat.gcd t'.natAbs b'.natAbs = _
        congr 1
        · split <;> omega
        · omega
      have gp : 0 < Int.gcd t' b' := Int.gcd_pos_of_ne_zero_right t' (by omega)
      have bg : Bd 750 (Int.gcd t' b' : Int) := by
        refine bp.abs ?_
        have := Nat.le_of_dvd (by omega : 0 < b'.natAbs) (Nat.gcd_dvd_right t'.natAbs b'.natAbs)
        show ((Nat.gcd t'.natAbs b'.natAbs : Nat) : Int).natAbs ≤ _
        omega
      have fin : ∀ (D : Ends) (y : Int) (v1 v2 : Option V), D.rt = Q → tRet (tTup (tCons (tOp (rI CDivW fun i j => .int (i / j)) (tVar 0) (tVar 2)) (tCons (tOp (rI CDivW fun i j => .int (i / j)) (tVar 1) (tVar 2)) tNil))) D
          [some (.int t'), some (.int b'), some (.int (Int.gcd t' b' : Int)), some (.int y), v1, v2] H' := by
        intro D y v1 v2 hD
        refine ⟨_, rfl, _, rfl, _, _, rfl, rfl, bg.div (by omega), _, rfl, _, rfl, _, _, rfl, rfl, bg.div (by omega), (by show 2 ≤ sizeLine; exact sz2), fun u hu => ?_⟩
        rw [hD]
        exact k u _ (by rw [← e]; exact upd_same) (Ex.new hu) hu
      refine ⟨_, rfl, _, rfl, _, rfl, 1500, rfl, by decide, by decide, for_range (lo := 0) (n := 1500) (fun i sl H2 => ∃ (x y : Nat) (v1 v2 : Option V), sl = [some (.int t'), some (.int b'), some (.int (x : Int)), some (.int (y : Int)), v1, v2] ∧ H2 = H' ∧ Eu (Int.gcd t' b') i x y) ?_ ?_ ?_⟩
      · refine ⟨(if t' < 0 then -t' else t').toNat, b'.toNat, none, none, ?_, rfl, ?_⟩
        · have e1 : (((if t' < 0 then -t' else t').toNat : Nat) : Int) = if t' < 0 then -t' else t' := by split <;> omega
          have e2 : ((b'.toNat : Nat) : Int) = b' := by omega
          rw [e1, e2]
          rfl
        · rw [eg]
          refine Eu.start ?_
          have : b'.natAbs < 2 ^ 750 := bp
          omega
      · rintro i sl H2 hi ⟨x, y, v1, v2, rfl, rfl, eu⟩
        refine ⟨_, rfl, rfl, _, rfl, ite2 (fun c => ?_) (fun c => ?_)⟩
        · have y0 : y = 0 := by have := V.int.inj (of_decide_eq_true c); omega
          subst y0
          have ex := eu.zero
          subst ex
          exact fin _ _ _ _ rfl
        · have y0 : y ≠ 0 := fun z => c (by rw [z] <;> rfl)
          refine ⟨_, rfl, .inl ⟨_, rfl, _, rfl, _, _, rfl, rfl, (by show (0 : Int) < (y : Int); omega), _, rfl, _, rfl, y, x % y, some (.int (0 + (i : Int))), some (.int ((x : Int) % (y : Int))), ?_, rfl, eu.turn y0 hi⟩⟩
          rw [Int.natCast_emod]
          rfl
      · rintro sl H2 ⟨x, y, v1, v2, rfl, rfl, eu⟩
        have y0 := eu.done
        subst y0
        have ex := eu.zero
        subst ex
        exact fin _ _ _ _ rfl
/-- two pairs in, the lowest terms of what is made of them out -/
def spTwo (G : Int × Int → Int × Int → Prop) (R : Int × Int → Int × Int → Int × Int) : Sp := fun vs H Q _ => ∃ (a b : Addr) (p q : Int × Int), vs = [.ref a, .ref b] ∧ Pr H a p ∧ Pr H b q ∧ G p q ∧
  ∀ u H', Pr H' u (R p q) → Ex H H' → H u = none → Q (.ref u) H'
/-- sizes for the law's own sums and products -/
structure Md (p q : Int × Int) : Prop where
  p1 : Bd 370 p.1
  p2 : Bd 370 p.2
  q1 : Bd 370 q.1
  q2 : Bd 370 q.2
  n : p.2 * q.2 ≠ 0
theorem ok_plus (T : Txt K mg A) : FnOk P w K mg base CX0 2 A.f_plus A.d_plus ["a", "b"] (spTwo Md rAdd) := by
  refine T.F_plus.ok sc_plus (fun vs H Q E h => ?_) (fun cdv Ar outer s H vs Q E hr h => ?_)
  · obtain ⟨a, b, p, q, rfl, _⟩ := h
    rfl
  · obtain ⟨a, b, p, q, rfl, ha, hb, g, k⟩ := h
    refine ⟨_, (pss_one (ps_ret (pe_call (ok_lowest T) (hr.mono (by decide)) rfl T.g_lowest T.F_lowest.kp T.b_lowest .nil pass0 (pa_cons (pe_op op_add (pe_op op_mulW (pe_ix ix_tup (pv 0) pe_int (fun _ _ => rfl)) (pe_ix ix_tup (pv 1) pe_int (fun _ _ => rfl))) (pe_op op_mulW (pe_ix ix_tup (pv 1) pe_int (fun _ _ => rfl)) (pe_ix ix_tup (pv 0) pe_int (fun _ _ => rfl)))) (pa_cons (pe_op op_mulW (pe_ix ix_tup (pv 0) pe_int (fun _ _ => rfl)) (pe_ix ix_tup (pv 1) pe_int (fun _ _ => rfl))) pa_nil))))), ?_⟩
    refine ⟨_, rfl, _, _, _, _, rfl, rfl, SqT.of ha, rfl, _, rfl, _, _, _, _, rfl, rfl, SqT.of hb, rfl, _, _, rfl, rfl, g.p1.w g.q2, _, rfl, _, _, _, _, rfl, rfl, SqT.of hb, rfl, _, rfl, _, _, _, _, rfl, rfl, SqT.of ha, rfl, _, _, rfl, rfl, g.q1.w g.p2, _, _, rfl, rfl,
      _, rfl, _, _, _, _, rfl, rfl, SqT.of ha, rfl, _, rfl, _, _, _, _, rfl, rfl, SqT.of hb, rfl, _, _, rfl, rfl, g.p2.w g.q2, _, _, rfl, g.n, (g.p2.mul g.q2).mono (by decide), k⟩
theorem ok_times (T : Txt K mg A) : FnOk P w K mg base CX0 2 A.f_times A.d_times ["a", "b"] (spTwo Md rMul) := by
  refine T.F_times.ok sc_times (fun vs H Q E h => ?_) (fun cdv Ar outer s H vs Q E hr h => ?_)
  · obtain ⟨a, b, p, q, rfl, _⟩ := h
    rfl
  · obtain ⟨a, b, p, q, rfl, ha, hb, g, k⟩ := h
    refine ⟨_, (pss_one (ps_ret (pe_call (ok_lowest T) (hr.mono (by decide)) rfl T.g_lowest T.F_lowest.kp T.b_lowest .nil pass0 (pa_cons (pe_op op_mulW (pe_ix ix_tup (pv 0) pe_int (fun _ _ => rfl)) (pe_ix ix_tup (pv 1) pe_int (fun _ _ => rfl))) (pa_cons (pe_op op_mulW (pe_ix ix_tup (pv 0) pe_int (fun _ _ => rfl)) (pe_ix ix_tup (pv 1) pe_int (fun _ _ => rfl))) pa_nil))))), ?_⟩
    refine ⟨_, rfl, _, _, _, _, rfl, rfl, SqT.of ha, rfl, _, rfl, _, _, _, _, rfl, rfl, SqT.of hb, rfl, _, _, rfl, rfl, g.p1.w g.q1, _, rfl, _, _, _, _, rfl, rfl, SqT.of ha, rfl, _, rfl, _, _, _, _, rfl, rfl, SqT.of hb, rfl, _, _, rfl, rfl, g.p2.w g.q2, _, _, rfl, g.n, (g.p2.mul g.q2).mono (by decide), k⟩
/-! ### a Ratio is the pair -/
def spIs (C : Addr) : Sp := fun vs H Q _ => ∃ (a t : Addr) (p : Int × Int), vs = [.ref a, .ref t] ∧ RatAt C H a p ∧ Pr H t p ∧ Q (.bl true) H
theorem kit_self {a : Addr} : PySem.W.kitOne K (.ref a) (.ref a) = some true := by
  unfold PySem.W.kitOne
  rw [if_pos (by simp)]
theorem ok_lis (T : Txt K mg A) : FnOk P w K mg base CX0 1 A.f_lis A.d_lis ["told", "pair"] (spIs A.C) := by
  refine T.F_lis.ok sc_lis (fun vs H Q E h => ?_) (fun cdv Ar outer s H vs Q E hr h => ?_)
  · obtain ⟨a, t, p, rfl, _⟩ := h
    rfl
  · obtain ⟨a, t, p, rfl, ⟨dx, ha⟩, ht, k⟩ := h
    refine ⟨_, (pss_cons (ps_if (pt_not (pt_val (pe_callB call_isi (by rfl) T.n_isinstance (by decide +kernel) (pa_cons (pv 0) (pa_cons (pe_glob (v := .ref A.C) rfl T.g_Ratio rfl) pa_nil)))))
      (pss_one (ps_ret pe_bl)) pss_nil)
      (pss_cons (ps_if (PW.pt (pw_or (pt_not (pt_val (pe_callB call_isi (by rfl) T.n_isinstance (by decide +kernel) (pa_cons (pe_fld (pv 0) rfl) (pa_cons (pe_bltn (v := .ty "int") rfl T.n_int (by decide +kernel) rfl) pa_nil))))) (pw_or1 (pt_val (pe_callB call_isi (by rfl) T.n_isinstance (by decide +kernel) (pa_cons (pe_fld (pv 0) rfl) (pa_cons (pe_bltn (v := .ty "bool") rfl T.n_bool (by decide +kernel) rfl) pa_nil)))))))
      (pss_one (ps_ret pe_bl)) pss_nil)
      (pss_cons (ps_if (PW.pt (pw_or (pt_not (pt_val (pe_callB call_isi (by rfl) T.n_isinstance (by decide +kernel) (pa_cons (pe_fld (pv 0) rfl) (pa_cons (pe_bltn (v := .ty "int") rfl T.n_int (by decide +kernel) rfl) pa_nil))))) (pw_or1 (pt_val (pe_callB call_isi (by rfl) T.n_isinstance (by decide +kernel) (pa_cons (pe_fld (pv 0) rfl) (pa_cons (pe_bltn (v := .ty "bool") rfl T.n_bool (by decide +kernel) rfl) pa_nil)))))))
      (pss_one (ps_ret pe_bl)) pss_nil)
      (pss_one (ps_ret (pe_and (pe_cmpR op_eq (pe_fld (pv 0) rfl) (pe_ix ix_tup (pv 1) pe_int (fun _ _ => rfl)) (nomark _)) (pe_one (pe_cmpR op_eq (pe_fld (pv 0) rfl) (pe_ix ix_tup (pv 1) pe_int (fun _ _ => rfl)) (nomark _))))))))), ?_⟩
    have ii : ∀ n : Int, TyX K H (.int n) (.type "int") := fun n => .base (.int n)
    refine ⟨_, rfl, .ref a, .ref A.C, .ref A.C, .ref A.C, true, rfl, .own _, .base (.ins ha T.cl T.ha T.hn T.htk T.hm), kit_self, _, rfl, iteF ?_⟩
    refine ⟨_, rfl, _, _, _, _, _, rfl, ha, T.cl, T.nT, rf_top _, _, .ty "int", _, _, true, rfl, .ty _, ii _, kit_ty (by decide +kernel), _, rfl, iteF ?_⟩
    refine ⟨_, rfl, _, _, _, _, _, rfl, ha, T.cl, T.nT, rf_top _, _, .ty "bool", _, _, false, rfl, .ty _, ii _, kit_ty (by decide +kernel), _, rfl, iteF ?_⟩
    refine ⟨_, rfl, _, _, _, _, _, rfl, ha, T.cl, T.nB, rf_bot _, _, .ty "int", _, _, true, rfl, .ty _, ii _, kit_ty (by decide +kernel), _, rfl, iteF ?_⟩
    refine ⟨_, rfl, _, _, _, _, _, rfl, ha, T.cl, T.nB, rf_bot _, _, .ty "bool", _, _, false, rfl, .ty _, ii _, kit_ty (by decide +kernel), _, rfl, iteF ?_⟩
    refine ⟨_, rfl, _, _, _, _, _, rfl, ha, T.cl, T.nT, rf_top _, _, rfl, _, _, _, _, rfl, rfl, SqT.of ht, rfl, rfl, true, congrArg V.bl (decide_eq_true rfl), ?_⟩
    refine ⟨_, rfl, _, _, _, _, _, rfl, ha, T.cl, T.nB, rf_bot _, _, rfl, _, _, _, _, rfl, rfl, SqT.of ht, rfl, rfl, ?_⟩
    have e : decide (V.int p.2 = V.int p.2) = true := decide_eq_true rfl
    show Q (V.bl (decide (V.int p.2 = V.int p.2))) H
    rw [e]
    exact k
end
/-! ### what is refused -/
section
variable {P : Program} {w : World} {K : PySem.W.Frag} {mg : Str → Option Value} {base : Heap} {A : Ad}
/-- the suite: isinstance(e, ZeroBottom) and isinstance(e, ValueError) and not isinstance(e, OutOfBounds); e in slot i -/
def t_bare (K : PySem.W.Frag) (A : Ad) (i : Nat) : Addr → Value → Option Addr → TS := fun a cls d =>
  tRet (tAndV (tCB (rIsX K cls d a) (tCons (tVar i) (tCons (tC (.ref A.Z)) tNil))) (tAndV (tCB (rIsX K cls d a) (tCons (tVar i) (tCons (tC (.ty "ValueError")) tNil))) (tNotV (tCB (rIsX K cls d a) (tCons (tVar i) (tCons (tC (.ref A.O)) tNil))))))
theorem rd_bare (T : Txt K mg A) {i : Nat} {a : Addr} {sl : L2.St} {H : Hp} {D : Ends} (h : sl[i]? = some (some (.ref a))) (k : D.rt (.bl true) H) : t_bare K A i a (.ref A.Z) none D sl H := by
  have nd : ∀ dd : Addr, (none : Option Addr) = some dd → ∃ fs, H dd = some (.xd fs) := fun dd e => by cases e
  refine ⟨_, h, A.Z, .ref A.Z, .ref A.Z, true, rfl, T.XZ, nd, rfl, fun u e => e, kit_self, true, rfl, ?_⟩
  refine ⟨_, h, A.Z, .ty "ValueError", _, true, rfl, T.XZ, nd, rfl, fun u e => e, T.zv, true, rfl, ?_⟩
  exact ⟨_, h, A.Z, .ref A.O, _, false, rfl, T.XZ, nd, rfl, fun u e => e, T.zo, false, rfl, k⟩
def spNoBottom : Sp := fun vs H Q _ => ∃ (t : Int), vs = [.int t] ∧ ∀ H', Ex H H' → Q (.bl true) H'
theorem ok_nobot (T : Txt K mg A) : FnOk P w K mg base CX0 3 A.f_nobot A.d_nobot ["top"] spNoBottom := by
  refine T.F_nobot.ok sc_nobot (fun vs H Q E h => ?_) (fun cdv Ar outer s H vs Q E hr h => ?_)
  · obtain ⟨t, rfl, _⟩ := h
    rfl
  · obtain ⟨t, rfl, k⟩ := h
    refine ⟨_, (pss_cons (ps_try_as (i := 1) (tb := fun W => tDrop (tMakeS A.C (spInit A) (WE W) (tCons (tVar 0) (tCons (tC (.int 0)) tNil)))) (ts := t_bare K A 1) (Wout := fun _ _ _ _ => False) rfl rfl sc_nobot.nd rfl rfl ⟨rfl, by decide, Or.inl T.g_CE⟩ takes0 (fun W pn xe tk _ => pss_one (ps_expr (pe_makeS T.mkC (ok_init T) (hr.mono (by decide)) rfl T.g_Ratio T.b_init3 (fun sl => passAt tk sl) (pa_cons (pv 0) (pa_cons pe_int pa_nil))))) (fun a oe cls d pn hz hf => pss_one (ps_ret (pe_and (pe_callB (call_isX hz hf) (by rfl) T.n_isinstance (by decide +kernel) (pa_cons (pv 1) (pa_cons (pe_glob (v := .ref A.Z) rfl T.g_Z rfl) pa_nil))) (pe_and (pe_callB (call_isX hz hf) (by rfl) T.n_isinstance (by decide +kernel) (pa_cons (pv 1) (pa_cons (pe_bltn (v := .ty "ValueError") rfl T.n_ValueError (by decide +kernel) rfl) pa_nil))) (pe_one (pe_not (pe_callB (call_isX hz hf) (by rfl) T.n_isinstance (by decide +kernel) (pa_cons (pv 1) (pa_cons (pe_glob (v := .ref A.O) rfl T.g_O rfl) pa_nil))))))))))
      (pss_one (ps_ret pe_bl))), ?_⟩
    refine ⟨_, rfl, ?_⟩
    intro x dx nx nd ne
    refine ⟨x, dx, t, 0, rfl, upd_same, fun _ => ⟨true, T.eZ, fun _ a na => ?_, fun z => Bool.noConfusion z⟩, fun z => absurd rfl z⟩
    refine rd_bare T rfl (k _ fun c o e => ?_)
    rw [upd_ne (ne_of_none e nx), upd_ne (ne_of_none e nd)]
    exact e
def spNoQuotient (C : Addr) : Sp := fun vs H Q _ => ∃ (a z : Addr) (p q : Int × Int), vs = [.ref a, .ref z] ∧ RatAt C H a p ∧ RatAt C H z q ∧ Sm 4000 p ∧ Sm 4000 q ∧ q.1 = 0 ∧ ∀ H', Ex H H' → Q (.bl true) H'
theorem ok_noquo (T : Txt K mg A) : FnOk P w K mg base CX0 5 A.f_noquo A.d_noquo ["x", "zero"] (spNoQuotient A.C) := by
  refine T.F_noquo.ok sc_noquo (fun vs H Q E h => ?_) (fun cdv Ar outer s H vs Q E hr h => ?_)
  · obtain ⟨a, z, p, q, rfl, _⟩ := h
    rfl
  · obtain ⟨a, z, p, q, rfl, ⟨dx, ha⟩, hz, sp, sq, q0, k⟩ := h
    refine ⟨_, (pss_cons (ps_try_as (i := 2) (tb := fun W => tDrop (tMethS A.C "divided" (spDiv A) (WE W) (tVar 0) (tCons (tVar 1) tNil))) (ts := t_bare K A 2) (Wout := fun _ _ _ _ => False) rfl rfl sc_noquo.nd rfl rfl ⟨rfl, by decide, Or.inl T.g_CE⟩ takes0 (fun W pn xe tk _ => pss_one (ps_expr (pe_methS (pv 0) T.cl T.m_divided (ok_divided T) (hr.mono (by decide)) T.b_divided (fun sl => passAt tk sl) (pa_cons (pv 1) pa_nil)))) (fun a oe cls d pn hz hf => pss_one (ps_ret (pe_and (pe_callB (call_isX hz hf) (by rfl) T.n_isinstance (by decide +kernel) (pa_cons (pv 2) (pa_cons (pe_glob (v := .ref A.Z) rfl T.g_Z rfl) pa_nil))) (pe_and (pe_callB (call_isX hz hf) (by rfl) T.n_isinstance (by decide +kernel) (pa_cons (pv 2) (pa_cons (pe_bltn (v := .ty "ValueError") rfl T.n_ValueError (by decide +kernel) rfl) pa_nil))) (pe_one (pe_not (pe_callB (call_isX hz hf) (by rfl) T.n_isinstance (by decide +kernel) (pa_cons (pv 2) (pa_cons (pe_glob (v := .ref A.O) rfl T.g_O rfl) pa_nil))))))))))
      (pss_one (ps_ret pe_bl))), ?_⟩
    refine ⟨_, rfl, a, dx, _, rfl, ha, rf_no _ (by decide +kernel) (by decide +kernel), _, rfl, ?_⟩
    refine ⟨a, z, p, q, rfl, ⟨dx, ha⟩, hz, sp, sq, fun _ H' ex => ⟨true, T.eZ, fun _ b nb => ?_, fun z => Bool.noConfusion z⟩, fun n => absurd q0 n⟩
    exact rd_bare T rfl (k H' ex)
/-- the suite of the exponents -/
def t_val (K : PySem.W.Frag) (A : Ad) : Addr → Value → Option Addr → TS := fun a cls d =>
  tSeq (tIfS (tOr (tNot (tB (tCB (rIsX K cls d a) (tCons (tVar 2) (tCons (tC (.ref A.O)) tNil))))) (tOr (tNot (tB (tCB (rIsX K cls d a) (tCons (tVar 2) (tCons (tC (.ty "ValueError")) tNil))))) (tB (tCB (rIsX K cls d a) (tCons (tVar 2) (tCons (tC (.ref A.Z)) tNil))))))
      (tRet (tC (.bl false))) tNext)
    (tRet (tAndV (tCB (rIsi K) (tCons (tXf a cls d A.O "value" (tVar 2)) (tCons (tC (.ty "int")) tNil))) (tAndV (tNotV (tCB (rIsi K) (tCons (tXf a cls d A.O "value" (tVar 2)) (tCons (tC (.ty "bool")) tNil)))) (tOp rEq (tXf a cls d A.O "value" (tVar 2)) (tVar 1)))))
def spNoExponent (C : Addr) : Sp := fun vs H Q _ => ∃ (a : Addr) (n : Int) (p : Int × Int), vs = [.ref a, .int n] ∧ RatAt C H a p ∧ (n < 0 ∨ 64 < n) ∧ ∀ H', Ex H H' → Q (.bl true) H'
theorem val_at (n : Int) : ([(("value" : Str), V.int n)] : List (Str × V)).lookup ("value" : Str) = some (.int n) := by simp [List.lookup]
theorem ok_noexp (T : Txt K mg A) : FnOk P w K mg base CX0 5 A.f_noexp A.d_noexp ["x", "many"] (spNoExponent A.C) := by
  refine T.F_noexp.ok sc_noexp (fun vs H Q E h => ?_) (fun cdv Ar outer s H vs Q E hr h => ?_)
  · obtain ⟨a, n, p, rfl, _⟩ := h
    rfl
  · obtain ⟨a, n, p, rfl, ⟨dx, ha⟩, hn, k⟩ := h
    refine ⟨_, (pss_cons (ps_try_as (i := 2) (tb := fun W => tDrop (tMethS A.C "raised" (spRaised A) (WE W) (tVar 0) (tCons (tVar 1) tNil))) (ts := t_val K A) (Wout := fun _ _ _ _ => False) rfl rfl sc_noexp.nd rfl rfl ⟨rfl, by decide, Or.inl T.g_CE⟩ takes0 (fun W pn xe tk _ => pss_one (ps_expr (pe_methS (pv 0) T.cl T.m_raised (ok_raised T) (hr.mono (by decide)) T.b_raised (fun sl => passAt tk sl) (pa_cons (pv 1) pa_nil)))) (fun a oe cls d pn hz hf => pss_cons (ps_if (PW.pt (pw_or (pt_not (pt_val (pe_callB (call_isX hz hf) (by rfl) T.n_isinstance (by decide +kernel) (pa_cons (pv 2) (pa_cons (pe_glob (v := .ref A.O) rfl T.g_O rfl) pa_nil))))) (pw_or (pt_not (pt_val (pe_callB (call_isX hz hf) (by rfl) T.n_isinstance (by decide +kernel) (pa_cons (pv 2) (pa_cons (pe_bltn (v := .ty "ValueError") rfl T.n_ValueError (by decide +kernel) rfl) pa_nil))))) (pw_or1 (pt_val (pe_callB (call_isX hz hf) (by rfl) T.n_isinstance (by decide +kernel) (pa_cons (pv 2) (pa_cons (pe_glob (v := .ref A.Z) rfl T.g_Z rfl) pa_nil)))))))) (pss_one (ps_ret pe_bl)) pss_nil) (pss_one (ps_ret (pe_and (pe_callB call_isi (by rfl) T.n_isinstance (by decide +kernel) (pa_cons (pe_xf T.xfO T.nV hz hf (pv 2)) (pa_cons (pe_bltn (v := .ty "int") rfl T.n_int (by decide +kernel) rfl) pa_nil))) (pe_and (pe_not (pe_callB call_isi (by rfl) T.n_isinstance (by decide +kernel) (pa_cons (pe_xf T.xfO T.nV hz hf (pv 2)) (pa_cons (pe_bltn (v := .ty "bool") rfl T.n_bool (by decide +kernel) rfl) pa_nil)))) (pe_one (pe_cmpR op_eq (pe_xf T.xfO T.nV hz hf (pv 2)) (pv 1) (nomark _)))))))))
      (pss_one (ps_ret pe_bl))), ?_⟩
    refine ⟨_, rfl, a, dx, _, rfl, ha, rf_no _ (by decide +kernel) (by decide +kernel), _, rfl, ?_⟩
    refine ⟨a, p, n, rfl, ⟨dx, ha⟩, fun _ d H' ex hd => ⟨true, T.eO, fun _ b nb => ?_, fun z => Bool.noConfusion z⟩, fun z => absurd hn z⟩
    have nd : ∀ dd : Addr, some d = some dd → ∃ fs, H' dd = some (.xd fs) := fun dd e => by cases e; exact ⟨_, hd⟩
    have ii : TyX K H' (.int n) (.type "int") := .base (.int n)
    refine ⟨_, rfl, A.O, .ref A.O, .ref A.O, true, rfl, T.XO, nd, rfl, fun u e => e, kit_self, _, rfl, iteF ?_⟩
    refine ⟨_, rfl, A.O, .ty "ValueError", _, true, rfl, T.XO, nd, rfl, fun u e => e, T.ov, _, rfl, iteF ?_⟩
    refine ⟨_, rfl, A.O, .ref A.Z, _, false, rfl, T.XO, nd, rfl, fun u e => e, T.oz, _, rfl, iteF ?_⟩
    refine ⟨_, rfl, rfl, rfl, d, _, _, rfl, hd, val_at n, _, .ty "int", _, _, true, rfl, .ty _, ii, kit_ty (by decide +kernel), true, rfl, ?_⟩
    refine ⟨_, rfl, rfl, rfl, d, _, _, rfl, hd, val_at n, _, .ty "bool", _, _, false, rfl, .ty _, ii, kit_ty (by decide +kernel), false, rfl, true, rfl, ?_⟩
    refine ⟨_, rfl, rfl, rfl, d, _, _, rfl, hd, val_at n, _, rfl, rfl, ?_⟩
    have e : decide (V.int n = V.int n) = true := decide_eq_true rfl
    show Q (V.bl (decide (V.int n = V.int n))) _
    rw [e]
    exact k H' ex
end
end Fc
set_option Elab.async false
set_option linter.all false
set_option maxRecDepth 100000
set_option maxHeartbeats 4000000
set_option exponentiation.threshold 100000
namespace Fc
open PySem PySem.Spec PyProof.Rows L2
section
variable {P : Program} {w : World} {K : PySem.W.Frag} {mg : Str → Option Value} {base : Heap} {A : Ad}
/-- lowest terms of at most 220 digits in base 2 -/
structure Lw (p : Int × Int) : Prop where
  s : Sm 220 p
  c : Int.gcd p.1 p.2 = 1
theorem Lw.s4 {p : Int × Int} (h : Lw p) : Sm 4000 p := h.s.mono (by decide)
theorem md_of {p q : Int × Int} (h : Lw p) (g : Lw q) : Md p q := ⟨h.s.t.mono (by decide), h.s.b.mono (by decide), g.s.t.mono (by decide), g.s.b.mono (by decide), h.s.nn g.s⟩
theorem md_neg {p q : Int × Int} (h : Lw p) (g : Lw q) : Md p (-q.1, q.2) := ⟨h.s.t.mono (by decide), h.s.b.mono (by decide), g.s.t.neg.mono (by decide), g.s.b.mono (by decide), Int.mul_ne_zero h.s.ne g.s.ne⟩
theorem md_div {p q : Int × Int} (h : Lw p) (g : Lw q) (n : q.1 ≠ 0) : Md p (q.2, q.1) := ⟨h.s.t.mono (by decide), h.s.b.mono (by decide), g.s.b.mono (by decide), g.s.t.mono (by decide), Int.mul_ne_zero h.s.ne n⟩
theorem sub_plus (p q : Int × Int) : rSub p q = rAdd p (-q.1, q.2) := by
  show lo (p.1 * q.2 - q.1 * p.2) (p.2 * q.2) = lo (p.1 * q.2 + -q.1 * p.2) (p.2 * q.2)
  rw [Int.neg_mul, ← Int.sub_eq_add_neg]
theorem lo_neg {p : Int × Int} (h : Lw p) : rNeg p = (-p.1, p.2) := lo_self h.s.pos (by rw [Int.neg_gcd]; exact h.c)
theorem lo_abs {p : Int × Int} (h : Lw p) : rAbs p = (if p.1 < 0 then -p.1 else p.1, p.2) := by
  refine lo_self h.s.pos ?_
  split
  · rw [Int.neg_gcd]; exact h.c
  · exact h.c

def spFour (C : Addr) : Sp := fun vs H Q _ => ∃ (x y a b : Addr) (p q : Int × Int), vs = [.ref x, .ref y, .ref a, .ref b] ∧ RatAt C H x p ∧ RatAt C H y q ∧ Pr H a p ∧ Pr H b q ∧ Lw p ∧ Lw q ∧ ∀ H', Ex H H' → Q (.bl true) H'
theorem ok_four (T : Txt K mg A) : FnOk P w K mg base CX0 6 A.f_four A.d_four ["x", "y", "a", "b"] (spFour A.C) := by
  refine T.F_four.ok sc_four (fun vs H Q E h => ?_) (fun cdv Ar outer s H vs Q E hr h => ?_)
  · obtain ⟨x, y, a, b, p, q, rfl, _⟩ := h
    rfl
  · obtain ⟨x, y, a, b, p, q, rfl, ⟨dx, hx⟩, ⟨dy, hy⟩, ha, hb, lp, lq, k⟩ := h
    refine ⟨_, (pss_cons (ps_if (pt_not (pt_val (pe_call (ok_lis T) (hr.mono (by decide)) rfl T.g_lis T.F_lis.kp T.b_lis .nil pass0 (pa_cons (pe_op (op_own T.sf T.m_add.at_ T.m_add.fn (ok_add T) (hr.mono (by decide)) T.b_add pass0) (pv 0) (pv 1)) (pa_cons (pe_call (ok_plus T) (hr.mono (by decide)) rfl T.g_plus T.F_plus.kp T.b_plus .nil pass0 (pa_cons (pv 2) (pa_cons (pv 3) pa_nil))) pa_nil)))))
      (pss_one (ps_ret pe_bl)) pss_nil)
      (pss_cons (ps_if (pt_not (pt_val (pe_call (ok_lis T) (hr.mono (by decide)) rfl T.g_lis T.F_lis.kp T.b_lis .nil pass0 (pa_cons (pe_op (op_own T.sf T.m_sub.at_ T.m_sub.fn (ok_sub T) (hr.mono (by decide)) T.b_sub pass0) (pv 0) (pv 1)) (pa_cons (pe_call (ok_plus T) (hr.mono (by decide)) rfl T.g_plus T.F_plus.kp T.b_plus .nil pass0 (pa_cons (pv 2) (pa_cons (pe_tup (pa_cons (pe_un un_neg (pe_ix ix_tup (pv 3) pe_int (fun _ _ => rfl))) (pa_cons (pe_ix ix_tup (pv 3) pe_int (fun _ _ => rfl)) pa_nil))) pa_nil))) pa_nil)))))
      (pss_one (ps_ret pe_bl)) pss_nil)
      (pss_cons (ps_if (pt_not (pt_val (pe_call (ok_lis T) (hr.mono (by decide)) rfl T.g_lis T.F_lis.kp T.b_lis .nil pass0 (pa_cons (pe_op (op_own T.sf T.m_mul.at_ T.m_mul.fn (ok_mul T) (hr.mono (by decide)) T.b_mul pass0) (pv 0) (pv 1)) (pa_cons (pe_call (ok_times T) (hr.mono (by decide)) rfl T.g_times T.F_times.kp T.b_times .nil pass0 (pa_cons (pv 2) (pa_cons (pv 3) pa_nil))) pa_nil)))))
      (pss_one (ps_ret pe_bl)) pss_nil)
      (pss_cons (ps_if (pt_cmpR op_eq (pe_ix ix_tup (pv 3) pe_int (fun _ _ => rfl)) pe_int (nomark _))
      (pss_one (ps_ret (pe_call (ok_noquo T) (hr.mono (by decide)) rfl T.g_noquo T.F_noquo.kp T.b_noquo .nil pass0 (pa_cons (pv 0) (pa_cons (pv 1) pa_nil))))) pss_nil)
      (pss_one (ps_ret (pe_call (ok_lis T) (hr.mono (by decide)) rfl T.g_lis T.F_lis.kp T.b_lis .nil pass0 (pa_cons (pe_meth (pv 0) T.cl T.m_divided (ok_divided T) (hr.mono (by decide)) T.b_divided .nil passL (pa_cons (pv 1) pa_nil)) (pa_cons (pe_call (ok_times T) (hr.mono (by decide)) rfl T.g_times T.F_times.kp T.b_times .nil pass0 (pa_cons (pv 2) (pa_cons (pe_tup (pa_cons (pe_ix ix_tup (pv 3) pe_int (fun _ _ => rfl)) (pa_cons (pe_ix ix_tup (pv 3) pe_int (fun _ _ => rfl)) pa_nil))) pa_nil))) pa_nil))))))))), ?_⟩
    -- x + y
    refine ⟨_, rfl, _, rfl, x, y, dx, dy, _, _, rfl, rfl, hx, hy, x, y, p, q, rfl, ⟨dx, hx⟩, ⟨dy, hy⟩, lp.s4, lq.s4, trivial, fun u1 H1 e1 n1 r1 => ?_⟩
    refine ⟨_, rfl, _, rfl, a, b, p, q, rfl, ha.ex e1, hb.ex e1, md_of lp lq, fun v1 H2 v2 e2 n2 => ⟨u1, v1, _, rfl, r1.ex e2, v2, _, rfl, iteF ?_⟩⟩
    have E2 : Ex H H2 := e1.trans e2
    -- x - y
    refine ⟨_, rfl, _, rfl, x, y, dx, dy, _, _, rfl, rfl, E2 _ _ hx, E2 _ _ hy, x, y, p, q, rfl, ⟨dx, E2 _ _ hx⟩, ⟨dy, E2 _ _ hy⟩, lp.s4, lq.s4, trivial, fun u3 H3 e3 n3 r3 => ?_⟩
    have E3 : Ex H H3 := E2.trans e3
    refine ⟨_, rfl, _, rfl, _, _, _, _, rfl, rfl, SqT.of (hb.ex E3), rfl, _, rfl, _, rfl, _, _, _, _, rfl, rfl, SqT.of (hb.ex E3), rfl, (by show 2 ≤ sizeLine; exact sz2), fun t ht => ?_⟩
    have E4 : Ex H3 (upd H3 t (.tup [.int (-q.1), .int q.2])) := Ex.new ht
    refine ⟨a, t, p, (-q.1, q.2), rfl, (ha.ex E3).ex E4, upd_same, md_neg lp lq, fun v5 H5 w5 e5 n5 => ⟨u3, v5, _, rfl, (r3.ex E4).ex e5, by rw [sub_plus]; exact w5, _, rfl, iteF ?_⟩⟩
    have E5 : Ex H H5 := (E3.trans E4).trans e5
    -- x * y
    refine ⟨_, rfl, _, rfl, x, y, dx, dy, _, _, rfl, rfl, E5 _ _ hx, E5 _ _ hy, x, y, p, q, rfl, ⟨dx, E5 _ _ hx⟩, ⟨dy, E5 _ _ hy⟩, lp.s4, lq.s4, trivial, fun u6 H6 e6 n6 r6 => ?_⟩
    have E6 : Ex H H6 := E5.trans e6
    refine ⟨_, rfl, _, rfl, a, b, p, q, rfl, ha.ex E6, hb.ex E6, md_of lp lq, fun v7 H7 w7 e7 n7 => ⟨u6, v7, _, rfl, r6.ex e7, w7, _, rfl, iteF ?_⟩⟩
    have E7 : Ex H H7 := E6.trans e7
    -- b[0] == 0
    refine ⟨_, rfl, _, _, _, _, rfl, rfl, SqT.of (hb.ex E7), rfl, rfl, _, rfl, ?_⟩
    by_cases q0 : q.1 = 0
    · refine ite2 (fun _ => ?_) (fun z => absurd (by rw [q0] <;> rfl) z)
      exact ⟨_, rfl, _, rfl, x, y, p, q, rfl, ⟨dx, E7 _ _ hx⟩, ⟨dy, E7 _ _ hy⟩, lp.s4, lq.s4, q0, fun H8 e8 => k H8 (E7.trans e8)⟩
    refine ite2 (fun z => absurd (V.int.inj (of_decide_eq_true z)) q0) (fun _ => ?_)
    -- x.divided(y)
    refine ⟨_, rfl, x, dx, _, rfl, E7 _ _ hx, rf_no _ (by decide +kernel) (by decide +kernel), _, rfl, x, y, p, q, rfl, ⟨dx, E7 _ _ hx⟩, ⟨dy, E7 _ _ hy⟩, lp.s4, lq.s4, fun z => absurd z q0, fun _ u8 H8 e8 n8 r8 => ?_⟩
    have E8 : Ex H H8 := E7.trans e8
    refine ⟨_, rfl, _, rfl, _, _, _, _, rfl, rfl, SqT.of (hb.ex E8), rfl, _, rfl, _, _, _, _, rfl, rfl, SqT.of (hb.ex E8), rfl, (by show 2 ≤ sizeLine; exact sz2), fun t ht => ?_⟩
    have E9 : Ex H8 (upd H8 t (.tup [.int q.2, .int q.1])) := Ex.new ht
    exact ⟨a, t, p, (q.2, q.1), rfl, (ha.ex E8).ex E9, upd_same, md_div lp lq q0, fun v H10 w10 e10 n10 => ⟨u8, v, _, rfl, (r8.ex E9).ex e10, w10, k _ ((E8.trans E9).trans e10)⟩⟩

/-! ### powers -/
def spPow2 (C : Addr) : Sp := fun vs H Q _ => ∃ (x a : Addr) (p : Int × Int), vs = [.ref x, .ref a] ∧ RatAt C H x p ∧ Pr H a p ∧ Lw p ∧ ∀ H', Ex H H' → Q (.bl true) H'
/-- the powers of a pair -/
abbrev pw (p : Int × Int) (n : Nat) : Int × Int := (p.1 ^ n, p.2 ^ n)
/-- x.raised(n), x ** n read: the last part, for n from 0 to 64, small enough -/
theorem rd_k {C : Addr} {p : Int × Int} {H : Hp} {R : Addr → Hp → Prop} (lp : Lw p) (n : Int) (j : Nat) (e : n = (j : Int)) (h64 : j ≤ 64) {m : Nat} (sm : Sm m p) (m0 : 0 < m) (hm : m * j ≤ 8000)
    (k : ∀ u H', Ex H H' → H u = none → RatAt C H' u (pw p j) → R u H') : ¬ (n < 0 ∨ 64 < n) → ∃ m, Sm m p ∧ 0 < m ∧ m * n.toNat ≤ 8000 ∧ Int.gcd p.1 p.2 = 1 ∧ ∀ x H', Ex H H' → H x = none → RatAt C H' x (p.1 ^ n.toNat, p.2 ^ n.toNat) → R x H' := by
  subst e
  exact fun _ => ⟨m, sm, m0, hm, lp.c, k⟩
theorem pw_mul (p : Int × Int) (i : Nat) : (((pw p i).1 * p.1, (pw p i).2 * p.2) : Int × Int) = pw p (i + 1) := by
  show ((p.1 ^ i * p.1, p.2 ^ i * p.2) : Int × Int) = (p.1 ^ (i + 1), p.2 ^ (i + 1))
  rw [Int.pow_succ, Int.pow_succ]
theorem pw_zero (p : Int × Int) : ((1, 1) : Int × Int) = pw p 0 := by
  show ((1, 1) : Int × Int) = (p.1 ^ 0, p.2 ^ 0)
  rw [Int.pow_zero, Int.pow_zero]
theorem sz6 : 6 ≤ sizeLine := by rw [sizeLine_eq]; decide
theorem ok_small (T : Txt K mg A) : FnOk P w K mg base CX0 6 A.f_small A.d_small ["x", "a"] (spPow2 A.C) := by
  obtain ⟨rc, h0, hp⟩ := T.rp
  obtain ⟨fo, h1⟩ := T.ip
  obtain ⟨ro, h2⟩ := T.irp
  refine T.F_small.ok sc_small (fun vs H Q E h => ?_) (fun cdv Ar outer s H vs Q E hr h => ?_)
  · obtain ⟨x, a, p, rfl, _⟩ := h
    rfl
  · obtain ⟨x, a, p, rfl, ⟨dx, hx⟩, ha, lp, k⟩ := h
    refine ⟨_, (pss_cons (ps_set (i := 2) sc_small.nd rfl (Or.inl rfl) (pe_lst (pa_cons (pe_op (op_ownI T.sf T.m_pow.at_ T.m_pow.fn h0 hp h1 h2 T.isub (ok_pow T) (hr.mono (by decide)) T.b_pow passL) (pv 0) pe_int) (pa_cons (pe_op (op_ownI T.sf T.m_pow.at_ T.m_pow.fn h0 hp h1 h2 T.isub (ok_pow T) (hr.mono (by decide)) T.b_pow passL) (pv 0) pe_int) (pa_cons (pe_op (op_ownI T.sf T.m_pow.at_ T.m_pow.fn h0 hp h1 h2 T.isub (ok_pow T) (hr.mono (by decide)) T.b_pow passL) (pv 0) pe_int) (pa_cons (pe_op (op_ownI T.sf T.m_pow.at_ T.m_pow.fn h0 hp h1 h2 T.isub (ok_pow T) (hr.mono (by decide)) T.b_pow passL) (pv 0) pe_int) (pa_cons (pe_op (op_ownI T.sf T.m_pow.at_ T.m_pow.fn h0 hp h1 h2 T.isub (ok_pow T) (hr.mono (by decide)) T.b_pow passL) (pv 0) pe_int) (pa_cons (pe_op (op_ownI T.sf T.m_pow.at_ T.m_pow.fn h0 hp h1 h2 T.isub (ok_pow T) (hr.mono (by decide)) T.b_pow passL) (pv 0) pe_int) pa_nil))))))))
      (pss_cons (ps_set (i := 3) sc_small.nd rfl (Or.inl rfl) (pe_tup (pa_cons pe_int (pa_cons pe_int pa_nil))))
      (pss_cons (ps_for PassesOwn.never rfl (pi_range1 rfl T.n_range (pa_cons pe_int pa_nil)) (pg_name (i := 4) sc_small.nd rfl (Or.inl rfl))
      (pss_cons (ps_if (PW.pt (pw_or (pt_not (pt_val (pe_call (ok_lis T) (hr.mono (by decide)) rfl T.g_lis T.F_lis.kp T.b_lis .nil pass0 (pa_cons (pe_meth (pv 0) T.cl T.m_raised (ok_raised T) (hr.mono (by decide)) T.b_raised .nil passL (pa_cons (pv 4) pa_nil)) (pa_cons (pv 3) pa_nil))))) (pw_or1 (pt_not (pt_val (pe_call (ok_lis T) (hr.mono (by decide)) rfl T.g_lis T.F_lis.kp T.b_lis .nil pass0 (pa_cons (pe_ix ix_list (pv 2) (pv 4) (fun _ _ => rfl)) (pa_cons (pv 3) pa_nil))))))))
      (pss_one (ps_ret pe_bl)) pss_nil)
      (pss_one (ps_set (i := 3) sc_small.nd rfl (Or.inl rfl) (pe_tup (pa_cons (pe_op op_mulW (pe_ix ix_tup (pv 3) pe_int (fun _ _ => rfl)) (pe_ix ix_tup (pv 1) pe_int (fun _ _ => rfl))) (pa_cons (pe_op op_mulW (pe_ix ix_tup (pv 3) pe_int (fun _ _ => rfl)) (pe_ix ix_tup (pv 1) pe_int (fun _ _ => rfl))) pa_nil)))))))
      (pss_one (ps_ret pe_bl))))), ?_⟩
    refine ⟨_, rfl, x, dx, _, 0, rfl, rfl, hx, x, p, 0, rfl, ⟨dx, hx⟩, (fun z => absurd z (by omega)), rd_k lp 0 0 rfl (by decide) lp.s (by decide) (by decide) fun u0 H0 e0 n0 r0 => ?_⟩
    refine ⟨_, rfl, x, dx, _, 1, rfl, rfl, e0 _ _ hx, x, p, 1, rfl, ⟨dx, (e0 _ _ hx)⟩, (fun z => absurd z (by omega)), rd_k lp 1 1 rfl (by decide) lp.s (by decide) (by decide) fun u1 H1 e1 n1 r1 => ?_⟩
    have E1 := e0.trans e1
    refine ⟨_, rfl, x, dx, _, 2, rfl, rfl, E1 _ _ hx, x, p, 2, rfl, ⟨dx, (E1 _ _ hx)⟩, (fun z => absurd z (by omega)), rd_k lp 2 2 rfl (by decide) lp.s (by decide) (by decide) fun u2 H2 e2 n2 r2 => ?_⟩
    have E2 := E1.trans e2
    refine ⟨_, rfl, x, dx, _, 3, rfl, rfl, E2 _ _ hx, x, p, 3, rfl, ⟨dx, (E2 _ _ hx)⟩, (fun z => absurd z (by omega)), rd_k lp 3 3 rfl (by decide) lp.s (by decide) (by decide) fun u3 H3 e3 n3 r3 => ?_⟩
    have E3 := E2.trans e3
    refine ⟨_, rfl, x, dx, _, 4, rfl, rfl, E3 _ _ hx, x, p, 4, rfl, ⟨dx, (E3 _ _ hx)⟩, (fun z => absurd z (by omega)), rd_k lp 4 4 rfl (by decide) lp.s (by decide) (by decide) fun u4 H4 e4 n4 r4 => ?_⟩
    have E4 := E3.trans e4
    refine ⟨_, rfl, x, dx, _, 5, rfl, rfl, E4 _ _ hx, x, p, 5, rfl, ⟨dx, (E4 _ _ hx)⟩, (fun z => absurd z (by omega)), rd_k lp 5 5 rfl (by decide) lp.s (by decide) (by decide) fun u5 H5 e5 n5 r5 => ?_⟩
    have E5 := E4.trans e5
    refine ⟨(by show 6 ≤ sizeLine; exact sz6), fun L hL => ?_⟩
    have E6 : Ex H5 (upd H5 L (.lst [.ref u0, .ref u1, .ref u2, .ref u3, .ref u4, .ref u5])) := Ex.new hL
    have all : ∀ (j : Nat), j < 6 → ∃ u, ([V.ref u0, .ref u1, .ref u2, .ref u3, .ref u4, .ref u5] : List V)[j]? = some (.ref u) ∧ RatAt A.C (upd H5 L (.lst [.ref u0, .ref u1, .ref u2, .ref u3, .ref u4, .ref u5])) u (pw p j) := by
      intro j hj
      match j, hj with
      | 0, _ => exact ⟨u0, rfl, r0.ex ((((e1.trans e2).trans e3).trans (e4.trans e5)).trans E6)⟩
      | 1, _ => exact ⟨u1, rfl, r1.ex (((e2.trans e3).trans (e4.trans e5)).trans E6)⟩
      | 2, _ => exact ⟨u2, rfl, r2.ex ((e3.trans (e4.trans e5)).trans E6)⟩
      | 3, _ => exact ⟨u3, rfl, r3.ex ((e4.trans e5).trans E6)⟩
      | 4, _ => exact ⟨u4, rfl, r4.ex (e5.trans E6)⟩
      | 5, _ => exact ⟨u5, rfl, r5.ex E6⟩
      | n + 6, h => omega
    have hLst : upd H5 L (.lst [.ref u0, .ref u1, .ref u2, .ref u3, .ref u4, .ref u5]) L = some (.lst [.ref u0, .ref u1, .ref u2, .ref u3, .ref u4, .ref u5]) := upd_same
    have E7 := E5.trans E6
    generalize upd H5 L (.lst [.ref u0, .ref u1, .ref u2, .ref u3, .ref u4, .ref u5]) = H7 at all hLst E7 ⊢
    refine ⟨(by show 2 ≤ sizeLine; exact sz2), fun o ho => ?_⟩
    refine ⟨6, rfl, by decide, by decide, for_range (lo := 0) (n := 6) (fun i sl H' => ∃ (o' : Addr) (v : Option V), sl = [some (.ref x), some (.ref a), some (.ref L), some (.ref o'), v] ∧ Pr H' o' (pw p i) ∧ Ex H7 H') ⟨o, none, rfl, by rw [← pw_zero]; exact upd_same, Ex.new ho⟩ ?_ ?_⟩
    · rintro i sl H' hi ⟨o', v, rfl, po, ex⟩
      have EX : Ex H H' := E7.trans ex
      refine ⟨_, rfl, x, dx, _, rfl, EX _ _ hx, rf_no _ (by decide +kernel) (by decide +kernel), _, rfl, x, p, (0 + (i : Int)), rfl, ⟨dx, (EX _ _ hx)⟩, (fun z => absurd z (by omega)), rd_k lp (0 + (i : Int)) i (by omega) (by omega) lp.s (by decide) (by omega) fun u8 H8 e8 n8 r8 => ?_⟩
      refine ⟨_, rfl, u8, o', _, rfl, r8, po.ex e8, _, rfl, iteF ?_⟩
      obtain ⟨u, hu, ru⟩ := all i hi
      refine ⟨_, rfl, _, rfl, _, _, _, _, rfl, rfl, SqL.of (e8 _ _ (ex _ _ hLst)), at_of (j := i) (by omega) hu, _, rfl, u, o', _, rfl, (ru.ex ex).ex e8, po.ex e8, _, rfl, iteF ?_⟩
      have b1 : Bd (220 * i + 1) (pw p i).1 := lp.s.t.pow i
      have b2 : Bd (220 * i + 1) (pw p i).2 := lp.s.b.pow i
      refine ⟨_, rfl, _, _, _, _, rfl, rfl, SqT.of (po.ex e8), rfl, _, rfl, _, _, _, _, rfl, rfl, SqT.of (ha.ex (EX.trans e8)), rfl, _, _, rfl, rfl, b1.w lp.s.t (by omega) (by decide) (by omega), _, rfl, _, _, _, _, rfl, rfl, SqT.of (po.ex e8), rfl, _, rfl, _, _, _, _, rfl, rfl, SqT.of (ha.ex (EX.trans e8)), rfl, _, _, rfl, rfl, b2.w lp.s.b (by omega) (by decide) (by omega), (by show 2 ≤ sizeLine; exact sz2), fun t ht => ?_⟩
      exact ⟨t, some (.int (0 + (i : Int))), rfl, by rw [← pw_mul]; exact upd_same, Ex.to (ex.trans e8) ht⟩
    · rintro sl H' ⟨o', v, rfl, po, ex⟩
      exact k _ (E7.trans ex)
def spGreat (C : Addr) : Sp := fun vs H Q _ => ∃ (x a : Addr) (n : Int) (p : Int × Int), vs = [.ref x, .ref a, .int n] ∧ RatAt C H x p ∧ Pr H a p ∧ Lw p ∧ Sm 3 p ∧ 0 ≤ n ∧ n ≤ 64 ∧ ∀ H', Ex H H' → Q (.bl true) H'
theorem sz1 : 1 ≤ sizeLine := by rw [sizeLine_eq]; decide
theorem ok_great (T : Txt K mg A) : FnOk P w K mg base CX0 6 A.f_great A.d_great ["x", "a", "many"] (spGreat A.C) := by
  obtain ⟨rc, h0, hp⟩ := T.rp
  obtain ⟨fo, h1⟩ := T.ip
  obtain ⟨ro, h2⟩ := T.irp
  refine T.F_great.ok sc_great (fun vs H Q E h => ?_) (fun cdv Ar outer s H vs Q E hr h => ?_)
  · obtain ⟨x, a, n, p, rfl, _⟩ := h
    rfl
  · obtain ⟨x, a, n, p, rfl, ⟨dx, hx⟩, ha, lp, s3, n0, n64, k⟩ := h
    refine ⟨_, (pss_cons (ps_set (i := 3) sc_great.nd rfl (Or.inl rfl) (pe_lst (pa_cons (pe_tup (pa_cons pe_int (pa_cons pe_int pa_nil))) pa_nil)))
      (pss_cons (ps_for PassesOwn.never rfl (pi_range1 rfl T.n_range (pa_cons pe_int pa_nil)) (pg_name (i := 4) sc_great.nd rfl (Or.inl rfl))
      (pss_one (ps_expr (pe_bm PySem.F.plainAttrs_list PySem.F.slot_list_append PySem.F.type_list_append mt_append (pv 3) (pa_cons (pe_tup (pa_cons (pe_op op_mulW (pe_ix ix_tup (pe_ix ix_list (pv 3) (pv 4) (fun _ _ => rfl)) pe_int (fun _ _ => rfl)) (pe_ix ix_tup (pv 1) pe_int (fun _ _ => rfl))) (pa_cons (pe_op op_mulW (pe_ix ix_tup (pe_ix ix_list (pv 3) (pv 4) (fun _ _ => rfl)) pe_int (fun _ _ => rfl)) (pe_ix ix_tup (pv 1) pe_int (fun _ _ => rfl))) pa_nil))) pa_nil)))))
      (pss_cons (ps_if (pt_not (pt_val (pe_call (ok_lis T) (hr.mono (by decide)) rfl T.g_lis T.F_lis.kp T.b_lis .nil pass0 (pa_cons (pe_meth (pv 0) T.cl T.m_raised (ok_raised T) (hr.mono (by decide)) T.b_raised .nil passL (pa_cons (pv 2) pa_nil)) (pa_cons (pe_ix ix_list (pv 3) (pv 2) (fun _ _ => rfl)) pa_nil)))))
      (pss_one (ps_ret pe_bl)) pss_nil)
      (pss_one (ps_ret (pe_and (pe_call (ok_lis T) (hr.mono (by decide)) rfl T.g_lis T.F_lis.kp T.b_lis .nil pass0 (pa_cons (pe_meth (pv 0) T.cl T.m_raised (ok_raised T) (hr.mono (by decide)) T.b_raised .nil passL (pa_cons pe_int pa_nil)) (pa_cons (pe_ix ix_list (pv 3) pe_int (fun _ _ => rfl)) pa_nil))) (pe_one (pe_call (ok_lis T) (hr.mono (by decide)) rfl T.g_lis T.F_lis.kp T.b_lis .nil pass0 (pa_cons (pe_op (op_ownI T.sf T.m_pow.at_ T.m_pow.fn h0 hp h1 h2 T.isub (ok_pow T) (hr.mono (by decide)) T.b_pow passL) (pv 0) pe_int) (pa_cons (pe_ix ix_list (pv 3) pe_int (fun _ _ => rfl)) pa_nil)))))))))), ?_⟩
    refine ⟨(by show 2 ≤ sizeLine; exact sz2), fun o ho => ⟨(by show 1 ≤ sizeLine; exact sz1), fun L hL => ?_⟩⟩
    have hL0 : H L = none := (Ex.new ho).free hL
    have noL : o ≠ L := ne_of_none upd_same hL
    refine ⟨64, rfl, by decide, by decide, for_range (lo := 0) (n := 64) (fun i sl H' => ∃ (ts : List Addr) (v : Option V), sl = [some (.ref x), some (.ref a), some (.int n), some (.ref L), v] ∧ H' L = some (.lst (ts.map V.ref)) ∧ ts.length = i + 1 ∧
        (∀ (j : Nat) t, ts[j]? = some t → Pr H' t (pw p j)) ∧ Ex H H') ?_ ?_ ?_⟩
    · refine ⟨[o], none, rfl, upd_same, rfl, fun j t hj => ?_, ?_⟩
      · match j, hj with
        | 0, hj =>
          have e : o = t := Option.some.inj hj
          subst e
          rw [← pw_zero]
          show upd _ L _ o = _
          rw [upd_ne noL]
          exact upd_same
        | j + 1, hj => simp at hj
      · exact fun c u e => by rw [upd_ne (ne_of_none e hL0), upd_ne (ne_of_none e ho)]; exact e
    · rintro i sl H' hi ⟨ts, v, rfl, hl, hlen, hall, ex⟩
      obtain ⟨t, ht⟩ : ∃ t, ts[i]? = some t := ⟨ts[i]'(by omega), List.getElem?_eq_getElem (by omega)⟩
      have pt := hall i t ht
      have at_ : (ts.map V.ref)[i]? = some (.ref t) := by rw [List.getElem?_map, ht]; rfl
      have b1 : Bd (3 * i + 1) (pw p i).1 := s3.t.pow i
      have b2 : Bd (3 * i + 1) (pw p i).2 := s3.b.pow i
      refine ⟨_, rfl, .inl ⟨rfl, _, SqL.of hl⟩, _, rfl, _, rfl, _, _, _, _, rfl, rfl, SqL.of hl, at_of (j := i) (by omega) at_, _, _, _, _, rfl, rfl, SqT.of pt, rfl, _, rfl, _, _, _, _, rfl, rfl, SqT.of (ha.ex ex), rfl, _, _, rfl, rfl, b1.w s3.t (by omega) (by decide) (by omega),
        _, rfl, _, rfl, _, _, _, _, rfl, rfl, SqL.of hl, at_of (j := i) (by omega) at_, _, _, _, _, rfl, rfl, SqT.of pt, rfl, _, rfl, _, _, _, _, rfl, rfl, SqT.of (ha.ex ex), rfl, _, _, rfl, rfl, b2.w s3.b (by omega) (by decide) (by omega), (by show 2 ≤ sizeLine; exact sz2), fun u hu => ?_⟩
      have nLu : L ≠ u := ne_of_none hl hu
      refine ⟨L, _, _, rfl, rfl, by rw [upd_ne nLu]; exact hl, by rw [List.length_map, sizeLine_eq]; omega, ts ++ [u], some (.int (0 + (i : Int))), rfl, ?_, ?_, ?_, ?_⟩
      · rw [upd_same, List.map_append]; rfl
      · rw [List.length_append, hlen]; rfl
      · intro j t' hj
        by_cases hji : j < ts.length
        · rw [List.getElem?_append_left hji] at hj
          have q := hall j t' hj
          show upd _ L _ t' = _
          rw [upd_ne (ne_of q hl (by intro z; cases z)), upd_ne (ne_of_none q hu)]
          exact q
        · have ej : j = ts.length := by
            have := (List.getElem?_eq_some_iff.mp hj).1
            rw [List.length_append] at this
            have l1 : [u].length = 1 := rfl
            omega
          subst ej
          rw [List.getElem?_append_right (Nat.le_refl _), Nat.sub_self] at hj
          have e : u = t' := Option.some.inj hj
          subst e
          show upd _ L _ u = _
          rw [upd_ne nLu.symm, upd_same, hlen, ← pw_mul]
      · exact fun c o' e => by rw [upd_ne (ne_of_none e hL0), upd_ne (ne_of_none (ex c o' e) hu)]; exact ex c o' e
    · rintro sl H' ⟨ts, v, rfl, hl, hlen, hall, ex⟩
      have get : ∀ j : Nat, j ≤ 64 → ∃ t, (ts.map V.ref)[j]? = some (.ref t) ∧ Pr H' t (pw p j) := fun j hj => by
        have hlt : j < ts.length := by omega
        exact ⟨ts[j], by rw [List.getElem?_map, List.getElem?_eq_getElem hlt]; rfl, hall j _ (List.getElem?_eq_getElem hlt)⟩
      obtain ⟨j, rfl⟩ : ∃ j : Nat, n = (j : Int) := ⟨n.toNat, by omega⟩
      obtain ⟨t1, g1, p1⟩ := get j (by omega)
      obtain ⟨t2, g2, p2⟩ := get 64 (by decide)
      refine ⟨_, rfl, x, dx, _, rfl, ex _ _ hx, rf_no _ (by decide +kernel) (by decide +kernel), _, rfl, x, p, (j : Int), rfl, ⟨dx, (ex _ _ hx)⟩, (fun z => absurd z (by omega)), rd_k lp (j : Int) j rfl (by omega) s3 (by decide) (by omega) fun u8 H8 e8 n8 r8 => ?_⟩
      refine ⟨_, rfl, _, rfl, _, _, _, _, rfl, rfl, SqL.of (e8 _ _ hl), atI_nat g1, u8, t1, _, rfl, r8, p1.ex e8, _, rfl, iteF ?_⟩
      have E8 := ex.trans e8
      refine ⟨_, rfl, x, dx, _, rfl, E8 _ _ hx, rf_no _ (by decide +kernel) (by decide +kernel), x, p, 64, rfl, ⟨dx, (E8 _ _ hx)⟩, (fun z => absurd z (by omega)), rd_k lp 64 64 rfl (by decide) s3 (by decide) (by decide) fun u9 H9 e9 n9 r9 => ?_⟩
      refine ⟨_, rfl, _, _, _, _, rfl, rfl, SqL.of (e9 _ _ (e8 _ _ hl)), at_of (j := 64) rfl g2, u9, t2, _, rfl, r9, (p2.ex e8).ex e9, true, rfl, ?_⟩
      have E9 := E8.trans e9
      refine ⟨_, rfl, x, dx, _, 64, rfl, rfl, E9 _ _ hx, x, p, 64, rfl, ⟨dx, (E9 _ _ hx)⟩, (fun z => absurd z (by omega)), rd_k lp 64 64 rfl (by decide) s3 (by decide) (by decide) fun u10 H10 e10 n10 r10 => ?_⟩
      exact ⟨_, rfl, _, _, _, _, rfl, rfl, SqL.of (e10 _ _ (e9 _ _ (e8 _ _ hl))), at_of (j := 64) rfl g2, u10, t2, _, rfl, r10, ((p2.ex e8).ex e9).ex e10, k _ (E9.trans e10)⟩
theorem ok_alone (T : Txt K mg A) : FnOk P w K mg base CX0 7 A.f_alone A.d_alone ["x", "a"] (spPow2 A.C) := by
  refine T.F_alone.ok sc_alone (fun vs H Q E h => ?_) (fun cdv Ar outer s H vs Q E hr h => ?_)
  · obtain ⟨x, a, p, rfl, _⟩ := h
    rfl
  · obtain ⟨x, a, p, rfl, ⟨dx, hx⟩, ha, lp, k⟩ := h
    refine ⟨_, (pss_cons (ps_if (PW.pt (pw_or (pt_not (pt_val (pe_call (ok_lis T) (hr.mono (by decide)) rfl T.g_lis T.F_lis.kp T.b_lis .nil pass0 (pa_cons (pv 0) (pa_cons (pv 1) pa_nil))))) (pw_or1 (pt_not (pt_val (pe_call (ok_lis T) (hr.mono (by decide)) rfl T.g_lis T.F_lis.kp T.b_lis .nil pass0 (pa_cons (pe_un (un_own T.m_neg.at_ T.m_neg.fn (ok_neg T) (hr.mono (by decide)) T.b_neg pass0) (pv 0)) (pa_cons (pe_tup (pa_cons (pe_un un_neg (pe_ix ix_tup (pv 1) pe_int (fun _ _ => rfl))) (pa_cons (pe_ix ix_tup (pv 1) pe_int (fun _ _ => rfl)) pa_nil))) pa_nil))))))))
      (pss_one (ps_ret pe_bl)) pss_nil)
      (pss_cons (ps_if (pt_not (pt_val (pe_call (ok_lis T) (hr.mono (by decide)) rfl T.g_lis T.F_lis.kp T.b_lis .nil pass0 (pa_cons (pe_callB (call_own_abs T.m_abs.at_ T.m_abs.fn (ok_abs T) (hr.mono (by decide)) T.b_abs pass0) (by rfl) T.n_abs (by decide +kernel) (pa_cons (pv 0) pa_nil)) (pa_cons (pe_tup (pa_cons (pe_callB call_abs (by rfl) T.n_abs (by decide +kernel) (pa_cons (pe_ix ix_tup (pv 1) pe_int (fun _ _ => rfl)) pa_nil)) (pa_cons (pe_ix ix_tup (pv 1) pe_int (fun _ _ => rfl)) pa_nil))) pa_nil)))))
      (pss_one (ps_ret pe_bl)) pss_nil)
      (pss_one (ps_ret (pe_and (pe_call (ok_four T) (hr.mono (by decide)) rfl T.g_four T.F_four.kp T.b_four .nil pass0 (pa_cons (pv 0) (pa_cons (pv 0) (pa_cons (pv 1) (pa_cons (pv 1) pa_nil))))) (pe_one (pe_call (ok_small T) (hr.mono (by decide)) rfl T.g_small T.F_small.kp T.b_small .nil pass0 (pa_cons (pv 0) (pa_cons (pv 1) pa_nil))))))))), ?_⟩
    refine ⟨_, rfl, _, rfl, x, a, p, rfl, ⟨dx, hx⟩, ha, _, rfl, iteF ?_⟩
    -- -x
    refine ⟨_, rfl, x, dx, _, rfl, hx, x, p, rfl, ⟨dx, hx⟩, lp.s4, fun u1 H1 e1 n1 r1 => ?_⟩
    refine ⟨_, rfl, _, _, _, _, rfl, rfl, SqT.of (ha.ex e1), rfl, _, rfl, _, rfl, _, _, _, _, rfl, rfl, SqT.of (ha.ex e1), rfl, (by show 2 ≤ sizeLine; exact sz2), fun t ht => ?_⟩
    refine ⟨u1, t, (-p.1, p.2), rfl, by rw [← lo_neg lp]; exact r1.ex (Ex.new ht), upd_same, _, rfl, iteF ?_⟩
    have E2 : Ex H (upd H1 t (.tup [.int (-p.1), .int p.2])) := e1.to ht
    generalize upd H1 t (.tup [.int (-p.1), .int p.2]) = H2 at E2 ⊢
    -- abs(x)
    refine ⟨_, rfl, x, dx, _, rfl, E2 _ _ hx, x, p, rfl, ⟨dx, E2 _ _ hx⟩, lp.s4, fun u3 H3 e3 n3 r3 => ?_⟩
    have E3 := E2.trans e3
    refine ⟨_, rfl, _, _, _, _, rfl, rfl, SqT.of (ha.ex E3), rfl, _, rfl, _, rfl, _, _, _, _, rfl, rfl, SqT.of (ha.ex E3), rfl, (by show 2 ≤ sizeLine; exact sz2), fun t ht => ?_⟩
    refine ⟨u3, t, (if p.1 < 0 then -p.1 else p.1, p.2), rfl, by rw [← lo_abs lp]; exact r3.ex (Ex.new ht), upd_same, _, rfl, iteF ?_⟩
    have E4 : Ex H (upd H3 t (.tup [.int (if p.1 < 0 then -p.1 else p.1), .int p.2])) := Ex.to E3 ht
    refine ⟨_, rfl, _, rfl, _, rfl, _, rfl, x, x, a, a, p, p, rfl, ⟨dx, E4 _ _ hx⟩, ⟨dx, E4 _ _ hx⟩, ha.ex E4, ha.ex E4, lp, lp, fun H5 e5 => ⟨true, rfl, ?_⟩⟩
    have E5 := E4.trans e5
    exact ⟨_, rfl, _, rfl, x, a, p, rfl, ⟨dx, E5 _ _ hx⟩, ha.ex E5, lp, fun H6 e6 => k _ (E5.trans e6)⟩
end
end Fc
set_option Elab.async false
set_option linter.all false
set_option maxRecDepth 100000
set_option maxHeartbeats 4000000
set_option exponentiation.threshold 100000
namespace Fc
open PySem PySem.Spec PyProof.Rows L2
section
variable {P : Program} {w : World} {K : PySem.W.Frag} {mg : Str → Option Value} {base : Heap} {A : Ad}
theorem Lw.of {q : Int × Int} (h : Sm 220 q) : Lw (lo q.1 q.2) := ⟨Sm.lo h.t h.b h.ne, lo_cop h.ne⟩
theorem lo_k {q : Int × Int} (h : Sm 220 q) {k : Int} (k0 : k ≠ 0) : lo (q.1 * k) (q.2 * k) = lo q.1 q.2 := lo_mul h.ne k0
theorem bd_k {q : Int × Int} (h : Sm 220 q) {k : Int} (bk : Bd 3 k) : Bd 8900 (q.2 * k) := (h.b.mul bk).mono (by decide)
/-- behind the draws -/
structure M1 (H : Hp) (p ta tb tc t1 t2 t3 : Addr) (qa qb qc : Int × Int) (m1 m2 m3 many : Int) : Prop where
  pt : PotAt H p
  pa : Pr H ta qa
  pb : Pr H tb qb
  pc : Pr H tc qc
  p1 : Pr H t1 (qa.1 * m1, qa.2 * m1)
  p2 : Pr H t2 (qb.1 * m2, qb.2 * m2)
  p3 : Pr H t3 (qc.1 * m3, qc.2 * m3)
  sa : Sm 220 qa
  sb : Sm 220 qb
  s3 : Sm 3 qc
  z1 : m1 ≠ 0
  z2 : m2 ≠ 0
  z3 : m3 ≠ 0
  b1 : Bd 3 m1
  b2 : Bd 3 m2
  b3 : Bd 3 m3
  m0 : 0 ≤ many
  m64 : many ≤ 64
/-- behind the law's own lowest terms -/
structure M2 (H : Hp) (la lb lc t1 t2 t3 : Addr) (qa qb qc : Int × Int) (m1 m2 m3 many low high : Int) : Prop where
  pa : Pr H la (lo qa.1 qa.2)
  pb : Pr H lb (lo qb.1 qb.2)
  pc : Pr H lc (lo qc.1 qc.2)
  p1 : Pr H t1 (qa.1 * m1, qa.2 * m1)
  p2 : Pr H t2 (qb.1 * m2, qb.2 * m2)
  p3 : Pr H t3 (qc.1 * m3, qc.2 * m3)
  sa : Sm 220 qa
  sb : Sm 220 qb
  s3 : Sm 3 qc
  z1 : m1 ≠ 0
  z2 : m2 ≠ 0
  z3 : m3 ≠ 0
  b1 : Bd 3 m1
  b2 : Bd 3 m2
  b3 : Bd 3 m3
  m0 : 0 ≤ many
  m64 : many ≤ 64
  lw : low < 0
  hg : 64 < high
theorem M2.ex {H H' : Hp} {la lb lc t1 t2 t3 : Addr} {qa qb qc : Int × Int} {m1 m2 m3 many low high : Int} (m : M2 H la lb lc t1 t2 t3 qa qb qc m1 m2 m3 many low high) (e : Ex H H') : M2 H' la lb lc t1 t2 t3 qa qb qc m1 m2 m3 many low high :=
  ⟨m.pa.ex e, m.pb.ex e, m.pc.ex e, m.p1.ex e, m.p2.ex e, m.p3.ex e, m.sa, m.sb, m.s3, m.z1, m.z2, m.z3, m.b1, m.b2, m.b3, m.m0, m.m64, m.lw, m.hg⟩
/-- the three Ratios too -/
structure M3 (C : Addr) (H : Hp) (x y z : Addr) (pa pb pc : Int × Int) : Prop where
  rx : RatAt C H x pa
  ry : RatAt C H y pb
  rz : RatAt C H z pc
theorem M3.ex {C : Addr} {H H' : Hp} {x y z : Addr} {pa pb pc : Int × Int} (m : M3 C H x y z pa pb pc) (e : Ex H H') : M3 C H' x y z pa pb pc := ⟨m.rx.ex e, m.ry.ex e, m.rz.ex e⟩
def spLaw (K : PySem.W.Frag) : Sp := fun vs H Q _ => ∃ (a : Addr) (ns : List Int), vs = [.ref a] ∧ SqL K H a (ns.map V.int) ∧ ns.length ≤ 63 ∧ ∀ H', Q (.bl true) H'
theorem ok_law (T : Txt K mg A) : FnOk P w K mg base CX0 8 A.f_law A.d_law ["script"] (spLaw K) := by
  obtain ⟨ds, vds, b2⟩ := T.b_init2
  refine T.F_law.ok sc_law (fun vs H Q E h => ?_) (fun cdv Ar outer s H vs Q E hr h => ?_)
  · obtain ⟨a, ns, rfl, _⟩ := h
    rfl
  · obtain ⟨a0, ns, rfl, hS, hlen, k⟩ := h
    refine ⟨_, (pss_cons (ps_set (i := 1) sc_law.nd rfl (Or.inl rfl) (pe_call (ok_start T) (hr.mono (by decide)) rfl T.g_start T.F_start.kp T.b_start .nil pass0 (pa_cons (pv 0) pa_nil)))
      (pss_cons (ps_set (i := 2) sc_law.nd rfl (Or.inl rfl) (pe_call (ok_fraction T) (hr.mono (by decide)) rfl T.g_fraction T.F_fraction.kp T.b_fraction .nil pass0 (pa_cons (pv 1) pa_nil)))
      (pss_cons (ps_set (i := 3) sc_law.nd rfl (Or.inl rfl) (pe_call (ok_fraction T) (hr.mono (by decide)) rfl T.g_fraction T.F_fraction.kp T.b_fraction .nil pass0 (pa_cons (pv 1) pa_nil)))
      (pss_cons (ps_set (i := 4) sc_law.nd rfl (Or.inl rfl) (pe_tup (pa_cons (pe_op op_sub pe_int (pe_call (ok_digit T) (hr.mono (by decide)) rfl T.g_digit T.F_digit.kp T.b_digit .nil pass0 (pa_cons (pv 1) (pa_cons pe_int pa_nil)))) (pa_cons (pe_ix ix_list (pe_lst (pa_cons pe_int (pa_cons pe_int (pa_cons pe_int pa_nil)))) (pe_call (ok_digit T) (hr.mono (by decide)) rfl T.g_digit T.F_digit.kp T.b_digit .nil pass0 (pa_cons (pv 1) (pa_cons pe_int pa_nil))) (fun _ _ => rfl)) pa_nil))))
      (pss_cons (ps_set (i := 5) sc_law.nd rfl (Or.inl rfl) (pe_call (ok_digit T) (hr.mono (by decide)) rfl T.g_digit T.F_digit.kp T.b_digit .nil pass0 (pa_cons (pv 1) (pa_cons pe_int pa_nil))))
      (pss_cons (ps_set (i := 6) sc_law.nd rfl (Or.inl rfl) (pe_call (ok_handed T) (hr.mono (by decide)) rfl T.g_handed T.F_handed.kp T.b_handed .nil pass0 (pa_cons (pv 1) (pa_cons (pv 2) pa_nil))))
      (pss_cons (ps_set (i := 7) sc_law.nd rfl (Or.inl rfl) (pe_call (ok_handed T) (hr.mono (by decide)) rfl T.g_handed T.F_handed.kp T.b_handed .nil pass0 (pa_cons (pv 1) (pa_cons (pv 3) pa_nil))))
      (C8.pss_cut (ps_set (i := 8) sc_law.nd rfl (Or.inl rfl) (pe_call (ok_handed T) (hr.mono (by decide)) rfl T.g_handed T.F_handed.kp T.b_handed .nil pass0 (pa_cons (pv 1) (pa_cons (pv 4) pa_nil))))
      (pss_cons (ps_set (i := 9) sc_law.nd rfl (Or.inl rfl) (pe_op op_sub (pe_un un_neg pe_int) (pe_call (ok_digit T) (hr.mono (by decide)) rfl T.g_digit T.F_digit.kp T.b_digit .nil pass0 (pa_cons (pv 1) (pa_cons pe_int pa_nil)))))
      (pss_cons (ps_set (i := 10) sc_law.nd rfl (Or.inl rfl) (pe_op op_add pe_int (pe_call (ok_digit T) (hr.mono (by decide)) rfl T.g_digit T.F_digit.kp T.b_digit .nil pass0 (pa_cons (pv 1) (pa_cons pe_int pa_nil)))))
      (pss_cons (ps_set (i := 2) sc_law.nd rfl (Or.inl rfl) (pe_call (ok_lowest T) (hr.mono (by decide)) rfl T.g_lowest T.F_lowest.kp T.b_lowest .nil pass0 (pa_cons (pe_ix ix_tup (pv 2) pe_int (fun _ _ => rfl)) (pa_cons (pe_ix ix_tup (pv 2) pe_int (fun _ _ => rfl)) pa_nil))))
      (pss_cons (ps_set (i := 3) sc_law.nd rfl (Or.inl rfl) (pe_call (ok_lowest T) (hr.mono (by decide)) rfl T.g_lowest T.F_lowest.kp T.b_lowest .nil pass0 (pa_cons (pe_ix ix_tup (pv 3) pe_int (fun _ _ => rfl)) (pa_cons (pe_ix ix_tup (pv 3) pe_int (fun _ _ => rfl)) pa_nil))))
      (C8.pss_cut (ps_set (i := 4) sc_law.nd rfl (Or.inl rfl) (pe_call (ok_lowest T) (hr.mono (by decide)) rfl T.g_lowest T.F_lowest.kp T.b_lowest .nil pass0 (pa_cons (pe_ix ix_tup (pv 4) pe_int (fun _ _ => rfl)) (pa_cons (pe_ix ix_tup (pv 4) pe_int (fun _ _ => rfl)) pa_nil))))
      (pss_cons (ps_set (i := 11) sc_law.nd rfl (Or.inl rfl) (pe_make T.mkC (ok_init T) (hr.mono (by decide)) rfl T.g_Ratio T.b_init3 .nil passL (pa_cons (pe_ix ix_tup (pv 6) pe_int (fun _ _ => rfl)) (pa_cons (pe_ix ix_tup (pv 6) pe_int (fun _ _ => rfl)) pa_nil))))
      (pss_cons (ps_set (i := 12) sc_law.nd rfl (Or.inl rfl) (pe_make T.mkC (ok_init T) (hr.mono (by decide)) rfl T.g_Ratio T.b_init3 .nil passL (pa_cons (pe_ix ix_tup (pv 7) pe_int (fun _ _ => rfl)) (pa_cons (pe_ix ix_tup (pv 7) pe_int (fun _ _ => rfl)) pa_nil))))
      (C8.pss_cut (ps_set (i := 13) sc_law.nd rfl (Or.inl rfl) (pe_make T.mkC (ok_init T) (hr.mono (by decide)) rfl T.g_Ratio T.b_init3 .nil passL (pa_cons (pe_ix ix_tup (pv 8) pe_int (fun _ _ => rfl)) (pa_cons (pe_ix ix_tup (pv 8) pe_int (fun _ _ => rfl)) pa_nil))))
      (pss_cons (ps_if (pt_not (pt_val (pe_call (ok_lis T) (hr.mono (by decide)) rfl T.g_lis T.F_lis.kp T.b_lis .nil pass0 (pa_cons (pe_make T.mkC (ok_init T) (hr.mono (by decide)) rfl T.g_Ratio b2 vds passL (pa_cons (pe_ix ix_tup (pv 6) pe_int (fun _ _ => rfl)) pa_nil)) (pa_cons (pe_tup (pa_cons (pe_ix ix_tup (pv 6) pe_int (fun _ _ => rfl)) (pa_cons pe_int pa_nil))) pa_nil)))))
      (pss_one (ps_ret pe_bl)) pss_nil)
      (pss_cons (ps_if (PW.pt (pw_or (pt_not (pt_val (pe_call (ok_alone T) (hr.mono (by decide)) rfl T.g_alone T.F_alone.kp T.b_alone .nil pass0 (pa_cons (pv 11) (pa_cons (pv 2) pa_nil))))) (pw_or (pt_not (pt_val (pe_call (ok_alone T) (hr.mono (by decide)) rfl T.g_alone T.F_alone.kp T.b_alone .nil pass0 (pa_cons (pv 12) (pa_cons (pv 3) pa_nil))))) (pw_or1 (pt_not (pt_val (pe_call (ok_alone T) (hr.mono (by decide)) rfl T.g_alone T.F_alone.kp T.b_alone .nil pass0 (pa_cons (pv 13) (pa_cons (pv 4) pa_nil)))))))))
      (pss_one (ps_ret pe_bl)) pss_nil)
      (pss_cons (ps_if (PW.pt (pw_or (pt_not (pt_val (pe_call (ok_four T) (hr.mono (by decide)) rfl T.g_four T.F_four.kp T.b_four .nil pass0 (pa_cons (pv 11) (pa_cons (pv 12) (pa_cons (pv 2) (pa_cons (pv 3) pa_nil))))))) (pw_or1 (pt_not (pt_val (pe_call (ok_four T) (hr.mono (by decide)) rfl T.g_four T.F_four.kp T.b_four .nil pass0 (pa_cons (pv 12) (pa_cons (pv 11) (pa_cons (pv 3) (pa_cons (pv 2) pa_nil))))))))))
      (pss_one (ps_ret pe_bl)) pss_nil)
      (pss_cons (ps_if (pt_not (pt_val (pe_call (ok_great T) (hr.mono (by decide)) rfl T.g_great T.F_great.kp T.b_great .nil pass0 (pa_cons (pv 13) (pa_cons (pv 4) (pa_cons (pv 5) pa_nil))))))
      (pss_one (ps_ret pe_bl)) pss_nil)
      (C8.pss_cut (ps_if (PW.pt (pw_or (pt_not (pt_val (pe_call (ok_nobot T) (hr.mono (by decide)) rfl T.g_nobot T.F_nobot.kp T.b_nobot .nil pass0 (pa_cons (pe_ix ix_tup (pv 6) pe_int (fun _ _ => rfl)) pa_nil)))) (pw_or1 (pt_not (pt_val (pe_call (ok_nobot T) (hr.mono (by decide)) rfl T.g_nobot T.F_nobot.kp T.b_nobot .nil pass0 (pa_cons pe_int pa_nil)))))))
      (pss_one (ps_ret pe_bl)) pss_nil)
      (C8.pss_cut (ps_set (i := 14) sc_law.nd rfl (Or.inl rfl) (pe_make T.mkC (ok_init T) (hr.mono (by decide)) rfl T.g_Ratio T.b_init3 .nil passL (pa_cons pe_int (pa_cons (pe_ix ix_tup (pv 7) pe_int (fun _ _ => rfl)) pa_nil))))
      (pss_cons (ps_if (PW.pt (pw_or (pt_not (pt_val (pe_call (ok_lis T) (hr.mono (by decide)) rfl T.g_lis T.F_lis.kp T.b_lis .nil pass0 (pa_cons (pv 14) (pa_cons (pe_tup (pa_cons pe_int (pa_cons pe_int pa_nil))) pa_nil))))) (pw_or1 (pt_not (pt_val (pe_call (ok_noquo T) (hr.mono (by decide)) rfl T.g_noquo T.F_noquo.kp T.b_noquo .nil pass0 (pa_cons (pv 11) (pa_cons (pv 14) pa_nil))))))))
      (pss_one (ps_ret pe_bl)) pss_nil)
      (pss_cons (ps_if (pt_not (pt_val (pe_call (ok_noquo T) (hr.mono (by decide)) rfl T.g_noquo T.F_noquo.kp T.b_noquo .nil pass0 (pa_cons (pv 14) (pa_cons (pv 14) pa_nil)))))
      (pss_one (ps_ret pe_bl)) pss_nil)
      (pss_cons (ps_if (PW.pt (pw_or (pt_not (pt_val (pe_call (ok_noexp T) (hr.mono (by decide)) rfl T.g_noexp T.F_noexp.kp T.b_noexp .nil pass0 (pa_cons (pv 11) (pa_cons (pv 9) pa_nil))))) (pw_or1 (pt_not (pt_val (pe_call (ok_noexp T) (hr.mono (by decide)) rfl T.g_noexp T.F_noexp.kp T.b_noexp .nil pass0 (pa_cons (pv 12) (pa_cons (pv 10) pa_nil))))))))
      (pss_one (ps_ret pe_bl)) pss_nil)
      (pss_cons (ps_if (PW.pt (pw_or (pt_not (pt_val (pe_call (ok_noexp T) (hr.mono (by decide)) rfl T.g_noexp T.F_noexp.kp T.b_noexp .nil pass0 (pa_cons (pv 13) (pa_cons (pe_un un_neg pe_int) pa_nil))))) (pw_or1 (pt_not (pt_val (pe_call (ok_noexp T) (hr.mono (by decide)) rfl T.g_noexp T.F_noexp.kp T.b_noexp .nil pass0 (pa_cons (pv 13) (pa_cons pe_int pa_nil))))))))
      (pss_one (ps_ret pe_bl)) pss_nil)
      (pss_cons (ps_if (pt_not (pt_val (pe_call (ok_four T) (hr.mono (by decide)) rfl T.g_four T.F_four.kp T.b_four .nil pass0 (pa_cons (pv 11) (pa_cons (pv 12) (pa_cons (pv 2) (pa_cons (pv 3) pa_nil)))))))
      (pss_one (ps_ret pe_bl)) pss_nil)
      (pss_one (ps_ret (pe_and (pe_call (ok_lis T) (hr.mono (by decide)) rfl T.g_lis T.F_lis.kp T.b_lis .nil pass0 (pa_cons (pv 11) (pa_cons (pv 2) pa_nil))) (pe_and (pe_call (ok_lis T) (hr.mono (by decide)) rfl T.g_lis T.F_lis.kp T.b_lis .nil pass0 (pa_cons (pv 12) (pa_cons (pv 3) pa_nil))) (pe_one (pe_call (ok_lis T) (hr.mono (by decide)) rfl T.g_lis T.F_lis.kp T.b_lis .nil pass0 (pa_cons (pv 13) (pa_cons (pv 4) pa_nil))))))))))))))))))))))))))))))))))), ?_⟩
    refine ⟨_, rfl, a0, ns, rfl, hS, hlen, fun p H1 pt1 e1 n1 => ?_⟩
    refine ⟨_, rfl, p, rfl, pt1, fun ta qa H2 pa na sa pt2 k2 => ?_⟩
    refine ⟨_, rfl, p, rfl, pt2, fun tb qb H3 pb nb sb pt3 k3 => ?_⟩
    replace pa := pa.keep pt2 k3
    -- c
    refine ⟨_, rfl, p, 7, rfl, pt3, by decide, bd_of (by decide), fun d1 H4 a1 b1 pt4 k4 => ?_⟩
    replace pa := pa.keep pt3 k4
    replace pb := pb.keep pt3 k4
    refine ⟨_, _, rfl, rfl, (by show 3 ≤ sizeLine; exact sz3), fun L hL => ?_⟩
    have eL : Ex H4 (upd H4 L (.lst [.int 2, .int 3, .int 1])) := Ex.new hL
    have nLp : L ≠ p := pt4.ne hL
    refine ⟨_, rfl, p, 3, rfl, pt4.ex eL, by decide, bd_of (by decide), fun d2 H5 a2 b2' pt5 k5 => ?_⟩
    obtain ⟨v, hv, v1, v3⟩ : ∃ v : Int, atI [V.int 2, V.int 3, V.int 1] d2 = some (.int v) ∧ 1 ≤ v ∧ v ≤ 3 := by
      have : d2 = 0 ∨ d2 = 1 ∨ d2 = 2 := by omega
      rcases this with rfl | rfl | rfl
      · exact ⟨2, rfl, by decide, by decide⟩
      · exact ⟨3, rfl, by decide, by decide⟩
      · exact ⟨1, rfl, by decide, by decide⟩
    refine ⟨_, _, _, _, rfl, rfl, SqL.of (k5 L _ upd_same nLp), hv, (by show 2 ≤ sizeLine; exact sz2), fun tc htc => ?_⟩
    replace pa := ((pa.ex eL).keep (pt4.ex eL) k5).ex (Ex.new (o := .tup [.int (3 - d1), .int v]) htc)
    replace pb := ((pb.ex eL).keep (pt4.ex eL) k5).ex (Ex.new (o := .tup [.int (3 - d1), .int v]) htc)
    have pc : Pr (upd H5 tc (.tup [.int (3 - d1), .int v])) tc (3 - d1, v) := upd_same
    have pt6 : PotAt (upd H5 tc (.tup [.int (3 - d1), .int v])) p := pt5.ex (Ex.new htc)
    generalize upd H5 tc (.tup [.int (3 - d1), .int v]) = H6 at pa pb pc pt6 ⊢
    obtain ⟨qc, eqc⟩ : ∃ qc : Int × Int, qc = (3 - d1, v) := ⟨_, rfl⟩
    have s3 : Sm 3 qc := by
      rw [eqc]
      refine ⟨?_, ?_, by show 0 < v; omega⟩
      · show (3 - d1).natAbs < 2 ^ 3; omega
      · show v.natAbs < 2 ^ 3; omega
    have sc : Sm 220 qc := s3.mono (by decide)
    rw [← eqc] at pc
    -- many
    refine ⟨_, rfl, p, 65, rfl, pt6, by decide, bd_of (by decide), fun many H7 m0 m64 pt7 k7 => ?_⟩
    replace pa := pa.keep pt6 k7
    replace pb := pb.keep pt6 k7
    replace pc := pc.keep pt6 k7
    -- first, second, third
    refine ⟨_, rfl, _, rfl, p, ta, qa, rfl, pt7, pa, sa, fun t1 m1 H8 z1 bm1 p1 n1 pt8 k8 => ?_⟩
    replace pa := pa.keep pt7 k8
    replace pb := pb.keep pt7 k8
    replace pc := pc.keep pt7 k8
    refine ⟨_, rfl, _, rfl, p, tb, qb, rfl, pt8, pb, sb, fun t2 m2 H9 z2 bm2 p2 n2 pt9 k9 => ?_⟩
    replace pa := pa.keep pt8 k9
    replace pb := pb.keep pt8 k9
    replace pc := pc.keep pt8 k9
    replace p1 := p1.keep pt8 k9
    refine ⟨fun sl H' => ∃ (p ta tb tc t1 t2 t3 : Addr) (qa qb qc : Int × Int) (m1 m2 m3 many : Int), sl = [some (.ref a0), some (.ref p), some (.ref ta), some (.ref tb), some (.ref tc), some (.int many), some (.ref t1), some (.ref t2), some (.ref t3), none, none, none, none, none, none] ∧
      M1 H' p ta tb tc t1 t2 t3 qa qb qc m1 m2 m3 many, ?_, ?_⟩
    · refine ⟨_, rfl, _, rfl, p, tc, qc, rfl, pt9, pc, sc, fun t3 m3 H10 z3 bm3 p3 n3 pt10 k10 => ?_⟩
      exact ⟨p, ta, tb, tc, t1, t2, t3, qa, qb, qc, m1, m2, m3, many, rfl, pt10, pa.keep pt9 k10, pb.keep pt9 k10, pc.keep pt9 k10, p1.keep pt9 k10, p2.keep pt9 k10, p3, sa, sb, s3, z1, z2, z3, bm1, bm2, bm3, m0, by omega⟩
    rintro sl H10 ⟨p, ta, tb, tc, t1, t2, t3, qa, qb, qc, m1, m2, m3, many, rfl, M⟩
    obtain ⟨pt10, pa, pb, pc, p1, p2, p3, sa, sb, s3, z1, z2, z3, bm1, bm2, bm3, m0, m64⟩ := M
    have sc : Sm 220 qc := s3.mono (by decide)
    -- low, high
    refine ⟨_, rfl, _, rfl, p, 1000, rfl, pt10, by decide, bd_of (by decide), fun dl H11 l0 l1 pt11 k11 => ?_⟩
    replace pa := pa.keep pt10 k11
    replace pb := pb.keep pt10 k11
    replace pc := pc.keep pt10 k11
    replace p1 := p1.keep pt10 k11
    replace p2 := p2.keep pt10 k11
    replace p3 := p3.keep pt10 k11
    refine ⟨_, _, rfl, rfl, _, rfl, p, 1000, rfl, pt11, by decide, bd_of (by decide), fun dh H12 h0 h1 pt12 k12 => ?_⟩
    replace pa := pa.keep pt11 k12
    replace pb := pb.keep pt11 k12
    replace pc := pc.keep pt11 k12
    replace p1 := p1.keep pt11 k12
    replace p2 := p2.keep pt11 k12
    replace p3 := p3.keep pt11 k12
    -- lowest terms
    refine ⟨_, _, rfl, rfl, _, rfl, _, _, _, _, rfl, rfl, SqT.of pa, rfl, _, rfl, _, _, _, _, rfl, rfl, SqT.of pa, rfl, _, _, rfl, sa.ne, sa.b.mono (by decide), fun la H13 qla e13 _ => ?_⟩
    refine ⟨_, rfl, _, _, _, _, rfl, rfl, SqT.of (pb.ex e13), rfl, _, rfl, _, _, _, _, rfl, rfl, SqT.of (pb.ex e13), rfl, _, _, rfl, sb.ne, sb.b.mono (by decide), fun lb H14 qlb e14 _ => ?_⟩
    have E14 := e13.trans e14
    refine ⟨fun sl H' => ∃ (p la lb lc t1 t2 t3 : Addr) (qa qb qc : Int × Int) (m1 m2 m3 many low high : Int), sl = [some (.ref a0), some (.ref p), some (.ref la), some (.ref lb), some (.ref lc), some (.int many), some (.ref t1), some (.ref t2), some (.ref t3), some (.int low), some (.int high), none, none, none, none] ∧
      M2 H' la lb lc t1 t2 t3 qa qb qc m1 m2 m3 many low high, ?_, ?_⟩
    · refine ⟨_, rfl, _, _, _, _, rfl, rfl, SqT.of (pc.ex E14), rfl, _, rfl, _, _, _, _, rfl, rfl, SqT.of (pc.ex E14), rfl, _, _, rfl, sc.ne, sc.b.mono (by decide), fun lc H15 qlc e15 _ => ?_⟩
      have E15 := E14.trans e15
      exact ⟨p, la, lb, lc, t1, t2, t3, qa, qb, qc, m1, m2, m3, many, _, _, rfl, qla.ex (e14.trans e15), qlb.ex e15, qlc, p1.ex E15, p2.ex E15, p3.ex E15, sa, sb, s3, z1, z2, z3, bm1, bm2, bm3, m0, m64, by omega, by omega⟩
    rintro sl H15 ⟨p, la, lb, lc, t1, t2, t3, qa, qb, qc, m1, m2, m3, many, low, high, rfl, M⟩
    clear e1 n1 pt1
    have sc : Sm 220 qc := M.s3.mono (by decide)
    have lwa : Lw (lo qa.1 qa.2) := .of M.sa
    have lwb : Lw (lo qb.1 qb.2) := .of M.sb
    have lwc : Lw (lo qc.1 qc.2) := .of sc
    have s3c : Sm 3 (lo qc.1 qc.2) := Sm.lo M.s3.t M.s3.b M.s3.ne
    have ny : qb.2 * m2 ≠ 0 := Int.mul_ne_zero M.sb.ne M.z2
    -- x, y, z
    refine ⟨_, rfl, _, _, _, _, rfl, rfl, SqT.of M.p1, rfl, _, rfl, _, _, _, _, rfl, rfl, SqT.of M.p1, rfl, ?_⟩
    intro x dx nx nd _
    refine ⟨x, dx, _, _, rfl, upd_same, fun z => absurd z (Int.mul_ne_zero M.sa.ne M.z1), fun _ => ⟨bd_k M.sa M.b1, fun H16 rx kp => ⟨rfl, ?_⟩⟩⟩
    have M' := M.ex (Same.made nx nd kp)
    clear nx nd kp M
    rw [lo_k M'.sa M'.z1] at rx
    refine ⟨_, rfl, _, _, _, _, rfl, rfl, SqT.of M'.p2, rfl, _, rfl, _, _, _, _, rfl, rfl, SqT.of M'.p2, rfl, ?_⟩
    intro y dy nx nd _
    refine ⟨y, dy, _, _, rfl, upd_same, fun z => absurd z ny, fun _ => ⟨bd_k M'.sb M'.b2, fun H17 ry kp => ⟨rfl, ?_⟩⟩⟩
    have e17 := Same.made nx nd kp
    have M := M'.ex e17
    replace rx := rx.ex e17
    clear nx nd kp M' e17
    rw [lo_k M.sb M.z2] at ry
    refine ⟨fun sl H' => ∃ z, sl = [some (.ref a0), some (.ref p), some (.ref la), some (.ref lb), some (.ref lc), some (.int many), some (.ref t1), some (.ref t2), some (.ref t3), some (.int low), some (.int high), some (.ref x), some (.ref y), some (.ref z), none] ∧
      M2 H' la lb lc t1 t2 t3 qa qb qc m1 m2 m3 many low high ∧ M3 A.C H' x y z (lo qa.1 qa.2) (lo qb.1 qb.2) (lo qc.1 qc.2), ?_, ?_⟩
    · refine ⟨_, rfl, _, _, _, _, rfl, rfl, SqT.of M.p3, rfl, _, rfl, _, _, _, _, rfl, rfl, SqT.of M.p3, rfl, ?_⟩
      intro z dz nx nd _
      refine ⟨z, dz, _, _, rfl, upd_same, fun z => absurd z (Int.mul_ne_zero sc.ne M.z3), fun _ => ⟨bd_k sc M.b3, fun G rz kp => ⟨rfl, ?_⟩⟩⟩
      have e18 := Same.made nx nd kp
      rw [lo_k sc M.z3] at rz
      exact ⟨z, rfl, M.ex e18, rx.ex e18, ry.ex e18, rz⟩
    clear rx ry M
    rintro sl G ⟨z, rfl, M, ⟨rx, ry, rz⟩⟩
    -- Ratio(first[0])
    refine ⟨_, rfl, _, _, _, _, rfl, rfl, SqT.of M.p1, rfl, ?_⟩
    intro u du nx nd _
    refine ⟨u, du, _, _, rfl, upd_same, fun z => absurd z (by decide), fun _ => ⟨bd_of (show (1 : Int).natAbs < 2 ^ 8900 from Nat.one_lt_two_pow (by decide)), fun G1 ru kp => ⟨rfl, ?_⟩⟩⟩
    have e1 : Ex G G1 := Same.made nx nd kp
    clear nx nd kp
    rw [lo_one] at ru
    refine ⟨_, rfl, _, _, _, _, rfl, rfl, SqT.of (M.p1.ex e1), rfl, (by show 2 ≤ sizeLine; exact sz2), fun t ht => ⟨u, t, _, rfl, ru.ex (Ex.new ht), upd_same, _, rfl, iteF ?_⟩⟩
    have E2 : Ex G (upd G1 t (.tup [.int (qa.1 * m1), .int 1])) := Ex.to e1 ht
    generalize upd G1 t (.tup [.int (qa.1 * m1), .int 1]) = G2 at E2 ⊢
    clear e1 ru ht
    -- alone
    refine ⟨_, rfl, _, rfl, x, la, _, rfl, rx.ex E2, M.pa.ex E2, lwa, fun G3 e3 => ⟨_, rfl, iteF ?_⟩⟩
    have E3 := E2.trans e3
    refine ⟨_, rfl, _, rfl, y, lb, _, rfl, ry.ex E3, M.pb.ex E3, lwb, fun G4 e4 => ⟨_, rfl, iteF ?_⟩⟩
    have E4 := E3.trans e4
    refine ⟨_, rfl, _, rfl, z, lc, _, rfl, rz.ex E4, M.pc.ex E4, lwc, fun G5 e5 => ⟨_, rfl, iteF ?_⟩⟩
    have E5 := E4.trans e5
    -- four
    refine ⟨_, rfl, _, rfl, _, rfl, _, rfl, x, y, la, lb, _, _, rfl, rx.ex E5, ry.ex E5, M.pa.ex E5, M.pb.ex E5, lwa, lwb, fun G6 e6 => ⟨_, rfl, iteF ?_⟩⟩
    have E6 := E5.trans e6
    refine ⟨_, rfl, _, rfl, _, rfl, _, rfl, y, x, lb, la, _, _, rfl, ry.ex E6, rx.ex E6, M.pb.ex E6, M.pa.ex E6, lwb, lwa, fun G7 e7 => ⟨_, rfl, iteF ?_⟩⟩
    have E7 := E6.trans e7
    -- great powers
    refine ⟨_, rfl, _, rfl, _, rfl, z, lc, many, _, rfl, rz.ex E7, M.pc.ex E7, lwc, s3c, M.m0, M.m64, fun G8 e8 => ⟨_, rfl, iteF ?_⟩⟩
    have E8 := E7.trans e8
    -- no bottom
    refine ⟨fun sl H' => sl = [some (.ref a0), some (.ref p), some (.ref la), some (.ref lb), some (.ref lc), some (.int many), some (.ref t1), some (.ref t2), some (.ref t3), some (.int low), some (.int high), some (.ref x), some (.ref y), some (.ref z), none] ∧ Ex G H', ?_, ?_⟩
    · refine ⟨_, rfl, _, _, _, _, rfl, rfl, SqT.of (M.p1.ex E8), rfl, _, rfl, fun G9 e9 => ⟨_, rfl, iteF ?_⟩⟩
      have E9 := E8.trans e9
      exact ⟨0, rfl, fun G10 e10 => ⟨_, rfl, iteF ⟨rfl, E9.trans e10⟩⟩⟩
    clear E2 E3 E4 E5 E6 E7 E8 e3 e4 e5 e6 e7 e8
    rintro sl G10 ⟨rfl, E10⟩
    -- zero
    refine ⟨fun sl H' => ∃ o, sl = [some (.ref a0), some (.ref p), some (.ref la), some (.ref lb), some (.ref lc), some (.int many), some (.ref t1), some (.ref t2), some (.ref t3), some (.int low), some (.int high), some (.ref x), some (.ref y), some (.ref z), some (.ref o)] ∧ Ex G H' ∧ RatAt A.C H' o (0, 1), ?_, ?_⟩
    · refine ⟨_, rfl, _, _, _, _, rfl, rfl, SqT.of (M.p2.ex E10), rfl, ?_⟩
      intro o od nx nd _
      refine ⟨o, od, _, _, rfl, upd_same, fun z => absurd z ny, fun _ => ⟨bd_k M.sb M.b2, fun G11 ro kp => ⟨rfl, ?_⟩⟩⟩
      rw [lo_zero ny] at ro
      exact ⟨o, rfl, E10.trans (Same.made nx nd kp), ro⟩
    clear E10
    rintro sl G11 ⟨o, rfl, E11, ro⟩
    have so : Sm 4000 ((0, 1) : Int × Int) := ⟨(bd_of (by show (0 : Int).natAbs < 2 ^ 4000; exact Nat.two_pow_pos _) : Bd 4000 (0 : Int)), (bd_of (by show (1 : Int).natAbs < 2 ^ 4000; exact Nat.one_lt_two_pow (by decide)) : Bd 4000 (1 : Int)), by decide⟩
    refine ⟨_, rfl, (by show 2 ≤ sizeLine; exact sz2), fun t ht => ⟨o, t, _, rfl, ro.ex (Ex.new ht), upd_same, _, rfl, iteF ?_⟩⟩
    have E12 : Ex G (upd G11 t (.tup [.int 0, .int 1])) := Ex.to E11 ht
    replace ro := ro.ex (Ex.new (o := .tup [.int 0, .int 1]) ht)
    generalize upd G11 t (.tup [.int 0, .int 1]) = G12 at E12 ro ⊢
    refine ⟨_, rfl, _, rfl, x, o, _, _, rfl, rx.ex E12, ro, lwa.s4, so, rfl, fun G13 e13 => ⟨_, rfl, iteF ?_⟩⟩
    have E13 := E12.trans e13
    refine ⟨_, rfl, _, rfl, o, o, _, _, rfl, ro.ex e13, ro.ex e13, so, so, rfl, fun G14 e14 => ⟨_, rfl, iteF ?_⟩⟩
    have E14 := E13.trans e14
    -- exponents
    refine ⟨_, rfl, _, rfl, x, _, _, rfl, rx.ex E14, .inl M.lw, fun G15 e15 => ⟨_, rfl, iteF ?_⟩⟩
    have E15 := E14.trans e15
    refine ⟨_, rfl, _, rfl, y, _, _, rfl, ry.ex E15, .inr M.hg, fun G16 e16 => ⟨_, rfl, iteF ?_⟩⟩
    have E16 := E15.trans e16
    refine ⟨_, rfl, _, rfl, z, _, _, rfl, rz.ex E16, .inl (by decide), fun G17 e17 => ⟨_, rfl, iteF ?_⟩⟩
    have E17 := E16.trans e17
    refine ⟨_, rfl, z, _, _, rfl, rz.ex E17, .inr (by decide), fun G18 e18 => ⟨_, rfl, iteF ?_⟩⟩
    have E18 := E17.trans e18
    refine ⟨_, rfl, _, rfl, _, rfl, _, rfl, x, y, la, lb, _, _, rfl, rx.ex E18, ry.ex E18, M.pa.ex E18, M.pb.ex E18, lwa, lwb, fun G19 e19 => ⟨_, rfl, iteF ?_⟩⟩
    have E19 := E18.trans e19
    exact ⟨_, rfl, _, rfl, x, la, _, rfl, rx.ex E19, M.pa.ex E19, true, rfl, _, rfl, _, rfl, y, lb, _, rfl, ry.ex E19, M.pb.ex E19, true, rfl, _, rfl, _, rfl, z, lc, _, rfl, rz.ex E19, M.pc.ex E19, k _⟩
end
end Fc
set_option Elab.async false
set_option linter.all false
set_option maxRecDepth 100000
set_option maxHeartbeats 4000000
namespace Fc
open PySem PySem.Spec PyProof.Rows L2
theorem kit_ref {K : PySem.W.Frag} {t : Value} {D : Addr} {b : Bool} (hd : PySem.W.hasDictIn K D = true) (ht : PySem.W.typeIn K (.ref D) = some (.type "type")) (hs : PySem.W.subIn K t (.ref D) = some b) (ne : t ≠ .ref D) : PySem.W.kitOne K t (.ref D) = some b := by
  obtain ⟨cd, hc, _⟩ := PySem.W.any_some hd
  have e2 : ((PySem.W.clsIn K D).isSome && PySem.W.typeIn K (.ref D) == some (.type "type")) = true := by rw [hc, ht] <;> rfl
  unfold PySem.W.kitOne
  rw [if_neg (fun z => ne (beq_iff_eq.mp z))]
  show (if ((PySem.W.clsIn K D).isSome && PySem.W.typeIn K (.ref D) == some (.type "type")) = true then PySem.W.subIn K t (.ref D) else none) = some b
  rw [if_pos e2]
  exact hs
theorem kit_typ {K : PySem.W.Frag} {D : Addr} {S : String} {b : Bool} (hm : PySem.W.kitMeta S = true) (hs : PySem.W.subIn K (.ref D) (.type S) = some b) : PySem.W.kitOne K (.ref D) (.type S) = some b := by
  unfold PySem.W.kitOne
  rw [if_neg (fun z => by cases beq_iff_eq.mp z)]
  show (if PySem.W.kitMeta S = true then PySem.W.subIn K (.ref D) (.type S) else none) = some b
  rw [if_pos hm]
  exact hs
theorem all_mk {l : PySem.W.OpenLaw} {w : World} {K : PySem.W.Frag} {h : Heap} {mg : Str → Option Value} {fa C CE Z O : Addr} (X : K.In h) (G : h.Ns mainGlobals mg) (hfa : mg "law" = some (.ref fa))
    {f_OB : Addr} {oc_OB kV_OB dc_OB pm_OB cd_OB ct_OB : Value} {od_OB an_OB : Option Addr} {sl_OB : Array (Option Value)}
    {f_add : Addr} {oc_add kV_add dc_add pm_add cd_add ct_add : Value} {od_add an_add : Option Addr} {sl_add : Array (Option Value)}
    {f_sub : Addr} {oc_sub kV_sub dc_sub pm_sub cd_sub ct_sub : Value} {od_sub an_sub : Option Addr} {sl_sub : Array (Option Value)}
    {f_mul : Addr} {oc_mul kV_mul dc_mul pm_mul cd_mul ct_mul : Value} {od_mul an_mul : Option Addr} {sl_mul : Array (Option Value)}
    {f_pow : Addr} {oc_pow kV_pow dc_pow pm_pow cd_pow ct_pow : Value} {od_pow an_pow : Option Addr} {sl_pow : Array (Option Value)}
    {f_neg : Addr} {oc_neg kV_neg dc_neg pm_neg cd_neg ct_neg : Value} {od_neg an_neg : Option Addr} {sl_neg : Array (Option Value)}
    {f_abs : Addr} {oc_abs kV_abs dc_abs pm_abs cd_abs ct_abs : Value} {od_abs an_abs : Option Addr} {sl_abs : Array (Option Value)}
    {f_divided : Addr} {oc_divided kV_divided dc_divided pm_divided cd_divided ct_divided : Value} {od_divided an_divided : Option Addr} {sl_divided : Array (Option Value)}
    {f_raised : Addr} {oc_raised kV_raised dc_raised pm_raised cd_raised ct_raised : Value} {od_raised an_raised : Option Addr} {sl_raised : Array (Option Value)}
    {f_start : Addr} {oc_start kV_start dc_start pm_start cd_start ct_start : Value} {od_start an_start : Option Addr} {sl_start : Array (Option Value)}
    {f_digit : Addr} {oc_digit kV_digit dc_digit pm_digit cd_digit ct_digit : Value} {od_digit an_digit : Option Addr} {sl_digit : Array (Option Value)}
    {f_fraction : Addr} {oc_fraction kV_fraction dc_fraction pm_fraction cd_fraction ct_fraction : Value} {od_fraction an_fraction : Option Addr} {sl_fraction : Array (Option Value)}
    {f_handed : Addr} {oc_handed kV_handed dc_handed pm_handed cd_handed ct_handed : Value} {od_handed an_handed : Option Addr} {sl_handed : Array (Option Value)}
    {f_lowest : Addr} {oc_lowest kV_lowest dc_lowest pm_lowest cd_lowest ct_lowest : Value} {od_lowest an_lowest : Option Addr} {sl_lowest : Array (Option Value)}
    {f_plus : Addr} {oc_plus kV_plus dc_plus pm_plus cd_plus ct_plus : Value} {od_plus an_plus : Option Addr} {sl_plus : Array (Option Value)}
    {f_times : Addr} {oc_times kV_times dc_times pm_times cd_times ct_times : Value} {od_times an_times : Option Addr} {sl_times : Array (Option Value)}
    {f_lis : Addr} {oc_lis kV_lis dc_lis pm_lis cd_lis ct_lis : Value} {od_lis an_lis : Option Addr} {sl_lis : Array (Option Value)}
    {f_nobot : Addr} {oc_nobot kV_nobot dc_nobot pm_nobot cd_nobot ct_nobot : Value} {od_nobot an_nobot : Option Addr} {sl_nobot : Array (Option Value)}
    {f_noquo : Addr} {oc_noquo kV_noquo dc_noquo pm_noquo cd_noquo ct_noquo : Value} {od_noquo an_noquo : Option Addr} {sl_noquo : Array (Option Value)}
    {f_noexp : Addr} {oc_noexp kV_noexp dc_noexp pm_noexp cd_noexp ct_noexp : Value} {od_noexp an_noexp : Option Addr} {sl_noexp : Array (Option Value)}
    {f_four : Addr} {oc_four kV_four dc_four pm_four cd_four ct_four : Value} {od_four an_four : Option Addr} {sl_four : Array (Option Value)}
    {f_small : Addr} {oc_small kV_small dc_small pm_small cd_small ct_small : Value} {od_small an_small : Option Addr} {sl_small : Array (Option Value)}
    {f_great : Addr} {oc_great kV_great dc_great pm_great cd_great ct_great : Value} {od_great an_great : Option Addr} {sl_great : Array (Option Value)}
    {f_alone : Addr} {oc_alone kV_alone dc_alone pm_alone cd_alone ct_alone : Value} {od_alone an_alone : Option Addr} {sl_alone : Array (Option Value)}
    {f_law : Addr} {oc_law kV_law dc_law pm_law cd_law ct_law : Value} {od_law an_law : Option Addr} {sl_law : Array (Option Value)}
    {f_init T_init : Addr} {oc_init kV_init dc_init pm_init cd_init ct_init : Value} {od_init an_init : Option Addr} {sl_init : Array (Option Value)} {oT : Value} {dT : Option Addr} {tT : Tok} {nT' : Nat} {sT : Array (Option Value)}
    {nm q : Str} {N : Addr} {bs : List Value} {sn : List Str} {sub : List Value} {ab : Bool} {col : Option Bool} {dd : Option Addr} {m0 m1 m2 m3 m5 fo ro : Option Value} {bm : List Value} {tk : Tok}
    (aC : PySem.W.nsIn K mainGlobals "Ratio" = some (some (.ref C)))
    (aCE : PySem.W.nsIn K mainGlobals "CarryError" = some (some (.ref CE)))
    (aZ : PySem.W.nsIn K mainGlobals "ZeroBottom" = some (some (.ref Z)))
    (aO : PySem.W.nsIn K mainGlobals "OutOfBounds" = some (some (.ref O)))
    (a_OB : PySem.W.findIn K (.ref O) "__init__" = some (some (.ref f_OB)))
    (i_OB : PySem.W.isFn K (.ref f_OB) = true)
    (l_OB : K.lookup f_OB = some ⟨oc_OB, od_OB, .func (PySem.W.fnOf "__init__" "OutOfBounds.__init__" (defArgs S_OB) (defBody S_OB) (defScope S_OB) .none kV_OB dc_OB pm_OB an_OB cd_OB ct_OB), sl_OB⟩)
    (c_OB : PySem.W.codeIn K cd_OB "OutOfBounds.__init__" = true)
    (k_OB : PySem.W.keepIn K (.ref f_OB) = true)
    (a_add : PySem.W.findIn K (.ref C) "__add__" = some (some (.ref f_add)))
    (i_add : PySem.W.isFn K (.ref f_add) = true)
    (l_add : K.lookup f_add = some ⟨oc_add, od_add, .func (PySem.W.fnOf "__add__" "Ratio.__add__" (defArgs S_add) (defBody S_add) (defScope S_add) .none kV_add dc_add pm_add an_add cd_add ct_add), sl_add⟩)
    (c_add : PySem.W.codeIn K cd_add "Ratio.__add__" = true)
    (k_add : PySem.W.keepIn K (.ref f_add) = true)
    (a_sub : PySem.W.findIn K (.ref C) "__sub__" = some (some (.ref f_sub)))
    (i_sub : PySem.W.isFn K (.ref f_sub) = true)
    (l_sub : K.lookup f_sub = some ⟨oc_sub, od_sub, .func (PySem.W.fnOf "__sub__" "Ratio.__sub__" (defArgs S_sub) (defBody S_sub) (defScope S_sub) .none kV_sub dc_sub pm_sub an_sub cd_sub ct_sub), sl_sub⟩)
    (c_sub : PySem.W.codeIn K cd_sub "Ratio.__sub__" = true)
    (k_sub : PySem.W.keepIn K (.ref f_sub) = true)
    (a_mul : PySem.W.findIn K (.ref C) "__mul__" = some (some (.ref f_mul)))
    (i_mul : PySem.W.isFn K (.ref f_mul) = true)
    (l_mul : K.lookup f_mul = some ⟨oc_mul, od_mul, .func (PySem.W.fnOf "__mul__" "Ratio.__mul__" (defArgs S_mul) (defBody S_mul) (defScope S_mul) .none kV_mul dc_mul pm_mul an_mul cd_mul ct_mul), sl_mul⟩)
    (c_mul : PySem.W.codeIn K cd_mul "Ratio.__mul__" = true)
    (k_mul : PySem.W.keepIn K (.ref f_mul) = true)
    (a_pow : PySem.W.findIn K (.ref C) "__pow__" = some (some (.ref f_pow)))
    (i_pow : PySem.W.isFn K (.ref f_pow) = true)
    (l_pow : K.lookup f_pow = some ⟨oc_pow, od_pow, .func (PySem.W.fnOf "__pow__" "Ratio.__pow__" (defArgs S_pow) (defBody S_pow) (defScope S_pow) .none kV_pow dc_pow pm_pow an_pow cd_pow ct_pow), sl_pow⟩)
    (c_pow : PySem.W.codeIn K cd_pow "Ratio.__pow__" = true)
    (k_pow : PySem.W.keepIn K (.ref f_pow) = true)
    (a_neg : PySem.W.findIn K (.ref C) "__neg__" = some (some (.ref f_neg)))
    (i_neg : PySem.W.isFn K (.ref f_neg) = true)
    (l_neg : K.lookup f_neg = some ⟨oc_neg, od_neg, .func (PySem.W.fnOf "__neg__" "Ratio.__neg__" (defArgs S_neg) (defBody S_neg) (defScope S_neg) .none kV_neg dc_neg pm_neg an_neg cd_neg ct_neg), sl_neg⟩)
    (c_neg : PySem.W.codeIn K cd_neg "Ratio.__neg__" = true)
    (k_neg : PySem.W.keepIn K (.ref f_neg) = true)
    (a_abs : PySem.W.findIn K (.ref C) "__abs__" = some (some (.ref f_abs)))
    (i_abs : PySem.W.isFn K (.ref f_abs) = true)
    (l_abs : K.lookup f_abs = some ⟨oc_abs, od_abs, .func (PySem.W.fnOf "__abs__" "Ratio.__abs__" (defArgs S_abs) (defBody S_abs) (defScope S_abs) .none kV_abs dc_abs pm_abs an_abs cd_abs ct_abs), sl_abs⟩)
    (c_abs : PySem.W.codeIn K cd_abs "Ratio.__abs__" = true)
    (k_abs : PySem.W.keepIn K (.ref f_abs) = true)
    (a_divided : PySem.W.findIn K (.ref C) "divided" = some (some (.ref f_divided)))
    (i_divided : PySem.W.isFn K (.ref f_divided) = true)
    (l_divided : K.lookup f_divided = some ⟨oc_divided, od_divided, .func (PySem.W.fnOf "divided" "Ratio.divided" (defArgs S_divided) (defBody S_divided) (defScope S_divided) .none kV_divided dc_divided pm_divided an_divided cd_divided ct_divided), sl_divided⟩)
    (c_divided : PySem.W.codeIn K cd_divided "Ratio.divided" = true)
    (k_divided : PySem.W.keepIn K (.ref f_divided) = true)
    (a_raised : PySem.W.findIn K (.ref C) "raised" = some (some (.ref f_raised)))
    (i_raised : PySem.W.isFn K (.ref f_raised) = true)
    (l_raised : K.lookup f_raised = some ⟨oc_raised, od_raised, .func (PySem.W.fnOf "raised" "Ratio.raised" (defArgs S_raised) (defBody S_raised) (defScope S_raised) .none kV_raised dc_raised pm_raised an_raised cd_raised ct_raised), sl_raised⟩)
    (c_raised : PySem.W.codeIn K cd_raised "Ratio.raised" = true)
    (k_raised : PySem.W.keepIn K (.ref f_raised) = true)
    (a_start : PySem.W.nsIn K mainGlobals "_law_start" = some (some (.ref f_start)))
    (l_start : K.lookup f_start = some ⟨oc_start, od_start, .func (PySem.W.fnOf "_law_start" "_law_start" (defArgs S_start) (defBody S_start) (defScope S_start) .none kV_start dc_start pm_start an_start cd_start ct_start), sl_start⟩)
    (c_start : PySem.W.codeIn K cd_start "_law_start" = true)
    (k_start : PySem.W.keepIn K (.ref f_start) = true)
    (a_digit : PySem.W.nsIn K mainGlobals "_law_digit" = some (some (.ref f_digit)))
    (l_digit : K.lookup f_digit = some ⟨oc_digit, od_digit, .func (PySem.W.fnOf "_law_digit" "_law_digit" (defArgs S_digit) (defBody S_digit) (defScope S_digit) .none kV_digit dc_digit pm_digit an_digit cd_digit ct_digit), sl_digit⟩)
    (c_digit : PySem.W.codeIn K cd_digit "_law_digit" = true)
    (k_digit : PySem.W.keepIn K (.ref f_digit) = true)
    (a_fraction : PySem.W.nsIn K mainGlobals "_law_fraction" = some (some (.ref f_fraction)))
    (l_fraction : K.lookup f_fraction = some ⟨oc_fraction, od_fraction, .func (PySem.W.fnOf "_law_fraction" "_law_fraction" (defArgs S_fraction) (defBody S_fraction) (defScope S_fraction) .none kV_fraction dc_fraction pm_fraction an_fraction cd_fraction ct_fraction), sl_fraction⟩)
    (c_fraction : PySem.W.codeIn K cd_fraction "_law_fraction" = true)
    (k_fraction : PySem.W.keepIn K (.ref f_fraction) = true)
    (a_handed : PySem.W.nsIn K mainGlobals "_law_handed" = some (some (.ref f_handed)))
    (l_handed : K.lookup f_handed = some ⟨oc_handed, od_handed, .func (PySem.W.fnOf "_law_handed" "_law_handed" (defArgs S_handed) (defBody S_handed) (defScope S_handed) .none kV_handed dc_handed pm_handed an_handed cd_handed ct_handed), sl_handed⟩)
    (c_handed : PySem.W.codeIn K cd_handed "_law_handed" = true)
    (k_handed : PySem.W.keepIn K (.ref f_handed) = true)
    (a_lowest : PySem.W.nsIn K mainGlobals "_law_lowest" = some (some (.ref f_lowest)))
    (l_lowest : K.lookup f_lowest = some ⟨oc_lowest, od_lowest, .func (PySem.W.fnOf "_law_lowest" "_law_lowest" (defArgs S_lowest) (defBody S_lowest) (defScope S_lowest) .none kV_lowest dc_lowest pm_lowest an_lowest cd_lowest ct_lowest), sl_lowest⟩)
    (c_lowest : PySem.W.codeIn K cd_lowest "_law_lowest" = true)
    (k_lowest : PySem.W.keepIn K (.ref f_lowest) = true)
    (a_plus : PySem.W.nsIn K mainGlobals "_law_plus" = some (some (.ref f_plus)))
    (l_plus : K.lookup f_plus = some ⟨oc_plus, od_plus, .func (PySem.W.fnOf "_law_plus" "_law_plus" (defArgs S_plus) (defBody S_plus) (defScope S_plus) .none kV_plus dc_plus pm_plus an_plus cd_plus ct_plus), sl_plus⟩)
    (c_plus : PySem.W.codeIn K cd_plus "_law_plus" = true)
    (k_plus : PySem.W.keepIn K (.ref f_plus) = true)
    (a_times : PySem.W.nsIn K mainGlobals "_law_times" = some (some (.ref f_times)))
    (l_times : K.lookup f_times = some ⟨oc_times, od_times, .func (PySem.W.fnOf "_law_times" "_law_times" (defArgs S_times) (defBody S_times) (defScope S_times) .none kV_times dc_times pm_times an_times cd_times ct_times), sl_times⟩)
    (c_times : PySem.W.codeIn K cd_times "_law_times" = true)
    (k_times : PySem.W.keepIn K (.ref f_times) = true)
    (a_lis : PySem.W.nsIn K mainGlobals "_law_is" = some (some (.ref f_lis)))
    (l_lis : K.lookup f_lis = some ⟨oc_lis, od_lis, .func (PySem.W.fnOf "_law_is" "_law_is" (defArgs S_lis) (defBody S_lis) (defScope S_lis) .none kV_lis dc_lis pm_lis an_lis cd_lis ct_lis), sl_lis⟩)
    (c_lis : PySem.W.codeIn K cd_lis "_law_is" = true)
    (k_lis : PySem.W.keepIn K (.ref f_lis) = true)
    (a_nobot : PySem.W.nsIn K mainGlobals "_law_no_bottom" = some (some (.ref f_nobot)))
    (l_nobot : K.lookup f_nobot = some ⟨oc_nobot, od_nobot, .func (PySem.W.fnOf "_law_no_bottom" "_law_no_bottom" (defArgs S_nobot) (defBody S_nobot) (defScope S_nobot) .none kV_nobot dc_nobot pm_nobot an_nobot cd_nobot ct_nobot), sl_nobot⟩)
    (c_nobot : PySem.W.codeIn K cd_nobot "_law_no_bottom" = true)
    (k_nobot : PySem.W.keepIn K (.ref f_nobot) = true)
    (a_noquo : PySem.W.nsIn K mainGlobals "_law_no_quotient" = some (some (.ref f_noquo)))
    (l_noquo : K.lookup f_noquo = some ⟨oc_noquo, od_noquo, .func (PySem.W.fnOf "_law_no_quotient" "_law_no_quotient" (defArgs S_noquo) (defBody S_noquo) (defScope S_noquo) .none kV_noquo dc_noquo pm_noquo an_noquo cd_noquo ct_noquo), sl_noquo⟩)
    (c_noquo : PySem.W.codeIn K cd_noquo "_law_no_quotient" = true)
    (k_noquo : PySem.W.keepIn K (.ref f_noquo) = true)
    (a_noexp : PySem.W.nsIn K mainGlobals "_law_no_exponent" = some (some (.ref f_noexp)))
    (l_noexp : K.lookup f_noexp = some ⟨oc_noexp, od_noexp, .func (PySem.W.fnOf "_law_no_exponent" "_law_no_exponent" (defArgs S_noexp) (defBody S_noexp) (defScope S_noexp) .none kV_noexp dc_noexp pm_noexp an_noexp cd_noexp ct_noexp), sl_noexp⟩)
    (c_noexp : PySem.W.codeIn K cd_noexp "_law_no_exponent" = true)
    (k_noexp : PySem.W.keepIn K (.ref f_noexp) = true)
    (a_four : PySem.W.nsIn K mainGlobals "_law_four" = some (some (.ref f_four)))
    (l_four : K.lookup f_four = some ⟨oc_four, od_four, .func (PySem.W.fnOf "_law_four" "_law_four" (defArgs S_four) (defBody S_four) (defScope S_four) .none kV_four dc_four pm_four an_four cd_four ct_four), sl_four⟩)
    (c_four : PySem.W.codeIn K cd_four "_law_four" = true)
    (k_four : PySem.W.keepIn K (.ref f_four) = true)
    (a_small : PySem.W.nsIn K mainGlobals "_law_small_powers" = some (some (.ref f_small)))
    (l_small : K.lookup f_small = some ⟨oc_small, od_small, .func (PySem.W.fnOf "_law_small_powers" "_law_small_powers" (defArgs S_small) (defBody S_small) (defScope S_small) .none kV_small dc_small pm_small an_small cd_small ct_small), sl_small⟩)
    (c_small : PySem.W.codeIn K cd_small "_law_small_powers" = true)
    (k_small : PySem.W.keepIn K (.ref f_small) = true)
    (a_great : PySem.W.nsIn K mainGlobals "_law_great_powers" = some (some (.ref f_great)))
    (l_great : K.lookup f_great = some ⟨oc_great, od_great, .func (PySem.W.fnOf "_law_great_powers" "_law_great_powers" (defArgs S_great) (defBody S_great) (defScope S_great) .none kV_great dc_great pm_great an_great cd_great ct_great), sl_great⟩)
    (c_great : PySem.W.codeIn K cd_great "_law_great_powers" = true)
    (k_great : PySem.W.keepIn K (.ref f_great) = true)
    (a_alone : PySem.W.nsIn K mainGlobals "_law_alone" = some (some (.ref f_alone)))
    (l_alone : K.lookup f_alone = some ⟨oc_alone, od_alone, .func (PySem.W.fnOf "_law_alone" "_law_alone" (defArgs S_alone) (defBody S_alone) (defScope S_alone) .none kV_alone dc_alone pm_alone an_alone cd_alone ct_alone), sl_alone⟩)
    (c_alone : PySem.W.codeIn K cd_alone "_law_alone" = true)
    (k_alone : PySem.W.keepIn K (.ref f_alone) = true)
    (a_law : PySem.W.nsIn K mainGlobals "law" = some (some (.ref f_law)))
    (l_law : K.lookup f_law = some ⟨oc_law, od_law, .func (PySem.W.fnOf "law" "law" (defArgs S_law) (defBody S_law) (defScope S_law) .none kV_law dc_law pm_law an_law cd_law ct_law), sl_law⟩)
    (c_law : PySem.W.codeIn K cd_law "law" = true)
    (k_law : PySem.W.keepIn K (.ref f_law) = true)
    (a_init : PySem.W.findIn K (.ref C) "__init__" = some (some (.ref f_init)))
    (i_init : PySem.W.isFn K (.ref f_init) = true)
    (l_init : K.lookup f_init = some ⟨oc_init, od_init, .func (PySem.W.fnOf "__init__" "Ratio.__init__" (defArgs S_init) (defBody S_init) (defScope S_init) (.ref T_init) kV_init dc_init pm_init an_init cd_init ct_init), sl_init⟩)
    (lT : K.lookup T_init = some ⟨oT, dT, .seq #[Value.int 1 tT] nT', sT⟩)
    (c_init : PySem.W.codeIn K cd_init "Ratio.__init__" = true)
    (k_init : PySem.W.keepIn K (.ref f_init) = true)
    (pgC : PySem.W.plainGet K C Str.empty = true) (hdC : PySem.W.hasDictIn K C = true) (poC : PySem.W.plainOver K C = true) (saC : PySem.W.findIn K (.ref C) "__setattr__" = some (some (.builtin "object.__setattr__")))
    (mkC : PySem.W.makesIn K C = true) (kcC : PySem.W.keepIn K (.ref C) = true) (nT : PySem.W.findIn K (.ref C) "top" = some none) (nB : PySem.W.findIn K (.ref C) "bottom" = some none)
    (sf : PySem.W.selfFirst K C = true) (ha : PySem.W.findIn K (.ref C) "__class__" = some (some (.builtin "object.__class__")))
    (hn : PySem.W.specialIn K (.builtin "object.__class__") "__get__" = some (some (.builtin "getset_descriptor.__get__"))) (htk : PySem.W.takesIn K (.builtin "object.__class__") = some true) (hm : PySem.W.mroIn K C (.type "object") = some true)
    (rp : PySem.W.findIn K (.ref C) "__rpow__" = some none) (ip : PySem.W.findIn K (.type "int") "__pow__" = some fo) (irp : PySem.W.findIn K (.type "int") "__rpow__" = some ro) (isub : PySem.W.subIn K (.type "int") (.ref C) = some false)
    (gg : PySem.W.nsIn K mainGlobals "gcd" = some (some (.builtin "math.gcd")))
    (xZ : PySem.W.excIn K Z [.type "ValueError", .type "Exception", .type "BaseException", .type "object"] "ValueError.__new__" = true)
    (kZ : PySem.W.keepIn K (.ref Z) = true) (bZ : PySem.W.subIn K (.ref Z) (.type "BaseException") = some true) (tZ : PySem.W.typeIn K (.ref Z) = some (.type "type")) (eZ : PySem.W.subIn K (.ref Z) (.ref CE) = some true) (CEd : PySem.W.hasDictIn K CE = true) (CEb : PySem.W.subIn K (.ref CE) (.type "BaseException") = some true) (CEt : PySem.W.typeIn K (.ref CE) = some (.type "type"))
    (Zg : PySem.W.findIn K (.ref Z) "__getattribute__" = some (some (.builtin "BaseException.__getattribute__"))) (Zk : PySem.W.findIn K (.ref Z) "__getattr__" = some none) (Zd : PySem.W.hasDictIn K Z = true)
    (Za : PySem.W.findIn K (.ref Z) "__class__" = some (some (.builtin "object.__class__"))) (Zm : PySem.W.mroIn K Z (.type "object") = some true)
    (zv : PySem.W.subIn K (.ref Z) (.type "ValueError") = some true) (zo : PySem.W.subIn K (.ref Z) (.ref O) = some false) (nZO : Z ≠ O)
    (xO : K.lookup O = some (excClassObj nm q O N bs bm true sn sub ab col dd m0 m1 m2 m3 m5 "ValueError.__new__")) (rO : PySem.HandSPX.refsVE bm = true) (sO : PySem.W.findIn K (.ref O) "__setattr__" = some (some (.builtin "object.__setattr__")))
    (kO : PySem.W.keepIn K (.ref O) = true) (bO : PySem.W.subIn K (.ref O) (.type "BaseException") = some true) (tO : PySem.W.typeIn K (.ref O) = some (.type "type")) (eO : PySem.W.subIn K (.ref O) (.ref CE) = some true)
    (Og : PySem.W.findIn K (.ref O) "__getattribute__" = some (some (.builtin "BaseException.__getattribute__"))) (Ok : PySem.W.findIn K (.ref O) "__getattr__" = some none) (Od : PySem.W.hasDictIn K O = true)
    (Oa : PySem.W.findIn K (.ref O) "__class__" = some (some (.builtin "object.__class__"))) (Om : PySem.W.mroIn K O (.type "object") = some true)
    (ov : PySem.W.subIn K (.ref O) (.type "ValueError") = some true) (oz : PySem.W.subIn K (.ref O) (.ref Z) = some false)
    (tiO : PySem.W.typeIn K (.ref f_OB) = some (.type "function")) (nV : PySem.W.findIn K (.ref O) "value" = some none)
    (gm : PySem.W.nsIn K mainGlobals "_MOST_EXPONENT" = some (some (.int 64 tk)))
    (z1 : PySem.W.nsIn K mainGlobals "len" = some none) (z2 : PySem.W.nsIn K mainGlobals "abs" = some none) (z3 : PySem.W.nsIn K mainGlobals "int" = some none) (z4 : PySem.W.nsIn K mainGlobals "bool" = some none)
    (z5 : PySem.W.nsIn K mainGlobals "range" = some none) (z6 : PySem.W.nsIn K mainGlobals "isinstance" = some none) (z7 : PySem.W.nsIn K mainGlobals "ValueError" = some none) :
    ∃ fd : FuncData, (∀ (s : Shared) (v : Value), BindsTo s fd ⟨[v], []⟩ [("script", v)]) ∧ ∀ base : Heap, K.In base → base.Ns mainGlobals mg → FnOk l.prog w K mg base CX0 8 fa fd ["script"] (spLaw K) := by
  have e := hfa.symm.trans (PySem.W.mg_of X G a_law)
  cases e
  have F_OB := fun_mk (st := S_OB) l_OB c_OB k_OB
  have b_OB := F_OB.binds (ps := ["self", "value"]) fun _ _ _ _ _ _ us hl => match us, hl with | [_, _], _ => rfl
  have F_add := fun_mk (st := S_add) l_add c_add k_add
  have b_add := F_add.binds (ps := ["self", "other"]) fun _ _ _ _ _ _ us hl => match us, hl with | [_, _], _ => rfl
  have F_sub := fun_mk (st := S_sub) l_sub c_sub k_sub
  have b_sub := F_sub.binds (ps := ["self", "other"]) fun _ _ _ _ _ _ us hl => match us, hl with | [_, _], _ => rfl
  have F_mul := fun_mk (st := S_mul) l_mul c_mul k_mul
  have b_mul := F_mul.binds (ps := ["self", "other"]) fun _ _ _ _ _ _ us hl => match us, hl with | [_, _], _ => rfl
  have F_pow := fun_mk (st := S_pow) l_pow c_pow k_pow
  have b_pow := F_pow.binds (ps := ["self", "other"]) fun _ _ _ _ _ _ us hl => match us, hl with | [_, _], _ => rfl
  have F_neg := fun_mk (st := S_neg) l_neg c_neg k_neg
  have b_neg := F_neg.binds (ps := ["self"]) fun _ _ _ _ _ _ us hl => match us, hl with | [_], _ => rfl
  have F_abs := fun_mk (st := S_abs) l_abs c_abs k_abs
  have b_abs := F_abs.binds (ps := ["self"]) fun _ _ _ _ _ _ us hl => match us, hl with | [_], _ => rfl
  have F_divided := fun_mk (st := S_divided) l_divided c_divided k_divided
  have b_divided := F_divided.binds (ps := ["self", "other"]) fun _ _ _ _ _ _ us hl => match us, hl with | [_, _], _ => rfl
  have F_raised := fun_mk (st := S_raised) l_raised c_raised k_raised
  have b_raised := F_raised.binds (ps := ["self", "n"]) fun _ _ _ _ _ _ us hl => match us, hl with | [_, _], _ => rfl
  have F_start := fun_mk (st := S_start) l_start c_start k_start
  have b_start := F_start.binds (ps := ["script"]) fun _ _ _ _ _ _ us hl => match us, hl with | [_], _ => rfl
  have F_digit := fun_mk (st := S_digit) l_digit c_digit k_digit
  have b_digit := F_digit.binds (ps := ["pot", "many"]) fun _ _ _ _ _ _ us hl => match us, hl with | [_, _], _ => rfl
  have F_fraction := fun_mk (st := S_fraction) l_fraction c_fraction k_fraction
  have b_fraction := F_fraction.binds (ps := ["pot"]) fun _ _ _ _ _ _ us hl => match us, hl with | [_], _ => rfl
  have F_handed := fun_mk (st := S_handed) l_handed c_handed k_handed
  have b_handed := F_handed.binds (ps := ["pot", "pair"]) fun _ _ _ _ _ _ us hl => match us, hl with | [_, _], _ => rfl
  have F_lowest := fun_mk (st := S_lowest) l_lowest c_lowest k_lowest
  have b_lowest := F_lowest.binds (ps := ["top", "bottom"]) fun _ _ _ _ _ _ us hl => match us, hl with | [_, _], _ => rfl
  have F_plus := fun_mk (st := S_plus) l_plus c_plus k_plus
  have b_plus := F_plus.binds (ps := ["a", "b"]) fun _ _ _ _ _ _ us hl => match us, hl with | [_, _], _ => rfl
  have F_times := fun_mk (st := S_times) l_times c_times k_times
  have b_times := F_times.binds (ps := ["a", "b"]) fun _ _ _ _ _ _ us hl => match us, hl with | [_, _], _ => rfl
  have F_lis := fun_mk (st := S_lis) l_lis c_lis k_lis
  have b_lis := F_lis.binds (ps := ["told", "pair"]) fun _ _ _ _ _ _ us hl => match us, hl with | [_, _], _ => rfl
  have F_nobot := fun_mk (st := S_nobot) l_nobot c_nobot k_nobot
  have b_nobot := F_nobot.binds (ps := ["top"]) fun _ _ _ _ _ _ us hl => match us, hl with | [_], _ => rfl
  have F_noquo := fun_mk (st := S_noquo) l_noquo c_noquo k_noquo
  have b_noquo := F_noquo.binds (ps := ["x", "zero"]) fun _ _ _ _ _ _ us hl => match us, hl with | [_, _], _ => rfl
  have F_noexp := fun_mk (st := S_noexp) l_noexp c_noexp k_noexp
  have b_noexp := F_noexp.binds (ps := ["x", "many"]) fun _ _ _ _ _ _ us hl => match us, hl with | [_, _], _ => rfl
  have F_four := fun_mk (st := S_four) l_four c_four k_four
  have b_four := F_four.binds (ps := ["x", "y", "a", "b"]) fun _ _ _ _ _ _ us hl => match us, hl with | [_, _, _, _], _ => rfl
  have F_small := fun_mk (st := S_small) l_small c_small k_small
  have b_small := F_small.binds (ps := ["x", "a"]) fun _ _ _ _ _ _ us hl => match us, hl with | [_, _], _ => rfl
  have F_great := fun_mk (st := S_great) l_great c_great k_great
  have b_great := F_great.binds (ps := ["x", "a", "many"]) fun _ _ _ _ _ _ us hl => match us, hl with | [_, _, _], _ => rfl
  have F_alone := fun_mk (st := S_alone) l_alone c_alone k_alone
  have b_alone := F_alone.binds (ps := ["x", "a"]) fun _ _ _ _ _ _ us hl => match us, hl with | [_, _], _ => rfl
  have F_law := fun_mk (st := S_law) l_law c_law k_law
  have b_law := F_law.binds (ps := ["script"]) fun _ _ _ _ _ _ us hl => match us, hl with | [_], _ => rfl
  have F_init : FunD K "__init__" "Ratio.__init__" (defArgs S_init) (defBody S_init) (defScope S_init) [.int 1] [] f_init (PySem.W.fnOf "__init__" "Ratio.__init__" (defArgs S_init) (defBody S_init) (defScope S_init) (.ref T_init) kV_init dc_init pm_init an_init cd_init ct_init) :=
    ⟨⟨_, _, _, _, _, _, _, _, _, _, rfl, l_init, c_init, .inr ⟨(by intro z; cases z), T_init, _, [Value.int 1 tT], _, rfl, lT, rfl, .cons ⟨_, rfl⟩ .nil⟩, .inl rfl⟩, k_init⟩
  have b3 : ∃ ds, Vals (([V.int 1] : List V).drop 1) ds ∧ Binds K (PySem.W.fnOf "__init__" "Ratio.__init__" (defArgs S_init) (defBody S_init) (defScope S_init) (.ref T_init) kV_init dc_init pm_init an_init cd_init ct_init) ["self", "top", "bottom"] ds :=
    F_init.binds1 3 1 (by intro z; cases z) rfl fun T kV doc pm an cdv ct us its h1 h2 => match us, its, h1, h2 with | [_, _, _], [_], _, _ => ⟨_, rfl, rfl⟩
  have b2 : ∃ ds, Vals (([V.int 1] : List V).drop 0) ds ∧ Binds K (PySem.W.fnOf "__init__" "Ratio.__init__" (defArgs S_init) (defBody S_init) (defScope S_init) (.ref T_init) kV_init dc_init pm_init an_init cd_init ct_init) ["self", "top", "bottom"] ds :=
    F_init.binds1 2 0 (by intro z; cases z) rfl fun T kV doc pm an cdv ct us its h1 h2 => match us, its, h1, h2 with | [_, _], [_], _, _ => ⟨_, rfl, rfl⟩
  have b3' : Binds K (PySem.W.fnOf "__init__" "Ratio.__init__" (defArgs S_init) (defBody S_init) (defScope S_init) (.ref T_init) kV_init dc_init pm_init an_init cd_init ct_init) ["self", "top", "bottom"] [] := by
    obtain ⟨ds, v, b⟩ := b3
    cases v
    exact b
  let A : Ad := { C := C, CE := CE, Z := Z, O := O, f_init := f_init, d_init := PySem.W.fnOf "__init__" "Ratio.__init__" (defArgs S_init) (defBody S_init) (defScope S_init) (.ref T_init) kV_init dc_init pm_init an_init cd_init ct_init, f_OB := f_OB, d_OB := PySem.W.fnOf "__init__" "OutOfBounds.__init__" (defArgs S_OB) (defBody S_OB) (defScope S_OB) .none kV_OB dc_OB pm_OB an_OB cd_OB ct_OB, f_add := f_add, d_add := PySem.W.fnOf "__add__" "Ratio.__add__" (defArgs S_add) (defBody S_add) (defScope S_add) .none kV_add dc_add pm_add an_add cd_add ct_add, f_sub := f_sub, d_sub := PySem.W.fnOf "__sub__" "Ratio.__sub__" (defArgs S_sub) (defBody S_sub) (defScope S_sub) .none kV_sub dc_sub pm_sub an_sub cd_sub ct_sub, f_mul := f_mul, d_mul := PySem.W.fnOf "__mul__" "Ratio.__mul__" (defArgs S_mul) (defBody S_mul) (defScope S_mul) .none kV_mul dc_mul pm_mul an_mul cd_mul ct_mul, f_pow := f_pow, d_pow := PySem.W.fnOf "__pow__" "Ratio.__pow__" (defArgs S_pow) (defBody S_pow) (defScope S_pow) .none kV_pow dc_pow pm_pow an_pow cd_pow ct_pow, f_neg := f_neg, d_neg := PySem.W.fnOf "__neg__" "Ratio.__neg__" (defArgs S_neg) (defBody S_neg) (defScope S_neg) .none kV_neg dc_neg pm_neg an_neg cd_neg ct_neg, f_abs := f_abs, d_abs := PySem.W.fnOf "__abs__" "Ratio.__abs__" (defArgs S_abs) (defBody S_abs) (defScope S_abs) .none kV_abs dc_abs pm_abs an_abs cd_abs ct_abs, f_divided := f_divided, d_divided := PySem.W.fnOf "divided" "Ratio.divided" (defArgs S_divided) (defBody S_divided) (defScope S_divided) .none kV_divided dc_divided pm_divided an_divided cd_divided ct_divided, f_raised := f_raised, d_raised := PySem.W.fnOf "raised" "Ratio.raised" (defArgs S_raised) (defBody S_raised) (defScope S_raised) .none kV_raised dc_raised pm_raised an_raised cd_raised ct_raised, f_start := f_start, d_start := PySem.W.fnOf "_law_start" "_law_start" (defArgs S_start) (defBody S_start) (defScope S_start) .none kV_start dc_start pm_start an_start cd_start ct_start, f_digit := f_digit, d_digit := PySem.W.fnOf "_law_digit" "_law_digit" (defArgs S_digit) (defBody S_digit) (defScope S_digit) .none kV_digit dc_digit pm_digit an_digit cd_digit ct_digit, f_fraction := f_fraction, d_fraction := PySem.W.fnOf "_law_fraction" "_law_fraction" (defArgs S_fraction) (defBody S_fraction) (defScope S_fraction) .none kV_fraction dc_fraction pm_fraction an_fraction cd_fraction ct_fraction, f_handed := f_handed, d_handed := PySem.W.fnOf "_law_handed" "_law_handed" (defArgs S_handed) (defBody S_handed) (defScope S_handed) .none kV_handed dc_handed pm_handed an_handed cd_handed ct_handed, f_lowest := f_lowest, d_lowest := PySem.W.fnOf "_law_lowest" "_law_lowest" (defArgs S_lowest) (defBody S_lowest) (defScope S_lowest) .none kV_lowest dc_lowest pm_lowest an_lowest cd_lowest ct_lowest, f_plus := f_plus, d_plus := PySem.W.fnOf "_law_plus" "_law_plus" (defArgs S_plus) (defBody S_plus) (defScope S_plus) .none kV_plus dc_plus pm_plus an_plus cd_plus ct_plus, f_times := f_times, d_times := PySem.W.fnOf "_law_times" "_law_times" (defArgs S_times) (defBody S_times) (defScope S_times) .none kV_times dc_times pm_times an_times cd_times ct_times, f_lis := f_lis, d_lis := PySem.W.fnOf "_law_is" "_law_is" (defArgs S_lis) (defBody S_lis) (defScope S_lis) .none kV_lis dc_lis pm_lis an_lis cd_lis ct_lis, f_nobot := f_nobot, d_nobot := PySem.W.fnOf "_law_no_bottom" "_law_no_bottom" (defArgs S_nobot) (defBody S_nobot) (defScope S_nobot) .none kV_nobot dc_nobot pm_nobot an_nobot cd_nobot ct_nobot, f_noquo := f_noquo, d_noquo := PySem.W.fnOf "_law_no_quotient" "_law_no_quotient" (defArgs S_noquo) (defBody S_noquo) (defScope S_noquo) .none kV_noquo dc_noquo pm_noquo an_noquo cd_noquo ct_noquo, f_noexp := f_noexp, d_noexp := PySem.W.fnOf "_law_no_exponent" "_law_no_exponent" (defArgs S_noexp) (defBody S_noexp) (defScope S_noexp) .none kV_noexp dc_noexp pm_noexp an_noexp cd_noexp ct_noexp, f_four := f_four, d_four := PySem.W.fnOf "_law_four" "_law_four" (defArgs S_four) (defBody S_four) (defScope S_four) .none kV_four dc_four pm_four an_four cd_four ct_four, f_small := f_small, d_small := PySem.W.fnOf "_law_small_powers" "_law_small_powers" (defArgs S_small) (defBody S_small) (defScope S_small) .none kV_small dc_small pm_small an_small cd_small ct_small, f_great := f_great, d_great := PySem.W.fnOf "_law_great_powers" "_law_great_powers" (defArgs S_great) (defBody S_great) (defScope S_great) .none kV_great dc_great pm_great an_great cd_great ct_great, f_alone := f_alone, d_alone := PySem.W.fnOf "_law_alone" "_law_alone" (defArgs S_alone) (defBody S_alone) (defScope S_alone) .none kV_alone dc_alone pm_alone an_alone cd_alone ct_alone, f_law := fa, d_law := PySem.W.fnOf "law" "law" (defArgs S_law) (defBody S_law) (defScope S_law) .none kV_law dc_law pm_law an_law cd_law ct_law }
  have T : Txt K mg A := {
    cl := ⟨pgC, hdC, poC, saC⟩, nT := nT, nB := nB, mkC := ⟨mkC, a_init, i_init, kcC⟩, sf := sf, ha := ha, hn := hn, htk := htk, hm := hm,
    rp := ⟨none, rp, .inl rfl⟩, ip := ⟨fo, ip⟩, irp := ⟨ro, irp⟩, isub := isub, F_init := F_init, b_init3 := b3', b_init2 := b2,
    g_Ratio := PySem.W.mg_of X G aC, g_gcd := PySem.W.mg_of X G gg, g_CE := PySem.W.mg_of X G aCE, g_Z := PySem.W.mg_of X G aZ, xZ := xZ, kZ := kZ, bZ := bZ, tZ := tZ, eZ := PySem.W.exm_ref CEb CEd CEt eZ,
    XZ := ⟨Zg, Zk, bZ, Zd, Za, hn, htk, Zm⟩, zv := kit_typ (by decide +kernel) zv, zo := kit_ref Od tO zo (fun z => nZO (Value.ref.inj z)), g_O := PySem.W.mg_of X G aO,
    oO := ⟨⟨nm, q, N, bs, bm, sn, sub, ab, col, dd, m0, m1, m2, m3, m5, xO, rO⟩, sO, bO, tO, kO⟩, iO := a_OB, tiO := tiO, nV := nV, xfO := ⟨Og, Ok, bO, Od⟩, eO := PySem.W.exm_ref CEb CEd CEt eO,
    XO := ⟨Og, Ok, bO, Od, Oa, hn, htk, Om⟩, ov := kit_typ (by decide +kernel) ov, oz := kit_ref Zd tZ oz (fun z => nZO (Value.ref.inj z).symm), g_most := ⟨tk, PySem.W.mg_of X G gm⟩,
    n_len := PySem.W.mg_none_of X G z1, n_abs := PySem.W.mg_none_of X G z2, n_int := PySem.W.mg_none_of X G z3, n_bool := PySem.W.mg_none_of X G z4, n_range := PySem.W.mg_none_of X G z5,
    n_isinstance := PySem.W.mg_none_of X G z6, n_ValueError := PySem.W.mg_none_of X G z7,
    F_OB := F_OB, b_OB := b_OB,
    m_OB := ⟨a_OB, i_OB, k_OB⟩,
    F_add := F_add, b_add := b_add,
    m_add := ⟨a_add, i_add, k_add⟩,
    F_sub := F_sub, b_sub := b_sub,
    m_sub := ⟨a_sub, i_sub, k_sub⟩,
    F_mul := F_mul, b_mul := b_mul,
    m_mul := ⟨a_mul, i_mul, k_mul⟩,
    F_pow := F_pow, b_pow := b_pow,
    m_pow := ⟨a_pow, i_pow, k_pow⟩,
    F_neg := F_neg, b_neg := b_neg,
    m_neg := ⟨a_neg, i_neg, k_neg⟩,
    F_abs := F_abs, b_abs := b_abs,
    m_abs := ⟨a_abs, i_abs, k_abs⟩,
    F_divided := F_divided, b_divided := b_divided,
    m_divided := ⟨a_divided, i_divided, k_divided⟩,
    F_raised := F_raised, b_raised := b_raised,
    m_raised := ⟨a_raised, i_raised, k_raised⟩,
    F_start := F_start, b_start := b_start,
    g_start := PySem.W.mg_of X G a_start,
    F_digit := F_digit, b_digit := b_digit,
    g_digit := PySem.W.mg_of X G a_digit,
    F_fraction := F_fraction, b_fraction := b_fraction,
    g_fraction := PySem.W.mg_of X G a_fraction,
    F_handed := F_handed, b_handed := b_handed,
    g_handed := PySem.W.mg_of X G a_handed,
    F_lowest := F_lowest, b_lowest := b_lowest,
    g_lowest := PySem.W.mg_of X G a_lowest,
    F_plus := F_plus, b_plus := b_plus,
    g_plus := PySem.W.mg_of X G a_plus,
    F_times := F_times, b_times := b_times,
    g_times := PySem.W.mg_of X G a_times,
    F_lis := F_lis, b_lis := b_lis,
    g_lis := PySem.W.mg_of X G a_lis,
    F_nobot := F_nobot, b_nobot := b_nobot,
    g_nobot := PySem.W.mg_of X G a_nobot,
    F_noquo := F_noquo, b_noquo := b_noquo,
    g_noquo := PySem.W.mg_of X G a_noquo,
    F_noexp := F_noexp, b_noexp := b_noexp,
    g_noexp := PySem.W.mg_of X G a_noexp,
    F_four := F_four, b_four := b_four,
    g_four := PySem.W.mg_of X G a_four,
    F_small := F_small, b_small := b_small,
    g_small := PySem.W.mg_of X G a_small,
    F_great := F_great, b_great := b_great,
    g_great := PySem.W.mg_of X G a_great,
    F_alone := F_alone, b_alone := b_alone,
    g_alone := PySem.W.mg_of X G a_alone,
    F_law := F_law, b_law := b_law,
    g_law := PySem.W.mg_of X G a_law }
  exact ⟨_, fun s v => .of_eq rfl, fun base _ _ => ok_law (P := l.prog) (w := w) (base := base) T⟩
theorem walk {l : PySem.W.OpenLaw} {q : Program} {loose : List Str} {XP : (Str → Option Value) → Heap → Prop} {YP : World → Heap → Prop} {d : DefRec} {K : Params → PySem.W.Frag} (hn : l.most = some 63) (hdf : d.params.defaults = [])
    (hY : ∀ (w : World) (h : Heap), YP w h → (K w.params).In h)
    (F : ∀ (w : World) (mg : Str → Option Value) (fa : Addr) (h : Heap), (K w.params).In h → h.Ns mainGlobals mg → mg d.name = some (.ref fa) →
      ∃ fd : FuncData, (∀ (s : Shared) (u : Value), BindsTo s fd ⟨[u], []⟩ [("script", u)]) ∧ ∀ base : Heap, (K w.params).In base → base.Ns mainGlobals mg → FnOk l.prog w (K w.params) mg base CX0 8 fa fd ["script"] (spLaw (K w.params))) :
    PySem.W.WalkO q loose XP YP l.row.toRowW d [] (fun f vs => PySem.call f vs) :=
  L2.walk_of (n := 63) (k := 8) (x := "script") (CX := fun _ => CX0) (sp := fun w => spLaw (K w.params)) hn (by decide) hdf ⟨rfl, by decide, by decide⟩ hY F
    (fun _ _ a ns hl _ hS => ⟨a, ns, rfl, hS, hl, fun _ => rfl⟩) fun _ _ _ _ _ z => z
end Fc
open PySem PySem.W PyProof.Rows
set_option maxRecDepth 100000 in
set_option maxHeartbeats 0 in
theorem PySem.Challenge.cw_fewcarry_k01_fraction_arithmetic_holds : PySem.Challenge.rw_fewcarry_k01_fraction_arithmetic.Holds := by
  w_on; o_law; k_head; (case hw => w_witness2)
  k_fill
  refine Fc.walk (l := PySem.Challenge.rw_fewcarry_k01_fraction_arithmetic) rfl rfl (fun w h Y => PySem.W.kIn_of Y) ?F
  case F =>
    intro w mg fa h KX G hmg
    refine' Fc.all_mk KX G hmg ?aC ?aCE ?aZ ?aO ?a_OB ?i_OB ?l_OB ?c_OB ?k_OB ?a_add ?i_add ?l_add ?c_add ?k_add ?a_sub ?i_sub ?l_sub ?c_sub ?k_sub ?a_mul ?i_mul ?l_mul ?c_mul ?k_mul ?a_pow ?i_pow ?l_pow ?c_pow ?k_pow ?a_neg ?i_neg ?l_neg ?c_neg ?k_neg ?a_abs ?i_abs ?l_abs ?c_abs ?k_abs ?a_divided ?i_divided ?l_divided ?c_divided ?k_divided ?a_raised ?i_raised ?l_raised ?c_raised ?k_raised ?a_start ?l_start ?c_start ?k_start ?a_digit ?l_digit ?c_digit ?k_digit ?a_fraction ?l_fraction ?c_fraction ?k_fraction ?a_handed ?l_handed ?c_handed ?k_handed ?a_lowest ?l_lowest ?c_lowest ?k_lowest ?a_plus ?l_plus ?c_plus ?k_plus ?a_times ?l_times ?c_times ?k_times ?a_lis ?l_lis ?c_lis ?k_lis ?a_nobot ?l_nobot ?c_nobot ?k_nobot ?a_noquo ?l_noquo ?c_noquo ?k_noquo ?a_noexp ?l_noexp ?c_noexp ?k_noexp ?a_four ?l_four ?c_four ?k_four ?a_small ?l_small ?c_small ?k_small ?a_great ?l_great ?c_great ?k_great ?a_alone ?l_alone ?c_alone ?k_alone ?a_law ?l_law ?c_law ?k_law ?a_init ?i_init ?l_init ?lT ?c_init ?k_init ?pgC ?hdC ?poC ?saC ?mkC ?kcC ?nT ?nB ?sf ?ha ?hn ?htk ?hm ?rp ?ip ?irp ?isub ?gg ?xZ ?kZ ?bZ ?tZ ?eZ ?CEd ?CEb ?CEt ?Zg ?Zk ?Zd ?Za ?Zm ?zv ?zo ?nZO ?xO ?rO ?sO ?kO ?bO ?tO ?eO ?Og ?Ok ?Od ?Oa ?Om ?ov ?oz ?tiO ?nV ?gm ?z1 ?z2 ?z3 ?z4 ?z5 ?z6 ?z7
    (case aC => k_is)
    (case aCE => k_is)
    (case aZ => k_is)
    (case aO => k_is)
    (case a_OB => k_is)
    (case i_OB => k_is)
    (case l_OB => k_is)
    (case c_OB => k_is)
    (case k_OB => k_is)
    (case a_add => k_is)
    (case i_add => k_is)
    (case l_add => k_is)
    (case c_add => k_is)
    (case k_add => k_is)
    (case a_sub => k_is)
    (case i_sub => k_is)
    (case l_sub => k_is)
    (case c_sub => k_is)
    (case k_sub => k_is)
    (case a_mul => k_is)
    (case i_mul => k_is)
    (case l_mul => k_is)
    (case c_mul => k_is)
    (case k_mul => k_is)
    (case a_pow => k_is)
    (case i_pow => k_is)
    (case l_pow => k_is)
    (case c_pow => k_is)
    (case k_pow => k_is)
    (case a_neg => k_is)
    (case i_neg => k_is)
    (case l_neg => k_is)
    (case c_neg => k_is)
    (case k_neg => k_is)
    (case a_abs => k_is)
    (case i_abs => k_is)
    (case l_abs => k_is)
    (case c_abs => k_is)
    (case k_abs => k_is)
    (case a_divided => k_is)
    (case i_divided => k_is)
    (case l_divided => k_is)
    (case c_divided => k_is)
    (case k_divided => k_is)
    (case a_raised => k_is)
    (case i_raised => k_is)
    (case l_raised => k_is)
    (case c_raised => k_is)
    (case k_raised => k_is)
    (case a_start => k_is)
    (case l_start => k_is)
    (case c_start => k_is)
    (case k_start => k_is)
    (case a_digit => k_is)
    (case l_digit => k_is)
    (case c_digit => k_is)
    (case k_digit => k_is)
    (case a_fraction => k_is)
    (case l_fraction => k_is)
    (case c_fraction => k_is)
    (case k_fraction => k_is)
    (case a_handed => k_is)
    (case l_handed => k_is)
    (case c_handed => k_is)
    (case k_handed => k_is)
    (case a_lowest => k_is)
    (case l_lowest => k_is)
    (case c_lowest => k_is)
    (case k_lowest => k_is)
    (case a_plus => k_is)
    (case l_plus => k_is)
    (case c_plus => k_is)
    (case k_plus => k_is)
    (case a_times => k_is)
    (case l_times => k_is)
    (case c_times => k_is)
    (case k_times => k_is)
    (case a_lis => k_is)
    (case l_lis => k_is)
    (case c_lis => k_is)
    (case k_lis => k_is)
    (case a_nobot => k_is)
    (case l_nobot => k_is)
    (case c_nobot => k_is)
    (case k_nobot => k_is)
    (case a_noquo => k_is)
    (case l_noquo => k_is)
    (case c_noquo => k_is)
    (case k_noquo => k_is)
    (case a_noexp => k_is)
    (case l_noexp => k_is)
    (case c_noexp => k_is)
    (case k_noexp => k_is)
    (case a_four => k_is)
    (case l_four => k_is)
    (case c_four => k_is)
    (case k_four => k_is)
    (case a_small => k_is)
    (case l_small => k_is)
    (case c_small => k_is)
    (case k_small => k_is)
    (case a_great => k_is)
    (case l_great => k_is)
    (case c_great => k_is)
    (case k_great => k_is)
    (case a_alone => k_is)
    (case l_alone => k_is)
    (case c_alone => k_is)
    (case k_alone => k_is)
    (case a_law => k_is)
    (case l_law => k_is)
    (case c_law => k_is)
    (case k_law => k_is)
    (case a_init => k_is)
    (case i_init => k_is)
    (case l_init => k_is)
    (case lT => k_is)
    (case c_init => k_is)
    (case k_init => k_is)
    (case pgC => k_is)
    (case hdC => k_is)
    (case poC => k_is)
    (case saC => k_is)
    (case mkC => k_is)
    (case kcC => k_is)
    (case nT => k_is)
    (case nB => k_is)
    (case sf => k_is)
    (case ha => k_is)
    (case hn => k_is)
    (case htk => k_is)
    (case hm => k_is)
    (case rp => k_is)
    (case ip => k_is)
    (case irp => k_is)
    (case isub => k_is)
    (case gg => k_is)
    (case xZ => k_exc)
    (case kZ => k_is)
    (case bZ => k_is)
    (case tZ => k_is)
    (case eZ => k_is)
    (case CEd => k_is)
    (case CEb => k_is)
    (case CEt => k_is)
    (case Zg => k_is)
    (case Zk => k_is)
    (case Zd => k_is)
    (case Za => k_is)
    (case Zm => k_is)
    (case zv => k_is)
    (case zo => k_is)
    (case nZO => decide)
    (case xO => k_is)
    (case rO => decide +kernel)
    (case sO => k_is)
    (case kO => k_is)
    (case bO => k_is)
    (case tO => k_is)
    (case eO => k_is)
    (case Og => k_is)
    (case Ok => k_is)
    (case Od => k_is)
    (case Oa => k_is)
    (case Om => k_is)
    (case ov => k_is)
    (case oz => k_is)
    (case tiO => k_is)
    (case nV => k_is)
    (case gm => k_is)
    (case z1 => k_is)
    (case z2 => k_is)
    (case z3 => k_is)
    (case z4 => k_is)
    (case z5 => k_is)
    (case z6 => k_is)
    (case z7 => k_is)
#print axioms PySem.Challenge.cw_fewcarry_k01_fraction_arithmetic_holds
