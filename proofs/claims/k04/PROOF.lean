import PyProof.Rows.All
import Wide.All
import OpenK.AllK
import Wide.FinOn
import HandS.ForExc
import HandS.Comp
import HandS.Wide
import HandS.Gcd
import HandS.ExcInit
import HandS.ExcIs
import HandS.ExcField
import HandS.IsInst
import HandS.OwnEq
import HandS.Small
import HandS.Flow
import HandS.Codes
import KE.KOpsOwn
import HandS.Style
import HandS.Defaults
import HandS.ExcInitHot
import PySem.Challenge.RW_fewcarry_k04_simplest_between
set_option Elab.async false
set_option linter.all false
set_option maxRecDepth 100000
set_option maxHeartbeats 4000000
/-! Rules of mine over the hand layer: operators that an own class defines, abs by an own method, floor division by any divisor,
an own error without arguments, isinstance of a caught error that has fields, a new instance or a method's call that may raise in a try. -/
namespace Fc
open PySem PySem.Spec PyProof.Rows L2

section
variable {X : Cx} {pins : List (Addr × Obj)} {sl : L2.St} {H : Hp} {s : Shared}

/-- a value of ours is never the mark NotImplemented -/
theorem cmpBack {Q : VK} {u : Value} {s' : Shared} (h : EP X pins sl Q u s') : PySem.W.CmpBack (EP X pins sl Q) u s' := by
  obtain ⟨v, H', I, r, q⟩ := id h
  cases v with
  | non => cases r; exact h
  | bl b => cases r; exact h
  | int i => obtain ⟨t, e⟩ := r; cases e; exact h
  | str y => obtain ⟨t, e⟩ := r; cases e; exact h
  | byt y => obtain ⟨t, e⟩ := r; cases e; exact h
  | flt y => obtain ⟨t, e⟩ := r; cases e; exact h
  | ref a => cases r; exact h
  | ty n => cases r; exact h

/-- what is known of an instance, as the library's rules ask it -/
theorem inst_at {a C dx : Addr} {fs : List (Str × V)} (I : Inv X pins sl H s) (e : H a = some (.ins C dx fs)) : ∃ ox od, PySem.W.InstAt s.heap a ox C od := by
  obtain ⟨mA, J, _⟩ := ins_get I.hok e
  obtain ⟨od, J, _⟩ := J.look
  exact ⟨_, _, J⟩
end

/-! ### x op y for two instances of one class -/
section
variable {X : Cx} {CX : CXT} {k : Nat} {C f : Addr} {fd : FuncData} {ps : List Str} {sp : Sp} {E : XK}
def rOwn (C : Addr) (sp : Sp) (E : XK) : R2 := fun x y H Q => ∃ a b dx dy fs gs, x = .ref a ∧ y = .ref b ∧
  H a = some (.ins C dx fs) ∧ H b = some (.ins C dy gs) ∧ sp [.ref a, .ref b] H Q E
theorem op_own {op : Operator} (hc : PySem.W.selfFirst X.K C = true) (hs : PySem.W.findIn X.K (.ref C) (PySem.dunder op.info.2) = some (some (.ref f)))
    (hf : PySem.W.isFn X.K (.ref f) = true) (F : FnOk X.prog X.w X.K X.mg X.base CX k f fd ps sp) (hr : Room k X.A) (hb : Binds X.K fd ps []) (hx : Passes CX X E) :
    OpR X (binaryOp op) (rOwn C sp E) := by
  intro pins s sl H x y u v Q I rx ry h
  obtain ⟨a, b, dx, dy, fs, gs, rfl, rfl, ha, hb', q⟩ := h
  cases rx
  cases ry
  obtain ⟨ox, od, J⟩ := inst_at I ha
  obtain ⟨oy, oe, J'⟩ := inst_at I hb'
  obtain ⟨m, hF⟩ := I.fr
  exact PySem.W.binop_K hF I.ok.mod.kin J J'.type hc hs hf
    (thn (run_fn (vs := [.ref a, .ref b]) (us := [.ref a, .ref b]) F hr hb .nil hx I (.cons rfl (.cons rfl .nil)) q) fun _ _ z => cmpBack z)

/-- x op n for an instance and a whole number -/
def rOwnI (C : Addr) (sp : Sp) (E : XK) : R2 := fun x y H Q => ∃ a dx fs n, x = .ref a ∧ y = .int n ∧ H a = some (.ins C dx fs) ∧ sp [.ref a, .int n] H Q E
theorem op_ownI {op : Operator} {fo ro rc : Option Value} (hc : PySem.W.selfFirst X.K C = true) (hs : PySem.W.findIn X.K (.ref C) (PySem.dunder op.info.2) = some (some (.ref f)))
    (hf : PySem.W.isFn X.K (.ref f) = true) (h0 : PySem.W.findIn X.K (.ref C) (dunderR op.info.2) = some rc) (hp : rc = none ∨ ∃ g : Addr, rc = some (.ref g))
    (h1 : PySem.W.findIn X.K (.type "int") (PySem.dunder op.info.2) = some fo) (h2 : PySem.W.findIn X.K (.type "int") (dunderR op.info.2) = some ro)
    (hsub : PySem.W.subIn X.K (.type "int") (.ref C) = some false)
    (F : FnOk X.prog X.w X.K X.mg X.base CX k f fd ps sp) (hr : Room k X.A) (hb : Binds X.K fd ps []) (hx : Passes CX X E) :
    OpR X (binaryOp op) (rOwnI C sp E) := by
  intro pins s sl H x y u v Q I rx ry h
  obtain ⟨a, dx, fs, n, rfl, rfl, ha, q⟩ := h
  cases rx
  obtain ⟨t, rfl⟩ := ry
  obtain ⟨ox, od, J⟩ := inst_at I ha
  obtain ⟨m, hF⟩ := I.fr
  exact PySem.W.ksp_binT (T := "int") hF I.ok.mod.kin J rfl hc hs hf h0 hp h1 h2 hsub
    (thn (run_fn (vs := [.ref a, .int n]) (us := [.ref a, .int n t]) F hr hb .nil hx I (.cons rfl (.cons ⟨t, rfl⟩ .nil)) q) fun _ _ z => cmpBack z)

/-- -x -/
def rOwnU (C : Addr) (sp : Sp) (E : XK) : V → Hp → VK → Prop := fun x H Q => ∃ a dx fs, x = .ref a ∧ H a = some (.ins C dx fs) ∧ sp [.ref a] H Q E
theorem un_own (hs : PySem.W.findIn X.K (.ref C) "__neg__" = some (some (.ref f))) (hf : PySem.W.isFn X.K (.ref f) = true)
    (F : FnOk X.prog X.w X.K X.mg X.base CX k f fd ps sp) (hr : Room k X.A) (hb : Binds X.K fd ps []) (hx : Passes CX X E) :
    UnR X (unaryOp .USub) (rOwnU C sp E) := by
  intro pins s sl H x u Q I rx h
  obtain ⟨a, dx, fs, rfl, ha, q⟩ := h
  cases rx
  obtain ⟨ox, od, J⟩ := inst_at I ha
  obtain ⟨m, hF⟩ := I.fr
  exact PySem.W.ksp_neg hF I.ok.mod.kin J hs hf (run_fn (vs := [.ref a]) (us := [.ref a]) F hr hb .nil hx I (.cons rfl .nil) q)

/-- abs(x) by an own __abs__ -/
def rOwnAbs (C : Addr) (sp : Sp) (E : XK) : List V → Hp → VK → Prop := fun xs H Q => ∃ a dx fs, xs = [.ref a] ∧ H a = some (.ins C dx fs) ∧ sp [.ref a] H Q E
/-- a call of a built-in function that runs nothing else before its own body: the code that runs within it has one unit more -/
theorem call_own_abs (hs : PySem.W.findIn X.K (.ref C) "__abs__" = some (some (.ref f))) (hf : PySem.W.isFn X.K (.ref f) = true)
    (F : FnOk X.prog X.w X.K X.mg X.base CX k f fd ps sp) (hr : Room (k + 1) X.A) (hb : Binds X.K fd ps []) (hx : Passes CX X E) :
    CallR X (.builtin "abs") (rOwnAbs C sp E) := by
  intro pins s sl H xs us Q I r h
  obtain ⟨a, dx, fs, rfl, ha, q⟩ := h
  obtain ⟨u, rfl, ru⟩ := vals1 r
  cases ru
  obtain ⟨ox, od, J⟩ := inst_at I ha
  have e := I.env0
  have e0 : Env0 X.prog X.w X.K X.mg X.base X.A.in1 X.stack s H := e.in1
  have r2 : Vals [V.ref a] [Value.ref a] := .cons rfl .nil
  have hl := F.len _ _ _ _ q
  refine Calls.call_function_entry kind_abs plain_abs entry_abs (args_abs _) ?_
  unfold Builtin.«abs»
  refine wpAny_bind (m := oneArg "abs" _) (wpAny_pure ?_)
  refine wpAny_bind (PySem.W.special_fn I.kIn J hs (beq_iff_eq.mp hf) ?_)
  refine wpAny_call (codeAny_mono (F.run X.A.in1 X.stack s H ⟨[.ref a], []⟩ [.ref a] [.ref a] Q E hr.in1 e0 (by
    have := hb s [.ref a] I.kIn (by simpa using hl)
    simpa using this) r2 q) fun r s' hq => ?_)
  cases r with
  | error e => exact hx pins sl H s e s' I hq
  | ok fl =>
    cases fl with
    | ret w => exact wpAny_pure ⟨_, rfl, I.after hq⟩
    | next => exact False.elim hq
    | brk => exact False.elim hq
    | cont => exact False.elim hq
end

/-! ### // by any divisor but 0, below 2 ^ 9000 -/
def CFdv (_ j : Int) : Prop := j ≠ 0 ∧ j.natAbs.log2 < 9000
theorem op_fdv {X : Cx} : OpR X (binaryOp .FloorDiv) (rI CFdv fun i j => .int (i.fdiv j)) :=
  opI fun i j _ _ _ _ _ hc q => floordiv_int hc.1 q (.inl (PyProof.noPylong_of_log2 hc.2))

/-! ### an own error made without arguments -/
theorem pmk_bare {X : Cx} {C : Addr} {bmB : List Value} {B newId initId : String} {x : Str} {p pos : Pos} (F : ExcBaseFacts B newId initId bmB) (q : PySem.W.excIn X.K C bmB newId = true)
    (gC : X.mg x = some (.ref C)) (kC : PySem.W.keepIn X.K (.ref C) = true) (r : Raises X (.ref C)) (hg : Gl X x) (hdb : (x == ("__debug__" : Str)) = false := by decide) :
    PMk X (.Call (.Name x p) [] [] pos) (fun _ H Q => Q (.ref C) none H) := by
  intro pins s sl H Q I h
  refine wpAny_Call_Name_kw (ld_glob I hg gC ?_ hdb)
  refine PySem.W.callWith_K0 I.kIn kC ?_
  obtain ⟨bm, N, nm, qn, bs, hdct, sn, sub, ab, col, dd, k0, k1, k2, k3, k5, mN, hC, hN, hni, T⟩ := exc_obj I.kIn q
  exact wpAny_call_exc_subT F T hC hN hni (fun h' e hm => mk_of I hm r h (I.hok.gone hm.new)) (Nat.zero_le _)
end Fc
set_option Elab.async false
set_option linter.all false
set_option maxRecDepth 100000
set_option maxHeartbeats 4000000
/-! More rules of mine: a new instance or a method's call whose error an except clause takes; isinstance of a caught error with fields. -/
namespace Fc
open PySem PySem.Spec PyProof.Rows L2

section
variable {X : Cx} {CX : CXT} {k : Nat} {C f : Addr} {fd : FuncData} {ps : List Str} {sp : Sp} {E : L2.St → XK}
/-- C(..), where what is raised is wished for at the slots -/
def tMakeS (C : Addr) (sp : Sp) (E : L2.St → XK) (t : TA) : TE := fun sl H Q => t sl H fun vs H1 => ∀ x dx, H1 x = none → H1 dx = none → dx ≠ x →
  sp (.ref x :: vs) (upd (upd H1 dx (.own x)) x (.ins C dx [])) (fun v H2 => v = .non ∧ Q (.ref x) H2) (E sl)
theorem run_makeS {pins : List (Addr × Obj)} {sl : L2.St} {H : Hp} {s : Shared} {Q : VK} {us : List Value} {vs : List V} (M : Mk X.K C f)
    (F : FnOk X.prog X.w X.K X.mg X.base CX k f fd ps sp) (hr : Room (k + 1) X.A) (hb : Binds X.K fd ps []) (hx : PassesAt CX X sl (E sl))
    (I : Inv X pins sl H s) (r : Vals vs us)
    (h : ∀ x dx, H x = none → H dx = none → dx ≠ x → sp (.ref x :: vs) (upd (upd H dx (.own x)) x (.ins C dx [])) (fun v H2 => v = .non ∧ Q (.ref x) H2) (E sl)) :
    wpAny (model X.prog X.w) X.A (call (.ref C) us) (EP X pins sl Q) X.xe s := by
  have fr : ∀ j, H (s.heap.objs.size + j) = none := fun j => I.hok.fresh (Nat.le_add_right _ _)
  have hq := h (s.heap.objs.size + 1) s.heap.objs.size (fr 1) (fr 0) (Nat.ne_of_lt (Nat.lt_succ_self _))
  have I2 := Inv.made (C := C) I
  have r2 : Vals (V.ref (s.heap.objs.size + 1) :: vs) (Value.ref (s.heap.objs.size + 1) :: us) := .cons rfl r
  have hl : (Value.ref (s.heap.objs.size + 1) :: us).length = ps.length := r2.length.symm.trans (F.len _ _ _ _ hq)
  have bd := hb { s with heap := (s.heap.push PySem.W.emptyDict).push (PySem.W.instObj C s.heap.objs.size) } (Value.ref (s.heap.objs.size + 1) :: us) I2.kIn (by rw [List.append_nil]; exact hl)
  rw [List.append_nil] at bd
  have run := F.run _ X.stack _ _ ⟨Value.ref (s.heap.objs.size + 1) :: us, []⟩ (Value.ref (s.heap.objs.size + 1) :: us) _ _ (E sl) (hr.make C us []) (I2.env0.make C us []) bd r2 hq
  refine wpAny_call (make_map (f := f) I.kIn M.makes M.init (beq_iff_eq.mp M.fn) (codeAny_mono run fun r s' hq' => ?_))
  cases r with
  | error e => exact hx pins _ _ e s' I2 hq'
  | ok fl =>
    cases fl with
    | ret u =>
      obtain ⟨v, H', I3, rv, ev, q3⟩ := I2.after hq'
      subst ev
      exact ⟨rv, ⟨V.ref (s.heap.objs.size + 1), H', I3, rfl, q3⟩⟩
    | next => exact False.elim hq'
    | brk => exact False.elim hq'
    | cont => exact False.elim hq'
theorem pe_makeS {x : Str} {p pos : Pos} {e : Expr} {es : List Expr} {t : TA} (M : Mk X.K C f) (F : FnOk X.prog X.w X.K X.mg X.base CX k f fd ps sp) (hr : Room (k + 1) X.A)
    (hg : Gl X x) (hm : X.mg x = some (.ref C)) (hb : Binds X.K fd ps []) (hx : ∀ sl, PassesAt CX X sl (E sl)) (ha : PA X (e :: es) t)
    (hdb : (x == ("__debug__" : Str)) = false := by decide) (he : starEach (e :: es) X.env = (false, eval e X.env) :: starEach es X.env := by rfl)
    (hpl : (backTo pos (starEach es X.env)).any (·.1) = false := by rfl) : PE X (.Call (.Name x p) (e :: es) [] pos) (tMakeS C sp E t) :=
  ⟨fun pins s sl H Q I h => wpAny_Call_Name_kw (ld_glob I hg hm (PySem.W.callWith_K (h₀ := X.base) I.ok.mod.kin M.kp
    (thn (ha.run pos pins s sl H _ I h) fun us s1 ⟨vs, H1, I1, r, q⟩ => ⟨I1.kIn, run_makeS M F hr hb (hx sl) I1 r q⟩) he hpl) hdb)⟩

/-- o.m(..), where what is raised is wished for at the slots -/
def tMethS (C : Addr) (m : Str) (sp : Sp) (E : L2.St → XK) (ta : TE) (t : TA) : TE := fun sl H Q => ta sl H fun x H1 => ∃ a dx fs, x = .ref a ∧
  H1 a = some (.ins C dx fs) ∧ fs.lookup m = none ∧ t sl H1 fun vs H2 => sp (x :: vs) H2 Q (E sl)
theorem pe_methS {m : Str} {o e : Expr} {es : List Expr} {ta : TE} {t : TA} {apos pos : Pos} {pl : Sem Bool} (ho : PE X o ta) (c : Cls X.K C) (hm : Meth X.K C m f)
    (F : FnOk X.prog X.w X.K X.mg X.base CX k f fd ps sp) (hr : Room k X.A) (hb : Binds X.K fd ps []) (hx : ∀ sl, PassesAt CX X sl (E sl)) (ha : PA X (e :: es) t)
    (hst : starEach (e :: es) X.env = (false, eval e X.env) :: starEach es X.env := by rfl) (hpl : (backTo pos (starEach es X.env)).any (·.1) = false := by rfl)
    (ht : eval (.Call (.Attribute o m apos) (e :: es) [] pos) X.env = (do
      let v ← eval o X.env
      standAt apos.atName
      let (g, first) ← holding [v] (getMethod v m pl)
      callWith pos g first (backTo pos (starEach (e :: es) X.env)) (backToKw pos (keywordEach [] X.env))) := by rfl) :
    PE X (.Call (.Attribute o m apos) (e :: es) [] pos) (tMethS C m sp E ta t) := by
  refine ⟨fun pins s sl H Q I h => PySem.W.methodCall_KW (pl := pl) (thn (ho.run pins s sl H _ I h) fun u s1 hh => ?_) ht⟩
  obtain ⟨x, H1, I1, rx, a, dx, fs, ex, ea, l, q⟩ := hh
  subst ex
  cases rx
  refine getmeth_ok I1 ea c hm l (PySem.W.callWith_K (first := [.ref a]) (h₀ := X.base) I.ok.mod.kin hm.kp ?_ hst hpl)
  exact thn (ha.run pos pins s1 sl H1 _ I1 q) fun us s2 ⟨vs, H2, I2, r, q2⟩ => ⟨I2.kIn, run_fnS (us := .ref a :: us) (vs := .ref a :: vs) F hr hb (hx sl) I2 (.cons rfl r) q2⟩
end

/-! ### isinstance of a caught error, with or without a dict of its own -/
section
open PySem.W PySem.Calls
variable {prog : Program} {w : World} {A : Around} {E : Value → Shared → Prop} {s : Shared} {K : Frag} {x D : Addr} {ox : Obj} {od : Option Obj}
theorem find_data {name : Str} {a g : Value} (hc : (clsIn K D).isSome = true) (ha : findIn K (.ref D) name = some (some a)) (hg : specialIn K a "__get__" = some (some g))
    (ht : takesIn K a = some true) : findObj K D od name = some (.bind g a) := by
  obtain ⟨cd, e⟩ := Option.isSome_iff_exists.mp hc
  unfold findObj
  rw [e, Option.bind_some, ha, Option.bind_some]
  simp [hg, ht]
theorem err_class {Q : Option Value → Shared → Prop} (T : ExcC K D) (X : K.In s.heap) (I : InstAt s.heap x ox D od) (h : Q (some (.ref D)) { s with toks := s.toks + 1 }) :
    wpAny (model prog w) A (getAttr? (.ref x) "__class__") Q E s := by
  have hf : findObj K D od "__class__" = some (.bind (.builtin "getset_descriptor.__get__") (.builtin "object.__class__")) :=
    find_data (by obtain ⟨cd, hc, _⟩ := any_some T.hd; rw [hc]; rfl) T.ha T.hn T.ht
  obtain ⟨hp, g, d, t, os⟩ := s
  have L0 := I.type (M := model prog w)
  have L1 := looks_findIn (M := model prog w) X T.hg
  have L2 := looks_findIn (M := model prog w) X T.hk
  have L3 := looks_find (M := model prog w) X I hf
  have sub : Looks (model prog w) hp (isInstance (.ref x) (.type "BaseException")) true := L0.andThen (looks_subIn X T.hs)
  have z0 : (false && onTheHeap (Value.builtin "BaseException.__getattribute__")) = false := rfl
  have z2 : (Value.builtin "BaseException.__getattribute__" == Value.builtin "object.__getattribute__") = false := by decide +kernel
  have z1 : (onTheHeap (Value.ref D) && Value.builtin "BaseException.__getattribute__" == Value.builtin "object.__getattribute__") = false := by rw [z2]; rfl
  unfold getAttr? getAttrBy? getAttrBy
  refine wpAny_bind (wpAny_mkText (wpAny_bind (wpAny_attempt (wpAny_holding (wpAny_bind (L0.at (wpAny_bind (L1.at ?_))))))))
  show wpAny _ _ (if (onTheHeap (Value.ref D) && Value.builtin "BaseException.__getattribute__" == Value.builtin "object.__getattribute__") = true then _ else _) _ _ _
  rw [z1, if_neg Bool.false_ne_true]
  unfold getAttrByItsOwn hookBefore
  refine wpAny_bind ?_
  rw [if_pos (show onTheHeap (Value.ref D) = true from rfl)]
  refine L2.at (wpAny_bind (wpAny_attempt (wpAny_holding ?_)))
  unfold callGetattribute
  rw [z0, if_neg Bool.false_ne_true]
  unfold boundAndCalled
  rw [PySem.F.excAttr_ValueError.ga.bind (.ref x)]
  refine wpAny_bind (wpAny_pure ?_)
  show wpAny _ _ (call (.builtin "BaseException.__getattribute__") [.ref x, .str "__class__" t]) _ _ _
  refine wpAny_call (codeAny_call_builtin PySem.F.excAttr_ValueError.ga.plain PySem.F.entry_bexc_ga ?_)
  refine @check_slot (model prog w) _ _ ⟨hp, g, d, t + 1, os⟩ "BaseException.__getattribute__" "BaseException" "__getattribute__" (.ref x)
    [.str "__class__" t] [] _ (by decide +kernel) (by decide +kernel) sub (PySem.F.args_bexc_ga (.ref x) (.str "__class__" t)) ?_
  unfold Builtin.«object.__getattribute__»
  refine wpAny_bind (wpAny_of_eq (a := ((Value.ref x : Value), [Value.str "__class__" t])) (by first | rfl | (simp only [slotArgs]; rfl)) ?_)
  refine wpAny_bind (wpAny_pure (wpAny_bind (L0.at (wpAny_bind (L3.at ?_)))))
  show wpAny _ _ (holding [Value.builtin "object.__class__"] (call (.builtin "getset_descriptor.__get__") [.builtin "object.__class__", .ref x, .ref D]) >>= ret) _ _ _
  refine wpAny_bind (wpAny_holding (wpAny_call (class_get (s := ⟨hp, g, d, t + 1, os⟩) (ox := ox) (od := od) X I T.hm (wpAny_pure ?_))))
  show wpAny _ _ (handedOut (.ref D)) _ _ _
  rw [handedOut_of (v := .ref D) rfl]
  first
    | exact wpAny_pure (wpAny_pure h)
    | exact wpAny_pure h
    | exact wpAny_pure (wpAny_bind (wpAny_pure (wpAny_pure h)))
theorem kit_err (T : ExcC K D) : KitX K (.ref x) (.ref D) (fun h => InstAt h x ox D od) where
  ty := fun _ _ _ I => I.type
  it := fun _ _ X _ => by
    obtain ⟨cd, e, _⟩ := any_some T.hd
    unfold clsIn at e
    split at e
    · rename_i z
      exact fun A' Q' E' s' k q => by
        unfold isType loadHead
        exact wpAny_bind (wpAny_loadPart (k _ _ (X _ _ z)) (wpAny_pure q))
    · cases e
  ne := fun h tp dd its n sl X htp => (handS_kitx_exc (x := x) (ox := ox) T.hg T.hk T.hs T.hd T.ha T.hn T.ht T.hm).ne h tp dd its n sl X htp
  ca := fun X I k => err_class T X I k
end
/-- isinstance(e, c), e the error that the suite holds; its own dict, where it has one, is tracked -/
def rIsX (K : PySem.W.Frag) (cls : Value) (d : Option Addr) (a : Addr) : List V → Hp → VK → Prop := fun xs H Q => ∃ (D : Addr) (c : V) (cv : Value) (b : Bool),
  cls = .ref D ∧ ExcC K D ∧ (∀ dd, d = some dd → ∃ fs, H dd = some (.xd fs)) ∧ xs = [.ref a, c] ∧ (∀ u, RelV c u → u = cv) ∧ PySem.W.kitOne K (.ref D) cv = some b ∧ Q (.bl b) H
theorem call_isX {X : Cx} {a : Addr} {cls : Value} {d : Option Addr} {oe : Obj} {pn : List (Addr × Obj)} (hz : Zc cls d oe) (hf : ∃ vs, oe.data = .fields vs) :
    CallR (X.suite a ((a, oe) :: pn)) (.builtin "isinstance") (rIsX X.K cls d a) := by
  intro pins s sl H xs us Q I r h
  obtain ⟨D, c, cv, b, rfl, T, hd, rfl, hcv, e, q⟩ := h
  obtain ⟨u1, u2, rfl, r1, r2⟩ := vals2 r
  cases r1
  have ec := hcv _ r2
  subst ec
  obtain ⟨hget, _⟩ := I.pin (a, oe) (List.mem_append.mpr (.inl List.mem_cons_self))
  obtain ⟨vs, hv⟩ := hf
  have fin : ∀ tk, EP (X.suite a ((a, oe) :: pn)) pins sl Q (.bool b) { s with toks := tk } := fun tk => ⟨.bl b, H, I.tok tk, rfl, q⟩
  cases d with
  | none =>
    have J : PySem.W.InstAt s.heap a oe D none := ⟨hget, hz.1, by unfold PySem.W.notCls; rw [hv] <;> rfl, by rw [hz.2]; exact True.intro⟩
    exact PySem.W.kia_one (kit_err T) I.kIn J e (fun z => nomatch z) fin
  | some dd =>
    obtain ⟨fs, hx⟩ := hd dd rfl
    obtain ⟨mA, hns, _⟩ := (show ObjOk X.prog X.w H s.heap dd (.xd fs) from I.hok dd _ hx)
    obtain ⟨od, ho, _⟩ := lookIn_ns hns
    have J : PySem.W.InstAt s.heap a oe D (some od) := ⟨hget, hz.1, by unfold PySem.W.notCls; rw [hv] <;> rfl, by rw [hz.2]; exact ho⟩
    exact PySem.W.kia_one (kit_err T) I.kIn J e (fun z => nomatch z) fin
end Fc
set_option Elab.async false
set_option linter.all false
set_option maxRecDepth 100000
set_option maxHeartbeats 4000000
/-! == of an own instance with other kinds, both ways round. -/
namespace Fc
open PySem PySem.Spec PyProof.Rows L2
open AutoSeq1 (wpAny_loadPart')
section
open PySem.W
variable {prog : Program} {w : World} {A : Around} {E : Value → Shared → Prop} {s : Shared} {K : Frag} {x C f : Addr} {ox : Obj} {od : Option Obj}
/-- other == x: other's own == declines, then x's is asked -/
theorem rc_back {b : Value} {T id : String} {Q : Value → Shared → Prop} (hu : A.units < cLine) (hT : s.TypeIs b T) (slot : Slot T (cmpInfo .Eq).2.1 id) (X : K.In s.heap) (I : InstAt s.heap x ox C od)
    (hsub : subIn K (.ref C) (.type T) = some false) (hs : findIn K (.ref C) "__eq__" = some (some (.ref f))) (hf : isFn K (.ref f) = true)
    (decl : ∀ Q' : Value → Shared → Prop, Q' .notImplemented s → wpAny (model prog w) A (call (.builtin id) [b, .ref x]) Q' E s)
    (h : wpAny (model prog w) A (call (.ref f) [.ref x, b]) (PySem.W.CmpBack Q) E s) : wpAny (model prog w) A (richCompare .Eq b (.ref x)) Q E s := by
  have one : wpAny (model prog w) A (tryCompare (.ref x) (cmpInfo .Eq).2.2 b) (fun r s' => ∃ v, r = some v ∧ Q v s') E s := by
    unfold tryCompare
    refine wpAny_bind (ifBound_K X I hs hf (wpAny_mono h (fun v s' hv => ?_) fun _ _ e => e))
    cases v <;> first | exact hv.elim | exact wpAny_pure ⟨_, rfl, hv⟩
  rcases hi : cmpInfo CmpOp.Eq with ⟨sym, g, r⟩
  rw [hi] at slot one
  have hne : (Value.type T != Value.ref C) = true := by simp
  simp only [richCompare, hi, hT.oneThing_none]
  try with_reducible refine wpAny_holding ?_
  refine wpAny_bind (wpAny_cRoomFor_or (.inr hu) ?_)
  refine wpAny_bind (wpAny_typeOf hT (wpAny_bind (I.type.here ?_)))
  simp only [hne, if_true]
  refine wpAny_bind ((looks_subIn X hsub).here ?_)
  simp only [Bool.false_eq_true, if_false, Bool.not_false, if_true]
  refine wpAny_bind (m := tryCompare b _ (.ref x)) (wpAny_tryCompare_declines hT slot (decl _ ⟨rfl, ?_⟩))
  refine wpAny_bind (m := tryCompare (.ref x) _ b) (wpAny_mono one (fun r' s' hr => ?_) fun _ _ e => e)
  obtain ⟨v, rfl, q⟩ := hr
  exact wpAny_pure q
/-- the built-in kinds decline -/
theorem decl_int {i : Int} {t : Tok} {Q : Value → Shared → Prop} (hx : s.heap.get? x = some ox) (hd : ∀ v, ox.data ≠ .prim v) (hq : Q .notImplemented s) :
    wpAny (model prog w) A (call (.builtin "int.__eq__") [.int i t, .ref x]) Q E s := by
  refine GQ.call_here F.slot_int_eq (typeIs_int s i t) F.entry_int_eq (F.args_int_eq_2 _ _) ?_
  obtain ⟨oc, od, da, sl⟩ := ox
  obtain ⟨hp, g, d, tk, os⟩ := s
  cases da
  case prim v => exact absurd rfl (hd v)
  all_goals (wp_walk using wpAny_loadPart' hx)
  all_goals exact hq
theorem decl_str {i : Str} {t : Tok} {Q : Value → Shared → Prop} (hx : s.heap.get? x = some ox) (hd : ∀ v, ox.data ≠ .prim v) (hq : Q .notImplemented s) :
    wpAny (model prog w) A (call (.builtin "str.__eq__") [.str i t, .ref x]) Q E s := by
  refine GQ.call_here F.slot_str_eq (typeIs_str s i t) F.entry_str_eq (F.args_str_eq_2 _ _) ?_
  obtain ⟨oc, od, da, sl⟩ := ox
  obtain ⟨hp, g, d, tk, os⟩ := s
  cases da
  case prim v => exact absurd rfl (hd v)
  all_goals (wp_walk using wpAny_loadPart' hx)
  all_goals exact hq
theorem decl_none {Q : Value → Shared → Prop} (hq : Q .notImplemented s) :
    wpAny (model prog w) A (call (.builtin "NoneType.__eq__") [.none, .ref x]) Q E s := by
  refine GQ.call_here F.slot_NoneType_eq rfl F.entry_NoneType_eq (F.args_NoneType_eq_2 _ _) ?_
  obtain ⟨hp, g, d, tk, os⟩ := s
  wp_walk
  exact hq
theorem decl_tup {l : Addr} {Q : Value → Shared → Prop} (hT : s.TypeIs (.ref l) "tuple") (X : K.In s.heap) (I : InstAt s.heap x ox C od) (hsub : subIn K (.ref C) (.type "tuple") = some false) (hq : Q .notImplemented s) :
    wpAny (model prog w) A (call (.builtin "tuple.__eq__") [.ref l, .ref x]) Q E s := by
  refine GQ.call_here F.slot_tuple_eq hT F.entry_tuple_eq (F.args_tuple_eq_2 _ _) ?_
  have L0 : Looks (model prog w) s.heap (isInstance (.ref x) (.type "tuple")) false := (I.type (M := model prog w)).andThen (looks_subIn X hsub)
  obtain ⟨hp, g, d, tk, os⟩ := s
  wp_walk using L0.at
  exact hq
theorem decl_lst {l : Addr} {Q : Value → Shared → Prop} (hT : s.TypeIs (.ref l) "list") (X : K.In s.heap) (I : InstAt s.heap x ox C od) (hsub : subIn K (.ref C) (.type "list") = some false) (hq : Q .notImplemented s) :
    wpAny (model prog w) A (call (.builtin "list.__eq__") [.ref l, .ref x]) Q E s := by
  refine GQ.call_here F.slot_list_eq hT F.entry_list_eq (F.args_list_eq_2 _ _) ?_
  have L0 : Looks (model prog w) s.heap (isInstance (.ref x) (.type "list")) false := (I.type (M := model prog w)).andThen (looks_subIn X hsub)
  obtain ⟨hp, g, d, tk, os⟩ := s
  wp_walk using L0.at
  exact hq
end

/-- values of built-in kinds whose own == declines -/
inductive BK (H : Hp) : V → String → Prop where
  | int (i : Int) : BK H (.int i) "int"
  | str (x : Str) : BK H (.str x) "str"
  | non : BK H .non "NoneType"
  | tup {a : Addr} {xs : List V} (h : H a = some (.tup xs)) : BK H (.ref a) "tuple"
  | lst {a : Addr} {xs : List V} (h : H a = some (.lst xs)) : BK H (.ref a) "list"
theorem BK.ty {K : PySem.W.Frag} {H : Hp} {x : V} {t : String} (b : BK H x t) : TyX K H x (.type t) := by
  cases b with
  | int i => exact .base (.int i)
  | str x => exact .base (.str x)
  | non => exact .base .non
  | tup h => exact .base (.tup h)
  | lst h => exact .base (.lst h)
theorem BK.mem {H : Hp} {x : V} {t : String} (b : BK H x t) : t ∈ ["int", "str", "NoneType", "tuple", "list"] := by
  cases b <;> decide
/-- ==, where one of the two at least is an instance of the class at C -/
def rEqR (K : PySem.W.Frag) (C : Addr) (sp : Sp) (E : XK) : R2 := fun x y H Q =>
  (∃ a dx fs t, x = .ref a ∧ H a = some (.ins C dx fs) ∧ TyX K H y t ∧ PySem.W.notFirst K C t = true ∧ sp [.ref a, y] H Q E) ∨
  (∃ a dx fs t, y = .ref a ∧ H a = some (.ins C dx fs) ∧ BK H x t ∧ sp [.ref a, x] H Q E)
theorem op_eqR {X : Cx} {CX : CXT} {k : Nat} {C f : Addr} {fd : FuncData} {ps : List Str} {sp : Sp} {E : XK}
    (sub : ∀ t, t ∈ ["int", "str", "NoneType", "tuple", "list"] → PySem.W.subIn X.K (.type t) (.ref C) = some false ∧ PySem.W.subIn X.K (.ref C) (.type t) = some false)
    (hs : PySem.W.findIn X.K (.ref C) "__eq__" = some (some (.ref f))) (hf : PySem.W.isFn X.K (.ref f) = true)
    (F : FnOk X.prog X.w X.K X.mg X.base CX k f fd ps sp) (hr : Room k X.A) (hb : Binds X.K fd ps []) (hx : Passes CX X E) :
    OpR X (compareOp .Eq) (rEqR X.K C sp E) := by
  intro pins s sl H x y u v Q I rx ry h
  show wpAny (model X.prog X.w) X.A (richCompare .Eq u v) (EP X pins sl Q) X.xe s
  rcases h with ⟨a, dx, fs, t, rfl, ha, ty, nf, q⟩ | ⟨a, dx, fs, t, rfl, ha, bk, q⟩
  · cases rx
    obtain ⟨ox, od, J⟩ := inst_at I ha
    obtain ⟨m, hF⟩ := I.fr
    obtain ⟨PP, Z, p, _⟩ := kit_of I ry ty
    exact PySem.W.cmp_K (op := .Eq) hr.units0 hF I.ok.mod.kin J (Z.ty _ _ I.kIn p) nf hs hf
      (thn (run_fn (vs := [.ref a, y]) (us := [.ref a, v]) F hr hb .nil hx I (.cons rfl (.cons ry .nil)) q) fun _ _ z => cmpBack z)
  · cases ry
    obtain ⟨mA, O, _⟩ := ins_get I.hok ha
    obtain ⟨od, J, _⟩ := O.look
    have own := thn (run_fn (vs := [.ref a, x]) (us := [.ref a, u]) F hr hb .nil hx I (.cons rfl (.cons rx .nil)) q) fun _ _ z => cmpBack z
    have s2 := (sub t bk.mem).2
    cases bk with
    | int i =>
      obtain ⟨tk, rfl⟩ := rx
      exact rc_back hr.units0 (typeIs_int s i tk) PySem.F.slot_int_eq I.kIn J s2 hs hf (fun Q' hq => decl_int O.obj (fun w z => by cases z) hq) own
    | str i =>
      obtain ⟨tk, rfl⟩ := rx
      exact rc_back hr.units0 (typeIs_str s i tk) PySem.F.slot_str_eq I.kIn J s2 hs hf (fun Q' hq => decl_str O.obj (fun w z => by cases z) hq) own
    | non =>
      cases rx
      exact rc_back hr.units0 rfl PySem.F.slot_NoneType_eq I.kIn J s2 hs hf (fun Q' hq => decl_none hq) own
    | @tup l xs hl =>
      cases rx
      obtain ⟨_, its, _, o, h1, h2, _⟩ := (show ObjOk X.prog X.w H s.heap l (.tup xs) from I.hok l _ hl)
      have hT : s.TypeIs (.ref l) "tuple" := ⟨o, h1, h2⟩
      exact rc_back hr.units0 hT PySem.F.slot_tuple_eq I.kIn J s2 hs hf (fun Q' hq => decl_tup hT I.kIn J s2 hq) own
    | @lst l xs hl =>
      cases rx
      obtain ⟨_, its, n, _, h1⟩ := (show ObjOk X.prog X.w H s.heap l (.lst xs) from I.hok l _ hl)
      have hT : s.TypeIs (.ref l) "list" := ⟨_, h1, rfl⟩
      exact rc_back hr.units0 hT PySem.F.slot_list_eq I.kIn J s2 hs hf (fun Q' hq => decl_lst hT I.kIn J s2 hq) own
end Fc
set_option Elab.async false
set_option maxHeartbeats 4000000
/-! Plain mathematics: lowest terms, Euclid's steps. -/
namespace Fc

/-- top and bottom in lowest terms, the bottom above 0 -/
def lo (t b : Int) : Int × Int := if b < 0 then (-t / (Int.gcd t b : Int), -b / (Int.gcd t b : Int)) else (t / (Int.gcd t b : Int), b / (Int.gcd t b : Int))

theorem gcd_pos {t b : Int} (h : b ≠ 0) : (0 : Int) < (Int.gcd t b : Int) := by
  have : 0 < Int.gcd t b := Int.gcd_pos_of_ne_zero_right t h
  omega
theorem fdv_neg (a g : Int) (hg : 0 < g) : a.fdiv (-g) = -a / g := by
  have e : a.fdiv (-g) = (- -a).fdiv (-g) := by rw [Int.neg_neg]
  rw [e, Int.neg_fdiv_neg, Int.fdiv_eq_ediv_of_nonneg _ (by omega)]
/-- as the program reckons it: both by the divisor with the bottom's sign -/
theorem lo_prog {t b : Int} (h : b ≠ 0) : lo t b =
    (t.fdiv (if b < 0 then -(Int.gcd t b : Int) else (Int.gcd t b : Int)), b.fdiv (if b < 0 then -(Int.gcd t b : Int) else (Int.gcd t b : Int))) := by
  have g := gcd_pos (t := t) h
  unfold lo
  by_cases c : b < 0
  · simp only [if_pos c, fdv_neg _ _ g]
  · simp only [if_neg c, Int.fdiv_eq_ediv_of_nonneg _ (Int.le_of_lt g)]

/-- the two facts that say it all: what is divided is the common divisor -/
theorem lo_split {t b : Int} (h : b ≠ 0) : ∃ k : Int, k ≠ 0 ∧ t = (lo t b).1 * k ∧ b = (lo t b).2 * k ∧ 0 < (lo t b).2 ∧ Int.gcd (lo t b).1 (lo t b).2 = 1 ∧ k.natAbs = Int.gcd t b := by
  have g := gcd_pos (t := t) h
  have d1 : (Int.gcd t b : Int) ∣ t := Int.gcd_dvd_left _ _
  have d2 : (Int.gcd t b : Int) ∣ b := Int.gcd_dvd_right _ _
  obtain ⟨x, hx⟩ := d1
  obtain ⟨y, hy⟩ := d2
  have e1 : t / (Int.gcd t b : Int) = x := by
    exact Int.ediv_eq_of_eq_mul_right (by omega) hx
  have e2 : b / (Int.gcd t b : Int) = y := by
    exact Int.ediv_eq_of_eq_mul_right (by omega) hy
  have e3 : -t / (Int.gcd t b : Int) = -x := by
    have : -t = (Int.gcd t b : Int) * (-x) := by rw [Int.mul_neg, ← hx]
    rw [this]
    exact Int.mul_ediv_cancel_left _ (by omega)
  have e4 : -b / (Int.gcd t b : Int) = -y := by
    have : -b = (Int.gcd t b : Int) * (-y) := by rw [Int.mul_neg, ← hy]
    rw [this]
    exact Int.mul_ediv_cancel_left _ (by omega)
  have cop : Int.gcd x y = 1 := by
    have z : Int.gcd t b = (Int.gcd t b) * Int.gcd x y := by
      have q : Int.gcd ((Int.gcd t b : Int) * x) ((Int.gcd t b : Int) * y) = (Int.gcd t b : Int).natAbs * Int.gcd x y := Int.gcd_mul_left ..
      rw [← hx, ← hy] at q
      simpa using q
    have gp : 0 < Int.gcd t b := by omega
    have : Int.gcd t b * 1 = Int.gcd t b * Int.gcd x y := by omega
    exact (Nat.eq_of_mul_eq_mul_left gp this).symm
  have ypos : b < 0 → y < 0 := fun c => by
    rcases Int.lt_trichotomy y 0 with q | q | q
    · exact q
    · subst q; omega
    · have := Int.mul_pos g q; omega
  have ypos' : ¬ b < 0 → 0 < y := fun c => by
    rcases Int.lt_trichotomy y 0 with q | q | q
    · have := Int.mul_neg_of_pos_of_neg g q; omega
    · subst q; omega
    · exact q
  by_cases c : b < 0
  · refine ⟨-(Int.gcd t b : Int), by omega, ?_, ?_, ?_, ?_, by omega⟩
    · unfold lo; rw [if_pos c, e3, Int.neg_mul_neg, Int.mul_comm]; exact hx
    · unfold lo; rw [if_pos c, e4, Int.neg_mul_neg, Int.mul_comm]; exact hy
    · unfold lo; rw [if_pos c, e4]; have := ypos c; show 0 < -y; omega
    · unfold lo; rw [if_pos c, e3, e4]; show Int.gcd (-x) (-y) = 1; rw [Int.neg_gcd, Int.gcd_neg]; exact cop
  · refine ⟨(Int.gcd t b : Int), by omega, ?_, ?_, ?_, ?_, by omega⟩
    · unfold lo; rw [if_neg c, e1, Int.mul_comm]; exact hx
    · unfold lo; rw [if_neg c, e2, Int.mul_comm]; exact hy
    · unfold lo; rw [if_neg c, e2]; exact ypos' c
    · unfold lo; rw [if_neg c, e1, e2]; exact cop
theorem lo_pos {t b : Int} (h : b ≠ 0) : 0 < (lo t b).2 := let ⟨_, _, _, _, p, _⟩ := lo_split (t := t) h; p
theorem lo_cop {t b : Int} (h : b ≠ 0) : Int.gcd (lo t b).1 (lo t b).2 = 1 := let ⟨_, _, _, _, _, p, _⟩ := lo_split (t := t) h; p
theorem lo_cross {t b : Int} (h : b ≠ 0) : (lo t b).1 * b = t * (lo t b).2 := by
  obtain ⟨k, _, e1, e2, _⟩ := lo_split (t := t) h
  have : (lo t b).1 * ((lo t b).2 * k) = (lo t b).1 * k * (lo t b).2 := by ac_rfl
  rw [← e1, ← e2] at this
  exact this

theorem dvd_cop {a b d : Int} (h : Int.gcd a b = 1) (e : b ∣ a * d) : b ∣ d := by
  have c : Nat.Coprime b.natAbs a.natAbs := by
    have : Nat.gcd a.natAbs b.natAbs = 1 := h
    rwa [Nat.gcd_comm] at this
  have q := Int.natAbs_dvd_natAbs.mpr e
  rw [Int.natAbs_mul] at q
  exact Int.natAbs_dvd_natAbs.mp (c.dvd_of_dvd_mul_left q)
/-- lowest terms are one pair -/
theorem low_one {a b c d : Int} (hb : 0 < b) (hd : 0 < d) (h1 : Int.gcd a b = 1) (h2 : Int.gcd c d = 1) (e : a * d = c * b) : a = c ∧ b = d := by
  have d1 : b ∣ d := by
    have : b ∣ a * d := by rw [e]; exact Int.dvd_mul_left _ _
    exact dvd_cop h1 this
  have d2 : d ∣ b := by
    have : d ∣ c * b := by rw [← e]; exact Int.dvd_mul_left _ _
    exact dvd_cop h2 this
  have eq : b = d := Int.le_antisymm (Int.le_of_dvd hd d1) (Int.le_of_dvd hb d2)
  subst eq
  exact ⟨Int.eq_of_mul_eq_mul_right (by omega) e, rfl⟩
theorem lo_eq {t b u d : Int} (hb : b ≠ 0) (hd : d ≠ 0) (e : t * d = u * b) : lo t b = lo u d := by
  obtain ⟨k, k0, e1, e2, p, cp, _⟩ := lo_split (t := t) hb
  obtain ⟨m, m0, e3, e4, q, cq, _⟩ := lo_split (t := u) hd
  have z : (lo t b).1 * (lo u d).2 = (lo u d).1 * (lo t b).2 := by
    have : ((lo t b).1 * (lo u d).2) * (k * m) = ((lo u d).1 * (lo t b).2) * (k * m) := by
      have l : ((lo t b).1 * (lo u d).2) * (k * m) = ((lo t b).1 * k) * ((lo u d).2 * m) := by ac_rfl
      have r : ((lo u d).1 * (lo t b).2) * (k * m) = ((lo u d).1 * m) * ((lo t b).2 * k) := by ac_rfl
      rw [l, r, ← e1, ← e2, ← e3, ← e4]
      exact e
    exact Int.eq_of_mul_eq_mul_right (Int.mul_ne_zero k0 m0) this
  obtain ⟨h1, h2⟩ := low_one p q cp cq z
  exact Prod.ext h1 h2
theorem lo_mul {t b k : Int} (hb : b ≠ 0) (hk : k ≠ 0) : lo (t * k) (b * k) = lo t b :=
  lo_eq (Int.mul_ne_zero hb hk) hb (by ac_rfl)
theorem lo_self {t b : Int} (hb : 0 < b) (h : Int.gcd t b = 1) : lo t b = (t, b) := by
  unfold lo
  rw [if_neg (by omega), h]
  simp
theorem lo_one (t : Int) : lo t 1 = (t, 1) := lo_self (by decide) (by simp)
theorem lo_zero {b : Int} (hb : b ≠ 0) : lo 0 b = (0, 1) := by
  have := lo_eq (t := 0) (u := 0) (d := 1) hb (by decide) (by simp)
  rw [this, lo_one]
theorem lo_self2 {t b : Int} (hb : b ≠ 0) : lo (lo t b).1 (lo t b).2 = lo t b := lo_self (lo_pos hb) (lo_cop hb)
theorem natAbs_le_mul {a k : Int} (hk : k ≠ 0) : a.natAbs ≤ (a * k).natAbs := by
  rw [Int.natAbs_mul]
  have : 1 ≤ k.natAbs := by omega
  exact Nat.le_mul_of_pos_right _ this
theorem lo_top_le {t b : Int} (h : b ≠ 0) : (lo t b).1.natAbs ≤ t.natAbs := by
  obtain ⟨k, k0, e1, _⟩ := lo_split (t := t) h
  conv => rhs; rw [e1]
  exact natAbs_le_mul k0
theorem lo_bot_le {t b : Int} (h : b ≠ 0) : (lo t b).2.natAbs ≤ b.natAbs := by
  obtain ⟨k, k0, _, e2, _⟩ := lo_split (t := t) h
  conv => rhs; rw [e2]
  exact natAbs_le_mul k0

/-! ### Euclid, step by step, as the law does it -/
structure Eu (g i a b : Nat) : Prop where
  gcd : Nat.gcd a b = g
  even : i % 2 = 0 → b < 2 ^ (750 - i / 2)
  odd : i % 2 = 1 → b < a ∧ a < 2 ^ (750 - i / 2)
theorem Eu.turn {g i a b : Nat} (h : Eu g i a b) (hb : b ≠ 0) (hi : i < 1500) : Eu g (i + 1) b (a % b) := by
  have lt : a % b < b := Nat.mod_lt _ (by omega)
  refine ⟨?_, fun e => ?_, fun o => ?_⟩
  · have := h.gcd
    rw [Nat.gcd_comm, ← Nat.gcd_rec, Nat.gcd_comm]
    exact this
  · have o : i % 2 = 1 := by omega
    obtain ⟨h1, h2⟩ := h.odd o
    have ex : 750 - i / 2 = (750 - (i + 1) / 2) + 1 := by omega
    rw [ex, Nat.pow_succ] at h2
    have hd := Nat.div_add_mod a b
    have q1 : 1 ≤ a / b := (Nat.one_le_div_iff (by omega)).mpr (by omega)
    have q2 : b * 1 ≤ b * (a / b) := Nat.mul_le_mul_left b q1
    omega
  · have e : i % 2 = 0 := by omega
    have := h.even e
    refine ⟨lt, ?_⟩
    have ex : (i + 1) / 2 = i / 2 := by omega
    rw [ex]
    exact this
theorem Eu.done {g a b : Nat} (h : Eu g 1500 a b) : b = 0 := by
  have := h.even (by decide)
  simpa using this
theorem Eu.zero {g i a : Nat} (h : Eu g i a 0) : a = g := by
  have := h.gcd
  simpa using this
theorem Eu.start {a b : Nat} (h : b < 2 ^ 750) : Eu (Nat.gcd a b) 0 a b := ⟨rfl, fun _ => by simpa using h, fun e => by omega⟩

theorem pow_cop {a b : Int} (n : Nat) (h : Int.gcd a b = 1) : Int.gcd (a ^ n) (b ^ n) = 1 := by
  have : Nat.Coprime (a.natAbs ^ n) (b.natAbs ^ n) := Nat.Coprime.pow n n h
  show Nat.gcd (a ^ n).natAbs (b ^ n).natAbs = 1
  rw [Int.natAbs_pow, Int.natAbs_pow]
  exact this
end Fc
set_option Elab.async false
set_option linter.all false
set_option maxRecDepth 100000
set_option maxHeartbeats 4000000
set_option exponentiation.threshold 100000
/-! What does not hang on a law: sizes, heaps, Ratios and pairs on the heap, the pot, promises. -/
namespace Fc
open PySem PySem.Spec PyProof.Rows L2
/-! ### sizes -/
/-- below 2 ^ n in size -/
def Bd (n : Nat) (i : Int) : Prop := i.natAbs < 2 ^ n
theorem Bd.mono {n m : Nat} {i : Int} (h : Bd n i) (l : n ≤ m) : Bd m i := Nat.lt_of_lt_of_le h (Nat.pow_le_pow_right (by decide) l)
theorem Bd.mul {n m : Nat} {i j : Int} (h : Bd n i) (g : Bd m j) : Bd (n + m) (i * j) := wide_lt h g
theorem Bd.add {n : Nat} {i j : Int} (h : Bd n i) (g : Bd n j) : Bd (n + 1) (i + j) := by
  unfold Bd at *
  rw [Nat.pow_succ]
  omega
theorem Bd.sub {n : Nat} {i j : Int} (h : Bd n i) (g : Bd n j) : Bd (n + 1) (i - j) := by
  unfold Bd at *
  rw [Nat.pow_succ]
  omega
theorem Bd.neg {n : Nat} {i : Int} (h : Bd n i) : Bd n (-i) := by
  unfold Bd at *
  omega
theorem Bd.abs {n : Nat} {i j : Int} (h : Bd n i) (e : j.natAbs ≤ i.natAbs) : Bd n j := Nat.lt_of_le_of_lt e h
theorem Bd.w {n m : Nat} {i j : Int} (h : Bd n i) (g : Bd m j) (a : 0 < n := by decide) (b : 0 < m := by decide) (l : n + m ≤ 1000000 := by decide) : CMulW i j := wide_mul h g a b l
theorem Bd.fdv {n : Nat} {i j : Int} (h : Bd n j) (a : j ≠ 0) (b : 0 < n := by decide) (l : n ≤ 9000 := by decide) : CFdv i j := ⟨a, Nat.lt_of_lt_of_le (PySem.Flt.log2_lt_of b h) l⟩
theorem Bd.div {n : Nat} {i j : Int} (h : Bd n j) (a : 0 < j) (b : 0 < n := by decide) (l : n ≤ 9000 := by decide) : CDivW i j := wide_div a h b l

/-! ### heaps -/
abbrev Ex (H H' : Hp) : Prop := Same H H'
theorem Ex.new {H : Hp} {p : Addr} {o : HO} (h : H p = none) : Ex H (upd H p o) := fun a u e => by rw [upd_ne (ne_of_none e h)]; exact e
theorem Ex.to {H H1 : Hp} {p : Addr} {o : HO} (x : Ex H H1) (h : H1 p = none) : Ex H (upd H1 p o) := x.trans (Ex.new h)
/-- all but what stands at p is as it was -/
def Keep (p : Addr) (H H' : Hp) : Prop := ∀ b o, H b = some o → b ≠ p → H' b = some o
theorem Keep.refl {p : Addr} {H : Hp} : Keep p H H := fun _ _ h _ => h
theorem Keep.trans {p : Addr} {H H1 H2 : Hp} (a : Keep p H H1) (b : Keep p H1 H2) : Keep p H H2 := fun c o h n => b c o (a c o h n) n
theorem Keep.of {p : Addr} {H H' : Hp} (h : Ex H H') : Keep p H H' := fun c o e _ => h c o e
theorem Keep.upd {p : Addr} {H : Hp} {o : HO} : Keep p H (upd H p o) := fun c u e n => by rw [upd_ne n]; exact e
theorem Keep.new {p q : Addr} {H : Hp} {o : HO} (h : H q = none) : Keep p H (L2.upd H q o) := Keep.of (Ex.new h)

/-- the fields of a Ratio -/
def rf (p : Int × Int) : List (Str × V) := [("top", .int p.1), ("bottom", .int p.2)]
theorem ne_tb : ¬ (("top" : Str) = "bottom") := by decide +kernel
theorem rf_put (t b : Int) : putF "bottom" (.int b) (putF "top" (.int t) []) = rf (t, b) := by
  show (if ("top" : Str) = "bottom" then _ else (("top" : Str), V.int t) :: putF "bottom" (.int b) []) = rf (t, b)
  rw [if_neg ne_tb]
  rfl
theorem rf_top (p : Int × Int) : (rf p).lookup ("top" : Str) = some (.int p.1) := by simp [rf, List.lookup]
theorem rf_bot (p : Int × Int) : (rf p).lookup ("bottom" : Str) = some (.int p.2) := by
  have : (("bottom" : Str) == "top") = false := by decide +kernel
  simp [rf, List.lookup, this]
theorem rf_no (p : Int × Int) {m : Str} (h : (m == "top") = false) (h2 : (m == "bottom") = false) : (rf p).lookup m = none := by
  simp [rf, List.lookup, h, h2]
/-- a Ratio with the fields p stands at a -/
def RatAt (C : Addr) (H : Hp) (a : Addr) (p : Int × Int) : Prop := ∃ dx, H a = some (.ins C dx (rf p))
theorem RatAt.ex {C : Addr} {H H' : Hp} {a : Addr} {p : Int × Int} (r : RatAt C H a p) (e : Ex H H') : RatAt C H' a p := let ⟨dx, h⟩ := r; ⟨dx, e _ _ h⟩
/-- a pair of whole numbers stands at a -/
def Pr (H : Hp) (a : Addr) (p : Int × Int) : Prop := H a = some (.tup [.int p.1, .int p.2])
theorem Pr.ex {H H' : Hp} {a : Addr} {p : Int × Int} (r : Pr H a p) (e : Ex H H') : Pr H' a p := e _ _ r
/-- a fair pair: the bottom above 0, both of at most n digits in base 2 -/
structure Sm (n : Nat) (p : Int × Int) : Prop where
  t : Bd n p.1
  b : Bd n p.2
  pos : 0 < p.2
theorem Sm.mono {n m : Nat} {p : Int × Int} (h : Sm n p) (l : n ≤ m) : Sm m p := ⟨h.t.mono l, h.b.mono l, h.pos⟩
theorem Sm.lo {n : Nat} {t b : Int} (ht : Bd n t) (hb : Bd n b) (h : b ≠ 0) : Sm n (lo t b) := ⟨ht.abs (lo_top_le h), hb.abs (lo_bot_le h), lo_pos h⟩
theorem pos_ne {b : Int} (h : 0 < b) : b ≠ 0 := by omega

theorem passF {X : Cx} {E : XK} : Passes CX0 X E := fun _ _ _ _ _ _ _ h => h.elim
theorem Sm.ne {n : Nat} {p : Int × Int} (h : Sm n p) : p.2 ≠ 0 := pos_ne h.pos
theorem Sm.nn {n m : Nat} {p q : Int × Int} (h : Sm n p) (g : Sm m q) : p.2 * q.2 ≠ 0 := Int.mul_ne_zero h.ne g.ne
theorem Bd.pow {m : Nat} {a : Int} (h : Bd m a) : ∀ i : Nat, Bd (m * i + 1) (a ^ i)
  | 0 => by unfold Bd; rw [Int.pow_zero, Nat.mul_zero]; decide
  | i + 1 => by
    rw [Int.pow_succ]
    exact ((Bd.pow h i).mul h).mono (by rw [Nat.mul_succ]; omega)
/-- the pot: a list of the cells, the place, and what is left of the cell -/
def PotAt (H : Hp) (p : Addr) : Prop := ∃ (l : Addr) (cs : List Int) (i c : Int), p ≠ l ∧ H p = some (.lst [.ref l, .int i, .int c]) ∧ H l = some (.lst (cs.map V.int)) ∧
  cs.length ≤ 63 ∧ 0 ≤ i ∧ 0 ≤ c ∧ ∀ z ∈ cs, 0 ≤ z
theorem PotAt.ex {H H' : Hp} {p : Addr} (h : PotAt H p) (e : Ex H H') : PotAt H' p := by
  obtain ⟨l, cs, i, c, ne, h1, h2, r⟩ := h
  exact ⟨l, cs, i, c, ne, e _ _ h1, e _ _ h2, r⟩
theorem PotAt.ne {H : Hp} {p t : Addr} (h : PotAt H p) (n : H t = none) : t ≠ p := fun e => by
  obtain ⟨l, cs, i, c, ne, h1, h2, r⟩ := h
  rw [e, h1] at n
  cases n
theorem Keep.free {p t : Addr} {H H' : Hp} (k : Keep p H H') (h : PotAt H' p) (n : H' t = none) : H t = none := by
  cases q : H t with
  | none => rfl
  | some o =>
    rw [k t o q (h.ne n)] at n
    cases n
theorem Pr.ne {H : Hp} {p t : Addr} {q : Int × Int} (r : Pr H t q) (h : PotAt H p) : t ≠ p := by
  obtain ⟨l, cs, i, c, ne, h1, h2, _⟩ := h
  exact ne_of r h1 (by intro z; cases z)
theorem Pr.keep {H H' : Hp} {p t : Addr} {q : Int × Int} (r : Pr H t q) (h : PotAt H p) (k : Keep p H H') : Pr H' t q := k t _ r (r.ne h)
theorem sz3 : 3 ≤ sizeLine := by rw [sizeLine_eq]; decide
theorem sz2 : 2 ≤ sizeLine := by rw [sizeLine_eq]; decide
def spStart (K : PySem.W.Frag) : Sp := fun vs H Q _ => ∃ (a : Addr) (ns : List Int), vs = [.ref a] ∧ SqL K H a (ns.map V.int) ∧ ns.length ≤ 63 ∧
  ∀ p H', PotAt H' p → Ex H H' → H p = none → Q (.ref p) H'
/-- a digit of the pot: all that is said of it is that it is below many -/
def spDigit : Sp := fun vs H Q _ => ∃ (p : Addr) (m : Int), vs = [.ref p, .int m] ∧ PotAt H p ∧ 0 < m ∧ Bd 300 m ∧
  ∀ d H', 0 ≤ d → d < m → PotAt H' p → Keep p H H' → Q (.int d) H'
/-- a drawn fraction -/
def spFraction : Sp := fun vs H Q _ => ∃ (p : Addr), vs = [.ref p] ∧ PotAt H p ∧ ∀ t q H', Pr H' t q → H t = none → Sm 220 q → PotAt H' p → Keep p H H' → Q (.ref t) H'
theorem bd_ten : Bd 210 ((10 : Int) ^ (60 : Int).toNat) := by show ((10 : Int) ^ 60).natAbs < 2 ^ 210; decide +kernel
theorem ten_pos : (0 : Int) < (10 : Int) ^ (60 : Int).toNat := by decide +kernel
theorem bd_twel : Bd 60 ((10 : Int) ^ (12 : Int).toNat) := by show ((10 : Int) ^ 12).natAbs < 2 ^ 60; decide +kernel
theorem twel_pos : (0 : Int) < (10 : Int) ^ (12 : Int).toNat := by decide +kernel
theorem bd_two : Bd 2 (2 : Int) := by show (2 : Int).natAbs < 2 ^ 2; decide
theorem bd_of {n : Nat} {i : Int} (h : i.natAbs < 2 ^ n) : Bd n i := h
theorem bd_le {n : Nat} {i j : Int} (h : Bd n j) (a : -j ≤ i) (b : i ≤ j) : Bd n i := by
  unfold Bd at *
  omega
theorem cpow (i : Int) (j : Nat) (h : i.natAbs < 2 ^ 64) (l : j ≤ 1000000) : CPow i (j : Int) := ⟨by omega, by omega, h⟩
def spHanded : Sp := fun vs H Q _ => ∃ (p t : Addr) (q : Int × Int), vs = [.ref p, .ref t] ∧ PotAt H p ∧ Pr H t q ∧ Sm 300 q ∧
  ∀ u k H', k ≠ 0 → Bd 3 k → Pr H' u (q.1 * k, q.2 * k) → H u = none → PotAt H' p → Keep p H H' → Q (.ref u) H'
theorem kit_self {K : PySem.W.Frag} {a : Addr} : PySem.W.kitOne K (.ref a) (.ref a) = some true := by
  unfold PySem.W.kitOne
  rw [if_pos (by simp)]
/-- lowest terms of at most 220 digits in base 2 -/
structure Lw (p : Int × Int) : Prop where
  s : Sm 220 p
  c : Int.gcd p.1 p.2 = 1
theorem Lw.s4 {p : Int × Int} (h : Lw p) : Sm 4000 p := h.s.mono (by decide)
theorem Lw.of {q : Int × Int} (h : Sm 220 q) : Lw (lo q.1 q.2) := ⟨Sm.lo h.t h.b h.ne, lo_cop h.ne⟩
theorem lo_k {q : Int × Int} (h : Sm 300 q) {k : Int} (k0 : k ≠ 0) : lo (q.1 * k) (q.2 * k) = lo q.1 q.2 := lo_mul h.ne k0
theorem bd_k {q : Int × Int} (h : Sm 300 q) {k : Int} (bk : Bd 3 k) : Bd 8900 (q.2 * k) := (h.b.mul bk).mono (by decide)
def spLaw (K : PySem.W.Frag) : Sp := fun vs H Q _ => ∃ (a : Addr) (ns : List Int), vs = [.ref a] ∧ SqL K H a (ns.map V.int) ∧ ns.length ≤ 63 ∧ ∀ H', Q (.bl true) H'
theorem kit_ref {K : PySem.W.Frag} {t : Value} {D : Addr} {b : Bool} (hd : PySem.W.hasDictIn K D = true) (ht : PySem.W.typeIn K (.ref D) = some (.type "type")) (hs : PySem.W.subIn K t (.ref D) = some b) (ne : t ≠ .ref D) : PySem.W.kitOne K t (.ref D) = some b := by
  obtain ⟨cd, hc, _⟩ := PySem.W.any_some hd
  have e2 : ((PySem.W.clsIn K D).isSome && PySem.W.typeIn K (.ref D) == some (.type "type")) = true := by rw [hc, ht] <;> rfl
  unfold PySem.W.kitOne
  rw [if_neg (fun z => ne (beq_iff_eq.mp z))]
  show (if ((PySem.W.clsIn K D).isSome && PySem.W.typeIn K (.ref D) == some (.type "type")) = true then PySem.W.subIn K t (.ref D) else none) = some b
  rw [if_pos e2]
  exact hs
theorem kit_typ {K : PySem.W.Frag} {D : Addr} {S : String} {b : Bool} (hm : PySem.W.kitMeta S = true) (hs : PySem.W.subIn K (.ref D) (.type S) = some b) : PySem.W.kitOne K (.ref D) (.type S) = some b := by
  unfold PySem.W.kitOne
  rw [if_neg (fun z => by cases beq_iff_eq.mp z)]
  show (if PySem.W.kitMeta S = true then PySem.W.subIn K (.ref D) (.type S) else none) = some b
  rw [if_pos hm]
  exact hs
end Fc
set_option Elab.async false
set_option linter.all false
set_option maxRecDepth 100000
set_option maxHeartbeats 4000000
/-! Fractions as rational numbers; what the ends of spans do under the five operations and the quotient. -/
namespace Fc
/-- what a pair is worth -/
def vl (p : Int × Int) : Rat := (p.1 : Rat) / (p.2 : Rat)
theorem cast_pos {b : Int} (h : 0 < b) : (0 : Rat) < (b : Rat) := Rat.intCast_pos.mpr h
theorem cast_ne {b : Int} (h : b ≠ 0) : (b : Rat) ≠ 0 := fun z => h (Rat.intCast_inj.mp (by rw [z] <;> rfl))
theorem vl_mul {p : Int × Int} (h : p.2 ≠ 0) : vl p * (p.2 : Rat) = (p.1 : Rat) := by
  have := cast_ne h
  unfold vl
  grind
theorem vl_le {p q : Int × Int} (hp : 0 < p.2) (hq : 0 < q.2) : vl p ≤ vl q ↔ p.1 * q.2 ≤ q.1 * p.2 := by
  have a := cast_pos hp
  have b := cast_pos hq
  have e1 := vl_mul (p := p) (by omega)
  have e2 := vl_mul (p := q) (by omega)
  rw [← Rat.intCast_le_intCast, Rat.intCast_mul, Rat.intCast_mul, ← e1, ← e2]
  constructor
  · intro h
    have := Rat.mul_le_mul_of_nonneg_left h (c := (p.2 : Rat) * (q.2 : Rat)) (Rat.mul_nonneg (by grind) (by grind))
    grind
  · intro h
    rcases (Rat.le_total (a := vl p) (b := vl q)) with z | z
    · exact z
    · have m := Rat.mul_le_mul_of_nonneg_left z (c := (p.2 : Rat) * (q.2 : Rat)) (Rat.mul_nonneg (by grind) (by grind))
      have e : (vl p - vl q) * ((p.2 : Rat) * (q.2 : Rat)) = 0 := by grind
      have n : 0 < (p.2 : Rat) * (q.2 : Rat) := Rat.mul_pos a b
      have : vl p - vl q = 0 := (Rat.mul_eq_zero.mp e).resolve_right (by grind)
      grind
theorem vl_lt {p q : Int × Int} (hp : 0 < p.2) (hq : 0 < q.2) : vl p < vl q ↔ p.1 * q.2 < q.1 * p.2 := by
  have := vl_le hq hp
  constructor
  · intro h
    have : ¬ (q.1 * p.2 ≤ p.1 * q.2) := fun z => by have := this.mpr z; grind
    omega
  · intro h
    have : ¬ (vl q ≤ vl p) := fun z => by have := this.mp z; omega
    grind
theorem vl_eq {p q : Int × Int} (hp : 0 < p.2) (hq : 0 < q.2) (h : vl p = vl q) : p.1 * q.2 = q.1 * p.2 := by
  have a := (vl_le hp hq).mp (by grind)
  have b := (vl_le hq hp).mp (by grind)
  omega
theorem vl_lo {t b : Int} (h : b ≠ 0) : vl (lo t b) = (t : Rat) / (b : Rat) := by
  obtain ⟨k, k0, e1, e2, p, _⟩ := lo_split (t := t) h
  have a := cast_ne k0
  have c := cast_pos p
  have f1 : (t : Rat) = ((lo t b).1 : Rat) * (k : Rat) := by rw [← Rat.intCast_mul, ← e1]
  have f2 : (b : Rat) = ((lo t b).2 : Rat) * (k : Rat) := by rw [← Rat.intCast_mul, ← e2]
  unfold vl
  rw [f1, f2]
  grind
/-! ### ranges -/
theorem mul_hi {a b c d x y : Rat} (h1 : a ≤ x) (h2 : x ≤ b) (h3 : c ≤ y) (h4 : y ≤ d) : x * y ≤ a * c ∨ x * y ≤ a * d ∨ x * y ≤ b * c ∨ x * y ≤ b * d := by
  rcases (Rat.le_total (a := 0) (b := y)) with hy | hy
  · have p1 : 0 ≤ (b - x) * y := Rat.mul_nonneg (by grind) hy
    rcases (Rat.le_total (a := 0) (b := b)) with hb | hb
    · have p2 : 0 ≤ b * (d - y) := Rat.mul_nonneg hb (by grind)
      right; right; right; grind
    · have p2 : 0 ≤ (-b) * (y - c) := Rat.mul_nonneg (by grind) (by grind)
      right; right; left; grind
  · have p1 : 0 ≤ (x - a) * (-y) := Rat.mul_nonneg (by grind) (by grind)
    rcases (Rat.le_total (a := 0) (b := a)) with ha | ha
    · have p2 : 0 ≤ a * (d - y) := Rat.mul_nonneg ha (by grind)
      right; left; grind
    · have p2 : 0 ≤ (-a) * (y - c) := Rat.mul_nonneg (by grind) (by grind)
      left; grind
theorem mul_lw {a b c d x y : Rat} (h1 : a ≤ x) (h2 : x ≤ b) (h3 : c ≤ y) (h4 : y ≤ d) : a * c ≤ x * y ∨ a * d ≤ x * y ∨ b * c ≤ x * y ∨ b * d ≤ x * y := by
  have := mul_hi (a := -b) (b := -a) (x := -x) (by grind) (by grind) h3 h4
  grind
theorem inv_anti {c d y : Rat} (h : 0 < c ∨ d < 0) (h3 : c ≤ y) (h4 : y ≤ d) : d⁻¹ ≤ y⁻¹ ∧ y⁻¹ ≤ c⁻¹ := by
  have one : ∀ u v : Rat, u ≤ v → (0 < u ∨ v < 0) → v⁻¹ ≤ u⁻¹ := by
    intro u v huv hs
    have hu : u ≠ 0 := by grind
    have hv : v ≠ 0 := by grind
    have eu := Rat.mul_inv_cancel u hu
    have ev := Rat.mul_inv_cancel v hv
    have sq : 0 ≤ (u * v) * ((v - u) * ((u⁻¹ * u⁻¹) * (v⁻¹ * v⁻¹))) := by
      have q1 : 0 ≤ u * v := by
        rcases hs with hs | hs
        · exact Rat.mul_nonneg (by grind) (by grind)
        · have := Rat.mul_nonneg (a := -u) (b := -v) (by grind) (by grind)
          grind
      have n1 : 0 ≤ u⁻¹ * u⁻¹ := by
        rcases (Rat.le_total (a := 0) (b := u⁻¹)) with z | z
        · exact Rat.mul_nonneg z z
        · have := Rat.mul_nonneg (a := -u⁻¹) (b := -u⁻¹) (by grind) (by grind)
          grind
      have n2 : 0 ≤ v⁻¹ * v⁻¹ := by
        rcases (Rat.le_total (a := 0) (b := v⁻¹)) with z | z
        · exact Rat.mul_nonneg z z
        · have := Rat.mul_nonneg (a := -v⁻¹) (b := -v⁻¹) (by grind) (by grind)
          grind
      exact Rat.mul_nonneg q1 (Rat.mul_nonneg (by grind) (Rat.mul_nonneg n1 n2))
    have e : (u * v) * ((v - u) * ((u⁻¹ * u⁻¹) * (v⁻¹ * v⁻¹))) = u⁻¹ - v⁻¹ := by grind
    grind
  exact ⟨one y d h4 (by grind), one c y h3 (by grind)⟩
/-- the law's six operations -/
def ow (op : Nat) (x y : Rat) : Rat := if op = 0 then x + y else if op = 1 then x - y else if op = 2 then x * y else if op = 3 then (if y < x then y else x) else if op = 4 then (if x < y then y else x) else x / y
/-- what is the least and the greatest of the four corners -/
structure Lst (op : Nat) (a b c d L : Rat) : Prop where
  at_ : L = ow op a c ∨ L = ow op a d ∨ L = ow op b c ∨ L = ow op b d
  h0 : L ≤ ow op a c
  h1 : L ≤ ow op a d
  h2 : L ≤ ow op b c
  h3 : L ≤ ow op b d
structure Grt (op : Nat) (a b c d L : Rat) : Prop where
  at_ : L = ow op a c ∨ L = ow op a d ∨ L = ow op b c ∨ L = ow op b d
  h0 : ow op a c ≤ L
  h1 : ow op a d ≤ L
  h2 : ow op b c ≤ L
  h3 : ow op b d ≤ L
theorem Lst.one {op : Nat} {a b c d L M : Rat} (x : Lst op a b c d L) (y : Lst op a b c d M) : L = M := by
  obtain ⟨x0, x1, x2, x3, x4⟩ := x
  obtain ⟨y0, y1, y2, y3, y4⟩ := y
  refine Rat.le_antisymm ?_ ?_
  · rcases y0 with e | e | e | e <;> rw [e] <;> assumption
  · rcases x0 with e | e | e | e <;> rw [e] <;> assumption
theorem Grt.one {op : Nat} {a b c d L M : Rat} (x : Grt op a b c d L) (y : Grt op a b c d M) : L = M := by
  obtain ⟨x0, x1, x2, x3, x4⟩ := x
  obtain ⟨y0, y1, y2, y3, y4⟩ := y
  refine Rat.le_antisymm ?_ ?_
  · rcases x0 with e | e | e | e <;> rw [e] <;> assumption
  · rcases y0 with e | e | e | e <;> rw [e] <;> assumption
theorem ow_in {op : Nat} {a b c d x y L U : Rat} (h5 : 5 ≤ op → 0 < c ∨ d < 0) (h1 : a ≤ x) (h2 : x ≤ b) (h3 : c ≤ y) (h4 : y ≤ d) (l : Lst op a b c d L) (g : Grt op a b c d U) : L ≤ ow op x y ∧ ow op x y ≤ U := by
  obtain ⟨_, l0, l1, l2, l3⟩ := l
  obtain ⟨_, g0, g1, g2, g3⟩ := g
  unfold ow at *
  by_cases o0 : op = 0
  · simp only [o0, if_true] at *; grind
  by_cases o1 : op = 1
  · simp only [o1, if_true] at *; simp at *; grind
  by_cases o2 : op = 2
  · subst o2
    simp at *
    have p := mul_hi h1 h2 h3 h4
    have q := mul_lw h1 h2 h3 h4
    constructor <;> grind
  by_cases o3 : op = 3
  · subst o3
    simp at *
    constructor <;> grind
  by_cases o4 : op = 4
  · subst o4
    simp at *
    constructor <;> grind
  · simp only [if_neg o0, if_neg o1, if_neg o2, if_neg o3, if_neg o4, Rat.div_def] at *
    obtain ⟨i1, i2⟩ := inv_anti (h5 (by omega)) h3 h4
    have p := mul_hi h1 h2 i1 i2
    have q := mul_lw h1 h2 i1 i2
    constructor <;> grind
theorem ends0 {a b c d : Rat} (h : a ≤ b) (g : c ≤ d) : Lst 0 a b c d (a + c) ∧ Grt 0 a b c d (b + d) := by
  constructor <;> constructor <;> (unfold ow; simp) <;> grind
theorem ends1 {a b c d : Rat} (h : a ≤ b) (g : c ≤ d) : Lst 1 a b c d (a - d) ∧ Grt 1 a b c d (b - c) := by
  constructor <;> constructor <;> (unfold ow; simp) <;> grind
theorem ends3 {a b c d : Rat} (h : a ≤ b) (g : c ≤ d) : Lst 3 a b c d (if a ≤ c then a else c) ∧ Grt 3 a b c d (if b ≤ d then b else d) := by
  constructor <;> constructor <;> (unfold ow; simp) <;> grind
theorem ends4 {a b c d : Rat} (h : a ≤ b) (g : c ≤ d) : Lst 4 a b c d (if c ≤ a then a else c) ∧ Grt 4 a b c d (if d ≤ b then b else d) := by
  constructor <;> constructor <;> (unfold ow; simp) <;> grind
end Fc
set_option Elab.async false
set_option linter.all false
set_option maxRecDepth 100000
set_option maxHeartbeats 4000000
/-! x in y, where y is an instance of an own class that says what is in it. -/
namespace Fc
open PySem PySem.Spec PyProof.Rows L2
section
open PySem.W
variable {M : Model} {A : Around} {E : Value → Shared → Prop} {s : Shared} {K : Frag} {c C f : Addr} {ox : Obj} {od : Option Obj}
theorem in_K {x : Value} {Q : Bool → Shared → Prop} (X : K.In s.heap) (I : InstAt s.heap c ox C od) (hs : findIn K (.ref C) "__contains__" = some (some (.ref f))) (hf : isFn K (.ref f) = true)
    (h : wpAny M A (call (.ref f) [.ref c, x]) (fun r s' => wpAny M A (truthy r) Q E s') E s) : wpAny M A (contains (.ref c) x) Q E s := by
  unfold contains
  refine wpAny_holding ?_
  have e0 : stdlibNamesSay? (.ref c) x = none := rfl
  simp only [e0, callSpecialUnlessNone?, specialOf]
  refine wpAny_bind (wpAny_bind (I.type.here ((looks_findIn X hs).here ?_)))
  show wpAny M A (if (some (Value.ref f) == some Value.none) = true then _ else _) Q E s
  rw [if_neg (by simp)]
  refine wpAny_bind (wpAny_bind (wpAny_bind (I.type.here ((looks_findIn X hs).here ?_))))
  refine wpAny_holding (wpAny_bind ((bind_fn X _ (beq_iff_eq.mp hf)).here ?_))
  show wpAny M A (if (Value.ref f == Value.none) = true then _ else _) _ E s
  rw [if_neg (by simp)]
  exact wpAny_bind (wpAny_mono h (fun v s' z => wpAny_pure z) fun _ _ z => z)
end
/-- x in y -/
def rIn (C : Addr) (sp : Sp) (E : XK) : R2 := fun x y H Q => ∃ a dx fs, y = .ref a ∧ H a = some (.ins C dx fs) ∧ sp [.ref a, x] H (fun v H' => ∃ b, v = .bl b ∧ Q (.bl b) H') E
theorem op_in {X : Cx} {CX : CXT} {k : Nat} {C f : Addr} {fd : FuncData} {ps : List Str} {sp : Sp} {E : XK}
    (hs : PySem.W.findIn X.K (.ref C) "__contains__" = some (some (.ref f))) (hf : PySem.W.isFn X.K (.ref f) = true)
    (F : FnOk X.prog X.w X.K X.mg X.base CX k f fd ps sp) (hr : Room k X.A) (hb : Binds X.K fd ps []) (hx : Passes CX X E) :
    OpR X (compareOp .In) (rIn C sp E) := by
  intro pins s sl H x y u v Q I rx ry h
  obtain ⟨a, dx, fs, rfl, ha, q⟩ := h
  cases ry
  obtain ⟨ox, od, J⟩ := inst_at I ha
  show wpAny (model X.prog X.w) X.A (do return .bool (← contains (.ref a) u)) (EP X pins sl Q) X.xe s
  refine wpAny_bind (in_K I.kIn J hs hf (thn (run_fn (vs := [.ref a, x]) (us := [.ref a, u]) F hr hb .nil hx I (.cons rfl (.cons rx .nil)) q) fun w s' z => ?_))
  obtain ⟨z', H', I', rz, b, rfl, qz⟩ := z
  cases rz
  exact wpAny_pure (wpAny_pure ⟨.bl b, H', I', rfl, qz⟩)
end Fc
set_option Elab.async false
set_option linter.all false
set_option maxRecDepth 100000
set_option maxHeartbeats 4000000
/-! Ratios, pairs and spans on the heap by what they are worth. -/
namespace Fc
open PySem PySem.Spec PyProof.Rows L2
theorem div_is {t b r : Rat} (h : b ≠ 0) (e : r * b = t) : t / b = r := by grind
theorem cast_mul (a b : Int) : ((a * b : Int) : Rat) = (a : Rat) * (b : Rat) := Rat.intCast_mul a b
theorem cast_add (a b : Int) : ((a + b : Int) : Rat) = (a : Rat) + (b : Rat) := Rat.intCast_add a b
theorem cast_sub (a b : Int) : ((a - b : Int) : Rat) = (a : Rat) - (b : Rat) := Rat.intCast_sub a b
theorem cast_neg (a : Int) : ((-a : Int) : Rat) = -(a : Rat) := Rat.intCast_neg a
theorem v_add {p q : Int × Int} (hp : p.2 ≠ 0) (hq : q.2 ≠ 0) : ((p.1 * q.2 + q.1 * p.2 : Int) : Rat) / ((p.2 * q.2 : Int) : Rat) = vl p + vl q := by
  have e1 := vl_mul hp
  have e2 := vl_mul hq
  refine div_is (cast_ne (Int.mul_ne_zero hp hq)) ?_
  rw [cast_mul, cast_add, cast_mul, cast_mul, ← e1, ← e2]
  grind
theorem v_sub {p q : Int × Int} (hp : p.2 ≠ 0) (hq : q.2 ≠ 0) : ((p.1 * q.2 - q.1 * p.2 : Int) : Rat) / ((p.2 * q.2 : Int) : Rat) = vl p - vl q := by
  have e1 := vl_mul hp
  have e2 := vl_mul hq
  refine div_is (cast_ne (Int.mul_ne_zero hp hq)) ?_
  rw [cast_mul, cast_sub, cast_mul, cast_mul, ← e1, ← e2]
  grind
theorem v_mul {p q : Int × Int} (hp : p.2 ≠ 0) (hq : q.2 ≠ 0) : ((p.1 * q.1 : Int) : Rat) / ((p.2 * q.2 : Int) : Rat) = vl p * vl q := by
  have e1 := vl_mul hp
  have e2 := vl_mul hq
  refine div_is (cast_ne (Int.mul_ne_zero hp hq)) ?_
  rw [cast_mul, cast_mul, ← e1, ← e2]
  grind
theorem v_neg {p : Int × Int} (hp : p.2 ≠ 0) : ((-p.1 : Int) : Rat) / (p.2 : Rat) = -vl p := by
  have e1 := vl_mul hp
  refine div_is (cast_ne hp) ?_
  rw [cast_neg, ← e1]
  grind
theorem v_zero {q : Int × Int} (hq : q.2 ≠ 0) : vl q = 0 ↔ q.1 = 0 := by
  have e2 := vl_mul hq
  have := cast_ne hq
  constructor
  · intro h
    rw [h] at e2
    exact Rat.intCast_inj.mp (by rw [← e2]; grind)
  · intro h
    unfold vl
    rw [h]
    grind
theorem v_div {p q : Int × Int} (hp : p.2 ≠ 0) (hq : q.2 ≠ 0) (h0 : q.1 ≠ 0) : ((p.1 * q.2 : Int) : Rat) / ((p.2 * q.1 : Int) : Rat) = vl p / vl q := by
  have e1 := vl_mul hp
  have e2 := vl_mul hq
  have n : vl q ≠ 0 := fun z => h0 ((v_zero hq).mp z)
  refine div_is (cast_ne (Int.mul_ne_zero hp h0)) ?_
  rw [cast_mul, cast_mul, ← e1, ← e2]
  grind
theorem v_pos {q : Int × Int} (hq : 0 < q.2) : 0 < vl q ↔ 0 < q.1 := by
  have := vl_lt (p := ((0, 1) : Int × Int)) (q := q) (by decide) hq
  have z : vl ((0, 1) : Int × Int) = 0 := (v_zero (by decide)).mpr rfl
  rw [z] at this
  rw [this]
  show (0 : Int) * q.2 < q.1 * 1 ↔ _
  rw [Int.zero_mul, Int.mul_one]
theorem v_nn {q : Int × Int} (hq : 0 < q.2) : 0 ≤ vl q ↔ 0 ≤ q.1 := by
  have := vl_le (p := ((0, 1) : Int × Int)) (q := q) (by decide) hq
  have z : vl ((0, 1) : Int × Int) = 0 := (v_zero (by decide)).mpr rfl
  rw [z] at this
  rw [this]
  show (0 : Int) * q.2 ≤ q.1 * 1 ↔ _
  rw [Int.zero_mul, Int.mul_one]
theorem v_np {q : Int × Int} (hq : 0 < q.2) : vl q ≤ 0 ↔ q.1 ≤ 0 := by
  have := vl_le (p := q) (q := ((0, 1) : Int × Int)) hq (by decide)
  have z : vl ((0, 1) : Int × Int) = 0 := (v_zero (by decide)).mpr rfl
  rw [z] at this
  rw [this]
  show q.1 * 1 ≤ (0 : Int) * q.2 ↔ _
  rw [Int.zero_mul, Int.mul_one]
/-- a Ratio in lowest terms, worth r -/
def RatV (C : Addr) (H : Hp) (n : Nat) (a : Addr) (r : Rat) : Prop := ∃ p, RatAt C H a p ∧ Sm n p ∧ Int.gcd p.1 p.2 = 1 ∧ vl p = r
theorem RatV.ex {C : Addr} {H H' : Hp} {n : Nat} {a : Addr} {r : Rat} (h : RatV C H n a r) (e : Ex H H') : RatV C H' n a r := let ⟨p, x, y⟩ := h; ⟨p, x.ex e, y⟩
theorem RatV.mono {C : Addr} {H : Hp} {n m : Nat} {a : Addr} {r : Rat} (h : RatV C H n a r) (l : n ≤ m) : RatV C H m a r := let ⟨p, x, y, z⟩ := h; ⟨p, x, y.mono l, z⟩
theorem RatV.lo {C : Addr} {H : Hp} {n : Nat} {a : Addr} {t b : Int} (h : RatAt C H a (lo t b)) (ht : Bd n t) (hb : Bd n b) (n0 : b ≠ 0) {r : Rat} (e : (t : Rat) / (b : Rat) = r) : RatV C H n a r :=
  ⟨_, h, Sm.lo ht hb n0, lo_cop n0, (vl_lo n0).trans e⟩
/-- a pair of whole numbers worth r -/
def PrV (H : Hp) (n : Nat) (a : Addr) (r : Rat) : Prop := ∃ p, Pr H a p ∧ Sm n p ∧ vl p = r
theorem PrV.ex {H H' : Hp} {n : Nat} {a : Addr} {r : Rat} (h : PrV H n a r) (e : Ex H H') : PrV H' n a r := let ⟨p, x, y⟩ := h; ⟨p, x.ex e, y⟩
theorem PrV.mono {H : Hp} {n m : Nat} {a : Addr} {r : Rat} (h : PrV H n a r) (l : n ≤ m) : PrV H m a r := let ⟨p, x, y, z⟩ := h; ⟨p, x, y.mono l, z⟩
theorem PrV.keep {H H' : Hp} {n : Nat} {p t : Addr} {r : Rat} (h : PrV H n t r) (pt : PotAt H p) (k : Keep p H H') : PrV H' n t r := let ⟨q, x, y⟩ := h; ⟨q, x.keep pt k, y⟩
/-- the same worth, and lowest terms: the same fraction -/
theorem low_is {n m : Nat} {t p : Int × Int} (ht : Sm n t) (hc : Int.gcd t.1 t.2 = 1) (hp : Sm m p) (e : vl t = vl p) : t = lo p.1 p.2 := by
  have h := lo_eq ht.ne hp.ne (vl_eq ht.pos hp.pos e)
  exact (lo_self ht.pos hc).symm.trans h
/-- -1, 0 or 1 -/
def cmpR (x y : Rat) : Int := if x < y then -1 else if y < x then 1 else 0
theorem cmpR_pos {x y : Rat} : 0 < cmpR x y ↔ y < x := by
  unfold cmpR
  split
  · constructor
    · omega
    · intro h; grind
  · split <;> simp_all
theorem cmpR_np {x y : Rat} : cmpR x y ≤ 0 ↔ x ≤ y := by
  have := cmpR_pos (x := x) (y := y)
  constructor
  · intro h
    have : ¬ y < x := fun z => by have := this.mpr z; omega
    grind
  · intro h
    have : ¬ 0 < cmpR x y := fun z => by have := this.mp z; grind
    omega
theorem cmpR_nn {x y : Rat} : 0 ≤ cmpR x y ↔ y ≤ x := by
  unfold cmpR
  split
  · constructor
    · intro h; omega
    · intro h; grind
  · split
    · constructor
      · intro h; grind
      · intro h; omega
    · constructor
      · intro h; grind
      · intro h; omega
/-- the fields of a Span -/
def sf (l h : Addr) : List (Str × V) := [("low", .ref l), ("high", .ref h)]
theorem ne_lh : ¬ (("low" : Str) = "high") := by decide +kernel
theorem sf_put (l h : Addr) : putF "high" (.ref h) (putF "low" (.ref l) []) = sf l h := by
  show (if ("low" : Str) = "high" then _ else (("low" : Str), V.ref l) :: putF "high" (.ref h) []) = sf l h
  rw [if_neg ne_lh]
  rfl
theorem sf_low (l h : Addr) : (sf l h).lookup ("low" : Str) = some (.ref l) := by simp [sf, List.lookup]
theorem sf_high (l h : Addr) : (sf l h).lookup ("high" : Str) = some (.ref h) := by
  have : (("high" : Str) == "low") = false := by decide +kernel
  simp [sf, List.lookup, this]
theorem sf_no (l h : Addr) {m : Str} (h1 : (m == "low") = false) (h2 : (m == "high") = false) : (sf l h).lookup m = none := by
  simp [sf, List.lookup, h1, h2]
/-- a Span from x to y -/
def SpV (S C : Addr) (H : Hp) (n : Nat) (s : Addr) (x y : Rat) : Prop := ∃ dx l h, H s = some (.ins S dx (sf l h)) ∧ RatV C H n l x ∧ RatV C H n h y
theorem SpV.ex {S C : Addr} {H H' : Hp} {n : Nat} {s : Addr} {x y : Rat} (r : SpV S C H n s x y) (e : Ex H H') : SpV S C H' n s x y := let ⟨dx, l, h, a, b, c⟩ := r; ⟨dx, l, h, e _ _ a, b.ex e, c.ex e⟩
theorem SpV.mono {S C : Addr} {H : Hp} {n m : Nat} {s : Addr} {x y : Rat} (r : SpV S C H n s x y) (e : n ≤ m) : SpV S C H m s x y := let ⟨dx, l, h, a, b, c⟩ := r; ⟨dx, l, h, a, b.mono e, c.mono e⟩
/-- a loop over a tuple, whatever its turn asks -/
theorem it_tup {K : PySem.W.Frag} {a : Addr} {xs : List V} {B : (Hp → Prop) → V → Hp → Prop} {H0 : Hp} {Qd : Hp → Prop} (Pv : Nat → Hp → Prop) (h0 : Pv 0 H0) (hl : ∀ i H, i ≤ xs.length → Pv i H → SqT K H a xs)
    (hs : ∀ i x H, xs[i]? = some x → Pv i H → B (Pv (i + 1)) x H) (hd : ∀ H, Pv xs.length H → Qd H) :
    ∃ W : Nat → Nat → Hp → Prop, (∃ m, W 0 m H0) ∧ ∀ i m H, W i m H →
      ((Itt K a).stop i H ∧ Qd H) ∨ ((Itt K a).go i H ∧ ∃ Nx : Hp → Prop, (∀ H', Nx H' → ∃ m', m' < m ∧ W (i + 1) m' H') ∧ ∀ x H', (Itt K a).yld i H x H' → B Nx x H') := by
  refine ⟨fun i m H => m = xs.length - i ∧ i ≤ xs.length ∧ Pv i H, ⟨xs.length, by simp, Nat.zero_le _, h0⟩, ?_⟩
  rintro i m H ⟨rfl, hi, p⟩
  have q := hl i H hi p
  by_cases hlt : i < xs.length
  · refine .inr ⟨⟨xs, xs[i], q, by simp [hlt]⟩, Pv (i + 1), fun H' p' => ⟨xs.length - (i + 1), by omega, rfl, hlt, p'⟩, fun x H' y => ?_⟩
    obtain ⟨e, y⟩ := y
    subst e
    exact hs i x _ (y xs q) p
  · have e : i = xs.length := by omega
    subst e
    exact .inl ⟨⟨xs, q, Nat.le_refl _⟩, hd H p⟩
/-- the Ratios at these addresses are worth these -/
def Fit (C : Addr) (H : Hp) : List Addr → List Rat → Prop
  | [], [] => True
  | a :: as, r :: rs => RatV C H 2001 a r ∧ Fit C H as rs
  | _, _ => False
theorem Fit.len {C : Addr} {H : Hp} : ∀ {as : List Addr} {rs : List Rat}, Fit C H as rs → as.length = rs.length
  | [], [], _ => rfl
  | _ :: _, _ :: _, h => congrArg (· + 1) (Fit.len h.2)
  | [], _ :: _, h => h.elim
  | _ :: _, [], h => h.elim
theorem Fit.app {C : Addr} {H : Hp} {y : Addr} {r : Rat} (hy : RatV C H 2001 y r) : ∀ {as : List Addr} {rs : List Rat}, Fit C H as rs → Fit C H (as ++ [y]) (rs ++ [r])
  | [], [], _ => ⟨hy, trivial⟩
  | _ :: _, _ :: _, h => ⟨h.1, Fit.app hy h.2⟩
  | [], _ :: _, h => h.elim
  | _ :: _, [], h => h.elim
theorem RatV.keep {C D : Addr} {H H' : Hp} {n : Nat} {a : Addr} {r : Rat} {xs : List V} (h : RatV C H n a r) (hD : H D = some (.lst xs)) (k : Keep D H H') : RatV C H' n a r := by
  obtain ⟨p, ⟨dx, z⟩, y⟩ := h
  refine ⟨p, ⟨dx, k _ _ z ?_⟩, y⟩
  intro e
  rw [e, hD] at z
  cases z
theorem Fit.keep {C D : Addr} {H H' : Hp} {xs : List V} (hD : H D = some (.lst xs)) (k : Keep D H H') : ∀ {as : List Addr} {rs : List Rat}, Fit C H as rs → Fit C H' as rs
  | [], [], _ => trivial
  | _ :: _, _ :: _, h => ⟨h.1.keep hD k, Fit.keep hD k h.2⟩
  | [], _ :: _, h => h.elim
  | _ :: _, [], h => h.elim
theorem Fit.ex {C : Addr} {H H' : Hp} (k : Ex H H') : ∀ {as : List Addr} {rs : List Rat}, Fit C H as rs → Fit C H' as rs
  | [], [], _ => trivial
  | _ :: _, _ :: _, h => ⟨h.1.ex k, Fit.ex k h.2⟩
  | [], _ :: _, h => h.elim
  | _ :: _, [], h => h.elim
def Els (C : Addr) (H : Hp) (D : Addr) (rs : List Rat) : Prop := ∃ ys : List Addr, H D = some (.lst (ys.map V.ref)) ∧ Fit C H ys rs
theorem Keep.exn {D : Addr} {H H' : Hp} (k : Keep D H H') (n : H D = none) : Ex H H' := fun b o e => k b o e (ne_of_none e n)
/-- one more of them -/
theorem Els.app {C D : Addr} {H H1 : Hp} {rs : List Rat} {y : Addr} {r : Rat} (h : Els C H D rs) (e : Ex H H1) (hy : RatV C H1 2001 y r) (l : rs.length < 4) :
    ∃ acc, H1 D = some (.lst acc) ∧ acc.length < sizeLine ∧ Els C (upd H1 D (.lst (acc ++ [.ref y]))) D (rs ++ [r]) := by
  obtain ⟨ys, h1, h2⟩ := h
  refine ⟨ys.map V.ref, e _ _ h1, ?_, ys ++ [y], ?_, ?_⟩
  · rw [List.length_map, h2.len, sizeLine_eq]
    omega
  · rw [upd_same, List.map_append]
    rfl
  · exact ((h2.ex e).app hy).keep (e _ _ h1) Keep.upd
/-- [e for x in (a, b) for y in (c, d)] -/
theorem lc22 {K : PySem.W.Frag} {C : Addr} {s o : V} {wi wi1 : TI} {te : TE} {f : Rat → Rat → Rat} {G : Rat → Prop} {H : Hp} {Q : VK} {a b c d : Addr} {ra rb rc rd : Rat}
    (ha : RatV C H 1000 a ra) (hb : RatV C H 1000 b rb) (hc : RatV C H 1000 c rc) (hd : RatV C H 1000 d rd) (gc : G rc) (gd : G rd)
    (hw : ∀ R, (∀ t H', Ex H H' → H' t = some (.tup [.ref a, .ref b]) → R (Itt K t) H') → wi [some s, some o, none, none] H R)
    (hw1 : ∀ u H2 R, Ex H H2 → (∀ t H', Ex H2 H' → H' t = some (.tup [.ref c, .ref d]) → R (Itt K t) H') → wi1 [some s, some o, some u, none] H2 R)
    (ht : ∀ u v ru rv H2 R, RatV C H2 1000 u ru → RatV C H2 1000 v rv → G rv → (∀ y H', Ex H2 H' → H2 y = none → RatV C H' 2001 y (f ru rv) → R (.ref y) H') → te [some s, some o, some (.ref u), some (.ref v)] H2 R)
    (k : ∀ L H' ys, Ex H H' → H' L = some (.lst (ys.map V.ref)) → Fit C H' ys [f ra rc, f ra rd, f rb rc, f rb rd] → Q (.ref L) H') :
    tLc2 wi (gName 2) tYes wi1 (gName 3) tYes te [2, 3] [3] [some s, some o, none, none] H Q := by
  refine hw _ fun t H1 e1 h1 => ?_
  intro D hD
  have tD : t ≠ D := ne_of_none h1 hD
  refine it_tup (xs := [.ref a, .ref b]) (fun i H' => Keep D H1 H' ∧ Els C H' D (([f ra rc, f ra rd, f rb rc, f rb rd] : List Rat).take (2 * i))) ⟨Keep.upd, [], upd_same, trivial⟩ (fun i H' _ p => SqT.of (p.1 _ _ h1 tD)) (fun i x H' hx p => ?_) (fun H' p => ?_)
  · obtain ⟨kp, els⟩ := p
    obtain ⟨u, ru, rfl, hu, i2, e2⟩ : ∃ u ru, x = V.ref u ∧ RatV C H 1000 u ru ∧ i < 2 ∧ ([f ra rc, f ra rd, f rb rc, f rb rd] : List Rat).take (2 * i + 1) = ([f ra rc, f ra rd, f rb rc, f rb rd] : List Rat).take (2 * i) ++ [f ru rc] ∧
        ([f ra rc, f ra rd, f rb rc, f rb rd] : List Rat).take (2 * (i + 1)) = ([f ra rc, f ra rd, f rb rc, f rb rd] : List Rat).take (2 * i + 1) ++ [f ru rd] := by
      match i, hx with
      | 0, z => cases z; exact ⟨a, ra, rfl, ha, by decide, rfl, rfl⟩
      | 1, z => cases z; exact ⟨b, rb, rfl, hb, by decide, rfl, rfl⟩
      | n + 2, z => simp at z
    refine ⟨rfl, hw1 _ _ _ (e1.trans (kp.exn hD)) fun t2 H4 e4 h4 => ?_⟩
    obtain ⟨ys, hy1, hy2⟩ := els
    have t2D : t2 ≠ D := ne_of h4 (e4 _ _ hy1) (by intro z; cases z)
    refine it_tup (xs := [.ref c, .ref d]) (fun j H' => Keep D H4 H' ∧ Els C H' D (([f ra rc, f ra rd, f rb rc, f rb rd] : List Rat).take (2 * i + j))) ⟨Keep.refl, ys, e4 _ _ hy1, hy2.ex e4⟩ (fun j H' _ p => SqT.of (p.1 _ _ h4 t2D)) (fun j x H5 hx p => ?_) (fun H5 p => ?_)
    · obtain ⟨kp5, els5⟩ := p
      have kk : Keep D H1 H5 := (kp.trans (Keep.of e4)).trans kp5
      have E5 : Ex H H5 := e1.trans (kk.exn hD)
      obtain ⟨v, rv, rfl, hv, gv, j2, ej⟩ : ∃ v rv, x = V.ref v ∧ RatV C H 1000 v rv ∧ G rv ∧ j < 2 ∧ ([f ra rc, f ra rd, f rb rc, f rb rd] : List Rat).take (2 * i + (j + 1)) = ([f ra rc, f ra rd, f rb rc, f rb rd] : List Rat).take (2 * i + j) ++ [f ru rv] := by
        match j, hx with
        | 0, z => cases z; exact ⟨c, rc, rfl, hc, gc, by decide, e2.1⟩
        | 1, z => cases z; exact ⟨d, rd, rfl, hd, gd, by decide, e2.2⟩
        | n + 2, z => simp at z
      refine ⟨rfl, ht u v ru rv H5 _ (hu.ex E5) (hv.ex E5) gv fun y H6 e6 ny ry => ?_⟩
      obtain ⟨acc, q1, q2, q3⟩ := els5.app e6 ry (by rw [List.length_take]; show min (2 * i + j) 4 < 4; omega)
      refine ⟨acc, q1, q2, (kp5.trans (Keep.of e6)).trans Keep.upd, ?_⟩
      rw [ej]
      exact q3
    · exact ⟨(kp.trans (Keep.of e4)).trans p.1, p.2⟩
  · obtain ⟨kp, ys, h3, h4⟩ := p
    exact k D H' ys (e1.trans (kp.exn hD)) h3 h4
end Fc
set_option Elab.async false
set_option linter.all false
set_option maxRecDepth 100000
set_option maxHeartbeats 4000000
set_option exponentiation.threshold 100000
/-! Euclid with Lamé's bound: 1500 steps do for a bottom below 2 ^ 1000. -/
namespace Fc
/-- two Fibonacci numbers in a row -/
def fib2 : Nat → Nat × Nat
  | 0 => (0, 1)
  | n + 1 => ((fib2 n).2, (fib2 n).1 + (fib2 n).2)
structure Lu (g N i a b : Nat) : Prop where
  gcd : Nat.gcd a b = g
  first : i = 0 → b ≤ N
  next : i ≠ 0 → b < a ∧ (fib2 i).1 * a + (fib2 (i - 1)).1 * b ≤ N
theorem Lu.start {a b N : Nat} (h : b ≤ N) : Lu (Nat.gcd a b) N 0 a b := ⟨rfl, fun _ => h, fun z => absurd rfl z⟩
theorem fib_step (n : Nat) : (fib2 (n + 2)).1 = (fib2 (n + 1)).1 + (fib2 n).1 := by
  show (fib2 n).1 + (fib2 n).2 = (fib2 n).2 + (fib2 n).1
  omega
theorem Lu.turn {g N i a b : Nat} (h : Lu g N i a b) (hb : b ≠ 0) : Lu g N (i + 1) b (a % b) := by
  have lt : a % b < b := Nat.mod_lt _ (by omega)
  refine ⟨?_, fun e => by omega, fun _ => ⟨lt, ?_⟩⟩
  · have := h.gcd
    rw [Nat.gcd_comm, ← Nat.gcd_rec, Nat.gcd_comm]
    exact this
  · rcases Nat.eq_zero_or_pos i with z | z
    · subst z
      have := h.first rfl
      show 1 * b + 0 * (a % b) ≤ N
      omega
    · obtain ⟨h1, h2⟩ := h.next (by omega)
      obtain ⟨j, rfl⟩ : ∃ j, i = j + 1 := ⟨i - 1, by omega⟩
      have hd := Nat.div_add_mod a b
      have q1 : 1 ≤ a / b := (Nat.one_le_div_iff (by omega)).mpr (by omega)
      have q2 : b * 1 ≤ b * (a / b) := Nat.mul_le_mul_left b q1
      have q3 : b + a % b ≤ a := by omega
      have q4 := Nat.mul_le_mul_left (fib2 (j + 1)).1 q3
      rw [Nat.mul_add] at q4
      show (fib2 (j + 2)).1 * b + (fib2 (j + 1)).1 * (a % b) ≤ N
      rw [fib_step, Nat.add_mul]
      have h2' : (fib2 (j + 1)).1 * a + (fib2 j).1 * b ≤ N := h2
      omega
/-- .. reckoned with two numbers -/
def fibL : Nat → Nat → Nat → Nat
  | 0, a, _ => a
  | n + 1, a, b => fibL n b (a + b)
theorem fibL_is (n : Nat) : ∀ k, fibL n (fib2 k).1 (fib2 k).2 = (fib2 (n + k)).1 := by
  induction n with
  | zero => intro k; rw [Nat.zero_add]; rfl
  | succ n ih =>
    intro k
    show fibL n (fib2 k).2 ((fib2 k).1 + (fib2 k).2) = _
    have := ih (k + 1)
    rw [show n + 1 + k = n + (k + 1) by omega]
    exact this
theorem fib_big : 2 ^ 1000 < (fib2 1500).1 := by
  have e : (fib2 1500).1 = fibL 1500 0 1 := (fibL_is 1500 0).symm
  rw [e]
  decide +kernel
theorem Lu.done {g N a b : Nat} (h : Lu g N 1500 a b) (hN : N ≤ 2 ^ 1000) : b = 0 := by
  obtain ⟨h1, h2⟩ := h.next (by decide)
  have := fib_big
  have q := Nat.mul_le_mul_left (fib2 1500).1 (show 1 ≤ a by omega)
  omega
theorem Lu.zero {g N i a : Nat} (h : Lu g N i a 0) : a = g := by
  have := h.gcd
  simpa using this
end Fc
set_option Elab.async false
set_option linter.all false
set_option maxRecDepth 100000
set_option maxHeartbeats 4000000
/-! An own error with an own __init__, raised where nothing is handled, with its context told; defs that are called within an except suite. -/
namespace Fc
open PySem PySem.Spec PyProof.Rows L2 L2H
section
variable {X : Cx} {CX : CXT} {k : Nat} {C fI : Addr} {fd : FuncData} {ps : List Str} {sp : Sp} {x : Str} {p pos : Pos} {e : Expr} {es : List Expr} {ta : TA}
/-- the new exception as the own __init__ finds it -/
theorem fresh_exc {pins : List (Addr × Obj)} {sl : L2.St} {H : Hp} {hp : Heap} {g : Array GenState} {dr : Drawn} {tk : Nat} {os : OsState} (I : Inv X pins sl H ⟨hp, g, dr, tk, os⟩) (us : List Value) :
    let h2 := (hp.push (PySem.W.kdv_tup us)).push (PySem.HandSPX.excO C hp.objs.size)
    (∀ b o, hp.get? b = some o → h2.get? b = some o) ∧ Inv X pins sl (upd H (hp.objs.size + 1) (exo (hp.objs.size + 1) C none)) ⟨h2, g, dr, tk, os⟩ := by
  have kp : ∀ b o, hp.get? b = some o → ((hp.push (PySem.W.kdv_tup us)).push (PySem.HandSPX.excO C hp.objs.size)).get? b = some o :=
    fun b o z => Heap.get?_push_of_some _ (Heap.get?_push_of_some _ z)
  have at_ : ((hp.push (PySem.W.kdv_tup us)).push (PySem.HandSPX.excO C hp.objs.size)).get? (hp.objs.size + 1) = some (PySem.HandSPX.excO C hp.objs.size) := by
    heap_get
  exact ⟨kp, I.laid (t' := tk) (a := hp.objs.size + 1) (o := exo (hp.objs.size + 1) C none) kp (Nat.le_succ _) (exo_ok at_)⟩
theorem pmk_oexN (T : OexC X.K C) (iC : PySem.W.findIn X.K (.ref C) "__init__" = some (some (.ref fI))) (tI : PySem.W.typeIn X.K (.ref fI) = some (.type "function")) (G : FnOk X.prog X.w X.K X.mg X.base CX k fI fd ps sp) (room : Room (k + 1) X.A)
    (bnd : Binds X.K fd ps []) (px : Passes CX X (fun _ _ _ => False)) (gl : Gl X x) (at_ : X.mg x = some (.ref C)) (args : PA X (e :: es) ta) (nd : (x == ("__debug__" : Str)) = false := by decide)
    (st : starEach (e :: es) X.env = (false, eval e X.env) :: starEach es X.env := by rfl) (pl : (backTo pos (starEach es X.env)).any (·.1) = false := by rfl) : L2N.PMk X (.Call (.Name x p) (e :: es) [] pos) (tMkO C sp [] ta) := fun pins s0 sl H0 Qx I0 want => by
  obtain ⟨_, _, _, _, bm, _, _, _, _, _, _, _, _, _, _, cls, ve⟩ := T.cls
  refine wpAny_Call_Name_kw (ld_glob I0 gl at_ (PySem.W.callWith_K (h₀ := X.base) I0.ok.mod.kin T.kC (thn (args.run pos pins s0 sl H0 _ I0 want) fun us s1 got => ?_) st pl) nd)
  obtain ⟨vs, H1, I1, rel, many, go⟩ := got
  refine ⟨I1.kIn, ?_⟩
  obtain ⟨hp, g, dr, tk, os⟩ := s1
  obtain ⟨kp, I2⟩ := fresh_exc (C := C) I1 us
  have go' := go (hp.objs.size + 1) (I1.hok.fresh (Nat.le_succ _))
  rw [List.append_nil] at go'
  have rel2 : Vals (V.ref (hp.objs.size + 1) :: vs) (Value.ref (hp.objs.size + 1) :: us) := .cons rfl rel
  have len2 : (Value.ref (hp.objs.size + 1) :: us ++ []).length = ps.length := by
    rw [List.append_nil, ← rel2.length]
    exact G.len _ _ _ _ go'
  have few : us.length ≤ sizeLine := by
    have := Paired.length rel
    rw [sizeLine_eq]
    omega
  have bd := bnd _ (Value.ref (hp.objs.size + 1) :: us) I2.kIn len2
  rw [List.append_nil] at bd
  have run := G.run _ X.stack _ _ ⟨Value.ref (hp.objs.size + 1) :: us, []⟩ (Value.ref (hp.objs.size + 1) :: us) _ _ (fun _ _ _ => False) (room.make C us []) (I2.env0.make C us []) bd rel2 go'
  refine wpAny_call (PySem.HandSPX.call_own F.excBase_ValueError (fun Y => PySem.HandSPX.refsVE_contains Y bm ve) (I1.kIn _ _ cls) (PySem.W.looks_findIn I1.kIn iC) (fun self => PySem.W.bind_fn I1.kIn self tI) few (codeAny_mono run fun r s' out => ?_))
  match r, out with
  | .error er, out => exact px pins sl _ _ er s' I2 out
  | .ok (.ret u), ⟨v, H2, os2, bare2, un2, hok2, rv, ev, d, fs, ea, ed, hd1, q2⟩ =>
    subst ev
    obtain ⟨h2, g2, d2, t2, os'⟩ := s'
    obtain ⟨t0, Gh, J, kG, ge, hoe, na⟩ := mk_end0 (d2 := d2) (t2 := t2) I1 (Nat.le_succ _) kp un2 hok2 os2 bare2 ea ed hd1
    exact ⟨rv, hp.objs.size + 1, _, _, ⟨Gh, g2, d2, t2, os'⟩, _, .ref C, some d, rfl, J, kG, ge, hoe, ⟨rfl, rfl, fun vs hv => by cases hv; rfl⟩, rfl, rfl, na, rfl, bare2, raises_own T.exC T.tyC, q2⟩
  | .ok .next, out => exact out.elim
  | .ok .brk, out => exact out.elim
  | .ok .cont, out => exact out.elim
end
theorem passLN {X : Cx} : Passes (L2N.CX X.prog X.w) X E0 := fun _ _ _ _ _ _ _ h => by
  rcases h with ⟨_, _, _, _, _, _, _, _, _, _, _, _, z⟩
  exact False.elim z
theorem takes0N {X : Cx} : L2N.Takes X (fun _ _ _ _ => False) := fun _ _ h => by
  rcases h with ⟨_, _, _, _, _, _, _, _, _, _, _, _, _, _, _, _, z⟩
  exact False.elim z
section
variable {P : Program} {w : World} {K : PySem.W.Frag} {mg : Str → Option Value} {base : Heap} {x qual : Str} {st : Stmt} {f : Addr} {fd : FuncData} {N ps : List Str} {k : Nat} {sp : Sp}
/-- a def that raises, the context of what it raises told -/
theorem fun_okN (D : Fun K x qual st f fd) (S : FnScope N ps (defScope st)) (len : ∀ vs H Q E, sp vs H Q E → vs.length = ps.length)
    (body : ∀ (cdv : Value) (A : Around) (outer : List Env) (s : Shared) (H : Hp) (vs : List V) (Q : VK) (E : XK), Room k (A.deeper (envOfC qual (defScope st) s.heap.objs.size f cdv)) → sp vs H Q E →
      ∃ t, PSs (cxOf (L2N.CX P w) P w K mg base N qual (defScope st) f cdv A outer s H E) (defBody st) t ∧ t { nx := fun _ H' => Q .non H', rt := Q } (L2.start N vs) H) : FnOk P w K mg base (L2N.CX P w) (k + 1) f fd ps sp := by
  obtain ⟨_, _, _, _, _, _, cdv, _, _, rfl, lk, cd⟩ := D.ex
  exact fn_of lk cd S len fun A outer s H vs Q E room q => body cdv A outer s H vs Q E room q
/-- a def that is called within an except suite -/
theorem fun_okH (D : Fun K x qual st f fd) (S : FnScope N ps (defScope st)) (len : ∀ vs H Q E, sp vs H Q E → vs.length = ps.length)
    (body : ∀ (cdv : Value) (A : Around) (outer : List Env) (s : Shared) (H : Hp) (vs : List V) (Q : VK) (E : XK) (p : Addr × Obj), RoomH k (A.deeper (envOfC qual (defScope st) s.heap.objs.size f cdv)) →
      HotC (cxH CX0 P w K mg base N qual (defScope st) f cdv A outer s H E p) → sp vs H Q E →
      ∃ t, PSs (cxH CX0 P w K mg base N qual (defScope st) f cdv A outer s H E p) (defBody st) t ∧ t { nx := fun _ H' => Q .non H', rt := Q } (L2.start N vs) H) : FnH P w K mg base CX0 (k + 1) f fd ps sp := by
  obtain ⟨_, _, _, _, _, _, cdv, _, _, rfl, lk, cd⟩ := D.ex
  exact fn_ofH lk cd S len fun A outer s H vs Q E p hot room q => body cdv A outer s H vs Q E p room ⟨p, ⟨hot.1, hot.2⟩, List.mem_cons_self⟩ q
end
theorem _root_.L2H.RoomH.u64 {k : Nat} {A : Around} (r : RoomH k A) : A.units + 64 < cLine := by
  have := r.un
  omega
theorem passH {X : Cx} : ∀ sl, PassesAt CX0 X sl E0 := fun _ _ _ _ _ _ _ h => h.elim
/-- the suite of a caught error whose context is None -/
theorem hot_suite {X : Cx} {a : Addr} {oe : Obj} {pn : List (Addr × Obj)} {cls : Value} {d : Option Addr} (hz : L2N.Zn cls d oe) (hf : ∃ vs, oe.data = .fields vs) : HotC (X.suite a ((a, oe) :: pn)) := by
  obtain ⟨vs, h⟩ := hf
  exact ⟨(a, oe), ⟨rfl, vs, h, hz.2.2 vs h⟩, List.mem_cons_self⟩
end Fc
set_option Elab.async false
set_option linter.all false
set_option maxRecDepth 100000
set_option maxHeartbeats 4000000
set_option exponentiation.threshold 100000
/-! The simplest fraction between two: the search's invariant, and the partner of Euclid. -/
namespace Fc
open PySem PySem.Spec PyProof.Rows L2
/-- u / v lies from a / b to c / d -/
def InC (a b c d u v : Int) : Prop := a * v ≤ u * b ∧ u * d ≤ c * v
/-- the state of the search within la / lb .. ha / hb -/
structure Cf (la lb ha hb a b c d t ot bt ob : Int) : Prop where
  a0 : 0 < a
  b0 : 0 < b
  c0 : 0 < c
  d0 : 0 < d
  ab : a * d ≤ c * b
  t0 : 0 ≤ t
  ot0 : 0 ≤ ot
  bt0 : 0 ≤ bt
  ob0 : 0 ≤ ob
  fwd : ∀ u v, 0 < v → InC la lb ha hb u v → ∃ x y, 0 < x ∧ 0 < y ∧ InC a b c d x y ∧ u = t * x + ot * y ∧ v = bt * x + ob * y
  bwd : ∀ x y, 0 < x → 0 < y → InC a b c d x y → 0 < bt * x + ob * y ∧ InC la lb ha hb (t * x + ot * y) (bt * x + ob * y)
theorem Cf.start {a b c d : Int} (a0 : 0 < a) (b0 : 0 < b) (c0 : 0 < c) (d0 : 0 < d) (ab : a * d ≤ c * b) : Cf a b c d a b c d 1 0 0 1 := by
  refine ⟨a0, b0, c0, d0, ab, by omega, by omega, by omega, by omega, fun u v v0 h => ?_, fun x y x0 y0 h => ?_⟩
  · refine ⟨u, v, ?_, v0, h, by omega, by omega⟩
    have p := Int.mul_pos a0 v0
    have q := h.1
    have : 0 < u * b := by omega
    exact Int.pos_of_mul_pos_left this b0 |> fun z => z
  · have e1 : 1 * x + 0 * y = x := by omega
    have e2 : 0 * x + 1 * y = y := by omega
    rw [e1, e2]
    exact ⟨y0, h⟩
/-- the least whole number that is not below a / b -/
structure Ceil (a b l : Int) : Prop where
  ge : a ≤ l * b
  lt : (l - 1) * b < a
theorem ceil_of {a b : Int} (b0 : 0 < b) : Ceil a b (-(-a / b)) := by
  have h1 := Int.emod_add_mul_ediv (-a) b
  have h2 := Int.emod_nonneg (-a) (by omega : b ≠ 0)
  have h3 := Int.emod_lt_of_pos (-a) b0
  constructor
  · rw [Int.neg_mul, Int.mul_comm (-a / b) b]; omega
  · rw [Int.sub_mul, Int.neg_mul, Int.mul_comm (-a / b) b]; omega
theorem Ceil.pos {a b l : Int} (h : Ceil a b l) (a0 : 0 < a) (b0 : 0 < b) : 0 < l := by
  have := h.ge
  rcases Int.lt_or_le 0 l with z | z
  · exact z
  · have := Int.mul_nonneg (a := -l) (b := b) (by omega) (by omega)
    rw [Int.neg_mul] at this
    omega
theorem mul_lt_cancel {a b c : Int} (h : a * c < b * c) (c0 : 0 < c) : a < b := Int.lt_of_mul_lt_mul_right h (by omega)
theorem mul_le_cancel {a b c : Int} (h : a * c ≤ b * c) (c0 : 0 < c) : a ≤ b := Int.le_of_mul_le_mul_right h c0
/-- one turn -/
theorem Cf.turn {la lb ha hb a b c d t ot bt ob l : Int} (h : Cf la lb ha hb a b c d t ot bt ob) (g : Ceil a b l) (n : c < l * d) :
    Cf la lb ha hb d (c - (l - 1) * d) b (a - (l - 1) * b) (t * (l - 1) + ot) t (bt * (l - 1) + ob) bt ∧ 0 ≤ l - 1 ∧ c - (l - 1) * d < d ∧ a - (l - 1) * b ≤ b := by
  obtain ⟨a0, b0, c0, d0, ab, t0, ot0, bt0, ob0, fwd, bwd⟩ := h
  have l0 := g.pos a0 b0
  have lt := g.lt
  have ge := g.ge
  have w0 : 0 ≤ l - 1 := by omega
  have es : (l - 1) * d = l * d - d := by rw [Int.sub_mul]; omega
  have esb : (l - 1) * b = l * b - b := by rw [Int.sub_mul]; omega
  generalize hw : l - 1 = w at *
  have d' : 0 < c - w * d := by
    have z : (w * d) * b < c * b := by
      have := Int.mul_lt_mul_of_pos_right lt d0
      have e : w * b * d = w * d * b := by ac_rfl
      rw [e] at this
      omega
    have := mul_lt_cancel z b0
    omega
  refine ⟨⟨d0, d', b0, by omega, ?_, ?_, t0, ?_, bt0, fun u v v0 i => ?_, fun x y x0 y0 i => ?_⟩, w0, by omega, by omega⟩
  · rw [Int.mul_sub, Int.mul_sub]
    have e1 : d * (w * b) = b * (w * d) := by ac_rfl
    have e2 : d * a = a * d := by ac_rfl
    have e3 : b * c = c * b := by ac_rfl
    omega
  · have := Int.mul_nonneg t0 w0; omega
  · have := Int.mul_nonneg bt0 w0; omega
  · obtain ⟨x, y, x0, y0, ⟨i1, i2⟩, eu, ev⟩ := fwd u v v0 i
    have xw : 0 < x - w * y := by
      have z : (w * y) * b < x * b := by
        have := Int.mul_lt_mul_of_pos_right lt y0
        have e : w * b * y = w * y * b := by ac_rfl
        rw [e] at this
        omega
      have := mul_lt_cancel z b0
      omega
    refine ⟨y, x - w * y, y0, xw, ⟨?_, ?_⟩, ?_, ?_⟩
    · rw [Int.mul_sub, Int.mul_sub]
      have e1 : d * (w * y) = y * (w * d) := by ac_rfl
      have e2 : d * x = x * d := by ac_rfl
      have e3 : y * c = c * y := by ac_rfl
      omega
    · rw [Int.mul_sub, Int.mul_sub]
      have e1 : b * (w * y) = y * (w * b) := by ac_rfl
      have e2 : y * a = a * y := by ac_rfl
      have e3 : b * x = x * b := by ac_rfl
      omega
    · rw [eu, Int.add_mul, Int.mul_sub]
      have e1 : t * w * y = t * (w * y) := by ac_rfl
      omega
    · rw [ev, Int.add_mul, Int.mul_sub]
      have e1 : bt * w * y = bt * (w * y) := by ac_rfl
      omega
  · obtain ⟨i1, i2⟩ := i
    have wx := Int.mul_nonneg w0 (by omega : 0 ≤ x)
    have q := bwd (w * x + y) x (by omega) x0 ⟨?_, ?_⟩
    · have e1 : t * (w * x + y) + ot * x = (t * w + ot) * x + t * y := by rw [Int.mul_add, Int.add_mul]; have : t * (w * x) = t * w * x := by ac_rfl
                                                                          omega
      have e2 : bt * (w * x + y) + ob * x = (bt * w + ob) * x + bt * y := by rw [Int.mul_add, Int.add_mul]; have : bt * (w * x) = bt * w * x := by ac_rfl
                                                                             omega
      rw [e1, e2] at q
      exact q
    · rw [Int.add_mul]
      rw [Int.mul_sub] at i2
      have e1 : w * x * b = x * (w * b) := by ac_rfl
      have e2 : x * a = a * x := by ac_rfl
      have e3 : b * y = y * b := by ac_rfl
      omega
    · rw [Int.add_mul]
      rw [Int.mul_sub] at i1
      have e1 : w * x * d = x * (w * d) := by ac_rfl
      have e2 : x * c = c * x := by ac_rfl
      have e3 : d * y = y * d := by ac_rfl
      omega
/-- all numbers of the search stay small -/
theorem Cf.small {la lb ha hb a b c d t ot bt ob : Int} (h : Cf la lb ha hb a b c d t ot bt ob) (lb0 : 0 < lb) (le : la * hb ≤ ha * lb) : t ≤ la ∧ ot ≤ la ∧ bt ≤ lb ∧ ob ≤ lb := by
  obtain ⟨x, y, x0, y0, _, e1, e2⟩ := h.fwd la lb lb0 ⟨Int.le_refl _, le⟩
  have a1 := Int.mul_le_mul_of_nonneg_left (show 1 ≤ x by omega) h.t0
  have a2 := Int.mul_le_mul_of_nonneg_left (show 1 ≤ y by omega) h.ot0
  have a3 := Int.mul_le_mul_of_nonneg_left (show 1 ≤ x by omega) h.bt0
  have a4 := Int.mul_le_mul_of_nonneg_left (show 1 ≤ y by omega) h.ob0
  have := h.t0
  have := h.ot0
  have := h.bt0
  have := h.ob0
  omega
/-- the end: within the span, and the least top and bottom of all that lie in it -/
theorem Cf.done {la lb ha hb a b c d t ot bt ob l : Int} (h : Cf la lb ha hb a b c d t ot bt ob) (g : Ceil a b l) (n : l * d ≤ c) :
    0 < bt * l + ob ∧ InC la lb ha hb (t * l + ot) (bt * l + ob) ∧ ∀ u v, 0 < v → InC la lb ha hb u v → t * l + ot ≤ u ∧ bt * l + ob ≤ v := by
  have l0 := g.pos h.a0 h.b0
  obtain ⟨q1, q2⟩ := h.bwd l 1 l0 (by decide) ⟨by have := g.ge; omega, by omega⟩
  rw [Int.mul_one] at q1
  rw [Int.mul_one, Int.mul_one] at q2
  refine ⟨q1, q2, fun u v v0 i => ?_⟩
  obtain ⟨x, y, x0, y0, ⟨i1, i2⟩, eu, ev⟩ := h.fwd u v v0 i
  have lx : l ≤ x := by
    have z : (l - 1) * b < x * b := by
      have := g.lt
      have := Int.mul_le_mul_of_nonneg_left (show 1 ≤ y by omega) (show 0 ≤ a by have := h.a0; omega)
      omega
    have := mul_lt_cancel z h.b0
    omega
  have a1 := Int.mul_le_mul_of_nonneg_left lx h.t0
  have a2 := Int.mul_le_mul_of_nonneg_left (show 1 ≤ y by omega) h.ot0
  have a3 := Int.mul_le_mul_of_nonneg_left lx h.bt0
  have a4 := Int.mul_le_mul_of_nonneg_left (show 1 ≤ y by omega) h.ob0
  omega
theorem inC_vl {p q r : Int × Int} (hp : 0 < p.2) (hq : 0 < q.2) (hr : 0 < r.2) : InC p.1 p.2 q.1 q.2 r.1 r.2 ↔ vl p ≤ vl r ∧ vl r ≤ vl q := by
  unfold InC
  rw [vl_le hp hr, vl_le hr hq]
/-- p is the simplest from x to y -/
structure Simp (x y : Rat) (p : Int × Int) : Prop where
  pos : 0 < p.2
  cop : Int.gcd p.1 p.2 = 1
  lo : x ≤ vl p
  hi : vl p ≤ y
  least : ∀ q : Int × Int, 0 < q.2 → x ≤ vl q → vl q ≤ y → p.2 ≤ q.2 ∧ (0 < p.1 → p.1 ≤ q.1) ∧ (p.1 < 0 → q.1 ≤ p.1)
theorem simp_pos {p q : Int × Int} {T B : Int} (hp : 0 < p.2) (hq : 0 < q.2) (b0 : 0 < B) (t0 : 0 ≤ T) (i : InC p.1 p.2 q.1 q.2 T B) (m : ∀ u v, 0 < v → InC p.1 p.2 q.1 q.2 u v → T ≤ u ∧ B ≤ v) : Simp (vl p) (vl q) (Fc.lo T B) := by
  have nb : B ≠ 0 := by omega
  have l0 := lo_pos (t := T) nb
  have ev : vl (Fc.lo T B) = vl (T, B) := vl_lo nb
  obtain ⟨i1, i2⟩ := (inC_vl (r := (T, B)) hp hq b0).mp i
  have t1 : (Fc.lo T B).1 ≤ T := by
    have := lo_top_le (t := T) nb
    omega
  have b1 : (Fc.lo T B).2 ≤ B := by
    have := lo_bot_le (t := T) nb
    omega
  refine ⟨l0, lo_cop nb, by rw [ev]; exact i1, by rw [ev]; exact i2, fun r r0 h1 h2 => ?_⟩
  obtain ⟨m1, m2⟩ := m r.1 r.2 r0 ((inC_vl hp hq r0).mpr ⟨h1, h2⟩)
  have nn : 0 ≤ (Fc.lo T B).1 := by
    have h3 : (0 : Rat) ≤ vl (T, B) := (v_nn (q := (T, B)) b0).mpr t0
    rw [← ev] at h3
    exact (v_nn l0).mp h3
  exact ⟨by omega, fun _ => by omega, fun z => by omega⟩
theorem Simp.neg {x y : Rat} {p : Int × Int} (h : Simp (-y) (-x) p) : Simp x y (-p.1, p.2) := by
  obtain ⟨p0, c, h1, h2, l⟩ := h
  have e : vl (-p.1, p.2) = -vl p := v_neg (p := p) (by omega)
  refine ⟨p0, by show Int.gcd (-p.1) p.2 = 1; rw [Int.neg_gcd]; exact c, by rw [e]; grind, by rw [e]; grind, fun q q0 i1 i2 => ?_⟩
  have e2 : vl (-q.1, q.2) = -vl q := v_neg (p := q) (by omega)
  obtain ⟨l1, l2, l3⟩ := l (-q.1, q.2) q0 (by rw [e2]; grind) (by rw [e2]; grind)
  refine ⟨l1, fun z => ?_, fun z => ?_⟩
  · have z' : 0 < -p.1 := z
    have := l3 (by omega)
    have t : -q.1 ≤ p.1 := this
    show -p.1 ≤ q.1
    omega
  · have z' : -p.1 < 0 := z
    have := l2 (by omega)
    have t : p.1 ≤ -q.1 := this
    show q.1 ≤ -p.1
    omega
theorem Simp.zero {x y : Rat} (h1 : x ≤ 0) (h2 : 0 ≤ y) : Simp x y (0, 1) := by
  have z : vl ((0, 1) : Int × Int) = 0 := (v_zero (by decide)).mpr rfl
  refine ⟨by decide, by decide, by rw [z]; exact h1, by rw [z]; exact h2, fun q q0 _ _ => ⟨by show (1 : Int) ≤ q.2; omega, fun c => absurd c (by decide), fun c => absurd c (by decide)⟩⟩
/-! ### Euclid's partner -/
structure Bz (n T u v a b : Int) : Prop where
  v0 : 0 ≤ v
  vu : v < u
  un : u ≤ n
  da : n ∣ a * T - u
  db : n ∣ b * T - v
  sz : a.natAbs * v.natAbs + b.natAbs * u.natAbs ≤ n.natAbs
theorem Bz.start {n T : Int} (n0 : 0 < n) : Bz n T n (T % n) 0 1 := by
  have h1 := Int.emod_nonneg T (by omega : n ≠ 0)
  refine ⟨h1, Int.emod_lt_of_pos T n0, Int.le_refl _, ⟨-1, by omega⟩, ?_, by simp⟩
  have := Int.emod_add_mul_ediv T n
  exact ⟨T / n, by omega⟩
theorem Bz.turn {n T u v a b : Int} (h : Bz n T u v a b) (nz : v ≠ 0) : Bz n T v (u - u / v * v) b (a - u / v * b) ∧ 0 ≤ u / v ∧ u / v ≤ n := by
  obtain ⟨v0, vu, un, da, db, sz⟩ := h
  have vp : 0 < v := by omega
  have e := Int.emod_add_mul_ediv u v
  have r0 := Int.emod_nonneg u nz
  have r1 := Int.emod_lt_of_pos u vp
  have q0 : 0 ≤ u / v := Int.ediv_nonneg (by omega) (by omega)
  have qu : u / v ≤ u := Int.ediv_le_self v (by omega)
  have er : u - u / v * v = u % v := by rw [Int.mul_comm]; omega
  refine ⟨⟨by omega, by omega, by omega, db, ?_, ?_⟩, q0, by omega⟩
  · obtain ⟨x, hx⟩ := da
    obtain ⟨y, hy⟩ := db
    refine ⟨x - u / v * y, ?_⟩
    rw [Int.sub_mul, Int.mul_sub]
    have e1 : u / v * b * T = u / v * (b * T) := by ac_rfl
    have e2 : n * (u / v * y) = u / v * (n * y) := by ac_rfl
    have e3 : b * T = n * y + v := by omega
    have e4 : a * T = n * x + u := by omega
    rw [e1, e2, e3, e4, Int.mul_add]
    omega
  · rw [er]
    have t1 : (a - u / v * b).natAbs ≤ a.natAbs + (u / v).natAbs * b.natAbs := by
      rw [← Int.natAbs_mul]
      omega
    have t2 := Nat.mul_le_mul_right v.natAbs t1
    have t3 : u.natAbs = (u % v).natAbs + v.natAbs * (u / v).natAbs := by
      have : (v * (u / v)).natAbs = v.natAbs * (u / v).natAbs := Int.natAbs_mul _ _
      rw [← this]
      have p := Int.mul_nonneg v0 q0
      omega
    rw [t3, Nat.mul_add] at sz
    rw [Nat.add_mul] at t2
    have e5 : (u / v).natAbs * b.natAbs * v.natAbs = b.natAbs * (v.natAbs * (u / v).natAbs) := by ac_rfl
    omega
theorem Bz.b_le {n T u v a b : Int} (h : Bz n T u v a b) : b.natAbs ≤ n.natAbs := by
  have u1 : 1 ≤ u.natAbs := by have := h.vu; have := h.v0; omega
  have := Nat.mul_le_mul_left b.natAbs u1
  have := h.sz
  omega
theorem Bz.a_le {n T u v a b : Int} (h : Bz n T u v a b) (nz : v ≠ 0) : a.natAbs ≤ n.natAbs := by
  have := Nat.mul_le_mul_left a.natAbs (show 1 ≤ v.natAbs by omega)
  have := h.sz
  omega
theorem fib_big3 : 2 ^ 200 < (fib2 300).1 := by
  have e : (fib2 300).1 = fibL 300 0 1 := (fibL_is 300 0).symm
  rw [e]
  decide +kernel
theorem Lu.done3 {g N a b : Nat} (h : Lu g N 300 a b) (hN : N ≤ 2 ^ 200) : b = 0 := by
  obtain ⟨h1, h2⟩ := h.next (by decide)
  have := fib_big3
  have q := Nat.mul_le_mul_left (fib2 300).1 (show 1 ≤ a by omega)
  omega
/-- the partner: the least whole number from 0 on that makes 1 of T, by n -/
theorem partner_of {n T u a b : Int} (n1 : 1 < n) (h : Bz n T u 0 a b) (u1 : u = 1) : T * (a % n) % n = 1 ∧ 0 < a % n ∧ a % n < n := by
  have h0 := Int.emod_nonneg a (by omega : n ≠ 0)
  have h1 := Int.emod_lt_of_pos a (by omega : 0 < n)
  have e : T * (a % n) % n = 1 := by
    have d := h.da
    rw [u1] at d
    obtain ⟨x, hx⟩ := d
    have m := Int.emod_add_mul_ediv a n
    have : T * (a % n) = 1 + n * (x - a / n * T) := by
      have e1 : a % n = a - n * (a / n) := by omega
      rw [e1, Int.mul_sub, Int.mul_sub]
      have e2 : T * (n * (a / n)) = n * (a / n * T) := by ac_rfl
      have e3 : T * a = a * T := by ac_rfl
      omega
    rw [this, Int.add_mul_emod_self_left]
    exact Int.emod_eq_of_lt (by omega) n1
  refine ⟨e, ?_, h1⟩
  rcases Int.lt_or_eq_of_le h0 with z | z
  · exact z
  · rw [← z, Int.mul_zero, Int.zero_emod] at e
    omega
/-- the two nearest fractions of lesser bottoms lie outside -/
theorem Simp.near {x y : Rat} {p : Int × Int} (h : Simp x y p) {o L : Int} (e : p.1 * o % p.2 = 1) (o0 : 0 < o) (o1 : o < p.2) (hL : L = (p.1 * o - 1) / p.2) : vl (L, o) < x ∧ y < vl (p.1 - L, p.2 - o) := by
  have m := Int.emod_add_mul_ediv (p.1 * o) p.2
  have p0 := h.pos
  have eL : p.2 * L = p.1 * o - 1 := by
    have : p.1 * o - 1 = p.2 * (p.1 * o / p.2) := by omega
    rw [hL, this, Int.mul_ediv_cancel_left _ (by omega)]
  have l1 : vl (L, o) < vl p := (vl_lt (p := (L, o)) o0 p0).mpr (by show L * p.2 < p.1 * o; rw [Int.mul_comm]; omega)
  have l2 : vl p < vl (p.1 - L, p.2 - o) := (vl_lt (q := (p.1 - L, p.2 - o)) p0 (by show 0 < p.2 - o; omega)).mpr (by
    show p.1 * (p.2 - o) < (p.1 - L) * p.2
    rw [Int.mul_sub, Int.sub_mul, Int.mul_comm L]
    omega)
  constructor
  · rcases (Rat.le_total (a := x) (b := vl (L, o))) with z | z
    · have := (h.least (L, o) o0 z (by have := h.hi; grind)).1
      have t : p.2 ≤ o := this
      omega
    · rcases (Rat.le_total (a := x) (b := vl (L, o))) with z2 | z2
      · have := (h.least (L, o) o0 z2 (by have := h.hi; grind)).1
        have t : p.2 ≤ o := this
        omega
      · have ne : vl (L, o) ≠ x := fun q => by
          have := (h.least (L, o) o0 (by grind) (by have := h.hi; grind)).1
          have t : p.2 ≤ o := this
          omega
        grind
  · have ne : ¬ vl (p.1 - L, p.2 - o) ≤ y := fun q => by
      have := (h.least (p.1 - L, p.2 - o) (by show 0 < p.2 - o; omega) (by have := h.lo; grind) q).1
      have t : p.2 ≤ p.2 - o := this
      omega
    grind
end Fc
set_option Elab.async false
set_option linter.all false
set_option maxRecDepth 100000
set_option maxHeartbeats 4000000
set_option exponentiation.threshold 100000
namespace Fc
open PySem PySem.Spec PyProof.Rows L2 L2H
/-! ### the text -/
def top (i : Nat) : Stmt := PySem.Challenge.pw_fewcarry_k04_simplest_between.main.body.getD i (.Pass ⟨0, 0, 0, 0⟩)
abbrev S_cross : Stmt := inClass (top 7) 0
abbrev N_cross : List Str := ["self", "low", "high"]
theorem sc_cross : FnScope N_cross ["self", "low", "high"] (defScope S_cross) := ⟨rfl, rfl, rfl, by decide +kernel, rfl, by decide +kernel, by decide +kernel⟩
abbrev S_init : Stmt := inClass (top 13) 0
abbrev N_init : List Str := ["self", "top", "bottom", "divisor"]
theorem sc_init : FnScope N_init ["self", "top", "bottom"] (defScope S_init) := ⟨rfl, rfl, rfl, by decide +kernel, rfl, by decide +kernel, by decide +kernel⟩
abbrev S_neg : Stmt := inClass (top 13) 6
abbrev N_neg : List Str := ["self"]
theorem sc_neg : FnScope N_neg ["self"] (defScope S_neg) := ⟨rfl, rfl, rfl, by decide +kernel, rfl, by decide +kernel, by decide +kernel⟩
abbrev S_compare : Stmt := inClass (top 13) 11
abbrev N_compare : List Str := ["self", "other", "left", "right"]
theorem sc_compare : FnScope N_compare ["self", "other"] (defScope S_compare) := ⟨rfl, rfl, rfl, by decide +kernel, rfl, by decide +kernel, by decide +kernel⟩
abbrev S_sign : Stmt := inClass (top 13) 12
abbrev N_sign : List Str := ["self"]
theorem sc_sign : FnScope N_sign ["self"] (defScope S_sign) := ⟨rfl, rfl, rfl, by decide +kernel, rfl, by decide +kernel, by decide +kernel⟩
abbrev S_simplest : Stmt := top 15
abbrev N_simplest : List Str := ["low", "high"]
theorem sc_simplest : FnScope N_simplest ["low", "high"] (defScope S_simplest) := ⟨rfl, rfl, rfl, by decide +kernel, rfl, by decide +kernel, by decide +kernel⟩
abbrev S_above : Stmt := top 16
abbrev N_above : List Str := ["low", "high", "a", "b", "c", "d", "top", "old_top", "bottom", "old_bottom", "least", "whole"]
theorem sc_above : FnScope N_above ["low", "high"] (defScope S_above) := ⟨rfl, rfl, rfl, by decide +kernel, rfl, by decide +kernel, by decide +kernel⟩
abbrev S_start : Stmt := top 18
abbrev N_start : List Str := ["script", "cell"]
theorem sc_start : FnScope N_start ["script"] (defScope S_start) := ⟨rfl, rfl, rfl, by decide +kernel, rfl, by decide +kernel, by decide +kernel⟩
abbrev S_digit : Stmt := top 19
abbrev N_digit : List Str := ["pot", "many", "digit"]
theorem sc_digit : FnScope N_digit ["pot", "many"] (defScope S_digit) := ⟨rfl, rfl, rfl, by decide +kernel, rfl, by decide +kernel, by decide +kernel⟩
abbrev S_fraction : Stmt := top 20
abbrev N_fraction : List Str := ["pot", "kind", "top"]
theorem sc_fraction : FnScope N_fraction ["pot"] (defScope S_fraction) := ⟨rfl, rfl, rfl, by decide +kernel, rfl, by decide +kernel, by decide +kernel⟩
abbrev S_below : Stmt := top 21
abbrev N_below : List Str := ["p", "q"]
theorem sc_below : FnScope N_below ["p", "q"] (defScope S_below) := ⟨rfl, rfl, rfl, by decide +kernel, rfl, by decide +kernel, by decide +kernel⟩
abbrev S_plus : Stmt := top 22
abbrev N_plus : List Str := ["p", "q"]
theorem sc_plus : FnScope N_plus ["p", "q"] (defScope S_plus) := ⟨rfl, rfl, rfl, by decide +kernel, rfl, by decide +kernel, by decide +kernel⟩
abbrev S_span : Stmt := top 23
abbrev N_span : List Str := ["pot", "kind", "p", "many", "low", "q"]
theorem sc_span : FnScope N_span ["pot"] (defScope S_span) := ⟨rfl, rfl, rfl, by decide +kernel, rfl, by decide +kernel, by decide +kernel⟩
abbrev S_handed : Stmt := top 24
abbrev N_handed : List Str := ["pot", "p", "times"]
theorem sc_handed : FnScope N_handed ["pot", "p"] (defScope S_handed) := ⟨rfl, rfl, rfl, by decide +kernel, rfl, by decide +kernel, by decide +kernel⟩
abbrev S_isratio : Stmt := top 25
abbrev N_isratio : List Str := ["told"]
theorem sc_isratio : FnScope N_isratio ["told"] (defScope S_isratio) := ⟨rfl, rfl, rfl, by decide +kernel, rfl, by decide +kernel, by decide +kernel⟩
abbrev S_equals : Stmt := top 26
abbrev N_equals : List Str := ["told", "p"]
theorem sc_equals : FnScope N_equals ["told", "p"] (defScope S_equals) := ⟨rfl, rfl, rfl, by decide +kernel, rfl, by decide +kernel, by decide +kernel⟩
abbrev S_partner : Stmt := top 27
abbrev N_partner : List Str := ["top", "n", "u", "v", "a", "b", "k", "times", "rest"]
theorem sc_partner : FnScope N_partner ["top", "n"] (defScope S_partner) := ⟨rfl, rfl, rfl, by decide +kernel, rfl, by decide +kernel, by decide +kernel⟩
abbrev S_nolesser : Stmt := top 28
abbrev N_nolesser : List Str := ["n", "low", "high", "m", "whole"]
theorem sc_nolesser : FnScope N_nolesser ["n", "low", "high"] (defScope S_nolesser) := ⟨rfl, rfl, rfl, by decide +kernel, rfl, by decide +kernel, by decide +kernel⟩
abbrev S_issimplest : Stmt := top 29
abbrev N_issimplest : List Str := ["told", "low", "high", "top", "n", "one", "left", "right"]
theorem sc_issimplest : FnScope N_issimplest ["told", "low", "high"] (defScope S_issimplest) := ⟨rfl, rfl, rfl, by decide +kernel, rfl, by decide +kernel, by decide +kernel⟩
abbrev S_crossed : Stmt := top 30
abbrev N_crossed : List Str := ["first", "second", "p", "q", "e"]
theorem sc_crossed : FnScope N_crossed ["first", "second", "p", "q"] (defScope S_crossed) := ⟨rfl, rfl, rfl, by decide +kernel, rfl, by decide +kernel, by decide +kernel⟩
abbrev S_law : Stmt := top 31
abbrev N_law : List Str := ["script", "pot", "ends", "low", "high", "first", "second", "told", "again"]
theorem sc_law : FnScope N_law ["script"] (defScope S_law) := ⟨rfl, rfl, rfl, by decide +kernel, rfl, by decide +kernel, by decide +kernel⟩
structure Ad where
  C : Addr
  f_init : Addr
  d_init : FuncData
  Z : Addr
  CE : Addr
  O : Addr
  Cr : Addr
  f_cross : Addr
  d_cross : FuncData
  f_neg : Addr
  d_neg : FuncData
  f_compare : Addr
  d_compare : FuncData
  f_sign : Addr
  d_sign : FuncData
  f_simplest : Addr
  d_simplest : FuncData
  f_above : Addr
  d_above : FuncData
  f_start : Addr
  d_start : FuncData
  f_digit : Addr
  d_digit : FuncData
  f_fraction : Addr
  d_fraction : FuncData
  f_below : Addr
  d_below : FuncData
  f_plus : Addr
  d_plus : FuncData
  f_span : Addr
  d_span : FuncData
  f_handed : Addr
  d_handed : FuncData
  f_isratio : Addr
  d_isratio : FuncData
  f_equals : Addr
  d_equals : FuncData
  f_partner : Addr
  d_partner : FuncData
  f_nolesser : Addr
  d_nolesser : FuncData
  f_issimplest : Addr
  d_issimplest : FuncData
  f_crossed : Addr
  d_crossed : FuncData
  f_law : Addr
  d_law : FuncData
structure Txt (K : PySem.W.Frag) (mg : Str → Option Value) (A : Ad) : Prop where
  hn : PySem.W.specialIn K (.builtin "object.__class__") "__get__" = some (some (.builtin "getset_descriptor.__get__"))
  htk : PySem.W.takesIn K (.builtin "object.__class__") = some true
  cl : Cls K A.C
  nT : NoAttr K A.C "top"
  nB : NoAttr K A.C "bottom"
  mkC : Mk K A.C A.f_init
  ha : PySem.W.findIn K (.ref A.C) "__class__" = some (some (.builtin "object.__class__"))
  hm : PySem.W.mroIn K A.C (.type "object") = some true
  F_init : FunD K "__init__" "Ratio.__init__" (defArgs S_init) (defBody S_init) (defScope S_init) [.int 1] [] A.f_init A.d_init
  b_init3 : Binds K A.d_init ["self", "top", "bottom"] []
  b_init2 : ∃ ds, Vals [V.int 1] ds ∧ Binds K A.d_init ["self", "top", "bottom"] ds
  g_Ratio : mg "Ratio" = some (.ref A.C)
  g_gcd : mg "gcd" = some (.builtin "math.gcd")
  g_Z : mg "ZeroBottom" = some (.ref A.Z)
  xZ : PySem.W.excIn K A.Z [.type "ValueError", .type "Exception", .type "BaseException", .type "object"] "ValueError.__new__" = true
  kZ : PySem.W.keepIn K (.ref A.Z) = true
  bZ : PySem.W.subIn K (.ref A.Z) (.type "BaseException") = some true
  tZ : PySem.W.typeIn K (.ref A.Z) = some (.type "type")
  g_CE : mg "CarryError" = some (.ref A.CE)
  g_O : mg "OutOfBounds" = some (.ref A.O)
  g_Cr : mg "Crossed" = some (.ref A.Cr)
  o_Cr : OexC K A.Cr
  in_Cr : PySem.W.findIn K (.ref A.Cr) "__init__" = some (some (.ref A.f_cross))
  ti_Cr : PySem.W.typeIn K (.ref A.f_cross) = some (.type "function")
  xf_Cr : XfC K A.Cr
  e_Cr : PySem.W.exmOne K (.ref A.Cr) (.ref A.CE) = some true
  X_Cr : ExcC K A.Cr
  v_Cr : PySem.W.kitOne K (.ref A.Cr) (.type "ValueError") = some true
  n_Cr_low : PySem.W.findIn K (.ref A.Cr) "low" = some none
  n_Cr_high : PySem.W.findIn K (.ref A.Cr) "high" = some none
  crNo : PySem.W.kitOne K (.ref A.Cr) (.ref A.O) = some false
  n_len : mg "len" = none
  n_abs : mg "abs" = none
  n_int : mg "int" = none
  n_bool : mg "bool" = none
  n_isinstance : mg "isinstance" = none
  n_range : mg "range" = none
  n_ValueError : mg "ValueError" = none
  F_cross : Fun K "__init__" "Crossed.__init__" S_cross A.f_cross A.d_cross
  b_cross : Binds K A.d_cross ["self", "low", "high"] []
  m_cross : Meth K A.Cr "__init__" A.f_cross
  F_neg : Fun K "__neg__" "Ratio.__neg__" S_neg A.f_neg A.d_neg
  b_neg : Binds K A.d_neg ["self"] []
  m_neg : Meth K A.C "__neg__" A.f_neg
  F_compare : Fun K "compare" "Ratio.compare" S_compare A.f_compare A.d_compare
  b_compare : Binds K A.d_compare ["self", "other"] []
  m_compare : Meth K A.C "compare" A.f_compare
  F_sign : Fun K "sign" "Ratio.sign" S_sign A.f_sign A.d_sign
  b_sign : Binds K A.d_sign ["self"] []
  m_sign : Meth K A.C "sign" A.f_sign
  F_simplest : Fun K "simplest" "simplest" S_simplest A.f_simplest A.d_simplest
  b_simplest : Binds K A.d_simplest ["low", "high"] []
  g_simplest : mg "simplest" = some (.ref A.f_simplest)
  F_above : Fun K "_simplest_above_zero" "_simplest_above_zero" S_above A.f_above A.d_above
  b_above : Binds K A.d_above ["low", "high"] []
  g_above : mg "_simplest_above_zero" = some (.ref A.f_above)
  F_start : Fun K "_law_start" "_law_start" S_start A.f_start A.d_start
  b_start : Binds K A.d_start ["script"] []
  g_start : mg "_law_start" = some (.ref A.f_start)
  F_digit : Fun K "_law_digit" "_law_digit" S_digit A.f_digit A.d_digit
  b_digit : Binds K A.d_digit ["pot", "many"] []
  g_digit : mg "_law_digit" = some (.ref A.f_digit)
  F_fraction : Fun K "_law_fraction" "_law_fraction" S_fraction A.f_fraction A.d_fraction
  b_fraction : Binds K A.d_fraction ["pot"] []
  g_fraction : mg "_law_fraction" = some (.ref A.f_fraction)
  F_below : Fun K "_law_below" "_law_below" S_below A.f_below A.d_below
  b_below : Binds K A.d_below ["p", "q"] []
  g_below : mg "_law_below" = some (.ref A.f_below)
  F_plus : Fun K "_law_plus" "_law_plus" S_plus A.f_plus A.d_plus
  b_plus : Binds K A.d_plus ["p", "q"] []
  g_plus : mg "_law_plus" = some (.ref A.f_plus)
  F_span : Fun K "_law_span" "_law_span" S_span A.f_span A.d_span
  b_span : Binds K A.d_span ["pot"] []
  g_span : mg "_law_span" = some (.ref A.f_span)
  F_handed : Fun K "_law_handed" "_law_handed" S_handed A.f_handed A.d_handed
  b_handed : Binds K A.d_handed ["pot", "p"] []
  g_handed : mg "_law_handed" = some (.ref A.f_handed)
  F_isratio : Fun K "_law_is_ratio" "_law_is_ratio" S_isratio A.f_isratio A.d_isratio
  b_isratio : Binds K A.d_isratio ["told"] []
  g_isratio : mg "_law_is_ratio" = some (.ref A.f_isratio)
  F_equals : Fun K "_law_equals" "_law_equals" S_equals A.f_equals A.d_equals
  b_equals : Binds K A.d_equals ["told", "p"] []
  g_equals : mg "_law_equals" = some (.ref A.f_equals)
  F_partner : Fun K "_law_partner" "_law_partner" S_partner A.f_partner A.d_partner
  b_partner : Binds K A.d_partner ["top", "n"] []
  g_partner : mg "_law_partner" = some (.ref A.f_partner)
  F_nolesser : Fun K "_law_no_lesser_bottom" "_law_no_lesser_bottom" S_nolesser A.f_nolesser A.d_nolesser
  b_nolesser : Binds K A.d_nolesser ["n", "low", "high"] []
  g_nolesser : mg "_law_no_lesser_bottom" = some (.ref A.f_nolesser)
  F_issimplest : Fun K "_law_is_simplest" "_law_is_simplest" S_issimplest A.f_issimplest A.d_issimplest
  b_issimplest : Binds K A.d_issimplest ["told", "low", "high"] []
  g_issimplest : mg "_law_is_simplest" = some (.ref A.f_issimplest)
  F_crossed : Fun K "_law_crossed" "_law_crossed" S_crossed A.f_crossed A.d_crossed
  b_crossed : Binds K A.d_crossed ["first", "second", "p", "q"] []
  g_crossed : mg "_law_crossed" = some (.ref A.f_crossed)
  F_law : Fun K "law" "law" S_law A.f_law A.d_law
  b_law : Binds K A.d_law ["script"] []
  g_law : mg "law" = some (.ref A.f_law)
section
variable {P : Program} {w : World} {K : PySem.W.Frag} {mg : Str → Option Value} {base : Heap} {A : Ad}
/-! ### Ratio.__init__: raises for a bottom 0, else lowest terms -/
def spInit (A : Ad) : Sp := fun vs H Q E => ∃ (x dx : Addr) (t b : Int), vs = [.ref x, .int t, .int b] ∧ H x = some (.ins A.C dx []) ∧ (b = 0 → E (.ref A.Z) none H) ∧
  (b ≠ 0 → Bd 8900 b ∧ ∀ H', RatAt A.C H' x (lo t b) → (∀ c o, H c = some o → c ≠ x → H' c = some o) → Q .non H')
theorem ok_init (T : Txt K mg A) : FnOk P w K mg base (L2.CX P w) 1 A.f_init A.d_init ["self", "top", "bottom"] (spInit A) := by
  refine T.F_init.ok sc_init (fun vs H Q E h => ?_) (fun cdv Ar outer s H vs Q E hr h => ?_)
  · obtain ⟨x, dx, t, b, rfl, _⟩ := h
    rfl
  · obtain ⟨x, dx, t, b, rfl, hx, k0, k1⟩ := h
    refine ⟨_, (pss_cons (ps_if (pt_cmpR op_eq (pv 2) pe_int (nomark _))
      (pss_one (ps_raise rfl (takes_of rfl rfl rfl rfl) (pmk_bare PySem.F.excBase_ValueError T.xZ T.g_Z T.kZ (raises_own T.bZ T.tZ) rfl))) pss_nil)
      (pss_cons (ps_set (i := 3) sc_init.nd rfl (Or.inl rfl) (pe_callBfun cr_gcd rfl T.g_gcd (pa_cons (pv 1) (pa_cons (pv 2) pa_nil))))
      (pss_cons (ps_if (pt_cmpR op_lt (pv 2) pe_int (nomark _))
      (pss_one (ps_set (i := 3) sc_init.nd rfl (Or.inl rfl) (pe_un un_neg (pv 3)))) pss_nil)
      (pss_cons (ps_fld (pv 0) (pe_op op_fdv (pv 1) (pv 3)) rfl)
      (pss_one (ps_fld (pv 0) (pe_op op_fdv (pv 2) (pv 3)) rfl)))))), ?_⟩
    refine ⟨_, rfl, rfl, _, rfl, ?_⟩
    by_cases hb : b = 0
    · refine ite2 (fun _ => k0 hb) (fun n => absurd (by rw [hb] <;> rfl) n)
    refine ite2 (fun z => absurd (V.int.inj (of_decide_eq_true z)) hb) (fun _ => ?_)
    obtain ⟨bb, k⟩ := k1 hb
    have g := gcd_pos (t := t) hb
    have gn : ((Nat.gcd t.natAbs b.natAbs : Nat) : Int) = (Int.gcd t b : Int) := rfl
    have gb : Bd 8900 (Int.gcd t b : Int) := by
      refine bb.abs ?_
      have := Nat.le_of_dvd (by omega : 0 < b.natAbs) (Nat.gcd_dvd_right t.natAbs b.natAbs)
      show ((Nat.gcd t.natAbs b.natAbs : Nat) : Int).natAbs ≤ _
      omega
    have lp := lo_prog (t := t) hb
    refine ⟨_, rfl, _, rfl, t, b, rfl, _, rfl, _, _, rfl, rfl, _, rfl, ?_⟩
    have fin : ∀ d : Int, d ≠ 0 → Bd 8900 d → lo t b = (t.fdiv d, b.fdiv d) → ∀ H2 : Hp, H2 = upd (upd H x (.ins A.C dx (putF "top" (.int (t.fdiv d)) []))) x (.ins A.C dx (putF "bottom" (.int (b.fdiv d)) (putF "top" (.int (t.fdiv d)) []))) → Q .non H2 := by
      intro d d0 db e H2 e2
      refine k H2 ⟨dx, ?_⟩ fun c o hc hn => ?_
      · rw [e2, upd_same, rf_put, e]
      · rw [e2, upd_ne hn, upd_ne hn]; exact hc
    refine ite2 (fun c => ?_) (fun c => ?_)
    · have c' : b < 0 := of_decide_eq_true c
      rw [if_pos c'] at lp
      refine ⟨_, rfl, _, rfl, _, rfl, _, rfl, _, _, rfl, rfl, gb.neg.fdv (by omega), _, rfl, x, A.C, dx, _, rfl, hx, T.cl, T.nT, (by show 0 < 1000; decide), ?_⟩
      refine ⟨_, rfl, _, rfl, _, _, rfl, rfl, gb.neg.fdv (by omega), _, rfl, x, A.C, dx, _, rfl, upd_same, T.cl, T.nB, (by show 1 < 1000; decide), ?_⟩
      exact fin _ (by omega) gb.neg lp _ rfl
    · have c' : ¬ b < 0 := fun z => c (decide_eq_true z)
      rw [if_neg c'] at lp
      refine ⟨_, rfl, _, rfl, _, _, rfl, rfl, gb.fdv (by omega), _, rfl, x, A.C, dx, _, rfl, hx, T.cl, T.nT, (by show 0 < 1000; decide), ?_⟩
      refine ⟨_, rfl, _, rfl, _, _, rfl, rfl, gb.fdv (by omega), _, rfl, x, A.C, dx, _, rfl, upd_same, T.cl, T.nB, (by show 1 < 1000; decide), ?_⟩
      exact fin _ (by omega) gb lp _ rfl
/-- Ratio(t, b) read: for b not 0 -/
theorem rd_make {t b : Int} {H : Hp} {Q : VK} {E : XK} (hb : b ≠ 0) (bb : Bd 8900 b) (k : ∀ x H', Ex H H' → H x = none → RatAt A.C H' x (lo t b) → Q (.ref x) H') :
    ∀ x dx, H x = none → H dx = none → dx ≠ x → spInit A [.ref x, .int t, .int b] (upd (upd H dx (.own x)) x (.ins A.C dx [])) (fun v H2 => v = .non ∧ Q (.ref x) H2) E :=
  fun x dx nx nd ne => ⟨x, dx, t, b, rfl, upd_same, fun z => absurd z hb, fun _ => ⟨bb, fun H' r kp => ⟨rfl, k x H' (Same.made nx nd kp) nx r⟩⟩⟩
theorem ok_start (T : Txt K mg A) : FnOk P w K mg base CX0 1 A.f_start A.d_start ["script"] (spStart K) := by
  refine T.F_start.ok sc_start (fun vs H Q E h => ?_) (fun cdv Ar outer s H vs Q E hr h => ?_)
  · obtain ⟨a, ns, rfl, _⟩ := h
    rfl
  · obtain ⟨a, ns, rfl, hS, hl, k⟩ := h
    refine ⟨_, (pss_one (ps_ret (pe_lst (pa_cons (pe_lc (own := [("cell", 1)]) (g := gName 1) (tt := tYes) rfl sc_start.nd (pi_list (pe_slice sl_list (pv 0) po_none (po_some pe_int))) (blkOk_by (own := [("cell", 1)]) (N := N_start) (sc := defScope S_start) (by decide +kernel)) (fun _ _ _ _ _ => pg_name (i := 1) sc_start.nd rfl (Or.inl rfl)) (fun _ _ _ _ _ => pts_nil) (fun _ _ _ _ _ => (pe_callB call_abs (by rfl) T.n_abs (by decide +kernel) (pa_cons (pv 1) pa_nil)))) (pa_cons pe_int (pa_cons pe_int pa_nil)))))), ?_⟩
    obtain ⟨ms, hms, hml⟩ : ∃ ms : List Int, cutV (ns.map V.int) none (some 63) = ms.map V.int ∧ ms.length ≤ 63 := by
      refine ⟨(ns.drop (HT.sIx (ns.map V.int).length 0 none)).take (HT.sIx (ns.map V.int).length (ns.map V.int).length (some 63) - HT.sIx (ns.map V.int).length 0 none), ?_, ?_⟩
      · unfold cutV
        rw [List.map_take, List.map_drop]
      · rw [List.length_take, List.length_drop]
        omega
    refine ⟨_, rfl, _, rfl, a, _, rfl, hS, fun p hp => ⟨p, rfl, ⟨_, SqL.of upd_same⟩, fun D hD => ?_⟩⟩
    rw [hms]
    have hpD : p ≠ D := fun e => by rw [← e, hms, upd_same] at hD; cases hD
    have hD0 : H D = none := by rw [hms, upd_ne hpD.symm] at hD; exact hD
    refine lc_list (K := K) (a := p) (xs := ms.map V.int) (fun i H' => (∃ cs : List Int, H' D = some (.lst (cs.map V.int)) ∧ cs.length = i ∧ (∀ z ∈ cs, 0 ≤ z)) ∧ H' p = some (.lst (ms.map V.int)) ∧ Ex H H')
      ⟨⟨[], upd_same, rfl, fun z hz => by cases hz⟩, ?_, ?_⟩ (fun i H' _ h => SqL.of h.2.1) ?_ ?_
    · rw [upd_ne hpD, upd_same]
    · exact fun c o e => by rw [upd_ne (ne_of_none e hD0), upd_ne (ne_of_none e hp)]; exact e
    · rintro i x H' hx ⟨⟨cs, hcs, hci, hc0⟩, hp', ex⟩
      obtain ⟨z, hz, rfl⟩ : ∃ z, ms[i]? = some z ∧ x = V.int z := by
        rw [List.getElem?_map] at hx
        cases e : ms[i]? with
        | none => rw [e] at hx; cases hx
        | some z => rw [e] at hx; exact ⟨z, rfl, (Option.some.inj hx).symm⟩
      have hi : i < ms.length := (List.getElem?_eq_some_iff.mp hz).1
      refine ⟨rfl, _, rfl, z, rfl, _, hcs, ?_, ⟨⟨cs ++ [if z < 0 then -z else z], ?_, ?_, ?_⟩, ?_, ?_⟩⟩
      · rw [List.length_map, hci, sizeLine_eq]; omega
      · rw [upd_same, List.map_append]; rfl
      · rw [List.length_append, hci]; rfl
      · intro y hy
        rcases List.mem_append.mp hy with h | h
        · exact hc0 y h
        · have : y = if z < 0 then -z else z := by simpa using h
          rw [this]
          split <;> omega
      · rw [upd_ne hpD]; exact hp'
      · exact fun c o e => by rw [upd_ne (ne_of_none e hD0)]; exact ex c o e
    · rintro H' ⟨⟨cs, hcs, hci, hc0⟩, hp', ex⟩
      refine ⟨(by show 3 ≤ sizeLine; exact sz3), fun q hq => ?_⟩
      have nqD : D ≠ q := ne_of_none hcs hq
      refine k q _ ⟨D, cs, 0, 0, nqD.symm, upd_same, by rw [upd_ne nqD]; exact hcs, ?_, by decide, by decide, hc0⟩ (ex.to hq) (ex.free hq)
      rw [List.length_map] at hci
      omega
theorem ok_digit (T : Txt K mg A) : FnOk P w K mg base CX0 1 A.f_digit A.d_digit ["pot", "many"] spDigit := by
  refine T.F_digit.ok sc_digit (fun vs H Q E h => ?_) (fun cdv Ar outer s H vs Q E hr h => ?_)
  · obtain ⟨p, m, rfl, _⟩ := h
    rfl
  · obtain ⟨p, m, rfl, pot, m0, bm, k⟩ := h
    refine ⟨_, (C8.pss_cut (ps_if (PW.pt (pw_and (pt_cmpR op_eq (pe_ix ix_list (pv 0) pe_int (fun _ _ => rfl)) pe_int (nomark _)) (pw_and1 (pt_cmpR op_lt (pe_ix ix_list (pv 0) pe_int (fun _ _ => rfl)) (pe_callB call_len (by rfl) T.n_len PySem.boot_len (pa_cons (pe_ix ix_list (pv 0) pe_int (fun _ _ => rfl)) pa_nil)) (nomark _)))))
      (pss_cons (ps_asg (pe_ix ix_list (pe_ix ix_list (pv 0) pe_int (fun _ _ => rfl)) (pe_ix ix_list (pv 0) pe_int (fun _ _ => rfl)) (fun _ _ => rfl)) (pg_sub (pv 0) pe_int set_list))
      (pss_one (ps_asg (pe_op op_add (pe_ix ix_list (pv 0) pe_int (fun _ _ => rfl)) pe_int) (pg_sub (pv 0) pe_int set_list)))) pss_nil)
      (pss_cons (ps_set (i := 2) sc_digit.nd rfl (Or.inl rfl) (pe_op op_mod (pe_callTy call_int1 (by rfl) T.n_int (by decide +kernel) (pa_cons (pe_ix ix_list (pv 0) pe_int (fun _ _ => rfl)) pa_nil)) (pv 1)))
      (pss_cons (ps_asg (pe_op op_fdivW (pe_ix ix_list (pv 0) pe_int (fun _ _ => rfl)) (pv 1)) (pg_sub (pv 0) pe_int set_list))
      (pss_one (ps_ret (pv 2)))))), ?_⟩
    obtain ⟨l, cs, i, c, ne, h1, h2, hl, i0, c0, hc⟩ := id pot
    refine ⟨fun sl H' => sl = [some (.ref p), some (.int m), none] ∧ PotAt H' p ∧ Keep p H H', ?_, ?_⟩
    · refine ⟨_, rfl, _, _, _, _, rfl, rfl, SqL.of h1, rfl, rfl, _, rfl, ?_⟩
      refine ite2 (fun z => ?_) (fun z => iteF ⟨rfl, pot, Keep.refl⟩)
      refine ⟨_, rfl, _, _, _, _, rfl, rfl, SqL.of h1, rfl, _, rfl, _, _, _, _, rfl, rfl, SqL.of h1, rfl, _, _, rfl, .inl ⟨_, SqL.of h2, rfl⟩, _, _, rfl, rfl, _, rfl, ?_⟩
      refine ite2 (fun z2 => ?_) (fun z2 => ⟨rfl, pot, Keep.refl⟩)
      have hi : i < cs.length := by have := of_decide_eq_true z2; rw [List.length_map] at this; exact this
      obtain ⟨j, rfl⟩ : ∃ j : Nat, i = (j : Int) := ⟨i.toNat, by omega⟩
      have hj : j < cs.length := by omega
      have at_ : (cs.map V.int)[j]? = some (.int cs[j]) := by rw [List.getElem?_map, List.getElem?_eq_getElem hj]; rfl
      refine ⟨_, rfl, _, _, _, _, rfl, rfl, SqL.of h1, rfl, _, rfl, _, _, _, _, rfl, rfl, SqL.of h1, rfl, _, _, _, _, rfl, rfl, SqL.of h2, atI_nat at_, _, rfl, p, _, 2, 2, rfl, rfl, h1, rfl, ?_⟩
      refine ⟨_, rfl, _, _, _, _, rfl, rfl, SqL.of upd_same, rfl, _, _, rfl, rfl, _, rfl, p, _, 1, 1, rfl, rfl, upd_same, rfl, rfl, ?_, ?_⟩
      · refine ⟨l, cs, (j : Int) + 1, cs[j], ne, upd_same, ?_, hl, by omega, hc _ (List.getElem_mem hj), hc⟩
        rw [upd_ne ne.symm, upd_ne ne.symm]; exact h2
      · exact Keep.upd.trans Keep.upd
    · rintro sl H' ⟨rfl, pot', kp⟩
      obtain ⟨l, cs, i, c, ne, h1, h2, hl, i0, c0, hc⟩ := id pot'
      refine ⟨_, rfl, _, _, _, _, rfl, rfl, SqL.of h1, rfl, .inl ⟨_, rfl, _, rfl, _, _, rfl, rfl, m0, ?_⟩⟩
      refine ⟨_, rfl, _, _, _, _, rfl, rfl, SqL.of h1, rfl, _, rfl, _, _, rfl, rfl, bm.div m0, _, rfl, p, _, 2, 2, rfl, rfl, h1, rfl, _, rfl, ?_⟩
      refine k _ _ (Int.emod_nonneg _ (by omega)) (Int.emod_lt_of_pos _ m0) ⟨l, cs, i, c / m, ne, upd_same, ?_, hl, i0, Int.ediv_nonneg c0 (by omega), hc⟩ (kp.trans Keep.upd)
      rw [upd_ne ne.symm]; exact h2
def spCmp (C : Addr) : Sp := fun vs H Q _ => ∃ (a b : Addr) (x y : Rat), vs = [.ref a, .ref b] ∧ RatV C H 2001 a x ∧ RatV C H 2001 b y ∧ Q (.int (cmpR x y)) H
theorem ok_compare (T : Txt K mg A) : FnOk P w K mg base CX0 1 A.f_compare A.d_compare ["self", "other"] (spCmp A.C) := by
  refine T.F_compare.ok sc_compare (fun vs H Q E h => ?_) (fun cdv Ar outer s H vs Q E hr h => ?_)
  · obtain ⟨a, b, x, y, rfl, _⟩ := h
    rfl
  · obtain ⟨a, b, x, y, rfl, ⟨p, ⟨dx, ha⟩, sp, cp, rfl⟩, ⟨q, ⟨dy, hb⟩, sq, cq, rfl⟩, k⟩ := h
    refine ⟨_, (pss_cons (ps_set (i := 2) sc_compare.nd rfl (Or.inl rfl) (pe_op op_mulW (pe_fld (pv 0) rfl) (pe_fld (pv 1) rfl)))
      (pss_cons (ps_set (i := 3) sc_compare.nd rfl (Or.inl rfl) (pe_op op_mulW (pe_fld (pv 1) rfl) (pe_fld (pv 0) rfl)))
      (pss_cons (ps_if (pt_cmpR op_lt (pv 2) (pv 3) (nomark _))
      (pss_one (ps_ret (pe_un un_neg pe_int))) pss_nil)
      (pss_one (ps_ret (pe_ifExp (pt_cmpR op_gt (pv 2) (pv 3) (nomark _)) pe_int pe_int)))))), ?_⟩
    refine ⟨_, rfl, _, _, _, _, _, rfl, ha, T.cl, T.nT, rf_top _, _, rfl, _, _, _, _, _, rfl, hb, T.cl, T.nB, rf_bot _, _, _, rfl, rfl, sp.t.w sq.b, _, rfl, _, _, _, _, _, rfl, hb, T.cl, T.nT, rf_top _, _, rfl, _, _, _, _, _, rfl, ha, T.cl, T.nB, rf_bot _, _, _, rfl, rfl, sq.t.w sp.b, _, rfl, _, rfl, _, _, rfl, rfl, _, rfl, ?_⟩
    unfold cmpR at k
    by_cases c : p.1 * q.2 < q.1 * p.2
    · rw [if_pos ((vl_lt sp.pos sq.pos).mpr c)] at k
      exact ite2 (fun _ => ⟨_, rfl, k⟩) (fun n => absurd (decide_eq_true c) n)
    · rw [if_neg (fun z => c ((vl_lt sp.pos sq.pos).mp z))] at k
      refine ite2 (fun z => absurd (of_decide_eq_true z) c) (fun _ => ?_)
      refine ⟨_, rfl, _, rfl, _, _, rfl, rfl, _, rfl, ?_⟩
      by_cases d : q.1 * p.2 < p.1 * q.2
      · rw [if_pos ((vl_lt sq.pos sp.pos).mpr d)] at k
        exact ite2 (fun _ => k) (fun n => absurd (decide_eq_true d) n)
      · rw [if_neg (fun z => d ((vl_lt sq.pos sp.pos).mp z))] at k
        exact ite2 (fun z => absurd (of_decide_eq_true z) d) (fun _ => k)
theorem np_compare (r : Int × Int) : (rf r).lookup ("compare" : Str) = none := rf_no _ (by decide +kernel) (by decide +kernel)
theorem np_sign (r : Int × Int) : (rf r).lookup ("sign" : Str) = none := rf_no _ (by decide +kernel) (by decide +kernel)
def spNeg (C : Addr) : Sp := fun vs H Q _ => ∃ (a : Addr) (p : Int × Int), vs = [.ref a] ∧ RatAt C H a p ∧ Sm 1000 p ∧ Int.gcd p.1 p.2 = 1 ∧ ∀ c H', Ex H H' → H c = none → RatAt C H' c (-p.1, p.2) → Q (.ref c) H'
theorem ok_neg (T : Txt K mg A) : FnOk P w K mg base CX0 3 A.f_neg A.d_neg ["self"] (spNeg A.C) := by
  refine T.F_neg.ok sc_neg (fun vs H Q E h => ?_) (fun cdv Ar outer s H vs Q E hr h => ?_)
  · obtain ⟨a, p, rfl, _⟩ := h
    rfl
  · obtain ⟨a, p, rfl, ⟨dx, ha⟩, sp, cp, k⟩ := h
    refine ⟨_, (pss_one (ps_ret (pe_make T.mkC (ok_init T) (hr.mono (by decide)) rfl T.g_Ratio T.b_init3 .nil passL (pa_cons (pe_un un_neg (pe_fld (pv 0) rfl)) (pa_cons (pe_fld (pv 0) rfl) pa_nil))))), ?_⟩
    refine ⟨_, rfl, _, _, _, _, _, rfl, ha, T.cl, T.nT, rf_top _, _, rfl, _, rfl, _, _, _, _, _, rfl, ha, T.cl, T.nB, rf_bot _, ?_⟩
    refine rd_make sp.ne (sp.b.mono (by decide)) fun c H' ex nc r => k c H' ex nc ?_
    rwa [lo_self sp.pos (by rw [Int.neg_gcd]; exact cp)] at r
theorem rd_neg {C : Addr} {a : Addr} {p : Int × Int} {H : Hp} {Q : VK} {E : XK} (ha : RatAt C H a p) (sp : Sm 1000 p) (cp : Int.gcd p.1 p.2 = 1) (k : ∀ c H', Ex H H' → H c = none → RatAt C H' c (-p.1, p.2) → Q (.ref c) H') :
    rOwnU C (spNeg C) E (.ref a) H Q := by
  obtain ⟨dx, h1⟩ := id ha
  exact ⟨a, dx, _, rfl, h1, a, p, rfl, ha, sp, cp, k⟩
abbrev sgR (x : Rat) : Int := if x < 0 then -1 else if 0 < x then 1 else 0
def spSign (C : Addr) : Sp := fun vs H Q _ => ∃ (a : Addr) (x : Rat), vs = [.ref a] ∧ RatV C H 2001 a x ∧ Q (.int (sgR x)) H
theorem ok_sign (T : Txt K mg A) : FnOk P w K mg base CX0 1 A.f_sign A.d_sign ["self"] (spSign A.C) := by
  refine T.F_sign.ok sc_sign (fun vs H Q E h => ?_) (fun cdv Ar outer s H vs Q E hr h => ?_)
  · obtain ⟨a, x, rfl, _⟩ := h
    rfl
  · obtain ⟨a, x, rfl, ⟨p, ⟨dx, ha⟩, sp, cp, rfl⟩, k⟩ := h
    refine ⟨_, (pss_cons (ps_if (pt_cmpR op_lt (pe_fld (pv 0) rfl) pe_int (nomark _))
      (pss_one (ps_ret (pe_un un_neg pe_int))) pss_nil)
      (pss_one (ps_ret (pe_ifExp (pt_cmpR op_gt (pe_fld (pv 0) rfl) pe_int (nomark _)) pe_int pe_int)))), ?_⟩
    have z : ¬ (0 ≤ vl p) ↔ ¬ (0 ≤ p.1) := not_congr (v_nn sp.pos)
    unfold sgR at k
    refine ⟨_, rfl, _, _, _, _, _, rfl, ha, T.cl, T.nT, rf_top _, _, _, rfl, rfl, _, rfl, ?_⟩
    by_cases c : p.1 < 0
    · rw [if_pos (by have := z.mpr (by omega); grind)] at k
      exact ite2 (fun _ => ⟨_, rfl, k⟩) (fun n => absurd (decide_eq_true c) n)
    · rw [if_neg (fun q => by have := (v_nn sp.pos).mpr (by omega : 0 ≤ p.1); grind)] at k
      refine ite2 (fun z => absurd (of_decide_eq_true z) c) (fun _ => ?_)
      refine ⟨_, rfl, _, _, _, _, _, rfl, ha, T.cl, T.nT, rf_top _, _, _, rfl, rfl, _, rfl, ?_⟩
      by_cases d : 0 < p.1
      · rw [if_pos ((v_pos sp.pos).mpr d)] at k
        exact ite2 (fun _ => k) (fun n => absurd (decide_eq_true d) n)
      · rw [if_neg (fun q => d ((v_pos sp.pos).mp q))] at k
        exact ite2 (fun z => absurd (of_decide_eq_true z) d) (fun _ => k)
end
end Fc
set_option Elab.async false
set_option linter.all false
set_option maxRecDepth 100000
set_option maxHeartbeats 4000000
set_option exponentiation.threshold 100000
namespace Fc
open PySem PySem.Spec PyProof.Rows L2 L2H
section
variable {P : Program} {w : World} {K : PySem.W.Frag} {mg : Str → Option Value} {base : Heap} {A : Ad}
def spAbove (A : Ad) : Sp := fun vs H Q _ => ∃ (l h : Addr) (p q : Int × Int), vs = [.ref l, .ref h] ∧ RatAt A.C H l p ∧ RatAt A.C H h q ∧ Sm 200 p ∧ Sm 200 q ∧ 0 < p.1 ∧ vl p ≤ vl q ∧
  ∀ c r H', Ex H H' → H c = none → RatAt A.C H' c r → Sm 220 r → Simp (vl p) (vl q) r → Q (.ref c) H'
theorem sz4 : 4 ≤ sizeLine := by rw [sizeLine_eq]; decide
theorem bd_nn {n : Nat} {i j : Int} (h : Bd n j) (a : 0 ≤ i) (b : i ≤ j) : Bd n i := bd_le h (by omega) b
theorem ok_above (T : Txt K mg A) : FnOk P w K mg base CX0 3 A.f_above A.d_above ["low", "high"] (spAbove A) := by
  refine T.F_above.ok sc_above (fun vs H Q E h => ?_) (fun cdv Ar outer s H vs Q E hr h => ?_)
  · obtain ⟨l, h, p, q, rfl, _⟩ := h
    rfl
  · obtain ⟨l, h, p, q, rfl, ⟨dl, hl⟩, ⟨dh, hh⟩, sp, sq, p1, le, k⟩ := h
    refine ⟨_, (C8.pss_cut (ps_asg (pe_tup (pa_cons (pe_fld (pv 0) rfl) (pa_cons (pe_fld (pv 0) rfl) (pa_cons (pe_fld (pv 1) rfl) (pa_cons (pe_fld (pv 1) rfl) pa_nil))))) (pg_tup rfl (pgs_cons (pg_name (i := 2) sc_above.nd rfl (Or.inl rfl)) (pgs_cons (pg_name (i := 3) sc_above.nd rfl (Or.inl rfl)) (pgs_cons (pg_name (i := 4) sc_above.nd rfl (Or.inl rfl)) (pgs_cons (pg_name (i := 5) sc_above.nd rfl (Or.inl rfl)) pgs_nil))))))
      (C8.pss_cut (ps_asg (pe_tup (pa_cons pe_int (pa_cons pe_int (pa_cons pe_int (pa_cons pe_int pa_nil))))) (pg_tup rfl (pgs_cons (pg_name (i := 6) sc_above.nd rfl (Or.inl rfl)) (pgs_cons (pg_name (i := 7) sc_above.nd rfl (Or.inl rfl)) (pgs_cons (pg_name (i := 8) sc_above.nd rfl (Or.inl rfl)) (pgs_cons (pg_name (i := 9) sc_above.nd rfl (Or.inl rfl)) pgs_nil))))))
      (C8.pss_cut (ps_set (i := 10) sc_above.nd rfl (Or.inl rfl) (pe_un un_neg (pe_op op_fdivW (pe_un un_neg (pv 2)) (pv 3))))
      (pss_cons (ps_while PassesOwn.never (pt_cmpR op_gt (pe_op op_mulW (pv 10) (pv 5)) (pv 4) (nomark _))
      (pss_cons (ps_set (i := 11) sc_above.nd rfl (Or.inl rfl) (pe_op op_sub (pv 10) pe_int))
      (C8.pss_cut (ps_par (i := 6) (j := 7) (by rfl) sc_above.nd rfl rfl (by decide) rfl rfl (pa_cons (pe_op op_add (pe_op op_mulW (pv 6) (pv 11)) (pv 7)) (pa_cons (pv 6) pa_nil)) (by rfl))
      (C8.pss_cut (ps_par (i := 8) (j := 9) (by rfl) sc_above.nd rfl rfl (by decide) rfl rfl (pa_cons (pe_op op_add (pe_op op_mulW (pv 8) (pv 11)) (pv 9)) (pa_cons (pv 8) pa_nil)) (by rfl))
      (C8.pss_cut (ps_asg (pe_tup (pa_cons (pv 5) (pa_cons (pe_op op_sub (pv 4) (pe_op op_mulW (pv 11) (pv 5))) (pa_cons (pv 3) (pa_cons (pe_op op_sub (pv 2) (pe_op op_mulW (pv 11) (pv 3))) pa_nil))))) (pg_tup rfl (pgs_cons (pg_name (i := 2) sc_above.nd rfl (Or.inl rfl)) (pgs_cons (pg_name (i := 3) sc_above.nd rfl (Or.inl rfl)) (pgs_cons (pg_name (i := 4) sc_above.nd rfl (Or.inl rfl)) (pgs_cons (pg_name (i := 5) sc_above.nd rfl (Or.inl rfl)) pgs_nil))))))
      (pss_one (ps_set (i := 10) sc_above.nd rfl (Or.inl rfl) (pe_un un_neg (pe_op op_fdivW (pe_un un_neg (pv 2)) (pv 3))))))))))
      (pss_one (ps_ret (pe_make T.mkC (ok_init T) (hr.mono (by decide)) rfl T.g_Ratio T.b_init3 .nil passL (pa_cons (pe_op op_add (pe_op op_mulW (pv 6) (pv 10)) (pv 7)) (pa_cons (pe_op op_add (pe_op op_mulW (pv 8) (pv 10)) (pv 9)) pa_nil))))))))), ?_⟩
    have cr := (vl_le sp.pos sq.pos).mp le
    have q1 : 0 < q.1 := by
      have a1 := Int.mul_pos p1 sq.pos
      have a2 : 0 < q.1 * p.2 := by omega
      exact Int.pos_of_mul_pos_left a2 sp.pos
    refine ⟨fun sl H' => sl = [some (.ref l), some (.ref h), some (.int p.1), some (.int p.2), some (.int q.1), some (.int q.2), none, none, none, none, none, none] ∧ Ex H H', ?_, ?_⟩
    · refine ⟨_, rfl, _, _, _, _, _, rfl, hl, T.cl, T.nT, rf_top _, _, rfl, _, _, _, _, _, rfl, hl, T.cl, T.nB, rf_bot _, _, rfl, _, _, _, _, _, rfl, hh, T.cl, T.nT, rf_top _, _, rfl, _, _, _, _, _, rfl, hh, T.cl, T.nB, rf_bot _, (by show 4 ≤ sizeLine; exact sz4), fun t nt => ?_⟩
      exact ⟨t, _, rfl, SqT.of upd_same, rfl, _, _, rfl, _, _, rfl, _, _, rfl, _, _, rfl, rfl, rfl, Ex.new nt⟩
    rintro sl H1 ⟨rfl, e1⟩
    refine ⟨fun sl H' => sl = [some (.ref l), some (.ref h), some (.int p.1), some (.int p.2), some (.int q.1), some (.int q.2), some (.int 1), some (.int 0), some (.int 0), some (.int 1), none, none] ∧ Ex H H', ?_, ?_⟩
    · refine ⟨(by show 4 ≤ sizeLine; exact sz4), fun t nt => ?_⟩
      exact ⟨t, _, rfl, SqT.of upd_same, rfl, _, _, rfl, _, _, rfl, _, _, rfl, _, _, rfl, rfl, rfl, e1.to nt⟩
    rintro sl H2 ⟨rfl, e2⟩
    refine ⟨fun sl H' => sl = [some (.ref l), some (.ref h), some (.int p.1), some (.int p.2), some (.int q.1), some (.int q.2), some (.int 1), some (.int 0), some (.int 0), some (.int 1), some (.int (-(-p.1 / p.2))), none] ∧ Ex H H', ?_, ?_⟩
    · refine ⟨_, rfl, _, rfl, _, rfl, _, _, rfl, rfl, sp.b.div sp.pos, _, rfl, ?_⟩
      exact ⟨rfl, e2⟩
    rintro sl H3 ⟨rfl, e3⟩
    -- the search
    refine ⟨fun m sl H' => Ex H H' ∧ ∃ (a b c d t ot bt ob le : Int) (wv : Option V), sl = [some (.ref l), some (.ref h), some (.int a), some (.int b), some (.int c), some (.int d), some (.int t), some (.int ot), some (.int bt), some (.int ob), some (.int le), wv] ∧
      Cf p.1 p.2 q.1 q.2 a b c d t ot bt ob ∧ Ceil a b le ∧ m = (b + d).toNat ∧ Bd 200 a ∧ Bd 200 b ∧ Bd 200 c ∧ Bd 200 d, ⟨_, e3, _, _, _, _, _, _, _, _, _, _, rfl, Cf.start p1 sp.pos q1 sq.pos cr, ceil_of sp.pos, rfl, sp.t, sp.b, sq.t, sq.b⟩, ?_⟩
    rintro m sl H4 ⟨e4, a, b, c, d, t, ot, bt, ob, le, wv, rfl, cf, ce, rfl, ba, bb, bc, bd⟩
    obtain ⟨s1, s2, s3, s4⟩ := cf.small sp.pos cr
    have l0 := ce.pos cf.a0 cf.b0
    have la : le - 1 < a := by
      have h1 := ce.lt
      have h2 := Int.mul_le_mul_of_nonneg_left (show 1 ≤ b by have := cf.b0; omega) (show 0 ≤ le - 1 by omega)
      omega
    have bl : Bd 201 le := (bd_nn (j := a + 1) ((ba.mono (by decide) : Bd 200 a).add (bd_of (by decide +kernel) : Bd 200 (1 : Int))) (by omega) (by omega))
    have Bt := bd_nn sp.t cf.t0 s1
    have Bot := bd_nn sp.t cf.ot0 s2
    have Bbt := bd_nn sp.b cf.bt0 s3
    have Bob := bd_nn sp.b cf.ob0 s4
    refine ⟨_, rfl, _, rfl, _, _, rfl, rfl, bl.w bd, _, rfl, _, _, rfl, rfl, _, rfl, ite2 (fun cnd => ?_) (fun cnd => ?_)⟩
    · have lt : c < le * d := of_decide_eq_true cnd
      obtain ⟨cf2, w0, d1, d2⟩ := cf.turn ce lt
      have bw : Bd 200 (le - 1) := bd_nn ba w0 (by omega)
      have d0 := cf2.b0
      have c0 := cf2.d0
      obtain ⟨r1, r2, r3, r4⟩ := cf2.small sp.pos cr
      have l1 : some (V.int (le - 1)) = some (V.int (le - 1)) := rfl
      refine ⟨fun sl H' => Ex H H' ∧ ∃ (a2 b2 c2 d2 t2 ot2 bt2 ob2 le2 : Int) (wv : Option V), sl = [some (.ref l), some (.ref h), some (.int a2), some (.int b2), some (.int c2), some (.int d2), some (.int t2), some (.int ot2), some (.int bt2), some (.int ob2), some (.int le2), wv] ∧
        Cf p.1 p.2 q.1 q.2 a2 b2 c2 d2 t2 ot2 bt2 ob2 ∧ Ceil a2 b2 le2 ∧ (b2 + d2).toNat < (b + d).toNat ∧ Bd 200 a2 ∧ Bd 200 b2 ∧ Bd 200 c2 ∧ Bd 200 d2, ?_, ?_⟩
      · rintro sl H5 ⟨e5, a2, b2, c2, d2, t2, ot2, bt2, ob2, le2, wv2, rfl, cf3, ce3, ms, b1, b2', b3, b4⟩
        exact ⟨_, ms, e5, a2, b2, c2, d2, t2, ot2, bt2, ob2, le2, wv2, rfl, cf3, ce3, rfl, b1, b2', b3, b4⟩
      refine ⟨_, rfl, _, _, rfl, rfl, ?_⟩
      refine ⟨fun sl H' => H' = H4 ∧ sl = [some (.ref l), some (.ref h), some (.int a), some (.int b), some (.int c), some (.int d), some (.int (t * (le - 1) + ot)), some (.int t), some (.int bt), some (.int ob), some (.int le), some (.int (le - 1))], ?_, ?_⟩
      · exact ⟨_, rfl, _, rfl, _, _, rfl, rfl, Bt.w bw, _, rfl, _, _, rfl, rfl, _, rfl, _, _, rfl, rfl, rfl⟩
      rintro sl H5 ⟨rfl, rfl⟩
      refine ⟨fun sl H' => H' = H5 ∧ sl = [some (.ref l), some (.ref h), some (.int a), some (.int b), some (.int c), some (.int d), some (.int (t * (le - 1) + ot)), some (.int t), some (.int (bt * (le - 1) + ob)), some (.int bt), some (.int le), some (.int (le - 1))], ?_, ?_⟩
      · exact ⟨_, rfl, _, rfl, _, _, rfl, rfl, Bbt.w bw, _, rfl, _, _, rfl, rfl, _, rfl, _, _, rfl, rfl, rfl⟩
      rintro sl H5 ⟨rfl, rfl⟩
      refine ⟨fun sl H' => Ex H5 H' ∧ sl = [some (.ref l), some (.ref h), some (.int d), some (.int (c - (le - 1) * d)), some (.int b), some (.int (a - (le - 1) * b)), some (.int (t * (le - 1) + ot)), some (.int t), some (.int (bt * (le - 1) + ob)), some (.int bt), some (.int le), some (.int (le - 1))], ?_, ?_⟩
      · refine ⟨_, rfl, _, rfl, _, rfl, _, rfl, _, _, rfl, rfl, bw.w bd, _, _, rfl, rfl, _, rfl, _, rfl, _, rfl, _, rfl, _, _, rfl, rfl, bw.w bb, _, _, rfl, rfl, (by show 4 ≤ sizeLine; exact sz4), fun u nu => ?_⟩
        exact ⟨u, _, rfl, SqT.of upd_same, rfl, _, _, rfl, _, _, rfl, _, _, rfl, _, _, rfl, rfl, Ex.new nu, rfl⟩
      rintro sl H6 ⟨e6, rfl⟩
      have Bc2 : Bd 200 (c - (le - 1) * d) := bd_nn bd (by omega) (by omega)
      have Ba2 : Bd 200 (a - (le - 1) * b) := bd_nn bb (by omega) (by omega)
      refine ⟨_, rfl, _, rfl, _, rfl, _, _, rfl, rfl, Bc2.div d0, _, rfl, ?_⟩
      exact ⟨e4.trans e6, _, _, _, _, _, _, _, _, _, _, rfl, cf2, ceil_of d0, by omega, bd, Bc2, bb, Ba2⟩
    · have lt : le * d ≤ c := by have : ¬ c < le * d := fun z => cnd (decide_eq_true z); omega
      obtain ⟨b0, ic, mn⟩ := cf.done ce lt
      have nb : bt * le + ob ≠ 0 := by omega
      have t0 : 0 ≤ t * le + ot := by have := Int.mul_nonneg cf.t0 (by omega : 0 ≤ le); have := cf.ot0; omega
      obtain ⟨m1, m2⟩ := mn p.1 p.2 sp.pos ⟨Int.le_refl _, cr⟩
      have BT := bd_nn sp.t t0 m1
      have BB := bd_nn sp.b (by omega) m2
      refine ⟨_, rfl, _, rfl, _, _, rfl, rfl, Bt.w bl, _, rfl, _, _, rfl, rfl, _, rfl, _, rfl, _, _, rfl, rfl, Bbt.w bl, _, rfl, _, _, rfl, rfl, ?_⟩
      refine rd_make nb (BB.mono (by decide)) fun x H' ex nx r => ?_
      exact k x _ H' (e4.trans ex) (e4.free nx) r ((Sm.lo BT BB nb).mono (by decide)) (simp_pos sp.pos sq.pos b0 t0 ic mn)
end
end Fc
set_option Elab.async false
set_option linter.all false
set_option maxRecDepth 100000
set_option maxHeartbeats 4000000
set_option exponentiation.threshold 100000
namespace Fc
open PySem PySem.Spec PyProof.Rows L2 L2H
section
variable {P : Program} {w : World} {K : PySem.W.Frag} {mg : Str → Option Value} {base : Heap} {A : Ad}
/-- the fields of the error Crossed -/
def crf (l h : Addr) : List (Str × V) := [("high", .ref h), ("low", .ref l)]
def spCross (A : Ad) : Sp := fun vs H Q _ => ∃ (a l h : Addr), vs = [.ref a, .ref l, .ref h] ∧ H a = some (exo a A.Cr none) ∧
  ∀ d H2, H d = none → d ≠ a → H2 a = some (exo a A.Cr (some d)) → H2 d = some (exd d (crf l h)) → (∀ c o, H c = some o → c ≠ a → H2 c = some o) → Q .non H2
theorem ok_cross (T : Txt K mg A) : FnOk P w K mg base CX0 1 A.f_cross A.d_cross ["self", "low", "high"] (spCross A) := by
  refine T.F_cross.ok sc_cross (fun vs H Q E h => ?_) (fun cdv Ar outer s H vs Q E hr h => ?_)
  · obtain ⟨a, l, h, rfl, _⟩ := h
    rfl
  · obtain ⟨a, l, h, rfl, ha, k⟩ := h
    refine ⟨_, (pss_cons (ps_ost (pv 0) (pv 1))
      (pss_one (ps_ost (pv 0) (pv 2)))), ?_⟩
    refine ⟨_, rfl, _, rfl, a, A.Cr, rfl, T.o_Cr, T.n_Cr_low, .inl ⟨ha, fun d hd hn => ?_⟩⟩
    refine ⟨_, rfl, _, rfl, a, A.Cr, rfl, T.o_Cr, T.n_Cr_high, .inr ⟨d, [("low", .ref l)], upd_same, by rw [upd_ne hn, upd_same], (by show 1 ≤ 900; decide), ?_⟩⟩
    refine k d _ hd hn ?_ upd_same fun c o e ne => ?_
    · rw [upd_ne hn.symm, upd_same]
    · rw [upd_ne (ne_of_none e hd), upd_ne ne, upd_ne (ne_of_none e hd)]
      exact e
theorem crf_low (l h : Addr) : (crf l h).lookup ("low" : Str) = some (.ref l) := by
  have : (("low" : Str) == "high") = false := by decide +kernel
  simp [crf, List.lookup, this]
theorem crf_high (l h : Addr) : (crf l h).lookup ("high" : Str) = some (.ref h) := by simp [crf, List.lookup]
def spSimplest (A : Ad) : Sp := fun vs H Q E => ∃ (l h : Addr) (x y : Rat), vs = [.ref l, .ref h] ∧ RatV A.C H 200 l x ∧ RatV A.C H 200 h y ∧
  (y < x → ∀ d H', Ex H H' → H' d = some (.xd (crf l h)) → E (.ref A.Cr) (some d) H') ∧
  (x ≤ y → ∀ c r H', Ex H H' → H c = none → RatAt A.C H' c r → Sm 220 r → Simp x y r → Q (.ref c) H')
theorem sg_pos {x : Rat} : 0 < sgR x ↔ 0 < x := by
  unfold sgR
  split
  · constructor
    · omega
    · intro h; grind
  · split <;> simp_all
theorem sg_neg {x : Rat} : sgR x < 0 ↔ x < 0 := by
  unfold sgR
  split
  · simp_all
  · split <;> simp_all
theorem ok_simplest (T : Txt K mg A) : FnOk P w K mg base (L2N.CX P w) 5 A.f_simplest A.d_simplest ["low", "high"] (spSimplest A) := by
  refine fun_okN T.F_simplest sc_simplest (fun vs H Q E h => ?_) (fun cdv Ar outer s H vs Q E hr h => ?_)
  · obtain ⟨l, h, x, y, rfl, _⟩ := h
    rfl
  · obtain ⟨l, h, x, y, rfl, hl, hh, k0, k⟩ := h
    obtain ⟨ds, vds, b2⟩ := T.b_init2
    refine ⟨_, (pss_cons (ps_if (pt_cmpR op_gt (pe_meth (pv 0) T.cl T.m_compare (ok_compare T) (hr.mono (by decide)) T.b_compare .nil pass0 (pa_cons (pv 1) pa_nil)) pe_int (nomark _))
      (pss_one (L2N.ps_raise rfl (L2N.takes_of rfl rfl rfl rfl) (pmk_oexN T.o_Cr T.in_Cr T.ti_Cr (ok_cross T) (hr.mono (by decide)) T.b_cross passF rfl T.g_Cr (pa_cons (pv 0) (pa_cons (pv 1) pa_nil))))) pss_nil)
      (pss_cons (ps_if (pt_cmpR op_gt (pe_meth0 (pv 0) T.cl T.m_sign (ok_sign T) (hr.mono (by decide)) T.b_sign .nil pass0) pe_int (nomark _))
      (pss_one (ps_ret (pe_call (ok_above T) (hr.mono (by decide)) rfl T.g_above T.F_above.kp T.b_above .nil pass0 (pa_cons (pv 0) (pa_cons (pv 1) pa_nil))))) pss_nil)
      (pss_cons (ps_if (pt_cmpR op_lt (pe_meth0 (pv 1) T.cl T.m_sign (ok_sign T) (hr.mono (by decide)) T.b_sign .nil pass0) pe_int (nomark _))
      (pss_one (ps_ret (pe_un (un_own T.m_neg.at_ T.m_neg.fn (ok_neg T) (hr.mono (by decide)) T.b_neg pass0) (pe_call (ok_above T) (hr.mono (by decide)) rfl T.g_above T.F_above.kp T.b_above .nil pass0 (pa_cons (pe_un (un_own T.m_neg.at_ T.m_neg.fn (ok_neg T) (hr.mono (by decide)) T.b_neg pass0) (pv 1)) (pa_cons (pe_un (un_own T.m_neg.at_ T.m_neg.fn (ok_neg T) (hr.mono (by decide)) T.b_neg pass0) (pv 0)) pa_nil)))))) pss_nil)
      (pss_one (ps_ret (pe_make T.mkC (ok_init T) (hr.mono (by decide)) rfl T.g_Ratio b2 vds passL (pa_cons pe_int pa_nil))))))), ?_⟩
    obtain ⟨p, ⟨dl, hp⟩, sp, cp, vp⟩ := id hl
    obtain ⟨q, ⟨dh, hq⟩, sq, cq, vq⟩ := id hh
    refine ⟨_, rfl, l, dl, _, rfl, hp, np_compare _, _, rfl, l, h, x, y, rfl, hl.mono (by decide), hh.mono (by decide), _, _, rfl, rfl, _, rfl, ?_⟩
    by_cases c : y < x
    · refine ite2 (fun _ => ?_) (fun z => absurd (decide_eq_true (cmpR_pos.mpr c)) z)
      refine ⟨_, rfl, _, rfl, (by show 2 ≤ 1000; decide), fun a na => ⟨a, l, h, rfl, upd_same, fun d H2 nd ne h1 h2 kp => ⟨rfl, d, crf l h, h1, h2, ?_, ?_⟩⟩⟩
      · rw [upd_ne ne] at nd; exact nd
      · have hd : H d = none := by rw [upd_ne ne] at nd; exact nd
        refine k0 c d _ (fun b o e => ?_) upd_same
        rw [upd_ne (ne_of_none e hd), del_ne (ne_of_none e na)]
        exact kp b o (by rw [upd_ne (ne_of_none e na)]; exact e) (ne_of_none e na)
    have le : x ≤ y := by grind
    replace k := k le
    refine ite2 (fun z => absurd (cmpR_pos.mp (of_decide_eq_true z)) c) (fun _ => ?_)
    refine ⟨_, rfl, l, dl, _, rfl, hp, np_sign _, l, x, rfl, hl.mono (by decide), _, _, rfl, rfl, _, rfl, ?_⟩
    subst vp vq
    by_cases pos : 0 < vl p
    · refine ite2 (fun _ => ?_) (fun z => absurd (decide_eq_true (sg_pos.mpr pos)) z)
      exact ⟨_, rfl, _, rfl, l, h, p, q, rfl, ⟨dl, hp⟩, ⟨dh, hq⟩, sp, sq, (v_pos sp.pos).mp pos, le, k⟩
    refine ite2 (fun z => absurd (sg_pos.mp (of_decide_eq_true z)) pos) (fun _ => ?_)
    refine ⟨_, rfl, h, dh, _, rfl, hq, np_sign _, h, vl q, rfl, hh.mono (by decide), _, _, rfl, rfl, _, rfl, ?_⟩
    by_cases ng : vl q < 0
    · refine ite2 (fun _ => ?_) (fun z => absurd (decide_eq_true (sg_neg.mpr ng)) z)
      refine ⟨_, rfl, rd_neg ⟨dh, hq⟩ (sq.mono (by decide)) cq fun u H1 e1 nu hu => ?_⟩
      refine ⟨_, rfl, rd_neg ⟨dl, e1 _ _ hp⟩ (sp.mono (by decide)) cp fun v H2 e2 nv hv => ?_⟩
      have eq : vl (-q.1, q.2) = -vl q := v_neg sq.ne
      have ep : vl (-p.1, p.2) = -vl p := v_neg sp.ne
      have q1 : 0 < -q.1 := by
        have : 0 < vl (-q.1, q.2) := by rw [eq]; grind
        exact (v_pos (q := (-q.1, q.2)) sq.pos).mp this
      refine ⟨u, v, (-q.1, q.2), (-p.1, p.2), rfl, hu.ex e2, hv, ⟨sq.t.neg, sq.b, sq.pos⟩, ⟨sp.t.neg, sp.b, sp.pos⟩, q1, by rw [eq, ep]; grind, fun r rr H3 e3 nr hr sr si => ?_⟩
      rw [eq, ep] at si
      refine rd_neg hr (sr.mono (by decide)) si.cop fun z H4 e4 nz hz => ?_
      have E4 := ((e1.trans e2).trans e3).trans e4
      exact k z _ H4 E4 (((e1.trans e2).trans e3).free nz) hz ⟨sr.t.neg, sr.b, sr.pos⟩ si.neg
    · refine ite2 (fun z => absurd (sg_neg.mp (of_decide_eq_true z)) ng) (fun _ => ?_)
      refine rd_make (t := 0) (b := 1) (by decide) (bd_of (by decide +kernel)) fun z H4 e4 nz hz => ?_
      rw [lo_one] at hz
      exact k z (0, 1) H4 e4 nz hz ⟨bd_of (by decide +kernel), bd_of (by decide +kernel), by decide⟩ (Simp.zero (by grind) (by grind))
end
end Fc
set_option Elab.async false
set_option linter.all false
set_option maxRecDepth 100000
set_option maxHeartbeats 4000000
set_option exponentiation.threshold 100000
namespace Fc
open PySem PySem.Spec PyProof.Rows L2 L2H
section
variable {P : Program} {w : World} {K : PySem.W.Frag} {mg : Str → Option Value} {base : Heap} {A : Ad}
theorem bd_six : Bd 20 ((10 : Int) ^ (6 : Int).toNat) := by show ((10 : Int) ^ 6).natAbs < 2 ^ 20; decide +kernel
theorem six_pos : (0 : Int) < (10 : Int) ^ (6 : Int).toNat := by decide +kernel
/-- a drawn fraction of at most 22 digits in base 2 -/
def spFrac : Sp := fun vs H Q _ => ∃ (p : Addr), vs = [.ref p] ∧ PotAt H p ∧ ∀ t q H', Pr H' t q → H t = none → Sm 22 q → PotAt H' p → Keep p H H' → Q (.ref t) H'
theorem ok_fraction (T : Txt K mg A) : FnOk P w K mg base CX0 2 A.f_fraction A.d_fraction ["pot"] spFrac := by
  refine T.F_fraction.ok sc_fraction (fun vs H Q E h => ?_) (fun cdv Ar outer s H vs Q E hr h => ?_)
  · obtain ⟨p, rfl, _⟩ := h
    rfl
  · obtain ⟨p, rfl, pot, k⟩ := h
    refine ⟨_, (pss_cons (ps_set (i := 1) sc_fraction.nd rfl (Or.inl rfl) (pe_call (ok_digit T) (hr.mono (by decide)) rfl T.g_digit T.F_digit.kp T.b_digit .nil pass0 (pa_cons (pv 0) (pa_cons pe_int pa_nil))))
      (pss_cons (ps_if (pt_cmpR op_eq (pv 1) pe_int (nomark _))
      (pss_cons (ps_set (i := 2) sc_fraction.nd rfl (Or.inl rfl) (pe_op op_sub (pe_call (ok_digit T) (hr.mono (by decide)) rfl T.g_digit T.F_digit.kp T.b_digit .nil pass0 (pa_cons (pv 0) (pa_cons (pe_op op_add (pe_op op_mulW pe_int (pe_op op_pow pe_int pe_int)) pe_int) pa_nil))) (pe_op op_pow pe_int pe_int)))
      (pss_one (ps_ret (pe_tup (pa_cons (pv 2) (pa_cons (pe_op op_add pe_int (pe_call (ok_digit T) (hr.mono (by decide)) rfl T.g_digit T.F_digit.kp T.b_digit .nil pass0 (pa_cons (pv 0) (pa_cons (pe_op op_pow pe_int pe_int) pa_nil)))) pa_nil)))))) pss_nil)
      (pss_cons (ps_if (pt_cmpR op_eq (pv 1) pe_int (nomark _))
      (pss_cons (ps_set (i := 2) sc_fraction.nd rfl (Or.inl rfl) (pe_op op_sub (pe_call (ok_digit T) (hr.mono (by decide)) rfl T.g_digit T.F_digit.kp T.b_digit .nil pass0 (pa_cons (pv 0) (pa_cons pe_int pa_nil))) pe_int))
      (pss_one (ps_ret (pe_tup (pa_cons (pv 2) (pa_cons (pe_op op_add pe_int (pe_call (ok_digit T) (hr.mono (by decide)) rfl T.g_digit T.F_digit.kp T.b_digit .nil pass0 (pa_cons (pv 0) (pa_cons pe_int pa_nil)))) pa_nil)))))) pss_nil)
      (pss_cons (ps_set (i := 2) sc_fraction.nd rfl (Or.inl rfl) (pe_op op_sub pe_int (pe_call (ok_digit T) (hr.mono (by decide)) rfl T.g_digit T.F_digit.kp T.b_digit .nil pass0 (pa_cons (pv 0) (pa_cons pe_int pa_nil)))))
      (pss_one (ps_ret (pe_tup (pa_cons (pv 2) (pa_cons (pe_op op_sub pe_int (pe_call (ok_digit T) (hr.mono (by decide)) rfl T.g_digit T.F_digit.kp T.b_digit .nil pass0 (pa_cons (pv 0) (pa_cons pe_int pa_nil)))) pa_nil))))))))), ?_⟩
    have fin : ∀ (q : Int × Int) (H' : Hp), Sm 22 q → PotAt H' p → Keep p H H' → ∀ t, H' t = none → Q (.ref t) (upd H' t (.tup [.int q.1, .int q.2])) := fun q H' sq pt kp t ht =>
      k t q _ upd_same (kp.free pt ht) sq (pt.ex (Ex.new ht)) (kp.trans (Keep.new ht))
    have bt : Bd 22 ((10 : Int) ^ (6 : Int).toNat) := by show ((10 : Int) ^ 6).natAbs < 2 ^ 22; decide +kernel
    refine ⟨_, rfl, p, 4, rfl, pot, by decide, bd_of (by decide), fun d0 H0 a0 b0 pot0 k0 => ?_⟩
    refine ⟨_, rfl, rfl, _, rfl, ite2 (fun _ => ?_) (fun _ => ?_)⟩
    · have e2 : Bd 22 (2 * (10 : Int) ^ (6 : Int).toNat) := bd_two.mul bd_six
      refine ⟨_, rfl, _, _, rfl, rfl, cpow 10 6 (by decide) (by decide), _, _, rfl, rfl, bd_two.w bd_six, _, _, rfl, rfl, p, _, rfl, pot0, ?_, ?_, fun d H1 a b pt k1 => ?_⟩
      · have := six_pos; show 0 < 2 * (10 : Int) ^ (6 : Int).toNat + 1; omega
      · exact (e2.add (show Bd 22 (1 : Int) from bd_of (by decide +kernel))).mono (by decide)
      have b' : d < 2 * (10 : Int) ^ (6 : Int).toNat + 1 := b
      refine ⟨_, _, rfl, rfl, cpow 10 6 (by decide) (by decide), _, _, rfl, rfl, _, rfl, _, rfl, _, _, rfl, rfl, cpow 10 6 (by decide) (by decide), p, _, rfl, pt, six_pos, bd_six.mono (by decide), fun d2 H2 a2 b2 pt2 k2 => ?_⟩
      have b2' : d2 < (10 : Int) ^ (6 : Int).toNat := b2
      refine ⟨_, _, rfl, rfl, (by show 2 ≤ sizeLine; exact sz2), fun t ht => ?_⟩
      exact fin (d - (10 : Int) ^ (6 : Int).toNat, 1 + d2) H2 ⟨bd_le bt (by show -(10 : Int) ^ (6 : Int).toNat ≤ d - (10 : Int) ^ (6 : Int).toNat; omega) (by show d - (10 : Int) ^ (6 : Int).toNat ≤ (10 : Int) ^ (6 : Int).toNat; omega), bd_le bt (by show -(10 : Int) ^ (6 : Int).toNat ≤ 1 + d2; omega) (by show 1 + d2 ≤ (10 : Int) ^ (6 : Int).toNat; omega), by show 0 < 1 + d2; omega⟩ pt2 ((k0.trans k1).trans k2) t ht
    refine ⟨_, rfl, rfl, _, rfl, ite2 (fun _ => ?_) (fun _ => ?_)⟩
    · refine ⟨_, rfl, p, 2001, rfl, pot0, by decide, bd_of (by decide), fun d H1 a b pt k1 => ?_⟩
      refine ⟨_, _, rfl, rfl, _, rfl, _, rfl, p, 1000, rfl, pt, by decide, bd_of (by decide), fun d2 H2 a2 b2 pt2 k2 => ?_⟩
      refine ⟨_, _, rfl, rfl, (by show 2 ≤ sizeLine; exact sz2), fun t ht => ?_⟩
      exact fin (d - 1000, 1 + d2) H2 ⟨(bd_le (j := 2001) (bd_of (by decide)) (by omega) (by omega) : Bd 22 (d - 1000)), (bd_le (j := 2001) (bd_of (by decide)) (by omega) (by omega) : Bd 22 (1 + d2)), by show 0 < 1 + d2; omega⟩ pt2 ((k0.trans k1).trans k2) t ht
    · refine ⟨_, rfl, p, 13, rfl, pot0, by decide, bd_of (by decide), fun d H1 a b pt k1 => ?_⟩
      refine ⟨_, _, rfl, rfl, _, rfl, _, rfl, p, 7, rfl, pt, by decide, bd_of (by decide), fun d2 H2 a2 b2 pt2 k2 => ?_⟩
      refine ⟨_, _, rfl, rfl, (by show 2 ≤ sizeLine; exact sz2), fun t ht => ?_⟩
      exact fin (6 - d, 7 - d2) H2 ⟨(bd_le (j := 2001) (bd_of (by decide)) (by omega) (by omega) : Bd 22 (6 - d)), (bd_le (j := 2001) (bd_of (by decide)) (by omega) (by omega) : Bd 22 (7 - d2)), by show 0 < 7 - d2; omega⟩ pt2 ((k0.trans k1).trans k2) t ht
def spLess : Sp := fun vs H Q _ => ∃ (a b : Addr) (x y : Rat), vs = [.ref a, .ref b] ∧ PrV H 1000 a x ∧ PrV H 1000 b y ∧ Q (.bl (decide (x < y))) H
theorem ok_below (T : Txt K mg A) : FnOk P w K mg base CX0 1 A.f_below A.d_below ["p", "q"] spLess := by
  refine T.F_below.ok sc_below (fun vs H Q E h => ?_) (fun cdv Ar outer s H vs Q E hr h => ?_)
  · obtain ⟨a, b, x, y, rfl, _⟩ := h
    rfl
  · obtain ⟨a, b, x, y, rfl, ⟨p, hp, sp, rfl⟩, ⟨q, hq, sq, rfl⟩, k⟩ := h
    refine ⟨_, (pss_one (ps_ret (pe_cmpR op_lt (pe_op op_mulW (pe_ix ix_tup (pv 0) pe_int (fun _ _ => rfl)) (pe_ix ix_tup (pv 1) pe_int (fun _ _ => rfl))) (pe_op op_mulW (pe_ix ix_tup (pv 1) pe_int (fun _ _ => rfl)) (pe_ix ix_tup (pv 0) pe_int (fun _ _ => rfl))) (nomark _)))), ?_⟩
    refine ⟨_, rfl, _, _, _, _, rfl, rfl, SqT.of (hp), rfl, _, rfl, _, _, _, _, rfl, rfl, SqT.of (hq), rfl, _, _, rfl, rfl, sp.t.w sq.b, _, rfl, _, _, _, _, rfl, rfl, SqT.of (hq), rfl, _, rfl, _, _, _, _, rfl, rfl, SqT.of (hp), rfl, _, _, rfl, rfl, sq.t.w sp.b, _, _, rfl, rfl, ?_⟩
    have e : decide (p.1 * q.2 < q.1 * p.2) = decide (vl p < vl q) := decide_eq_decide.mpr (vl_lt sp.pos sq.pos).symm
    rw [← e] at k
    exact k
def spPlus : Sp := fun vs H Q _ => ∃ (a b : Addr) (x y : Rat) (n m : Nat), vs = [.ref a, .ref b] ∧ PrV H n a x ∧ PrV H m b y ∧ 0 < n ∧ 0 < m ∧ n + m ≤ 10000 ∧ ∀ c H', Ex H H' → H c = none → PrV H' (n + m + 1) c (x + y) → Q (.ref c) H'
theorem ok_plus (T : Txt K mg A) : FnOk P w K mg base CX0 1 A.f_plus A.d_plus ["p", "q"] spPlus := by
  refine T.F_plus.ok sc_plus (fun vs H Q E h => ?_) (fun cdv Ar outer s H vs Q E hr h => ?_)
  · obtain ⟨a, b, x, y, n, m, rfl, _⟩ := h
    rfl
  · obtain ⟨a, b, x, y, n, m, rfl, ⟨p, hp, sp, rfl⟩, ⟨q, hq, sq, rfl⟩, n0, m0, nm, k⟩ := h
    refine ⟨_, (pss_one (ps_ret (pe_tup (pa_cons (pe_op op_add (pe_op op_mulW (pe_ix ix_tup (pv 0) pe_int (fun _ _ => rfl)) (pe_ix ix_tup (pv 1) pe_int (fun _ _ => rfl))) (pe_op op_mulW (pe_ix ix_tup (pv 1) pe_int (fun _ _ => rfl)) (pe_ix ix_tup (pv 0) pe_int (fun _ _ => rfl)))) (pa_cons (pe_op op_mulW (pe_ix ix_tup (pv 0) pe_int (fun _ _ => rfl)) (pe_ix ix_tup (pv 1) pe_int (fun _ _ => rfl))) pa_nil))))), ?_⟩
    refine ⟨_, rfl, _, _, _, _, rfl, rfl, SqT.of (hp), rfl, _, rfl, _, _, _, _, rfl, rfl, SqT.of (hq), rfl, _, _, rfl, rfl, sp.t.w sq.b n0 m0 (by omega), _, rfl, _, _, _, _, rfl, rfl, SqT.of (hq), rfl, _, rfl, _, _, _, _, rfl, rfl, SqT.of (hp), rfl, _, _, rfl, rfl, sq.t.w sp.b m0 n0 (by omega), _, _, rfl, rfl, _, rfl, _, _, _, _, rfl, rfl, SqT.of (hp), rfl, _, rfl, _, _, _, _, rfl, rfl, SqT.of (hq), rfl, _, _, rfl, rfl, sp.b.w sq.b n0 m0 (by omega), (by show 2 ≤ sizeLine; exact sz2), fun u hu => ?_⟩
    refine k u _ (Ex.new hu) hu ⟨(p.1 * q.2 + q.1 * p.2, p.2 * q.2), upd_same, ⟨(sp.t.mul sq.b).add ((sq.t.mul sp.b).mono (by omega)), (sp.b.mul sq.b).mono (by omega), Int.mul_pos sp.pos sq.pos⟩, v_add sp.ne sq.ne⟩
/-- the ends of a span, as the law holds them -/
def EnV (H : Hp) (n : Nat) (t : Addr) (x y : Rat) : Prop := ∃ a b, H t = some (.tup [.ref a, .ref b]) ∧ PrV H n a x ∧ PrV H n b y
theorem EnV.mono {H : Hp} {n m : Nat} {t : Addr} {x y : Rat} (h : EnV H n t x y) (l : n ≤ m) : EnV H m t x y := let ⟨a, b, z, u, v⟩ := h; ⟨a, b, z, u.mono l, v.mono l⟩
theorem EnV.ex {H H' : Hp} {n : Nat} {t : Addr} {x y : Rat} (h : EnV H n t x y) (e : Ex H H') : EnV H' n t x y := let ⟨a, b, z, u, v⟩ := h; ⟨a, b, e _ _ z, u.ex e, v.ex e⟩
theorem EnV.keep {H H' : Hp} {n : Nat} {t p : Addr} {x y : Rat} (h : EnV H n t x y) (pt : PotAt H p) (k : Keep p H H') : EnV H' n t x y := by
  obtain ⟨a, b, z, u, v⟩ := h
  refine ⟨a, b, k _ _ z ?_, u.keep pt k, v.keep pt k⟩
  obtain ⟨l, cs, i, c, ne, h1, h2, _⟩ := pt
  exact ne_of z h1 (by intro z; cases z)
theorem Keep.newk {p t : Addr} {H H' : Hp} {o : HO} (k : Keep p H H') (n : H' t = none) : Keep p H (L2.upd H' t o) := k.trans (Keep.new n)
theorem PrV.new {H : Hp} {u : Addr} {n : Nat} (q : Int × Int) (s : Sm n q) : PrV (upd H u (.tup [.int q.1, .int q.2])) n u (vl q) := ⟨q, upd_same, s, rfl⟩
abbrev ab (z : Int) : Int := if z < 0 then -z else z
theorem Bd.ab {n : Nat} {z : Int} (h : Bd n z) : Bd n (ab z) := h.abs (by unfold Fc.ab; split <;> omega)
theorem ab_nn (z : Int) : 0 ≤ ab z := by unfold Fc.ab; split <;> omega
def spSpan : Sp := fun vs H Q _ => ∃ (p : Addr), vs = [.ref p] ∧ PotAt H p ∧ ∀ t x y H', EnV H' 64 t x y → x ≤ y → PotAt H' p → Keep p H H' → Q (.ref t) H'
theorem ok_span (T : Txt K mg A) : FnOk P w K mg base CX0 3 A.f_span A.d_span ["pot"] spSpan := by
  refine T.F_span.ok sc_span (fun vs H Q E h => ?_) (fun cdv Ar outer s H vs Q E hr h => ?_)
  · obtain ⟨p, rfl, _⟩ := h
    rfl
  · obtain ⟨pt, rfl, pot, k⟩ := h
    refine ⟨_, (C8.pss_cut (ps_set (i := 1) sc_span.nd rfl (Or.inl rfl) (pe_call (ok_digit T) (hr.mono (by decide)) rfl T.g_digit T.F_digit.kp T.b_digit .nil pass0 (pa_cons (pv 0) (pa_cons pe_int pa_nil))))
      (C8.pss_cut (ps_set (i := 2) sc_span.nd rfl (Or.inl rfl) (pe_call (ok_fraction T) (hr.mono (by decide)) rfl T.g_fraction T.F_fraction.kp T.b_fraction .nil pass0 (pa_cons (pv 0) pa_nil)))
      (pss_cons (ps_if (pt_cmpR op_eq (pv 1) pe_int (nomark _))
      (pss_one (ps_ret (pe_tup (pa_cons (pv 2) (pa_cons (pv 2) pa_nil))))) pss_nil)
      (pss_cons (ps_if (pt_cmpR op_eq (pv 1) pe_int (nomark _))
      (pss_one (ps_ret (pe_tup (pa_cons (pv 2) (pa_cons (pe_tup (pa_cons (pe_op op_add (pe_op op_mulW (pe_ix ix_tup (pv 2) pe_int (fun _ _ => rfl)) (pe_ix ix_tup (pv 2) pe_int (fun _ _ => rfl))) pe_int) (pa_cons (pe_op op_mulW (pe_ix ix_tup (pv 2) pe_int (fun _ _ => rfl)) (pe_ix ix_tup (pv 2) pe_int (fun _ _ => rfl))) pa_nil))) pa_nil))))) pss_nil)
      (C8.pss_cut (ps_set (i := 3) sc_span.nd rfl (Or.inl rfl) (pe_op op_add pe_int (pe_call (ok_digit T) (hr.mono (by decide)) rfl T.g_digit T.F_digit.kp T.b_digit .nil pass0 (pa_cons (pv 0) (pa_cons (pe_op op_pow pe_int pe_int) pa_nil)))))
      (pss_cons (ps_if (pt_cmpR op_eq (pv 1) pe_int (nomark _))
      (pss_one (ps_ret (pe_tup (pa_cons (pv 2) (pa_cons (pe_tup (pa_cons (pe_op op_add (pe_op op_mulW (pe_ix ix_tup (pv 2) pe_int (fun _ _ => rfl)) (pv 3)) pe_int) (pa_cons (pe_op op_mulW (pe_ix ix_tup (pv 2) pe_int (fun _ _ => rfl)) (pv 3)) pa_nil))) pa_nil))))) pss_nil)
      (pss_cons (ps_if (pt_cmpR op_eq (pv 1) pe_int (nomark _))
      (pss_cons (ps_set (i := 4) sc_span.nd rfl (Or.inl rfl) (pe_op op_mulW (pe_ix ix_tup (pv 2) pe_int (fun _ _ => rfl)) (pv 3)))
      (pss_one (ps_ret (pe_tup (pa_cons (pe_tup (pa_cons (pe_op op_add (pe_op op_mulW (pe_ix ix_tup (pv 2) pe_int (fun _ _ => rfl)) (pv 3)) pe_int) (pa_cons (pv 4) pa_nil))) (pa_cons (pe_tup (pa_cons (pe_op op_add (pe_op op_mulW (pe_ix ix_tup (pv 2) pe_int (fun _ _ => rfl)) (pv 3)) pe_int) (pa_cons (pv 4) pa_nil))) pa_nil)))))) pss_nil)
      (C8.pss_cut (ps_set (i := 5) sc_span.nd rfl (Or.inl rfl) (pe_call (ok_fraction T) (hr.mono (by decide)) rfl T.g_fraction T.F_fraction.kp T.b_fraction .nil pass0 (pa_cons (pv 0) pa_nil)))
      (pss_cons (ps_if (pt_cmpR op_eq (pv 1) pe_int (nomark _))
      (pss_one (ps_ret (pe_tup (pa_cons (pv 2) (pa_cons (pe_call (ok_plus T) (hr.mono (by decide)) rfl T.g_plus T.F_plus.kp T.b_plus .nil pass0 (pa_cons (pv 2) (pa_cons (pe_tup (pa_cons (pe_callB call_abs (by rfl) T.n_abs (by decide +kernel) (pa_cons (pe_ix ix_tup (pv 5) pe_int (fun _ _ => rfl)) pa_nil)) (pa_cons (pe_ix ix_tup (pv 5) pe_int (fun _ _ => rfl)) pa_nil))) pa_nil))) pa_nil))))) pss_nil)
      (pss_cons (ps_if (pt_cmpR op_eq (pv 1) pe_int (nomark _))
      (pss_one (ps_ret (pe_tup (pa_cons (pe_tup (pa_cons (pe_un un_neg (pe_callB call_abs (by rfl) T.n_abs (by decide +kernel) (pa_cons (pe_ix ix_tup (pv 2) pe_int (fun _ _ => rfl)) pa_nil))) (pa_cons (pe_ix ix_tup (pv 2) pe_int (fun _ _ => rfl)) pa_nil))) (pa_cons (pe_tup (pa_cons (pe_callB call_abs (by rfl) T.n_abs (by decide +kernel) (pa_cons (pe_ix ix_tup (pv 5) pe_int (fun _ _ => rfl)) pa_nil)) (pa_cons (pe_ix ix_tup (pv 5) pe_int (fun _ _ => rfl)) pa_nil))) pa_nil))))) pss_nil)
      (C8.pss_cut (ps_if (pt_cmpR op_eq (pv 1) pe_int (nomark _))
      (pss_cons (ps_set (i := 2) sc_span.nd rfl (Or.inl rfl) (pe_tup (pa_cons (pe_un un_neg (pe_callB call_abs (by rfl) T.n_abs (by decide +kernel) (pa_cons (pe_ix ix_tup (pv 2) pe_int (fun _ _ => rfl)) pa_nil))) (pa_cons (pe_ix ix_tup (pv 2) pe_int (fun _ _ => rfl)) pa_nil))))
      (pss_one (ps_set (i := 5) sc_span.nd rfl (Or.inl rfl) (pe_tup (pa_cons (pe_un un_neg (pe_callB call_abs (by rfl) T.n_abs (by decide +kernel) (pa_cons (pe_ix ix_tup (pv 5) pe_int (fun _ _ => rfl)) pa_nil))) (pa_cons (pe_ix ix_tup (pv 5) pe_int (fun _ _ => rfl)) pa_nil)))))) pss_nil)
      (pss_cons (ps_if (pt_val (pe_call (ok_below T) (hr.mono (by decide)) rfl T.g_below T.F_below.kp T.b_below .nil pass0 (pa_cons (pv 5) (pa_cons (pv 2) pa_nil))))
      (pss_one (ps_ret (pe_tup (pa_cons (pv 5) (pa_cons (pv 2) pa_nil))))) pss_nil)
      (pss_one (ps_ret (pe_tup (pa_cons (pv 2) (pa_cons (pv 5) pa_nil))))))))))))))))), ?_⟩
    have fin : ∀ (a b : Addr) (x y : Rat) (H' : Hp), PrV H' 64 a x → PrV H' 64 b y → x ≤ y → PotAt H' pt → Keep pt H H' → ∀ t, H' t = none → Q (.ref t) (upd H' t (.tup [.ref a, .ref b])) := fun a b x y H' ha hb le p1 k1 t ht =>
      k t x y _ ⟨a, b, upd_same, ha.ex (Ex.new ht), hb.ex (Ex.new ht)⟩ le (p1.ex (Ex.new ht)) (k1.newk ht)
    refine ⟨fun sl H' => ∃ kd, sl = [some (.ref pt), some (.int kd), none, none, none, none] ∧ PotAt H' pt ∧ Keep pt H H', ?_, ?_⟩
    · exact ⟨_, rfl, pt, 8, rfl, pot, by decide, bd_of (by decide), fun d0 H0 a0 b0 pot0 k0 => ⟨_, rfl, pot0, k0⟩⟩
    rintro sl H0 ⟨kd, rfl, pot0, k0⟩
    refine ⟨fun sl H' => ∃ (a : Addr) (q : Int × Int), sl = [some (.ref pt), some (.int kd), some (.ref a), none, none, none] ∧ Pr H' a q ∧ Sm 22 q ∧ PotAt H' pt ∧ Keep pt H H', ?_, ?_⟩
    · exact ⟨_, rfl, pt, rfl, pot0, fun t q H' hq nt sq p1 k1 => ⟨t, q, rfl, hq, sq, p1, k0.trans k1⟩⟩
    clear pot0 k0
    rintro sl H1 ⟨a, q, rfl, hq, sq, p1, k1⟩
    have s64 : ∀ {r : Int × Int}, Sm 22 r → Sm 64 r := fun h => h.mono (by decide)
    have one1 : ∀ n, 0 < n → Bd n (1 : Int) := fun n h => Nat.lt_of_lt_of_le (by decide : (1 : Int).natAbs < 2 ^ 1) (Nat.pow_le_pow_right (by decide) h)
    refine ⟨_, rfl, rfl, _, rfl, ite2 (fun _ => ?_) (fun _ => ?_)⟩
    · exact ⟨_, rfl, _, rfl, (by show 2 ≤ sizeLine; exact sz2), fun t ht => fin a a _ _ H1 ⟨q, hq, s64 sq, rfl⟩ ⟨q, hq, s64 sq, rfl⟩ (by grind) p1 k1 t ht⟩
    refine ⟨_, rfl, rfl, _, rfl, ite2 (fun _ => ?_) (fun _ => ?_)⟩
    · refine ⟨_, rfl, _, rfl, _, _, _, _, rfl, rfl, SqT.of (hq), rfl, _, rfl, _, _, _, _, rfl, rfl, SqT.of (hq), rfl, _, _, rfl, rfl, sq.t.w sq.b, _, _, rfl, rfl, _, rfl, _, _, _, _, rfl, rfl, SqT.of (hq), rfl, _, rfl, _, _, _, _, rfl, rfl, SqT.of (hq), rfl, _, _, rfl, rfl, sq.b.w sq.b, (by show 2 ≤ sizeLine; exact sz2), fun u hu => ⟨(by show 2 ≤ sizeLine; exact sz2), fun t ht => ?_⟩⟩
      have s1 : Sm 64 (q.1 * q.2 + 1, q.2 * q.2) := ⟨((sq.t.mul sq.b).add (one1 44 (by decide))).mono (by decide), (sq.b.mul sq.b).mono (by decide), Int.mul_pos sq.pos sq.pos⟩
      refine fin a u _ _ _ (PrV.ex ⟨q, hq, s64 sq, rfl⟩ (Ex.new hu)) (PrV.new (q.1 * q.2 + 1, q.2 * q.2) s1) ?_ (p1.ex (Ex.new hu)) (k1.newk hu) t ht
      refine (vl_le sq.pos s1.pos).mpr ?_
      show q.1 * (q.2 * q.2) ≤ (q.1 * q.2 + 1) * q.2
      rw [Int.add_mul]
      have : q.1 * (q.2 * q.2) = q.1 * q.2 * q.2 := by ac_rfl
      have := sq.pos
      omega
    refine ⟨fun sl H' => ∃ (m : Int), sl = [some (.ref pt), some (.int kd), some (.ref a), some (.int m), none, none] ∧ 0 < m ∧ Bd 21 m ∧ Pr H' a q ∧ PotAt H' pt ∧ Keep pt H H', ?_, ?_⟩
    · refine ⟨_, rfl, _, _, rfl, rfl, cpow 10 6 (by decide) (by decide), pt, _, rfl, p1, six_pos, bd_six.mono (by decide), fun d H2 d0 d1 p2 k2 => ?_⟩
      have d1' : d < (10 : Int) ^ (6 : Int).toNat := d1
      exact ⟨_, _, rfl, rfl, _, rfl, by omega, bd_le (bd_six.mono (by decide) : Bd 21 _) (by show -(10 : Int) ^ (6 : Int).toNat ≤ 1 + d; omega) (by show 1 + d ≤ (10 : Int) ^ (6 : Int).toNat; omega), hq.keep p1 k2, p2, k1.trans k2⟩
    clear hq p1 k1
    rintro sl H1 ⟨m, rfl, m0, bm, hq, p1, k1⟩
    have sm : Sm 64 (q.1 * m + 1, q.2 * m) := ⟨((sq.t.mul bm).add (one1 43 (by decide))).mono (by decide), (sq.b.mul bm).mono (by decide), Int.mul_pos sq.pos m0⟩
    have sm2 : Sm 64 (q.1 * m + 2, q.2 * m) := ⟨((sq.t.mul bm).add (show Bd 43 (2 : Int) from bd_of (by decide))).mono (by decide), (sq.b.mul bm).mono (by decide), Int.mul_pos sq.pos m0⟩
    refine ⟨_, rfl, rfl, _, rfl, ite2 (fun _ => ?_) (fun _ => ?_)⟩
    · refine ⟨_, rfl, _, rfl, _, _, _, _, rfl, rfl, SqT.of (hq), rfl, _, rfl, _, _, rfl, rfl, sq.t.w bm, _, _, rfl, rfl, _, rfl, _, _, _, _, rfl, rfl, SqT.of (hq), rfl, _, rfl, _, _, rfl, rfl, sq.b.w bm, (by show 2 ≤ sizeLine; exact sz2), fun u hu => ⟨(by show 2 ≤ sizeLine; exact sz2), fun t ht => ?_⟩⟩
      refine fin a u _ _ _ (PrV.ex ⟨q, hq, s64 sq, rfl⟩ (Ex.new hu)) (PrV.new (q.1 * m + 1, q.2 * m) sm) ?_ (p1.ex (Ex.new hu)) (k1.newk hu) t ht
      refine (vl_le sq.pos sm.pos).mpr ?_
      show q.1 * (q.2 * m) ≤ (q.1 * m + 1) * q.2
      rw [Int.add_mul]
      have : q.1 * (q.2 * m) = q.1 * m * q.2 := by ac_rfl
      have := sq.pos
      omega
    refine ⟨_, rfl, rfl, _, rfl, ite2 (fun _ => ?_) (fun _ => ?_)⟩
    · refine ⟨_, rfl, _, _, _, _, rfl, rfl, SqT.of (hq), rfl, _, rfl, _, _, rfl, rfl, sq.b.w bm, ?_⟩
      refine ⟨_, rfl, _, _, _, _, rfl, rfl, SqT.of (hq), rfl, _, rfl, _, _, rfl, rfl, sq.t.w bm, _, _, rfl, rfl, _, rfl, (by show 2 ≤ sizeLine; exact sz2), fun u hu => ?_⟩
      have e1 : Ex H1 (upd H1 u (.tup [.int (q.1 * m + 1), .int (q.2 * m)])) := Ex.new hu
      refine ⟨_, rfl, _, _, _, _, rfl, rfl, SqT.of (e1 _ _ hq), rfl, _, rfl, _, _, rfl, rfl, sq.t.w bm, _, _, rfl, rfl, _, rfl, (by show 2 ≤ sizeLine; exact sz2), fun v hv => ⟨(by show 2 ≤ sizeLine; exact sz2), fun t ht => ?_⟩⟩
      refine fin u v _ _ _ ((PrV.new (q.1 * m + 1, q.2 * m) sm).ex (Ex.new hv)) (PrV.new (q.1 * m + 2, q.2 * m) sm2) ?_ ((p1.ex e1).ex (Ex.new hv)) ((k1.newk hu).newk hv) t ht
      refine (vl_le sm.pos sm2.pos).mpr ?_
      show (q.1 * m + 1) * (q.2 * m) ≤ (q.1 * m + 2) * (q.2 * m)
      exact Int.mul_le_mul_of_nonneg_right (by omega) (by have := sm.pos; show 0 ≤ q.2 * m; have t : 0 < q.2 * m := this; omega)
    refine ⟨fun sl H' => ∃ (b : Addr) (r : Int × Int) (lw : Option V), sl = [some (.ref pt), some (.int kd), some (.ref a), some (.int m), lw, some (.ref b)] ∧ Pr H' a q ∧ Pr H' b r ∧ Sm 22 r ∧ PotAt H' pt ∧ Keep pt H H', ?_, ?_⟩
    · exact ⟨_, rfl, pt, rfl, p1, fun t r H' hr nt sr p2 k2 => ⟨t, r, _, rfl, hq.keep p1 k2, hr, sr, p2, k1.trans k2⟩⟩
    clear hq p1 k1
    rintro sl H1 ⟨b, r, lw, rfl, hq, hr', sr, p1, k1⟩
    refine ⟨_, rfl, rfl, _, rfl, ite2 (fun _ => ?_) (fun _ => ?_)⟩
    · refine ⟨_, rfl, _, rfl, _, rfl, _, _, _, _, rfl, rfl, SqT.of (hr'), rfl, r.1, rfl, _, rfl, _, _, _, _, rfl, rfl, SqT.of (hr'), rfl, (by show 2 ≤ sizeLine; exact sz2), fun u hu => ?_⟩
      have hs : Sm 22 (ab r.1, r.2) := ⟨sr.t.ab, sr.b, sr.pos⟩
      refine ⟨a, u, vl q, vl (ab r.1, r.2), 22, 22, rfl, ⟨q, hq.ex (Ex.new hu), sq, rfl⟩, PrV.new (ab r.1, r.2) hs, by decide, by decide, by decide, fun c H2 e2 nc hc => ?_⟩
      refine ⟨(by show 2 ≤ sizeLine; exact sz2), fun t ht => ?_⟩
      have nn := (v_nn (q := (ab r.1, r.2)) sr.pos).mpr (ab_nn _)
      exact fin a c _ _ H2 ⟨q, (hq.ex (Ex.new hu)).ex e2, s64 sq, rfl⟩ (hc.mono (by decide)) (by grind) ((p1.ex (Ex.new hu)).ex e2) ((k1.newk hu).trans (Keep.of e2)) t ht
    refine ⟨_, rfl, rfl, _, rfl, ite2 (fun _ => ?_) (fun _ => ?_)⟩
    · refine ⟨_, rfl, _, _, _, _, rfl, rfl, SqT.of (hq), rfl, q.1, rfl, _, rfl, _, rfl, _, _, _, _, rfl, rfl, SqT.of (hq), rfl, (by show 2 ≤ sizeLine; exact sz2), fun u hu => ?_⟩
      have e1 : Ex H1 (upd H1 u (.tup [.int (-ab q.1), .int q.2])) := Ex.new hu
      refine ⟨_, rfl, _, _, _, _, rfl, rfl, SqT.of (e1 _ _ hr'), rfl, r.1, rfl, _, rfl, _, _, _, _, rfl, rfl, SqT.of (e1 _ _ hr'), rfl, (by show 2 ≤ sizeLine; exact sz2), fun v hv => ⟨(by show 2 ≤ sizeLine; exact sz2), fun t ht => ?_⟩⟩
      have h1 : Sm 64 (-ab q.1, q.2) := s64 ⟨sq.t.ab.neg, sq.b, sq.pos⟩
      have h2 : Sm 64 (ab r.1, r.2) := s64 ⟨sr.t.ab, sr.b, sr.pos⟩
      have n1 := (v_np (q := (-ab q.1, q.2)) sq.pos).mpr (by have := ab_nn q.1; show -ab q.1 ≤ 0; omega)
      have n2 := (v_nn (q := (ab r.1, r.2)) sr.pos).mpr (ab_nn _)
      exact fin u v _ _ _ ((PrV.new (-ab q.1, q.2) h1).ex (Ex.new hv)) (PrV.new (ab r.1, r.2) h2) (by grind) ((p1.ex e1).ex (Ex.new hv)) ((k1.newk hu).newk hv) t ht
    refine ⟨fun sl H' => ∃ (c d : Addr) (x y : Rat) (lw : Option V), sl = [some (.ref pt), some (.int kd), some (.ref c), some (.int m), lw, some (.ref d)] ∧ PrV H' 64 c x ∧ PrV H' 64 d y ∧ PotAt H' pt ∧ Keep pt H H', ?_, ?_⟩
    · refine ⟨_, rfl, rfl, _, rfl, ite2 (fun _ => ?_) (fun _ => ?_)⟩
      · refine ⟨_, rfl, _, _, _, _, rfl, rfl, SqT.of (hq), rfl, q.1, rfl, _, rfl, _, rfl, _, _, _, _, rfl, rfl, SqT.of (hq), rfl, (by show 2 ≤ sizeLine; exact sz2), fun u hu => ?_⟩
        have e1 : Ex H1 (upd H1 u (.tup [.int (-ab q.1), .int q.2])) := Ex.new hu
        refine ⟨_, rfl, _, _, _, _, rfl, rfl, SqT.of (e1 _ _ hr'), rfl, r.1, rfl, _, rfl, _, rfl, _, _, _, _, rfl, rfl, SqT.of (e1 _ _ hr'), rfl, (by show 2 ≤ sizeLine; exact sz2), fun v hv => ?_⟩
        have h1 : Sm 64 (-ab q.1, q.2) := s64 ⟨sq.t.ab.neg, sq.b, sq.pos⟩
        have h2 : Sm 64 (-ab r.1, r.2) := s64 ⟨sr.t.ab.neg, sr.b, sr.pos⟩
        exact ⟨u, v, _, _, _, rfl, (PrV.new (-ab q.1, q.2) h1).ex (Ex.new hv), PrV.new (-ab r.1, r.2) h2, (p1.ex e1).ex (Ex.new hv), (k1.newk hu).newk hv⟩
      · exact ⟨a, b, _, _, _, rfl, ⟨q, hq, s64 sq, rfl⟩, ⟨r, hr', s64 sr, rfl⟩, p1, k1⟩
    rintro sl H2 ⟨c, d, x, y, lw, rfl, hc, hd, p2, k2⟩
    refine ⟨_, rfl, _, rfl, d, c, y, x, rfl, hd.mono (by decide), hc.mono (by decide), _, rfl, ?_⟩
    by_cases cc : y < x
    · refine ite2 (fun _ => ?_) (fun n => absurd (decide_eq_true cc) n)
      exact ⟨_, rfl, _, rfl, (by show 2 ≤ sizeLine; exact sz2), fun t ht => fin d c _ _ H2 hd hc (by grind) p2 k2 t ht⟩
    · refine ite2 (fun z => absurd (of_decide_eq_true z) cc) (fun _ => ?_)
      exact ⟨_, rfl, _, rfl, (by show 2 ≤ sizeLine; exact sz2), fun t ht => fin c d _ _ H2 hc hd (by grind) p2 k2 t ht⟩
end
end Fc
set_option Elab.async false
set_option linter.all false
set_option maxRecDepth 100000
set_option maxHeartbeats 4000000
set_option exponentiation.threshold 100000
namespace Fc
open PySem PySem.Spec PyProof.Rows L2 L2H
section
variable {P : Program} {w : World} {K : PySem.W.Frag} {mg : Str → Option Value} {base : Heap} {A : Ad}
def spRHanded (A : Ad) : Sp := fun vs H Q _ => ∃ (p t : Addr) (x : Rat), vs = [.ref p, .ref t] ∧ PotAt H p ∧ PrV H 64 t x ∧
  ∀ u H', RatV A.C H' 64 u x → H u = none → PotAt H' p → Keep p H H' → Q (.ref u) H'
theorem ok_handed (T : Txt K mg A) : FnOk P w K mg base CX0 3 A.f_handed A.d_handed ["pot", "p"] (spRHanded A) := by
  refine T.F_handed.ok sc_handed (fun vs H Q E h => ?_) (fun cdv Ar outer s H vs Q E hr h => ?_)
  · obtain ⟨p, t, x, rfl, _⟩ := h
    rfl
  · obtain ⟨p, t, x, rfl, pot, ⟨q, ht, sq, vq⟩, k⟩ := h
    refine ⟨_, (C8.pss_cut (ps_set (i := 2) sc_handed.nd rfl (Or.inl rfl) (pe_op op_add pe_int (pe_call (ok_digit T) (hr.mono (by decide)) rfl T.g_digit T.F_digit.kp T.b_digit .nil pass0 (pa_cons (pv 0) (pa_cons pe_int pa_nil)))))
      (C8.pss_cut (ps_if (pt_cmpR op_eq (pe_call (ok_digit T) (hr.mono (by decide)) rfl T.g_digit T.F_digit.kp T.b_digit .nil pass0 (pa_cons (pv 0) (pa_cons pe_int pa_nil))) pe_int (nomark _))
      (pss_one (ps_set (i := 2) sc_handed.nd rfl (Or.inl rfl) (pe_un un_neg (pv 2)))) pss_nil)
      (pss_one (ps_ret (pe_make T.mkC (ok_init T) (hr.mono (by decide)) rfl T.g_Ratio T.b_init3 .nil passL (pa_cons (pe_op op_mulW (pe_ix ix_tup (pv 1) pe_int (fun _ _ => rfl)) (pv 2)) (pa_cons (pe_op op_mulW (pe_ix ix_tup (pv 1) pe_int (fun _ _ => rfl)) (pv 2)) pa_nil))))))), ?_⟩
    refine ⟨fun sl H' => ∃ m : Int, sl = [some (.ref p), some (.ref t), some (.int m)] ∧ 0 < m ∧ m ≤ 6 ∧ PotAt H' p ∧ Keep p H H', ?_, ?_⟩
    · exact ⟨_, rfl, p, 6, rfl, pot, by decide, bd_of (by decide), fun d0 H0 a0 b0 pot0 k0 => ⟨_, _, rfl, rfl, _, rfl, by omega, by omega, pot0, k0⟩⟩
    rintro sl H0 ⟨m, rfl, m0, m6, pot0, k0⟩
    refine ⟨fun sl H' => ∃ m : Int, sl = [some (.ref p), some (.ref t), some (.int m)] ∧ m ≠ 0 ∧ Bd 3 m ∧ PotAt H' p ∧ Keep p H H', ?_, ?_⟩
    · refine ⟨_, rfl, p, 2, rfl, pot0, by decide, bd_of (by decide), fun d1 H1 a1 b1 pot1 k1 => ?_⟩
      refine ⟨rfl, _, rfl, ite2 (fun _ => ?_) (fun _ => ?_)⟩
      · refine ⟨_, rfl, _, rfl, -m, rfl, by omega, ?_, pot1, k0.trans k1⟩
        show (-m).natAbs < 2 ^ 3
        omega
      · refine ⟨m, rfl, by omega, ?_, pot1, k0.trans k1⟩
        show m.natAbs < 2 ^ 3
        omega
    · clear pot0 k0 m0 m6 m
      rintro sl H' ⟨m, rfl, m0, bm, pt, kp⟩
      have hp : Pr H' t q := ht.keep pot kp
      refine ⟨_, rfl, _, _, _, _, rfl, rfl, SqT.of (hp), rfl, _, rfl, _, _, rfl, rfl, sq.t.w bm, _, rfl, _, _, _, _, rfl, rfl, SqT.of (hp), rfl, _, rfl, _, _, rfl, rfl, sq.b.w bm, ?_⟩
      have n0 : q.2 * m ≠ 0 := Int.mul_ne_zero sq.ne m0
      refine rd_make n0 ((sq.b.mul bm).mono (by decide)) fun u H2 ex nu r => ?_
      rw [lo_mul sq.ne m0] at r
      exact k u H2 (.lo r sq.t sq.b sq.ne vq) (kp.free pt nu) (pt.ex ex) (kp.trans (Keep.of ex))
def spIsRatio (A : Ad) : Sp := fun vs H Q _ => ∃ (t : Addr) (p : Int × Int), vs = [.ref t] ∧ RatAt A.C H t p ∧ 0 < p.2 ∧ Q (.bl true) H
theorem ok_isratio (T : Txt K mg A) : FnOk P w K mg base CX0 1 A.f_isratio A.d_isratio ["told"] (spIsRatio A) := by
  refine T.F_isratio.ok sc_isratio (fun vs H Q E h => ?_) (fun cdv Ar outer s H vs Q E hr h => ?_)
  · obtain ⟨t, p, rfl, _⟩ := h
    rfl
  · obtain ⟨t, p, rfl, ⟨dx, ht⟩, p0, k⟩ := h
    refine ⟨_, (pss_cons (ps_if (pt_not (pt_val (pe_callB call_isi (by rfl) T.n_isinstance (by decide +kernel) (pa_cons (pv 0) (pa_cons (pe_glob (v := .ref A.C) rfl T.g_Ratio rfl) pa_nil)))))
      (pss_one (ps_ret pe_bl)) pss_nil)
      (pss_cons (ps_if (PW.pt (pw_or (pt_not (pt_val (pe_callB call_isi (by rfl) T.n_isinstance (by decide +kernel) (pa_cons (pe_fld (pv 0) rfl) (pa_cons (pe_bltn (v := .ty "int") rfl T.n_int (by decide +kernel) rfl) pa_nil))))) (pw_or1 (pt_val (pe_callB call_isi (by rfl) T.n_isinstance (by decide +kernel) (pa_cons (pe_fld (pv 0) rfl) (pa_cons (pe_bltn (v := .ty "bool") rfl T.n_bool (by decide +kernel) rfl) pa_nil)))))))
      (pss_one (ps_ret pe_bl)) pss_nil)
      (pss_one (ps_ret (pe_and (pe_callB call_isi (by rfl) T.n_isinstance (by decide +kernel) (pa_cons (pe_fld (pv 0) rfl) (pa_cons (pe_bltn (v := .ty "int") rfl T.n_int (by decide +kernel) rfl) pa_nil))) (pe_and (pe_not (pe_callB call_isi (by rfl) T.n_isinstance (by decide +kernel) (pa_cons (pe_fld (pv 0) rfl) (pa_cons (pe_bltn (v := .ty "bool") rfl T.n_bool (by decide +kernel) rfl) pa_nil)))) (pe_one (pe_cmpR op_gt (pe_fld (pv 0) rfl) pe_int (nomark _))))))))), ?_⟩
    have ii : ∀ n : Int, TyX K H (.int n) (.type "int") := fun n => .base (.int n)
    refine ⟨_, rfl, .ref t, .ref A.C, .ref A.C, .ref A.C, true, rfl, .own _, .base (.ins ht T.cl T.ha T.hn T.htk T.hm), kit_self, _, rfl, iteF ?_⟩
    refine ⟨_, rfl, _, _, _, _, _, rfl, ht, T.cl, T.nT, rf_top _, _, .ty "int", _, _, true, rfl, .ty _, ii _, kit_ty (by decide +kernel), _, rfl, iteF ?_⟩
    refine ⟨_, rfl, _, _, _, _, _, rfl, ht, T.cl, T.nT, rf_top _, _, .ty "bool", _, _, false, rfl, .ty _, ii _, kit_ty (by decide +kernel), _, rfl, iteF ?_⟩
    refine ⟨_, rfl, _, _, _, _, _, rfl, ht, T.cl, T.nB, rf_bot _, _, .ty "int", _, _, true, rfl, .ty _, ii _, kit_ty (by decide +kernel), _, rfl, ?_⟩
    refine ⟨_, rfl, _, _, _, _, _, rfl, ht, T.cl, T.nB, rf_bot _, _, .ty "bool", _, _, false, rfl, .ty _, ii _, kit_ty (by decide +kernel), _, rfl, _, rfl, ?_⟩
    refine ⟨_, rfl, _, _, _, _, _, rfl, ht, T.cl, T.nB, rf_bot _, _, _, rfl, rfl, ?_⟩
    have e : decide (0 < p.2) = true := decide_eq_true p0
    show Q (V.bl (decide (0 < p.2))) H
    rw [e]
    exact k
theorem okH_isratio (T : Txt K mg A) : FnH P w K mg base CX0 1 A.f_isratio A.d_isratio ["told"] (spIsRatio A) := by
  refine fun_okH T.F_isratio sc_isratio (fun vs H Q E h => ?_) (fun cdv Ar outer s H vs Q E pp hr hc h => ?_)
  · obtain ⟨t, p, rfl, _⟩ := h
    rfl
  · obtain ⟨t, p, rfl, ⟨dx, ht⟩, p0, k⟩ := h
    refine ⟨_, (pss_cons (ps_if (pt_not (pt_val (pe_callB call_isi (by rfl) T.n_isinstance (by decide +kernel) (pa_cons (pv 0) (pa_cons (pe_glob (v := .ref A.C) rfl T.g_Ratio rfl) pa_nil)))))
      (pss_one (ps_ret pe_bl)) pss_nil)
      (pss_cons (ps_if (PW.pt (pw_or (pt_not (pt_val (pe_callB call_isi (by rfl) T.n_isinstance (by decide +kernel) (pa_cons (pe_fld (pv 0) rfl) (pa_cons (pe_bltn (v := .ty "int") rfl T.n_int (by decide +kernel) rfl) pa_nil))))) (pw_or1 (pt_val (pe_callB call_isi (by rfl) T.n_isinstance (by decide +kernel) (pa_cons (pe_fld (pv 0) rfl) (pa_cons (pe_bltn (v := .ty "bool") rfl T.n_bool (by decide +kernel) rfl) pa_nil)))))))
      (pss_one (ps_ret pe_bl)) pss_nil)
      (pss_one (ps_ret (pe_and (pe_callB call_isi (by rfl) T.n_isinstance (by decide +kernel) (pa_cons (pe_fld (pv 0) rfl) (pa_cons (pe_bltn (v := .ty "int") rfl T.n_int (by decide +kernel) rfl) pa_nil))) (pe_and (pe_not (pe_callB call_isi (by rfl) T.n_isinstance (by decide +kernel) (pa_cons (pe_fld (pv 0) rfl) (pa_cons (pe_bltn (v := .ty "bool") rfl T.n_bool (by decide +kernel) rfl) pa_nil)))) (pe_one (pe_cmpR op_gt (pe_fld (pv 0) rfl) pe_int (nomark _))))))))), ?_⟩
    have ii : ∀ n : Int, TyX K H (.int n) (.type "int") := fun n => .base (.int n)
    refine ⟨_, rfl, .ref t, .ref A.C, .ref A.C, .ref A.C, true, rfl, .own _, .base (.ins ht T.cl T.ha T.hn T.htk T.hm), kit_self, _, rfl, iteF ?_⟩
    refine ⟨_, rfl, _, _, _, _, _, rfl, ht, T.cl, T.nT, rf_top _, _, .ty "int", _, _, true, rfl, .ty _, ii _, kit_ty (by decide +kernel), _, rfl, iteF ?_⟩
    refine ⟨_, rfl, _, _, _, _, _, rfl, ht, T.cl, T.nT, rf_top _, _, .ty "bool", _, _, false, rfl, .ty _, ii _, kit_ty (by decide +kernel), _, rfl, iteF ?_⟩
    refine ⟨_, rfl, _, _, _, _, _, rfl, ht, T.cl, T.nB, rf_bot _, _, .ty "int", _, _, true, rfl, .ty _, ii _, kit_ty (by decide +kernel), _, rfl, ?_⟩
    refine ⟨_, rfl, _, _, _, _, _, rfl, ht, T.cl, T.nB, rf_bot _, _, .ty "bool", _, _, false, rfl, .ty _, ii _, kit_ty (by decide +kernel), _, rfl, _, rfl, ?_⟩
    refine ⟨_, rfl, _, _, _, _, _, rfl, ht, T.cl, T.nB, rf_bot _, _, _, rfl, rfl, ?_⟩
    have e : decide (0 < p.2) = true := decide_eq_true p0
    show Q (V.bl (decide (0 < p.2))) H
    rw [e]
    exact k
def spEquals (A : Ad) : Sp := fun vs H Q _ => ∃ (t a : Addr) (r : Rat), vs = [.ref t, .ref a] ∧ RatV A.C H 2001 t r ∧ PrV H 1000 a r ∧ Q (.bl true) H
theorem ok_equals (T : Txt K mg A) : FnOk P w K mg base CX0 2 A.f_equals A.d_equals ["told", "p"] (spEquals A) := by
  refine T.F_equals.ok sc_equals (fun vs H Q E h => ?_) (fun cdv Ar outer s H vs Q E hr h => ?_)
  · obtain ⟨t, a, r, rfl, _⟩ := h
    rfl
  · obtain ⟨t, a, r, rfl, ⟨tp, ⟨dx, ht⟩, st, ct, vt⟩, ⟨p, hp, sp, vp⟩, k⟩ := h
    refine ⟨_, (pss_one (ps_ret (pe_and (pe_call (ok_isratio T) (hr.mono (by decide)) rfl T.g_isratio T.F_isratio.kp T.b_isratio .nil pass0 (pa_cons (pv 0) pa_nil)) (pe_one (pe_cmpR op_eq (pe_op op_mulW (pe_fld (pv 0) rfl) (pe_ix ix_tup (pv 1) pe_int (fun _ _ => rfl))) (pe_op op_mulW (pe_ix ix_tup (pv 1) pe_int (fun _ _ => rfl)) (pe_fld (pv 0) rfl)) (nomark _)))))), ?_⟩
    refine ⟨_, rfl, t, tp, rfl, ⟨dx, ht⟩, st.pos, true, rfl, ?_⟩
    refine ⟨_, rfl, _, _, _, _, _, rfl, ht, T.cl, T.nT, rf_top _, _, rfl, _, _, _, _, rfl, rfl, SqT.of (hp), rfl, _, _, rfl, rfl, st.t.w sp.b, _, rfl, _, _, _, _, rfl, rfl, SqT.of (hp), rfl, _, rfl, _, _, _, _, _, rfl, ht, T.cl, T.nB, rf_bot _, _, _, rfl, rfl, sp.t.w st.b, rfl, ?_⟩
    have e : tp.1 * p.2 = p.1 * tp.2 := vl_eq st.pos sp.pos (vt.trans vp.symm)
    show Q (V.bl (decide (V.int (tp.1 * p.2) = V.int (p.1 * tp.2)))) H
    rw [decide_eq_true (by rw [e])]
    exact k
theorem okH_equals (T : Txt K mg A) : FnH P w K mg base CX0 2 A.f_equals A.d_equals ["told", "p"] (spEquals A) := by
  refine fun_okH T.F_equals sc_equals (fun vs H Q E h => ?_) (fun cdv Ar outer s H vs Q E pp hr hc h => ?_)
  · obtain ⟨t, a, r, rfl, _⟩ := h
    rfl
  · obtain ⟨t, a, r, rfl, ⟨tp, ⟨dx, ht⟩, st, ct, vt⟩, ⟨p, hp, sp, vp⟩, k⟩ := h
    refine ⟨_, (pss_one (ps_ret (pe_and (pe_callH (okH_isratio T) (hr.mono (by decide)) hc rfl T.g_isratio T.F_isratio.kp T.b_isratio passH (pa_cons (pv 0) pa_nil)) (pe_one (pe_cmpR op_eq (pe_op op_mulW (pe_fld (pv 0) rfl) (pe_ix ix_tup (pv 1) pe_int (fun _ _ => rfl))) (pe_op op_mulW (pe_ix ix_tup (pv 1) pe_int (fun _ _ => rfl)) (pe_fld (pv 0) rfl)) (nomark _)))))), ?_⟩
    refine ⟨_, rfl, t, tp, rfl, ⟨dx, ht⟩, st.pos, true, rfl, ?_⟩
    refine ⟨_, rfl, _, _, _, _, _, rfl, ht, T.cl, T.nT, rf_top _, _, rfl, _, _, _, _, rfl, rfl, SqT.of (hp), rfl, _, _, rfl, rfl, st.t.w sp.b, _, rfl, _, _, _, _, rfl, rfl, SqT.of (hp), rfl, _, rfl, _, _, _, _, _, rfl, ht, T.cl, T.nB, rf_bot _, _, _, rfl, rfl, sp.t.w st.b, rfl, ?_⟩
    have e : tp.1 * p.2 = p.1 * tp.2 := vl_eq st.pos sp.pos (vt.trans vp.symm)
    show Q (V.bl (decide (V.int (tp.1 * p.2) = V.int (p.1 * tp.2)))) H
    rw [decide_eq_true (by rw [e])]
    exact k
/-! ### the partner -/
def spPartner : Sp := fun vs H Q _ => ∃ (T n : Int), vs = [.int T, .int n] ∧ 1 < n ∧ Bd 199 n ∧ Int.gcd T n = 1 ∧ ∀ o : Int, T * o % n = 1 → 0 < o → o < n → Q (.int o) H
theorem ok_partner (T : Txt K mg A) : FnOk P w K mg base CX0 1 A.f_partner A.d_partner ["top", "n"] spPartner := by
  refine T.F_partner.ok sc_partner (fun vs H Q E h => ?_) (fun cdv Ar outer s H vs Q E hr h => ?_)
  · obtain ⟨t, n, rfl, _⟩ := h
    rfl
  · obtain ⟨t, n, rfl, n1, bn, g, k⟩ := h
    refine ⟨_, (pss_cons (ps_set (i := 2) sc_partner.nd rfl (Or.inl rfl) (pv 1))
      (C8.pss_cut (ps_set (i := 3) sc_partner.nd rfl (Or.inl rfl) (pe_op op_mod (pe_callTy call_int1 (by rfl) T.n_int (by decide +kernel) (pa_cons (pv 0) pa_nil)) (pv 1)))
      (pss_cons (ps_set (i := 4) sc_partner.nd rfl (Or.inl rfl) pe_int)
      (pss_cons (ps_set (i := 5) sc_partner.nd rfl (Or.inl rfl) pe_int)
      (pss_cons (ps_for PassesOwn.never rfl (pi_range1 rfl T.n_range (pa_cons pe_int pa_nil)) (pg_name (i := 6) sc_partner.nd rfl (Or.inl rfl))
      (pss_cons (ps_if (pt_cmpR op_eq (pv 3) pe_int (nomark _))
      (pss_one ps_break) pss_nil)
      (pss_cons (ps_set (i := 7) sc_partner.nd rfl (Or.inl rfl) (pe_op op_fdivW (pv 2) (pv 3)))
      (pss_cons (ps_set (i := 8) sc_partner.nd rfl (Or.inl rfl) (pe_op op_sub (pv 2) (pe_op op_mulW (pv 7) (pv 3))))
      (pss_cons (ps_set (i := 2) sc_partner.nd rfl (Or.inl rfl) (pv 3))
      (pss_cons (ps_set (i := 3) sc_partner.nd rfl (Or.inl rfl) (pv 8))
      (pss_cons (ps_set (i := 8) sc_partner.nd rfl (Or.inl rfl) (pe_op op_sub (pv 4) (pe_op op_mulW (pv 7) (pv 5))))
      (pss_cons (ps_set (i := 4) sc_partner.nd rfl (Or.inl rfl) (pv 5))
      (pss_one (ps_set (i := 5) sc_partner.nd rfl (Or.inl rfl) (pv 8)))))))))))
      (pss_one (ps_ret (pe_op op_mod (pe_callTy call_int1 (by rfl) T.n_int (by decide +kernel) (pa_cons (pv 4) pa_nil)) (pv 1))))))))), ?_⟩
    have n0 : 0 < n := by omega
    refine ⟨_, rfl, ?_⟩
    refine ⟨fun sl H' => sl = [some (.int t), some (.int n), some (.int n), some (.int (t % n)), none, none, none, none, none] ∧ H' = H, ?_, ?_⟩
    · exact ⟨_, rfl, .inl ⟨_, rfl, _, rfl, _, _, rfl, rfl, n0, rfl, rfl⟩⟩
    rintro sl H' ⟨rfl, rfl⟩
    have fin : ∀ u a b : Int, Bz n t u 0 a b → Nat.gcd u.natAbs 0 = 1 → ∀ Q' : VK, Q' = Q → Q' (.int (a % n)) H' := by
      intro u a b bz gu Q' e
      rw [e]
      have u1 : u = 1 := by have := bz.vu; rw [Nat.gcd_zero_right] at gu; omega
      obtain ⟨f1, f2, f3⟩ := partner_of n1 bz u1
      exact k _ f1 f2 f3
    refine ⟨300, rfl, by decide, by decide, for_range (lo := 0) (n := 300) (fun i sl H2 => H2 = H' ∧ ∃ (u v a b : Int) (v1 v2 v3 : Option V), sl = [some (.int t), some (.int n), some (.int u), some (.int v), some (.int a), some (.int b), v1, v2, v3] ∧ Bz n t u v a b ∧ Lu 1 (2 ^ 200) i u.natAbs v.natAbs) ?_ ?_ ?_⟩
    · refine ⟨rfl, n, t % n, 0, 1, none, none, none, rfl, Bz.start n0, ?_⟩
      have e : Nat.gcd n.natAbs (t % n).natAbs = 1 := by
        have h1 : Int.gcd n (t % n) = 1 := by
          have e1 : Int.gcd n (t % n + n * (t / n)) = Int.gcd n (t % n) := Int.gcd_add_mul_left_right n (t % n) (t / n)
          rw [Int.emod_add_mul_ediv] at e1
          rw [← e1, Int.gcd_comm]
          exact g
        exact h1
      have := Lu.start (a := n.natAbs) (b := (t % n).natAbs) (N := 2 ^ 200) (by
        have h1 := Int.emod_lt_of_pos t n0
        have h2 := Int.emod_nonneg t (by omega : n ≠ 0)
        have h3 : n.natAbs < 2 ^ 199 := bn
        have h4 : (2 : Nat) ^ 199 ≤ 2 ^ 200 := Nat.pow_le_pow_right (by decide) (by decide)
        omega)
      rw [e] at this
      exact this
    · rintro i sl H2 hi ⟨rfl, u, v, a, b, v1, v2, v3, rfl, bz, lu⟩
      refine ⟨_, rfl, rfl, _, rfl, ite2 (fun c => ?_) (fun c => ?_)⟩
      · have v0 : v = 0 := V.int.inj (of_decide_eq_true c)
        subst v0
        refine ⟨_, rfl, .inl ⟨_, rfl, _, rfl, _, _, rfl, rfl, n0, ?_⟩⟩
        exact fin u a b bz lu.gcd Q rfl
      · have v0 : v ≠ 0 := fun z => c (by rw [z] <;> rfl)
        have vp : 0 < v := by have := bz.v0; omega
        obtain ⟨bz2, q0, qn⟩ := bz.turn v0
        have bv : Bd 199 v := bd_nn bn bz.v0 (by have := bz.vu; have := bz.un; omega)
        have bq : Bd 199 (u / v) := bd_nn bn q0 qn
        have bb : Bd 199 b := bn.abs bz.b_le
        have lu2 := lu.turn (by omega : v.natAbs ≠ 0)
        have er : (u - u / v * v).natAbs = u.natAbs % v.natAbs := by
          have e := Int.emod_add_mul_ediv u v
          have e2 : u - u / v * v = u % v := by rw [Int.mul_comm]; omega
          rw [e2, Int.natAbs_emod_of_nonneg (by have := bz.vu; omega)]
        rw [← er] at lu2
        refine ⟨_, rfl, _, rfl, _, _, rfl, rfl, bv.div vp, _, rfl, _, rfl, _, rfl, _, _, rfl, rfl, bq.w bv, _, _, rfl, rfl, _, rfl, _, rfl, _, rfl, _, rfl, _, rfl, _, _, rfl, rfl, bq.w bb, _, _, rfl, rfl, _, rfl, _, rfl, rfl, v, u - u / v * v, b, a - u / v * b, _, _, _, rfl, bz2, lu2⟩
    · rintro sl H2 ⟨rfl, u, v, a, b, v1, v2, v3, rfl, bz, lu⟩
      have v0 := lu.done3 (Nat.le_refl _)
      have v0' : v = 0 := by omega
      subst v0'
      refine ⟨_, rfl, .inl ⟨_, rfl, _, rfl, _, _, rfl, rfl, n0, ?_⟩⟩
      exact fin u a b bz lu.gcd Q rfl
end
end Fc
set_option Elab.async false
set_option linter.all false
set_option maxRecDepth 100000
set_option maxHeartbeats 4000000
set_option exponentiation.threshold 100000
namespace Fc
open PySem PySem.Spec PyProof.Rows L2 L2H
section
variable {P : Program} {w : World} {K : PySem.W.Frag} {mg : Str → Option Value} {base : Heap} {A : Ad}
theorem bd_ediv {n : Nat} {a b : Int} (h : Bd n a) (b0 : 0 < b) : Bd n (a / b) := by
  refine h.abs ?_
  have e := Int.emod_add_mul_ediv a b
  have r0 := Int.emod_nonneg a (by omega : b ≠ 0)
  have r1 := Int.emod_lt_of_pos a b0
  rcases Int.le_total 0 a with z | z
  · have := Int.ediv_nonneg z (by omega : 0 ≤ b)
    have := Int.ediv_le_self b z
    omega
  · have h1 : a ≤ a / b := by
      refine Int.le_ediv_of_mul_le b0 ?_
      have := Int.mul_le_mul_of_nonpos_left (a := a) (b := b) (c := 1) z (by omega)
      omega
    have h2 : a / b ≤ 0 := by
      rcases Int.lt_or_le 0 (a / b) with q | q
      · have := Int.mul_pos b0 q
        omega
      · exact q
    omega
def spNoLesser : Sp := fun vs H Q _ => ∃ (l h : Addr) (p : Int × Int) (x y : Rat), vs = [.int p.2, .ref l, .ref h] ∧ PrV H 64 l x ∧ PrV H 64 h y ∧ Simp x y p ∧ p.2 ≤ 400 ∧ Q (.bl true) H
theorem ok_nolesser (T : Txt K mg A) : FnOk P w K mg base CX0 1 A.f_nolesser A.d_nolesser ["n", "low", "high"] spNoLesser := by
  refine T.F_nolesser.ok sc_nolesser (fun vs H Q E h => ?_) (fun cdv Ar outer s H vs Q E hr h => ?_)
  · obtain ⟨l, h, p, x, y, rfl, _⟩ := h
    rfl
  · obtain ⟨l, h, p, x, y, rfl, ⟨ql, hl, sl', vl1⟩, ⟨qh, hh, sh, vh⟩, si, le, k⟩ := h
    refine ⟨_, (pss_cons (ps_for PassesOwn.never rfl (pi_range2 rfl T.n_range (pa_cons pe_int (pa_cons (pv 0) pa_nil))) (pg_name (i := 3) sc_nolesser.nd rfl (Or.inl rfl))
      (pss_cons (ps_set (i := 4) sc_nolesser.nd rfl (Or.inl rfl) (pe_op op_fdivW (pe_op op_mulW (pe_ix ix_tup (pv 2) pe_int (fun _ _ => rfl)) (pv 3)) (pe_ix ix_tup (pv 2) pe_int (fun _ _ => rfl))))
      (pss_one (ps_if (pt_cmpR op_ge (pe_op op_mulW (pv 4) (pe_ix ix_tup (pv 1) pe_int (fun _ _ => rfl))) (pe_op op_mulW (pe_ix ix_tup (pv 1) pe_int (fun _ _ => rfl)) (pv 3)) (nomark _))
      (pss_one (ps_ret pe_bl)) pss_nil))))
      (pss_one (ps_ret pe_bl))), ?_⟩
    have p0 := si.pos
    refine ⟨_, rfl, 1, p.2, rfl, ⟨by decide, by decide, by omega, by omega⟩, for_range (lo := 1) (n := (p.2 - 1).toNat) (fun i sl H2 => H2 = H ∧ ∃ (v1 v2 : Option V), sl = [some (.int p.2), some (.ref l), some (.ref h), v1, v2]) ⟨rfl, _, _, rfl⟩ ?_ ?_⟩
    · rintro i sl H2 hi ⟨rfl, v1, v2, rfl⟩
      have i0 : (0 : Int) < 1 + (i : Int) := by omega
      have i1 : 1 + (i : Int) < p.2 := by omega
      have bi : Bd 10 (1 + (i : Int)) := by unfold Bd; omega
      have bb := sh.t.mul bi
      have bw := bd_ediv bb sh.pos
      refine ⟨_, rfl, _, _, _, _, rfl, rfl, SqT.of (hh), rfl, _, rfl, _, _, rfl, rfl, sh.t.w bi, _, rfl, _, _, _, _, rfl, rfl, SqT.of (hh), rfl, _, _, rfl, rfl, sh.b.div sh.pos, ?_⟩
      refine ⟨_, rfl, _, rfl, _, _, _, _, rfl, rfl, SqT.of (hl), rfl, _, _, rfl, rfl, bw.w sl'.b, _, rfl, _, _, _, _, rfl, rfl, SqT.of (hl), rfl, _, rfl, _, _, rfl, rfl, sl'.t.w bi, _, _, rfl, rfl, _, rfl, ite2 (fun c => ?_) (fun c => ⟨rfl, _, _, rfl⟩)⟩
      exfalso
      have c' : ql.1 * (1 + (i : Int)) ≤ qh.1 * (1 + (i : Int)) / qh.2 * ql.2 := of_decide_eq_true c
      have h1 : x ≤ vl (qh.1 * (1 + (i : Int)) / qh.2, 1 + (i : Int)) := by
        rw [← vl1]
        exact (vl_le (q := (qh.1 * (1 + (i : Int)) / qh.2, 1 + (i : Int))) sl'.pos i0).mpr c'
      have h2 : vl (qh.1 * (1 + (i : Int)) / qh.2, 1 + (i : Int)) ≤ y := by
        rw [← vh]
        exact (vl_le (p := (qh.1 * (1 + (i : Int)) / qh.2, 1 + (i : Int))) i0 sh.pos).mpr (Int.ediv_mul_le _ (by have := sh.pos; omega))
      have := (si.least (qh.1 * (1 + (i : Int)) / qh.2, 1 + (i : Int)) i0 h1 h2).1
      have t : p.2 ≤ 1 + (i : Int) := this
      omega
    · rintro sl H2 ⟨rfl, v1, v2, rfl⟩
      exact k
def spIsSimplest (A : Ad) : Sp := fun vs H Q _ => ∃ (t l h : Addr) (p : Int × Int) (x y : Rat), vs = [.ref t, .ref l, .ref h] ∧ RatAt A.C H t p ∧ Sm 199 p ∧ PrV H 64 l x ∧ PrV H 64 h y ∧ Simp x y p ∧ ∀ H', Ex H H' → Q (.bl true) H'
theorem one199 : Bd 199 (1 : Int) := bd_of (by decide +kernel)
theorem ok_issimplest (T : Txt K mg A) : FnOk P w K mg base CX0 3 A.f_issimplest A.d_issimplest ["told", "low", "high"] (spIsSimplest A) := by
  refine T.F_issimplest.ok sc_issimplest (fun vs H Q E h => ?_) (fun cdv Ar outer s H vs Q E hr h => ?_)
  · obtain ⟨t, l, h, p, x, y, rfl, _⟩ := h
    rfl
  · obtain ⟨t, l, h, p, x, y, rfl, ⟨dx, ht⟩, sp, hl, hh, si, k⟩ := h
    refine ⟨_, (pss_cons (ps_if (pt_not (pt_val (pe_call (ok_isratio T) (hr.mono (by decide)) rfl T.g_isratio T.F_isratio.kp T.b_isratio .nil pass0 (pa_cons (pv 0) pa_nil))))
      (pss_one (ps_ret pe_bl)) pss_nil)
      (pss_cons (ps_set (i := 3) sc_issimplest.nd rfl (Or.inl rfl) (pe_fld (pv 0) rfl))
      (pss_cons (ps_set (i := 4) sc_issimplest.nd rfl (Or.inl rfl) (pe_fld (pv 0) rfl))
      (C8.pss_cut (ps_if (PW.pt (pw_or (pt_val (pe_call (ok_below T) (hr.mono (by decide)) rfl T.g_below T.F_below.kp T.b_below .nil pass0 (pa_cons (pe_tup (pa_cons (pv 3) (pa_cons (pv 4) pa_nil))) (pa_cons (pv 1) pa_nil)))) (pw_or1 (pt_val (pe_call (ok_below T) (hr.mono (by decide)) rfl T.g_below T.F_below.kp T.b_below .nil pass0 (pa_cons (pv 2) (pa_cons (pe_tup (pa_cons (pv 3) (pa_cons (pv 4) pa_nil))) pa_nil)))))))
      (pss_one (ps_ret pe_bl)) pss_nil)
      (C8.pss_cut (ps_if (PW.pt (pw_and (pt_cmpR op_gt (pv 3) pe_int (nomark _)) (pw_and1 (pt_not (pt_val (pe_call (ok_below T) (hr.mono (by decide)) rfl T.g_below T.F_below.kp T.b_below .nil pass0 (pa_cons (pe_tup (pa_cons (pe_op op_sub (pv 3) pe_int) (pa_cons (pv 4) pa_nil))) (pa_cons (pv 1) pa_nil))))))))
      (pss_one (ps_ret pe_bl)) pss_nil)
      (C8.pss_cut (ps_if (PW.pt (pw_and (pt_cmpR op_lt (pv 3) pe_int (nomark _)) (pw_and1 (pt_not (pt_val (pe_call (ok_below T) (hr.mono (by decide)) rfl T.g_below T.F_below.kp T.b_below .nil pass0 (pa_cons (pv 2) (pa_cons (pe_tup (pa_cons (pe_op op_add (pv 3) pe_int) (pa_cons (pv 4) pa_nil))) pa_nil))))))))
      (pss_one (ps_ret pe_bl)) pss_nil)
      (C8.pss_cut (ps_if (pt_cmpR op_eq (pv 4) pe_int (nomark _))
      (pss_one (ps_ret pe_bl)) pss_nil)
      (C8.pss_cut (ps_if (PW.pt (pw_and (pt_cmpR op_le (pv 4) pe_int (nomark _)) (pw_and1 (pt_not (pt_val (pe_call (ok_nolesser T) (hr.mono (by decide)) rfl T.g_nolesser T.F_nolesser.kp T.b_nolesser .nil pass0 (pa_cons (pv 4) (pa_cons (pv 1) (pa_cons (pv 2) pa_nil)))))))))
      (pss_one (ps_ret pe_bl)) pss_nil)
      (C8.pss_cut (ps_set (i := 5) sc_issimplest.nd rfl (Or.inl rfl) (pe_call (ok_partner T) (hr.mono (by decide)) rfl T.g_partner T.F_partner.kp T.b_partner .nil pass0 (pa_cons (pv 3) (pa_cons (pv 4) pa_nil))))
      (pss_cons (ps_if (pt_cmpR op_ne (pe_op op_mod (pe_callTy call_int1 (by rfl) T.n_int (by decide +kernel) (pa_cons (pe_op op_mulW (pv 3) (pv 5)) pa_nil)) (pv 4)) pe_int (nomark _))
      (pss_one (ps_ret pe_bl)) pss_nil)
      (pss_cons (ps_set (i := 6) sc_issimplest.nd rfl (Or.inl rfl) (pe_tup (pa_cons (pe_op op_fdivW (pe_op op_sub (pe_op op_mulW (pv 3) (pv 5)) pe_int) (pv 4)) (pa_cons (pv 5) pa_nil))))
      (pss_cons (ps_set (i := 7) sc_issimplest.nd rfl (Or.inl rfl) (pe_tup (pa_cons (pe_op op_sub (pv 3) (pe_ix ix_tup (pv 6) pe_int (fun _ _ => rfl))) (pa_cons (pe_op op_sub (pv 4) (pv 5)) pa_nil))))
      (pss_one (ps_ret (pe_and (pe_call (ok_below T) (hr.mono (by decide)) rfl T.g_below T.F_below.kp T.b_below .nil pass0 (pa_cons (pv 6) (pa_cons (pv 1) pa_nil))) (pe_one (pe_call (ok_below T) (hr.mono (by decide)) rfl T.g_below T.F_below.kp T.b_below .nil pass0 (pa_cons (pv 2) (pa_cons (pv 7) pa_nil))))))))))))))))))), ?_⟩
    have s1000 : ∀ q : Int × Int, Sm 200 q → Sm 1000 q := fun q s => s.mono (by decide)
    have l1000 : ∀ {H'}, Ex H H' → PrV H' 1000 l x := fun e => (hl.ex e).mono (by decide)
    have h1000 : ∀ {H'}, Ex H H' → PrV H' 1000 h y := fun e => (hh.ex e).mono (by decide)
    have lo1 := si.lo
    have hi1 := si.hi
    refine ⟨_, rfl, t, p, rfl, ⟨dx, ht⟩, si.pos, _, rfl, iteF ?_⟩
    refine ⟨_, rfl, _, _, _, _, _, rfl, ht, T.cl, T.nT, rf_top _, _, rfl, _, _, _, _, _, rfl, ht, T.cl, T.nB, rf_bot _, ?_⟩
    -- within
    refine ⟨fun sl H' => sl = [some (.ref t), some (.ref l), some (.ref h), some (.int p.1), some (.int p.2), none, none, none] ∧ Ex H H', ?_, ?_⟩
    · refine ⟨_, rfl, _, rfl, (by show 2 ≤ sizeLine; exact sz2), fun u hu => ?_⟩
      have e1 : Ex H (upd H u (.tup [.int p.1, .int p.2])) := Ex.new hu
      have pu : PrV (upd H u (.tup [.int p.1, .int p.2])) 1000 u (vl p) := PrV.new p (sp.mono (by decide))
      generalize upd H u (.tup [.int p.1, .int p.2]) = H1 at e1 pu ⊢
      refine ⟨_, rfl, u, l, vl p, x, rfl, pu, l1000 e1, _, rfl, ?_⟩
      rw [decide_eq_false (by grind : ¬ vl p < x)]
      refine iteF ⟨_, rfl, _, rfl, _, rfl, (by show 2 ≤ sizeLine; exact sz2), fun u2 hu2 => ?_⟩
      have e2 : Ex H1 (upd H1 u2 (.tup [.int p.1, .int p.2])) := Ex.new hu2
      have pu2 : PrV (upd H1 u2 (.tup [.int p.1, .int p.2])) 1000 u2 (vl p) := PrV.new p (sp.mono (by decide))
      generalize upd H1 u2 (.tup [.int p.1, .int p.2]) = H2 at e2 pu2 ⊢
      have E2 := e1.trans e2
      refine ⟨h, u2, y, vl p, rfl, h1000 E2, pu2, _, rfl, ?_⟩
      rw [decide_eq_false (by grind : ¬ y < vl p)]
      exact iteF ⟨rfl, E2⟩
    rintro sl H1 ⟨rfl, e1⟩
    -- the next top towards 0
    refine ⟨fun sl H' => sl = [some (.ref t), some (.ref l), some (.ref h), some (.int p.1), some (.int p.2), none, none, none] ∧ Ex H H', ?_, ?_⟩
    · refine ⟨_, rfl, _, _, rfl, rfl, _, rfl, ?_⟩
      by_cases c : 0 < p.1
      · rw [decide_eq_true c]
        refine iteT ⟨_, rfl, _, _, rfl, rfl, _, rfl, (by show 2 ≤ sizeLine; exact sz2), fun u hu => ?_⟩
        have q1000 : Sm 1000 (p.1 - 1, p.2) := ⟨(sp.t.sub one199).mono (by decide), sp.b.mono (by decide), sp.pos⟩
        refine ⟨_, rfl, u, l, vl (p.1 - 1, p.2), x, rfl, PrV.new (p.1 - 1, p.2) q1000, (l1000 e1).ex (Ex.new hu), _, rfl, ?_⟩
        have lt : vl (p.1 - 1, p.2) < vl p := (vl_lt (p := (p.1 - 1, p.2)) sp.pos sp.pos).mpr (Int.mul_lt_mul_of_pos_right (by show p.1 - 1 < p.1; omega) sp.pos)
        have gt : vl (p.1 - 1, p.2) < x := by
          rcases (Rat.le_total (a := x) (b := vl (p.1 - 1, p.2))) with z | z
          · have := (si.least (p.1 - 1, p.2) sp.pos z (by grind)).2.1 c
            have t1 : p.1 ≤ p.1 - 1 := this
            omega
          · by_cases e : vl (p.1 - 1, p.2) = x
            · have := (si.least (p.1 - 1, p.2) sp.pos (by grind) (by grind)).2.1 c
              have t1 : p.1 ≤ p.1 - 1 := this
              omega
            · grind
        rw [decide_eq_true gt]
        exact iteF ⟨rfl, e1.to hu⟩
      · rw [decide_eq_false c]
        exact iteF (iteF ⟨rfl, e1⟩)
    rintro sl H2 ⟨rfl, e2⟩
    refine ⟨fun sl H' => sl = [some (.ref t), some (.ref l), some (.ref h), some (.int p.1), some (.int p.2), none, none, none] ∧ Ex H H', ?_, ?_⟩
    · refine ⟨_, rfl, _, _, rfl, rfl, _, rfl, ?_⟩
      by_cases c : p.1 < 0
      · rw [decide_eq_true c]
        refine iteT ⟨_, rfl, _, rfl, _, _, rfl, rfl, _, rfl, (by show 2 ≤ sizeLine; exact sz2), fun u hu => ?_⟩
        have q1000 : Sm 1000 (p.1 + 1, p.2) := ⟨(sp.t.add one199).mono (by decide), sp.b.mono (by decide), sp.pos⟩
        refine ⟨h, u, y, vl (p.1 + 1, p.2), rfl, (h1000 e2).ex (Ex.new hu), PrV.new (p.1 + 1, p.2) q1000, _, rfl, ?_⟩
        have lt : vl p < vl (p.1 + 1, p.2) := (vl_lt (q := (p.1 + 1, p.2)) sp.pos sp.pos).mpr (Int.mul_lt_mul_of_pos_right (by show p.1 < p.1 + 1; omega) sp.pos)
        have gt : y < vl (p.1 + 1, p.2) := by
          by_cases e : vl (p.1 + 1, p.2) ≤ y
          · have := (si.least (p.1 + 1, p.2) sp.pos (by grind) e).2.2 c
            have t1 : p.1 + 1 ≤ p.1 := this
            omega
          · grind
        rw [decide_eq_true gt]
        exact iteF ⟨rfl, e2.to hu⟩
      · rw [decide_eq_false c]
        exact iteF (iteF ⟨rfl, e2⟩)
    rintro sl H3 ⟨rfl, e3⟩
    refine ⟨fun sl H' => sl = [some (.ref t), some (.ref l), some (.ref h), some (.int p.1), some (.int p.2), none, none, none] ∧ Ex H H' ∧ 1 < p.2, ?_, ?_⟩
    · refine ⟨_, rfl, rfl, _, rfl, ite2 (fun _ => k H3 e3) (fun c => ⟨rfl, e3, ?_⟩)⟩
      have n1 : p.2 ≠ 1 := fun z => c (by rw [z] <;> rfl)
      have := sp.pos
      omega
    rintro sl H4 ⟨rfl, e4, n1⟩
    refine ⟨fun sl H' => sl = [some (.ref t), some (.ref l), some (.ref h), some (.int p.1), some (.int p.2), none, none, none] ∧ Ex H H', ?_, ?_⟩
    · refine ⟨_, rfl, _, _, rfl, rfl, _, rfl, ?_⟩
      by_cases c : p.2 ≤ 400
      · rw [decide_eq_true c]
        exact iteT ⟨_, rfl, _, rfl, _, rfl, l, h, p, x, y, rfl, hl.ex e4, hh.ex e4, si, c, _, rfl, iteF ⟨rfl, e4⟩⟩
      · rw [decide_eq_false c]
        exact iteF (iteF ⟨rfl, e4⟩)
    rintro sl H5 ⟨rfl, e5⟩
    refine ⟨fun sl H' => ∃ o : Int, sl = [some (.ref t), some (.ref l), some (.ref h), some (.int p.1), some (.int p.2), some (.int o), none, none] ∧ Ex H H' ∧ p.1 * o % p.2 = 1 ∧ 0 < o ∧ o < p.2, ?_, ?_⟩
    · exact ⟨_, rfl, _, rfl, p.1, p.2, rfl, n1, sp.b, si.cop, fun o q1 q2 q3 => ⟨o, rfl, e5, q1, q2, q3⟩⟩
    rintro sl H6 ⟨o, rfl, e6, o1, o2, o3⟩
    have bo : Bd 199 o := bd_nn sp.b (by omega) (by omega)
    refine ⟨_, rfl, _, rfl, _, _, rfl, rfl, sp.t.w bo, .inl ⟨_, rfl, _, rfl, _, _, rfl, rfl, sp.pos, rfl, _, rfl, iteNS (congrArg V.int o1) ?_⟩⟩
    obtain ⟨nl, nr⟩ := si.near o1 o2 o3 rfl
    have bt := (sp.t.mul bo).sub (show Bd 398 (1 : Int) from bd_of (by decide +kernel))
    have bL : Bd 399 ((p.1 * o - 1) / p.2) := bd_ediv bt sp.pos
    refine ⟨_, rfl, _, rfl, _, _, rfl, rfl, sp.t.w bo, _, _, rfl, rfl, _, rfl, _, _, rfl, rfl, sp.b.div sp.pos, _, rfl, (by show 2 ≤ sizeLine; exact sz2), fun u hu => ?_⟩
    have f1 : Ex H6 (upd H6 u (.tup [.int ((p.1 * o - 1) / p.2), .int o])) := Ex.new hu
    have hu1 : upd H6 u (.tup [.int ((p.1 * o - 1) / p.2), .int o]) u = some (.tup [.int ((p.1 * o - 1) / p.2), .int o]) := upd_same
    generalize upd H6 u (.tup [.int ((p.1 * o - 1) / p.2), .int o]) = H7 at f1 hu1 ⊢
    refine ⟨_, rfl, _, rfl, _, _, _, _, rfl, rfl, SqT.of (hu1), rfl, _, _, rfl, rfl, _, rfl, _, rfl, _, _, rfl, rfl, (by show 2 ≤ sizeLine; exact sz2), fun v hv => ?_⟩
    have f2 : Ex H7 (upd H7 v (.tup [.int (p.1 - (p.1 * o - 1) / p.2), .int (p.2 - o)])) := Ex.new hv
    have hv1 : upd H7 v (.tup [.int (p.1 - (p.1 * o - 1) / p.2), .int (p.2 - o)]) v = some (.tup [.int (p.1 - (p.1 * o - 1) / p.2), .int (p.2 - o)]) := upd_same
    generalize upd H7 v (.tup [.int (p.1 - (p.1 * o - 1) / p.2), .int (p.2 - o)]) = H8 at f2 hv1 ⊢
    have E8 := (e6.trans f1).trans f2
    have sL : Sm 1000 ((p.1 * o - 1) / p.2, o) := ⟨bL.mono (by decide), bo.mono (by decide), o2⟩
    have sR : Sm 1000 (p.1 - (p.1 * o - 1) / p.2, p.2 - o) := ⟨((sp.t.mono (by decide) : Bd 399 p.1).sub bL).mono (by decide), (sp.b.sub bo).mono (by decide), by show 0 < p.2 - o; omega⟩
    refine ⟨_, rfl, _, rfl, u, l, _, x, rfl, ⟨((p.1 * o - 1) / p.2, o), f2 _ _ hu1, sL, rfl⟩, l1000 E8, ?_⟩
    rw [decide_eq_true nl]
    refine ⟨_, rfl, _, rfl, _, rfl, h, v, y, _, rfl, h1000 E8, ⟨(p.1 - (p.1 * o - 1) / p.2, p.2 - o), hv1, sR, rfl⟩, ?_⟩
    rw [decide_eq_true nr]
    exact k H8 E8
/-! ### the ends exchanged -/
/-- the suite of a Crossed -/
def t_cr (K : PySem.W.Frag) (A : Ad) : Addr → Value → Option Addr → TS := fun a cls d =>
  tSeq (tIfS (tOr (tNot (tB (tCB (rIsX K cls d a) (tCons (tVar 4) (tCons (tC (.ref A.Cr)) tNil))))) (tOr (tNot (tB (tCB (rIsX K cls d a) (tCons (tVar 4) (tCons (tC (.ty "ValueError")) tNil))))) (tB (tCB (rIsX K cls d a) (tCons (tVar 4) (tCons (tC (.ref A.O)) tNil))))))
      (tRet (tC (.bl false))) tNext)
    (tRet (tAndV (tCallS (spEquals A) (fun _ => E0) (tCons (tXf a cls d A.Cr "low" (tVar 4)) (tCons (tVar 2) tNil))) (tCallS (spEquals A) (fun _ => E0) (tCons (tXf a cls d A.Cr "high" (tVar 4)) (tCons (tVar 3) tNil)))))
def spLCrossed (A : Ad) : Sp := fun vs H Q _ => ∃ (f s a b : Addr) (x y : Rat), vs = [.ref f, .ref s, .ref a, .ref b] ∧ RatV A.C H 200 f x ∧ RatV A.C H 200 s y ∧ PrV H 64 a x ∧ PrV H 64 b y ∧ y < x ∧ ∀ H', Ex H H' → Q (.bl true) H'
theorem ok_crossed (T : Txt K mg A) : FnOk P w K mg base CX0 7 A.f_crossed A.d_crossed ["first", "second", "p", "q"] (spLCrossed A) := by
  refine T.F_crossed.ok sc_crossed (fun vs H Q E h => ?_) (fun cdv Ar outer s H vs Q E hr h => ?_)
  · obtain ⟨f, s, a, b, x, y, rfl, _⟩ := h
    rfl
  · obtain ⟨f, s, a, b, x, y, rfl, hf, hs, ha, hb, lt, k⟩ := h
    refine ⟨_, (pss_cons (L2N.ps_try_as (i := 4) (tb := fun W => tDrop (tCallS (spSimplest A) (WE W) (tCons (tVar 0) (tCons (tVar 1) tNil)))) (ts := t_cr K A) (Wout := fun _ _ _ _ => False) rfl rfl sc_crossed.nd rfl rfl ⟨rfl, by decide, Or.inl T.g_CE⟩ takes0N (fun W pn xe tk _ => pss_one (ps_expr (pe_callS (ok_simplest T) (hr.mono (by decide)) rfl T.g_simplest T.F_simplest.kp T.b_simplest (fun sl => L2N.passAt tk sl) (pa_cons (pv 0) (pa_cons (pv 1) pa_nil))))) (fun a oe cls d pn hz hf => pss_cons (ps_if (PW.pt (pw_or (pt_not (pt_val (pe_callB (call_isX hz.zc hf) (by rfl) T.n_isinstance (by decide +kernel) (pa_cons (pv 4) (pa_cons (pe_glob (v := .ref A.Cr) rfl T.g_Cr rfl) pa_nil))))) (pw_or (pt_not (pt_val (pe_callB (call_isX hz.zc hf) (by rfl) T.n_isinstance (by decide +kernel) (pa_cons (pv 4) (pa_cons (pe_bltn (v := .ty "ValueError") rfl T.n_ValueError (by decide +kernel) rfl) pa_nil))))) (pw_or1 (pt_val (pe_callB (call_isX hz.zc hf) (by rfl) T.n_isinstance (by decide +kernel) (pa_cons (pv 4) (pa_cons (pe_glob (v := .ref A.O) rfl T.g_O rfl) pa_nil)))))))) (pss_one (ps_ret pe_bl)) pss_nil) (pss_one (ps_ret (pe_and (pe_callH (okH_equals T) (roomH_mark (hr.mono (by decide)) _) (hot_suite hz hf) rfl T.g_equals T.F_equals.kp T.b_equals passH (pa_cons (pe_xf T.xf_Cr T.n_Cr_low hz.zc hf (pv 4)) (pa_cons (pv 2) pa_nil))) (pe_one (pe_callH (okH_equals T) (roomH_mark (hr.mono (by decide)) _) (hot_suite hz hf) rfl T.g_equals T.F_equals.kp T.b_equals passH (pa_cons (pe_xf T.xf_Cr T.n_Cr_high hz.zc hf (pv 4)) (pa_cons (pv 3) pa_nil)))))))))
      (pss_one (ps_ret pe_bl))), ?_⟩
    refine ⟨_, rfl, _, rfl, f, s, x, y, rfl, hf, hs, fun _ d H' ex hd => ⟨true, T.e_Cr, fun _ z nz => ?_, fun z => Bool.noConfusion z⟩, fun n => absurd lt (by grind)⟩
    have nd3 : ∀ dd : Addr, some d = some dd → ∃ fs, H' dd = some (.xd fs) := fun dd e => by cases e; exact ⟨_, hd⟩
    refine ⟨_, rfl, A.Cr, .ref A.Cr, .ref A.Cr, true, rfl, T.X_Cr, nd3, rfl, fun u e => e, kit_self, _, rfl, iteF ?_⟩
    refine ⟨_, rfl, A.Cr, .ty "ValueError", _, true, rfl, T.X_Cr, nd3, rfl, fun u e => e, T.v_Cr, _, rfl, iteF ?_⟩
    refine ⟨_, rfl, A.Cr, .ref A.O, _, false, rfl, T.X_Cr, nd3, rfl, fun u e => e, T.crNo, _, rfl, iteF ?_⟩
    refine ⟨_, rfl, rfl, rfl, d, _, _, rfl, hd, crf_low f s, _, rfl, f, a, x, rfl, (hf.ex ex).mono (by decide), (ha.ex ex).mono (by decide), true, rfl, ?_⟩
    exact ⟨_, rfl, rfl, rfl, d, _, _, rfl, hd, crf_high f s, _, rfl, s, b, y, rfl, (hs.ex ex).mono (by decide), (hb.ex ex).mono (by decide), k H' ex⟩
end
end Fc
set_option Elab.async false
set_option linter.all false
set_option maxRecDepth 100000
set_option maxHeartbeats 4000000
set_option exponentiation.threshold 100000
namespace Fc
open PySem PySem.Spec PyProof.Rows L2 L2H
section
variable {P : Program} {w : World} {K : PySem.W.Frag} {mg : Str → Option Value} {base : Heap} {A : Ad}
theorem RatV.keepP {C : Addr} {H H' : Hp} {n : Nat} {a p : Addr} {r : Rat} (h : RatV C H n a r) (pt : PotAt H p) (k : Keep p H H') : RatV C H' n a r := by
  obtain ⟨q, ⟨dx, z⟩, y⟩ := h
  refine ⟨q, ⟨dx, k _ _ z ?_⟩, y⟩
  obtain ⟨l, cs, i, c, ne, h1, h2, _⟩ := pt
  exact ne_of z h1 (by intro z; cases z)
theorem ok_law (T : Txt K mg A) : FnOk P w K mg base CX0 9 A.f_law A.d_law ["script"] (spLaw K) := by
  refine T.F_law.ok sc_law (fun vs H Q E h => ?_) (fun cdv Ar outer s H vs Q E hr h => ?_)
  · obtain ⟨a, ns, rfl, _⟩ := h
    rfl
  · obtain ⟨a0, ns, rfl, hS, hlen, k⟩ := h
    refine ⟨_, (pss_cons (ps_set (i := 1) sc_law.nd rfl (Or.inl rfl) (pe_call (ok_start T) (hr.mono (by decide)) rfl T.g_start T.F_start.kp T.b_start .nil pass0 (pa_cons (pv 0) pa_nil)))
      (C8.pss_cut (ps_set (i := 2) sc_law.nd rfl (Or.inl rfl) (pe_call (ok_span T) (hr.mono (by decide)) rfl T.g_span T.F_span.kp T.b_span .nil pass0 (pa_cons (pv 1) pa_nil)))
      (pss_cons (ps_set (i := 3) sc_law.nd rfl (Or.inl rfl) (pe_ix ix_tup (pv 2) pe_int (fun _ _ => rfl)))
      (pss_cons (ps_set (i := 4) sc_law.nd rfl (Or.inl rfl) (pe_ix ix_tup (pv 2) pe_int (fun _ _ => rfl)))
      (C8.pss_cut (ps_set (i := 5) sc_law.nd rfl (Or.inl rfl) (pe_call (ok_handed T) (hr.mono (by decide)) rfl T.g_handed T.F_handed.kp T.b_handed .nil pass0 (pa_cons (pv 1) (pa_cons (pv 3) pa_nil))))
      (C8.pss_cut (ps_set (i := 6) sc_law.nd rfl (Or.inl rfl) (pe_call (ok_handed T) (hr.mono (by decide)) rfl T.g_handed T.F_handed.kp T.b_handed .nil pass0 (pa_cons (pv 1) (pa_cons (pv 4) pa_nil))))
      (C8.pss_cut (ps_set (i := 7) sc_law.nd rfl (Or.inl rfl) (pe_call (ok_simplest T) (hr.mono (by decide)) rfl T.g_simplest T.F_simplest.kp T.b_simplest .nil passLN (pa_cons (pv 5) (pa_cons (pv 6) pa_nil))))
      (C8.pss_cut (ps_if (pt_not (pt_val (pe_call (ok_issimplest T) (hr.mono (by decide)) rfl T.g_issimplest T.F_issimplest.kp T.b_issimplest .nil pass0 (pa_cons (pv 7) (pa_cons (pv 3) (pa_cons (pv 4) pa_nil))))))
      (pss_one (ps_ret pe_bl)) pss_nil)
      (C8.pss_cut (ps_if (PW.pt (pw_and (pt_val (pe_call (ok_below T) (hr.mono (by decide)) rfl T.g_below T.F_below.kp T.b_below .nil pass0 (pa_cons (pv 3) (pa_cons (pv 4) pa_nil)))) (pw_and1 (pt_not (pt_val (pe_call (ok_crossed T) (hr.mono (by decide)) rfl T.g_crossed T.F_crossed.kp T.b_crossed .nil pass0 (pa_cons (pv 6) (pa_cons (pv 5) (pa_cons (pv 4) (pa_cons (pv 3) pa_nil))))))))))
      (pss_one (ps_ret pe_bl)) pss_nil)
      (pss_cons (ps_set (i := 8) sc_law.nd rfl (Or.inl rfl) (pe_call (ok_simplest T) (hr.mono (by decide)) rfl T.g_simplest T.F_simplest.kp T.b_simplest .nil passLN (pa_cons (pv 5) (pa_cons (pv 6) pa_nil))))
      (pss_cons (ps_if (PW.pt (pw_or (pt_not (pt_val (pe_call (ok_isratio T) (hr.mono (by decide)) rfl T.g_isratio T.F_isratio.kp T.b_isratio .nil pass0 (pa_cons (pv 8) pa_nil)))) (pw_or (pt_cmpR op_ne (pe_fld (pv 8) rfl) (pe_fld (pv 7) rfl) (nomark _)) (pw_or1 (pt_cmpR op_ne (pe_fld (pv 8) rfl) (pe_fld (pv 7) rfl) (nomark _))))))
      (pss_one (ps_ret pe_bl)) pss_nil)
      (pss_one (ps_ret (pe_and (pe_call (ok_equals T) (hr.mono (by decide)) rfl T.g_equals T.F_equals.kp T.b_equals .nil pass0 (pa_cons (pv 5) (pa_cons (pv 3) pa_nil))) (pe_one (pe_call (ok_equals T) (hr.mono (by decide)) rfl T.g_equals T.F_equals.kp T.b_equals .nil pass0 (pa_cons (pv 6) (pa_cons (pv 4) pa_nil)))))))))))))))))), ?_⟩
    refine ⟨_, rfl, a0, ns, rfl, hS, hlen, fun pt H1 p1 e1 n1 => ?_⟩
    refine ⟨fun sl H' => ∃ en x y, sl = [some (.ref a0), some (.ref pt), some (.ref en), none, none, none, none, none, none] ∧ PotAt H' pt ∧ EnV H' 64 en x y ∧ x ≤ y, ?_, ?_⟩
    · exact ⟨_, rfl, pt, rfl, p1, fun s x1 y1 H2 es le p2 k2 => ⟨s, x1, y1, rfl, p2, es, le⟩⟩
    clear p1
    rintro sl H2 ⟨en, x, y, rfl, p2, ⟨l, h, hen, hl, hh⟩, le⟩
    refine ⟨_, rfl, _, _, _, _, rfl, rfl, SqT.of (hen), rfl, _, rfl, _, _, _, _, rfl, rfl, SqT.of (hen), rfl, ?_⟩
    refine ⟨fun sl H' => ∃ f, sl = [some (.ref a0), some (.ref pt), some (.ref en), some (.ref l), some (.ref h), some (.ref f), none, none, none] ∧ PotAt H' pt ∧ PrV H' 64 l x ∧ PrV H' 64 h y ∧ RatV A.C H' 64 f x, ?_, ?_⟩
    · exact ⟨_, rfl, _, rfl, pt, l, x, rfl, p2, hl, fun u H3 ru nu p3 k3 => ⟨u, rfl, p3, hl.keep p2 k3, hh.keep p2 k3, ru⟩⟩
    clear p2 hl hh hen
    rintro sl H3 ⟨f, rfl, p3, hl, hh, hf⟩
    refine ⟨fun sl H' => ∃ s, sl = [some (.ref a0), some (.ref pt), some (.ref en), some (.ref l), some (.ref h), some (.ref f), some (.ref s), none, none] ∧ PrV H' 64 l x ∧ PrV H' 64 h y ∧ RatV A.C H' 64 f x ∧ RatV A.C H' 64 s y, ?_, ?_⟩
    · exact ⟨_, rfl, _, rfl, pt, h, y, rfl, p3, hh, fun u H4 ru nu p4 k4 => ⟨u, rfl, hl.keep p3 k4, hh.keep p3 k4, hf.keepP p3 k4, ru⟩⟩
    clear p3 hl hh hf
    rintro sl H4 ⟨s, rfl, hl, hh, hf, hs⟩
    have bnd : ∀ {H' : Hp} {r : Int × Int}, PrV H' 64 l x → PrV H' 64 h y → Simp x y r → Sm 220 r → Sm 199 r := by
      intro H' r ⟨pl, _, sl', vl1⟩ ⟨ph, _, sh, vh⟩ si sr
      have b1 := (si.least pl sl'.pos (by grind) (by grind)).1
      have b2 := si.least ph sh.pos (by grind) (by grind)
      have b3 := si.least pl sl'.pos (by grind) (by grind)
      refine ⟨?_, bd_nn (sl'.b.mono (by decide)) (by have := si.pos; omega) b1, si.pos⟩
      rcases Int.lt_trichotomy r.1 0 with z | z | z
      · exact (sh.t.mono (by decide) : Bd 199 ph.1).abs (by have := b2.2.2 z; omega)
      · rw [z]; exact bd_of (by decide +kernel)
      · exact (sl'.t.mono (by decide) : Bd 199 pl.1).abs (by have := b3.2.1 z; omega)
    refine ⟨fun sl H' => ∃ c r, sl = [some (.ref a0), some (.ref pt), some (.ref en), some (.ref l), some (.ref h), some (.ref f), some (.ref s), some (.ref c), none] ∧ PrV H' 64 l x ∧ PrV H' 64 h y ∧ RatV A.C H' 64 f x ∧ RatV A.C H' 64 s y ∧ RatAt A.C H' c r ∧ Sm 199 r ∧ Simp x y r, ?_, ?_⟩
    · exact ⟨_, rfl, _, rfl, f, s, x, y, rfl, hf.mono (by decide), hs.mono (by decide), fun z => absurd le (by grind), fun _ c r H5 e5 nc hc sr si => ⟨c, r, rfl, hl.ex e5, hh.ex e5, hf.ex e5, hs.ex e5, hc, bnd hl hh si sr, si⟩⟩
    clear hl hh hf hs
    rintro sl H5 ⟨c, r, rfl, hl, hh, hf, hs, hc, sr, si⟩
    refine ⟨fun sl H' => sl = [some (.ref a0), some (.ref pt), some (.ref en), some (.ref l), some (.ref h), some (.ref f), some (.ref s), some (.ref c), none] ∧ Ex H5 H', ?_, ?_⟩
    · exact ⟨_, rfl, _, rfl, _, rfl, c, l, h, r, x, y, rfl, hc, sr, hl, hh, si, fun H6 e6 => ⟨_, rfl, iteF ⟨rfl, e6⟩⟩⟩
    rintro sl H6 ⟨rfl, e6⟩
    replace hl := hl.ex e6
    replace hh := hh.ex e6
    replace hf := hf.ex e6
    replace hs := hs.ex e6
    replace hc := hc.ex e6
    clear e6
    refine ⟨fun sl H' => sl = [some (.ref a0), some (.ref pt), some (.ref en), some (.ref l), some (.ref h), some (.ref f), some (.ref s), some (.ref c), none] ∧ Ex H6 H', ?_, ?_⟩
    · refine ⟨_, rfl, _, rfl, l, h, x, y, rfl, hl.mono (by decide), hh.mono (by decide), _, rfl, ?_⟩
      by_cases cc : x < y
      · rw [decide_eq_true cc]
        exact iteT ⟨_, rfl, _, rfl, _, rfl, _, rfl, s, f, h, l, y, x, rfl, hs.mono (by decide), hf.mono (by decide), hh, hl, cc, fun H7 e7 => ⟨_, rfl, iteF ⟨rfl, e7⟩⟩⟩
      · rw [decide_eq_false cc]
        exact iteF (iteF ⟨rfl, fun _ _ e => e⟩)
    rintro sl H7 ⟨rfl, e7⟩
    replace hl := hl.ex e7
    replace hh := hh.ex e7
    replace hf := hf.ex e7
    replace hs := hs.ex e7
    replace hc := hc.ex e7
    clear e7
    refine ⟨_, rfl, _, rfl, f, s, x, y, rfl, hf.mono (by decide), hs.mono (by decide), fun z => absurd le (by grind), fun _ d r2 H8 e8 nd hd sr2 si2 => ?_⟩
    have same : r2 = r := by
      have h1 := (si.least r2 si2.pos si2.lo si2.hi)
      have h2 := (si2.least r si.pos si.lo si.hi)
      have b : r2.2 = r.2 := by omega
      have t : r2.1 = r.1 := by
        rcases Int.lt_trichotomy r.1 0 with z | z | z
        · have a1 := h1.2.2 z
          have a2 := h2.2.2 (by omega)
          omega
        · rcases Int.lt_trichotomy r2.1 0 with z2 | z2 | z2
          · have := h2.2.2 z2; omega
          · omega
          · have := h2.2.1 z2; omega
        · have a1 := h1.2.1 z
          have a2 := h2.2.1 (by omega)
          omega
      exact Prod.ext t b
    subst same
    replace hl := hl.ex e8
    replace hh := hh.ex e8
    replace hf := hf.ex e8
    replace hs := hs.ex e8
    obtain ⟨dc, hc8⟩ := hc.ex e8
    obtain ⟨dd, hd8⟩ := id hd
    refine ⟨_, rfl, d, r2, rfl, hd, si.pos, _, rfl, iteF ?_⟩
    refine ⟨_, rfl, _, _, _, _, _, rfl, hd8, T.cl, T.nT, rf_top _, _, rfl, _, _, _, _, _, rfl, hc8, T.cl, T.nT, rf_top _, rfl, _, rfl, iteNS rfl ?_⟩
    refine ⟨_, rfl, _, _, _, _, _, rfl, hd8, T.cl, T.nB, rf_bot _, _, rfl, _, _, _, _, _, rfl, hc8, T.cl, T.nB, rf_bot _, rfl, _, rfl, iteNS rfl ?_⟩
    refine ⟨_, rfl, _, rfl, f, l, x, rfl, hf.mono (by decide), hl.mono (by decide), true, rfl, ?_⟩
    exact ⟨_, rfl, _, rfl, s, h, y, rfl, hs.mono (by decide), hh.mono (by decide), k _⟩
end
end Fc
set_option Elab.async false
set_option linter.all false
set_option maxRecDepth 100000
set_option maxHeartbeats 4000000
namespace Fc
open PySem PySem.Spec PyProof.Rows L2
theorem all_mk {l : PySem.W.OpenLaw} {w : World} {K : PySem.W.Frag} {h : Heap} {mg : Str → Option Value} {fa : Addr} (X : K.In h) (G : h.Ns mainGlobals mg) (hfa : mg "law" = some (.ref fa))
    {f_cross : Addr} {oc_cross kV_cross dc_cross pm_cross cd_cross ct_cross : Value} {od_cross an_cross : Option Addr} {sl_cross : Array (Option Value)}
    {f_neg : Addr} {oc_neg kV_neg dc_neg pm_neg cd_neg ct_neg : Value} {od_neg an_neg : Option Addr} {sl_neg : Array (Option Value)}
    {f_compare : Addr} {oc_compare kV_compare dc_compare pm_compare cd_compare ct_compare : Value} {od_compare an_compare : Option Addr} {sl_compare : Array (Option Value)}
    {f_sign : Addr} {oc_sign kV_sign dc_sign pm_sign cd_sign ct_sign : Value} {od_sign an_sign : Option Addr} {sl_sign : Array (Option Value)}
    {f_simplest : Addr} {oc_simplest kV_simplest dc_simplest pm_simplest cd_simplest ct_simplest : Value} {od_simplest an_simplest : Option Addr} {sl_simplest : Array (Option Value)}
    {f_above : Addr} {oc_above kV_above dc_above pm_above cd_above ct_above : Value} {od_above an_above : Option Addr} {sl_above : Array (Option Value)}
    {f_start : Addr} {oc_start kV_start dc_start pm_start cd_start ct_start : Value} {od_start an_start : Option Addr} {sl_start : Array (Option Value)}
    {f_digit : Addr} {oc_digit kV_digit dc_digit pm_digit cd_digit ct_digit : Value} {od_digit an_digit : Option Addr} {sl_digit : Array (Option Value)}
    {f_fraction : Addr} {oc_fraction kV_fraction dc_fraction pm_fraction cd_fraction ct_fraction : Value} {od_fraction an_fraction : Option Addr} {sl_fraction : Array (Option Value)}
    {f_below : Addr} {oc_below kV_below dc_below pm_below cd_below ct_below : Value} {od_below an_below : Option Addr} {sl_below : Array (Option Value)}
    {f_plus : Addr} {oc_plus kV_plus dc_plus pm_plus cd_plus ct_plus : Value} {od_plus an_plus : Option Addr} {sl_plus : Array (Option Value)}
    {f_span : Addr} {oc_span kV_span dc_span pm_span cd_span ct_span : Value} {od_span an_span : Option Addr} {sl_span : Array (Option Value)}
    {f_handed : Addr} {oc_handed kV_handed dc_handed pm_handed cd_handed ct_handed : Value} {od_handed an_handed : Option Addr} {sl_handed : Array (Option Value)}
    {f_isratio : Addr} {oc_isratio kV_isratio dc_isratio pm_isratio cd_isratio ct_isratio : Value} {od_isratio an_isratio : Option Addr} {sl_isratio : Array (Option Value)}
    {f_equals : Addr} {oc_equals kV_equals dc_equals pm_equals cd_equals ct_equals : Value} {od_equals an_equals : Option Addr} {sl_equals : Array (Option Value)}
    {f_partner : Addr} {oc_partner kV_partner dc_partner pm_partner cd_partner ct_partner : Value} {od_partner an_partner : Option Addr} {sl_partner : Array (Option Value)}
    {f_nolesser : Addr} {oc_nolesser kV_nolesser dc_nolesser pm_nolesser cd_nolesser ct_nolesser : Value} {od_nolesser an_nolesser : Option Addr} {sl_nolesser : Array (Option Value)}
    {f_issimplest : Addr} {oc_issimplest kV_issimplest dc_issimplest pm_issimplest cd_issimplest ct_issimplest : Value} {od_issimplest an_issimplest : Option Addr} {sl_issimplest : Array (Option Value)}
    {f_crossed : Addr} {oc_crossed kV_crossed dc_crossed pm_crossed cd_crossed ct_crossed : Value} {od_crossed an_crossed : Option Addr} {sl_crossed : Array (Option Value)}
    {f_law : Addr} {oc_law kV_law dc_law pm_law cd_law ct_law : Value} {od_law an_law : Option Addr} {sl_law : Array (Option Value)}
    {C f_init T_init : Addr} {oc_init kV_init dc_init pm_init cd_init ct_init : Value} {od_init an_init : Option Addr} {sl_init : Array (Option Value)} {oT : Value} {dT : Option Addr} {tT : Tok} {nT' : Nat} {sT : Array (Option Value)}
    {Z : Addr}
    {CE : Addr}
    {O : Addr}
    {Cr : Addr} {nm_Cr q_Cr : Str} {N_Cr : Addr} {bs1_Cr : List Value} {sn_Cr : List Str} {sub_Cr : List Value} {ab_Cr : Bool} {col_Cr : Option Bool} {dd_Cr : Option Addr} {m0_Cr m1_Cr m2_Cr m3_Cr m5_Cr : Option Value} {bm_Cr : List Value}
    (hn : PySem.W.specialIn K (.builtin "object.__class__") "__get__" = some (some (.builtin "getset_descriptor.__get__")))
    (htk : PySem.W.takesIn K (.builtin "object.__class__") = some true)
    (aC : PySem.W.nsIn K mainGlobals "Ratio" = some (some (.ref C)))
    (pgC : PySem.W.plainGet K C Str.empty = true)
    (hdC : PySem.W.hasDictIn K C = true)
    (poC : PySem.W.plainOver K C = true)
    (saC : PySem.W.findIn K (.ref C) "__setattr__" = some (some (.builtin "object.__setattr__")))
    (mkC : PySem.W.makesIn K C = true)
    (kcC : PySem.W.keepIn K (.ref C) = true)
    (a_init : PySem.W.findIn K (.ref C) "__init__" = some (some (.ref f_init)))
    (i_init : PySem.W.isFn K (.ref f_init) = true)
    (l_init : K.lookup f_init = some ⟨oc_init, od_init, .func (PySem.W.fnOf "__init__" "Ratio.__init__" (defArgs S_init) (defBody S_init) (defScope S_init) (.ref T_init) kV_init dc_init pm_init an_init cd_init ct_init), sl_init⟩)
    (lT : K.lookup T_init = some ⟨oT, dT, .seq #[Value.int 1 tT] nT', sT⟩)
    (c_init : PySem.W.codeIn K cd_init "Ratio.__init__" = true)
    (k_init : PySem.W.keepIn K (.ref f_init) = true)
    (nT : PySem.W.findIn K (.ref C) "top" = some none)
    (nB : PySem.W.findIn K (.ref C) "bottom" = some none)
    (ha : PySem.W.findIn K (.ref C) "__class__" = some (some (.builtin "object.__class__")))
    (hm : PySem.W.mroIn K C (.type "object") = some true)
    (gg : PySem.W.nsIn K mainGlobals "gcd" = some (some (.builtin "math.gcd")))
    (aZ : PySem.W.nsIn K mainGlobals "ZeroBottom" = some (some (.ref Z)))
    (xZ : PySem.W.excIn K Z [.type "ValueError", .type "Exception", .type "BaseException", .type "object"] "ValueError.__new__" = true)
    (kZ : PySem.W.keepIn K (.ref Z) = true)
    (bZ : PySem.W.subIn K (.ref Z) (.type "BaseException") = some true)
    (tZ : PySem.W.typeIn K (.ref Z) = some (.type "type"))
    (aCE : PySem.W.nsIn K mainGlobals "CarryError" = some (some (.ref CE)))
    (CEd : PySem.W.hasDictIn K CE = true)
    (CEb : PySem.W.subIn K (.ref CE) (.type "BaseException") = some true)
    (CEt : PySem.W.typeIn K (.ref CE) = some (.type "type"))
    (a_O : PySem.W.nsIn K mainGlobals "OutOfBounds" = some (some (.ref O)))
    (d_O : PySem.W.hasDictIn K O = true)
    (t_O : PySem.W.typeIn K (.ref O) = some (.type "type"))
    (a_Cr : PySem.W.nsIn K mainGlobals "Crossed" = some (some (.ref Cr)))
    (c_Cr : K.lookup Cr = some (excClassObj nm_Cr q_Cr Cr N_Cr bs1_Cr bm_Cr true sn_Cr sub_Cr ab_Cr col_Cr dd_Cr m0_Cr m1_Cr m2_Cr m3_Cr m5_Cr "ValueError.__new__"))
    (r_Cr : PySem.HandSPX.refsVE bm_Cr = true)
    (sa_Cr : PySem.W.findIn K (.ref Cr) "__setattr__" = some (some (.builtin "object.__setattr__")))
    (k_Cr : PySem.W.keepIn K (.ref Cr) = true)
    (bs_Cr : PySem.W.subIn K (.ref Cr) (.type "BaseException") = some true)
    (t_Cr : PySem.W.typeIn K (.ref Cr) = some (.type "type"))
    (e_Cr : PySem.W.subIn K (.ref Cr) (.ref CE) = some true)
    (g0_Cr : PySem.W.findIn K (.ref Cr) "__getattribute__" = some (some (.builtin "BaseException.__getattribute__")))
    (g1_Cr : PySem.W.findIn K (.ref Cr) "__getattr__" = some none)
    (d_Cr : PySem.W.hasDictIn K Cr = true)
    (cl_Cr : PySem.W.findIn K (.ref Cr) "__class__" = some (some (.builtin "object.__class__")))
    (m_Cr : PySem.W.mroIn K Cr (.type "object") = some true)
    (v_Cr : PySem.W.subIn K (.ref Cr) (.type "ValueError") = some true)
    (n_Cr_low : PySem.W.findIn K (.ref Cr) "low" = some none)
    (n_Cr_high : PySem.W.findIn K (.ref Cr) "high" = some none)
    (s_crNo : PySem.W.subIn K (.ref Cr) (.ref O) = some false)
    (n_crNo : Cr ≠ O)
    (z_len : PySem.W.nsIn K mainGlobals "len" = some none)
    (z_abs : PySem.W.nsIn K mainGlobals "abs" = some none)
    (z_int : PySem.W.nsIn K mainGlobals "int" = some none)
    (z_bool : PySem.W.nsIn K mainGlobals "bool" = some none)
    (z_isinstance : PySem.W.nsIn K mainGlobals "isinstance" = some none)
    (z_range : PySem.W.nsIn K mainGlobals "range" = some none)
    (z_ValueError : PySem.W.nsIn K mainGlobals "ValueError" = some none)
    (a_cross : PySem.W.findIn K (.ref Cr) "__init__" = some (some (.ref f_cross)))
    (i_cross : PySem.W.isFn K (.ref f_cross) = true)
    (l_cross : K.lookup f_cross = some ⟨oc_cross, od_cross, .func (PySem.W.fnOf "__init__" "Crossed.__init__" (defArgs S_cross) (defBody S_cross) (defScope S_cross) .none kV_cross dc_cross pm_cross an_cross cd_cross ct_cross), sl_cross⟩)
    (c_cross : PySem.W.codeIn K cd_cross "Crossed.__init__" = true)
    (k_cross : PySem.W.keepIn K (.ref f_cross) = true)
    (a_neg : PySem.W.findIn K (.ref C) "__neg__" = some (some (.ref f_neg)))
    (i_neg : PySem.W.isFn K (.ref f_neg) = true)
    (l_neg : K.lookup f_neg = some ⟨oc_neg, od_neg, .func (PySem.W.fnOf "__neg__" "Ratio.__neg__" (defArgs S_neg) (defBody S_neg) (defScope S_neg) .none kV_neg dc_neg pm_neg an_neg cd_neg ct_neg), sl_neg⟩)
    (c_neg : PySem.W.codeIn K cd_neg "Ratio.__neg__" = true)
    (k_neg : PySem.W.keepIn K (.ref f_neg) = true)
    (a_compare : PySem.W.findIn K (.ref C) "compare" = some (some (.ref f_compare)))
    (i_compare : PySem.W.isFn K (.ref f_compare) = true)
    (l_compare : K.lookup f_compare = some ⟨oc_compare, od_compare, .func (PySem.W.fnOf "compare" "Ratio.compare" (defArgs S_compare) (defBody S_compare) (defScope S_compare) .none kV_compare dc_compare pm_compare an_compare cd_compare ct_compare), sl_compare⟩)
    (c_compare : PySem.W.codeIn K cd_compare "Ratio.compare" = true)
    (k_compare : PySem.W.keepIn K (.ref f_compare) = true)
    (a_sign : PySem.W.findIn K (.ref C) "sign" = some (some (.ref f_sign)))
    (i_sign : PySem.W.isFn K (.ref f_sign) = true)
    (l_sign : K.lookup f_sign = some ⟨oc_sign, od_sign, .func (PySem.W.fnOf "sign" "Ratio.sign" (defArgs S_sign) (defBody S_sign) (defScope S_sign) .none kV_sign dc_sign pm_sign an_sign cd_sign ct_sign), sl_sign⟩)
    (c_sign : PySem.W.codeIn K cd_sign "Ratio.sign" = true)
    (k_sign : PySem.W.keepIn K (.ref f_sign) = true)
    (a_simplest : PySem.W.nsIn K mainGlobals "simplest" = some (some (.ref f_simplest)))
    (l_simplest : K.lookup f_simplest = some ⟨oc_simplest, od_simplest, .func (PySem.W.fnOf "simplest" "simplest" (defArgs S_simplest) (defBody S_simplest) (defScope S_simplest) .none kV_simplest dc_simplest pm_simplest an_simplest cd_simplest ct_simplest), sl_simplest⟩)
    (c_simplest : PySem.W.codeIn K cd_simplest "simplest" = true)
    (k_simplest : PySem.W.keepIn K (.ref f_simplest) = true)
    (a_above : PySem.W.nsIn K mainGlobals "_simplest_above_zero" = some (some (.ref f_above)))
    (l_above : K.lookup f_above = some ⟨oc_above, od_above, .func (PySem.W.fnOf "_simplest_above_zero" "_simplest_above_zero" (defArgs S_above) (defBody S_above) (defScope S_above) .none kV_above dc_above pm_above an_above cd_above ct_above), sl_above⟩)
    (c_above : PySem.W.codeIn K cd_above "_simplest_above_zero" = true)
    (k_above : PySem.W.keepIn K (.ref f_above) = true)
    (a_start : PySem.W.nsIn K mainGlobals "_law_start" = some (some (.ref f_start)))
    (l_start : K.lookup f_start = some ⟨oc_start, od_start, .func (PySem.W.fnOf "_law_start" "_law_start" (defArgs S_start) (defBody S_start) (defScope S_start) .none kV_start dc_start pm_start an_start cd_start ct_start), sl_start⟩)
    (c_start : PySem.W.codeIn K cd_start "_law_start" = true)
    (k_start : PySem.W.keepIn K (.ref f_start) = true)
    (a_digit : PySem.W.nsIn K mainGlobals "_law_digit" = some (some (.ref f_digit)))
    (l_digit : K.lookup f_digit = some ⟨oc_digit, od_digit, .func (PySem.W.fnOf "_law_digit" "_law_digit" (defArgs S_digit) (defBody S_digit) (defScope S_digit) .none kV_digit dc_digit pm_digit an_digit cd_digit ct_digit), sl_digit⟩)
    (c_digit : PySem.W.codeIn K cd_digit "_law_digit" = true)
    (k_digit : PySem.W.keepIn K (.ref f_digit) = true)
    (a_fraction : PySem.W.nsIn K mainGlobals "_law_fraction" = some (some (.ref f_fraction)))
    (l_fraction : K.lookup f_fraction = some ⟨oc_fraction, od_fraction, .func (PySem.W.fnOf "_law_fraction" "_law_fraction" (defArgs S_fraction) (defBody S_fraction) (defScope S_fraction) .none kV_fraction dc_fraction pm_fraction an_fraction cd_fraction ct_fraction), sl_fraction⟩)
    (c_fraction : PySem.W.codeIn K cd_fraction "_law_fraction" = true)
    (k_fraction : PySem.W.keepIn K (.ref f_fraction) = true)
    (a_below : PySem.W.nsIn K mainGlobals "_law_below" = some (some (.ref f_below)))
    (l_below : K.lookup f_below = some ⟨oc_below, od_below, .func (PySem.W.fnOf "_law_below" "_law_below" (defArgs S_below) (defBody S_below) (defScope S_below) .none kV_below dc_below pm_below an_below cd_below ct_below), sl_below⟩)
    (c_below : PySem.W.codeIn K cd_below "_law_below" = true)
    (k_below : PySem.W.keepIn K (.ref f_below) = true)
    (a_plus : PySem.W.nsIn K mainGlobals "_law_plus" = some (some (.ref f_plus)))
    (l_plus : K.lookup f_plus = some ⟨oc_plus, od_plus, .func (PySem.W.fnOf "_law_plus" "_law_plus" (defArgs S_plus) (defBody S_plus) (defScope S_plus) .none kV_plus dc_plus pm_plus an_plus cd_plus ct_plus), sl_plus⟩)
    (c_plus : PySem.W.codeIn K cd_plus "_law_plus" = true)
    (k_plus : PySem.W.keepIn K (.ref f_plus) = true)
    (a_span : PySem.W.nsIn K mainGlobals "_law_span" = some (some (.ref f_span)))
    (l_span : K.lookup f_span = some ⟨oc_span, od_span, .func (PySem.W.fnOf "_law_span" "_law_span" (defArgs S_span) (defBody S_span) (defScope S_span) .none kV_span dc_span pm_span an_span cd_span ct_span), sl_span⟩)
    (c_span : PySem.W.codeIn K cd_span "_law_span" = true)
    (k_span : PySem.W.keepIn K (.ref f_span) = true)
    (a_handed : PySem.W.nsIn K mainGlobals "_law_handed" = some (some (.ref f_handed)))
    (l_handed : K.lookup f_handed = some ⟨oc_handed, od_handed, .func (PySem.W.fnOf "_law_handed" "_law_handed" (defArgs S_handed) (defBody S_handed) (defScope S_handed) .none kV_handed dc_handed pm_handed an_handed cd_handed ct_handed), sl_handed⟩)
    (c_handed : PySem.W.codeIn K cd_handed "_law_handed" = true)
    (k_handed : PySem.W.keepIn K (.ref f_handed) = true)
    (a_isratio : PySem.W.nsIn K mainGlobals "_law_is_ratio" = some (some (.ref f_isratio)))
    (l_isratio : K.lookup f_isratio = some ⟨oc_isratio, od_isratio, .func (PySem.W.fnOf "_law_is_ratio" "_law_is_ratio" (defArgs S_isratio) (defBody S_isratio) (defScope S_isratio) .none kV_isratio dc_isratio pm_isratio an_isratio cd_isratio ct_isratio), sl_isratio⟩)
    (c_isratio : PySem.W.codeIn K cd_isratio "_law_is_ratio" = true)
    (k_isratio : PySem.W.keepIn K (.ref f_isratio) = true)
    (a_equals : PySem.W.nsIn K mainGlobals "_law_equals" = some (some (.ref f_equals)))
    (l_equals : K.lookup f_equals = some ⟨oc_equals, od_equals, .func (PySem.W.fnOf "_law_equals" "_law_equals" (defArgs S_equals) (defBody S_equals) (defScope S_equals) .none kV_equals dc_equals pm_equals an_equals cd_equals ct_equals), sl_equals⟩)
    (c_equals : PySem.W.codeIn K cd_equals "_law_equals" = true)
    (k_equals : PySem.W.keepIn K (.ref f_equals) = true)
    (a_partner : PySem.W.nsIn K mainGlobals "_law_partner" = some (some (.ref f_partner)))
    (l_partner : K.lookup f_partner = some ⟨oc_partner, od_partner, .func (PySem.W.fnOf "_law_partner" "_law_partner" (defArgs S_partner) (defBody S_partner) (defScope S_partner) .none kV_partner dc_partner pm_partner an_partner cd_partner ct_partner), sl_partner⟩)
    (c_partner : PySem.W.codeIn K cd_partner "_law_partner" = true)
    (k_partner : PySem.W.keepIn K (.ref f_partner) = true)
    (a_nolesser : PySem.W.nsIn K mainGlobals "_law_no_lesser_bottom" = some (some (.ref f_nolesser)))
    (l_nolesser : K.lookup f_nolesser = some ⟨oc_nolesser, od_nolesser, .func (PySem.W.fnOf "_law_no_lesser_bottom" "_law_no_lesser_bottom" (defArgs S_nolesser) (defBody S_nolesser) (defScope S_nolesser) .none kV_nolesser dc_nolesser pm_nolesser an_nolesser cd_nolesser ct_nolesser), sl_nolesser⟩)
    (c_nolesser : PySem.W.codeIn K cd_nolesser "_law_no_lesser_bottom" = true)
    (k_nolesser : PySem.W.keepIn K (.ref f_nolesser) = true)
    (a_issimplest : PySem.W.nsIn K mainGlobals "_law_is_simplest" = some (some (.ref f_issimplest)))
    (l_issimplest : K.lookup f_issimplest = some ⟨oc_issimplest, od_issimplest, .func (PySem.W.fnOf "_law_is_simplest" "_law_is_simplest" (defArgs S_issimplest) (defBody S_issimplest) (defScope S_issimplest) .none kV_issimplest dc_issimplest pm_issimplest an_issimplest cd_issimplest ct_issimplest), sl_issimplest⟩)
    (c_issimplest : PySem.W.codeIn K cd_issimplest "_law_is_simplest" = true)
    (k_issimplest : PySem.W.keepIn K (.ref f_issimplest) = true)
    (a_crossed : PySem.W.nsIn K mainGlobals "_law_crossed" = some (some (.ref f_crossed)))
    (l_crossed : K.lookup f_crossed = some ⟨oc_crossed, od_crossed, .func (PySem.W.fnOf "_law_crossed" "_law_crossed" (defArgs S_crossed) (defBody S_crossed) (defScope S_crossed) .none kV_crossed dc_crossed pm_crossed an_crossed cd_crossed ct_crossed), sl_crossed⟩)
    (c_crossed : PySem.W.codeIn K cd_crossed "_law_crossed" = true)
    (k_crossed : PySem.W.keepIn K (.ref f_crossed) = true)
    (a_law : PySem.W.nsIn K mainGlobals "law" = some (some (.ref f_law)))
    (l_law : K.lookup f_law = some ⟨oc_law, od_law, .func (PySem.W.fnOf "law" "law" (defArgs S_law) (defBody S_law) (defScope S_law) .none kV_law dc_law pm_law an_law cd_law ct_law), sl_law⟩)
    (c_law : PySem.W.codeIn K cd_law "law" = true)
    (k_law : PySem.W.keepIn K (.ref f_law) = true) :
    ∃ fd : FuncData, (∀ (s : Shared) (v : Value), BindsTo s fd ⟨[v], []⟩ [("script", v)]) ∧ ∀ base : Heap, K.In base → base.Ns mainGlobals mg → FnOk l.prog w K mg base CX0 9 fa fd ["script"] (spLaw K) := by
  have e := hfa.symm.trans (PySem.W.mg_of X G a_law)
  cases e
  have F_cross := fun_mk (st := S_cross) l_cross c_cross k_cross
  have b_cross := F_cross.binds (ps := ["self", "low", "high"]) fun _ _ _ _ _ _ us hl => match us, hl with | [_, _, _], _ => rfl
  have F_neg := fun_mk (st := S_neg) l_neg c_neg k_neg
  have b_neg := F_neg.binds (ps := ["self"]) fun _ _ _ _ _ _ us hl => match us, hl with | [_], _ => rfl
  have F_compare := fun_mk (st := S_compare) l_compare c_compare k_compare
  have b_compare := F_compare.binds (ps := ["self", "other"]) fun _ _ _ _ _ _ us hl => match us, hl with | [_, _], _ => rfl
  have F_sign := fun_mk (st := S_sign) l_sign c_sign k_sign
  have b_sign := F_sign.binds (ps := ["self"]) fun _ _ _ _ _ _ us hl => match us, hl with | [_], _ => rfl
  have F_simplest := fun_mk (st := S_simplest) l_simplest c_simplest k_simplest
  have b_simplest := F_simplest.binds (ps := ["low", "high"]) fun _ _ _ _ _ _ us hl => match us, hl with | [_, _], _ => rfl
  have F_above := fun_mk (st := S_above) l_above c_above k_above
  have b_above := F_above.binds (ps := ["low", "high"]) fun _ _ _ _ _ _ us hl => match us, hl with | [_, _], _ => rfl
  have F_start := fun_mk (st := S_start) l_start c_start k_start
  have b_start := F_start.binds (ps := ["script"]) fun _ _ _ _ _ _ us hl => match us, hl with | [_], _ => rfl
  have F_digit := fun_mk (st := S_digit) l_digit c_digit k_digit
  have b_digit := F_digit.binds (ps := ["pot", "many"]) fun _ _ _ _ _ _ us hl => match us, hl with | [_, _], _ => rfl
  have F_fraction := fun_mk (st := S_fraction) l_fraction c_fraction k_fraction
  have b_fraction := F_fraction.binds (ps := ["pot"]) fun _ _ _ _ _ _ us hl => match us, hl with | [_], _ => rfl
  have F_below := fun_mk (st := S_below) l_below c_below k_below
  have b_below := F_below.binds (ps := ["p", "q"]) fun _ _ _ _ _ _ us hl => match us, hl with | [_, _], _ => rfl
  have F_plus := fun_mk (st := S_plus) l_plus c_plus k_plus
  have b_plus := F_plus.binds (ps := ["p", "q"]) fun _ _ _ _ _ _ us hl => match us, hl with | [_, _], _ => rfl
  have F_span := fun_mk (st := S_span) l_span c_span k_span
  have b_span := F_span.binds (ps := ["pot"]) fun _ _ _ _ _ _ us hl => match us, hl with | [_], _ => rfl
  have F_handed := fun_mk (st := S_handed) l_handed c_handed k_handed
  have b_handed := F_handed.binds (ps := ["pot", "p"]) fun _ _ _ _ _ _ us hl => match us, hl with | [_, _], _ => rfl
  have F_isratio := fun_mk (st := S_isratio) l_isratio c_isratio k_isratio
  have b_isratio := F_isratio.binds (ps := ["told"]) fun _ _ _ _ _ _ us hl => match us, hl with | [_], _ => rfl
  have F_equals := fun_mk (st := S_equals) l_equals c_equals k_equals
  have b_equals := F_equals.binds (ps := ["told", "p"]) fun _ _ _ _ _ _ us hl => match us, hl with | [_, _], _ => rfl
  have F_partner := fun_mk (st := S_partner) l_partner c_partner k_partner
  have b_partner := F_partner.binds (ps := ["top", "n"]) fun _ _ _ _ _ _ us hl => match us, hl with | [_, _], _ => rfl
  have F_nolesser := fun_mk (st := S_nolesser) l_nolesser c_nolesser k_nolesser
  have b_nolesser := F_nolesser.binds (ps := ["n", "low", "high"]) fun _ _ _ _ _ _ us hl => match us, hl with | [_, _, _], _ => rfl
  have F_issimplest := fun_mk (st := S_issimplest) l_issimplest c_issimplest k_issimplest
  have b_issimplest := F_issimplest.binds (ps := ["told", "low", "high"]) fun _ _ _ _ _ _ us hl => match us, hl with | [_, _, _], _ => rfl
  have F_crossed := fun_mk (st := S_crossed) l_crossed c_crossed k_crossed
  have b_crossed := F_crossed.binds (ps := ["first", "second", "p", "q"]) fun _ _ _ _ _ _ us hl => match us, hl with | [_, _, _, _], _ => rfl
  have F_law := fun_mk (st := S_law) l_law c_law k_law
  have b_law := F_law.binds (ps := ["script"]) fun _ _ _ _ _ _ us hl => match us, hl with | [_], _ => rfl
  have F_init : FunD K "__init__" "Ratio.__init__" (defArgs S_init) (defBody S_init) (defScope S_init) [.int 1] [] f_init (PySem.W.fnOf "__init__" "Ratio.__init__" (defArgs S_init) (defBody S_init) (defScope S_init) (.ref T_init) kV_init dc_init pm_init an_init cd_init ct_init) :=
    ⟨⟨_, _, _, _, _, _, _, _, _, _, rfl, l_init, c_init, .inr ⟨(by intro z; cases z), T_init, _, [Value.int 1 tT], _, rfl, lT, rfl, .cons ⟨_, rfl⟩ .nil⟩, .inl rfl⟩, k_init⟩
  have b3 : ∃ ds, Vals (([V.int 1] : List V).drop 1) ds ∧ Binds K (PySem.W.fnOf "__init__" "Ratio.__init__" (defArgs S_init) (defBody S_init) (defScope S_init) (.ref T_init) kV_init dc_init pm_init an_init cd_init ct_init) ["self", "top", "bottom"] ds :=
    F_init.binds1 3 1 (by intro z; cases z) rfl fun T kV doc pm an cdv ct us its h1 h2 => match us, its, h1, h2 with | [_, _, _], [_], _, _ => ⟨_, rfl, rfl⟩
  have b2 : ∃ ds, Vals (([V.int 1] : List V).drop 0) ds ∧ Binds K (PySem.W.fnOf "__init__" "Ratio.__init__" (defArgs S_init) (defBody S_init) (defScope S_init) (.ref T_init) kV_init dc_init pm_init an_init cd_init ct_init) ["self", "top", "bottom"] ds :=
    F_init.binds1 2 0 (by intro z; cases z) rfl fun T kV doc pm an cdv ct us its h1 h2 => match us, its, h1, h2 with | [_, _], [_], _, _ => ⟨_, rfl, rfl⟩
  have b3' : Binds K (PySem.W.fnOf "__init__" "Ratio.__init__" (defArgs S_init) (defBody S_init) (defScope S_init) (.ref T_init) kV_init dc_init pm_init an_init cd_init ct_init) ["self", "top", "bottom"] [] := by
    obtain ⟨ds, v, b⟩ := b3
    cases v
    exact b
  let A : Ad := { C := C, f_init := f_init, d_init := PySem.W.fnOf "__init__" "Ratio.__init__" (defArgs S_init) (defBody S_init) (defScope S_init) (.ref T_init) kV_init dc_init pm_init an_init cd_init ct_init, Z := Z, CE := CE, O := O, Cr := Cr, f_cross := f_cross, d_cross := PySem.W.fnOf "__init__" "Crossed.__init__" (defArgs S_cross) (defBody S_cross) (defScope S_cross) .none kV_cross dc_cross pm_cross an_cross cd_cross ct_cross, f_neg := f_neg, d_neg := PySem.W.fnOf "__neg__" "Ratio.__neg__" (defArgs S_neg) (defBody S_neg) (defScope S_neg) .none kV_neg dc_neg pm_neg an_neg cd_neg ct_neg, f_compare := f_compare, d_compare := PySem.W.fnOf "compare" "Ratio.compare" (defArgs S_compare) (defBody S_compare) (defScope S_compare) .none kV_compare dc_compare pm_compare an_compare cd_compare ct_compare, f_sign := f_sign, d_sign := PySem.W.fnOf "sign" "Ratio.sign" (defArgs S_sign) (defBody S_sign) (defScope S_sign) .none kV_sign dc_sign pm_sign an_sign cd_sign ct_sign, f_simplest := f_simplest, d_simplest := PySem.W.fnOf "simplest" "simplest" (defArgs S_simplest) (defBody S_simplest) (defScope S_simplest) .none kV_simplest dc_simplest pm_simplest an_simplest cd_simplest ct_simplest, f_above := f_above, d_above := PySem.W.fnOf "_simplest_above_zero" "_simplest_above_zero" (defArgs S_above) (defBody S_above) (defScope S_above) .none kV_above dc_above pm_above an_above cd_above ct_above, f_start := f_start, d_start := PySem.W.fnOf "_law_start" "_law_start" (defArgs S_start) (defBody S_start) (defScope S_start) .none kV_start dc_start pm_start an_start cd_start ct_start, f_digit := f_digit, d_digit := PySem.W.fnOf "_law_digit" "_law_digit" (defArgs S_digit) (defBody S_digit) (defScope S_digit) .none kV_digit dc_digit pm_digit an_digit cd_digit ct_digit, f_fraction := f_fraction, d_fraction := PySem.W.fnOf "_law_fraction" "_law_fraction" (defArgs S_fraction) (defBody S_fraction) (defScope S_fraction) .none kV_fraction dc_fraction pm_fraction an_fraction cd_fraction ct_fraction, f_below := f_below, d_below := PySem.W.fnOf "_law_below" "_law_below" (defArgs S_below) (defBody S_below) (defScope S_below) .none kV_below dc_below pm_below an_below cd_below ct_below, f_plus := f_plus, d_plus := PySem.W.fnOf "_law_plus" "_law_plus" (defArgs S_plus) (defBody S_plus) (defScope S_plus) .none kV_plus dc_plus pm_plus an_plus cd_plus ct_plus, f_span := f_span, d_span := PySem.W.fnOf "_law_span" "_law_span" (defArgs S_span) (defBody S_span) (defScope S_span) .none kV_span dc_span pm_span an_span cd_span ct_span, f_handed := f_handed, d_handed := PySem.W.fnOf "_law_handed" "_law_handed" (defArgs S_handed) (defBody S_handed) (defScope S_handed) .none kV_handed dc_handed pm_handed an_handed cd_handed ct_handed, f_isratio := f_isratio, d_isratio := PySem.W.fnOf "_law_is_ratio" "_law_is_ratio" (defArgs S_isratio) (defBody S_isratio) (defScope S_isratio) .none kV_isratio dc_isratio pm_isratio an_isratio cd_isratio ct_isratio, f_equals := f_equals, d_equals := PySem.W.fnOf "_law_equals" "_law_equals" (defArgs S_equals) (defBody S_equals) (defScope S_equals) .none kV_equals dc_equals pm_equals an_equals cd_equals ct_equals, f_partner := f_partner, d_partner := PySem.W.fnOf "_law_partner" "_law_partner" (defArgs S_partner) (defBody S_partner) (defScope S_partner) .none kV_partner dc_partner pm_partner an_partner cd_partner ct_partner, f_nolesser := f_nolesser, d_nolesser := PySem.W.fnOf "_law_no_lesser_bottom" "_law_no_lesser_bottom" (defArgs S_nolesser) (defBody S_nolesser) (defScope S_nolesser) .none kV_nolesser dc_nolesser pm_nolesser an_nolesser cd_nolesser ct_nolesser, f_issimplest := f_issimplest, d_issimplest := PySem.W.fnOf "_law_is_simplest" "_law_is_simplest" (defArgs S_issimplest) (defBody S_issimplest) (defScope S_issimplest) .none kV_issimplest dc_issimplest pm_issimplest an_issimplest cd_issimplest ct_issimplest, f_crossed := f_crossed, d_crossed := PySem.W.fnOf "_law_crossed" "_law_crossed" (defArgs S_crossed) (defBody S_crossed) (defScope S_crossed) .none kV_crossed dc_crossed pm_crossed an_crossed cd_crossed ct_crossed, f_law := fa, d_law := PySem.W.fnOf "law" "law" (defArgs S_law) (defBody S_law) (defScope S_law) .none kV_law dc_law pm_law an_law cd_law ct_law }
  have T : Txt K mg A := {
    hn := hn,
    htk := htk,
    cl := ⟨pgC, hdC, poC, saC⟩,
    nT := nT,
    nB := nB,
    mkC := ⟨mkC, a_init, i_init, kcC⟩,
    ha := ha,
    hm := hm,
    F_init := F_init,
    b_init3 := b3',
    b_init2 := b2,
    g_Ratio := PySem.W.mg_of X G aC,
    g_gcd := PySem.W.mg_of X G gg,
    g_Z := PySem.W.mg_of X G aZ,
    xZ := xZ,
    kZ := kZ,
    bZ := bZ,
    tZ := tZ,
    g_CE := PySem.W.mg_of X G aCE,
    g_O := PySem.W.mg_of X G a_O,
    g_Cr := PySem.W.mg_of X G a_Cr,
    o_Cr := ⟨⟨nm_Cr, q_Cr, N_Cr, bs1_Cr, bm_Cr, sn_Cr, sub_Cr, ab_Cr, col_Cr, dd_Cr, m0_Cr, m1_Cr, m2_Cr, m3_Cr, m5_Cr, c_Cr, r_Cr⟩, sa_Cr, bs_Cr, t_Cr, k_Cr⟩,
    in_Cr := a_cross,
    ti_Cr := beq_iff_eq.mp i_cross,
    xf_Cr := ⟨g0_Cr, g1_Cr, bs_Cr, d_Cr⟩,
    e_Cr := PySem.W.exm_ref CEb CEd CEt e_Cr,
    X_Cr := ⟨g0_Cr, g1_Cr, bs_Cr, d_Cr, cl_Cr, hn, htk, m_Cr⟩,
    v_Cr := kit_typ (by decide +kernel) v_Cr,
    n_Cr_low := n_Cr_low,
    n_Cr_high := n_Cr_high,
    crNo := kit_ref d_O t_O s_crNo (fun z => n_crNo (Value.ref.inj z)),
    n_len := PySem.W.mg_none_of X G z_len,
    n_abs := PySem.W.mg_none_of X G z_abs,
    n_int := PySem.W.mg_none_of X G z_int,
    n_bool := PySem.W.mg_none_of X G z_bool,
    n_isinstance := PySem.W.mg_none_of X G z_isinstance,
    n_range := PySem.W.mg_none_of X G z_range,
    n_ValueError := PySem.W.mg_none_of X G z_ValueError,
    F_cross := F_cross, b_cross := b_cross,
    m_cross := ⟨a_cross, i_cross, k_cross⟩,
    F_neg := F_neg, b_neg := b_neg,
    m_neg := ⟨a_neg, i_neg, k_neg⟩,
    F_compare := F_compare, b_compare := b_compare,
    m_compare := ⟨a_compare, i_compare, k_compare⟩,
    F_sign := F_sign, b_sign := b_sign,
    m_sign := ⟨a_sign, i_sign, k_sign⟩,
    F_simplest := F_simplest, b_simplest := b_simplest,
    g_simplest := PySem.W.mg_of X G a_simplest,
    F_above := F_above, b_above := b_above,
    g_above := PySem.W.mg_of X G a_above,
    F_start := F_start, b_start := b_start,
    g_start := PySem.W.mg_of X G a_start,
    F_digit := F_digit, b_digit := b_digit,
    g_digit := PySem.W.mg_of X G a_digit,
    F_fraction := F_fraction, b_fraction := b_fraction,
    g_fraction := PySem.W.mg_of X G a_fraction,
    F_below := F_below, b_below := b_below,
    g_below := PySem.W.mg_of X G a_below,
    F_plus := F_plus, b_plus := b_plus,
    g_plus := PySem.W.mg_of X G a_plus,
    F_span := F_span, b_span := b_span,
    g_span := PySem.W.mg_of X G a_span,
    F_handed := F_handed, b_handed := b_handed,
    g_handed := PySem.W.mg_of X G a_handed,
    F_isratio := F_isratio, b_isratio := b_isratio,
    g_isratio := PySem.W.mg_of X G a_isratio,
    F_equals := F_equals, b_equals := b_equals,
    g_equals := PySem.W.mg_of X G a_equals,
    F_partner := F_partner, b_partner := b_partner,
    g_partner := PySem.W.mg_of X G a_partner,
    F_nolesser := F_nolesser, b_nolesser := b_nolesser,
    g_nolesser := PySem.W.mg_of X G a_nolesser,
    F_issimplest := F_issimplest, b_issimplest := b_issimplest,
    g_issimplest := PySem.W.mg_of X G a_issimplest,
    F_crossed := F_crossed, b_crossed := b_crossed,
    g_crossed := PySem.W.mg_of X G a_crossed,
    F_law := F_law, b_law := b_law,
    g_law := PySem.W.mg_of X G a_law }
  exact ⟨_, fun s v => .of_eq rfl, fun base _ _ => ok_law (P := l.prog) (w := w) (base := base) T⟩
theorem walk {l : PySem.W.OpenLaw} {q : Program} {loose : List Str} {XP : (Str → Option Value) → Heap → Prop} {YP : World → Heap → Prop} {d : DefRec} {K : Params → PySem.W.Frag} (hn : l.most = some 63) (hdf : d.params.defaults = [])
    (hY : ∀ (w : World) (h : Heap), YP w h → (K w.params).In h)
    (F : ∀ (w : World) (mg : Str → Option Value) (fa : Addr) (h : Heap), (K w.params).In h → h.Ns mainGlobals mg → mg d.name = some (.ref fa) →
      ∃ fd : FuncData, (∀ (s : Shared) (u : Value), BindsTo s fd ⟨[u], []⟩ [("script", u)]) ∧ ∀ base : Heap, (K w.params).In base → base.Ns mainGlobals mg → FnOk l.prog w (K w.params) mg base CX0 9 fa fd ["script"] (spLaw (K w.params))) :
    PySem.W.WalkO q loose XP YP l.row.toRowW d [] (fun f vs => PySem.call f vs) :=
  L2.walk_of (n := 63) (k := 9) (x := "script") (CX := fun _ => CX0) (sp := fun w => spLaw (K w.params)) hn (by decide) hdf ⟨rfl, by decide, by decide⟩ hY F
    (fun _ _ a ns hl _ hS => ⟨a, ns, rfl, hS, hl, fun _ => rfl⟩) fun _ _ _ _ _ z => z
end Fc
open PySem PySem.W PyProof.Rows
set_option maxRecDepth 100000 in
set_option maxHeartbeats 0 in
theorem PySem.Challenge.cw_fewcarry_k04_simplest_between_holds : PySem.Challenge.rw_fewcarry_k04_simplest_between.Holds := by
  w_on; o_law; k_head; (case hw => w_witness2)
  k_fill
  refine Fc.walk (l := PySem.Challenge.rw_fewcarry_k04_simplest_between) rfl rfl (fun w h Y => PySem.W.kIn_of Y) ?F
  case F =>
    intro w mg fa h KX G hmg
    refine' Fc.all_mk KX G hmg ?hn ?htk ?aC ?pgC ?hdC ?poC ?saC ?mkC ?kcC ?a_init ?i_init ?l_init ?lT ?c_init ?k_init ?nT ?nB ?ha ?hm ?gg ?aZ ?xZ ?kZ ?bZ ?tZ ?aCE ?CEd ?CEb ?CEt ?a_O ?d_O ?t_O ?a_Cr ?c_Cr ?r_Cr ?sa_Cr ?k_Cr ?bs_Cr ?t_Cr ?e_Cr ?g0_Cr ?g1_Cr ?d_Cr ?cl_Cr ?m_Cr ?v_Cr ?n_Cr_low ?n_Cr_high ?s_crNo ?n_crNo ?z_len ?z_abs ?z_int ?z_bool ?z_isinstance ?z_range ?z_ValueError ?a_cross ?i_cross ?l_cross ?c_cross ?k_cross ?a_neg ?i_neg ?l_neg ?c_neg ?k_neg ?a_compare ?i_compare ?l_compare ?c_compare ?k_compare ?a_sign ?i_sign ?l_sign ?c_sign ?k_sign ?a_simplest ?l_simplest ?c_simplest ?k_simplest ?a_above ?l_above ?c_above ?k_above ?a_start ?l_start ?c_start ?k_start ?a_digit ?l_digit ?c_digit ?k_digit ?a_fraction ?l_fraction ?c_fraction ?k_fraction ?a_below ?l_below ?c_below ?k_below ?a_plus ?l_plus ?c_plus ?k_plus ?a_span ?l_span ?c_span ?k_span ?a_handed ?l_handed ?c_handed ?k_handed ?a_isratio ?l_isratio ?c_isratio ?k_isratio ?a_equals ?l_equals ?c_equals ?k_equals ?a_partner ?l_partner ?c_partner ?k_partner ?a_nolesser ?l_nolesser ?c_nolesser ?k_nolesser ?a_issimplest ?l_issimplest ?c_issimplest ?k_issimplest ?a_crossed ?l_crossed ?c_crossed ?k_crossed ?a_law ?l_law ?c_law ?k_law
    (case hn => k_is)
    (case htk => k_is)
    (case aC => k_is)
    (case pgC => k_is)
    (case hdC => k_is)
    (case poC => k_is)
    (case saC => k_is)
    (case mkC => k_is)
    (case kcC => k_is)
    (case a_init => k_is)
    (case i_init => k_is)
    (case l_init => k_is)
    (case lT => k_is)
    (case c_init => k_is)
    (case k_init => k_is)
    (case nT => k_is)
    (case nB => k_is)
    (case ha => k_is)
    (case hm => k_is)
    (case gg => k_is)
    (case aZ => k_is)
    (case xZ => k_exc)
    (case kZ => k_is)
    (case bZ => k_is)
    (case tZ => k_is)
    (case aCE => k_is)
    (case CEd => k_is)
    (case CEb => k_is)
    (case CEt => k_is)
    (case a_O => k_is)
    (case d_O => k_is)
    (case t_O => k_is)
    (case a_Cr => k_is)
    (case c_Cr => k_is)
    (case r_Cr => decide +kernel)
    (case sa_Cr => k_is)
    (case k_Cr => k_is)
    (case bs_Cr => k_is)
    (case t_Cr => k_is)
    (case e_Cr => k_is)
    (case g0_Cr => k_is)
    (case g1_Cr => k_is)
    (case d_Cr => k_is)
    (case cl_Cr => k_is)
    (case m_Cr => k_is)
    (case v_Cr => k_is)
    (case n_Cr_low => k_is)
    (case n_Cr_high => k_is)
    (case s_crNo => k_is)
    (case n_crNo => decide)
    (case z_len => k_is)
    (case z_abs => k_is)
    (case z_int => k_is)
    (case z_bool => k_is)
    (case z_isinstance => k_is)
    (case z_range => k_is)
    (case z_ValueError => k_is)
    (case a_cross => k_is)
    (case i_cross => k_is)
    (case l_cross => k_is)
    (case c_cross => k_is)
    (case k_cross => k_is)
    (case a_neg => k_is)
    (case i_neg => k_is)
    (case l_neg => k_is)
    (case c_neg => k_is)
    (case k_neg => k_is)
    (case a_compare => k_is)
    (case i_compare => k_is)
    (case l_compare => k_is)
    (case c_compare => k_is)
    (case k_compare => k_is)
    (case a_sign => k_is)
    (case i_sign => k_is)
    (case l_sign => k_is)
    (case c_sign => k_is)
    (case k_sign => k_is)
    (case a_simplest => k_is)
    (case l_simplest => k_is)
    (case c_simplest => k_is)
    (case k_simplest => k_is)
    (case a_above => k_is)
    (case l_above => k_is)
    (case c_above => k_is)
    (case k_above => k_is)
    (case a_start => k_is)
    (case l_start => k_is)
    (case c_start => k_is)
    (case k_start => k_is)
    (case a_digit => k_is)
    (case l_digit => k_is)
    (case c_digit => k_is)
    (case k_digit => k_is)
    (case a_fraction => k_is)
    (case l_fraction => k_is)
    (case c_fraction => k_is)
    (case k_fraction => k_is)
    (case a_below => k_is)
    (case l_below => k_is)
    (case c_below => k_is)
    (case k_below => k_is)
    (case a_plus => k_is)
    (case l_plus => k_is)
    (case c_plus => k_is)
    (case k_plus => k_is)
    (case a_span => k_is)
    (case l_span => k_is)
    (case c_span => k_is)
    (case k_span => k_is)
    (case a_handed => k_is)
    (case l_handed => k_is)
    (case c_handed => k_is)
    (case k_handed => k_is)
    (case a_isratio => k_is)
    (case l_isratio => k_is)
    (case c_isratio => k_is)
    (case k_isratio => k_is)
    (case a_equals => k_is)
    (case l_equals => k_is)
    (case c_equals => k_is)
    (case k_equals => k_is)
    (case a_partner => k_is)
    (case l_partner => k_is)
    (case c_partner => k_is)
    (case k_partner => k_is)
    (case a_nolesser => k_is)
    (case l_nolesser => k_is)
    (case c_nolesser => k_is)
    (case k_nolesser => k_is)
    (case a_issimplest => k_is)
    (case l_issimplest => k_is)
    (case c_issimplest => k_is)
    (case k_issimplest => k_is)
    (case a_crossed => k_is)
    (case l_crossed => k_is)
    (case c_crossed => k_is)
    (case k_crossed => k_is)
    (case a_law => k_is)
    (case l_law => k_is)
    (case c_law => k_is)
    (case k_law => k_is)
#print axioms PySem.Challenge.cw_fewcarry_k04_simplest_between_holds
