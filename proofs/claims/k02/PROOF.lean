import PyProof.Rows.All
import Wide.All
import OpenK.AllK
import Wide.FinOn
import HandS.ForExc
import HandS.Comp
import HandS.Wide
import HandS.Gcd
import HandS.ExcInit
import HandS.ExcIs
import HandS.ExcField
import HandS.IsInst
import HandS.OwnEq
import HandS.Small
import HandS.Flow
import HandS.Codes
import KE.KOpsOwn
import HandS.Style
import HandS.Defaults
import PySem.Challenge.RW_fewcarry_k02_fraction_order
set_option Elab.async false
set_option linter.all false
set_option maxRecDepth 100000
set_option maxHeartbeats 4000000
/-! Rules of mine over the hand layer: operators that an own class defines, abs by an own method, floor division by any divisor,
an own error without arguments, isinstance of a caught error that has fields, a new instance or a method's call that may raise in a try. -/
namespace Fc
open PySem PySem.Spec PyProof.Rows L2

section
variable {X : Cx} {pins : List (Addr × Obj)} {sl : L2.St} {H : Hp} {s : Shared}

/-- a value of ours is never the mark NotImplemented -/
theorem cmpBack {Q : VK} {u : Value} {s' : Shared} (h : EP X pins sl Q u s') : PySem.W.CmpBack (EP X pins sl Q) u s' := by
  obtain ⟨v, H', I, r, q⟩ := id h
  cases v with
  | non => cases r; exact h
  | bl b => cases r; exact h
  | int i => obtain ⟨t, e⟩ := r; cases e; exact h
  | str y => obtain ⟨t, e⟩ := r; cases e; exact h
  | byt y => obtain ⟨t, e⟩ := r; cases e; exact h
  | flt y => obtain ⟨t, e⟩ := r; cases e; exact h
  | ref a => cases r; exact h
  | ty n => cases r; exact h

/-- what is known of an instance, as the library's rules ask it -/
theorem inst_at {a C dx : Addr} {fs : List (Str × V)} (I : Inv X pins sl H s) (e : H a = some (.ins C dx fs)) : ∃ ox od, PySem.W.InstAt s.heap a ox C od := by
  obtain ⟨mA, J, _⟩ := ins_get I.hok e
  obtain ⟨od, J, _⟩ := J.look
  exact ⟨_, _, J⟩
end

/-! ### x op y for two instances of one class -/
section
variable {X : Cx} {CX : CXT} {k : Nat} {C f : Addr} {fd : FuncData} {ps : List Str} {sp : Sp} {E : XK}
def rOwn (C : Addr) (sp : Sp) (E : XK) : R2 := fun x y H Q => ∃ a b dx dy fs gs, x = .ref a ∧ y = .ref b ∧
  H a = some (.ins C dx fs) ∧ H b = some (.ins C dy gs) ∧ sp [.ref a, .ref b] H Q E
theorem op_own {op : Operator} (hc : PySem.W.selfFirst X.K C = true) (hs : PySem.W.findIn X.K (.ref C) (PySem.dunder op.info.2) = some (some (.ref f)))
    (hf : PySem.W.isFn X.K (.ref f) = true) (F : FnOk X.prog X.w X.K X.mg X.base CX k f fd ps sp) (hr : Room k X.A) (hb : Binds X.K fd ps []) (hx : Passes CX X E) :
    OpR X (binaryOp op) (rOwn C sp E) := by
  intro pins s sl H x y u v Q I rx ry h
  obtain ⟨a, b, dx, dy, fs, gs, rfl, rfl, ha, hb', q⟩ := h
  cases rx
  cases ry
  obtain ⟨ox, od, J⟩ := inst_at I ha
  obtain ⟨oy, oe, J'⟩ := inst_at I hb'
  obtain ⟨m, hF⟩ := I.fr
  exact PySem.W.binop_K hF I.ok.mod.kin J J'.type hc hs hf
    (thn (run_fn (vs := [.ref a, .ref b]) (us := [.ref a, .ref b]) F hr hb .nil hx I (.cons rfl (.cons rfl .nil)) q) fun _ _ z => cmpBack z)

/-- x op n for an instance and a whole number -/
def rOwnI (C : Addr) (sp : Sp) (E : XK) : R2 := fun x y H Q => ∃ a dx fs n, x = .ref a ∧ y = .int n ∧ H a = some (.ins C dx fs) ∧ sp [.ref a, .int n] H Q E
theorem op_ownI {op : Operator} {fo ro rc : Option Value} (hc : PySem.W.selfFirst X.K C = true) (hs : PySem.W.findIn X.K (.ref C) (PySem.dunder op.info.2) = some (some (.ref f)))
    (hf : PySem.W.isFn X.K (.ref f) = true) (h0 : PySem.W.findIn X.K (.ref C) (dunderR op.info.2) = some rc) (hp : rc = none ∨ ∃ g : Addr, rc = some (.ref g))
    (h1 : PySem.W.findIn X.K (.type "int") (PySem.dunder op.info.2) = some fo) (h2 : PySem.W.findIn X.K (.type "int") (dunderR op.info.2) = some ro)
    (hsub : PySem.W.subIn X.K (.type "int") (.ref C) = some false)
    (F : FnOk X.prog X.w X.K X.mg X.base CX k f fd ps sp) (hr : Room k X.A) (hb : Binds X.K fd ps []) (hx : Passes CX X E) :
    OpR X (binaryOp op) (rOwnI C sp E) := by
  intro pins s sl H x y u v Q I rx ry h
  obtain ⟨a, dx, fs, n, rfl, rfl, ha, q⟩ := h
  cases rx
  obtain ⟨t, rfl⟩ := ry
  obtain ⟨ox, od, J⟩ := inst_at I ha
  obtain ⟨m, hF⟩ := I.fr
  exact PySem.W.ksp_binT (T := "int") hF I.ok.mod.kin J rfl hc hs hf h0 hp h1 h2 hsub
    (thn (run_fn (vs := [.ref a, .int n]) (us := [.ref a, .int n t]) F hr hb .nil hx I (.cons rfl (.cons ⟨t, rfl⟩ .nil)) q) fun _ _ z => cmpBack z)

/-- -x -/
def rOwnU (C : Addr) (sp : Sp) (E : XK) : V → Hp → VK → Prop := fun x H Q => ∃ a dx fs, x = .ref a ∧ H a = some (.ins C dx fs) ∧ sp [.ref a] H Q E
theorem un_own (hs : PySem.W.findIn X.K (.ref C) "__neg__" = some (some (.ref f))) (hf : PySem.W.isFn X.K (.ref f) = true)
    (F : FnOk X.prog X.w X.K X.mg X.base CX k f fd ps sp) (hr : Room k X.A) (hb : Binds X.K fd ps []) (hx : Passes CX X E) :
    UnR X (unaryOp .USub) (rOwnU C sp E) := by
  intro pins s sl H x u Q I rx h
  obtain ⟨a, dx, fs, rfl, ha, q⟩ := h
  cases rx
  obtain ⟨ox, od, J⟩ := inst_at I ha
  obtain ⟨m, hF⟩ := I.fr
  exact PySem.W.ksp_neg hF I.ok.mod.kin J hs hf (run_fn (vs := [.ref a]) (us := [.ref a]) F hr hb .nil hx I (.cons rfl .nil) q)

/-- abs(x) by an own __abs__ -/
def rOwnAbs (C : Addr) (sp : Sp) (E : XK) : List V → Hp → VK → Prop := fun xs H Q => ∃ a dx fs, xs = [.ref a] ∧ H a = some (.ins C dx fs) ∧ sp [.ref a] H Q E
/-- a call of a built-in function that runs nothing else before its own body: the code that runs within it has one unit more -/
theorem call_own_abs (hs : PySem.W.findIn X.K (.ref C) "__abs__" = some (some (.ref f))) (hf : PySem.W.isFn X.K (.ref f) = true)
    (F : FnOk X.prog X.w X.K X.mg X.base CX k f fd ps sp) (hr : Room (k + 1) X.A) (hb : Binds X.K fd ps []) (hx : Passes CX X E) :
    CallR X (.builtin "abs") (rOwnAbs C sp E) := by
  intro pins s sl H xs us Q I r h
  obtain ⟨a, dx, fs, rfl, ha, q⟩ := h
  obtain ⟨u, rfl, ru⟩ := vals1 r
  cases ru
  obtain ⟨ox, od, J⟩ := inst_at I ha
  have e := I.env0
  have e0 : Env0 X.prog X.w X.K X.mg X.base X.A.in1 X.stack s H := e.in1
  have r2 : Vals [V.ref a] [Value.ref a] := .cons rfl .nil
  have hl := F.len _ _ _ _ q
  refine Calls.call_function_entry kind_abs plain_abs entry_abs (args_abs _) ?_
  unfold Builtin.«abs»
  refine wpAny_bind (m := oneArg "abs" _) (wpAny_pure ?_)
  refine wpAny_bind (PySem.W.special_fn I.kIn J hs (beq_iff_eq.mp hf) ?_)
  refine wpAny_call (codeAny_mono (F.run X.A.in1 X.stack s H ⟨[.ref a], []⟩ [.ref a] [.ref a] Q E hr.in1 e0 (by
    have := hb s [.ref a] I.kIn (by simpa using hl)
    simpa using this) r2 q) fun r s' hq => ?_)
  cases r with
  | error e => exact hx pins sl H s e s' I hq
  | ok fl =>
    cases fl with
    | ret w => exact wpAny_pure ⟨_, rfl, I.after hq⟩
    | next => exact False.elim hq
    | brk => exact False.elim hq
    | cont => exact False.elim hq
end

/-! ### // by any divisor but 0, below 2 ^ 9000 -/
def CFdv (_ j : Int) : Prop := j ≠ 0 ∧ j.natAbs.log2 < 9000
theorem op_fdv {X : Cx} : OpR X (binaryOp .FloorDiv) (rI CFdv fun i j => .int (i.fdiv j)) :=
  opI fun i j _ _ _ _ _ hc q => floordiv_int hc.1 q (.inl (PyProof.noPylong_of_log2 hc.2))

/-! ### an own error made without arguments -/
theorem pmk_bare {X : Cx} {C : Addr} {bmB : List Value} {B newId initId : String} {x : Str} {p pos : Pos} (F : ExcBaseFacts B newId initId bmB) (q : PySem.W.excIn X.K C bmB newId = true)
    (gC : X.mg x = some (.ref C)) (kC : PySem.W.keepIn X.K (.ref C) = true) (r : Raises X (.ref C)) (hg : Gl X x) (hdb : (x == ("__debug__" : Str)) = false := by decide) :
    PMk X (.Call (.Name x p) [] [] pos) (fun _ H Q => Q (.ref C) none H) := by
  intro pins s sl H Q I h
  refine wpAny_Call_Name_kw (ld_glob I hg gC ?_ hdb)
  refine PySem.W.callWith_K0 I.kIn kC ?_
  obtain ⟨bm, N, nm, qn, bs, hdct, sn, sub, ab, col, dd, k0, k1, k2, k3, k5, mN, hC, hN, hni, T⟩ := exc_obj I.kIn q
  exact wpAny_call_exc_subT F T hC hN hni (fun h' e hm => mk_of I hm r h (I.hok.gone hm.new)) (Nat.zero_le _)
end Fc
set_option Elab.async false
set_option linter.all false
set_option maxRecDepth 100000
set_option maxHeartbeats 4000000
/-! More rules of mine: a new instance or a method's call whose error an except clause takes; isinstance of a caught error with fields. -/
namespace Fc
open PySem PySem.Spec PyProof.Rows L2

section
variable {X : Cx} {CX : CXT} {k : Nat} {C f : Addr} {fd : FuncData} {ps : List Str} {sp : Sp} {E : L2.St → XK}
/-- C(..), where what is raised is wished for at the slots -/
def tMakeS (C : Addr) (sp : Sp) (E : L2.St → XK) (t : TA) : TE := fun sl H Q => t sl H fun vs H1 => ∀ x dx, H1 x = none → H1 dx = none → dx ≠ x →
  sp (.ref x :: vs) (upd (upd H1 dx (.own x)) x (.ins C dx [])) (fun v H2 => v = .non ∧ Q (.ref x) H2) (E sl)
theorem run_makeS {pins : List (Addr × Obj)} {sl : L2.St} {H : Hp} {s : Shared} {Q : VK} {us : List Value} {vs : List V} (M : Mk X.K C f)
    (F : FnOk X.prog X.w X.K X.mg X.base CX k f fd ps sp) (hr : Room (k + 1) X.A) (hb : Binds X.K fd ps []) (hx : PassesAt CX X sl (E sl))
    (I : Inv X pins sl H s) (r : Vals vs us)
    (h : ∀ x dx, H x = none → H dx = none → dx ≠ x → sp (.ref x :: vs) (upd (upd H dx (.own x)) x (.ins C dx [])) (fun v H2 => v = .non ∧ Q (.ref x) H2) (E sl)) :
    wpAny (model X.prog X.w) X.A (call (.ref C) us) (EP X pins sl Q) X.xe s := by
  have fr : ∀ j, H (s.heap.objs.size + j) = none := fun j => I.hok.fresh (Nat.le_add_right _ _)
  have hq := h (s.heap.objs.size + 1) s.heap.objs.size (fr 1) (fr 0) (Nat.ne_of_lt (Nat.lt_succ_self _))
  have I2 := Inv.made (C := C) I
  have r2 : Vals (V.ref (s.heap.objs.size + 1) :: vs) (Value.ref (s.heap.objs.size + 1) :: us) := .cons rfl r
  have hl : (Value.ref (s.heap.objs.size + 1) :: us).length = ps.length := r2.length.symm.trans (F.len _ _ _ _ hq)
  have bd := hb { s with heap := (s.heap.push PySem.W.emptyDict).push (PySem.W.instObj C s.heap.objs.size) } (Value.ref (s.heap.objs.size + 1) :: us) I2.kIn (by rw [List.append_nil]; exact hl)
  rw [List.append_nil] at bd
  have run := F.run _ X.stack _ _ ⟨Value.ref (s.heap.objs.size + 1) :: us, []⟩ (Value.ref (s.heap.objs.size + 1) :: us) _ _ (E sl) (hr.make C us []) (I2.env0.make C us []) bd r2 hq
  refine wpAny_call (make_map (f := f) I.kIn M.makes M.init (beq_iff_eq.mp M.fn) (codeAny_mono run fun r s' hq' => ?_))
  cases r with
  | error e => exact hx pins _ _ e s' I2 hq'
  | ok fl =>
    cases fl with
    | ret u =>
      obtain ⟨v, H', I3, rv, ev, q3⟩ := I2.after hq'
      subst ev
      exact ⟨rv, ⟨V.ref (s.heap.objs.size + 1), H', I3, rfl, q3⟩⟩
    | next => exact False.elim hq'
    | brk => exact False.elim hq'
    | cont => exact False.elim hq'
theorem pe_makeS {x : Str} {p pos : Pos} {e : Expr} {es : List Expr} {t : TA} (M : Mk X.K C f) (F : FnOk X.prog X.w X.K X.mg X.base CX k f fd ps sp) (hr : Room (k + 1) X.A)
    (hg : Gl X x) (hm : X.mg x = some (.ref C)) (hb : Binds X.K fd ps []) (hx : ∀ sl, PassesAt CX X sl (E sl)) (ha : PA X (e :: es) t)
    (hdb : (x == ("__debug__" : Str)) = false := by decide) (he : starEach (e :: es) X.env = (false, eval e X.env) :: starEach es X.env := by rfl)
    (hpl : (backTo pos (starEach es X.env)).any (·.1) = false := by rfl) : PE X (.Call (.Name x p) (e :: es) [] pos) (tMakeS C sp E t) :=
  ⟨fun pins s sl H Q I h => wpAny_Call_Name_kw (ld_glob I hg hm (PySem.W.callWith_K (h₀ := X.base) I.ok.mod.kin M.kp
    (thn (ha.run pos pins s sl H _ I h) fun us s1 ⟨vs, H1, I1, r, q⟩ => ⟨I1.kIn, run_makeS M F hr hb (hx sl) I1 r q⟩) he hpl) hdb)⟩

/-- o.m(..), where what is raised is wished for at the slots -/
def tMethS (C : Addr) (m : Str) (sp : Sp) (E : L2.St → XK) (ta : TE) (t : TA) : TE := fun sl H Q => ta sl H fun x H1 => ∃ a dx fs, x = .ref a ∧
  H1 a = some (.ins C dx fs) ∧ fs.lookup m = none ∧ t sl H1 fun vs H2 => sp (x :: vs) H2 Q (E sl)
theorem pe_methS {m : Str} {o e : Expr} {es : List Expr} {ta : TE} {t : TA} {apos pos : Pos} {pl : Sem Bool} (ho : PE X o ta) (c : Cls X.K C) (hm : Meth X.K C m f)
    (F : FnOk X.prog X.w X.K X.mg X.base CX k f fd ps sp) (hr : Room k X.A) (hb : Binds X.K fd ps []) (hx : ∀ sl, PassesAt CX X sl (E sl)) (ha : PA X (e :: es) t)
    (hst : starEach (e :: es) X.env = (false, eval e X.env) :: starEach es X.env := by rfl) (hpl : (backTo pos (starEach es X.env)).any (·.1) = false := by rfl)
    (ht : eval (.Call (.Attribute o m apos) (e :: es) [] pos) X.env = (do
      let v ← eval o X.env
      standAt apos.atName
      let (g, first) ← holding [v] (getMethod v m pl)
      callWith pos g first (backTo pos (starEach (e :: es) X.env)) (backToKw pos (keywordEach [] X.env))) := by rfl) :
    PE X (.Call (.Attribute o m apos) (e :: es) [] pos) (tMethS C m sp E ta t) := by
  refine ⟨fun pins s sl H Q I h => PySem.W.methodCall_KW (pl := pl) (thn (ho.run pins s sl H _ I h) fun u s1 hh => ?_) ht⟩
  obtain ⟨x, H1, I1, rx, a, dx, fs, ex, ea, l, q⟩ := hh
  subst ex
  cases rx
  refine getmeth_ok I1 ea c hm l (PySem.W.callWith_K (first := [.ref a]) (h₀ := X.base) I.ok.mod.kin hm.kp ?_ hst hpl)
  exact thn (ha.run pos pins s1 sl H1 _ I1 q) fun us s2 ⟨vs, H2, I2, r, q2⟩ => ⟨I2.kIn, run_fnS (us := .ref a :: us) (vs := .ref a :: vs) F hr hb (hx sl) I2 (.cons rfl r) q2⟩
end

/-! ### isinstance of a caught error, with or without a dict of its own -/
section
open PySem.W PySem.Calls
variable {prog : Program} {w : World} {A : Around} {E : Value → Shared → Prop} {s : Shared} {K : Frag} {x D : Addr} {ox : Obj} {od : Option Obj}
theorem find_data {name : Str} {a g : Value} (hc : (clsIn K D).isSome = true) (ha : findIn K (.ref D) name = some (some a)) (hg : specialIn K a "__get__" = some (some g))
    (ht : takesIn K a = some true) : findObj K D od name = some (.bind g a) := by
  obtain ⟨cd, e⟩ := Option.isSome_iff_exists.mp hc
  unfold findObj
  rw [e, Option.bind_some, ha, Option.bind_some]
  simp [hg, ht]
theorem err_class {Q : Option Value → Shared → Prop} (T : ExcC K D) (X : K.In s.heap) (I : InstAt s.heap x ox D od) (h : Q (some (.ref D)) { s with toks := s.toks + 1 }) :
    wpAny (model prog w) A (getAttr? (.ref x) "__class__") Q E s := by
  have hf : findObj K D od "__class__" = some (.bind (.builtin "getset_descriptor.__get__") (.builtin "object.__class__")) :=
    find_data (by obtain ⟨cd, hc, _⟩ := any_some T.hd; rw [hc]; rfl) T.ha T.hn T.ht
  obtain ⟨hp, g, d, t, os⟩ := s
  have L0 := I.type (M := model prog w)
  have L1 := looks_findIn (M := model prog w) X T.hg
  have L2 := looks_findIn (M := model prog w) X T.hk
  have L3 := looks_find (M := model prog w) X I hf
  have sub : Looks (model prog w) hp (isInstance (.ref x) (.type "BaseException")) true := L0.andThen (looks_subIn X T.hs)
  have z0 : (false && onTheHeap (Value.builtin "BaseException.__getattribute__")) = false := rfl
  have z2 : (Value.builtin "BaseException.__getattribute__" == Value.builtin "object.__getattribute__") = false := by decide +kernel
  have z1 : (onTheHeap (Value.ref D) && Value.builtin "BaseException.__getattribute__" == Value.builtin "object.__getattribute__") = false := by rw [z2]; rfl
  unfold getAttr? getAttrBy? getAttrBy
  refine wpAny_bind (wpAny_mkText (wpAny_bind (wpAny_attempt (wpAny_holding (wpAny_bind (L0.at (wpAny_bind (L1.at ?_))))))))
  show wpAny _ _ (if (onTheHeap (Value.ref D) && Value.builtin "BaseException.__getattribute__" == Value.builtin "object.__getattribute__") = true then _ else _) _ _ _
  rw [z1, if_neg Bool.false_ne_true]
  unfold getAttrByItsOwn hookBefore
  refine wpAny_bind ?_
  rw [if_pos (show onTheHeap (Value.ref D) = true from rfl)]
  refine L2.at (wpAny_bind (wpAny_attempt (wpAny_holding ?_)))
  unfold callGetattribute
  rw [z0, if_neg Bool.false_ne_true]
  unfold boundAndCalled
  rw [PySem.F.excAttr_ValueError.ga.bind (.ref x)]
  refine wpAny_bind (wpAny_pure ?_)
  show wpAny _ _ (call (.builtin "BaseException.__getattribute__") [.ref x, .str "__class__" t]) _ _ _
  refine wpAny_call (codeAny_call_builtin PySem.F.excAttr_ValueError.ga.plain PySem.F.entry_bexc_ga ?_)
  refine @check_slot (model prog w) _ _ ⟨hp, g, d, t + 1, os⟩ "BaseException.__getattribute__" "BaseException" "__getattribute__" (.ref x)
    [.str "__class__" t] [] _ (by decide +kernel) (by decide +kernel) sub (PySem.F.args_bexc_ga (.ref x) (.str "__class__" t)) ?_
  unfold Builtin.«object.__getattribute__»
  refine wpAny_bind (wpAny_of_eq (a := ((Value.ref x : Value), [Value.str "__class__" t])) (by first | rfl | (simp only [slotArgs]; rfl)) ?_)
  refine wpAny_bind (wpAny_pure (wpAny_bind (L0.at (wpAny_bind (L3.at ?_)))))
  show wpAny _ _ (holding [Value.builtin "object.__class__"] (call (.builtin "getset_descriptor.__get__") [.builtin "object.__class__", .ref x, .ref D]) >>= ret) _ _ _
  refine wpAny_bind (wpAny_holding (wpAny_call (class_get (s := ⟨hp, g, d, t + 1, os⟩) (ox := ox) (od := od) X I T.hm (wpAny_pure ?_))))
  show wpAny _ _ (handedOut (.ref D)) _ _ _
  rw [handedOut_of (v := .ref D) rfl]
  first
    | exact wpAny_pure (wpAny_pure h)
    | exact wpAny_pure h
    | exact wpAny_pure (wpAny_bind (wpAny_pure (wpAny_pure h)))
theorem kit_err (T : ExcC K D) : KitX K (.ref x) (.ref D) (fun h => InstAt h x ox D od) where
  ty := fun _ _ _ I => I.type
  it := fun _ _ X _ => by
    obtain ⟨cd, e, _⟩ := any_some T.hd
    unfold clsIn at e
    split at e
    · rename_i z
      exact fun A' Q' E' s' k q => by
        unfold isType loadHead
        exact wpAny_bind (wpAny_loadPart (k _ _ (X _ _ z)) (wpAny_pure q))
    · cases e
  ne := fun h tp dd its n sl X htp => (handS_kitx_exc (x := x) (ox := ox) T.hg T.hk T.hs T.hd T.ha T.hn T.ht T.hm).ne h tp dd its n sl X htp
  ca := fun X I k => err_class T X I k
end
/-- isinstance(e, c), e the error that the suite holds; its own dict, where it has one, is tracked -/
def rIsX (K : PySem.W.Frag) (cls : Value) (d : Option Addr) (a : Addr) : List V → Hp → VK → Prop := fun xs H Q => ∃ (D : Addr) (c : V) (cv : Value) (b : Bool),
  cls = .ref D ∧ ExcC K D ∧ (∀ dd, d = some dd → ∃ fs, H dd = some (.xd fs)) ∧ xs = [.ref a, c] ∧ (∀ u, RelV c u → u = cv) ∧ PySem.W.kitOne K (.ref D) cv = some b ∧ Q (.bl b) H
theorem call_isX {X : Cx} {a : Addr} {cls : Value} {d : Option Addr} {oe : Obj} {pn : List (Addr × Obj)} (hz : Zc cls d oe) (hf : ∃ vs, oe.data = .fields vs) :
    CallR (X.suite a ((a, oe) :: pn)) (.builtin "isinstance") (rIsX X.K cls d a) := by
  intro pins s sl H xs us Q I r h
  obtain ⟨D, c, cv, b, rfl, T, hd, rfl, hcv, e, q⟩ := h
  obtain ⟨u1, u2, rfl, r1, r2⟩ := vals2 r
  cases r1
  have ec := hcv _ r2
  subst ec
  obtain ⟨hget, _⟩ := I.pin (a, oe) (List.mem_append.mpr (.inl List.mem_cons_self))
  obtain ⟨vs, hv⟩ := hf
  have fin : ∀ tk, EP (X.suite a ((a, oe) :: pn)) pins sl Q (.bool b) { s with toks := tk } := fun tk => ⟨.bl b, H, I.tok tk, rfl, q⟩
  cases d with
  | none =>
    have J : PySem.W.InstAt s.heap a oe D none := ⟨hget, hz.1, by unfold PySem.W.notCls; rw [hv] <;> rfl, by rw [hz.2]; exact True.intro⟩
    exact PySem.W.kia_one (kit_err T) I.kIn J e (fun z => nomatch z) fin
  | some dd =>
    obtain ⟨fs, hx⟩ := hd dd rfl
    obtain ⟨mA, hns, _⟩ := (show ObjOk X.prog X.w H s.heap dd (.xd fs) from I.hok dd _ hx)
    obtain ⟨od, ho, _⟩ := lookIn_ns hns
    have J : PySem.W.InstAt s.heap a oe D (some od) := ⟨hget, hz.1, by unfold PySem.W.notCls; rw [hv] <;> rfl, by rw [hz.2]; exact ho⟩
    exact PySem.W.kia_one (kit_err T) I.kIn J e (fun z => nomatch z) fin
end Fc
set_option Elab.async false
set_option linter.all false
set_option maxRecDepth 100000
set_option maxHeartbeats 4000000
/-! == of an own instance with other kinds, both ways round. -/
namespace Fc
open PySem PySem.Spec PyProof.Rows L2
open AutoSeq1 (wpAny_loadPart')
section
open PySem.W
variable {prog : Program} {w : World} {A : Around} {E : Value → Shared → Prop} {s : Shared} {K : Frag} {x C f : Addr} {ox : Obj} {od : Option Obj}
/-- other == x: other's own == declines, then x's is asked -/
theorem rc_back {b : Value} {T id : String} {Q : Value → Shared → Prop} (hu : A.units < cLine) (hT : s.TypeIs b T) (slot : Slot T (cmpInfo .Eq).2.1 id) (X : K.In s.heap) (I : InstAt s.heap x ox C od)
    (hsub : subIn K (.ref C) (.type T) = some false) (hs : findIn K (.ref C) "__eq__" = some (some (.ref f))) (hf : isFn K (.ref f) = true)
    (decl : ∀ Q' : Value → Shared → Prop, Q' .notImplemented s → wpAny (model prog w) A (call (.builtin id) [b, .ref x]) Q' E s)
    (h : wpAny (model prog w) A (call (.ref f) [.ref x, b]) (PySem.W.CmpBack Q) E s) : wpAny (model prog w) A (richCompare .Eq b (.ref x)) Q E s := by
  have one : wpAny (model prog w) A (tryCompare (.ref x) (cmpInfo .Eq).2.2 b) (fun r s' => ∃ v, r = some v ∧ Q v s') E s := by
    unfold tryCompare
    refine wpAny_bind (ifBound_K X I hs hf (wpAny_mono h (fun v s' hv => ?_) fun _ _ e => e))
    cases v <;> first | exact hv.elim | exact wpAny_pure ⟨_, rfl, hv⟩
  rcases hi : cmpInfo CmpOp.Eq with ⟨sym, g, r⟩
  rw [hi] at slot one
  have hne : (Value.type T != Value.ref C) = true := by simp
  simp only [richCompare, hi, hT.oneThing_none]
  try with_reducible refine wpAny_holding ?_
  refine wpAny_bind (wpAny_cRoomFor_or (.inr hu) ?_)
  refine wpAny_bind (wpAny_typeOf hT (wpAny_bind (I.type.here ?_)))
  simp only [hne, if_true]
  refine wpAny_bind ((looks_subIn X hsub).here ?_)
  simp only [Bool.false_eq_true, if_false, Bool.not_false, if_true]
  refine wpAny_bind (m := tryCompare b _ (.ref x)) (wpAny_tryCompare_declines hT slot (decl _ ⟨rfl, ?_⟩))
  refine wpAny_bind (m := tryCompare (.ref x) _ b) (wpAny_mono one (fun r' s' hr => ?_) fun _ _ e => e)
  obtain ⟨v, rfl, q⟩ := hr
  exact wpAny_pure q
/-- the built-in kinds decline -/
theorem decl_int {i : Int} {t : Tok} {Q : Value → Shared → Prop} (hx : s.heap.get? x = some ox) (hd : ∀ v, ox.data ≠ .prim v) (hq : Q .notImplemented s) :
    wpAny (model prog w) A (call (.builtin "int.__eq__") [.int i t, .ref x]) Q E s := by
  refine GQ.call_here F.slot_int_eq (typeIs_int s i t) F.entry_int_eq (F.args_int_eq_2 _ _) ?_
  obtain ⟨oc, od, da, sl⟩ := ox
  obtain ⟨hp, g, d, tk, os⟩ := s
  cases da
  case prim v => exact absurd rfl (hd v)
  all_goals (wp_walk using wpAny_loadPart' hx)
  all_goals exact hq
theorem decl_str {i : Str} {t : Tok} {Q : Value → Shared → Prop} (hx : s.heap.get? x = some ox) (hd : ∀ v, ox.data ≠ .prim v) (hq : Q .notImplemented s) :
    wpAny (model prog w) A (call (.builtin "str.__eq__") [.str i t, .ref x]) Q E s := by
  refine GQ.call_here F.slot_str_eq (typeIs_str s i t) F.entry_str_eq (F.args_str_eq_2 _ _) ?_
  obtain ⟨oc, od, da, sl⟩ := ox
  obtain ⟨hp, g, d, tk, os⟩ := s
  cases da
  case prim v => exact absurd rfl (hd v)
  all_goals (wp_walk using wpAny_loadPart' hx)
  all_goals exact hq
theorem decl_none {Q : Value → Shared → Prop} (hq : Q .notImplemented s) :
    wpAny (model prog w) A (call (.builtin "NoneType.__eq__") [.none, .ref x]) Q E s := by
  refine GQ.call_here F.slot_NoneType_eq rfl F.entry_NoneType_eq (F.args_NoneType_eq_2 _ _) ?_
  obtain ⟨hp, g, d, tk, os⟩ := s
  wp_walk
  exact hq
theorem decl_tup {l : Addr} {Q : Value → Shared → Prop} (hT : s.TypeIs (.ref l) "tuple") (X : K.In s.heap) (I : InstAt s.heap x ox C od) (hsub : subIn K (.ref C) (.type "tuple") = some false) (hq : Q .notImplemented s) :
    wpAny (model prog w) A (call (.builtin "tuple.__eq__") [.ref l, .ref x]) Q E s := by
  refine GQ.call_here F.slot_tuple_eq hT F.entry_tuple_eq (F.args_tuple_eq_2 _ _) ?_
  have L0 : Looks (model prog w) s.heap (isInstance (.ref x) (.type "tuple")) false := (I.type (M := model prog w)).andThen (looks_subIn X hsub)
  obtain ⟨hp, g, d, tk, os⟩ := s
  wp_walk using L0.at
  exact hq
theorem decl_lst {l : Addr} {Q : Value → Shared → Prop} (hT : s.TypeIs (.ref l) "list") (X : K.In s.heap) (I : InstAt s.heap x ox C od) (hsub : subIn K (.ref C) (.type "list") = some false) (hq : Q .notImplemented s) :
    wpAny (model prog w) A (call (.builtin "list.__eq__") [.ref l, .ref x]) Q E s := by
  refine GQ.call_here F.slot_list_eq hT F.entry_list_eq (F.args_list_eq_2 _ _) ?_
  have L0 : Looks (model prog w) s.heap (isInstance (.ref x) (.type "list")) false := (I.type (M := model prog w)).andThen (looks_subIn X hsub)
  obtain ⟨hp, g, d, tk, os⟩ := s
  wp_walk using L0.at
  exact hq
end

/-- values of built-in kinds whose own == declines -/
inductive BK (H : Hp) : V → String → Prop where
  | int (i : Int) : BK H (.int i) "int"
  | str (x : Str) : BK H (.str x) "str"
  | non : BK H .non "NoneType"
  | tup {a : Addr} {xs : List V} (h : H a = some (.tup xs)) : BK H (.ref a) "tuple"
  | lst {a : Addr} {xs : List V} (h : H a = some (.lst xs)) : BK H (.ref a) "list"
theorem BK.ty {K : PySem.W.Frag} {H : Hp} {x : V} {t : String} (b : BK H x t) : TyX K H x (.type t) := by
  cases b with
  | int i => exact .base (.int i)
  | str x => exact .base (.str x)
  | non => exact .base .non
  | tup h => exact .base (.tup h)
  | lst h => exact .base (.lst h)
theorem BK.mem {H : Hp} {x : V} {t : String} (b : BK H x t) : t ∈ ["int", "str", "NoneType", "tuple", "list"] := by
  cases b <;> decide
/-- ==, where one of the two at least is an instance of the class at C -/
def rEqR (K : PySem.W.Frag) (C : Addr) (sp : Sp) (E : XK) : R2 := fun x y H Q =>
  (∃ a dx fs t, x = .ref a ∧ H a = some (.ins C dx fs) ∧ TyX K H y t ∧ PySem.W.notFirst K C t = true ∧ sp [.ref a, y] H Q E) ∨
  (∃ a dx fs t, y = .ref a ∧ H a = some (.ins C dx fs) ∧ BK H x t ∧ sp [.ref a, x] H Q E)
theorem op_eqR {X : Cx} {CX : CXT} {k : Nat} {C f : Addr} {fd : FuncData} {ps : List Str} {sp : Sp} {E : XK}
    (sub : ∀ t, t ∈ ["int", "str", "NoneType", "tuple", "list"] → PySem.W.subIn X.K (.type t) (.ref C) = some false ∧ PySem.W.subIn X.K (.ref C) (.type t) = some false)
    (hs : PySem.W.findIn X.K (.ref C) "__eq__" = some (some (.ref f))) (hf : PySem.W.isFn X.K (.ref f) = true)
    (F : FnOk X.prog X.w X.K X.mg X.base CX k f fd ps sp) (hr : Room k X.A) (hb : Binds X.K fd ps []) (hx : Passes CX X E) :
    OpR X (compareOp .Eq) (rEqR X.K C sp E) := by
  intro pins s sl H x y u v Q I rx ry h
  show wpAny (model X.prog X.w) X.A (richCompare .Eq u v) (EP X pins sl Q) X.xe s
  rcases h with ⟨a, dx, fs, t, rfl, ha, ty, nf, q⟩ | ⟨a, dx, fs, t, rfl, ha, bk, q⟩
  · cases rx
    obtain ⟨ox, od, J⟩ := inst_at I ha
    obtain ⟨m, hF⟩ := I.fr
    obtain ⟨PP, Z, p, _⟩ := kit_of I ry ty
    exact PySem.W.cmp_K (op := .Eq) hr.units0 hF I.ok.mod.kin J (Z.ty _ _ I.kIn p) nf hs hf
      (thn (run_fn (vs := [.ref a, y]) (us := [.ref a, v]) F hr hb .nil hx I (.cons rfl (.cons ry .nil)) q) fun _ _ z => cmpBack z)
  · cases ry
    obtain ⟨mA, O, _⟩ := ins_get I.hok ha
    obtain ⟨od, J, _⟩ := O.look
    have own := thn (run_fn (vs := [.ref a, x]) (us := [.ref a, u]) F hr hb .nil hx I (.cons rfl (.cons rx .nil)) q) fun _ _ z => cmpBack z
    have s2 := (sub t bk.mem).2
    cases bk with
    | int i =>
      obtain ⟨tk, rfl⟩ := rx
      exact rc_back hr.units0 (typeIs_int s i tk) PySem.F.slot_int_eq I.kIn J s2 hs hf (fun Q' hq => decl_int O.obj (fun w z => by cases z) hq) own
    | str i =>
      obtain ⟨tk, rfl⟩ := rx
      exact rc_back hr.units0 (typeIs_str s i tk) PySem.F.slot_str_eq I.kIn J s2 hs hf (fun Q' hq => decl_str O.obj (fun w z => by cases z) hq) own
    | non =>
      cases rx
      exact rc_back hr.units0 rfl PySem.F.slot_NoneType_eq I.kIn J s2 hs hf (fun Q' hq => decl_none hq) own
    | @tup l xs hl =>
      cases rx
      obtain ⟨_, its, _, o, h1, h2, _⟩ := (show ObjOk X.prog X.w H s.heap l (.tup xs) from I.hok l _ hl)
      have hT : s.TypeIs (.ref l) "tuple" := ⟨o, h1, h2⟩
      exact rc_back hr.units0 hT PySem.F.slot_tuple_eq I.kIn J s2 hs hf (fun Q' hq => decl_tup hT I.kIn J s2 hq) own
    | @lst l xs hl =>
      cases rx
      obtain ⟨_, its, n, _, h1⟩ := (show ObjOk X.prog X.w H s.heap l (.lst xs) from I.hok l _ hl)
      have hT : s.TypeIs (.ref l) "list" := ⟨_, h1, rfl⟩
      exact rc_back hr.units0 hT PySem.F.slot_list_eq I.kIn J s2 hs hf (fun Q' hq => decl_lst hT I.kIn J s2 hq) own
end Fc
set_option Elab.async false
set_option maxHeartbeats 4000000
/-! Plain mathematics: lowest terms, Euclid's steps. -/
namespace Fc

/-- top and bottom in lowest terms, the bottom above 0 -/
def lo (t b : Int) : Int × Int := if b < 0 then (-t / (Int.gcd t b : Int), -b / (Int.gcd t b : Int)) else (t / (Int.gcd t b : Int), b / (Int.gcd t b : Int))

theorem gcd_pos {t b : Int} (h : b ≠ 0) : (0 : Int) < (Int.gcd t b : Int) := by
  have : 0 < Int.gcd t b := Int.gcd_pos_of_ne_zero_right t h
  omega
theorem fdv_neg (a g : Int) (hg : 0 < g) : a.fdiv (-g) = -a / g := by
  have e : a.fdiv (-g) = (- -a).fdiv (-g) := by rw [Int.neg_neg]
  rw [e, Int.neg_fdiv_neg, Int.fdiv_eq_ediv_of_nonneg _ (by omega)]
/-- as the program reckons it: both by the divisor with the bottom's sign -/
theorem lo_prog {t b : Int} (h : b ≠ 0) : lo t b =
    (t.fdiv (if b < 0 then -(Int.gcd t b : Int) else (Int.gcd t b : Int)), b.fdiv (if b < 0 then -(Int.gcd t b : Int) else (Int.gcd t b : Int))) := by
  have g := gcd_pos (t := t) h
  unfold lo
  by_cases c : b < 0
  · simp only [if_pos c, fdv_neg _ _ g]
  · simp only [if_neg c, Int.fdiv_eq_ediv_of_nonneg _ (Int.le_of_lt g)]

/-- the two facts that say it all: what is divided is the common divisor -/
theorem lo_split {t b : Int} (h : b ≠ 0) : ∃ k : Int, k ≠ 0 ∧ t = (lo t b).1 * k ∧ b = (lo t b).2 * k ∧ 0 < (lo t b).2 ∧ Int.gcd (lo t b).1 (lo t b).2 = 1 ∧ k.natAbs = Int.gcd t b := by
  have g := gcd_pos (t := t) h
  have d1 : (Int.gcd t b : Int) ∣ t := Int.gcd_dvd_left _ _
  have d2 : (Int.gcd t b : Int) ∣ b := Int.gcd_dvd_right _ _
  obtain ⟨x, hx⟩ := d1
  obtain ⟨y, hy⟩ := d2
  have e1 : t / (Int.gcd t b : Int) = x := by
    exact Int.ediv_eq_of_eq_mul_right (by omega) hx
  have e2 : b / (Int.gcd t b : Int) = y := by
    exact Int.ediv_eq_of_eq_mul_right (by omega) hy
  have e3 : -t / (Int.gcd t b : Int) = -x := by
    have : -t = (Int.gcd t b : Int) * (-x) := by rw [Int.mul_neg, ← hx]
    rw [this]
    exact Int.mul_ediv_cancel_left _ (by omega)
  have e4 : -b / (Int.gcd t b : Int) = -y := by
    have : -b = (Int.gcd t b : Int) * (-y) := by rw [Int.mul_neg, ← hy]
    rw [this]
    exact Int.mul_ediv_cancel_left _ (by omega)
  have cop : Int.gcd x y = 1 := by
    have z : Int.gcd t b = (Int.gcd t b) * Int.gcd x y := by
      have q : Int.gcd ((Int.gcd t b : Int) * x) ((Int.gcd t b : Int) * y) = (Int.gcd t b : Int).natAbs * Int.gcd x y := Int.gcd_mul_left ..
      rw [← hx, ← hy] at q
      simpa using q
    have gp : 0 < Int.gcd t b := by omega
    have : Int.gcd t b * 1 = Int.gcd t b * Int.gcd x y := by omega
    exact (Nat.eq_of_mul_eq_mul_left gp this).symm
  have ypos : b < 0 → y < 0 := fun c => by
    rcases Int.lt_trichotomy y 0 with q | q | q
    · exact q
    · subst q; omega
    · have := Int.mul_pos g q; omega
  have ypos' : ¬ b < 0 → 0 < y := fun c => by
    rcases Int.lt_trichotomy y 0 with q | q | q
    · have := Int.mul_neg_of_pos_of_neg g q; omega
    · subst q; omega
    · exact q
  by_cases c : b < 0
  · refine ⟨-(Int.gcd t b : Int), by omega, ?_, ?_, ?_, ?_, by omega⟩
    · unfold lo; rw [if_pos c, e3, Int.neg_mul_neg, Int.mul_comm]; exact hx
    · unfold lo; rw [if_pos c, e4, Int.neg_mul_neg, Int.mul_comm]; exact hy
    · unfold lo; rw [if_pos c, e4]; have := ypos c; show 0 < -y; omega
    · unfold lo; rw [if_pos c, e3, e4]; show Int.gcd (-x) (-y) = 1; rw [Int.neg_gcd, Int.gcd_neg]; exact cop
  · refine ⟨(Int.gcd t b : Int), by omega, ?_, ?_, ?_, ?_, by omega⟩
    · unfold lo; rw [if_neg c, e1, Int.mul_comm]; exact hx
    · unfold lo; rw [if_neg c, e2, Int.mul_comm]; exact hy
    · unfold lo; rw [if_neg c, e2]; exact ypos' c
    · unfold lo; rw [if_neg c, e1, e2]; exact cop
theorem lo_pos {t b : Int} (h : b ≠ 0) : 0 < (lo t b).2 := let ⟨_, _, _, _, p, _⟩ := lo_split (t := t) h; p
theorem lo_cop {t b : Int} (h : b ≠ 0) : Int.gcd (lo t b).1 (lo t b).2 = 1 := let ⟨_, _, _, _, _, p, _⟩ := lo_split (t := t) h; p
theorem lo_cross {t b : Int} (h : b ≠ 0) : (lo t b).1 * b = t * (lo t b).2 := by
  obtain ⟨k, _, e1, e2, _⟩ := lo_split (t := t) h
  have : (lo t b).1 * ((lo t b).2 * k) = (lo t b).1 * k * (lo t b).2 := by ac_rfl
  rw [← e1, ← e2] at this
  exact this

theorem dvd_cop {a b d : Int} (h : Int.gcd a b = 1) (e : b ∣ a * d) : b ∣ d := by
  have c : Nat.Coprime b.natAbs a.natAbs := by
    have : Nat.gcd a.natAbs b.natAbs = 1 := h
    rwa [Nat.gcd_comm] at this
  have q := Int.natAbs_dvd_natAbs.mpr e
  rw [Int.natAbs_mul] at q
  exact Int.natAbs_dvd_natAbs.mp (c.dvd_of_dvd_mul_left q)
/-- lowest terms are one pair -/
theorem low_one {a b c d : Int} (hb : 0 < b) (hd : 0 < d) (h1 : Int.gcd a b = 1) (h2 : Int.gcd c d = 1) (e : a * d = c * b) : a = c ∧ b = d := by
  have d1 : b ∣ d := by
    have : b ∣ a * d := by rw [e]; exact Int.dvd_mul_left _ _
    exact dvd_cop h1 this
  have d2 : d ∣ b := by
    have : d ∣ c * b := by rw [← e]; exact Int.dvd_mul_left _ _
    exact dvd_cop h2 this
  have eq : b = d := Int.le_antisymm (Int.le_of_dvd hd d1) (Int.le_of_dvd hb d2)
  subst eq
  exact ⟨Int.eq_of_mul_eq_mul_right (by omega) e, rfl⟩
theorem lo_eq {t b u d : Int} (hb : b ≠ 0) (hd : d ≠ 0) (e : t * d = u * b) : lo t b = lo u d := by
  obtain ⟨k, k0, e1, e2, p, cp, _⟩ := lo_split (t := t) hb
  obtain ⟨m, m0, e3, e4, q, cq, _⟩ := lo_split (t := u) hd
  have z : (lo t b).1 * (lo u d).2 = (lo u d).1 * (lo t b).2 := by
    have : ((lo t b).1 * (lo u d).2) * (k * m) = ((lo u d).1 * (lo t b).2) * (k * m) := by
      have l : ((lo t b).1 * (lo u d).2) * (k * m) = ((lo t b).1 * k) * ((lo u d).2 * m) := by ac_rfl
      have r : ((lo u d).1 * (lo t b).2) * (k * m) = ((lo u d).1 * m) * ((lo t b).2 * k) := by ac_rfl
      rw [l, r, ← e1, ← e2, ← e3, ← e4]
      exact e
    exact Int.eq_of_mul_eq_mul_right (Int.mul_ne_zero k0 m0) this
  obtain ⟨h1, h2⟩ := low_one p q cp cq z
  exact Prod.ext h1 h2
theorem lo_mul {t b k : Int} (hb : b ≠ 0) (hk : k ≠ 0) : lo (t * k) (b * k) = lo t b :=
  lo_eq (Int.mul_ne_zero hb hk) hb (by ac_rfl)
theorem lo_self {t b : Int} (hb : 0 < b) (h : Int.gcd t b = 1) : lo t b = (t, b) := by
  unfold lo
  rw [if_neg (by omega), h]
  simp
theorem lo_one (t : Int) : lo t 1 = (t, 1) := lo_self (by decide) (by simp)
theorem lo_zero {b : Int} (hb : b ≠ 0) : lo 0 b = (0, 1) := by
  have := lo_eq (t := 0) (u := 0) (d := 1) hb (by decide) (by simp)
  rw [this, lo_one]
theorem lo_self2 {t b : Int} (hb : b ≠ 0) : lo (lo t b).1 (lo t b).2 = lo t b := lo_self (lo_pos hb) (lo_cop hb)
theorem natAbs_le_mul {a k : Int} (hk : k ≠ 0) : a.natAbs ≤ (a * k).natAbs := by
  rw [Int.natAbs_mul]
  have : 1 ≤ k.natAbs := by omega
  exact Nat.le_mul_of_pos_right _ this
theorem lo_top_le {t b : Int} (h : b ≠ 0) : (lo t b).1.natAbs ≤ t.natAbs := by
  obtain ⟨k, k0, e1, _⟩ := lo_split (t := t) h
  conv => rhs; rw [e1]
  exact natAbs_le_mul k0
theorem lo_bot_le {t b : Int} (h : b ≠ 0) : (lo t b).2.natAbs ≤ b.natAbs := by
  obtain ⟨k, k0, _, e2, _⟩ := lo_split (t := t) h
  conv => rhs; rw [e2]
  exact natAbs_le_mul k0

/-! ### Euclid, step by step, as the law does it -/
structure Eu (g i a b : Nat) : Prop where
  gcd : Nat.gcd a b = g
  even : i % 2 = 0 → b < 2 ^ (750 - i / 2)
  odd : i % 2 = 1 → b < a ∧ a < 2 ^ (750 - i / 2)
theorem Eu.turn {g i a b : Nat} (h : Eu g i a b) (hb : b ≠ 0) (hi : i < 1500) : Eu g (i + 1) b (a % b) := by
  have lt : a % b < b := Nat.mod_lt _ (by omega)
  refine ⟨?_, fun e => ?_, fun o => ?_⟩
  · have := h.gcd
    rw [Nat.gcd_comm, ← Nat.gcd_rec, Nat.gcd_comm]
    exact this
  · have o : i % 2 = 1 := by omega
    obtain ⟨h1, h2⟩ := h.odd o
    have ex : 750 - i / 2 = (750 - (i + 1) / 2) + 1 := by omega
    rw [ex, Nat.pow_succ] at h2
    have hd := Nat.div_add_mod a b
    have q1 : 1 ≤ a / b := (Nat.one_le_div_iff (by omega)).mpr (by omega)
    have q2 : b * 1 ≤ b * (a / b) := Nat.mul_le_mul_left b q1
    omega
  · have e : i % 2 = 0 := by omega
    have := h.even e
    refine ⟨lt, ?_⟩
    have ex : (i + 1) / 2 = i / 2 := by omega
    rw [ex]
    exact this
theorem Eu.done {g a b : Nat} (h : Eu g 1500 a b) : b = 0 := by
  have := h.even (by decide)
  simpa using this
theorem Eu.zero {g i a : Nat} (h : Eu g i a 0) : a = g := by
  have := h.gcd
  simpa using this
theorem Eu.start {a b : Nat} (h : b < 2 ^ 750) : Eu (Nat.gcd a b) 0 a b := ⟨rfl, fun _ => by simpa using h, fun e => by omega⟩

theorem pow_cop {a b : Int} (n : Nat) (h : Int.gcd a b = 1) : Int.gcd (a ^ n) (b ^ n) = 1 := by
  have : Nat.Coprime (a.natAbs ^ n) (b.natAbs ^ n) := Nat.Coprime.pow n n h
  show Nat.gcd (a ^ n).natAbs (b ^ n).natAbs = 1
  rw [Int.natAbs_pow, Int.natAbs_pow]
  exact this
end Fc
set_option Elab.async false
set_option linter.all false
set_option maxRecDepth 100000
set_option maxHeartbeats 4000000
set_option exponentiation.threshold 100000
/-! What does not hang on a law: sizes, heaps, Ratios and pairs on the heap, the pot, promises. -/
namespace Fc
open PySem PySem.Spec PyProof.Rows L2
/-! ### sizes -/
/-- below 2 ^ n in size -/
def Bd (n : Nat) (i : Int) : Prop := i.natAbs < 2 ^ n
theorem Bd.mono {n m : Nat} {i : Int} (h : Bd n i) (l : n ≤ m) : Bd m i := Nat.lt_of_lt_of_le h (Nat.pow_le_pow_right (by decide) l)
theorem Bd.mul {n m : Nat} {i j : Int} (h : Bd n i) (g : Bd m j) : Bd (n + m) (i * j) := wide_lt h g
theorem Bd.add {n : Nat} {i j : Int} (h : Bd n i) (g : Bd n j) : Bd (n + 1) (i + j) := by
  unfold Bd at *
  rw [Nat.pow_succ]
  omega
theorem Bd.sub {n : Nat} {i j : Int} (h : Bd n i) (g : Bd n j) : Bd (n + 1) (i - j) := by
  unfold Bd at *
  rw [Nat.pow_succ]
  omega
theorem Bd.neg {n : Nat} {i : Int} (h : Bd n i) : Bd n (-i) := by
  unfold Bd at *
  omega
theorem Bd.abs {n : Nat} {i j : Int} (h : Bd n i) (e : j.natAbs ≤ i.natAbs) : Bd n j := Nat.lt_of_le_of_lt e h
theorem Bd.w {n m : Nat} {i j : Int} (h : Bd n i) (g : Bd m j) (a : 0 < n := by decide) (b : 0 < m := by decide) (l : n + m ≤ 1000000 := by decide) : CMulW i j := wide_mul h g a b l
theorem Bd.fdv {n : Nat} {i j : Int} (h : Bd n j) (a : j ≠ 0) (b : 0 < n := by decide) (l : n ≤ 9000 := by decide) : CFdv i j := ⟨a, Nat.lt_of_lt_of_le (PySem.Flt.log2_lt_of b h) l⟩
theorem Bd.div {n : Nat} {i j : Int} (h : Bd n j) (a : 0 < j) (b : 0 < n := by decide) (l : n ≤ 9000 := by decide) : CDivW i j := wide_div a h b l

/-! ### heaps -/
abbrev Ex (H H' : Hp) : Prop := Same H H'
theorem Ex.new {H : Hp} {p : Addr} {o : HO} (h : H p = none) : Ex H (upd H p o) := fun a u e => by rw [upd_ne (ne_of_none e h)]; exact e
theorem Ex.to {H H1 : Hp} {p : Addr} {o : HO} (x : Ex H H1) (h : H1 p = none) : Ex H (upd H1 p o) := x.trans (Ex.new h)
/-- all but what stands at p is as it was -/
def Keep (p : Addr) (H H' : Hp) : Prop := ∀ b o, H b = some o → b ≠ p → H' b = some o
theorem Keep.refl {p : Addr} {H : Hp} : Keep p H H := fun _ _ h _ => h
theorem Keep.trans {p : Addr} {H H1 H2 : Hp} (a : Keep p H H1) (b : Keep p H1 H2) : Keep p H H2 := fun c o h n => b c o (a c o h n) n
theorem Keep.of {p : Addr} {H H' : Hp} (h : Ex H H') : Keep p H H' := fun c o e _ => h c o e
theorem Keep.upd {p : Addr} {H : Hp} {o : HO} : Keep p H (upd H p o) := fun c u e n => by rw [upd_ne n]; exact e
theorem Keep.new {p q : Addr} {H : Hp} {o : HO} (h : H q = none) : Keep p H (L2.upd H q o) := Keep.of (Ex.new h)

/-- the fields of a Ratio -/
def rf (p : Int × Int) : List (Str × V) := [("top", .int p.1), ("bottom", .int p.2)]
theorem ne_tb : ¬ (("top" : Str) = "bottom") := by decide +kernel
theorem rf_put (t b : Int) : putF "bottom" (.int b) (putF "top" (.int t) []) = rf (t, b) := by
  show (if ("top" : Str) = "bottom" then _ else (("top" : Str), V.int t) :: putF "bottom" (.int b) []) = rf (t, b)
  rw [if_neg ne_tb]
  rfl
theorem rf_top (p : Int × Int) : (rf p).lookup ("top" : Str) = some (.int p.1) := by simp [rf, List.lookup]
theorem rf_bot (p : Int × Int) : (rf p).lookup ("bottom" : Str) = some (.int p.2) := by
  have : (("bottom" : Str) == "top") = false := by decide +kernel
  simp [rf, List.lookup, this]
theorem rf_no (p : Int × Int) {m : Str} (h : (m == "top") = false) (h2 : (m == "bottom") = false) : (rf p).lookup m = none := by
  simp [rf, List.lookup, h, h2]
/-- a Ratio with the fields p stands at a -/
def RatAt (C : Addr) (H : Hp) (a : Addr) (p : Int × Int) : Prop := ∃ dx, H a = some (.ins C dx (rf p))
theorem RatAt.ex {C : Addr} {H H' : Hp} {a : Addr} {p : Int × Int} (r : RatAt C H a p) (e : Ex H H') : RatAt C H' a p := let ⟨dx, h⟩ := r; ⟨dx, e _ _ h⟩
/-- a pair of whole numbers stands at a -/
def Pr (H : Hp) (a : Addr) (p : Int × Int) : Prop := H a = some (.tup [.int p.1, .int p.2])
theorem Pr.ex {H H' : Hp} {a : Addr} {p : Int × Int} (r : Pr H a p) (e : Ex H H') : Pr H' a p := e _ _ r
/-- a fair pair: the bottom above 0, both of at most n digits in base 2 -/
structure Sm (n : Nat) (p : Int × Int) : Prop where
  t : Bd n p.1
  b : Bd n p.2
  pos : 0 < p.2
theorem Sm.mono {n m : Nat} {p : Int × Int} (h : Sm n p) (l : n ≤ m) : Sm m p := ⟨h.t.mono l, h.b.mono l, h.pos⟩
theorem Sm.lo {n : Nat} {t b : Int} (ht : Bd n t) (hb : Bd n b) (h : b ≠ 0) : Sm n (lo t b) := ⟨ht.abs (lo_top_le h), hb.abs (lo_bot_le h), lo_pos h⟩
theorem pos_ne {b : Int} (h : 0 < b) : b ≠ 0 := by omega

theorem passF {X : Cx} {E : XK} : Passes CX0 X E := fun _ _ _ _ _ _ _ h => h.elim
theorem Sm.ne {n : Nat} {p : Int × Int} (h : Sm n p) : p.2 ≠ 0 := pos_ne h.pos
theorem Sm.nn {n m : Nat} {p q : Int × Int} (h : Sm n p) (g : Sm m q) : p.2 * q.2 ≠ 0 := Int.mul_ne_zero h.ne g.ne
theorem Bd.pow {m : Nat} {a : Int} (h : Bd m a) : ∀ i : Nat, Bd (m * i + 1) (a ^ i)
  | 0 => by unfold Bd; rw [Int.pow_zero, Nat.mul_zero]; decide
  | i + 1 => by
    rw [Int.pow_succ]
    exact ((Bd.pow h i).mul h).mono (by rw [Nat.mul_succ]; omega)
/-- the pot: a list of the cells, the place, and what is left of the cell -/
def PotAt (H : Hp) (p : Addr) : Prop := ∃ (l : Addr) (cs : List Int) (i c : Int), p ≠ l ∧ H p = some (.lst [.ref l, .int i, .int c]) ∧ H l = some (.lst (cs.map V.int)) ∧
  cs.length ≤ 63 ∧ 0 ≤ i ∧ 0 ≤ c ∧ ∀ z ∈ cs, 0 ≤ z
theorem PotAt.ex {H H' : Hp} {p : Addr} (h : PotAt H p) (e : Ex H H') : PotAt H' p := by
  obtain ⟨l, cs, i, c, ne, h1, h2, r⟩ := h
  exact ⟨l, cs, i, c, ne, e _ _ h1, e _ _ h2, r⟩
theorem PotAt.ne {H : Hp} {p t : Addr} (h : PotAt H p) (n : H t = none) : t ≠ p := fun e => by
  obtain ⟨l, cs, i, c, ne, h1, h2, r⟩ := h
  rw [e, h1] at n
  cases n
theorem Keep.free {p t : Addr} {H H' : Hp} (k : Keep p H H') (h : PotAt H' p) (n : H' t = none) : H t = none := by
  cases q : H t with
  | none => rfl
  | some o =>
    rw [k t o q (h.ne n)] at n
    cases n
theorem Pr.ne {H : Hp} {p t : Addr} {q : Int × Int} (r : Pr H t q) (h : PotAt H p) : t ≠ p := by
  obtain ⟨l, cs, i, c, ne, h1, h2, _⟩ := h
  exact ne_of r h1 (by intro z; cases z)
theorem Pr.keep {H H' : Hp} {p t : Addr} {q : Int × Int} (r : Pr H t q) (h : PotAt H p) (k : Keep p H H') : Pr H' t q := k t _ r (r.ne h)
theorem sz3 : 3 ≤ sizeLine := by rw [sizeLine_eq]; decide
theorem sz2 : 2 ≤ sizeLine := by rw [sizeLine_eq]; decide
def spStart (K : PySem.W.Frag) : Sp := fun vs H Q _ => ∃ (a : Addr) (ns : List Int), vs = [.ref a] ∧ SqL K H a (ns.map V.int) ∧ ns.length ≤ 63 ∧
  ∀ p H', PotAt H' p → Ex H H' → H p = none → Q (.ref p) H'
/-- a digit of the pot: all that is said of it is that it is below many -/
def spDigit : Sp := fun vs H Q _ => ∃ (p : Addr) (m : Int), vs = [.ref p, .int m] ∧ PotAt H p ∧ 0 < m ∧ Bd 300 m ∧
  ∀ d H', 0 ≤ d → d < m → PotAt H' p → Keep p H H' → Q (.int d) H'
/-- a drawn fraction -/
def spFraction : Sp := fun vs H Q _ => ∃ (p : Addr), vs = [.ref p] ∧ PotAt H p ∧ ∀ t q H', Pr H' t q → H t = none → Sm 220 q → PotAt H' p → Keep p H H' → Q (.ref t) H'
theorem bd_ten : Bd 210 ((10 : Int) ^ (60 : Int).toNat) := by show ((10 : Int) ^ 60).natAbs < 2 ^ 210; decide +kernel
theorem ten_pos : (0 : Int) < (10 : Int) ^ (60 : Int).toNat := by decide +kernel
theorem bd_twel : Bd 60 ((10 : Int) ^ (12 : Int).toNat) := by show ((10 : Int) ^ 12).natAbs < 2 ^ 60; decide +kernel
theorem twel_pos : (0 : Int) < (10 : Int) ^ (12 : Int).toNat := by decide +kernel
theorem bd_two : Bd 2 (2 : Int) := by show (2 : Int).natAbs < 2 ^ 2; decide
theorem bd_of {n : Nat} {i : Int} (h : i.natAbs < 2 ^ n) : Bd n i := h
theorem bd_le {n : Nat} {i j : Int} (h : Bd n j) (a : -j ≤ i) (b : i ≤ j) : Bd n i := by
  unfold Bd at *
  omega
theorem cpow (i : Int) (j : Nat) (h : i.natAbs < 2 ^ 64) (l : j ≤ 1000000) : CPow i (j : Int) := ⟨by omega, by omega, h⟩
def spHanded : Sp := fun vs H Q _ => ∃ (p t : Addr) (q : Int × Int), vs = [.ref p, .ref t] ∧ PotAt H p ∧ Pr H t q ∧ Sm 300 q ∧
  ∀ u k H', k ≠ 0 → Bd 3 k → Pr H' u (q.1 * k, q.2 * k) → H u = none → PotAt H' p → Keep p H H' → Q (.ref u) H'
theorem kit_self {K : PySem.W.Frag} {a : Addr} : PySem.W.kitOne K (.ref a) (.ref a) = some true := by
  unfold PySem.W.kitOne
  rw [if_pos (by simp)]
/-- lowest terms of at most 220 digits in base 2 -/
structure Lw (p : Int × Int) : Prop where
  s : Sm 220 p
  c : Int.gcd p.1 p.2 = 1
theorem Lw.s4 {p : Int × Int} (h : Lw p) : Sm 4000 p := h.s.mono (by decide)
theorem Lw.of {q : Int × Int} (h : Sm 220 q) : Lw (lo q.1 q.2) := ⟨Sm.lo h.t h.b h.ne, lo_cop h.ne⟩
theorem lo_k {q : Int × Int} (h : Sm 300 q) {k : Int} (k0 : k ≠ 0) : lo (q.1 * k) (q.2 * k) = lo q.1 q.2 := lo_mul h.ne k0
theorem bd_k {q : Int × Int} (h : Sm 300 q) {k : Int} (bk : Bd 3 k) : Bd 8900 (q.2 * k) := (h.b.mul bk).mono (by decide)
def spLaw (K : PySem.W.Frag) : Sp := fun vs H Q _ => ∃ (a : Addr) (ns : List Int), vs = [.ref a] ∧ SqL K H a (ns.map V.int) ∧ ns.length ≤ 63 ∧ ∀ H', Q (.bl true) H'
theorem kit_ref {K : PySem.W.Frag} {t : Value} {D : Addr} {b : Bool} (hd : PySem.W.hasDictIn K D = true) (ht : PySem.W.typeIn K (.ref D) = some (.type "type")) (hs : PySem.W.subIn K t (.ref D) = some b) (ne : t ≠ .ref D) : PySem.W.kitOne K t (.ref D) = some b := by
  obtain ⟨cd, hc, _⟩ := PySem.W.any_some hd
  have e2 : ((PySem.W.clsIn K D).isSome && PySem.W.typeIn K (.ref D) == some (.type "type")) = true := by rw [hc, ht] <;> rfl
  unfold PySem.W.kitOne
  rw [if_neg (fun z => ne (beq_iff_eq.mp z))]
  show (if ((PySem.W.clsIn K D).isSome && PySem.W.typeIn K (.ref D) == some (.type "type")) = true then PySem.W.subIn K t (.ref D) else none) = some b
  rw [if_pos e2]
  exact hs
theorem kit_typ {K : PySem.W.Frag} {D : Addr} {S : String} {b : Bool} (hm : PySem.W.kitMeta S = true) (hs : PySem.W.subIn K (.ref D) (.type S) = some b) : PySem.W.kitOne K (.ref D) (.type S) = some b := by
  unfold PySem.W.kitOne
  rw [if_neg (fun z => by cases beq_iff_eq.mp z)]
  show (if PySem.W.kitMeta S = true then PySem.W.subIn K (.ref D) (.type S) else none) = some b
  rw [if_pos hm]
  exact hs
end Fc
set_option Elab.async false
set_option linter.all false
set_option maxRecDepth 100000
set_option maxHeartbeats 4000000
set_option exponentiation.threshold 100000
namespace Fc
open PySem PySem.Spec PyProof.Rows L2
/-! ### the text -/
def top (i : Nat) : Stmt := PySem.Challenge.pw_fewcarry_k02_fraction_order.main.body.getD i (.Pass ⟨0, 0, 0, 0⟩)
abbrev S_init : Stmt := inClass (top 12) 0
abbrev N_init : List Str := ["self", "top", "bottom", "divisor"]
theorem sc_init : FnScope N_init ["self", "top", "bottom"] (defScope S_init) := ⟨rfl, rfl, rfl, by decide +kernel, rfl, by decide +kernel, by decide +kernel⟩
abbrev S_eq : Stmt := inClass (top 12) 8
abbrev N_eq : List Str := ["self", "other"]
theorem sc_eq : FnScope N_eq ["self", "other"] (defScope S_eq) := ⟨rfl, rfl, rfl, by decide +kernel, rfl, by decide +kernel, by decide +kernel⟩
abbrev S_compare : Stmt := inClass (top 12) 11
abbrev N_compare : List Str := ["self", "other", "left", "right"]
theorem sc_compare : FnScope N_compare ["self", "other"] (defScope S_compare) := ⟨rfl, rfl, rfl, by decide +kernel, rfl, by decide +kernel, by decide +kernel⟩
abbrev S_sign : Stmt := inClass (top 12) 12
abbrev N_sign : List Str := ["self"]
theorem sc_sign : FnScope N_sign ["self"] (defScope S_sign) := ⟨rfl, rfl, rfl, by decide +kernel, rfl, by decide +kernel, by decide +kernel⟩
abbrev S_down : Stmt := inClass (top 12) 13
abbrev N_down : List Str := ["self"]
theorem sc_down : FnScope N_down ["self"] (defScope S_down) := ⟨rfl, rfl, rfl, by decide +kernel, rfl, by decide +kernel, by decide +kernel⟩
abbrev S_up : Stmt := inClass (top 12) 14
abbrev N_up : List Str := ["self"]
theorem sc_up : FnScope N_up ["self"] (defScope S_up) := ⟨rfl, rfl, rfl, by decide +kernel, rfl, by decide +kernel, by decide +kernel⟩
abbrev S_start : Stmt := top 14
abbrev N_start : List Str := ["script", "cell"]
theorem sc_start : FnScope N_start ["script"] (defScope S_start) := ⟨rfl, rfl, rfl, by decide +kernel, rfl, by decide +kernel, by decide +kernel⟩
abbrev S_digit : Stmt := top 15
abbrev N_digit : List Str := ["pot", "many", "digit"]
theorem sc_digit : FnScope N_digit ["pot", "many"] (defScope S_digit) := ⟨rfl, rfl, rfl, by decide +kernel, rfl, by decide +kernel, by decide +kernel⟩
abbrev S_fraction : Stmt := top 16
abbrev N_fraction : List Str := ["pot", "kind", "top"]
theorem sc_fraction : FnScope N_fraction ["pot"] (defScope S_fraction) := ⟨rfl, rfl, rfl, by decide +kernel, rfl, by decide +kernel, by decide +kernel⟩
abbrev S_second : Stmt := top 17
abbrev N_second : List Str := ["pot", "p", "kind", "times"]
theorem sc_second : FnScope N_second ["pot", "p"] (defScope S_second) := ⟨rfl, rfl, rfl, by decide +kernel, rfl, by decide +kernel, by decide +kernel⟩
abbrev S_handed : Stmt := top 18
abbrev N_handed : List Str := ["pot", "pair", "times"]
theorem sc_handed : FnScope N_handed ["pot", "pair"] (defScope S_handed) := ⟨rfl, rfl, rfl, by decide +kernel, rfl, by decide +kernel, by decide +kernel⟩
abbrev S_whole : Stmt := top 19
abbrev N_whole : List Str := ["told"]
theorem sc_whole : FnScope N_whole ["told"] (defScope S_whole) := ⟨rfl, rfl, rfl, by decide +kernel, rfl, by decide +kernel, by decide +kernel⟩
abbrev S_order : Stmt := top 20
abbrev N_order : List Str := ["p", "q", "gap"]
theorem sc_order : FnScope N_order ["p", "q"] (defScope S_order) := ⟨rfl, rfl, rfl, by decide +kernel, rfl, by decide +kernel, by decide +kernel⟩
abbrev S_two : Stmt := top 21
abbrev N_two : List Str := ["x", "y", "p", "q", "due", "told", "one"]
theorem sc_two : FnScope N_two ["x", "y", "p", "q"] (defScope S_two) := ⟨rfl, rfl, rfl, by decide +kernel, rfl, by decide +kernel, by decide +kernel⟩
abbrev S_alone : Stmt := top 22
abbrev N_alone : List Str := ["x", "p", "told", "down", "up"]
theorem sc_alone : FnScope N_alone ["x", "p"] (defScope S_alone) := ⟨rfl, rfl, rfl, by decide +kernel, rfl, by decide +kernel, by decide +kernel⟩
abbrev S_other : Stmt := top 23
abbrev N_other : List Str := ["x", "p", "other"]
theorem sc_other : FnScope N_other ["x", "p"] (defScope S_other) := ⟨rfl, rfl, rfl, by decide +kernel, rfl, by decide +kernel, by decide +kernel⟩
abbrev S_law : Stmt := top 24
abbrev N_law : List Str := ["script", "pot", "p", "q", "first", "second", "x", "y", "fields"]
theorem sc_law : FnScope N_law ["script"] (defScope S_law) := ⟨rfl, rfl, rfl, by decide +kernel, rfl, by decide +kernel, by decide +kernel⟩
structure Ad where
  C : Addr
  f_init : Addr
  d_init : FuncData
  Z : Addr
  f_eq : Addr
  d_eq : FuncData
  f_compare : Addr
  d_compare : FuncData
  f_sign : Addr
  d_sign : FuncData
  f_down : Addr
  d_down : FuncData
  f_up : Addr
  d_up : FuncData
  f_start : Addr
  d_start : FuncData
  f_digit : Addr
  d_digit : FuncData
  f_fraction : Addr
  d_fraction : FuncData
  f_second : Addr
  d_second : FuncData
  f_handed : Addr
  d_handed : FuncData
  f_whole : Addr
  d_whole : FuncData
  f_order : Addr
  d_order : FuncData
  f_two : Addr
  d_two : FuncData
  f_alone : Addr
  d_alone : FuncData
  f_other : Addr
  d_other : FuncData
  f_law : Addr
  d_law : FuncData
structure Txt (K : PySem.W.Frag) (mg : Str → Option Value) (A : Ad) : Prop where
  hn : PySem.W.specialIn K (.builtin "object.__class__") "__get__" = some (some (.builtin "getset_descriptor.__get__"))
  htk : PySem.W.takesIn K (.builtin "object.__class__") = some true
  cl : Cls K A.C
  nT : NoAttr K A.C "top"
  nB : NoAttr K A.C "bottom"
  mkC : Mk K A.C A.f_init
  ha : PySem.W.findIn K (.ref A.C) "__class__" = some (some (.builtin "object.__class__"))
  hm : PySem.W.mroIn K A.C (.type "object") = some true
  F_init : FunD K "__init__" "Ratio.__init__" (defArgs S_init) (defBody S_init) (defScope S_init) [.int 1] [] A.f_init A.d_init
  b_init3 : Binds K A.d_init ["self", "top", "bottom"] []
  b_init2 : ∃ ds, Vals [V.int 1] ds ∧ Binds K A.d_init ["self", "top", "bottom"] ds
  g_Ratio : mg "Ratio" = some (.ref A.C)
  g_gcd : mg "gcd" = some (.builtin "math.gcd")
  g_Z : mg "ZeroBottom" = some (.ref A.Z)
  xZ : PySem.W.excIn K A.Z [.type "ValueError", .type "Exception", .type "BaseException", .type "object"] "ValueError.__new__" = true
  kZ : PySem.W.keepIn K (.ref A.Z) = true
  bZ : PySem.W.subIn K (.ref A.Z) (.type "BaseException") = some true
  tZ : PySem.W.typeIn K (.ref A.Z) = some (.type "type")
  tyC : PySem.W.typeIn K (.ref A.C) = some (.type "type")
  sub : ∀ t, t ∈ ["int", "str", "NoneType", "tuple", "list"] → PySem.W.subIn K (.type t) (.ref A.C) = some false ∧ PySem.W.subIn K (.ref A.C) (.type t) = some false
  n_len : mg "len" = none
  n_abs : mg "abs" = none
  n_int : mg "int" = none
  n_bool : mg "bool" = none
  n_isinstance : mg "isinstance" = none
  n_all : mg "all" = none
  n_str : mg "str" = none
  F_eq : Fun K "__eq__" "Ratio.__eq__" S_eq A.f_eq A.d_eq
  b_eq : Binds K A.d_eq ["self", "other"] []
  m_eq : Meth K A.C "__eq__" A.f_eq
  F_compare : Fun K "compare" "Ratio.compare" S_compare A.f_compare A.d_compare
  b_compare : Binds K A.d_compare ["self", "other"] []
  m_compare : Meth K A.C "compare" A.f_compare
  F_sign : Fun K "sign" "Ratio.sign" S_sign A.f_sign A.d_sign
  b_sign : Binds K A.d_sign ["self"] []
  m_sign : Meth K A.C "sign" A.f_sign
  F_down : Fun K "rounded_down" "Ratio.rounded_down" S_down A.f_down A.d_down
  b_down : Binds K A.d_down ["self"] []
  m_down : Meth K A.C "rounded_down" A.f_down
  F_up : Fun K "rounded_up" "Ratio.rounded_up" S_up A.f_up A.d_up
  b_up : Binds K A.d_up ["self"] []
  m_up : Meth K A.C "rounded_up" A.f_up
  F_start : Fun K "_law_start" "_law_start" S_start A.f_start A.d_start
  b_start : Binds K A.d_start ["script"] []
  g_start : mg "_law_start" = some (.ref A.f_start)
  F_digit : Fun K "_law_digit" "_law_digit" S_digit A.f_digit A.d_digit
  b_digit : Binds K A.d_digit ["pot", "many"] []
  g_digit : mg "_law_digit" = some (.ref A.f_digit)
  F_fraction : Fun K "_law_fraction" "_law_fraction" S_fraction A.f_fraction A.d_fraction
  b_fraction : Binds K A.d_fraction ["pot"] []
  g_fraction : mg "_law_fraction" = some (.ref A.f_fraction)
  F_second : Fun K "_law_second" "_law_second" S_second A.f_second A.d_second
  b_second : Binds K A.d_second ["pot", "p"] []
  g_second : mg "_law_second" = some (.ref A.f_second)
  F_handed : Fun K "_law_handed" "_law_handed" S_handed A.f_handed A.d_handed
  b_handed : Binds K A.d_handed ["pot", "pair"] []
  g_handed : mg "_law_handed" = some (.ref A.f_handed)
  F_whole : Fun K "_law_whole" "_law_whole" S_whole A.f_whole A.d_whole
  b_whole : Binds K A.d_whole ["told"] []
  g_whole : mg "_law_whole" = some (.ref A.f_whole)
  F_order : Fun K "_law_order" "_law_order" S_order A.f_order A.d_order
  b_order : Binds K A.d_order ["p", "q"] []
  g_order : mg "_law_order" = some (.ref A.f_order)
  F_two : Fun K "_law_two" "_law_two" S_two A.f_two A.d_two
  b_two : Binds K A.d_two ["x", "y", "p", "q"] []
  g_two : mg "_law_two" = some (.ref A.f_two)
  F_alone : Fun K "_law_alone" "_law_alone" S_alone A.f_alone A.d_alone
  b_alone : Binds K A.d_alone ["x", "p"] []
  g_alone : mg "_law_alone" = some (.ref A.f_alone)
  F_other : Fun K "_law_other_kinds" "_law_other_kinds" S_other A.f_other A.d_other
  b_other : Binds K A.d_other ["x", "p"] []
  g_other : mg "_law_other_kinds" = some (.ref A.f_other)
  F_law : Fun K "law" "law" S_law A.f_law A.d_law
  b_law : Binds K A.d_law ["script"] []
  g_law : mg "law" = some (.ref A.f_law)
section
variable {P : Program} {w : World} {K : PySem.W.Frag} {mg : Str → Option Value} {base : Heap} {A : Ad}
/-! ### Ratio.__init__: raises for a bottom 0, else lowest terms -/
def spInit (A : Ad) : Sp := fun vs H Q E => ∃ (x dx : Addr) (t b : Int), vs = [.ref x, .int t, .int b] ∧ H x = some (.ins A.C dx []) ∧ (b = 0 → E (.ref A.Z) none H) ∧
  (b ≠ 0 → Bd 8900 b ∧ ∀ H', RatAt A.C H' x (lo t b) → (∀ c o, H c = some o → c ≠ x → H' c = some o) → Q .non H')
theorem ok_init (T : Txt K mg A) : FnOk P w K mg base (L2.CX P w) 1 A.f_init A.d_init ["self", "top", "bottom"] (spInit A) := by
  refine T.F_init.ok sc_init (fun vs H Q E h => ?_) (fun cdv Ar outer s H vs Q E hr h => ?_)
  · obtain ⟨x, dx, t, b, rfl, _⟩ := h
    rfl
  · obtain ⟨x, dx, t, b, rfl, hx, k0, k1⟩ := h
    refine ⟨_, (pss_cons (ps_if (pt_cmpR op_eq (pv 2) pe_int (nomark _))
      (pss_one (ps_raise rfl (takes_of rfl rfl rfl rfl) (pmk_bare PySem.F.excBase_ValueError T.xZ T.g_Z T.kZ (raises_own T.bZ T.tZ) rfl))) pss_nil)
      (pss_cons (ps_set (i := 3) sc_init.nd rfl (Or.inl rfl) (pe_callBfun cr_gcd rfl T.g_gcd (pa_cons (pv 1) (pa_cons (pv 2) pa_nil))))
      (pss_cons (ps_if (pt_cmpR op_lt (pv 2) pe_int (nomark _))
      (pss_one (ps_set (i := 3) sc_init.nd rfl (Or.inl rfl) (pe_un un_neg (pv 3)))) pss_nil)
      (pss_cons (ps_fld (pv 0) (pe_op op_fdv (pv 1) (pv 3)) rfl)
      (pss_one (ps_fld (pv 0) (pe_op op_fdv (pv 2) (pv 3)) rfl)))))), ?_⟩
    refine ⟨_, rfl, rfl, _, rfl, ?_⟩
    by_cases hb : b = 0
    · refine ite2 (fun _ => k0 hb) (fun n => absurd (by rw [hb] <;> rfl) n)
    refine ite2 (fun z => absurd (V.int.inj (of_decide_eq_true z)) hb) (fun _ => ?_)
    obtain ⟨bb, k⟩ := k1 hb
    have g := gcd_pos (t := t) hb
    have gn : ((Nat.gcd t.natAbs b.natAbs : Nat) : Int) = (Int.gcd t b : Int) := rfl
    have gb : Bd 8900 (Int.gcd t b : Int) := by
      refine bb.abs ?_
      have := Nat.le_of_dvd (by omega : 0 < b.natAbs) (Nat.gcd_dvd_right t.natAbs b.natAbs)
      show ((Nat.gcd t.natAbs b.natAbs : Nat) : Int).natAbs ≤ _
      omega
    have lp := lo_prog (t := t) hb
    refine ⟨_, rfl, _, rfl, t, b, rfl, _, rfl, _, _, rfl, rfl, _, rfl, ?_⟩
    have fin : ∀ d : Int, d ≠ 0 → Bd 8900 d → lo t b = (t.fdiv d, b.fdiv d) → ∀ H2 : Hp, H2 = upd (upd H x (.ins A.C dx (putF "top" (.int (t.fdiv d)) []))) x (.ins A.C dx (putF "bottom" (.int (b.fdiv d)) (putF "top" (.int (t.fdiv d)) []))) → Q .non H2 := by
      intro d d0 db e H2 e2
      refine k H2 ⟨dx, ?_⟩ fun c o hc hn => ?_
      · rw [e2, upd_same, rf_put, e]
      · rw [e2, upd_ne hn, upd_ne hn]; exact hc
    refine ite2 (fun c => ?_) (fun c => ?_)
    · have c' : b < 0 := of_decide_eq_true c
      rw [if_pos c'] at lp
      refine ⟨_, rfl, _, rfl, _, rfl, _, rfl, _, _, rfl, rfl, gb.neg.fdv (by omega), _, rfl, x, A.C, dx, _, rfl, hx, T.cl, T.nT, (by show 0 < 1000; decide), ?_⟩
      refine ⟨_, rfl, _, rfl, _, _, rfl, rfl, gb.neg.fdv (by omega), _, rfl, x, A.C, dx, _, rfl, upd_same, T.cl, T.nB, (by show 1 < 1000; decide), ?_⟩
      exact fin _ (by omega) gb.neg lp _ rfl
    · have c' : ¬ b < 0 := fun z => c (decide_eq_true z)
      rw [if_neg c'] at lp
      refine ⟨_, rfl, _, rfl, _, _, rfl, rfl, gb.fdv (by omega), _, rfl, x, A.C, dx, _, rfl, hx, T.cl, T.nT, (by show 0 < 1000; decide), ?_⟩
      refine ⟨_, rfl, _, rfl, _, _, rfl, rfl, gb.fdv (by omega), _, rfl, x, A.C, dx, _, rfl, upd_same, T.cl, T.nB, (by show 1 < 1000; decide), ?_⟩
      exact fin _ (by omega) gb lp _ rfl
/-- Ratio(t, b) read: for b not 0 -/
theorem rd_make {t b : Int} {H : Hp} {Q : VK} {E : XK} (hb : b ≠ 0) (bb : Bd 8900 b) (k : ∀ x H', Ex H H' → H x = none → RatAt A.C H' x (lo t b) → Q (.ref x) H') :
    ∀ x dx, H x = none → H dx = none → dx ≠ x → spInit A [.ref x, .int t, .int b] (upd (upd H dx (.own x)) x (.ins A.C dx [])) (fun v H2 => v = .non ∧ Q (.ref x) H2) E :=
  fun x dx nx nd ne => ⟨x, dx, t, b, rfl, upd_same, fun z => absurd z hb, fun _ => ⟨bb, fun H' r kp => ⟨rfl, k x H' (Same.made nx nd kp) nx r⟩⟩⟩
theorem ok_start (T : Txt K mg A) : FnOk P w K mg base CX0 1 A.f_start A.d_start ["script"] (spStart K) := by
  refine T.F_start.ok sc_start (fun vs H Q E h => ?_) (fun cdv Ar outer s H vs Q E hr h => ?_)
  · obtain ⟨a, ns, rfl, _⟩ := h
    rfl
  · obtain ⟨a, ns, rfl, hS, hl, k⟩ := h
    refine ⟨_, (pss_one (ps_ret (pe_lst (pa_cons (pe_lc (own := [("cell", 1)]) (g := gName 1) (tt := tYes) rfl sc_start.nd (pi_list (pe_slice sl_list (pv 0) po_none (po_some pe_int))) (blkOk_by (own := [("cell", 1)]) (N := N_start) (sc := defScope S_start) (by decide +kernel)) (fun _ _ _ _ _ => pg_name (i := 1) sc_start.nd rfl (Or.inl rfl)) (fun _ _ _ _ _ => pts_nil) (fun _ _ _ _ _ => (pe_callB call_abs (by rfl) T.n_abs (by decide +kernel) (pa_cons (pv 1) pa_nil)))) (pa_cons pe_int (pa_cons pe_int pa_nil)))))), ?_⟩
    obtain ⟨ms, hms, hml⟩ : ∃ ms : List Int, cutV (ns.map V.int) none (some 63) = ms.map V.int ∧ ms.length ≤ 63 := by
      refine ⟨(ns.drop (HT.sIx (ns.map V.int).length 0 none)).take (HT.sIx (ns.map V.int).length (ns.map V.int).length (some 63) - HT.sIx (ns.map V.int).length 0 none), ?_, ?_⟩
      · unfold cutV
        rw [List.map_take, List.map_drop]
      · rw [List.length_take, List.length_drop]
        omega
    refine ⟨_, rfl, _, rfl, a, _, rfl, hS, fun p hp => ⟨p, rfl, ⟨_, SqL.of upd_same⟩, fun D hD => ?_⟩⟩
    rw [hms]
    have hpD : p ≠ D := fun e => by rw [← e, hms, upd_same] at hD; cases hD
    have hD0 : H D = none := by rw [hms, upd_ne hpD.symm] at hD; exact hD
    refine lc_list (K := K) (a := p) (xs := ms.map V.int) (fun i H' => (∃ cs : List Int, H' D = some (.lst (cs.map V.int)) ∧ cs.length = i ∧ (∀ z ∈ cs, 0 ≤ z)) ∧ H' p = some (.lst (ms.map V.int)) ∧ Ex H H')
      ⟨⟨[], upd_same, rfl, fun z hz => by cases hz⟩, ?_, ?_⟩ (fun i H' _ h => SqL.of h.2.1) ?_ ?_
    · rw [upd_ne hpD, upd_same]
    · exact fun c o e => by rw [upd_ne (ne_of_none e hD0), upd_ne (ne_of_none e hp)]; exact e
    · rintro i x H' hx ⟨⟨cs, hcs, hci, hc0⟩, hp', ex⟩
      obtain ⟨z, hz, rfl⟩ : ∃ z, ms[i]? = some z ∧ x = V.int z := by
        rw [List.getElem?_map] at hx
        cases e : ms[i]? with
        | none => rw [e] at hx; cases hx
        | some z => rw [e] at hx; exact ⟨z, rfl, (Option.some.inj hx).symm⟩
      have hi : i < ms.length := (List.getElem?_eq_some_iff.mp hz).1
      refine ⟨rfl, _, rfl, z, rfl, _, hcs, ?_, ⟨⟨cs ++ [if z < 0 then -z else z], ?_, ?_, ?_⟩, ?_, ?_⟩⟩
      · rw [List.length_map, hci, sizeLine_eq]; omega
      · rw [upd_same, List.map_append]; rfl
      · rw [List.length_append, hci]; rfl
      · intro y hy
        rcases List.mem_append.mp hy with h | h
        · exact hc0 y h
        · have : y = if z < 0 then -z else z := by simpa using h
          rw [this]
          split <;> omega
      · rw [upd_ne hpD]; exact hp'
      · exact fun c o e => by rw [upd_ne (ne_of_none e hD0)]; exact ex c o e
    · rintro H' ⟨⟨cs, hcs, hci, hc0⟩, hp', ex⟩
      refine ⟨(by show 3 ≤ sizeLine; exact sz3), fun q hq => ?_⟩
      have nqD : D ≠ q := ne_of_none hcs hq
      refine k q _ ⟨D, cs, 0, 0, nqD.symm, upd_same, by rw [upd_ne nqD]; exact hcs, ?_, by decide, by decide, hc0⟩ (ex.to hq) (ex.free hq)
      rw [List.length_map] at hci
      omega
theorem ok_digit (T : Txt K mg A) : FnOk P w K mg base CX0 1 A.f_digit A.d_digit ["pot", "many"] spDigit := by
  refine T.F_digit.ok sc_digit (fun vs H Q E h => ?_) (fun cdv Ar outer s H vs Q E hr h => ?_)
  · obtain ⟨p, m, rfl, _⟩ := h
    rfl
  · obtain ⟨p, m, rfl, pot, m0, bm, k⟩ := h
    refine ⟨_, (C8.pss_cut (ps_if (PW.pt (pw_and (pt_cmpR op_eq (pe_ix ix_list (pv 0) pe_int (fun _ _ => rfl)) pe_int (nomark _)) (pw_and1 (pt_cmpR op_lt (pe_ix ix_list (pv 0) pe_int (fun _ _ => rfl)) (pe_callB call_len (by rfl) T.n_len PySem.boot_len (pa_cons (pe_ix ix_list (pv 0) pe_int (fun _ _ => rfl)) pa_nil)) (nomark _)))))
      (pss_cons (ps_asg (pe_ix ix_list (pe_ix ix_list (pv 0) pe_int (fun _ _ => rfl)) (pe_ix ix_list (pv 0) pe_int (fun _ _ => rfl)) (fun _ _ => rfl)) (pg_sub (pv 0) pe_int set_list))
      (pss_one (ps_asg (pe_op op_add (pe_ix ix_list (pv 0) pe_int (fun _ _ => rfl)) pe_int) (pg_sub (pv 0) pe_int set_list)))) pss_nil)
      (pss_cons (ps_set (i := 2) sc_digit.nd rfl (Or.inl rfl) (pe_op op_mod (pe_callTy call_int1 (by rfl) T.n_int (by decide +kernel) (pa_cons (pe_ix ix_list (pv 0) pe_int (fun _ _ => rfl)) pa_nil)) (pv 1)))
      (pss_cons (ps_asg (pe_op op_fdivW (pe_ix ix_list (pv 0) pe_int (fun _ _ => rfl)) (pv 1)) (pg_sub (pv 0) pe_int set_list))
      (pss_one (ps_ret (pv 2)))))), ?_⟩
    obtain ⟨l, cs, i, c, ne, h1, h2, hl, i0, c0, hc⟩ := id pot
    refine ⟨fun sl H' => sl = [some (.ref p), some (.int m), none] ∧ PotAt H' p ∧ Keep p H H', ?_, ?_⟩
    · refine ⟨_, rfl, _, _, _, _, rfl, rfl, SqL.of h1, rfl, rfl, _, rfl, ?_⟩
      refine ite2 (fun z => ?_) (fun z => iteF ⟨rfl, pot, Keep.refl⟩)
      refine ⟨_, rfl, _, _, _, _, rfl, rfl, SqL.of h1, rfl, _, rfl, _, _, _, _, rfl, rfl, SqL.of h1, rfl, _, _, rfl, .inl ⟨_, SqL.of h2, rfl⟩, _, _, rfl, rfl, _, rfl, ?_⟩
      refine ite2 (fun z2 => ?_) (fun z2 => ⟨rfl, pot, Keep.refl⟩)
      have hi : i < cs.length := by have := of_decide_eq_true z2; rw [List.length_map] at this; exact this
      obtain ⟨j, rfl⟩ : ∃ j : Nat, i = (j : Int) := ⟨i.toNat, by omega⟩
      have hj : j < cs.length := by omega
      have at_ : (cs.map V.int)[j]? = some (.int cs[j]) := by rw [List.getElem?_map, List.getElem?_eq_getElem hj]; rfl
      refine ⟨_, rfl, _, _, _, _, rfl, rfl, SqL.of h1, rfl, _, rfl, _, _, _, _, rfl, rfl, SqL.of h1, rfl, _, _, _, _, rfl, rfl, SqL.of h2, atI_nat at_, _, rfl, p, _, 2, 2, rfl, rfl, h1, rfl, ?_⟩
      refine ⟨_, rfl, _, _, _, _, rfl, rfl, SqL.of upd_same, rfl, _, _, rfl, rfl, _, rfl, p, _, 1, 1, rfl, rfl, upd_same, rfl, rfl, ?_, ?_⟩
      · refine ⟨l, cs, (j : Int) + 1, cs[j], ne, upd_same, ?_, hl, by omega, hc _ (List.getElem_mem hj), hc⟩
        rw [upd_ne ne.symm, upd_ne ne.symm]; exact h2
      · exact Keep.upd.trans Keep.upd
    · rintro sl H' ⟨rfl, pot', kp⟩
      obtain ⟨l, cs, i, c, ne, h1, h2, hl, i0, c0, hc⟩ := id pot'
      refine ⟨_, rfl, _, _, _, _, rfl, rfl, SqL.of h1, rfl, .inl ⟨_, rfl, _, rfl, _, _, rfl, rfl, m0, ?_⟩⟩
      refine ⟨_, rfl, _, _, _, _, rfl, rfl, SqL.of h1, rfl, _, rfl, _, _, rfl, rfl, bm.div m0, _, rfl, p, _, 2, 2, rfl, rfl, h1, rfl, _, rfl, ?_⟩
      refine k _ _ (Int.emod_nonneg _ (by omega)) (Int.emod_lt_of_pos _ m0) ⟨l, cs, i, c / m, ne, upd_same, ?_, hl, i0, Int.ediv_nonneg c0 (by omega), hc⟩ (kp.trans Keep.upd)
      rw [upd_ne ne.symm]; exact h2
theorem ok_fraction (T : Txt K mg A) : FnOk P w K mg base CX0 2 A.f_fraction A.d_fraction ["pot"] spFraction := by
  refine T.F_fraction.ok sc_fraction (fun vs H Q E h => ?_) (fun cdv Ar outer s H vs Q E hr h => ?_)
  · obtain ⟨p, rfl, _⟩ := h
    rfl
  · obtain ⟨p, rfl, pot, k⟩ := h
    refine ⟨_, (pss_cons (ps_set (i := 1) sc_fraction.nd rfl (Or.inl rfl) (pe_call (ok_digit T) (hr.mono (by decide)) rfl T.g_digit T.F_digit.kp T.b_digit .nil pass0 (pa_cons (pv 0) (pa_cons pe_int pa_nil))))
      (pss_cons (ps_if (pt_cmpR op_eq (pv 1) pe_int (nomark _))
      (pss_one (ps_ret (pe_tup (pa_cons pe_int (pa_cons (pe_op op_add pe_int (pe_call (ok_digit T) (hr.mono (by decide)) rfl T.g_digit T.F_digit.kp T.b_digit .nil pass0 (pa_cons (pv 0) (pa_cons pe_int pa_nil)))) pa_nil))))) pss_nil)
      (pss_cons (ps_if (pt_cmpR op_eq (pv 1) pe_int (nomark _))
      (pss_cons (ps_set (i := 2) sc_fraction.nd rfl (Or.inl rfl) (pe_op op_sub (pe_call (ok_digit T) (hr.mono (by decide)) rfl T.g_digit T.F_digit.kp T.b_digit .nil pass0 (pa_cons (pv 0) (pa_cons (pe_op op_add (pe_op op_mulW pe_int (pe_op op_pow pe_int pe_int)) pe_int) pa_nil))) (pe_op op_pow pe_int pe_int)))
      (pss_one (ps_ret (pe_tup (pa_cons (pv 2) (pa_cons (pe_op op_add pe_int (pe_call (ok_digit T) (hr.mono (by decide)) rfl T.g_digit T.F_digit.kp T.b_digit .nil pass0 (pa_cons (pv 0) (pa_cons (pe_op op_pow pe_int pe_int) pa_nil)))) pa_nil)))))) pss_nil)
      (pss_cons (ps_if (pt_cmpR op_eq (pv 1) pe_int (nomark _))
      (pss_cons (ps_set (i := 2) sc_fraction.nd rfl (Or.inl rfl) (pe_op op_sub (pe_call (ok_digit T) (hr.mono (by decide)) rfl T.g_digit T.F_digit.kp T.b_digit .nil pass0 (pa_cons (pv 0) (pa_cons (pe_op op_add (pe_op op_mulW pe_int (pe_op op_pow pe_int pe_int)) pe_int) pa_nil))) (pe_op op_pow pe_int pe_int)))
      (pss_one (ps_ret (pe_tup (pa_cons (pv 2) (pa_cons (pe_op op_add pe_int (pe_call (ok_digit T) (hr.mono (by decide)) rfl T.g_digit T.F_digit.kp T.b_digit .nil pass0 (pa_cons (pv 0) (pa_cons (pe_op op_pow pe_int pe_int) pa_nil)))) pa_nil)))))) pss_nil)
      (pss_cons (ps_if (pt_cmpR op_eq (pv 1) pe_int (nomark _))
      (pss_cons (ps_set (i := 2) sc_fraction.nd rfl (Or.inl rfl) (pe_op op_sub (pe_call (ok_digit T) (hr.mono (by decide)) rfl T.g_digit T.F_digit.kp T.b_digit .nil pass0 (pa_cons (pv 0) (pa_cons pe_int pa_nil))) pe_int))
      (pss_one (ps_ret (pe_tup (pa_cons (pv 2) (pa_cons (pe_op op_add pe_int (pe_call (ok_digit T) (hr.mono (by decide)) rfl T.g_digit T.F_digit.kp T.b_digit .nil pass0 (pa_cons (pv 0) (pa_cons pe_int pa_nil)))) pa_nil)))))) pss_nil)
      (pss_cons (ps_set (i := 2) sc_fraction.nd rfl (Or.inl rfl) (pe_op op_sub pe_int (pe_call (ok_digit T) (hr.mono (by decide)) rfl T.g_digit T.F_digit.kp T.b_digit .nil pass0 (pa_cons (pv 0) (pa_cons pe_int pa_nil)))))
      (pss_one (ps_ret (pe_tup (pa_cons (pv 2) (pa_cons (pe_op op_sub pe_int (pe_call (ok_digit T) (hr.mono (by decide)) rfl T.g_digit T.F_digit.kp T.b_digit .nil pass0 (pa_cons (pv 0) (pa_cons pe_int pa_nil)))) pa_nil))))))))))), ?_⟩
    -- a tuple is made behind the digits
    have fin : ∀ (q : Int × Int) (H' : Hp), Sm 220 q → PotAt H' p → Keep p H H' → ∀ t, H' t = none → Q (.ref t) (upd H' t (.tup [.int q.1, .int q.2])) := fun q H' sq pt kp t ht =>
      k t q _ upd_same (kp.free pt ht) sq (pt.ex (Ex.new ht)) (kp.trans (Keep.new ht))
    refine ⟨_, rfl, p, 8, rfl, pot, by decide, bd_of (by decide), fun d0 H0 a0 b0 pot0 k0 => ?_⟩
    refine ⟨_, rfl, rfl, _, rfl, ite2 (fun _ => ?_) (fun _ => ?_)⟩
    · refine ⟨_, rfl, p, 12, rfl, pot0, by decide, bd_of (by decide), fun d H1 a b pt k1 => ?_⟩
      refine ⟨_, _, rfl, rfl, (by show 2 ≤ sizeLine; exact sz2), fun t ht => ?_⟩
      exact fin (0, 1 + d) H1 ⟨(bd_of (by decide) : Bd 220 (0 : Int)), (bd_le (j := 12) (bd_of (by decide)) (by omega) (by omega) : Bd 220 (1 + d)), by show 0 < 1 + d; omega⟩ pt (k0.trans k1) t ht
    refine ⟨_, rfl, rfl, _, rfl, ite2 (fun _ => ?_) (fun _ => ?_)⟩
    · have e2 : Bd 212 (2 * (10 : Int) ^ (60 : Int).toNat) := bd_two.mul bd_ten
      refine ⟨_, rfl, _, _, rfl, rfl, cpow 10 60 (by decide) (by decide), _, _, rfl, rfl, bd_two.w bd_ten, _, _, rfl, rfl, p, _, rfl, pot0, ?_, ?_, fun d H1 a b pt k1 => ?_⟩
      · have := ten_pos; show 0 < 2 * (10 : Int) ^ (60 : Int).toNat + 1; omega
      · exact (e2.add (show Bd 212 (1 : Int) from bd_of (by decide +kernel))).mono (by decide)
      have b' : d < 2 * (10 : Int) ^ (60 : Int).toNat + 1 := b
      refine ⟨_, _, rfl, rfl, cpow 10 60 (by decide) (by decide), _, _, rfl, rfl, _, rfl, _, rfl, _, _, rfl, rfl, cpow 10 60 (by decide) (by decide), p, _, rfl, pt, ten_pos, bd_ten.mono (by decide), fun d2 H2 a2 b2 pt2 k2 => ?_⟩
      have b2' : d2 < (10 : Int) ^ (60 : Int).toNat := b2
      refine ⟨_, _, rfl, rfl, (by show 2 ≤ sizeLine; exact sz2), fun t ht => ?_⟩
      exact fin (d - (10 : Int) ^ (60 : Int).toNat, 1 + d2) H2 ⟨(bd_le bd_ten (by omega) (by omega) : Bd 210 (d - (10 : Int) ^ (60 : Int).toNat)).mono (by decide), (bd_le bd_ten (by omega) (by omega) : Bd 210 (1 + d2)).mono (by decide), by show 0 < 1 + d2; omega⟩ pt2 ((k0.trans k1).trans k2) t ht
    refine ⟨_, rfl, rfl, _, rfl, ite2 (fun _ => ?_) (fun _ => ?_)⟩
    · have e2 : Bd 62 (2 * (10 : Int) ^ (12 : Int).toNat) := bd_two.mul bd_twel
      refine ⟨_, rfl, _, _, rfl, rfl, cpow 10 12 (by decide) (by decide), _, _, rfl, rfl, bd_two.w bd_twel, _, _, rfl, rfl, p, _, rfl, pot0, ?_, ?_, fun d H1 a b pt k1 => ?_⟩
      · have := twel_pos; show 0 < 2 * (10 : Int) ^ (12 : Int).toNat + 1; omega
      · exact (e2.add (show Bd 62 (1 : Int) from bd_of (by decide +kernel))).mono (by decide)
      have b' : d < 2 * (10 : Int) ^ (12 : Int).toNat + 1 := b
      refine ⟨_, _, rfl, rfl, cpow 10 12 (by decide) (by decide), _, _, rfl, rfl, _, rfl, _, rfl, _, _, rfl, rfl, cpow 10 12 (by decide) (by decide), p, _, rfl, pt, twel_pos, bd_twel.mono (by decide), fun d2 H2 a2 b2 pt2 k2 => ?_⟩
      have b2' : d2 < (10 : Int) ^ (12 : Int).toNat := b2
      refine ⟨_, _, rfl, rfl, (by show 2 ≤ sizeLine; exact sz2), fun t ht => ?_⟩
      exact fin (d - (10 : Int) ^ (12 : Int).toNat, 1 + d2) H2 ⟨(bd_le bd_twel (by omega) (by omega) : Bd 60 (d - (10 : Int) ^ (12 : Int).toNat)).mono (by decide), (bd_le bd_twel (by omega) (by omega) : Bd 60 (1 + d2)).mono (by decide), by show 0 < 1 + d2; omega⟩ pt2 ((k0.trans k1).trans k2) t ht
    refine ⟨_, rfl, rfl, _, rfl, ite2 (fun _ => ?_) (fun _ => ?_)⟩
    · refine ⟨_, rfl, p, 2001, rfl, pot0, by decide, bd_of (by decide), fun d H1 a b pt k1 => ?_⟩
      refine ⟨_, _, rfl, rfl, _, rfl, _, rfl, p, 1000, rfl, pt, by decide, bd_of (by decide), fun d2 H2 a2 b2 pt2 k2 => ?_⟩
      refine ⟨_, _, rfl, rfl, (by show 2 ≤ sizeLine; exact sz2), fun t ht => ?_⟩
      exact fin (d - 1000, 1 + d2) H2 ⟨(bd_le (j := 2001) (bd_of (by decide)) (by omega) (by omega) : Bd 220 (d - 1000)), (bd_le (j := 2001) (bd_of (by decide)) (by omega) (by omega) : Bd 220 (1 + d2)), by show 0 < 1 + d2; omega⟩ pt2 ((k0.trans k1).trans k2) t ht
    · refine ⟨_, rfl, p, 13, rfl, pot0, by decide, bd_of (by decide), fun d H1 a b pt k1 => ?_⟩
      refine ⟨_, _, rfl, rfl, _, rfl, _, rfl, p, 7, rfl, pt, by decide, bd_of (by decide), fun d2 H2 a2 b2 pt2 k2 => ?_⟩
      refine ⟨_, _, rfl, rfl, (by show 2 ≤ sizeLine; exact sz2), fun t ht => ?_⟩
      exact fin (6 - d, 7 - d2) H2 ⟨(bd_le (j := 2001) (bd_of (by decide)) (by omega) (by omega) : Bd 220 (6 - d)), (bd_le (j := 2001) (bd_of (by decide)) (by omega) (by omega) : Bd 220 (7 - d2)), by show 0 < 7 - d2; omega⟩ pt2 ((k0.trans k1).trans k2) t ht
theorem ok_handed (T : Txt K mg A) : FnOk P w K mg base CX0 2 A.f_handed A.d_handed ["pot", "pair"] spHanded := by
  refine T.F_handed.ok sc_handed (fun vs H Q E h => ?_) (fun cdv Ar outer s H vs Q E hr h => ?_)
  · obtain ⟨p, t, q, rfl, _⟩ := h
    rfl
  · obtain ⟨p, t, q, rfl, pot, ht, sq, k⟩ := h
    refine ⟨_, (pss_cons (ps_set (i := 2) sc_handed.nd rfl (Or.inl rfl) (pe_op op_add pe_int (pe_call (ok_digit T) (hr.mono (by decide)) rfl T.g_digit T.F_digit.kp T.b_digit .nil pass0 (pa_cons (pv 0) (pa_cons pe_int pa_nil)))))
      (C8.pss_cut (ps_if (pt_cmpR op_eq (pe_call (ok_digit T) (hr.mono (by decide)) rfl T.g_digit T.F_digit.kp T.b_digit .nil pass0 (pa_cons (pv 0) (pa_cons pe_int pa_nil))) pe_int (nomark _))
      (pss_one (ps_set (i := 2) sc_handed.nd rfl (Or.inl rfl) (pe_un un_neg (pv 2)))) pss_nil)
      (pss_one (ps_ret (pe_tup (pa_cons (pe_op op_mulW (pe_ix ix_tup (pv 1) pe_int (fun _ _ => rfl)) (pv 2)) (pa_cons (pe_op op_mulW (pe_ix ix_tup (pv 1) pe_int (fun _ _ => rfl)) (pv 2)) pa_nil))))))), ?_⟩
    refine ⟨_, rfl, p, 6, rfl, pot, by decide, bd_of (by decide), fun d0 H0 a0 b0 pot0 k0 => ?_⟩
    refine ⟨_, _, rfl, rfl, fun sl H' => ∃ m : Int, sl = [some (.ref p), some (.ref t), some (.int m)] ∧ m ≠ 0 ∧ Bd 3 m ∧ PotAt H' p ∧ Keep p H H', ?_, ?_⟩
    · refine ⟨_, rfl, p, 2, rfl, pot0, by decide, bd_of (by decide), fun d1 H1 a1 b1 pot1 k1 => ?_⟩
      refine ⟨rfl, _, rfl, ite2 (fun _ => ?_) (fun _ => ?_)⟩
      · refine ⟨_, rfl, _, rfl, ⟨-(1 + d0), rfl, by omega, ?_, pot1, k0.trans k1⟩⟩
        show (-(1 + d0)).natAbs < 2 ^ 3
        omega
      · refine ⟨1 + d0, rfl, by omega, ?_, pot1, k0.trans k1⟩
        show (1 + d0).natAbs < 2 ^ 3
        omega
    · rintro sl H' ⟨m, rfl, m0, bm, pt, kp⟩
      have hp : Pr H' t q := ht.keep pot kp
      refine ⟨_, rfl, _, _, _, _, rfl, rfl, SqT.of hp, rfl, _, rfl, _, _, rfl, rfl, sq.t.w bm, _, rfl, _, _, _, _, rfl, rfl, SqT.of hp, rfl, _, rfl, _, _, rfl, rfl, sq.b.w bm, (by show 2 ≤ sizeLine; exact sz2), fun u hu => ?_⟩
      exact k u m _ m0 bm upd_same (kp.free pt hu) (pt.ex (Ex.new hu)) (kp.trans (Keep.new hu))
end
end Fc
set_option Elab.async false
set_option linter.all false
set_option maxRecDepth 100000
set_option maxHeartbeats 4000000
set_option exponentiation.threshold 100000
namespace Fc
open PySem PySem.Spec PyProof.Rows L2
/-- -1, 0 or 1: the order of two fractions with bottoms above 0 -/
def cmpV (p q : Int × Int) : Int := if p.1 * q.2 < q.1 * p.2 then -1 else if q.1 * p.2 < p.1 * q.2 then 1 else 0
theorem cmpV_self (p : Int × Int) : cmpV p p = 0 := by
  unfold cmpV
  rw [if_neg (by omega), if_neg (by omega)]
theorem cmpV_flip (p q : Int × Int) : cmpV q p = -cmpV p q := by
  unfold cmpV
  split <;> split <;> first | omega | (split <;> omega)
theorem lo_up {q : Int × Int} {n : Nat} (h : Sm n q) : ∃ k : Int, 0 < k ∧ q.1 = (lo q.1 q.2).1 * k ∧ q.2 = (lo q.1 q.2).2 * k := by
  obtain ⟨k, k0, e1, e2, p, _⟩ := lo_split (t := q.1) h.ne
  refine ⟨k, ?_, e1, e2⟩
  rcases Int.lt_trichotomy k 0 with z | z | z
  · have := Int.mul_neg_of_pos_of_neg p z
    have := h.pos
    omega
  · exact absurd z k0
  · exact z
theorem cmpV_lo {p q : Int × Int} {n m : Nat} (hp : Sm n p) (hq : Sm m q) : cmpV (lo p.1 p.2) (lo q.1 q.2) = cmpV p q := by
  obtain ⟨k, k0, e1, e2⟩ := lo_up hp
  obtain ⟨l, l0, e3, e4⟩ := lo_up hq
  have kl : 0 < k * l := Int.mul_pos k0 l0
  have a1 : p.1 * q.2 = ((lo p.1 p.2).1 * (lo q.1 q.2).2) * (k * l) := by
    conv => lhs; rw [e1, e4]
    ac_rfl
  have a2 : q.1 * p.2 = ((lo q.1 q.2).1 * (lo p.1 p.2).2) * (k * l) := by
    conv => lhs; rw [e3, e2]
    ac_rfl
  unfold cmpV
  rw [a1, a2]
  have lt : ∀ x y : Int, (x * (k * l) < y * (k * l)) ↔ x < y := fun x y => ⟨fun h => Int.lt_of_mul_lt_mul_right h (Int.le_of_lt kl), fun h => Int.mul_lt_mul_of_pos_right h kl⟩
  simp only [lt]
theorem cmpV_zero {p q : Int × Int} {n m : Nat} (hp : Sm n p) (hq : Sm m q) : cmpV p q = 0 ↔ lo p.1 p.2 = lo q.1 q.2 := by
  constructor
  · intro h
    refine lo_eq hp.ne hq.ne ?_
    unfold cmpV at h
    split at h
    · omega
    · split at h
      · omega
      · omega
  · intro h
    rw [← cmpV_lo hp hq, h]
    exact cmpV_self _
theorem cmpV_two (p q : Int × Int) : cmpV p q = -1 ∨ cmpV p q = 0 ∨ cmpV p q = 1 := by
  unfold cmpV
  split
  · exact .inl rfl
  · split
    · exact .inr (.inr rfl)
    · exact .inr (.inl rfl)
section
variable {P : Program} {w : World} {K : PySem.W.Frag} {mg : Str → Option Value} {base : Heap} {A : Ad}
/-! ### the Ratio's order -/
def spEq (K : PySem.W.Frag) (C : Addr) : Sp := fun vs H Q _ => ∃ (a : Addr) (y : V) (p : Int × Int), vs = [.ref a, y] ∧ RatAt C H a p ∧
  ((∃ (c : Addr) (q : Int × Int) (e : Bool), y = .ref c ∧ RatAt C H c q ∧ e = decide (p = q) ∧ Q (.bl e) H) ∨
   (∃ t, TyX K H y (.type t) ∧ t ∈ ["int", "str", "NoneType", "tuple", "list"] ∧ Q (.bl false) H))
theorem ok_eq (T : Txt K mg A) : FnOk P w K mg base CX0 1 A.f_eq A.d_eq ["self", "other"] (Fc.spEq K A.C) := by
  refine T.F_eq.ok sc_eq (fun vs H Q E h => ?_) (fun cdv Ar outer s H vs Q E hr h => ?_)
  · obtain ⟨a, y, p, rfl, _⟩ := h
    rfl
  · obtain ⟨a, y, p, rfl, ⟨dx, ha⟩, h⟩ := h
    refine ⟨_, (pss_one (ps_ret (pe_and (pe_callB call_isi (by rfl) T.n_isinstance (by decide +kernel) (pa_cons (pv 1) (pa_cons (pe_glob (v := .ref A.C) rfl T.g_Ratio rfl) pa_nil))) (pe_and (pe_cmpR op_eq (pe_fld (pv 0) rfl) (pe_fld (pv 1) rfl) (nomark _)) (pe_one (pe_cmpR op_eq (pe_fld (pv 0) rfl) (pe_fld (pv 1) rfl) (nomark _))))))), ?_⟩
    rcases h with ⟨c, q, e, rfl, ⟨dy, hc⟩, he, k⟩ | ⟨t, ty, hm, k⟩
    · refine ⟨_, rfl, .ref c, .ref A.C, .ref A.C, .ref A.C, true, rfl, .own _, .base (.ins hc T.cl T.ha T.hn T.htk T.hm), kit_self, true, rfl, ?_⟩
      refine ⟨_, rfl, _, _, _, _, _, rfl, ha, T.cl, T.nT, rf_top _, _, rfl, _, _, _, _, _, rfl, hc, T.cl, T.nT, rf_top _, rfl, _, rfl, ?_⟩
      by_cases e1 : p.1 = q.1
      · refine ite2 (fun _ => ?_) (fun n => absurd (by rw [e1]; exact decide_eq_true rfl) n)
        refine ⟨_, rfl, _, _, _, _, _, rfl, ha, T.cl, T.nB, rf_bot _, _, rfl, _, _, _, _, _, rfl, hc, T.cl, T.nB, rf_bot _, rfl, ?_⟩
        have : decide (V.int p.2 = V.int q.2) = e := by
          rw [he]
          by_cases e2 : p.2 = q.2
          · rw [decide_eq_true (by rw [e2]), decide_eq_true (Prod.ext e1 e2)]
          · rw [decide_eq_false (fun z => e2 (V.int.inj z)), decide_eq_false (fun z => e2 (by rw [z]))]
        show Q (V.bl (decide (V.int p.2 = V.int q.2))) H
        rw [this]
        exact k
      · refine ite2 (fun z => absurd (V.int.inj (of_decide_eq_true z)) e1) (fun _ => ?_)
        have : e = false := by rw [he]; exact decide_eq_false (fun z => e1 (by rw [z]))
        rw [this] at k
        exact k
    · exact ⟨_, rfl, y, .ref A.C, .type t, .ref A.C, false, rfl, .own _, ty, kit_ref T.cl.hd T.tyC (T.sub t hm).1 (by intro z; cases z), false, rfl, k⟩
def spCmp (C : Addr) : Sp := fun vs H Q _ => ∃ (a b : Addr) (p q : Int × Int), vs = [.ref a, .ref b] ∧ RatAt C H a p ∧ RatAt C H b q ∧ Sm 4000 p ∧ Sm 4000 q ∧ Q (.int (cmpV p q)) H
theorem ok_compare (T : Txt K mg A) : FnOk P w K mg base CX0 1 A.f_compare A.d_compare ["self", "other"] (spCmp A.C) := by
  refine T.F_compare.ok sc_compare (fun vs H Q E h => ?_) (fun cdv Ar outer s H vs Q E hr h => ?_)
  · obtain ⟨a, b, p, q, rfl, _⟩ := h
    rfl
  · obtain ⟨a, b, p, q, rfl, ⟨dx, ha⟩, ⟨dy, hb⟩, sp, sq, k⟩ := h
    refine ⟨_, (pss_cons (ps_set (i := 2) sc_compare.nd rfl (Or.inl rfl) (pe_op op_mulW (pe_fld (pv 0) rfl) (pe_fld (pv 1) rfl)))
      (pss_cons (ps_set (i := 3) sc_compare.nd rfl (Or.inl rfl) (pe_op op_mulW (pe_fld (pv 1) rfl) (pe_fld (pv 0) rfl)))
      (pss_cons (ps_if (pt_cmpR op_lt (pv 2) (pv 3) (nomark _))
      (pss_one (ps_ret (pe_un un_neg pe_int))) pss_nil)
      (pss_one (ps_ret (pe_ifExp (pt_cmpR op_gt (pv 2) (pv 3) (nomark _)) pe_int pe_int)))))), ?_⟩
    refine ⟨_, rfl, _, _, _, _, _, rfl, ha, T.cl, T.nT, rf_top _, _, rfl, _, _, _, _, _, rfl, hb, T.cl, T.nB, rf_bot _, _, _, rfl, rfl, sp.t.w sq.b, _, rfl, _, _, _, _, _, rfl, hb, T.cl, T.nT, rf_top _, _, rfl, _, _, _, _, _, rfl, ha, T.cl, T.nB, rf_bot _, _, _, rfl, rfl, sq.t.w sp.b, _, rfl, _, rfl, _, _, rfl, rfl, _, rfl, ?_⟩
    unfold cmpV at k
    by_cases c : p.1 * q.2 < q.1 * p.2
    · rw [if_pos c] at k
      exact ite2 (fun _ => ⟨_, rfl, k⟩) (fun n => absurd (decide_eq_true c) n)
    · rw [if_neg c] at k
      refine ite2 (fun z => absurd (of_decide_eq_true z) c) (fun _ => ?_)
      refine ⟨_, rfl, _, rfl, _, _, rfl, rfl, _, rfl, ?_⟩
      by_cases d : q.1 * p.2 < p.1 * q.2
      · rw [if_pos d] at k
        exact ite2 (fun _ => k) (fun n => absurd (decide_eq_true d) n)
      · rw [if_neg d] at k
        exact ite2 (fun z => absurd (of_decide_eq_true z) d) (fun _ => k)
abbrev sgV (p : Int × Int) : Int := if p.1 < 0 then -1 else if 0 < p.1 then 1 else 0
def spGet (C : Addr) (g : Int × Int → Int) : Sp := fun vs H Q _ => ∃ (a : Addr) (p : Int × Int), vs = [.ref a] ∧ RatAt C H a p ∧ Sm 4000 p ∧ Q (.int (g p)) H
theorem ok_sign (T : Txt K mg A) : FnOk P w K mg base CX0 1 A.f_sign A.d_sign ["self"] (spGet A.C sgV) := by
  refine T.F_sign.ok sc_sign (fun vs H Q E h => ?_) (fun cdv Ar outer s H vs Q E hr h => ?_)
  · obtain ⟨a, p, rfl, _⟩ := h
    rfl
  · obtain ⟨a, p, rfl, ⟨dx, ha⟩, sp, k⟩ := h
    refine ⟨_, (pss_cons (ps_if (pt_cmpR op_lt (pe_fld (pv 0) rfl) pe_int (nomark _))
      (pss_one (ps_ret (pe_un un_neg pe_int))) pss_nil)
      (pss_one (ps_ret (pe_ifExp (pt_cmpR op_gt (pe_fld (pv 0) rfl) pe_int (nomark _)) pe_int pe_int)))), ?_⟩
    unfold sgV at k
    refine ⟨_, rfl, _, _, _, _, _, rfl, ha, T.cl, T.nT, rf_top _, _, _, rfl, rfl, _, rfl, ?_⟩
    by_cases c : p.1 < 0
    · rw [if_pos c] at k
      exact ite2 (fun _ => ⟨_, rfl, k⟩) (fun n => absurd (decide_eq_true c) n)
    · rw [if_neg c] at k
      refine ite2 (fun z => absurd (of_decide_eq_true z) c) (fun _ => ?_)
      refine ⟨_, rfl, _, _, _, _, _, rfl, ha, T.cl, T.nT, rf_top _, _, _, rfl, rfl, _, rfl, ?_⟩
      by_cases d : 0 < p.1
      · rw [if_pos d] at k
        exact ite2 (fun _ => k) (fun n => absurd (decide_eq_true d) n)
      · rw [if_neg d] at k
        exact ite2 (fun z => absurd (of_decide_eq_true z) d) (fun _ => k)
abbrev dnV (p : Int × Int) : Int := p.1 / p.2
abbrev upV (p : Int × Int) : Int := -(-p.1 / p.2)
theorem ok_down (T : Txt K mg A) : FnOk P w K mg base CX0 1 A.f_down A.d_down ["self"] (spGet A.C dnV) := by
  refine T.F_down.ok sc_down (fun vs H Q E h => ?_) (fun cdv Ar outer s H vs Q E hr h => ?_)
  · obtain ⟨a, p, rfl, _⟩ := h
    rfl
  · obtain ⟨a, p, rfl, ⟨dx, ha⟩, sp, k⟩ := h
    refine ⟨_, (pss_one (ps_ret (pe_op op_fdivW (pe_fld (pv 0) rfl) (pe_fld (pv 0) rfl)))), ?_⟩
    exact ⟨_, rfl, _, _, _, _, _, rfl, ha, T.cl, T.nT, rf_top _, _, rfl, _, _, _, _, _, rfl, ha, T.cl, T.nB, rf_bot _, _, _, rfl, rfl, sp.b.div sp.pos, k⟩
theorem ok_up (T : Txt K mg A) : FnOk P w K mg base CX0 1 A.f_up A.d_up ["self"] (spGet A.C upV) := by
  refine T.F_up.ok sc_up (fun vs H Q E h => ?_) (fun cdv Ar outer s H vs Q E hr h => ?_)
  · obtain ⟨a, p, rfl, _⟩ := h
    rfl
  · obtain ⟨a, p, rfl, ⟨dx, ha⟩, sp, k⟩ := h
    refine ⟨_, (pss_one (ps_ret (pe_un un_neg (pe_op op_fdivW (pe_un un_neg (pe_fld (pv 0) rfl)) (pe_fld (pv 0) rfl))))), ?_⟩
    exact ⟨_, rfl, _, _, _, _, _, rfl, ha, T.cl, T.nT, rf_top _, _, rfl, _, rfl, _, _, _, _, _, rfl, ha, T.cl, T.nB, rf_bot _, _, _, rfl, rfl, sp.b.div sp.pos, _, rfl, k⟩
/-! ### the law's own words -/
def spSecond : Sp := fun vs H Q _ => ∃ (pt t : Addr) (p : Int × Int), vs = [.ref pt, .ref t] ∧ PotAt H pt ∧ Pr H t p ∧ Sm 220 p ∧ ∀ u q H', Pr H' u q → Sm 300 q → PotAt H' pt → Keep pt H H' → Q (.ref u) H'
theorem ok_second (T : Txt K mg A) : FnOk P w K mg base CX0 3 A.f_second A.d_second ["pot", "p"] spSecond := by
  refine T.F_second.ok sc_second (fun vs H Q E h => ?_) (fun cdv Ar outer s H vs Q E hr h => ?_)
  · obtain ⟨pt, t, p, rfl, _⟩ := h
    rfl
  · obtain ⟨pt, t, p, rfl, pot, ht, sp, k⟩ := h
    refine ⟨_, (pss_cons (ps_set (i := 2) sc_second.nd rfl (Or.inl rfl) (pe_call (ok_digit T) (hr.mono (by decide)) rfl T.g_digit T.F_digit.kp T.b_digit .nil pass0 (pa_cons (pv 0) (pa_cons pe_int pa_nil))))
      (pss_cons (ps_if (pt_cmpR op_eq (pv 2) pe_int (nomark _))
      (pss_one (ps_ret (pv 1))) pss_nil)
      (pss_cons (ps_if (pt_cmpR op_eq (pv 2) pe_int (nomark _))
      (pss_one (ps_ret (pe_tup (pa_cons (pe_op op_add (pe_ix ix_tup (pv 1) pe_int (fun _ _ => rfl)) pe_int) (pa_cons (pe_ix ix_tup (pv 1) pe_int (fun _ _ => rfl)) pa_nil))))) pss_nil)
      (pss_cons (ps_if (pt_cmpR op_eq (pv 2) pe_int (nomark _))
      (pss_one (ps_ret (pe_tup (pa_cons (pe_un un_neg (pe_ix ix_tup (pv 1) pe_int (fun _ _ => rfl))) (pa_cons (pe_ix ix_tup (pv 1) pe_int (fun _ _ => rfl)) pa_nil))))) pss_nil)
      (pss_cons (ps_if (pt_cmpR op_eq (pv 2) pe_int (nomark _))
      (pss_cons (ps_set (i := 3) sc_second.nd rfl (Or.inl rfl) (pe_op op_add pe_int (pe_call (ok_digit T) (hr.mono (by decide)) rfl T.g_digit T.F_digit.kp T.b_digit .nil pass0 (pa_cons (pv 0) (pa_cons (pe_op op_pow pe_int pe_int) pa_nil)))))
      (pss_one (ps_ret (pe_tup (pa_cons (pe_op op_add (pe_op op_mulW (pe_ix ix_tup (pv 1) pe_int (fun _ _ => rfl)) (pv 3)) pe_int) (pa_cons (pe_op op_mulW (pe_ix ix_tup (pv 1) pe_int (fun _ _ => rfl)) (pv 3)) pa_nil)))))) pss_nil)
      (pss_one (ps_ret (pe_call (ok_fraction T) (hr.mono (by decide)) rfl T.g_fraction T.F_fraction.kp T.b_fraction .nil pass0 (pa_cons (pv 0) pa_nil))))))))), ?_⟩
    have one : Bd 250 (1 : Int) := bd_of (by decide +kernel)
    have fin : ∀ (q : Int × Int) (H' : Hp), Sm 300 q → PotAt H' pt → Keep pt H H' → ∀ u, H' u = none → Q (.ref u) (upd H' u (.tup [.int q.1, .int q.2])) := fun q H' sq pot' kp u hu =>
      k u q _ upd_same sq (pot'.ex (Ex.new hu)) (kp.trans (Keep.new hu))
    refine ⟨_, rfl, pt, 6, rfl, pot, by decide, bd_of (by decide), fun d0 H0 a0 b0 pot0 k0 => ?_⟩
    have h0 : Pr H0 t p := ht.keep pot k0
    refine ⟨_, rfl, rfl, _, rfl, ite2 (fun _ => ⟨_, rfl, k t p H0 h0 (sp.mono (by decide)) pot0 k0⟩) (fun _ => ?_)⟩
    refine ⟨_, rfl, rfl, _, rfl, ite2 (fun _ => ?_) (fun _ => ?_)⟩
    · refine ⟨_, rfl, _, _, _, _, rfl, rfl, SqT.of h0, rfl, _, _, rfl, rfl, _, rfl, _, _, _, _, rfl, rfl, SqT.of h0, rfl, (by show 2 ≤ sizeLine; exact sz2), fun u hu => ?_⟩
      exact fin (p.1 + 1, p.2) H0 ⟨((sp.t.mono (by decide : 220 ≤ 250)).add one).mono (by decide), sp.b.mono (by decide), sp.pos⟩ pot0 k0 u hu
    refine ⟨_, rfl, rfl, _, rfl, ite2 (fun _ => ?_) (fun _ => ?_)⟩
    · refine ⟨_, rfl, _, _, _, _, rfl, rfl, SqT.of h0, rfl, _, rfl, _, rfl, _, _, _, _, rfl, rfl, SqT.of h0, rfl, (by show 2 ≤ sizeLine; exact sz2), fun u hu => ?_⟩
      exact fin (-p.1, p.2) H0 ⟨sp.t.neg.mono (by decide), sp.b.mono (by decide), sp.pos⟩ pot0 k0 u hu
    refine ⟨_, rfl, rfl, _, rfl, ite2 (fun _ => ?_) (fun _ => ?_)⟩
    · refine ⟨_, rfl, _, _, rfl, rfl, cpow 10 12 (by decide) (by decide), pt, _, rfl, pot0, twel_pos, bd_twel.mono (by decide), fun d H1 a b pot1 k1 => ?_⟩
      have b' : d < (10 : Int) ^ (12 : Int).toNat := b
      have bt : Bd 60 (1 + d) := bd_le bd_twel (by omega) (by omega)
      have h1 : Pr H1 t p := h0.keep pot0 k1
      refine ⟨_, _, rfl, rfl, _, rfl, _, _, _, _, rfl, rfl, SqT.of h1, rfl, _, rfl, _, _, rfl, rfl, sp.t.w bt, _, _, rfl, rfl, _, rfl, _, _, _, _, rfl, rfl, SqT.of h1, rfl, _, rfl, _, _, rfl, rfl, sp.b.w bt, (by show 2 ≤ sizeLine; exact sz2), fun u hu => ?_⟩
      exact fin (p.1 * (1 + d) + 1, p.2 * (1 + d)) H1 ⟨((sp.t.mul bt).add (show Bd 280 (1 : Int) from bd_of (by decide +kernel))).mono (by decide), (sp.b.mul bt).mono (by decide), Int.mul_pos sp.pos (by omega)⟩ pot1 (k0.trans k1) u hu
    · exact ⟨_, rfl, pt, rfl, pot0, fun u q H' hq _ sq pot' kp => k u q H' hq (sq.mono (by decide)) pot' (k0.trans kp)⟩
def spWhole : Sp := fun vs H Q _ => ∃ (n : Int), vs = [.int n] ∧ Q (.bl true) H
theorem ok_whole (T : Txt K mg A) : FnOk P w K mg base CX0 1 A.f_whole A.d_whole ["told"] spWhole := by
  refine T.F_whole.ok sc_whole (fun vs H Q E h => ?_) (fun cdv Ar outer s H vs Q E hr h => ?_)
  · obtain ⟨n, rfl, _⟩ := h
    rfl
  · obtain ⟨n, rfl, k⟩ := h
    refine ⟨_, (pss_one (ps_ret (pe_and (pe_callB call_isi (by rfl) T.n_isinstance (by decide +kernel) (pa_cons (pv 0) (pa_cons (pe_bltn (v := .ty "int") rfl T.n_int (by decide +kernel) rfl) pa_nil))) (pe_one (pe_not (pe_callB call_isi (by rfl) T.n_isinstance (by decide +kernel) (pa_cons (pv 0) (pa_cons (pe_bltn (v := .ty "bool") rfl T.n_bool (by decide +kernel) rfl) pa_nil)))))))), ?_⟩
    exact ⟨_, rfl, _, .ty "int", _, _, true, rfl, .ty _, .base (.int n), kit_ty (by decide +kernel), true, rfl, _, rfl, _, .ty "bool", _, _, false, rfl, .ty _, .base (.int n), kit_ty (by decide +kernel), false, rfl, k⟩
def spOrder : Sp := fun vs H Q _ => ∃ (a b : Addr) (p q : Int × Int), vs = [.ref a, .ref b] ∧ Pr H a p ∧ Pr H b q ∧ Sm 300 p ∧ Sm 300 q ∧ Q (.int (cmpV p q)) H
theorem ok_order (T : Txt K mg A) : FnOk P w K mg base CX0 1 A.f_order A.d_order ["p", "q"] spOrder := by
  refine T.F_order.ok sc_order (fun vs H Q E h => ?_) (fun cdv Ar outer s H vs Q E hr h => ?_)
  · obtain ⟨a, b, p, q, rfl, _⟩ := h
    rfl
  · obtain ⟨a, b, p, q, rfl, ha, hb, sp, sq, k⟩ := h
    refine ⟨_, (pss_cons (ps_set (i := 2) sc_order.nd rfl (Or.inl rfl) (pe_op op_sub (pe_op op_mulW (pe_ix ix_tup (pv 0) pe_int (fun _ _ => rfl)) (pe_ix ix_tup (pv 1) pe_int (fun _ _ => rfl))) (pe_op op_mulW (pe_ix ix_tup (pv 1) pe_int (fun _ _ => rfl)) (pe_ix ix_tup (pv 0) pe_int (fun _ _ => rfl)))))
      (pss_cons (ps_if (pt_cmpR op_gt (pv 2) pe_int (nomark _))
      (pss_one (ps_ret pe_int)) pss_nil)
      (pss_cons (ps_if (pt_cmpR op_lt (pv 2) pe_int (nomark _))
      (pss_one (ps_ret (pe_un un_neg pe_int))) pss_nil)
      (pss_one (ps_ret pe_int))))), ?_⟩
    refine ⟨_, rfl, _, _, _, _, rfl, rfl, SqT.of ha, rfl, _, rfl, _, _, _, _, rfl, rfl, SqT.of hb, rfl, _, _, rfl, rfl, sp.t.w sq.b, _, rfl, _, _, _, _, rfl, rfl, SqT.of hb, rfl, _, rfl, _, _, _, _, rfl, rfl, SqT.of ha, rfl, _, _, rfl, rfl, sq.t.w sp.b, _, _, rfl, rfl, _, rfl, _, _, rfl, rfl, _, rfl, ?_⟩
    unfold cmpV at k
    by_cases c : p.1 * q.2 < q.1 * p.2
    · rw [if_pos c] at k
      refine ite2 (fun z => absurd (of_decide_eq_true z) (by omega)) (fun _ => ?_)
      exact ⟨_, rfl, _, _, rfl, rfl, _, rfl, ite2 (fun _ => ⟨_, rfl, k⟩) (fun n => absurd (decide_eq_true (by omega)) n)⟩
    · rw [if_neg c] at k
      by_cases d : q.1 * p.2 < p.1 * q.2
      · rw [if_pos d] at k
        exact ite2 (fun _ => k) (fun n => absurd (decide_eq_true (by omega)) n)
      · rw [if_neg d] at k
        refine ite2 (fun z => absurd (of_decide_eq_true z) (by omega)) (fun _ => ?_)
        exact ⟨_, rfl, _, _, rfl, rfl, _, rfl, ite2 (fun z => absurd (of_decide_eq_true z) (by omega)) (fun _ => k)⟩
end
end Fc
set_option Elab.async false
set_option linter.all false
set_option maxRecDepth 100000
set_option maxHeartbeats 4000000
set_option exponentiation.threshold 100000
namespace Fc
open PySem PySem.Spec PyProof.Rows L2
section
variable {P : Program} {w : World} {K : PySem.W.Frag} {mg : Str → Option Value} {base : Heap} {A : Ad}
theorem nf_self {C : Addr} : PySem.W.notFirst K C (.ref C) = true := by
  unfold PySem.W.notFirst
  simp
theorem nf_ty {C : Addr} {t : String} (h : PySem.W.subIn K (.type t) (.ref C) = some false) : PySem.W.notFirst K C (.type t) = true := by
  unfold PySem.W.notFirst
  rw [h]
  simp
theorem tyR (T : Txt K mg A) {H : Hp} {a dx : Addr} {fs : List (Str × V)} (h : H a = some (.ins A.C dx fs)) : TyX K H (.ref a) (.ref A.C) := .base (.ins h T.cl T.ha T.hn T.htk T.hm)
theorem sz4 : 4 ≤ sizeLine := by rw [sizeLine_eq]; decide
theorem refl4 (a b c d : Int) : PyData.eqv (.list [.int a, .int b, .int c, .int d]) (.list [.int a, .int b, .int c, .int d]) = true := PySem.SeqAt.eqv_refl _ rfl
theorem dp4 {H : Hp} {l : Addr} {a b c d : Int} (h : H l = some (.lst [.int a, .int b, .int c, .int d])) : Dp K H (.ref l) (.list [.int a, .int b, .int c, .int d]) :=
  .lst (SqL.of h) (.cons (.int a) (.cons (.int b) (.cons (.int c) (.cons (.int d) .nil))))
def spPair (C : Addr) : Sp := fun vs H Q _ => ∃ (x y a b : Addr) (p q : Int × Int), vs = [.ref x, .ref y, .ref a, .ref b] ∧ RatAt C H x (lo p.1 p.2) ∧ RatAt C H y (lo q.1 q.2) ∧ Pr H a p ∧ Pr H b q ∧ Sm 300 p ∧ Sm 300 q ∧ ∀ H', Ex H H' → Q (.bl true) H'
theorem ok_two (T : Txt K mg A) : FnOk P w K mg base CX0 2 A.f_two A.d_two ["x", "y", "p", "q"] (spPair A.C) := by
  refine T.F_two.ok sc_two (fun vs H Q E h => ?_) (fun cdv Ar outer s H vs Q E hr h => ?_)
  · obtain ⟨x, y, a, b, p, q, rfl, _⟩ := h
    rfl
  · obtain ⟨x, y, a, b, p, q, rfl, ⟨dx, hx⟩, ⟨dy, hy⟩, ha, hb, sp, sq, k⟩ := h
    refine ⟨_, (pss_cons (ps_set (i := 4) sc_two.nd rfl (Or.inl rfl) (pe_call (ok_order T) (hr.mono (by decide)) rfl T.g_order T.F_order.kp T.b_order .nil pass0 (pa_cons (pv 2) (pa_cons (pv 3) pa_nil))))
      (pss_cons (ps_set (i := 5) sc_two.nd rfl (Or.inl rfl) (pe_lst (pa_cons (pe_meth (pv 0) T.cl T.m_compare (ok_compare T) (hr.mono (by decide)) T.b_compare .nil pass0 (pa_cons (pv 1) pa_nil)) (pa_cons (pe_meth (pv 1) T.cl T.m_compare (ok_compare T) (hr.mono (by decide)) T.b_compare .nil pass0 (pa_cons (pv 0) pa_nil)) (pa_cons (pe_meth (pv 0) T.cl T.m_compare (ok_compare T) (hr.mono (by decide)) T.b_compare .nil pass0 (pa_cons (pv 0) pa_nil)) (pa_cons (pe_meth (pv 1) T.cl T.m_compare (ok_compare T) (hr.mono (by decide)) T.b_compare .nil pass0 (pa_cons (pv 1) pa_nil)) pa_nil))))))
      (pss_cons (ps_if (PW.pt (pw_or (pt_not (pt_val (pe_callB (cr_all rfl) (by rfl) T.n_all (by decide +kernel) (pa_cons (pe_lc (own := [("one", 6)]) (g := gName 6) (tt := tYes) rfl sc_two.nd (pi_list (pv 5)) (blkOk_by (own := [("one", 6)]) (N := N_two) (sc := defScope S_two) (by decide +kernel)) (fun _ _ _ _ _ => pg_name (i := 6) sc_two.nd rfl (Or.inl rfl)) (fun _ _ _ _ _ => pts_nil) (fun _ _ _ _ _ => (pe_call (ok_whole T) (hr.mono (by decide)) rfl T.g_whole T.F_whole.kp T.b_whole .nil pass0 (pa_cons (pv 6) pa_nil)))) pa_nil)))) (pw_or1 (pt_cmpR (op_neD hr.units) (pv 5) (pe_lst (pa_cons (pv 4) (pa_cons (pe_un un_neg (pv 4)) (pa_cons pe_int (pa_cons pe_int pa_nil))))) (nomark _)))))
      (pss_one (ps_ret pe_bl)) pss_nil)
      (pss_cons (ps_if (PW.pt (pw_or (pt_cmpR op_notBl (pe_cmpR (op_eqR T.sub T.m_eq.at_ T.m_eq.fn (ok_eq T) (hr.mono (by decide)) T.b_eq pass0) (pv 0) (pv 0) (nomark _)) pe_bl (nomark _)) (pw_or1 (pt_cmpR op_notBl (pe_cmpR (op_eqR T.sub T.m_eq.at_ T.m_eq.fn (ok_eq T) (hr.mono (by decide)) T.b_eq pass0) (pv 1) (pv 1) (nomark _)) pe_bl (nomark _)))))
      (pss_one (ps_ret pe_bl)) pss_nil)
      (pss_cons (ps_if (pt_cmpR op_eq (pv 4) pe_int (nomark _))
      (pss_one (ps_ret (pe_and (pe_cmpR op_isBl (pe_cmpR (op_eqR T.sub T.m_eq.at_ T.m_eq.fn (ok_eq T) (hr.mono (by decide)) T.b_eq pass0) (pv 0) (pv 1) (nomark _)) pe_bl (nomark _)) (pe_one (pe_cmpR op_isBl (pe_cmpR (op_eqR T.sub T.m_eq.at_ T.m_eq.fn (ok_eq T) (hr.mono (by decide)) T.b_eq pass0) (pv 1) (pv 0) (nomark _)) pe_bl (nomark _)))))) pss_nil)
      (pss_one (ps_ret (pe_and (pe_cmpR op_isBl (pe_cmpR (op_eqR T.sub T.m_eq.at_ T.m_eq.fn (ok_eq T) (hr.mono (by decide)) T.b_eq pass0) (pv 0) (pv 1) (nomark _)) pe_bl (nomark _)) (pe_one (pe_cmpR op_isBl (pe_cmpR (op_eqR T.sub T.m_eq.at_ T.m_eq.fn (ok_eq T) (hr.mono (by decide)) T.b_eq pass0) (pv 1) (pv 0) (nomark _)) pe_bl (nomark _))))))))))), ?_⟩
    have np : ∀ r : Int × Int, (rf r).lookup ("compare" : Str) = none := fun r => rf_no _ (by decide +kernel) (by decide +kernel)
    have s1 : Sm 4000 (lo p.1 p.2) := (Sm.lo sp.t sp.b sp.ne).mono (by decide)
    have s2 : Sm 4000 (lo q.1 q.2) := (Sm.lo sq.t sq.b sq.ne).mono (by decide)
    refine ⟨_, rfl, _, rfl, a, b, p, q, rfl, ha, hb, sp, sq, ?_⟩
    refine ⟨_, rfl, x, dx, _, rfl, hx, np _, _, rfl, x, y, _, _, rfl, ⟨dx, hx⟩, ⟨dy, hy⟩, s1, s2, ?_⟩
    refine ⟨_, rfl, y, dy, _, rfl, hy, np _, _, rfl, y, x, _, _, rfl, ⟨dy, hy⟩, ⟨dx, hx⟩, s2, s1, ?_⟩
    refine ⟨_, rfl, x, dx, _, rfl, hx, np _, _, rfl, x, x, _, _, rfl, ⟨dx, hx⟩, ⟨dx, hx⟩, s1, s1, ?_⟩
    refine ⟨_, rfl, y, dy, _, rfl, hy, np _, _, rfl, y, y, _, _, rfl, ⟨dy, hy⟩, ⟨dy, hy⟩, s2, s2, ?_⟩
    rw [cmpV_lo sp sq, cmpV_lo sq sp, cmpV_self, cmpV_self, cmpV_flip p q]
    refine ⟨(by show 4 ≤ sizeLine; exact sz4), fun L hL => ?_⟩
    have hl : upd H L (.lst [.int (cmpV p q), .int (-cmpV p q), .int 0, .int 0]) L = some (.lst [.int (cmpV p q), .int (-cmpV p q), .int 0, .int 0]) := upd_same
    have e1 : Ex H (upd H L (.lst [.int (cmpV p q), .int (-cmpV p q), .int 0, .int 0])) := Ex.new hL
    generalize upd H L (.lst [.int (cmpV p q), .int (-cmpV p q), .int 0, .int 0]) = H1 at hl e1 ⊢
    -- all([_law_whole(one) for one in told])
    refine ⟨_, rfl, L, rfl, ⟨_, SqL.of hl⟩, fun D hD => ?_⟩
    have nDL : L ≠ D := ne_of_none hl hD
    refine lc_list (K := K) (a := L) (xs := ([cmpV p q, -cmpV p q, 0, 0] : List Int).map V.int) (fun i H' => H' D = some (.lst (List.replicate i (.bl true))) ∧ Ex H1 H')
      ⟨upd_same, Ex.new hD⟩ (fun i H' _ h => SqL.of (h.2 _ _ hl)) ?_ ?_
    · rintro i z H' hz ⟨hd, ex⟩
      obtain ⟨n, rfl⟩ : ∃ n, z = V.int n := by
        rw [List.getElem?_map] at hz
        cases e : ([cmpV p q, -cmpV p q, 0, 0] : List Int)[i]? with
        | none => rw [e] at hz; cases hz
        | some n => rw [e] at hz; exact ⟨n, (Option.some.inj hz).symm⟩
      have hi : i < 4 := by
        have := (List.getElem?_eq_some_iff.mp hz).1
        rw [List.length_map] at this
        exact this
      refine ⟨rfl, _, rfl, n, rfl, _, hd, by rw [List.length_replicate, sizeLine_eq]; omega, ?_, fun c o e => by rw [upd_ne (ne_of_none e hD)]; exact ex c o e⟩
      rw [upd_same, List.replicate_succ']
    · rintro H2 ⟨hd, ex⟩
      refine ⟨D, [true, true, true, true], rfl, SqL.of hd, _, rfl, iteF ?_⟩
      have E2 : Ex H H2 := e1.trans ex
      -- told != [due, -due, 0, 0]
      refine ⟨_, rfl, _, rfl, _, rfl, _, rfl, (by show 4 ≤ sizeLine; exact sz4), fun M hM => ?_⟩
      have E3 : Ex H2 (upd H2 M (.lst [.int (cmpV p q), .int (-cmpV p q), .int 0, .int 0])) := Ex.new hM
      refine ⟨_, _, dp4 (E3 _ _ (ex _ _ hl)), dp4 upd_same, rfl, rfl, _, rfl, ?_⟩
      refine ite2 (fun z => absurd z (by rw [refl4]; decide)) (fun _ => ?_)
      have E4 : Ex H (upd H2 M (.lst [.int (cmpV p q), .int (-cmpV p q), .int 0, .int 0])) := E2.trans E3
      generalize upd H2 M (.lst [.int (cmpV p q), .int (-cmpV p q), .int 0, .int 0]) = H4 at E4 ⊢
      have gx := E4 _ _ hx
      have gy := E4 _ _ hy
      -- x == x, y == y
      refine ⟨_, rfl, _, rfl, .inl ⟨x, dx, _, _, rfl, gx, tyR T gx, nf_self, x, _, _, rfl, ⟨dx, gx⟩, .inl ⟨x, _, true, rfl, ⟨dx, gx⟩, (decide_eq_true rfl).symm, true, true, rfl, rfl, _, rfl, iteF ?_⟩⟩⟩
      refine ⟨_, rfl, _, rfl, .inl ⟨y, dy, _, _, rfl, gy, tyR T gy, nf_self, y, _, _, rfl, ⟨dy, gy⟩, .inl ⟨y, _, true, rfl, ⟨dy, gy⟩, (decide_eq_true rfl).symm, true, true, rfl, rfl, _, rfl, iteF ?_⟩⟩⟩
      refine ⟨_, rfl, rfl, _, rfl, ?_⟩
      by_cases z : cmpV p q = 0
      · have e := (cmpV_zero sp sq).mp z
        refine ite2 (fun _ => ?_) (fun n => absurd (by rw [z]; exact decide_eq_true rfl) n)
        refine ⟨_, rfl, _, rfl, .inl ⟨x, dx, _, _, rfl, gx, tyR T gy, nf_self, x, _, _, rfl, ⟨dx, gx⟩, .inl ⟨y, _, true, rfl, ⟨dy, gy⟩, (decide_eq_true e).symm, true, true, rfl, rfl, true, rfl, ?_⟩⟩⟩
        exact ⟨_, rfl, _, rfl, .inl ⟨y, dy, _, _, rfl, gy, tyR T gx, nf_self, y, _, _, rfl, ⟨dy, gy⟩, .inl ⟨x, _, true, rfl, ⟨dx, gx⟩, (decide_eq_true e.symm).symm, true, true, rfl, rfl, k _ E4⟩⟩⟩
      · have e : ¬ lo p.1 p.2 = lo q.1 q.2 := fun h => z ((cmpV_zero sp sq).mpr h)
        refine ite2 (fun h => absurd (V.int.inj (of_decide_eq_true h)) z) (fun _ => ?_)
        refine ⟨_, rfl, _, rfl, .inl ⟨x, dx, _, _, rfl, gx, tyR T gy, nf_self, x, _, _, rfl, ⟨dx, gx⟩, .inl ⟨y, _, false, rfl, ⟨dy, gy⟩, (decide_eq_false e).symm, false, false, rfl, rfl, true, rfl, ?_⟩⟩⟩
        exact ⟨_, rfl, _, rfl, .inl ⟨y, dy, _, _, rfl, gy, tyR T gx, nf_self, y, _, _, rfl, ⟨dy, gy⟩, .inl ⟨x, _, false, rfl, ⟨dx, gx⟩, (decide_eq_false (fun h => e h.symm)).symm, false, false, rfl, rfl, k _ E4⟩⟩⟩
/-! ### rounding -/
theorem dn_lo {p : Int × Int} {n : Nat} (h : Sm n p) : dnV (lo p.1 p.2) = p.1 / p.2 := by
  obtain ⟨k, k0, e1, e2⟩ := lo_up h
  generalize lo p.1 p.2 = l at e1 e2 ⊢
  show l.1 / l.2 = _
  rw [e1, e2]
  exact (Int.mul_ediv_mul_of_pos_left _ _ k0).symm
theorem up_lo {p : Int × Int} {n : Nat} (h : Sm n p) : upV (lo p.1 p.2) = -(-p.1 / p.2) := by
  obtain ⟨k, k0, e1, e2⟩ := lo_up h
  generalize lo p.1 p.2 = l at e1 e2 ⊢
  show -(-l.1 / l.2) = _
  rw [e1, e2, ← Int.neg_mul, Int.mul_ediv_mul_of_pos_left _ _ k0]
theorem sg_lo {p : Int × Int} {n : Nat} (h : Sm n p) : sgV (lo p.1 p.2) = cmpV p (0, 1) := by
  obtain ⟨k, k0, e1, e2⟩ := lo_up h
  unfold sgV cmpV
  have t : p.1 * (1 : Int) = (lo p.1 p.2).1 * k := by rw [Int.mul_one]; exact e1
  show _ = if p.1 * 1 < 0 * p.2 then -1 else if 0 * p.2 < p.1 * 1 then 1 else 0
  rw [t, Int.zero_mul]
  by_cases c : (lo p.1 p.2).1 < 0
  · rw [if_pos c, if_pos (Int.mul_neg_of_neg_of_pos c k0)]
  · by_cases d : 0 < (lo p.1 p.2).1
    · have := Int.mul_pos d k0
      rw [if_neg c, if_pos d, if_neg (by omega), if_pos this]
    · have z : (lo p.1 p.2).1 = 0 := by omega
      rw [if_neg c, if_neg d, z, Int.zero_mul]
      rfl
theorem dn_le {p : Int × Int} (h : 0 < p.2) : p.1 / p.2 * p.2 ≤ p.1 := Int.ediv_mul_le _ (by omega)
theorem dn_lt {p : Int × Int} (h : 0 < p.2) : p.1 < (p.1 / p.2 + 1) * p.2 := Int.lt_ediv_add_one_mul_self _ h
theorem up_lt {p : Int × Int} (h : 0 < p.2) : (-(-p.1 / p.2) - 1) * p.2 < p.1 := by
  have := Int.lt_ediv_add_one_mul_self (-p.1) h
  have e : (-(-p.1 / p.2) - 1) * p.2 = -((-p.1 / p.2 + 1) * p.2) := by rw [← Int.neg_mul]; congr 1; omega
  rw [e]
  omega
theorem up_le {p : Int × Int} (h : 0 < p.2) : p.1 ≤ -(-p.1 / p.2) * p.2 := by
  have := Int.ediv_mul_le (-p.1) (b := p.2) (by omega)
  rw [Int.neg_mul]
  omega
theorem Bd.dv {n : Nat} {a b : Int} (h : Bd n a) (p : 0 < b) : Bd n (a / b) := by
  unfold Bd at *
  have h1 : (a / b).natAbs ≤ a.natAbs := by
    have := Int.natAbs_ediv_le_natAbs a b
    exact this
  omega
def spOne (C : Addr) : Sp := fun vs H Q _ => ∃ (x a : Addr) (p : Int × Int), vs = [.ref x, .ref a] ∧ RatAt C H x (lo p.1 p.2) ∧ Pr H a p ∧ Sm 300 p ∧ ∀ H', Ex H H' → Q (.bl true) H'
theorem ok_alone (T : Txt K mg A) : FnOk P w K mg base CX0 2 A.f_alone A.d_alone ["x", "p"] (spOne A.C) := by
  refine T.F_alone.ok sc_alone (fun vs H Q E h => ?_) (fun cdv Ar outer s H vs Q E hr h => ?_)
  · obtain ⟨x, a, p, rfl, _⟩ := h
    rfl
  · obtain ⟨x, a, p, rfl, ⟨dx, hx⟩, ha, sp, k⟩ := h
    refine ⟨_, (pss_cons (ps_set (i := 2) sc_alone.nd rfl (Or.inl rfl) (pe_meth0 (pv 0) T.cl T.m_sign (ok_sign T) (hr.mono (by decide)) T.b_sign .nil pass0))
      (pss_cons (ps_if (PW.pt (pw_or (pt_not (pt_val (pe_call (ok_whole T) (hr.mono (by decide)) rfl T.g_whole T.F_whole.kp T.b_whole .nil pass0 (pa_cons (pv 2) pa_nil)))) (pw_or1 (pt_cmpR op_ne (pv 2) (pe_call (ok_order T) (hr.mono (by decide)) rfl T.g_order T.F_order.kp T.b_order .nil pass0 (pa_cons (pv 1) (pa_cons (pe_tup (pa_cons pe_int (pa_cons pe_int pa_nil))) pa_nil))) (nomark _)))))
      (pss_one (ps_ret pe_bl)) pss_nil)
      (pss_cons (ps_set (i := 3) sc_alone.nd rfl (Or.inl rfl) (pe_meth0 (pv 0) T.cl T.m_down (ok_down T) (hr.mono (by decide)) T.b_down .nil pass0))
      (pss_cons (ps_set (i := 4) sc_alone.nd rfl (Or.inl rfl) (pe_meth0 (pv 0) T.cl T.m_up (ok_up T) (hr.mono (by decide)) T.b_up .nil pass0))
      (pss_cons (ps_if (PW.pt (pw_or (pt_not (pt_val (pe_call (ok_whole T) (hr.mono (by decide)) rfl T.g_whole T.F_whole.kp T.b_whole .nil pass0 (pa_cons (pv 3) pa_nil)))) (pw_or1 (pt_not (pt_val (pe_call (ok_whole T) (hr.mono (by decide)) rfl T.g_whole T.F_whole.kp T.b_whole .nil pass0 (pa_cons (pv 4) pa_nil)))))))
      (pss_one (ps_ret pe_bl)) pss_nil)
      (pss_cons (ps_if (pt_not (pt_chain op_le op_lt (pe_op op_mulW (pv 3) (pe_ix ix_tup (pv 1) pe_int (fun _ _ => rfl))) (pe_ix ix_tup (pv 1) pe_int (fun _ _ => rfl)) (pe_op op_mulW (pe_op op_add (pv 3) pe_int) (pe_ix ix_tup (pv 1) pe_int (fun _ _ => rfl)))))
      (pss_one (ps_ret pe_bl)) pss_nil)
      (pss_one (ps_ret (pe_chain op_lt op_le (pe_op op_mulW (pe_op op_sub (pv 4) pe_int) (pe_ix ix_tup (pv 1) pe_int (fun _ _ => rfl))) (pe_ix ix_tup (pv 1) pe_int (fun _ _ => rfl)) (pe_op op_mulW (pv 4) (pe_ix ix_tup (pv 1) pe_int (fun _ _ => rfl)))))))))))), ?_⟩
    have s1 : Sm 4000 (lo p.1 p.2) := (Sm.lo sp.t sp.b sp.ne).mono (by decide)
    refine ⟨_, rfl, x, dx, _, rfl, hx, rf_no _ (by decide +kernel) (by decide +kernel), x, _, rfl, ⟨dx, hx⟩, s1, ?_⟩
    refine ⟨_, rfl, _, rfl, _, rfl, iteF ?_⟩
    refine ⟨_, rfl, _, rfl, (by show 2 ≤ sizeLine; exact sz2), fun t ht => ?_⟩
    have e1 : Ex H (upd H t (.tup [.int 0, .int 1])) := Ex.new ht
    refine ⟨a, t, p, (0, 1), rfl, ha.ex e1, upd_same, sp, ⟨bd_of (by show (0 : Int).natAbs < 2 ^ 300; decide +kernel), bd_of (by show (1 : Int).natAbs < 2 ^ 300; decide +kernel), by decide⟩, ?_⟩
    refine ⟨rfl, _, rfl, ite2 (fun z => absurd z (by rw [sg_lo sp]; simp)) (fun _ => ?_)⟩
    generalize upd H t (.tup [.int 0, .int 1]) = H1 at e1 ⊢
    have gx := e1 _ _ hx
    have ga := ha.ex e1
    refine ⟨_, rfl, x, dx, _, rfl, gx, rf_no _ (by decide +kernel) (by decide +kernel), x, _, rfl, ⟨dx, gx⟩, s1, ?_⟩
    refine ⟨_, rfl, x, dx, _, rfl, gx, rf_no _ (by decide +kernel) (by decide +kernel), x, _, rfl, ⟨dx, gx⟩, s1, ?_⟩
    refine ⟨_, rfl, _, rfl, _, rfl, iteF ⟨_, rfl, _, rfl, _, rfl, iteF ?_⟩⟩
    rw [dn_lo sp, up_lo sp]
    have bd : Bd 300 (p.1 / p.2) := sp.t.dv sp.pos
    have bu : Bd 300 (-(-p.1 / p.2)) := (sp.t.neg.dv sp.pos).neg
    have one : Bd 300 (1 : Int) := bd_of (by decide +kernel)
    refine ⟨_, rfl, _, rfl, _, _, _, _, rfl, rfl, SqT.of ga, rfl, _, _, rfl, rfl, bd.w sp.b, _, rfl, _, _, _, _, rfl, rfl, SqT.of ga, rfl, _, _, rfl, rfl, _, rfl, ?_⟩
    refine ite2 (fun _ => ?_) (fun n => absurd (decide_eq_true (dn_le sp.pos)) n)
    refine ⟨_, rfl, _, _, rfl, rfl, _, rfl, _, _, _, _, rfl, rfl, SqT.of ga, rfl, _, _, rfl, rfl, (bd.add one).w sp.b, _, _, rfl, rfl, _, rfl, ?_⟩
    refine ite2 (fun z => absurd z (by rw [decide_eq_true (dn_lt sp.pos)]; decide)) (fun _ => ?_)
    refine ⟨_, rfl, _, _, rfl, rfl, _, rfl, _, _, _, _, rfl, rfl, SqT.of ga, rfl, _, _, rfl, rfl, (bu.sub one).w sp.b, _, rfl, _, _, _, _, rfl, rfl, SqT.of ga, rfl, _, _, rfl, rfl, _, rfl, ?_⟩
    refine ite2 (fun _ => ?_) (fun n => absurd (decide_eq_true (up_lt sp.pos)) n)
    refine ⟨_, rfl, _, rfl, _, _, _, _, rfl, rfl, SqT.of ga, rfl, _, _, rfl, rfl, bu.w sp.b, _, _, rfl, rfl, ?_⟩
    show Q (V.bl (decide (p.1 ≤ -(-p.1 / p.2) * p.2))) H1
    rw [decide_eq_true (up_le sp.pos)]
    exact k _ e1
theorem ok_other (T : Txt K mg A) : FnOk P w K mg base CX0 3 A.f_other A.d_other ["x", "p"] (spOne A.C) := by
  obtain ⟨ds, vds, b2⟩ := T.b_init2
  refine T.F_other.ok sc_other (fun vs H Q E h => ?_) (fun cdv Ar outer s H vs Q E hr h => ?_)
  · obtain ⟨x, a, p, rfl, _⟩ := h
    rfl
  · obtain ⟨x, a, p, rfl, ⟨dx, hx⟩, ha, sp, k⟩ := h
    refine ⟨_, (pss_cons (ps_for PassesOwn.never rfl (pi_list (pe_lst (pa_cons (pe_tup (pa_cons (pe_fld (pv 0) rfl) (pa_cons (pe_fld (pv 0) rfl) pa_nil))) (pa_cons (pe_lst (pa_cons (pe_fld (pv 0) rfl) (pa_cons (pe_fld (pv 0) rfl) pa_nil))) (pa_cons pe_non pa_nil))))) (pg_name (i := 2) sc_other.nd rfl (Or.inl rfl))
      (pss_one (ps_if (PW.pt (pw_or (pt_cmpR op_notBl (pe_cmpR (op_eqR T.sub T.m_eq.at_ T.m_eq.fn (ok_eq T) (hr.mono (by decide)) T.b_eq pass0) (pv 0) (pv 2) (nomark _)) pe_bl (nomark _)) (pw_or1 (pt_cmpR op_notBl (pe_cmpR (op_eqR T.sub T.m_eq.at_ T.m_eq.fn (ok_eq T) (hr.mono (by decide)) T.b_eq pass0) (pv 2) (pv 0) (nomark _)) pe_bl (nomark _)))))
      (pss_one (ps_ret pe_bl)) pss_nil)))
      (pss_cons (ps_set (i := 0) sc_other.nd rfl (Or.inl rfl) (pe_make T.mkC (ok_init T) (hr.mono (by decide)) rfl T.g_Ratio b2 vds passL (pa_cons (pe_ix ix_tup (pv 1) pe_int (fun _ _ => rfl)) pa_nil)))
      (pss_cons (ps_for PassesOwn.never rfl (pi_list (pe_lst (pa_cons (pe_ix ix_tup (pv 1) pe_int (fun _ _ => rfl)) (pa_cons (pe_callTy call_str_int (by rfl) T.n_str (by decide +kernel) (pa_cons (pe_ix ix_tup (pv 1) pe_int (fun _ _ => rfl)) pa_nil)) (pa_cons (pe_tup (pa_cons (pe_ix ix_tup (pv 1) pe_int (fun _ _ => rfl)) (pa_cons pe_int pa_nil))) (pa_cons (pe_tup (pa_cons (pe_ix ix_tup (pv 1) pe_int (fun _ _ => rfl)) pa_nil)) pa_nil)))))) (pg_name (i := 2) sc_other.nd rfl (Or.inl rfl))
      (pss_one (ps_if (PW.pt (pw_or (pt_cmpR op_notBl (pe_cmpR (op_eqR T.sub T.m_eq.at_ T.m_eq.fn (ok_eq T) (hr.mono (by decide)) T.b_eq pass0) (pv 0) (pv 2) (nomark _)) pe_bl (nomark _)) (pw_or1 (pt_cmpR op_notBl (pe_cmpR (op_eqR T.sub T.m_eq.at_ T.m_eq.fn (ok_eq T) (hr.mono (by decide)) T.b_eq pass0) (pv 2) (pv 0) (nomark _)) pe_bl (nomark _)))))
      (pss_one (ps_ret pe_bl)) pss_nil)))
      (pss_one (ps_ret (pe_and (pe_cmpR op_eq (pe_meth0 (pv 0) T.cl T.m_down (ok_down T) (hr.mono (by decide)) T.b_down .nil pass0) (pe_ix ix_tup (pv 1) pe_int (fun _ _ => rfl)) (nomark _)) (pe_one (pe_cmpR op_eq (pe_meth0 (pv 0) T.cl T.m_up (ok_up T) (hr.mono (by decide)) T.b_up .nil pass0) (pe_ix ix_tup (pv 1) pe_int (fun _ _ => rfl)) (nomark _))))))))), ?_⟩
    -- one turn: x is not equal to a value of a built-in kind, in both orders
    have turn : ∀ (H' : Hp) (z d : Addr) (r : Int × Int) (y : V) (t : String) (R : Prop), H' z = some (.ins A.C d (rf r)) → BK H' y t → R →
        (rEqR K A.C (Fc.spEq K A.C) E0 (.ref z) y H' fun v H2 => v = .bl false ∧ H2 = H') ∧ (rEqR K A.C (Fc.spEq K A.C) E0 y (.ref z) H' fun v H2 => v = .bl false ∧ H2 = H') := by
      intro H' z d r y t R hz bk _
      have m := bk.mem
      exact ⟨.inl ⟨z, d, _, _, rfl, hz, bk.ty, nf_ty (T.sub t m).1, z, y, r, rfl, ⟨d, hz⟩, .inr ⟨t, bk.ty, m, rfl, rfl⟩⟩, .inr ⟨z, d, _, t, rfl, hz, bk, z, y, r, rfl, ⟨d, hz⟩, .inr ⟨t, bk.ty, m, rfl, rfl⟩⟩⟩
    refine ⟨_, rfl, _, _, _, _, _, rfl, hx, T.cl, T.nT, rf_top _, _, rfl, _, _, _, _, _, rfl, hx, T.cl, T.nB, rf_bot _, (by show 2 ≤ sizeLine; exact sz2), fun t1 n1 => ?_⟩
    have e1 : Ex H (upd H t1 (.tup [.int (lo p.1 p.2).1, .int (lo p.1 p.2).2])) := Ex.new n1
    have h1 : upd H t1 (.tup [.int (lo p.1 p.2).1, .int (lo p.1 p.2).2]) t1 = some (.tup [.int (lo p.1 p.2).1, .int (lo p.1 p.2).2]) := upd_same
    generalize upd H t1 (.tup [.int (lo p.1 p.2).1, .int (lo p.1 p.2).2]) = H1 at e1 h1 ⊢
    have hx1 := e1 _ _ hx
    refine ⟨_, rfl, _, _, _, _, _, rfl, hx1, T.cl, T.nT, rf_top _, _, rfl, _, _, _, _, _, rfl, hx1, T.cl, T.nB, rf_bot _, (by show 2 ≤ sizeLine; exact sz2), fun t2 n2 => ?_⟩
    have e2 : Ex H1 (upd H1 t2 (.lst [.int (lo p.1 p.2).1, .int (lo p.1 p.2).2])) := Ex.new n2
    have h2 : upd H1 t2 (.lst [.int (lo p.1 p.2).1, .int (lo p.1 p.2).2]) t2 = some (.lst [.int (lo p.1 p.2).1, .int (lo p.1 p.2).2]) := upd_same
    generalize upd H1 t2 (.lst [.int (lo p.1 p.2).1, .int (lo p.1 p.2).2]) = H2 at e2 h2 ⊢
    refine ⟨(by show 3 ≤ sizeLine; exact sz3), fun L nL => ?_⟩
    have e3 : Ex H2 (upd H2 L (.lst [.ref t1, .ref t2, .non])) := Ex.new nL
    have hL : upd H2 L (.lst [.ref t1, .ref t2, .non]) L = some (.lst [.ref t1, .ref t2, .non]) := upd_same
    have E3 : Ex H (upd H2 L (.lst [.ref t1, .ref t2, .non])) := (e1.trans e2).trans e3
    have g1 := e3 _ _ (e2 _ _ h1)
    have g2 := e3 _ _ h2
    generalize upd H2 L (.lst [.ref t1, .ref t2, .non]) = H3 at e3 hL E3 g1 g2 ⊢
    have hx3 := E3 _ _ hx
    refine ⟨L, rfl, ⟨_, SqL.of hL⟩, for_list (K := K) (a := L) (xs := [.ref t1, .ref t2, .non]) (fun i sl H' => ∃ v, sl = [some (.ref x), some (.ref a), v] ∧ H' = H3) ⟨none, rfl, rfl⟩ (fun i sl H' _ h => by obtain ⟨v, _, e⟩ := h; rw [e]; exact SqL.of hL) ?_ ?_⟩
    · rintro i y sl H' hy ⟨v, rfl, rfl⟩
      obtain ⟨t, bk⟩ : ∃ t, BK H' y t := by
        match i, hy with
        | 0, h => cases h; exact ⟨_, .tup g1⟩
        | 1, h => cases h; exact ⟨_, .lst g2⟩
        | 2, h => cases h; exact ⟨_, .non⟩
        | j + 3, h => simp at h
      have m := bk.mem
      refine ⟨_, rfl, _, rfl, .inl ⟨x, dx, _, _, rfl, hx3, bk.ty, nf_ty (T.sub t m).1, x, y, _, rfl, ⟨dx, hx3⟩, .inr ⟨t, bk.ty, m, false, false, rfl, rfl, _, rfl, iteF ?_⟩⟩⟩
      exact ⟨_, rfl, _, rfl, .inr ⟨x, dx, _, t, rfl, hx3, bk, x, y, _, rfl, ⟨dx, hx3⟩, .inr ⟨t, bk.ty, m, false, false, rfl, rfl, _, rfl, iteF ⟨some y, rfl, rfl⟩⟩⟩⟩
    rintro sl H' ⟨v, rfl, rfl⟩
    have ga := ha.ex E3
    refine ⟨_, rfl, _, _, _, _, rfl, rfl, SqT.of ga, rfl, ?_⟩
    intro u du nx nd _
    refine ⟨u, du, _, _, rfl, upd_same, fun z => absurd z (by decide), fun _ => ⟨bd_of (show (1 : Int).natAbs < 2 ^ 8900 from Nat.one_lt_two_pow (by decide)), fun G1 ru kp => ⟨rfl, ?_⟩⟩⟩
    have E4 : Ex H G1 := E3.trans (Same.made nx nd kp)
    clear kp nx nd
    rw [lo_one] at ru
    obtain ⟨du', hu⟩ := ru
    have gb := ha.ex E4
    have lg : p.1.natAbs.log2 < 1920 := Nat.lt_of_lt_of_le (PySem.Flt.log2_lt_of (by decide) sp.t) (by decide)
    refine ⟨_, rfl, _, _, _, _, rfl, rfl, SqT.of gb, rfl, _, rfl, _, _, _, _, rfl, rfl, SqT.of gb, rfl, _, rfl, lg, _, rfl, _, _, _, _, rfl, rfl, SqT.of gb, rfl, (by show 2 ≤ sizeLine; exact sz2), fun t3 n3 => ?_⟩
    have e5 : Ex G1 (upd G1 t3 (.tup [.int p.1, .int 1])) := Ex.new n3
    have h3 : upd G1 t3 (.tup [.int p.1, .int 1]) t3 = some (.tup [.int p.1, .int 1]) := upd_same
    generalize upd G1 t3 (.tup [.int p.1, .int 1]) = G2 at e5 h3 ⊢
    refine ⟨_, rfl, _, _, _, _, rfl, rfl, SqT.of (gb.ex e5), rfl, (by show 1 ≤ sizeLine; rw [sizeLine_eq]; decide), fun t4 n4 => ?_⟩
    have e6 : Ex G2 (upd G2 t4 (.tup [.int p.1])) := Ex.new n4
    have h4 : upd G2 t4 (.tup [.int p.1]) t4 = some (.tup [.int p.1]) := upd_same
    generalize upd G2 t4 (.tup [.int p.1]) = G3 at e6 h4 ⊢
    refine ⟨(by show 4 ≤ sizeLine; exact sz4), fun M nM => ?_⟩
    have e7 : Ex G3 (upd G3 M (.lst [.int p.1, .str (toString p.1), .ref t3, .ref t4])) := Ex.new nM
    have hM : upd G3 M (.lst [.int p.1, .str (toString p.1), .ref t3, .ref t4]) M = some (.lst [.int p.1, .str (toString p.1), .ref t3, .ref t4]) := upd_same
    have E7 : Ex G1 (upd G3 M (.lst [.int p.1, .str (toString p.1), .ref t3, .ref t4])) := (e5.trans e6).trans e7
    have g3 := e7 _ _ (e6 _ _ h3)
    have g4 := e7 _ _ h4
    generalize upd G3 M (.lst [.int p.1, .str (toString p.1), .ref t3, .ref t4]) = G4 at e7 hM E7 g3 g4 ⊢
    have hu4 := E7 _ _ hu
    refine ⟨M, rfl, ⟨_, SqL.of hM⟩, for_list (K := K) (a := M) (xs := [.int p.1, .str (toString p.1), .ref t3, .ref t4]) (fun i sl H' => ∃ v, sl = [some (.ref u), some (.ref a), v] ∧ H' = G4) ⟨_, rfl, rfl⟩ (fun i sl H' _ h => by obtain ⟨v, _, e⟩ := h; rw [e]; exact SqL.of hM) ?_ ?_⟩
    · rintro i y sl H' hy ⟨v, rfl, rfl⟩
      obtain ⟨t, bk⟩ : ∃ t, BK H' y t := by
        match i, hy with
        | 0, h => cases h; exact ⟨_, .int _⟩
        | 1, h => cases h; exact ⟨_, .str _⟩
        | 2, h => cases h; exact ⟨_, .tup g3⟩
        | 3, h => cases h; exact ⟨_, .tup g4⟩
        | j + 4, h => simp at h
      have m := bk.mem
      refine ⟨_, rfl, _, rfl, .inl ⟨u, du', _, _, rfl, hu4, bk.ty, nf_ty (T.sub t m).1, u, y, _, rfl, ⟨du', hu4⟩, .inr ⟨t, bk.ty, m, false, false, rfl, rfl, _, rfl, iteF ?_⟩⟩⟩
      exact ⟨_, rfl, _, rfl, .inr ⟨u, du', _, t, rfl, hu4, bk, u, y, _, rfl, ⟨du', hu4⟩, .inr ⟨t, bk.ty, m, false, false, rfl, rfl, _, rfl, iteF ⟨some y, rfl, rfl⟩⟩⟩⟩
    rintro sl H' ⟨v, rfl, rfl⟩
    have su : Sm 4000 ((p.1, 1) : Int × Int) := ⟨sp.t.mono (by decide), (bd_of (by show (1 : Int).natAbs < 2 ^ 4000; exact Nat.one_lt_two_pow (by decide)) : Bd 4000 (1 : Int)), (show (0 : Int) < 1 by decide)⟩
    have gc := gb.ex E7
    refine ⟨_, rfl, u, du', _, rfl, hu4, rf_no _ (by decide +kernel) (by decide +kernel), u, _, rfl, ⟨du', hu4⟩, su, _, rfl, _, _, _, _, rfl, rfl, SqT.of gc, rfl, rfl, true, ?_, ?_⟩
    · have : dnV (p.1, 1) = p.1 := Int.ediv_one _
      rw [this]
      exact congrArg V.bl (decide_eq_true rfl)
    · refine ⟨_, rfl, u, du', _, rfl, hu4, rf_no _ (by decide +kernel) (by decide +kernel), u, _, rfl, ⟨du', hu4⟩, su, _, rfl, _, _, _, _, rfl, rfl, SqT.of gc, rfl, rfl, ?_⟩
      have : upV (p.1, 1) = p.1 := by show -(-p.1 / 1) = p.1; rw [Int.ediv_one]; omega
      rw [this]
      have e : decide (V.int p.1 = V.int p.1) = true := decide_eq_true rfl
      rw [e]
      exact k _ (E4.trans E7)
end
end Fc
set_option Elab.async false
set_option linter.all false
set_option maxRecDepth 100000
set_option maxHeartbeats 4000000
set_option exponentiation.threshold 100000
namespace Fc
open PySem PySem.Spec PyProof.Rows L2
section
variable {P : Program} {w : World} {K : PySem.W.Frag} {mg : Str → Option Value} {base : Heap} {A : Ad}
theorem ok_law (T : Txt K mg A) : FnOk P w K mg base CX0 8 A.f_law A.d_law ["script"] (spLaw K) := by
  refine T.F_law.ok sc_law (fun vs H Q E h => ?_) (fun cdv Ar outer s H vs Q E hr h => ?_)
  · obtain ⟨a, ns, rfl, _⟩ := h
    rfl
  · obtain ⟨a0, ns, rfl, hS, hlen, k⟩ := h
    refine ⟨_, (pss_cons (ps_set (i := 1) sc_law.nd rfl (Or.inl rfl) (pe_call (ok_start T) (hr.mono (by decide)) rfl T.g_start T.F_start.kp T.b_start .nil pass0 (pa_cons (pv 0) pa_nil)))
      (pss_cons (ps_set (i := 2) sc_law.nd rfl (Or.inl rfl) (pe_call (ok_fraction T) (hr.mono (by decide)) rfl T.g_fraction T.F_fraction.kp T.b_fraction .nil pass0 (pa_cons (pv 1) pa_nil)))
      (pss_cons (ps_set (i := 3) sc_law.nd rfl (Or.inl rfl) (pe_call (ok_second T) (hr.mono (by decide)) rfl T.g_second T.F_second.kp T.b_second .nil pass0 (pa_cons (pv 1) (pa_cons (pv 2) pa_nil))))
      (pss_cons (ps_set (i := 4) sc_law.nd rfl (Or.inl rfl) (pe_call (ok_handed T) (hr.mono (by decide)) rfl T.g_handed T.F_handed.kp T.b_handed .nil pass0 (pa_cons (pv 1) (pa_cons (pv 2) pa_nil))))
      (C8.pss_cut (ps_set (i := 5) sc_law.nd rfl (Or.inl rfl) (pe_call (ok_handed T) (hr.mono (by decide)) rfl T.g_handed T.F_handed.kp T.b_handed .nil pass0 (pa_cons (pv 1) (pa_cons (pv 3) pa_nil))))
      (pss_cons (ps_set (i := 6) sc_law.nd rfl (Or.inl rfl) (pe_make T.mkC (ok_init T) (hr.mono (by decide)) rfl T.g_Ratio T.b_init3 .nil passL (pa_cons (pe_ix ix_tup (pv 4) pe_int (fun _ _ => rfl)) (pa_cons (pe_ix ix_tup (pv 4) pe_int (fun _ _ => rfl)) pa_nil))))
      (pss_cons (ps_set (i := 7) sc_law.nd rfl (Or.inl rfl) (pe_make T.mkC (ok_init T) (hr.mono (by decide)) rfl T.g_Ratio T.b_init3 .nil passL (pa_cons (pe_ix ix_tup (pv 5) pe_int (fun _ _ => rfl)) (pa_cons (pe_ix ix_tup (pv 5) pe_int (fun _ _ => rfl)) pa_nil))))
      (C8.pss_cut (ps_set (i := 8) sc_law.nd rfl (Or.inl rfl) (pe_lst (pa_cons (pe_fld (pv 6) rfl) (pa_cons (pe_fld (pv 6) rfl) (pa_cons (pe_fld (pv 7) rfl) (pa_cons (pe_fld (pv 7) rfl) pa_nil))))))
      (pss_cons (ps_if (pt_not (pt_val (pe_call (ok_two T) (hr.mono (by decide)) rfl T.g_two T.F_two.kp T.b_two .nil pass0 (pa_cons (pv 6) (pa_cons (pv 7) (pa_cons (pv 2) (pa_cons (pv 3) pa_nil)))))))
      (pss_one (ps_ret pe_bl)) pss_nil)
      (pss_cons (ps_if (PW.pt (pw_or (pt_not (pt_val (pe_call (ok_alone T) (hr.mono (by decide)) rfl T.g_alone T.F_alone.kp T.b_alone .nil pass0 (pa_cons (pv 6) (pa_cons (pv 2) pa_nil))))) (pw_or1 (pt_not (pt_val (pe_call (ok_alone T) (hr.mono (by decide)) rfl T.g_alone T.F_alone.kp T.b_alone .nil pass0 (pa_cons (pv 7) (pa_cons (pv 3) pa_nil))))))))
      (pss_one (ps_ret pe_bl)) pss_nil)
      (pss_cons (ps_if (PW.pt (pw_or (pt_not (pt_val (pe_call (ok_other T) (hr.mono (by decide)) rfl T.g_other T.F_other.kp T.b_other .nil pass0 (pa_cons (pv 6) (pa_cons (pv 2) pa_nil))))) (pw_or1 (pt_not (pt_val (pe_call (ok_other T) (hr.mono (by decide)) rfl T.g_other T.F_other.kp T.b_other .nil pass0 (pa_cons (pv 7) (pa_cons (pv 3) pa_nil))))))))
      (pss_one (ps_ret pe_bl)) pss_nil)
      (pss_cons (ps_if (pt_not (pt_val (pe_call (ok_two T) (hr.mono (by decide)) rfl T.g_two T.F_two.kp T.b_two .nil pass0 (pa_cons (pv 6) (pa_cons (pv 7) (pa_cons (pv 2) (pa_cons (pv 3) pa_nil)))))))
      (pss_one (ps_ret pe_bl)) pss_nil)
      (pss_one (ps_ret (pe_cmpR (op_eqD hr.units) (pv 8) (pe_lst (pa_cons (pe_fld (pv 6) rfl) (pa_cons (pe_fld (pv 6) rfl) (pa_cons (pe_fld (pv 7) rfl) (pa_cons (pe_fld (pv 7) rfl) pa_nil))))) (nomark _)))))))))))))))), ?_⟩
    refine ⟨_, rfl, a0, ns, rfl, hS, hlen, fun pt H1 pt1 e1 n1 => ?_⟩
    refine ⟨_, rfl, pt, rfl, pt1, fun tp p H2 pp _ sp pt2 k2 => ?_⟩
    refine ⟨_, rfl, _, rfl, pt, tp, p, rfl, pt2, pp, sp, fun tq q H3 pq sq pt3 k3 => ?_⟩
    replace pp := pp.keep pt2 k3
    have sp3 : Sm 300 p := sp.mono (by decide)
    refine ⟨_, rfl, _, rfl, pt, tp, p, rfl, pt3, pp, sp3, fun t1 m1 H4 z1 b1 p1 _ pt4 k4 => ?_⟩
    replace pp := pp.keep pt3 k4
    replace pq := pq.keep pt3 k4
    refine ⟨fun sl H' => ∃ t2 m2, sl = [some (.ref a0), some (.ref pt), some (.ref tp), some (.ref tq), some (.ref t1), some (.ref t2), none, none, none] ∧ Pr H' tp p ∧ Pr H' tq q ∧ Pr H' t1 (p.1 * m1, p.2 * m1) ∧ Pr H' t2 (q.1 * m2, q.2 * m2) ∧ m2 ≠ 0 ∧ Bd 3 m2, ?_, ?_⟩
    · refine ⟨_, rfl, _, rfl, pt, tq, q, rfl, pt4, pq, sq, fun t2 m2 H5 z2 b2 p2 _ pt5 k5 => ?_⟩
      exact ⟨t2, m2, rfl, pp.keep pt4 k5, pq.keep pt4 k5, p1.keep pt4 k5, p2, z2, b2⟩
    clear pp pq p1
    rintro sl H5 ⟨t2, m2, rfl, pp, pq, p1, p2, z2, b2⟩
    refine ⟨_, rfl, _, _, _, _, rfl, rfl, SqT.of p1, rfl, _, rfl, _, _, _, _, rfl, rfl, SqT.of p1, rfl, ?_⟩
    intro x dx nx nd _
    refine ⟨x, dx, _, _, rfl, upd_same, fun z => absurd z (Int.mul_ne_zero sp.ne z1), fun _ => ⟨bd_k sp3 b1, fun H6 rx kp => ⟨rfl, ?_⟩⟩⟩
    have e6 : Ex H5 H6 := Same.made nx nd kp
    clear nx nd kp
    rw [lo_k sp3 z1] at rx
    replace pp := pp.ex e6
    replace pq := pq.ex e6
    replace p2 := p2.ex e6
    refine ⟨_, rfl, _, _, _, _, rfl, rfl, SqT.of p2, rfl, _, rfl, _, _, _, _, rfl, rfl, SqT.of p2, rfl, ?_⟩
    intro y dy nx nd _
    refine ⟨y, dy, _, _, rfl, upd_same, fun z => absurd z (Int.mul_ne_zero sq.ne z2), fun _ => ⟨bd_k sq b2, fun H7 ry kp => ⟨rfl, ?_⟩⟩⟩
    have e7 : Ex H6 H7 := Same.made nx nd kp
    clear nx nd kp
    rw [lo_k sq z2] at ry
    replace pp := pp.ex e7
    replace pq := pq.ex e7
    replace rx := rx.ex e7
    refine ⟨fun sl H' => ∃ f, sl = [some (.ref a0), some (.ref pt), some (.ref tp), some (.ref tq), some (.ref t1), some (.ref t2), some (.ref x), some (.ref y), some (.ref f)] ∧ Pr H' tp p ∧ Pr H' tq q ∧ RatAt A.C H' x (lo p.1 p.2) ∧ RatAt A.C H' y (lo q.1 q.2) ∧
      H' f = some (.lst [.int (lo p.1 p.2).1, .int (lo p.1 p.2).2, .int (lo q.1 q.2).1, .int (lo q.1 q.2).2]), ?_, ?_⟩
    · obtain ⟨dx, hx⟩ := rx
      obtain ⟨dy, hy⟩ := ry
      refine ⟨_, rfl, _, _, _, _, _, rfl, hx, T.cl, T.nT, rf_top _, _, rfl, _, _, _, _, _, rfl, hx, T.cl, T.nB, rf_bot _, _, rfl, _, _, _, _, _, rfl, hy, T.cl, T.nT, rf_top _, _, rfl, _, _, _, _, _, rfl, hy, T.cl, T.nB, rf_bot _, (by show 4 ≤ sizeLine; exact sz4), fun f hf => ?_⟩
      exact ⟨f, rfl, pp.ex (Ex.new hf), pq.ex (Ex.new hf), RatAt.ex ⟨dx, hx⟩ (Ex.new hf), RatAt.ex ⟨dy, hy⟩ (Ex.new hf), upd_same⟩
    clear pp pq rx ry p2
    rintro sl G ⟨f, rfl, pp, pq, rx, ry, hf⟩
    refine ⟨_, rfl, _, rfl, _, rfl, _, rfl, x, y, tp, tq, p, q, rfl, rx, ry, pp, pq, sp3, sq, fun G1 e1 => ⟨_, rfl, iteF ?_⟩⟩
    refine ⟨_, rfl, _, rfl, x, tp, p, rfl, rx.ex e1, pp.ex e1, sp3, fun G2 e2 => ⟨_, rfl, iteF ?_⟩⟩
    have E2 := e1.trans e2
    refine ⟨_, rfl, _, rfl, y, tq, q, rfl, ry.ex E2, pq.ex E2, sq, fun G3 e3 => ⟨_, rfl, iteF ?_⟩⟩
    have E3 := E2.trans e3
    refine ⟨_, rfl, _, rfl, x, tp, p, rfl, rx.ex E3, pp.ex E3, sp3, fun G4 e4 => ⟨_, rfl, iteF ?_⟩⟩
    have E4 := E3.trans e4
    refine ⟨_, rfl, _, rfl, y, tq, q, rfl, ry.ex E4, pq.ex E4, sq, fun G5 e5 => ⟨_, rfl, iteF ?_⟩⟩
    have E5 := E4.trans e5
    refine ⟨_, rfl, _, rfl, _, rfl, _, rfl, x, y, tp, tq, p, q, rfl, rx.ex E5, ry.ex E5, pp.ex E5, pq.ex E5, sp3, sq, fun G6 e6 => ⟨_, rfl, iteF ?_⟩⟩
    have E6 := E5.trans e6
    obtain ⟨dx, hx⟩ := rx.ex E6
    obtain ⟨dy, hy⟩ := ry.ex E6
    refine ⟨_, rfl, _, rfl, _, _, _, _, _, rfl, hx, T.cl, T.nT, rf_top _, _, rfl, _, _, _, _, _, rfl, hx, T.cl, T.nB, rf_bot _, _, rfl, _, _, _, _, _, rfl, hy, T.cl, T.nT, rf_top _, _, rfl, _, _, _, _, _, rfl, hy, T.cl, T.nB, rf_bot _, (by show 4 ≤ sizeLine; exact sz4), fun g hg => ?_⟩
    refine ⟨_, _, dp4 (Ex.new hg _ _ (E6 _ _ hf)), dp4 upd_same, rfl, rfl, ?_⟩
    rw [refl4]
    exact k _
end
end Fc
set_option Elab.async false
set_option linter.all false
set_option maxRecDepth 100000
set_option maxHeartbeats 4000000
namespace Fc
open PySem PySem.Spec PyProof.Rows L2
theorem all_mk {l : PySem.W.OpenLaw} {w : World} {K : PySem.W.Frag} {h : Heap} {mg : Str → Option Value} {fa : Addr} (X : K.In h) (G : h.Ns mainGlobals mg) (hfa : mg "law" = some (.ref fa))
    {f_eq : Addr} {oc_eq kV_eq dc_eq pm_eq cd_eq ct_eq : Value} {od_eq an_eq : Option Addr} {sl_eq : Array (Option Value)}
    {f_compare : Addr} {oc_compare kV_compare dc_compare pm_compare cd_compare ct_compare : Value} {od_compare an_compare : Option Addr} {sl_compare : Array (Option Value)}
    {f_sign : Addr} {oc_sign kV_sign dc_sign pm_sign cd_sign ct_sign : Value} {od_sign an_sign : Option Addr} {sl_sign : Array (Option Value)}
    {f_down : Addr} {oc_down kV_down dc_down pm_down cd_down ct_down : Value} {od_down an_down : Option Addr} {sl_down : Array (Option Value)}
    {f_up : Addr} {oc_up kV_up dc_up pm_up cd_up ct_up : Value} {od_up an_up : Option Addr} {sl_up : Array (Option Value)}
    {f_start : Addr} {oc_start kV_start dc_start pm_start cd_start ct_start : Value} {od_start an_start : Option Addr} {sl_start : Array (Option Value)}
    {f_digit : Addr} {oc_digit kV_digit dc_digit pm_digit cd_digit ct_digit : Value} {od_digit an_digit : Option Addr} {sl_digit : Array (Option Value)}
    {f_fraction : Addr} {oc_fraction kV_fraction dc_fraction pm_fraction cd_fraction ct_fraction : Value} {od_fraction an_fraction : Option Addr} {sl_fraction : Array (Option Value)}
    {f_second : Addr} {oc_second kV_second dc_second pm_second cd_second ct_second : Value} {od_second an_second : Option Addr} {sl_second : Array (Option Value)}
    {f_handed : Addr} {oc_handed kV_handed dc_handed pm_handed cd_handed ct_handed : Value} {od_handed an_handed : Option Addr} {sl_handed : Array (Option Value)}
    {f_whole : Addr} {oc_whole kV_whole dc_whole pm_whole cd_whole ct_whole : Value} {od_whole an_whole : Option Addr} {sl_whole : Array (Option Value)}
    {f_order : Addr} {oc_order kV_order dc_order pm_order cd_order ct_order : Value} {od_order an_order : Option Addr} {sl_order : Array (Option Value)}
    {f_two : Addr} {oc_two kV_two dc_two pm_two cd_two ct_two : Value} {od_two an_two : Option Addr} {sl_two : Array (Option Value)}
    {f_alone : Addr} {oc_alone kV_alone dc_alone pm_alone cd_alone ct_alone : Value} {od_alone an_alone : Option Addr} {sl_alone : Array (Option Value)}
    {f_other : Addr} {oc_other kV_other dc_other pm_other cd_other ct_other : Value} {od_other an_other : Option Addr} {sl_other : Array (Option Value)}
    {f_law : Addr} {oc_law kV_law dc_law pm_law cd_law ct_law : Value} {od_law an_law : Option Addr} {sl_law : Array (Option Value)}
    {C f_init T_init : Addr} {oc_init kV_init dc_init pm_init cd_init ct_init : Value} {od_init an_init : Option Addr} {sl_init : Array (Option Value)} {oT : Value} {dT : Option Addr} {tT : Tok} {nT' : Nat} {sT : Array (Option Value)}
    {Z : Addr}
    (hn : PySem.W.specialIn K (.builtin "object.__class__") "__get__" = some (some (.builtin "getset_descriptor.__get__")))
    (htk : PySem.W.takesIn K (.builtin "object.__class__") = some true)
    (aC : PySem.W.nsIn K mainGlobals "Ratio" = some (some (.ref C)))
    (pgC : PySem.W.plainGet K C Str.empty = true)
    (hdC : PySem.W.hasDictIn K C = true)
    (poC : PySem.W.plainOver K C = true)
    (saC : PySem.W.findIn K (.ref C) "__setattr__" = some (some (.builtin "object.__setattr__")))
    (mkC : PySem.W.makesIn K C = true)
    (kcC : PySem.W.keepIn K (.ref C) = true)
    (a_init : PySem.W.findIn K (.ref C) "__init__" = some (some (.ref f_init)))
    (i_init : PySem.W.isFn K (.ref f_init) = true)
    (l_init : K.lookup f_init = some ⟨oc_init, od_init, .func (PySem.W.fnOf "__init__" "Ratio.__init__" (defArgs S_init) (defBody S_init) (defScope S_init) (.ref T_init) kV_init dc_init pm_init an_init cd_init ct_init), sl_init⟩)
    (lT : K.lookup T_init = some ⟨oT, dT, .seq #[Value.int 1 tT] nT', sT⟩)
    (c_init : PySem.W.codeIn K cd_init "Ratio.__init__" = true)
    (k_init : PySem.W.keepIn K (.ref f_init) = true)
    (nT : PySem.W.findIn K (.ref C) "top" = some none)
    (nB : PySem.W.findIn K (.ref C) "bottom" = some none)
    (ha : PySem.W.findIn K (.ref C) "__class__" = some (some (.builtin "object.__class__")))
    (hm : PySem.W.mroIn K C (.type "object") = some true)
    (gg : PySem.W.nsIn K mainGlobals "gcd" = some (some (.builtin "math.gcd")))
    (aZ : PySem.W.nsIn K mainGlobals "ZeroBottom" = some (some (.ref Z)))
    (xZ : PySem.W.excIn K Z [.type "ValueError", .type "Exception", .type "BaseException", .type "object"] "ValueError.__new__" = true)
    (kZ : PySem.W.keepIn K (.ref Z) = true)
    (bZ : PySem.W.subIn K (.ref Z) (.type "BaseException") = some true)
    (tZ : PySem.W.typeIn K (.ref Z) = some (.type "type"))
    (tyC : PySem.W.typeIn K (.ref C) = some (.type "type"))
    (s0a : PySem.W.subIn K (.type "int") (.ref C) = some false)
    (s0b : PySem.W.subIn K (.ref C) (.type "int") = some false)
    (s1a : PySem.W.subIn K (.type "str") (.ref C) = some false)
    (s1b : PySem.W.subIn K (.ref C) (.type "str") = some false)
    (s2a : PySem.W.subIn K (.type "NoneType") (.ref C) = some false)
    (s2b : PySem.W.subIn K (.ref C) (.type "NoneType") = some false)
    (s3a : PySem.W.subIn K (.type "tuple") (.ref C) = some false)
    (s3b : PySem.W.subIn K (.ref C) (.type "tuple") = some false)
    (s4a : PySem.W.subIn K (.type "list") (.ref C) = some false)
    (s4b : PySem.W.subIn K (.ref C) (.type "list") = some false)
    (z_len : PySem.W.nsIn K mainGlobals "len" = some none)
    (z_abs : PySem.W.nsIn K mainGlobals "abs" = some none)
    (z_int : PySem.W.nsIn K mainGlobals "int" = some none)
    (z_bool : PySem.W.nsIn K mainGlobals "bool" = some none)
    (z_isinstance : PySem.W.nsIn K mainGlobals "isinstance" = some none)
    (z_all : PySem.W.nsIn K mainGlobals "all" = some none)
    (z_str : PySem.W.nsIn K mainGlobals "str" = some none)
    (a_eq : PySem.W.findIn K (.ref C) "__eq__" = some (some (.ref f_eq)))
    (i_eq : PySem.W.isFn K (.ref f_eq) = true)
    (l_eq : K.lookup f_eq = some ⟨oc_eq, od_eq, .func (PySem.W.fnOf "__eq__" "Ratio.__eq__" (defArgs S_eq) (defBody S_eq) (defScope S_eq) .none kV_eq dc_eq pm_eq an_eq cd_eq ct_eq), sl_eq⟩)
    (c_eq : PySem.W.codeIn K cd_eq "Ratio.__eq__" = true)
    (k_eq : PySem.W.keepIn K (.ref f_eq) = true)
    (a_compare : PySem.W.findIn K (.ref C) "compare" = some (some (.ref f_compare)))
    (i_compare : PySem.W.isFn K (.ref f_compare) = true)
    (l_compare : K.lookup f_compare = some ⟨oc_compare, od_compare, .func (PySem.W.fnOf "compare" "Ratio.compare" (defArgs S_compare) (defBody S_compare) (defScope S_compare) .none kV_compare dc_compare pm_compare an_compare cd_compare ct_compare), sl_compare⟩)
    (c_compare : PySem.W.codeIn K cd_compare "Ratio.compare" = true)
    (k_compare : PySem.W.keepIn K (.ref f_compare) = true)
    (a_sign : PySem.W.findIn K (.ref C) "sign" = some (some (.ref f_sign)))
    (i_sign : PySem.W.isFn K (.ref f_sign) = true)
    (l_sign : K.lookup f_sign = some ⟨oc_sign, od_sign, .func (PySem.W.fnOf "sign" "Ratio.sign" (defArgs S_sign) (defBody S_sign) (defScope S_sign) .none kV_sign dc_sign pm_sign an_sign cd_sign ct_sign), sl_sign⟩)
    (c_sign : PySem.W.codeIn K cd_sign "Ratio.sign" = true)
    (k_sign : PySem.W.keepIn K (.ref f_sign) = true)
    (a_down : PySem.W.findIn K (.ref C) "rounded_down" = some (some (.ref f_down)))
    (i_down : PySem.W.isFn K (.ref f_down) = true)
    (l_down : K.lookup f_down = some ⟨oc_down, od_down, .func (PySem.W.fnOf "rounded_down" "Ratio.rounded_down" (defArgs S_down) (defBody S_down) (defScope S_down) .none kV_down dc_down pm_down an_down cd_down ct_down), sl_down⟩)
    (c_down : PySem.W.codeIn K cd_down "Ratio.rounded_down" = true)
    (k_down : PySem.W.keepIn K (.ref f_down) = true)
    (a_up : PySem.W.findIn K (.ref C) "rounded_up" = some (some (.ref f_up)))
    (i_up : PySem.W.isFn K (.ref f_up) = true)
    (l_up : K.lookup f_up = some ⟨oc_up, od_up, .func (PySem.W.fnOf "rounded_up" "Ratio.rounded_up" (defArgs S_up) (defBody S_up) (defScope S_up) .none kV_up dc_up pm_up an_up cd_up ct_up), sl_up⟩)
    (c_up : PySem.W.codeIn K cd_up "Ratio.rounded_up" = true)
    (k_up : PySem.W.keepIn K (.ref f_up) = true)
    (a_start : PySem.W.nsIn K mainGlobals "_law_start" = some (some (.ref f_start)))
    (l_start : K.lookup f_start = some ⟨oc_start, od_start, .func (PySem.W.fnOf "_law_start" "_law_start" (defArgs S_start) (defBody S_start) (defScope S_start) .none kV_start dc_start pm_start an_start cd_start ct_start), sl_start⟩)
    (c_start : PySem.W.codeIn K cd_start "_law_start" = true)
    (k_start : PySem.W.keepIn K (.ref f_start) = true)
    (a_digit : PySem.W.nsIn K mainGlobals "_law_digit" = some (some (.ref f_digit)))
    (l_digit : K.lookup f_digit = some ⟨oc_digit, od_digit, .func (PySem.W.fnOf "_law_digit" "_law_digit" (defArgs S_digit) (defBody S_digit) (defScope S_digit) .none kV_digit dc_digit pm_digit an_digit cd_digit ct_digit), sl_digit⟩)
    (c_digit : PySem.W.codeIn K cd_digit "_law_digit" = true)
    (k_digit : PySem.W.keepIn K (.ref f_digit) = true)
    (a_fraction : PySem.W.nsIn K mainGlobals "_law_fraction" = some (some (.ref f_fraction)))
    (l_fraction : K.lookup f_fraction = some ⟨oc_fraction, od_fraction, .func (PySem.W.fnOf "_law_fraction" "_law_fraction" (defArgs S_fraction) (defBody S_fraction) (defScope S_fraction) .none kV_fraction dc_fraction pm_fraction an_fraction cd_fraction ct_fraction), sl_fraction⟩)
    (c_fraction : PySem.W.codeIn K cd_fraction "_law_fraction" = true)
    (k_fraction : PySem.W.keepIn K (.ref f_fraction) = true)
    (a_second : PySem.W.nsIn K mainGlobals "_law_second" = some (some (.ref f_second)))
    (l_second : K.lookup f_second = some ⟨oc_second, od_second, .func (PySem.W.fnOf "_law_second" "_law_second" (defArgs S_second) (defBody S_second) (defScope S_second) .none kV_second dc_second pm_second an_second cd_second ct_second), sl_second⟩)
    (c_second : PySem.W.codeIn K cd_second "_law_second" = true)
    (k_second : PySem.W.keepIn K (.ref f_second) = true)
    (a_handed : PySem.W.nsIn K mainGlobals "_law_handed" = some (some (.ref f_handed)))
    (l_handed : K.lookup f_handed = some ⟨oc_handed, od_handed, .func (PySem.W.fnOf "_law_handed" "_law_handed" (defArgs S_handed) (defBody S_handed) (defScope S_handed) .none kV_handed dc_handed pm_handed an_handed cd_handed ct_handed), sl_handed⟩)
    (c_handed : PySem.W.codeIn K cd_handed "_law_handed" = true)
    (k_handed : PySem.W.keepIn K (.ref f_handed) = true)
    (a_whole : PySem.W.nsIn K mainGlobals "_law_whole" = some (some (.ref f_whole)))
    (l_whole : K.lookup f_whole = some ⟨oc_whole, od_whole, .func (PySem.W.fnOf "_law_whole" "_law_whole" (defArgs S_whole) (defBody S_whole) (defScope S_whole) .none kV_whole dc_whole pm_whole an_whole cd_whole ct_whole), sl_whole⟩)
    (c_whole : PySem.W.codeIn K cd_whole "_law_whole" = true)
    (k_whole : PySem.W.keepIn K (.ref f_whole) = true)
    (a_order : PySem.W.nsIn K mainGlobals "_law_order" = some (some (.ref f_order)))
    (l_order : K.lookup f_order = some ⟨oc_order, od_order, .func (PySem.W.fnOf "_law_order" "_law_order" (defArgs S_order) (defBody S_order) (defScope S_order) .none kV_order dc_order pm_order an_order cd_order ct_order), sl_order⟩)
    (c_order : PySem.W.codeIn K cd_order "_law_order" = true)
    (k_order : PySem.W.keepIn K (.ref f_order) = true)
    (a_two : PySem.W.nsIn K mainGlobals "_law_two" = some (some (.ref f_two)))
    (l_two : K.lookup f_two = some ⟨oc_two, od_two, .func (PySem.W.fnOf "_law_two" "_law_two" (defArgs S_two) (defBody S_two) (defScope S_two) .none kV_two dc_two pm_two an_two cd_two ct_two), sl_two⟩)
    (c_two : PySem.W.codeIn K cd_two "_law_two" = true)
    (k_two : PySem.W.keepIn K (.ref f_two) = true)
    (a_alone : PySem.W.nsIn K mainGlobals "_law_alone" = some (some (.ref f_alone)))
    (l_alone : K.lookup f_alone = some ⟨oc_alone, od_alone, .func (PySem.W.fnOf "_law_alone" "_law_alone" (defArgs S_alone) (defBody S_alone) (defScope S_alone) .none kV_alone dc_alone pm_alone an_alone cd_alone ct_alone), sl_alone⟩)
    (c_alone : PySem.W.codeIn K cd_alone "_law_alone" = true)
    (k_alone : PySem.W.keepIn K (.ref f_alone) = true)
    (a_other : PySem.W.nsIn K mainGlobals "_law_other_kinds" = some (some (.ref f_other)))
    (l_other : K.lookup f_other = some ⟨oc_other, od_other, .func (PySem.W.fnOf "_law_other_kinds" "_law_other_kinds" (defArgs S_other) (defBody S_other) (defScope S_other) .none kV_other dc_other pm_other an_other cd_other ct_other), sl_other⟩)
    (c_other : PySem.W.codeIn K cd_other "_law_other_kinds" = true)
    (k_other : PySem.W.keepIn K (.ref f_other) = true)
    (a_law : PySem.W.nsIn K mainGlobals "law" = some (some (.ref f_law)))
    (l_law : K.lookup f_law = some ⟨oc_law, od_law, .func (PySem.W.fnOf "law" "law" (defArgs S_law) (defBody S_law) (defScope S_law) .none kV_law dc_law pm_law an_law cd_law ct_law), sl_law⟩)
    (c_law : PySem.W.codeIn K cd_law "law" = true)
    (k_law : PySem.W.keepIn K (.ref f_law) = true) :
    ∃ fd : FuncData, (∀ (s : Shared) (v : Value), BindsTo s fd ⟨[v], []⟩ [("script", v)]) ∧ ∀ base : Heap, K.In base → base.Ns mainGlobals mg → FnOk l.prog w K mg base CX0 8 fa fd ["script"] (spLaw K) := by
  have e := hfa.symm.trans (PySem.W.mg_of X G a_law)
  cases e
  have F_eq := fun_mk (st := S_eq) l_eq c_eq k_eq
  have b_eq := F_eq.binds (ps := ["self", "other"]) fun _ _ _ _ _ _ us hl => match us, hl with | [_, _], _ => rfl
  have F_compare := fun_mk (st := S_compare) l_compare c_compare k_compare
  have b_compare := F_compare.binds (ps := ["self", "other"]) fun _ _ _ _ _ _ us hl => match us, hl with | [_, _], _ => rfl
  have F_sign := fun_mk (st := S_sign) l_sign c_sign k_sign
  have b_sign := F_sign.binds (ps := ["self"]) fun _ _ _ _ _ _ us hl => match us, hl with | [_], _ => rfl
  have F_down := fun_mk (st := S_down) l_down c_down k_down
  have b_down := F_down.binds (ps := ["self"]) fun _ _ _ _ _ _ us hl => match us, hl with | [_], _ => rfl
  have F_up := fun_mk (st := S_up) l_up c_up k_up
  have b_up := F_up.binds (ps := ["self"]) fun _ _ _ _ _ _ us hl => match us, hl with | [_], _ => rfl
  have F_start := fun_mk (st := S_start) l_start c_start k_start
  have b_start := F_start.binds (ps := ["script"]) fun _ _ _ _ _ _ us hl => match us, hl with | [_], _ => rfl
  have F_digit := fun_mk (st := S_digit) l_digit c_digit k_digit
  have b_digit := F_digit.binds (ps := ["pot", "many"]) fun _ _ _ _ _ _ us hl => match us, hl with | [_, _], _ => rfl
  have F_fraction := fun_mk (st := S_fraction) l_fraction c_fraction k_fraction
  have b_fraction := F_fraction.binds (ps := ["pot"]) fun _ _ _ _ _ _ us hl => match us, hl with | [_], _ => rfl
  have F_second := fun_mk (st := S_second) l_second c_second k_second
  have b_second := F_second.binds (ps := ["pot", "p"]) fun _ _ _ _ _ _ us hl => match us, hl with | [_, _], _ => rfl
  have F_handed := fun_mk (st := S_handed) l_handed c_handed k_handed
  have b_handed := F_handed.binds (ps := ["pot", "pair"]) fun _ _ _ _ _ _ us hl => match us, hl with | [_, _], _ => rfl
  have F_whole := fun_mk (st := S_whole) l_whole c_whole k_whole
  have b_whole := F_whole.binds (ps := ["told"]) fun _ _ _ _ _ _ us hl => match us, hl with | [_], _ => rfl
  have F_order := fun_mk (st := S_order) l_order c_order k_order
  have b_order := F_order.binds (ps := ["p", "q"]) fun _ _ _ _ _ _ us hl => match us, hl with | [_, _], _ => rfl
  have F_two := fun_mk (st := S_two) l_two c_two k_two
  have b_two := F_two.binds (ps := ["x", "y", "p", "q"]) fun _ _ _ _ _ _ us hl => match us, hl with | [_, _, _, _], _ => rfl
  have F_alone := fun_mk (st := S_alone) l_alone c_alone k_alone
  have b_alone := F_alone.binds (ps := ["x", "p"]) fun _ _ _ _ _ _ us hl => match us, hl with | [_, _], _ => rfl
  have F_other := fun_mk (st := S_other) l_other c_other k_other
  have b_other := F_other.binds (ps := ["x", "p"]) fun _ _ _ _ _ _ us hl => match us, hl with | [_, _], _ => rfl
  have F_law := fun_mk (st := S_law) l_law c_law k_law
  have b_law := F_law.binds (ps := ["script"]) fun _ _ _ _ _ _ us hl => match us, hl with | [_], _ => rfl
  have F_init : FunD K "__init__" "Ratio.__init__" (defArgs S_init) (defBody S_init) (defScope S_init) [.int 1] [] f_init (PySem.W.fnOf "__init__" "Ratio.__init__" (defArgs S_init) (defBody S_init) (defScope S_init) (.ref T_init) kV_init dc_init pm_init an_init cd_init ct_init) :=
    ⟨⟨_, _, _, _, _, _, _, _, _, _, rfl, l_init, c_init, .inr ⟨(by intro z; cases z), T_init, _, [Value.int 1 tT], _, rfl, lT, rfl, .cons ⟨_, rfl⟩ .nil⟩, .inl rfl⟩, k_init⟩
  have b3 : ∃ ds, Vals (([V.int 1] : List V).drop 1) ds ∧ Binds K (PySem.W.fnOf "__init__" "Ratio.__init__" (defArgs S_init) (defBody S_init) (defScope S_init) (.ref T_init) kV_init dc_init pm_init an_init cd_init ct_init) ["self", "top", "bottom"] ds :=
    F_init.binds1 3 1 (by intro z; cases z) rfl fun T kV doc pm an cdv ct us its h1 h2 => match us, its, h1, h2 with | [_, _, _], [_], _, _ => ⟨_, rfl, rfl⟩
  have b2 : ∃ ds, Vals (([V.int 1] : List V).drop 0) ds ∧ Binds K (PySem.W.fnOf "__init__" "Ratio.__init__" (defArgs S_init) (defBody S_init) (defScope S_init) (.ref T_init) kV_init dc_init pm_init an_init cd_init ct_init) ["self", "top", "bottom"] ds :=
    F_init.binds1 2 0 (by intro z; cases z) rfl fun T kV doc pm an cdv ct us its h1 h2 => match us, its, h1, h2 with | [_, _], [_], _, _ => ⟨_, rfl, rfl⟩
  have b3' : Binds K (PySem.W.fnOf "__init__" "Ratio.__init__" (defArgs S_init) (defBody S_init) (defScope S_init) (.ref T_init) kV_init dc_init pm_init an_init cd_init ct_init) ["self", "top", "bottom"] [] := by
    obtain ⟨ds, v, b⟩ := b3
    cases v
    exact b
  let A : Ad := { C := C, f_init := f_init, d_init := PySem.W.fnOf "__init__" "Ratio.__init__" (defArgs S_init) (defBody S_init) (defScope S_init) (.ref T_init) kV_init dc_init pm_init an_init cd_init ct_init, Z := Z, f_eq := f_eq, d_eq := PySem.W.fnOf "__eq__" "Ratio.__eq__" (defArgs S_eq) (defBody S_eq) (defScope S_eq) .none kV_eq dc_eq pm_eq an_eq cd_eq ct_eq, f_compare := f_compare, d_compare := PySem.W.fnOf "compare" "Ratio.compare" (defArgs S_compare) (defBody S_compare) (defScope S_compare) .none kV_compare dc_compare pm_compare an_compare cd_compare ct_compare, f_sign := f_sign, d_sign := PySem.W.fnOf "sign" "Ratio.sign" (defArgs S_sign) (defBody S_sign) (defScope S_sign) .none kV_sign dc_sign pm_sign an_sign cd_sign ct_sign, f_down := f_down, d_down := PySem.W.fnOf "rounded_down" "Ratio.rounded_down" (defArgs S_down) (defBody S_down) (defScope S_down) .none kV_down dc_down pm_down an_down cd_down ct_down, f_up := f_up, d_up := PySem.W.fnOf "rounded_up" "Ratio.rounded_up" (defArgs S_up) (defBody S_up) (defScope S_up) .none kV_up dc_up pm_up an_up cd_up ct_up, f_start := f_start, d_start := PySem.W.fnOf "_law_start" "_law_start" (defArgs S_start) (defBody S_start) (defScope S_start) .none kV_start dc_start pm_start an_start cd_start ct_start, f_digit := f_digit, d_digit := PySem.W.fnOf "_law_digit" "_law_digit" (defArgs S_digit) (defBody S_digit) (defScope S_digit) .none kV_digit dc_digit pm_digit an_digit cd_digit ct_digit, f_fraction := f_fraction, d_fraction := PySem.W.fnOf "_law_fraction" "_law_fraction" (defArgs S_fraction) (defBody S_fraction) (defScope S_fraction) .none kV_fraction dc_fraction pm_fraction an_fraction cd_fraction ct_fraction, f_second := f_second, d_second := PySem.W.fnOf "_law_second" "_law_second" (defArgs S_second) (defBody S_second) (defScope S_second) .none kV_second dc_second pm_second an_second cd_second ct_second, f_handed := f_handed, d_handed := PySem.W.fnOf "_law_handed" "_law_handed" (defArgs S_handed) (defBody S_handed) (defScope S_handed) .none kV_handed dc_handed pm_handed an_handed cd_handed ct_handed, f_whole := f_whole, d_whole := PySem.W.fnOf "_law_whole" "_law_whole" (defArgs S_whole) (defBody S_whole) (defScope S_whole) .none kV_whole dc_whole pm_whole an_whole cd_whole ct_whole, f_order := f_order, d_order := PySem.W.fnOf "_law_order" "_law_order" (defArgs S_order) (defBody S_order) (defScope S_order) .none kV_order dc_order pm_order an_order cd_order ct_order, f_two := f_two, d_two := PySem.W.fnOf "_law_two" "_law_two" (defArgs S_two) (defBody S_two) (defScope S_two) .none kV_two dc_two pm_two an_two cd_two ct_two, f_alone := f_alone, d_alone := PySem.W.fnOf "_law_alone" "_law_alone" (defArgs S_alone) (defBody S_alone) (defScope S_alone) .none kV_alone dc_alone pm_alone an_alone cd_alone ct_alone, f_other := f_other, d_other := PySem.W.fnOf "_law_other_kinds" "_law_other_kinds" (defArgs S_other) (defBody S_other) (defScope S_other) .none kV_other dc_other pm_other an_other cd_other ct_other, f_law := fa, d_law := PySem.W.fnOf "law" "law" (defArgs S_law) (defBody S_law) (defScope S_law) .none kV_law dc_law pm_law an_law cd_law ct_law }
  have T : Txt K mg A := {
    hn := hn,
    htk := htk,
    cl := ⟨pgC, hdC, poC, saC⟩,
    nT := nT,
    nB := nB,
    mkC := ⟨mkC, a_init, i_init, kcC⟩,
    ha := ha,
    hm := hm,
    F_init := F_init,
    b_init3 := b3',
    b_init2 := b2,
    g_Ratio := PySem.W.mg_of X G aC,
    g_gcd := PySem.W.mg_of X G gg,
    g_Z := PySem.W.mg_of X G aZ,
    xZ := xZ,
    kZ := kZ,
    bZ := bZ,
    tZ := tZ,
    tyC := tyC,
    sub := fun t ht => by (simp only [List.mem_cons, List.not_mem_nil, or_false] at ht; rcases ht with rfl | rfl | rfl | rfl | rfl <;> first | exact ⟨s0a, s0b⟩ | exact ⟨s1a, s1b⟩ | exact ⟨s2a, s2b⟩ | exact ⟨s3a, s3b⟩ | exact ⟨s4a, s4b⟩),
    n_len := PySem.W.mg_none_of X G z_len,
    n_abs := PySem.W.mg_none_of X G z_abs,
    n_int := PySem.W.mg_none_of X G z_int,
    n_bool := PySem.W.mg_none_of X G z_bool,
    n_isinstance := PySem.W.mg_none_of X G z_isinstance,
    n_all := PySem.W.mg_none_of X G z_all,
    n_str := PySem.W.mg_none_of X G z_str,
    F_eq := F_eq, b_eq := b_eq,
    m_eq := ⟨a_eq, i_eq, k_eq⟩,
    F_compare := F_compare, b_compare := b_compare,
    m_compare := ⟨a_compare, i_compare, k_compare⟩,
    F_sign := F_sign, b_sign := b_sign,
    m_sign := ⟨a_sign, i_sign, k_sign⟩,
    F_down := F_down, b_down := b_down,
    m_down := ⟨a_down, i_down, k_down⟩,
    F_up := F_up, b_up := b_up,
    m_up := ⟨a_up, i_up, k_up⟩,
    F_start := F_start, b_start := b_start,
    g_start := PySem.W.mg_of X G a_start,
    F_digit := F_digit, b_digit := b_digit,
    g_digit := PySem.W.mg_of X G a_digit,
    F_fraction := F_fraction, b_fraction := b_fraction,
    g_fraction := PySem.W.mg_of X G a_fraction,
    F_second := F_second, b_second := b_second,
    g_second := PySem.W.mg_of X G a_second,
    F_handed := F_handed, b_handed := b_handed,
    g_handed := PySem.W.mg_of X G a_handed,
    F_whole := F_whole, b_whole := b_whole,
    g_whole := PySem.W.mg_of X G a_whole,
    F_order := F_order, b_order := b_order,
    g_order := PySem.W.mg_of X G a_order,
    F_two := F_two, b_two := b_two,
    g_two := PySem.W.mg_of X G a_two,
    F_alone := F_alone, b_alone := b_alone,
    g_alone := PySem.W.mg_of X G a_alone,
    F_other := F_other, b_other := b_other,
    g_other := PySem.W.mg_of X G a_other,
    F_law := F_law, b_law := b_law,
    g_law := PySem.W.mg_of X G a_law }
  exact ⟨_, fun s v => .of_eq rfl, fun base _ _ => ok_law (P := l.prog) (w := w) (base := base) T⟩
theorem walk {l : PySem.W.OpenLaw} {q : Program} {loose : List Str} {XP : (Str → Option Value) → Heap → Prop} {YP : World → Heap → Prop} {d : DefRec} {K : Params → PySem.W.Frag} (hn : l.most = some 63) (hdf : d.params.defaults = [])
    (hY : ∀ (w : World) (h : Heap), YP w h → (K w.params).In h)
    (F : ∀ (w : World) (mg : Str → Option Value) (fa : Addr) (h : Heap), (K w.params).In h → h.Ns mainGlobals mg → mg d.name = some (.ref fa) →
      ∃ fd : FuncData, (∀ (s : Shared) (u : Value), BindsTo s fd ⟨[u], []⟩ [("script", u)]) ∧ ∀ base : Heap, (K w.params).In base → base.Ns mainGlobals mg → FnOk l.prog w (K w.params) mg base CX0 8 fa fd ["script"] (spLaw (K w.params))) :
    PySem.W.WalkO q loose XP YP l.row.toRowW d [] (fun f vs => PySem.call f vs) :=
  L2.walk_of (n := 63) (k := 8) (x := "script") (CX := fun _ => CX0) (sp := fun w => spLaw (K w.params)) hn (by decide) hdf ⟨rfl, by decide, by decide⟩ hY F
    (fun _ _ a ns hl _ hS => ⟨a, ns, rfl, hS, hl, fun _ => rfl⟩) fun _ _ _ _ _ z => z
end Fc
open PySem PySem.W PyProof.Rows
set_option maxRecDepth 100000 in
set_option maxHeartbeats 0 in
theorem PySem.Challenge.cw_fewcarry_k02_fraction_order_holds : PySem.Challenge.rw_fewcarry_k02_fraction_order.Holds := by
  w_on; o_law; k_head; (case hw => w_witness2)
  k_fill
  refine Fc.walk (l := PySem.Challenge.rw_fewcarry_k02_fraction_order) rfl rfl (fun w h Y => PySem.W.kIn_of Y) ?F
  case F =>
    intro w mg fa h KX G hmg
    refine' Fc.all_mk KX G hmg ?hn ?htk ?aC ?pgC ?hdC ?poC ?saC ?mkC ?kcC ?a_init ?i_init ?l_init ?lT ?c_init ?k_init ?nT ?nB ?ha ?hm ?gg ?aZ ?xZ ?kZ ?bZ ?tZ ?tyC ?s0a ?s0b ?s1a ?s1b ?s2a ?s2b ?s3a ?s3b ?s4a ?s4b ?z_len ?z_abs ?z_int ?z_bool ?z_isinstance ?z_all ?z_str ?a_eq ?i_eq ?l_eq ?c_eq ?k_eq ?a_compare ?i_compare ?l_compare ?c_compare ?k_compare ?a_sign ?i_sign ?l_sign ?c_sign ?k_sign ?a_down ?i_down ?l_down ?c_down ?k_down ?a_up ?i_up ?l_up ?c_up ?k_up ?a_start ?l_start ?c_start ?k_start ?a_digit ?l_digit ?c_digit ?k_digit ?a_fraction ?l_fraction ?c_fraction ?k_fraction ?a_second ?l_second ?c_second ?k_second ?a_handed ?l_handed ?c_handed ?k_handed ?a_whole ?l_whole ?c_whole ?k_whole ?a_order ?l_order ?c_order ?k_order ?a_two ?l_two ?c_two ?k_two ?a_alone ?l_alone ?c_alone ?k_alone ?a_other ?l_other ?c_other ?k_other ?a_law ?l_law ?c_law ?k_law
    (case hn => k_is)
    (case htk => k_is)
    (case aC => k_is)
    (case pgC => k_is)
    (case hdC => k_is)
    (case poC => k_is)
    (case saC => k_is)
    (case mkC => k_is)
    (case kcC => k_is)
    (case a_init => k_is)
    (case i_init => k_is)
    (case l_init => k_is)
    (case lT => k_is)
    (case c_init => k_is)
    (case k_init => k_is)
    (case nT => k_is)
    (case nB => k_is)
    (case ha => k_is)
    (case hm => k_is)
    (case gg => k_is)
    (case aZ => k_is)
    (case xZ => k_exc)
    (case kZ => k_is)
    (case bZ => k_is)
    (case tZ => k_is)
    (case tyC => k_is)
    (case s0a => k_is)
    (case s0b => k_is)
    (case s1a => k_is)
    (case s1b => k_is)
    (case s2a => k_is)
    (case s2b => k_is)
    (case s3a => k_is)
    (case s3b => k_is)
    (case s4a => k_is)
    (case s4b => k_is)
    (case z_len => k_is)
    (case z_abs => k_is)
    (case z_int => k_is)
    (case z_bool => k_is)
    (case z_isinstance => k_is)
    (case z_all => k_is)
    (case z_str => k_is)
    (case a_eq => k_is)
    (case i_eq => k_is)
    (case l_eq => k_is)
    (case c_eq => k_is)
    (case k_eq => k_is)
    (case a_compare => k_is)
    (case i_compare => k_is)
    (case l_compare => k_is)
    (case c_compare => k_is)
    (case k_compare => k_is)
    (case a_sign => k_is)
    (case i_sign => k_is)
    (case l_sign => k_is)
    (case c_sign => k_is)
    (case k_sign => k_is)
    (case a_down => k_is)
    (case i_down => k_is)
    (case l_down => k_is)
    (case c_down => k_is)
    (case k_down => k_is)
    (case a_up => k_is)
    (case i_up => k_is)
    (case l_up => k_is)
    (case c_up => k_is)
    (case k_up => k_is)
    (case a_start => k_is)
    (case l_start => k_is)
    (case c_start => k_is)
    (case k_start => k_is)
    (case a_digit => k_is)
    (case l_digit => k_is)
    (case c_digit => k_is)
    (case k_digit => k_is)
    (case a_fraction => k_is)
    (case l_fraction => k_is)
    (case c_fraction => k_is)
    (case k_fraction => k_is)
    (case a_second => k_is)
    (case l_second => k_is)
    (case c_second => k_is)
    (case k_second => k_is)
    (case a_handed => k_is)
    (case l_handed => k_is)
    (case c_handed => k_is)
    (case k_handed => k_is)
    (case a_whole => k_is)
    (case l_whole => k_is)
    (case c_whole => k_is)
    (case k_whole => k_is)
    (case a_order => k_is)
    (case l_order => k_is)
    (case c_order => k_is)
    (case k_order => k_is)
    (case a_two => k_is)
    (case l_two => k_is)
    (case c_two => k_is)
    (case k_two => k_is)
    (case a_alone => k_is)
    (case l_alone => k_is)
    (case c_alone => k_is)
    (case k_alone => k_is)
    (case a_other => k_is)
    (case l_other => k_is)
    (case c_other => k_is)
    (case k_other => k_is)
    (case a_law => k_is)
    (case l_law => k_is)
    (case c_law => k_is)
    (case k_law => k_is)
#print axioms PySem.Challenge.cw_fewcarry_k02_fraction_order_holds
