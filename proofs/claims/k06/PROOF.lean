import PyProof.Rows.All
import Wide.All
import OpenK.AllK
import Wide.FinOn
import HandS.ForExc
import HandS.Comp
import HandS.Wide
import HandS.Gcd
import HandS.ExcInit
import HandS.ExcIs
import HandS.ExcField
import HandS.IsInst
import HandS.OwnEq
import HandS.Small
import HandS.Flow
import HandS.Codes
import KE.KOpsOwn
import HandS.Style
import HandS.Defaults
import HandS.ClsMeth
import HandS.FStr
import HandS.ExcInitHot
import PySem.Challenge.RW_fewcarry_k06_span_order
set_option Elab.async false
set_option linter.all false
set_option maxRecDepth 100000
set_option maxHeartbeats 4000000
/-! Rules of mine over the hand layer: operators that an own class defines, abs by an own method, floor division by any divisor,
an own error without arguments, isinstance of a caught error that has fields, a new instance or a method's call that may raise in a try. -/
namespace Fc
open PySem PySem.Spec PyProof.Rows L2

section
variable {X : Cx} {pins : List (Addr × Obj)} {sl : L2.St} {H : Hp} {s : Shared}

/-- a value of ours is never the mark NotImplemented -/
theorem cmpBack {Q : VK} {u : Value} {s' : Shared} (h : EP X pins sl Q u s') : PySem.W.CmpBack (EP X pins sl Q) u s' := by
  obtain ⟨v, H', I, r, q⟩ := id h
  cases v with
  | non => cases r; exact h
  | bl b => cases r; exact h
  | int i => obtain ⟨t, e⟩ := r; cases e; exact h
  | str y => obtain ⟨t, e⟩ := r; cases e; exact h
  | byt y => obtain ⟨t, e⟩ := r; cases e; exact h
  | flt y => obtain ⟨t, e⟩ := r; cases e; exact h
  | ref a => cases r; exact h
  | ty n => cases r; exact h

/-- what is known of an instance, as the library's rules ask it -/
theorem inst_at {a C dx : Addr} {fs : List (Str × V)} (I : Inv X pins sl H s) (e : H a = some (.ins C dx fs)) : ∃ ox od, PySem.W.InstAt s.heap a ox C od := by
  obtain ⟨mA, J, _⟩ := ins_get I.hok e
  obtain ⟨od, J, _⟩ := J.look
  exact ⟨_, _, J⟩
end

/-! ### x op y for two instances of one class -/
section
variable {X : Cx} {CX : CXT} {k : Nat} {C f : Addr} {fd : FuncData} {ps : List Str} {sp : Sp} {E : XK}
def rOwn (C : Addr) (sp : Sp) (E : XK) : R2 := fun x y H Q => ∃ a b dx dy fs gs, x = .ref a ∧ y = .ref b ∧
  H a = some (.ins C dx fs) ∧ H b = some (.ins C dy gs) ∧ sp [.ref a, .ref b] H Q E
theorem op_own {op : Operator} (hc : PySem.W.selfFirst X.K C = true) (hs : PySem.W.findIn X.K (.ref C) (PySem.dunder op.info.2) = some (some (.ref f)))
    (hf : PySem.W.isFn X.K (.ref f) = true) (F : FnOk X.prog X.w X.K X.mg X.base CX k f fd ps sp) (hr : Room k X.A) (hb : Binds X.K fd ps []) (hx : Passes CX X E) :
    OpR X (binaryOp op) (rOwn C sp E) := by
  intro pins s sl H x y u v Q I rx ry h
  obtain ⟨a, b, dx, dy, fs, gs, rfl, rfl, ha, hb', q⟩ := h
  cases rx
  cases ry
  obtain ⟨ox, od, J⟩ := inst_at I ha
  obtain ⟨oy, oe, J'⟩ := inst_at I hb'
  obtain ⟨m, hF⟩ := I.fr
  exact PySem.W.binop_K hF I.ok.mod.kin J J'.type hc hs hf
    (thn (run_fn (vs := [.ref a, .ref b]) (us := [.ref a, .ref b]) F hr hb .nil hx I (.cons rfl (.cons rfl .nil)) q) fun _ _ z => cmpBack z)

/-- x op n for an instance and a whole number -/
def rOwnI (C : Addr) (sp : Sp) (E : XK) : R2 := fun x y H Q => ∃ a dx fs n, x = .ref a ∧ y = .int n ∧ H a = some (.ins C dx fs) ∧ sp [.ref a, .int n] H Q E
theorem op_ownI {op : Operator} {fo ro rc : Option Value} (hc : PySem.W.selfFirst X.K C = true) (hs : PySem.W.findIn X.K (.ref C) (PySem.dunder op.info.2) = some (some (.ref f)))
    (hf : PySem.W.isFn X.K (.ref f) = true) (h0 : PySem.W.findIn X.K (.ref C) (dunderR op.info.2) = some rc) (hp : rc = none ∨ ∃ g : Addr, rc = some (.ref g))
    (h1 : PySem.W.findIn X.K (.type "int") (PySem.dunder op.info.2) = some fo) (h2 : PySem.W.findIn X.K (.type "int") (dunderR op.info.2) = some ro)
    (hsub : PySem.W.subIn X.K (.type "int") (.ref C) = some false)
    (F : FnOk X.prog X.w X.K X.mg X.base CX k f fd ps sp) (hr : Room k X.A) (hb : Binds X.K fd ps []) (hx : Passes CX X E) :
    OpR X (binaryOp op) (rOwnI C sp E) := by
  intro pins s sl H x y u v Q I rx ry h
  obtain ⟨a, dx, fs, n, rfl, rfl, ha, q⟩ := h
  cases rx
  obtain ⟨t, rfl⟩ := ry
  obtain ⟨ox, od, J⟩ := inst_at I ha
  obtain ⟨m, hF⟩ := I.fr
  exact PySem.W.ksp_binT (T := "int") hF I.ok.mod.kin J rfl hc hs hf h0 hp h1 h2 hsub
    (thn (run_fn (vs := [.ref a, .int n]) (us := [.ref a, .int n t]) F hr hb .nil hx I (.cons rfl (.cons ⟨t, rfl⟩ .nil)) q) fun _ _ z => cmpBack z)

/-- -x -/
def rOwnU (C : Addr) (sp : Sp) (E : XK) : V → Hp → VK → Prop := fun x H Q => ∃ a dx fs, x = .ref a ∧ H a = some (.ins C dx fs) ∧ sp [.ref a] H Q E
theorem un_own (hs : PySem.W.findIn X.K (.ref C) "__neg__" = some (some (.ref f))) (hf : PySem.W.isFn X.K (.ref f) = true)
    (F : FnOk X.prog X.w X.K X.mg X.base CX k f fd ps sp) (hr : Room k X.A) (hb : Binds X.K fd ps []) (hx : Passes CX X E) :
    UnR X (unaryOp .USub) (rOwnU C sp E) := by
  intro pins s sl H x u Q I rx h
  obtain ⟨a, dx, fs, rfl, ha, q⟩ := h
  cases rx
  obtain ⟨ox, od, J⟩ := inst_at I ha
  obtain ⟨m, hF⟩ := I.fr
  exact PySem.W.ksp_neg hF I.ok.mod.kin J hs hf (run_fn (vs := [.ref a]) (us := [.ref a]) F hr hb .nil hx I (.cons rfl .nil) q)

/-- abs(x) by an own __abs__ -/
def rOwnAbs (C : Addr) (sp : Sp) (E : XK) : List V → Hp → VK → Prop := fun xs H Q => ∃ a dx fs, xs = [.ref a] ∧ H a = some (.ins C dx fs) ∧ sp [.ref a] H Q E
/-- a call of a built-in function that runs nothing else before its own body: the code that runs within it has one unit more -/
theorem call_own_abs (hs : PySem.W.findIn X.K (.ref C) "__abs__" = some (some (.ref f))) (hf : PySem.W.isFn X.K (.ref f) = true)
    (F : FnOk X.prog X.w X.K X.mg X.base CX k f fd ps sp) (hr : Room (k + 1) X.A) (hb : Binds X.K fd ps []) (hx : Passes CX X E) :
    CallR X (.builtin "abs") (rOwnAbs C sp E) := by
  intro pins s sl H xs us Q I r h
  obtain ⟨a, dx, fs, rfl, ha, q⟩ := h
  obtain ⟨u, rfl, ru⟩ := vals1 r
  cases ru
  obtain ⟨ox, od, J⟩ := inst_at I ha
  have e := I.env0
  have e0 : Env0 X.prog X.w X.K X.mg X.base X.A.in1 X.stack s H := e.in1
  have r2 : Vals [V.ref a] [Value.ref a] := .cons rfl .nil
  have hl := F.len _ _ _ _ q
  refine Calls.call_function_entry kind_abs plain_abs entry_abs (args_abs _) ?_
  unfold Builtin.«abs»
  refine wpAny_bind (m := oneArg "abs" _) (wpAny_pure ?_)
  refine wpAny_bind (PySem.W.special_fn I.kIn J hs (beq_iff_eq.mp hf) ?_)
  refine wpAny_call (codeAny_mono (F.run X.A.in1 X.stack s H ⟨[.ref a], []⟩ [.ref a] [.ref a] Q E hr.in1 e0 (by
    have := hb s [.ref a] I.kIn (by simpa using hl)
    simpa using this) r2 q) fun r s' hq => ?_)
  cases r with
  | error e => exact hx pins sl H s e s' I hq
  | ok fl =>
    cases fl with
    | ret w => exact wpAny_pure ⟨_, rfl, I.after hq⟩
    | next => exact False.elim hq
    | brk => exact False.elim hq
    | cont => exact False.elim hq
end

/-! ### // by any divisor but 0, below 2 ^ 9000 -/
def CFdv (_ j : Int) : Prop := j ≠ 0 ∧ j.natAbs.log2 < 9000
theorem op_fdv {X : Cx} : OpR X (binaryOp .FloorDiv) (rI CFdv fun i j => .int (i.fdiv j)) :=
  opI fun i j _ _ _ _ _ hc q => floordiv_int hc.1 q (.inl (PyProof.noPylong_of_log2 hc.2))

/-! ### an own error made without arguments -/
theorem pmk_bare {X : Cx} {C : Addr} {bmB : List Value} {B newId initId : String} {x : Str} {p pos : Pos} (F : ExcBaseFacts B newId initId bmB) (q : PySem.W.excIn X.K C bmB newId = true)
    (gC : X.mg x = some (.ref C)) (kC : PySem.W.keepIn X.K (.ref C) = true) (r : Raises X (.ref C)) (hg : Gl X x) (hdb : (x == ("__debug__" : Str)) = false := by decide) :
    PMk X (.Call (.Name x p) [] [] pos) (fun _ H Q => Q (.ref C) none H) := by
  intro pins s sl H Q I h
  refine wpAny_Call_Name_kw (ld_glob I hg gC ?_ hdb)
  refine PySem.W.callWith_K0 I.kIn kC ?_
  obtain ⟨bm, N, nm, qn, bs, hdct, sn, sub, ab, col, dd, k0, k1, k2, k3, k5, mN, hC, hN, hni, T⟩ := exc_obj I.kIn q
  exact wpAny_call_exc_subT F T hC hN hni (fun h' e hm => mk_of I hm r h (I.hok.gone hm.new)) (Nat.zero_le _)
end Fc
set_option Elab.async false
set_option linter.all false
set_option maxRecDepth 100000
set_option maxHeartbeats 4000000
/-! More rules of mine: a new instance or a method's call whose error an except clause takes; isinstance of a caught error with fields. -/
namespace Fc
open PySem PySem.Spec PyProof.Rows L2

section
variable {X : Cx} {CX : CXT} {k : Nat} {C f : Addr} {fd : FuncData} {ps : List Str} {sp : Sp} {E : L2.St → XK}
/-- C(..), where what is raised is wished for at the slots -/
def tMakeS (C : Addr) (sp : Sp) (E : L2.St → XK) (t : TA) : TE := fun sl H Q => t sl H fun vs H1 => ∀ x dx, H1 x = none → H1 dx = none → dx ≠ x →
  sp (.ref x :: vs) (upd (upd H1 dx (.own x)) x (.ins C dx [])) (fun v H2 => v = .non ∧ Q (.ref x) H2) (E sl)
theorem run_makeS {pins : List (Addr × Obj)} {sl : L2.St} {H : Hp} {s : Shared} {Q : VK} {us : List Value} {vs : List V} (M : Mk X.K C f)
    (F : FnOk X.prog X.w X.K X.mg X.base CX k f fd ps sp) (hr : Room (k + 1) X.A) (hb : Binds X.K fd ps []) (hx : PassesAt CX X sl (E sl))
    (I : Inv X pins sl H s) (r : Vals vs us)
    (h : ∀ x dx, H x = none → H dx = none → dx ≠ x → sp (.ref x :: vs) (upd (upd H dx (.own x)) x (.ins C dx [])) (fun v H2 => v = .non ∧ Q (.ref x) H2) (E sl)) :
    wpAny (model X.prog X.w) X.A (call (.ref C) us) (EP X pins sl Q) X.xe s := by
  have fr : ∀ j, H (s.heap.objs.size + j) = none := fun j => I.hok.fresh (Nat.le_add_right _ _)
  have hq := h (s.heap.objs.size + 1) s.heap.objs.size (fr 1) (fr 0) (Nat.ne_of_lt (Nat.lt_succ_self _))
  have I2 := Inv.made (C := C) I
  have r2 : Vals (V.ref (s.heap.objs.size + 1) :: vs) (Value.ref (s.heap.objs.size + 1) :: us) := .cons rfl r
  have hl : (Value.ref (s.heap.objs.size + 1) :: us).length = ps.length := r2.length.symm.trans (F.len _ _ _ _ hq)
  have bd := hb { s with heap := (s.heap.push PySem.W.emptyDict).push (PySem.W.instObj C s.heap.objs.size) } (Value.ref (s.heap.objs.size + 1) :: us) I2.kIn (by rw [List.append_nil]; exact hl)
  rw [List.append_nil] at bd
  have run := F.run _ X.stack _ _ ⟨Value.ref (s.heap.objs.size + 1) :: us, []⟩ (Value.ref (s.heap.objs.size + 1) :: us) _ _ (E sl) (hr.make C us []) (I2.env0.make C us []) bd r2 hq
  refine wpAny_call (make_map (f := f) I.kIn M.makes M.init (beq_iff_eq.mp M.fn) (codeAny_mono run fun r s' hq' => ?_))
  cases r with
  | error e => exact hx pins _ _ e s' I2 hq'
  | ok fl =>
    cases fl with
    | ret u =>
      obtain ⟨v, H', I3, rv, ev, q3⟩ := I2.after hq'
      subst ev
      exact ⟨rv, ⟨V.ref (s.heap.objs.size + 1), H', I3, rfl, q3⟩⟩
    | next => exact False.elim hq'
    | brk => exact False.elim hq'
    | cont => exact False.elim hq'
theorem pe_makeS {x : Str} {p pos : Pos} {e : Expr} {es : List Expr} {t : TA} (M : Mk X.K C f) (F : FnOk X.prog X.w X.K X.mg X.base CX k f fd ps sp) (hr : Room (k + 1) X.A)
    (hg : Gl X x) (hm : X.mg x = some (.ref C)) (hb : Binds X.K fd ps []) (hx : ∀ sl, PassesAt CX X sl (E sl)) (ha : PA X (e :: es) t)
    (hdb : (x == ("__debug__" : Str)) = false := by decide) (he : starEach (e :: es) X.env = (false, eval e X.env) :: starEach es X.env := by rfl)
    (hpl : (backTo pos (starEach es X.env)).any (·.1) = false := by rfl) : PE X (.Call (.Name x p) (e :: es) [] pos) (tMakeS C sp E t) :=
  ⟨fun pins s sl H Q I h => wpAny_Call_Name_kw (ld_glob I hg hm (PySem.W.callWith_K (h₀ := X.base) I.ok.mod.kin M.kp
    (thn (ha.run pos pins s sl H _ I h) fun us s1 ⟨vs, H1, I1, r, q⟩ => ⟨I1.kIn, run_makeS M F hr hb (hx sl) I1 r q⟩) he hpl) hdb)⟩

/-- o.m(..), where what is raised is wished for at the slots -/
def tMethS (C : Addr) (m : Str) (sp : Sp) (E : L2.St → XK) (ta : TE) (t : TA) : TE := fun sl H Q => ta sl H fun x H1 => ∃ a dx fs, x = .ref a ∧
  H1 a = some (.ins C dx fs) ∧ fs.lookup m = none ∧ t sl H1 fun vs H2 => sp (x :: vs) H2 Q (E sl)
theorem pe_methS {m : Str} {o e : Expr} {es : List Expr} {ta : TE} {t : TA} {apos pos : Pos} {pl : Sem Bool} (ho : PE X o ta) (c : Cls X.K C) (hm : Meth X.K C m f)
    (F : FnOk X.prog X.w X.K X.mg X.base CX k f fd ps sp) (hr : Room k X.A) (hb : Binds X.K fd ps []) (hx : ∀ sl, PassesAt CX X sl (E sl)) (ha : PA X (e :: es) t)
    (hst : starEach (e :: es) X.env = (false, eval e X.env) :: starEach es X.env := by rfl) (hpl : (backTo pos (starEach es X.env)).any (·.1) = false := by rfl)
    (ht : eval (.Call (.Attribute o m apos) (e :: es) [] pos) X.env = (do
      let v ← eval o X.env
      standAt apos.atName
      let (g, first) ← holding [v] (getMethod v m pl)
      callWith pos g first (backTo pos (starEach (e :: es) X.env)) (backToKw pos (keywordEach [] X.env))) := by rfl) :
    PE X (.Call (.Attribute o m apos) (e :: es) [] pos) (tMethS C m sp E ta t) := by
  refine ⟨fun pins s sl H Q I h => PySem.W.methodCall_KW (pl := pl) (thn (ho.run pins s sl H _ I h) fun u s1 hh => ?_) ht⟩
  obtain ⟨x, H1, I1, rx, a, dx, fs, ex, ea, l, q⟩ := hh
  subst ex
  cases rx
  refine getmeth_ok I1 ea c hm l (PySem.W.callWith_K (first := [.ref a]) (h₀ := X.base) I.ok.mod.kin hm.kp ?_ hst hpl)
  exact thn (ha.run pos pins s1 sl H1 _ I1 q) fun us s2 ⟨vs, H2, I2, r, q2⟩ => ⟨I2.kIn, run_fnS (us := .ref a :: us) (vs := .ref a :: vs) F hr hb (hx sl) I2 (.cons rfl r) q2⟩
end

/-! ### isinstance of a caught error, with or without a dict of its own -/
section
open PySem.W PySem.Calls
variable {prog : Program} {w : World} {A : Around} {E : Value → Shared → Prop} {s : Shared} {K : Frag} {x D : Addr} {ox : Obj} {od : Option Obj}
theorem find_data {name : Str} {a g : Value} (hc : (clsIn K D).isSome = true) (ha : findIn K (.ref D) name = some (some a)) (hg : specialIn K a "__get__" = some (some g))
    (ht : takesIn K a = some true) : findObj K D od name = some (.bind g a) := by
  obtain ⟨cd, e⟩ := Option.isSome_iff_exists.mp hc
  unfold findObj
  rw [e, Option.bind_some, ha, Option.bind_some]
  simp [hg, ht]
theorem err_class {Q : Option Value → Shared → Prop} (T : ExcC K D) (X : K.In s.heap) (I : InstAt s.heap x ox D od) (h : Q (some (.ref D)) { s with toks := s.toks + 1 }) :
    wpAny (model prog w) A (getAttr? (.ref x) "__class__") Q E s := by
  have hf : findObj K D od "__class__" = some (.bind (.builtin "getset_descriptor.__get__") (.builtin "object.__class__")) :=
    find_data (by obtain ⟨cd, hc, _⟩ := any_some T.hd; rw [hc]; rfl) T.ha T.hn T.ht
  obtain ⟨hp, g, d, t, os⟩ := s
  have L0 := I.type (M := model prog w)
  have L1 := looks_findIn (M := model prog w) X T.hg
  have L2 := looks_findIn (M := model prog w) X T.hk
  have L3 := looks_find (M := model prog w) X I hf
  have sub : Looks (model prog w) hp (isInstance (.ref x) (.type "BaseException")) true := L0.andThen (looks_subIn X T.hs)
  have z0 : (false && onTheHeap (Value.builtin "BaseException.__getattribute__")) = false := rfl
  have z2 : (Value.builtin "BaseException.__getattribute__" == Value.builtin "object.__getattribute__") = false := by decide +kernel
  have z1 : (onTheHeap (Value.ref D) && Value.builtin "BaseException.__getattribute__" == Value.builtin "object.__getattribute__") = false := by rw [z2]; rfl
  unfold getAttr? getAttrBy? getAttrBy
  refine wpAny_bind (wpAny_mkText (wpAny_bind (wpAny_attempt (wpAny_holding (wpAny_bind (L0.at (wpAny_bind (L1.at ?_))))))))
  show wpAny _ _ (if (onTheHeap (Value.ref D) && Value.builtin "BaseException.__getattribute__" == Value.builtin "object.__getattribute__") = true then _ else _) _ _ _
  rw [z1, if_neg Bool.false_ne_true]
  unfold getAttrByItsOwn hookBefore
  refine wpAny_bind ?_
  rw [if_pos (show onTheHeap (Value.ref D) = true from rfl)]
  refine L2.at (wpAny_bind (wpAny_attempt (wpAny_holding ?_)))
  unfold callGetattribute
  rw [z0, if_neg Bool.false_ne_true]
  unfold boundAndCalled
  rw [PySem.F.excAttr_ValueError.ga.bind (.ref x)]
  refine wpAny_bind (wpAny_pure ?_)
  show wpAny _ _ (call (.builtin "BaseException.__getattribute__") [.ref x, .str "__class__" t]) _ _ _
  refine wpAny_call (codeAny_call_builtin PySem.F.excAttr_ValueError.ga.plain PySem.F.entry_bexc_ga ?_)
  refine @check_slot (model prog w) _ _ ⟨hp, g, d, t + 1, os⟩ "BaseException.__getattribute__" "BaseException" "__getattribute__" (.ref x)
    [.str "__class__" t] [] _ (by decide +kernel) (by decide +kernel) sub (PySem.F.args_bexc_ga (.ref x) (.str "__class__" t)) ?_
  unfold Builtin.«object.__getattribute__»
  refine wpAny_bind (wpAny_of_eq (a := ((Value.ref x : Value), [Value.str "__class__" t])) (by first | rfl | (simp only [slotArgs]; rfl)) ?_)
  refine wpAny_bind (wpAny_pure (wpAny_bind (L0.at (wpAny_bind (L3.at ?_)))))
  show wpAny _ _ (holding [Value.builtin "object.__class__"] (call (.builtin "getset_descriptor.__get__") [.builtin "object.__class__", .ref x, .ref D]) >>= ret) _ _ _
  refine wpAny_bind (wpAny_holding (wpAny_call (class_get (s := ⟨hp, g, d, t + 1, os⟩) (ox := ox) (od := od) X I T.hm (wpAny_pure ?_))))
  show wpAny _ _ (handedOut (.ref D)) _ _ _
  rw [handedOut_of (v := .ref D) rfl]
  first
    | exact wpAny_pure (wpAny_pure h)
    | exact wpAny_pure h
    | exact wpAny_pure (wpAny_bind (wpAny_pure (wpAny_pure h)))
theorem kit_err (T : ExcC K D) : KitX K (.ref x) (.ref D) (fun h => InstAt h x ox D od) where
  ty := fun _ _ _ I => I.type
  it := fun _ _ X _ => by
    obtain ⟨cd, e, _⟩ := any_some T.hd
    unfold clsIn at e
    split at e
    · rename_i z
      exact fun A' Q' E' s' k q => by
        unfold isType loadHead
        exact wpAny_bind (wpAny_loadPart (k _ _ (X _ _ z)) (wpAny_pure q))
    · cases e
  ne := fun h tp dd its n sl X htp => (handS_kitx_exc (x := x) (ox := ox) T.hg T.hk T.hs T.hd T.ha T.hn T.ht T.hm).ne h tp dd its n sl X htp
  ca := fun X I k => err_class T X I k
end
/-- isinstance(e, c), e the error that the suite holds; its own dict, where it has one, is tracked -/
def rIsX (K : PySem.W.Frag) (cls : Value) (d : Option Addr) (a : Addr) : List V → Hp → VK → Prop := fun xs H Q => ∃ (D : Addr) (c : V) (cv : Value) (b : Bool),
  cls = .ref D ∧ ExcC K D ∧ (∀ dd, d = some dd → ∃ fs, H dd = some (.xd fs)) ∧ xs = [.ref a, c] ∧ (∀ u, RelV c u → u = cv) ∧ PySem.W.kitOne K (.ref D) cv = some b ∧ Q (.bl b) H
theorem call_isX {X : Cx} {a : Addr} {cls : Value} {d : Option Addr} {oe : Obj} {pn : List (Addr × Obj)} (hz : Zc cls d oe) (hf : ∃ vs, oe.data = .fields vs) :
    CallR (X.suite a ((a, oe) :: pn)) (.builtin "isinstance") (rIsX X.K cls d a) := by
  intro pins s sl H xs us Q I r h
  obtain ⟨D, c, cv, b, rfl, T, hd, rfl, hcv, e, q⟩ := h
  obtain ⟨u1, u2, rfl, r1, r2⟩ := vals2 r
  cases r1
  have ec := hcv _ r2
  subst ec
  obtain ⟨hget, _⟩ := I.pin (a, oe) (List.mem_append.mpr (.inl List.mem_cons_self))
  obtain ⟨vs, hv⟩ := hf
  have fin : ∀ tk, EP (X.suite a ((a, oe) :: pn)) pins sl Q (.bool b) { s with toks := tk } := fun tk => ⟨.bl b, H, I.tok tk, rfl, q⟩
  cases d with
  | none =>
    have J : PySem.W.InstAt s.heap a oe D none := ⟨hget, hz.1, by unfold PySem.W.notCls; rw [hv] <;> rfl, by rw [hz.2]; exact True.intro⟩
    exact PySem.W.kia_one (kit_err T) I.kIn J e (fun z => nomatch z) fin
  | some dd =>
    obtain ⟨fs, hx⟩ := hd dd rfl
    obtain ⟨mA, hns, _⟩ := (show ObjOk X.prog X.w H s.heap dd (.xd fs) from I.hok dd _ hx)
    obtain ⟨od, ho, _⟩ := lookIn_ns hns
    have J : PySem.W.InstAt s.heap a oe D (some od) := ⟨hget, hz.1, by unfold PySem.W.notCls; rw [hv] <;> rfl, by rw [hz.2]; exact ho⟩
    exact PySem.W.kia_one (kit_err T) I.kIn J e (fun z => nomatch z) fin
end Fc
set_option Elab.async false
set_option linter.all false
set_option maxRecDepth 100000
set_option maxHeartbeats 4000000
/-! == of an own instance with other kinds, both ways round. -/
namespace Fc
open PySem PySem.Spec PyProof.Rows L2
open AutoSeq1 (wpAny_loadPart')
section
open PySem.W
variable {prog : Program} {w : World} {A : Around} {E : Value → Shared → Prop} {s : Shared} {K : Frag} {x C f : Addr} {ox : Obj} {od : Option Obj}
/-- other == x: other's own == declines, then x's is asked -/
theorem rc_back {b : Value} {T id : String} {Q : Value → Shared → Prop} (hu : A.units < cLine) (hT : s.TypeIs b T) (slot : Slot T (cmpInfo .Eq).2.1 id) (X : K.In s.heap) (I : InstAt s.heap x ox C od)
    (hsub : subIn K (.ref C) (.type T) = some false) (hs : findIn K (.ref C) "__eq__" = some (some (.ref f))) (hf : isFn K (.ref f) = true)
    (decl : ∀ Q' : Value → Shared → Prop, Q' .notImplemented s → wpAny (model prog w) A (call (.builtin id) [b, .ref x]) Q' E s)
    (h : wpAny (model prog w) A (call (.ref f) [.ref x, b]) (PySem.W.CmpBack Q) E s) : wpAny (model prog w) A (richCompare .Eq b (.ref x)) Q E s := by
  have one : wpAny (model prog w) A (tryCompare (.ref x) (cmpInfo .Eq).2.2 b) (fun r s' => ∃ v, r = some v ∧ Q v s') E s := by
    unfold tryCompare
    refine wpAny_bind (ifBound_K X I hs hf (wpAny_mono h (fun v s' hv => ?_) fun _ _ e => e))
    cases v <;> first | exact hv.elim | exact wpAny_pure ⟨_, rfl, hv⟩
  rcases hi : cmpInfo CmpOp.Eq with ⟨sym, g, r⟩
  rw [hi] at slot one
  have hne : (Value.type T != Value.ref C) = true := by simp
  simp only [richCompare, hi, hT.oneThing_none]
  try with_reducible refine wpAny_holding ?_
  refine wpAny_bind (wpAny_cRoomFor_or (.inr hu) ?_)
  refine wpAny_bind (wpAny_typeOf hT (wpAny_bind (I.type.here ?_)))
  simp only [hne, if_true]
  refine wpAny_bind ((looks_subIn X hsub).here ?_)
  simp only [Bool.false_eq_true, if_false, Bool.not_false, if_true]
  refine wpAny_bind (m := tryCompare b _ (.ref x)) (wpAny_tryCompare_declines hT slot (decl _ ⟨rfl, ?_⟩))
  refine wpAny_bind (m := tryCompare (.ref x) _ b) (wpAny_mono one (fun r' s' hr => ?_) fun _ _ e => e)
  obtain ⟨v, rfl, q⟩ := hr
  exact wpAny_pure q
/-- the built-in kinds decline -/
theorem decl_int {i : Int} {t : Tok} {Q : Value → Shared → Prop} (hx : s.heap.get? x = some ox) (hd : ∀ v, ox.data ≠ .prim v) (hq : Q .notImplemented s) :
    wpAny (model prog w) A (call (.builtin "int.__eq__") [.int i t, .ref x]) Q E s := by
  refine GQ.call_here F.slot_int_eq (typeIs_int s i t) F.entry_int_eq (F.args_int_eq_2 _ _) ?_
  obtain ⟨oc, od, da, sl⟩ := ox
  obtain ⟨hp, g, d, tk, os⟩ := s
  cases da
  case prim v => exact absurd rfl (hd v)
  all_goals (wp_walk using wpAny_loadPart' hx)
  all_goals exact hq
theorem decl_str {i : Str} {t : Tok} {Q : Value → Shared → Prop} (hx : s.heap.get? x = some ox) (hd : ∀ v, ox.data ≠ .prim v) (hq : Q .notImplemented s) :
    wpAny (model prog w) A (call (.builtin "str.__eq__") [.str i t, .ref x]) Q E s := by
  refine GQ.call_here F.slot_str_eq (typeIs_str s i t) F.entry_str_eq (F.args_str_eq_2 _ _) ?_
  obtain ⟨oc, od, da, sl⟩ := ox
  obtain ⟨hp, g, d, tk, os⟩ := s
  cases da
  case prim v => exact absurd rfl (hd v)
  all_goals (wp_walk using wpAny_loadPart' hx)
  all_goals exact hq
theorem decl_none {Q : Value → Shared → Prop} (hq : Q .notImplemented s) :
    wpAny (model prog w) A (call (.builtin "NoneType.__eq__") [.none, .ref x]) Q E s := by
  refine GQ.call_here F.slot_NoneType_eq rfl F.entry_NoneType_eq (F.args_NoneType_eq_2 _ _) ?_
  obtain ⟨hp, g, d, tk, os⟩ := s
  wp_walk
  exact hq
theorem decl_tup {l : Addr} {Q : Value → Shared → Prop} (hT : s.TypeIs (.ref l) "tuple") (X : K.In s.heap) (I : InstAt s.heap x ox C od) (hsub : subIn K (.ref C) (.type "tuple") = some false) (hq : Q .notImplemented s) :
    wpAny (model prog w) A (call (.builtin "tuple.__eq__") [.ref l, .ref x]) Q E s := by
  refine GQ.call_here F.slot_tuple_eq hT F.entry_tuple_eq (F.args_tuple_eq_2 _ _) ?_
  have L0 : Looks (model prog w) s.heap (isInstance (.ref x) (.type "tuple")) false := (I.type (M := model prog w)).andThen (looks_subIn X hsub)
  obtain ⟨hp, g, d, tk, os⟩ := s
  wp_walk using L0.at
  exact hq
theorem decl_lst {l : Addr} {Q : Value → Shared → Prop} (hT : s.TypeIs (.ref l) "list") (X : K.In s.heap) (I : InstAt s.heap x ox C od) (hsub : subIn K (.ref C) (.type "list") = some false) (hq : Q .notImplemented s) :
    wpAny (model prog w) A (call (.builtin "list.__eq__") [.ref l, .ref x]) Q E s := by
  refine GQ.call_here F.slot_list_eq hT F.entry_list_eq (F.args_list_eq_2 _ _) ?_
  have L0 : Looks (model prog w) s.heap (isInstance (.ref x) (.type "list")) false := (I.type (M := model prog w)).andThen (looks_subIn X hsub)
  obtain ⟨hp, g, d, tk, os⟩ := s
  wp_walk using L0.at
  exact hq
end

/-- values of built-in kinds whose own == declines -/
inductive BK (H : Hp) : V → String → Prop where
  | int (i : Int) : BK H (.int i) "int"
  | str (x : Str) : BK H (.str x) "str"
  | non : BK H .non "NoneType"
  | tup {a : Addr} {xs : List V} (h : H a = some (.tup xs)) : BK H (.ref a) "tuple"
  | lst {a : Addr} {xs : List V} (h : H a = some (.lst xs)) : BK H (.ref a) "list"
theorem BK.ty {K : PySem.W.Frag} {H : Hp} {x : V} {t : String} (b : BK H x t) : TyX K H x (.type t) := by
  cases b with
  | int i => exact .base (.int i)
  | str x => exact .base (.str x)
  | non => exact .base .non
  | tup h => exact .base (.tup h)
  | lst h => exact .base (.lst h)
theorem BK.mem {H : Hp} {x : V} {t : String} (b : BK H x t) : t ∈ ["int", "str", "NoneType", "tuple", "list"] := by
  cases b <;> decide
/-- ==, where one of the two at least is an instance of the class at C -/
def rEqR (K : PySem.W.Frag) (C : Addr) (sp : Sp) (E : XK) : R2 := fun x y H Q =>
  (∃ a dx fs t, x = .ref a ∧ H a = some (.ins C dx fs) ∧ TyX K H y t ∧ PySem.W.notFirst K C t = true ∧ sp [.ref a, y] H Q E) ∨
  (∃ a dx fs t, y = .ref a ∧ H a = some (.ins C dx fs) ∧ BK H x t ∧ sp [.ref a, x] H Q E)
theorem op_eqR {X : Cx} {CX : CXT} {k : Nat} {C f : Addr} {fd : FuncData} {ps : List Str} {sp : Sp} {E : XK}
    (sub : ∀ t, t ∈ ["int", "str", "NoneType", "tuple", "list"] → PySem.W.subIn X.K (.type t) (.ref C) = some false ∧ PySem.W.subIn X.K (.ref C) (.type t) = some false)
    (hs : PySem.W.findIn X.K (.ref C) "__eq__" = some (some (.ref f))) (hf : PySem.W.isFn X.K (.ref f) = true)
    (F : FnOk X.prog X.w X.K X.mg X.base CX k f fd ps sp) (hr : Room k X.A) (hb : Binds X.K fd ps []) (hx : Passes CX X E) :
    OpR X (compareOp .Eq) (rEqR X.K C sp E) := by
  intro pins s sl H x y u v Q I rx ry h
  show wpAny (model X.prog X.w) X.A (richCompare .Eq u v) (EP X pins sl Q) X.xe s
  rcases h with ⟨a, dx, fs, t, rfl, ha, ty, nf, q⟩ | ⟨a, dx, fs, t, rfl, ha, bk, q⟩
  · cases rx
    obtain ⟨ox, od, J⟩ := inst_at I ha
    obtain ⟨m, hF⟩ := I.fr
    obtain ⟨PP, Z, p, _⟩ := kit_of I ry ty
    exact PySem.W.cmp_K (op := .Eq) hr.units0 hF I.ok.mod.kin J (Z.ty _ _ I.kIn p) nf hs hf
      (thn (run_fn (vs := [.ref a, y]) (us := [.ref a, v]) F hr hb .nil hx I (.cons rfl (.cons ry .nil)) q) fun _ _ z => cmpBack z)
  · cases ry
    obtain ⟨mA, O, _⟩ := ins_get I.hok ha
    obtain ⟨od, J, _⟩ := O.look
    have own := thn (run_fn (vs := [.ref a, x]) (us := [.ref a, u]) F hr hb .nil hx I (.cons rfl (.cons rx .nil)) q) fun _ _ z => cmpBack z
    have s2 := (sub t bk.mem).2
    cases bk with
    | int i =>
      obtain ⟨tk, rfl⟩ := rx
      exact rc_back hr.units0 (typeIs_int s i tk) PySem.F.slot_int_eq I.kIn J s2 hs hf (fun Q' hq => decl_int O.obj (fun w z => by cases z) hq) own
    | str i =>
      obtain ⟨tk, rfl⟩ := rx
      exact rc_back hr.units0 (typeIs_str s i tk) PySem.F.slot_str_eq I.kIn J s2 hs hf (fun Q' hq => decl_str O.obj (fun w z => by cases z) hq) own
    | non =>
      cases rx
      exact rc_back hr.units0 rfl PySem.F.slot_NoneType_eq I.kIn J s2 hs hf (fun Q' hq => decl_none hq) own
    | @tup l xs hl =>
      cases rx
      obtain ⟨_, its, _, o, h1, h2, _⟩ := (show ObjOk X.prog X.w H s.heap l (.tup xs) from I.hok l _ hl)
      have hT : s.TypeIs (.ref l) "tuple" := ⟨o, h1, h2⟩
      exact rc_back hr.units0 hT PySem.F.slot_tuple_eq I.kIn J s2 hs hf (fun Q' hq => decl_tup hT I.kIn J s2 hq) own
    | @lst l xs hl =>
      cases rx
      obtain ⟨_, its, n, _, h1⟩ := (show ObjOk X.prog X.w H s.heap l (.lst xs) from I.hok l _ hl)
      have hT : s.TypeIs (.ref l) "list" := ⟨_, h1, rfl⟩
      exact rc_back hr.units0 hT PySem.F.slot_list_eq I.kIn J s2 hs hf (fun Q' hq => decl_lst hT I.kIn J s2 hq) own
end Fc
set_option Elab.async false
set_option maxHeartbeats 4000000
/-! Plain mathematics: lowest terms, Euclid's steps. -/
namespace Fc

/-- top and bottom in lowest terms, the bottom above 0 -/
def lo (t b : Int) : Int × Int := if b < 0 then (-t / (Int.gcd t b : Int), -b / (Int.gcd t b : Int)) else (t / (Int.gcd t b : Int), b / (Int.gcd t b : Int))

theorem gcd_pos {t b : Int} (h : b ≠ 0) : (0 : Int) < (Int.gcd t b : Int) := by
  have : 0 < Int.gcd t b := Int.gcd_pos_of_ne_zero_right t h
  omega
theorem fdv_neg (a g : Int) (hg : 0 < g) : a.fdiv (-g) = -a / g := by
  have e : a.fdiv (-g) = (- -a).fdiv (-g) := by rw [Int.neg_neg]
  rw [e, Int.neg_fdiv_neg, Int.fdiv_eq_ediv_of_nonneg _ (by omega)]
/-- as the program reckons it: both by the divisor with the bottom's sign -/
theorem lo_prog {t b : Int} (h : b ≠ 0) : lo t b =
    (t.fdiv (if b < 0 then -(Int.gcd t b : Int) else (Int.gcd t b : Int)), b.fdiv (if b < 0 then -(Int.gcd t b : Int) else (Int.gcd t b : Int))) := by
  have g := gcd_pos (t := t) h
  unfold lo
  by_cases c : b < 0
  · simp only [if_pos c, fdv_neg _ _ g]
  · simp only [if_neg c, Int.fdiv_eq_ediv_of_nonneg _ (Int.le_of_lt g)]

/-- the two facts that say it all: what is divided is the common divisor -/
theorem lo_split {t b : Int} (h : b ≠ 0) : ∃ k : Int, k ≠ 0 ∧ t = (lo t b).1 * k ∧ b = (lo t b).2 * k ∧ 0 < (lo t b).2 ∧ Int.gcd (lo t b).1 (lo t b).2 = 1 ∧ k.natAbs = Int.gcd t b := by
  have g := gcd_pos (t := t) h
  have d1 : (Int.gcd t b : Int) ∣ t := Int.gcd_dvd_left _ _
  have d2 : (Int.gcd t b : Int) ∣ b := Int.gcd_dvd_right _ _
  obtain ⟨x, hx⟩ := d1
  obtain ⟨y, hy⟩ := d2
  have e1 : t / (Int.gcd t b : Int) = x := by
    exact Int.ediv_eq_of_eq_mul_right (by omega) hx
  have e2 : b / (Int.gcd t b : Int) = y := by
    exact Int.ediv_eq_of_eq_mul_right (by omega) hy
  have e3 : -t / (Int.gcd t b : Int) = -x := by
    have : -t = (Int.gcd t b : Int) * (-x) := by rw [Int.mul_neg, ← hx]
    rw [this]
    exact Int.mul_ediv_cancel_left _ (by omega)
  have e4 : -b / (Int.gcd t b : Int) = -y := by
    have : -b = (Int.gcd t b : Int) * (-y) := by rw [Int.mul_neg, ← hy]
    rw [this]
    exact Int.mul_ediv_cancel_left _ (by omega)
  have cop : Int.gcd x y = 1 := by
    have z : Int.gcd t b = (Int.gcd t b) * Int.gcd x y := by
      have q : Int.gcd ((Int.gcd t b : Int) * x) ((Int.gcd t b : Int) * y) = (Int.gcd t b : Int).natAbs * Int.gcd x y := Int.gcd_mul_left ..
      rw [← hx, ← hy] at q
      simpa using q
    have gp : 0 < Int.gcd t b := by omega
    have : Int.gcd t b * 1 = Int.gcd t b * Int.gcd x y := by omega
    exact (Nat.eq_of_mul_eq_mul_left gp this).symm
  have ypos : b < 0 → y < 0 := fun c => by
    rcases Int.lt_trichotomy y 0 with q | q | q
    · exact q
    · subst q; omega
    · have := Int.mul_pos g q; omega
  have ypos' : ¬ b < 0 → 0 < y := fun c => by
    rcases Int.lt_trichotomy y 0 with q | q | q
    · have := Int.mul_neg_of_pos_of_neg g q; omega
    · subst q; omega
    · exact q
  by_cases c : b < 0
  · refine ⟨-(Int.gcd t b : Int), by omega, ?_, ?_, ?_, ?_, by omega⟩
    · unfold lo; rw [if_pos c, e3, Int.neg_mul_neg, Int.mul_comm]; exact hx
    · unfold lo; rw [if_pos c, e4, Int.neg_mul_neg, Int.mul_comm]; exact hy
    · unfold lo; rw [if_pos c, e4]; have := ypos c; show 0 < -y; omega
    · unfold lo; rw [if_pos c, e3, e4]; show Int.gcd (-x) (-y) = 1; rw [Int.neg_gcd, Int.gcd_neg]; exact cop
  · refine ⟨(Int.gcd t b : Int), by omega, ?_, ?_, ?_, ?_, by omega⟩
    · unfold lo; rw [if_neg c, e1, Int.mul_comm]; exact hx
    · unfold lo; rw [if_neg c, e2, Int.mul_comm]; exact hy
    · unfold lo; rw [if_neg c, e2]; exact ypos' c
    · unfold lo; rw [if_neg c, e1, e2]; exact cop
theorem lo_pos {t b : Int} (h : b ≠ 0) : 0 < (lo t b).2 := let ⟨_, _, _, _, p, _⟩ := lo_split (t := t) h; p
theorem lo_cop {t b : Int} (h : b ≠ 0) : Int.gcd (lo t b).1 (lo t b).2 = 1 := let ⟨_, _, _, _, _, p, _⟩ := lo_split (t := t) h; p
theorem lo_cross {t b : Int} (h : b ≠ 0) : (lo t b).1 * b = t * (lo t b).2 := by
  obtain ⟨k, _, e1, e2, _⟩ := lo_split (t := t) h
  have : (lo t b).1 * ((lo t b).2 * k) = (lo t b).1 * k * (lo t b).2 := by ac_rfl
  rw [← e1, ← e2] at this
  exact this

theorem dvd_cop {a b d : Int} (h : Int.gcd a b = 1) (e : b ∣ a * d) : b ∣ d := by
  have c : Nat.Coprime b.natAbs a.natAbs := by
    have : Nat.gcd a.natAbs b.natAbs = 1 := h
    rwa [Nat.gcd_comm] at this
  have q := Int.natAbs_dvd_natAbs.mpr e
  rw [Int.natAbs_mul] at q
  exact Int.natAbs_dvd_natAbs.mp (c.dvd_of_dvd_mul_left q)
/-- lowest terms are one pair -/
theorem low_one {a b c d : Int} (hb : 0 < b) (hd : 0 < d) (h1 : Int.gcd a b = 1) (h2 : Int.gcd c d = 1) (e : a * d = c * b) : a = c ∧ b = d := by
  have d1 : b ∣ d := by
    have : b ∣ a * d := by rw [e]; exact Int.dvd_mul_left _ _
    exact dvd_cop h1 this
  have d2 : d ∣ b := by
    have : d ∣ c * b := by rw [← e]; exact Int.dvd_mul_left _ _
    exact dvd_cop h2 this
  have eq : b = d := Int.le_antisymm (Int.le_of_dvd hd d1) (Int.le_of_dvd hb d2)
  subst eq
  exact ⟨Int.eq_of_mul_eq_mul_right (by omega) e, rfl⟩
theorem lo_eq {t b u d : Int} (hb : b ≠ 0) (hd : d ≠ 0) (e : t * d = u * b) : lo t b = lo u d := by
  obtain ⟨k, k0, e1, e2, p, cp, _⟩ := lo_split (t := t) hb
  obtain ⟨m, m0, e3, e4, q, cq, _⟩ := lo_split (t := u) hd
  have z : (lo t b).1 * (lo u d).2 = (lo u d).1 * (lo t b).2 := by
    have : ((lo t b).1 * (lo u d).2) * (k * m) = ((lo u d).1 * (lo t b).2) * (k * m) := by
      have l : ((lo t b).1 * (lo u d).2) * (k * m) = ((lo t b).1 * k) * ((lo u d).2 * m) := by ac_rfl
      have r : ((lo u d).1 * (lo t b).2) * (k * m) = ((lo u d).1 * m) * ((lo t b).2 * k) := by ac_rfl
      rw [l, r, ← e1, ← e2, ← e3, ← e4]
      exact e
    exact Int.eq_of_mul_eq_mul_right (Int.mul_ne_zero k0 m0) this
  obtain ⟨h1, h2⟩ := low_one p q cp cq z
  exact Prod.ext h1 h2
theorem lo_mul {t b k : Int} (hb : b ≠ 0) (hk : k ≠ 0) : lo (t * k) (b * k) = lo t b :=
  lo_eq (Int.mul_ne_zero hb hk) hb (by ac_rfl)
theorem lo_self {t b : Int} (hb : 0 < b) (h : Int.gcd t b = 1) : lo t b = (t, b) := by
  unfold lo
  rw [if_neg (by omega), h]
  simp
theorem lo_one (t : Int) : lo t 1 = (t, 1) := lo_self (by decide) (by simp)
theorem lo_zero {b : Int} (hb : b ≠ 0) : lo 0 b = (0, 1) := by
  have := lo_eq (t := 0) (u := 0) (d := 1) hb (by decide) (by simp)
  rw [this, lo_one]
theorem lo_self2 {t b : Int} (hb : b ≠ 0) : lo (lo t b).1 (lo t b).2 = lo t b := lo_self (lo_pos hb) (lo_cop hb)
theorem natAbs_le_mul {a k : Int} (hk : k ≠ 0) : a.natAbs ≤ (a * k).natAbs := by
  rw [Int.natAbs_mul]
  have : 1 ≤ k.natAbs := by omega
  exact Nat.le_mul_of_pos_right _ this
theorem lo_top_le {t b : Int} (h : b ≠ 0) : (lo t b).1.natAbs ≤ t.natAbs := by
  obtain ⟨k, k0, e1, _⟩ := lo_split (t := t) h
  conv => rhs; rw [e1]
  exact natAbs_le_mul k0
theorem lo_bot_le {t b : Int} (h : b ≠ 0) : (lo t b).2.natAbs ≤ b.natAbs := by
  obtain ⟨k, k0, _, e2, _⟩ := lo_split (t := t) h
  conv => rhs; rw [e2]
  exact natAbs_le_mul k0

/-! ### Euclid, step by step, as the law does it -/
structure Eu (g i a b : Nat) : Prop where
  gcd : Nat.gcd a b = g
  even : i % 2 = 0 → b < 2 ^ (750 - i / 2)
  odd : i % 2 = 1 → b < a ∧ a < 2 ^ (750 - i / 2)
theorem Eu.turn {g i a b : Nat} (h : Eu g i a b) (hb : b ≠ 0) (hi : i < 1500) : Eu g (i + 1) b (a % b) := by
  have lt : a % b < b := Nat.mod_lt _ (by omega)
  refine ⟨?_, fun e => ?_, fun o => ?_⟩
  · have := h.gcd
    rw [Nat.gcd_comm, ← Nat.gcd_rec, Nat.gcd_comm]
    exact this
  · have o : i % 2 = 1 := by omega
    obtain ⟨h1, h2⟩ := h.odd o
    have ex : 750 - i / 2 = (750 - (i + 1) / 2) + 1 := by omega
    rw [ex, Nat.pow_succ] at h2
    have hd := Nat.div_add_mod a b
    have q1 : 1 ≤ a / b := (Nat.one_le_div_iff (by omega)).mpr (by omega)
    have q2 : b * 1 ≤ b * (a / b) := Nat.mul_le_mul_left b q1
    omega
  · have e : i % 2 = 0 := by omega
    have := h.even e
    refine ⟨lt, ?_⟩
    have ex : (i + 1) / 2 = i / 2 := by omega
    rw [ex]
    exact this
theorem Eu.done {g a b : Nat} (h : Eu g 1500 a b) : b = 0 := by
  have := h.even (by decide)
  simpa using this
theorem Eu.zero {g i a : Nat} (h : Eu g i a 0) : a = g := by
  have := h.gcd
  simpa using this
theorem Eu.start {a b : Nat} (h : b < 2 ^ 750) : Eu (Nat.gcd a b) 0 a b := ⟨rfl, fun _ => by simpa using h, fun e => by omega⟩

theorem pow_cop {a b : Int} (n : Nat) (h : Int.gcd a b = 1) : Int.gcd (a ^ n) (b ^ n) = 1 := by
  have : Nat.Coprime (a.natAbs ^ n) (b.natAbs ^ n) := Nat.Coprime.pow n n h
  show Nat.gcd (a ^ n).natAbs (b ^ n).natAbs = 1
  rw [Int.natAbs_pow, Int.natAbs_pow]
  exact this
end Fc
set_option Elab.async false
set_option linter.all false
set_option maxRecDepth 100000
set_option maxHeartbeats 4000000
set_option exponentiation.threshold 100000
/-! What does not hang on a law: sizes, heaps, Ratios and pairs on the heap, the pot, promises. -/
namespace Fc
open PySem PySem.Spec PyProof.Rows L2
/-! ### sizes -/
/-- below 2 ^ n in size -/
def Bd (n : Nat) (i : Int) : Prop := i.natAbs < 2 ^ n
theorem Bd.mono {n m : Nat} {i : Int} (h : Bd n i) (l : n ≤ m) : Bd m i := Nat.lt_of_lt_of_le h (Nat.pow_le_pow_right (by decide) l)
theorem Bd.mul {n m : Nat} {i j : Int} (h : Bd n i) (g : Bd m j) : Bd (n + m) (i * j) := wide_lt h g
theorem Bd.add {n : Nat} {i j : Int} (h : Bd n i) (g : Bd n j) : Bd (n + 1) (i + j) := by
  unfold Bd at *
  rw [Nat.pow_succ]
  omega
theorem Bd.sub {n : Nat} {i j : Int} (h : Bd n i) (g : Bd n j) : Bd (n + 1) (i - j) := by
  unfold Bd at *
  rw [Nat.pow_succ]
  omega
theorem Bd.neg {n : Nat} {i : Int} (h : Bd n i) : Bd n (-i) := by
  unfold Bd at *
  omega
theorem Bd.abs {n : Nat} {i j : Int} (h : Bd n i) (e : j.natAbs ≤ i.natAbs) : Bd n j := Nat.lt_of_le_of_lt e h
theorem Bd.w {n m : Nat} {i j : Int} (h : Bd n i) (g : Bd m j) (a : 0 < n := by decide) (b : 0 < m := by decide) (l : n + m ≤ 1000000 := by decide) : CMulW i j := wide_mul h g a b l
theorem Bd.fdv {n : Nat} {i j : Int} (h : Bd n j) (a : j ≠ 0) (b : 0 < n := by decide) (l : n ≤ 9000 := by decide) : CFdv i j := ⟨a, Nat.lt_of_lt_of_le (PySem.Flt.log2_lt_of b h) l⟩
theorem Bd.div {n : Nat} {i j : Int} (h : Bd n j) (a : 0 < j) (b : 0 < n := by decide) (l : n ≤ 9000 := by decide) : CDivW i j := wide_div a h b l

/-! ### heaps -/
abbrev Ex (H H' : Hp) : Prop := Same H H'
theorem Ex.new {H : Hp} {p : Addr} {o : HO} (h : H p = none) : Ex H (upd H p o) := fun a u e => by rw [upd_ne (ne_of_none e h)]; exact e
theorem Ex.to {H H1 : Hp} {p : Addr} {o : HO} (x : Ex H H1) (h : H1 p = none) : Ex H (upd H1 p o) := x.trans (Ex.new h)
/-- all but what stands at p is as it was -/
def Keep (p : Addr) (H H' : Hp) : Prop := ∀ b o, H b = some o → b ≠ p → H' b = some o
theorem Keep.refl {p : Addr} {H : Hp} : Keep p H H := fun _ _ h _ => h
theorem Keep.trans {p : Addr} {H H1 H2 : Hp} (a : Keep p H H1) (b : Keep p H1 H2) : Keep p H H2 := fun c o h n => b c o (a c o h n) n
theorem Keep.of {p : Addr} {H H' : Hp} (h : Ex H H') : Keep p H H' := fun c o e _ => h c o e
theorem Keep.upd {p : Addr} {H : Hp} {o : HO} : Keep p H (upd H p o) := fun c u e n => by rw [upd_ne n]; exact e
theorem Keep.new {p q : Addr} {H : Hp} {o : HO} (h : H q = none) : Keep p H (L2.upd H q o) := Keep.of (Ex.new h)

/-- the fields of a Ratio -/
def rf (p : Int × Int) : List (Str × V) := [("top", .int p.1), ("bottom", .int p.2)]
theorem ne_tb : ¬ (("top" : Str) = "bottom") := by decide +kernel
theorem rf_put (t b : Int) : putF "bottom" (.int b) (putF "top" (.int t) []) = rf (t, b) := by
  show (if ("top" : Str) = "bottom" then _ else (("top" : Str), V.int t) :: putF "bottom" (.int b) []) = rf (t, b)
  rw [if_neg ne_tb]
  rfl
theorem rf_top (p : Int × Int) : (rf p).lookup ("top" : Str) = some (.int p.1) := by simp [rf, List.lookup]
theorem rf_bot (p : Int × Int) : (rf p).lookup ("bottom" : Str) = some (.int p.2) := by
  have : (("bottom" : Str) == "top") = false := by decide +kernel
  simp [rf, List.lookup, this]
theorem rf_no (p : Int × Int) {m : Str} (h : (m == "top") = false) (h2 : (m == "bottom") = false) : (rf p).lookup m = none := by
  simp [rf, List.lookup, h, h2]
/-- a Ratio with the fields p stands at a -/
def RatAt (C : Addr) (H : Hp) (a : Addr) (p : Int × Int) : Prop := ∃ dx, H a = some (.ins C dx (rf p))
theorem RatAt.ex {C : Addr} {H H' : Hp} {a : Addr} {p : Int × Int} (r : RatAt C H a p) (e : Ex H H') : RatAt C H' a p := let ⟨dx, h⟩ := r; ⟨dx, e _ _ h⟩
/-- a pair of whole numbers stands at a -/
def Pr (H : Hp) (a : Addr) (p : Int × Int) : Prop := H a = some (.tup [.int p.1, .int p.2])
theorem Pr.ex {H H' : Hp} {a : Addr} {p : Int × Int} (r : Pr H a p) (e : Ex H H') : Pr H' a p := e _ _ r
/-- a fair pair: the bottom above 0, both of at most n digits in base 2 -/
structure Sm (n : Nat) (p : Int × Int) : Prop where
  t : Bd n p.1
  b : Bd n p.2
  pos : 0 < p.2
theorem Sm.mono {n m : Nat} {p : Int × Int} (h : Sm n p) (l : n ≤ m) : Sm m p := ⟨h.t.mono l, h.b.mono l, h.pos⟩
theorem Sm.lo {n : Nat} {t b : Int} (ht : Bd n t) (hb : Bd n b) (h : b ≠ 0) : Sm n (lo t b) := ⟨ht.abs (lo_top_le h), hb.abs (lo_bot_le h), lo_pos h⟩
theorem pos_ne {b : Int} (h : 0 < b) : b ≠ 0 := by omega

theorem passF {X : Cx} {E : XK} : Passes CX0 X E := fun _ _ _ _ _ _ _ h => h.elim
theorem Sm.ne {n : Nat} {p : Int × Int} (h : Sm n p) : p.2 ≠ 0 := pos_ne h.pos
theorem Sm.nn {n m : Nat} {p q : Int × Int} (h : Sm n p) (g : Sm m q) : p.2 * q.2 ≠ 0 := Int.mul_ne_zero h.ne g.ne
theorem Bd.pow {m : Nat} {a : Int} (h : Bd m a) : ∀ i : Nat, Bd (m * i + 1) (a ^ i)
  | 0 => by unfold Bd; rw [Int.pow_zero, Nat.mul_zero]; decide
  | i + 1 => by
    rw [Int.pow_succ]
    exact ((Bd.pow h i).mul h).mono (by rw [Nat.mul_succ]; omega)
/-- the pot: a list of the cells, the place, and what is left of the cell -/
def PotAt (H : Hp) (p : Addr) : Prop := ∃ (l : Addr) (cs : List Int) (i c : Int), p ≠ l ∧ H p = some (.lst [.ref l, .int i, .int c]) ∧ H l = some (.lst (cs.map V.int)) ∧
  cs.length ≤ 63 ∧ 0 ≤ i ∧ 0 ≤ c ∧ ∀ z ∈ cs, 0 ≤ z
theorem PotAt.ex {H H' : Hp} {p : Addr} (h : PotAt H p) (e : Ex H H') : PotAt H' p := by
  obtain ⟨l, cs, i, c, ne, h1, h2, r⟩ := h
  exact ⟨l, cs, i, c, ne, e _ _ h1, e _ _ h2, r⟩
theorem PotAt.ne {H : Hp} {p t : Addr} (h : PotAt H p) (n : H t = none) : t ≠ p := fun e => by
  obtain ⟨l, cs, i, c, ne, h1, h2, r⟩ := h
  rw [e, h1] at n
  cases n
theorem Keep.free {p t : Addr} {H H' : Hp} (k : Keep p H H') (h : PotAt H' p) (n : H' t = none) : H t = none := by
  cases q : H t with
  | none => rfl
  | some o =>
    rw [k t o q (h.ne n)] at n
    cases n
theorem Pr.ne {H : Hp} {p t : Addr} {q : Int × Int} (r : Pr H t q) (h : PotAt H p) : t ≠ p := by
  obtain ⟨l, cs, i, c, ne, h1, h2, _⟩ := h
  exact ne_of r h1 (by intro z; cases z)
theorem Pr.keep {H H' : Hp} {p t : Addr} {q : Int × Int} (r : Pr H t q) (h : PotAt H p) (k : Keep p H H') : Pr H' t q := k t _ r (r.ne h)
theorem sz3 : 3 ≤ sizeLine := by rw [sizeLine_eq]; decide
theorem sz2 : 2 ≤ sizeLine := by rw [sizeLine_eq]; decide
def spStart (K : PySem.W.Frag) : Sp := fun vs H Q _ => ∃ (a : Addr) (ns : List Int), vs = [.ref a] ∧ SqL K H a (ns.map V.int) ∧ ns.length ≤ 63 ∧
  ∀ p H', PotAt H' p → Ex H H' → H p = none → Q (.ref p) H'
/-- a digit of the pot: all that is said of it is that it is below many -/
def spDigit : Sp := fun vs H Q _ => ∃ (p : Addr) (m : Int), vs = [.ref p, .int m] ∧ PotAt H p ∧ 0 < m ∧ Bd 300 m ∧
  ∀ d H', 0 ≤ d → d < m → PotAt H' p → Keep p H H' → Q (.int d) H'
/-- a drawn fraction -/
def spFraction : Sp := fun vs H Q _ => ∃ (p : Addr), vs = [.ref p] ∧ PotAt H p ∧ ∀ t q H', Pr H' t q → H t = none → Sm 220 q → PotAt H' p → Keep p H H' → Q (.ref t) H'
theorem bd_ten : Bd 210 ((10 : Int) ^ (60 : Int).toNat) := by show ((10 : Int) ^ 60).natAbs < 2 ^ 210; decide +kernel
theorem ten_pos : (0 : Int) < (10 : Int) ^ (60 : Int).toNat := by decide +kernel
theorem bd_twel : Bd 60 ((10 : Int) ^ (12 : Int).toNat) := by show ((10 : Int) ^ 12).natAbs < 2 ^ 60; decide +kernel
theorem twel_pos : (0 : Int) < (10 : Int) ^ (12 : Int).toNat := by decide +kernel
theorem bd_two : Bd 2 (2 : Int) := by show (2 : Int).natAbs < 2 ^ 2; decide
theorem bd_of {n : Nat} {i : Int} (h : i.natAbs < 2 ^ n) : Bd n i := h
theorem bd_le {n : Nat} {i j : Int} (h : Bd n j) (a : -j ≤ i) (b : i ≤ j) : Bd n i := by
  unfold Bd at *
  omega
theorem cpow (i : Int) (j : Nat) (h : i.natAbs < 2 ^ 64) (l : j ≤ 1000000) : CPow i (j : Int) := ⟨by omega, by omega, h⟩
def spHanded : Sp := fun vs H Q _ => ∃ (p t : Addr) (q : Int × Int), vs = [.ref p, .ref t] ∧ PotAt H p ∧ Pr H t q ∧ Sm 300 q ∧
  ∀ u k H', k ≠ 0 → Bd 3 k → Pr H' u (q.1 * k, q.2 * k) → H u = none → PotAt H' p → Keep p H H' → Q (.ref u) H'
theorem kit_self {K : PySem.W.Frag} {a : Addr} : PySem.W.kitOne K (.ref a) (.ref a) = some true := by
  unfold PySem.W.kitOne
  rw [if_pos (by simp)]
/-- lowest terms of at most 220 digits in base 2 -/
structure Lw (p : Int × Int) : Prop where
  s : Sm 220 p
  c : Int.gcd p.1 p.2 = 1
theorem Lw.s4 {p : Int × Int} (h : Lw p) : Sm 4000 p := h.s.mono (by decide)
theorem Lw.of {q : Int × Int} (h : Sm 220 q) : Lw (lo q.1 q.2) := ⟨Sm.lo h.t h.b h.ne, lo_cop h.ne⟩
theorem lo_k {q : Int × Int} (h : Sm 300 q) {k : Int} (k0 : k ≠ 0) : lo (q.1 * k) (q.2 * k) = lo q.1 q.2 := lo_mul h.ne k0
theorem bd_k {q : Int × Int} (h : Sm 300 q) {k : Int} (bk : Bd 3 k) : Bd 8900 (q.2 * k) := (h.b.mul bk).mono (by decide)
def spLaw (K : PySem.W.Frag) : Sp := fun vs H Q _ => ∃ (a : Addr) (ns : List Int), vs = [.ref a] ∧ SqL K H a (ns.map V.int) ∧ ns.length ≤ 63 ∧ ∀ H', Q (.bl true) H'
theorem kit_ref {K : PySem.W.Frag} {t : Value} {D : Addr} {b : Bool} (hd : PySem.W.hasDictIn K D = true) (ht : PySem.W.typeIn K (.ref D) = some (.type "type")) (hs : PySem.W.subIn K t (.ref D) = some b) (ne : t ≠ .ref D) : PySem.W.kitOne K t (.ref D) = some b := by
  obtain ⟨cd, hc, _⟩ := PySem.W.any_some hd
  have e2 : ((PySem.W.clsIn K D).isSome && PySem.W.typeIn K (.ref D) == some (.type "type")) = true := by rw [hc, ht] <;> rfl
  unfold PySem.W.kitOne
  rw [if_neg (fun z => ne (beq_iff_eq.mp z))]
  show (if ((PySem.W.clsIn K D).isSome && PySem.W.typeIn K (.ref D) == some (.type "type")) = true then PySem.W.subIn K t (.ref D) else none) = some b
  rw [if_pos e2]
  exact hs
theorem kit_typ {K : PySem.W.Frag} {D : Addr} {S : String} {b : Bool} (hm : PySem.W.kitMeta S = true) (hs : PySem.W.subIn K (.ref D) (.type S) = some b) : PySem.W.kitOne K (.ref D) (.type S) = some b := by
  unfold PySem.W.kitOne
  rw [if_neg (fun z => by cases beq_iff_eq.mp z)]
  show (if PySem.W.kitMeta S = true then PySem.W.subIn K (.ref D) (.type S) else none) = some b
  rw [if_pos hm]
  exact hs
end Fc
set_option Elab.async false
set_option linter.all false
set_option maxRecDepth 100000
set_option maxHeartbeats 4000000
/-! Fractions as rational numbers; what the ends of spans do under the five operations and the quotient. -/
namespace Fc
/-- what a pair is worth -/
def vl (p : Int × Int) : Rat := (p.1 : Rat) / (p.2 : Rat)
theorem cast_pos {b : Int} (h : 0 < b) : (0 : Rat) < (b : Rat) := Rat.intCast_pos.mpr h
theorem cast_ne {b : Int} (h : b ≠ 0) : (b : Rat) ≠ 0 := fun z => h (Rat.intCast_inj.mp (by rw [z] <;> rfl))
theorem vl_mul {p : Int × Int} (h : p.2 ≠ 0) : vl p * (p.2 : Rat) = (p.1 : Rat) := by
  have := cast_ne h
  unfold vl
  grind
theorem vl_le {p q : Int × Int} (hp : 0 < p.2) (hq : 0 < q.2) : vl p ≤ vl q ↔ p.1 * q.2 ≤ q.1 * p.2 := by
  have a := cast_pos hp
  have b := cast_pos hq
  have e1 := vl_mul (p := p) (by omega)
  have e2 := vl_mul (p := q) (by omega)
  rw [← Rat.intCast_le_intCast, Rat.intCast_mul, Rat.intCast_mul, ← e1, ← e2]
  constructor
  · intro h
    have := Rat.mul_le_mul_of_nonneg_left h (c := (p.2 : Rat) * (q.2 : Rat)) (Rat.mul_nonneg (by grind) (by grind))
    grind
  · intro h
    rcases (Rat.le_total (a := vl p) (b := vl q)) with z | z
    · exact z
    · have m := Rat.mul_le_mul_of_nonneg_left z (c := (p.2 : Rat) * (q.2 : Rat)) (Rat.mul_nonneg (by grind) (by grind))
      have e : (vl p - vl q) * ((p.2 : Rat) * (q.2 : Rat)) = 0 := by grind
      have n : 0 < (p.2 : Rat) * (q.2 : Rat) := Rat.mul_pos a b
      have : vl p - vl q = 0 := (Rat.mul_eq_zero.mp e).resolve_right (by grind)
      grind
theorem vl_lt {p q : Int × Int} (hp : 0 < p.2) (hq : 0 < q.2) : vl p < vl q ↔ p.1 * q.2 < q.1 * p.2 := by
  have := vl_le hq hp
  constructor
  · intro h
    have : ¬ (q.1 * p.2 ≤ p.1 * q.2) := fun z => by have := this.mpr z; grind
    omega
  · intro h
    have : ¬ (vl q ≤ vl p) := fun z => by have := this.mp z; omega
    grind
theorem vl_eq {p q : Int × Int} (hp : 0 < p.2) (hq : 0 < q.2) (h : vl p = vl q) : p.1 * q.2 = q.1 * p.2 := by
  have a := (vl_le hp hq).mp (by grind)
  have b := (vl_le hq hp).mp (by grind)
  omega
theorem vl_lo {t b : Int} (h : b ≠ 0) : vl (lo t b) = (t : Rat) / (b : Rat) := by
  obtain ⟨k, k0, e1, e2, p, _⟩ := lo_split (t := t) h
  have a := cast_ne k0
  have c := cast_pos p
  have f1 : (t : Rat) = ((lo t b).1 : Rat) * (k : Rat) := by rw [← Rat.intCast_mul, ← e1]
  have f2 : (b : Rat) = ((lo t b).2 : Rat) * (k : Rat) := by rw [← Rat.intCast_mul, ← e2]
  unfold vl
  rw [f1, f2]
  grind
/-! ### ranges -/
theorem mul_hi {a b c d x y : Rat} (h1 : a ≤ x) (h2 : x ≤ b) (h3 : c ≤ y) (h4 : y ≤ d) : x * y ≤ a * c ∨ x * y ≤ a * d ∨ x * y ≤ b * c ∨ x * y ≤ b * d := by
  rcases (Rat.le_total (a := 0) (b := y)) with hy | hy
  · have p1 : 0 ≤ (b - x) * y := Rat.mul_nonneg (by grind) hy
    rcases (Rat.le_total (a := 0) (b := b)) with hb | hb
    · have p2 : 0 ≤ b * (d - y) := Rat.mul_nonneg hb (by grind)
      right; right; right; grind
    · have p2 : 0 ≤ (-b) * (y - c) := Rat.mul_nonneg (by grind) (by grind)
      right; right; left; grind
  · have p1 : 0 ≤ (x - a) * (-y) := Rat.mul_nonneg (by grind) (by grind)
    rcases (Rat.le_total (a := 0) (b := a)) with ha | ha
    · have p2 : 0 ≤ a * (d - y) := Rat.mul_nonneg ha (by grind)
      right; left; grind
    · have p2 : 0 ≤ (-a) * (y - c) := Rat.mul_nonneg (by grind) (by grind)
      left; grind
theorem mul_lw {a b c d x y : Rat} (h1 : a ≤ x) (h2 : x ≤ b) (h3 : c ≤ y) (h4 : y ≤ d) : a * c ≤ x * y ∨ a * d ≤ x * y ∨ b * c ≤ x * y ∨ b * d ≤ x * y := by
  have := mul_hi (a := -b) (b := -a) (x := -x) (by grind) (by grind) h3 h4
  grind
theorem inv_anti {c d y : Rat} (h : 0 < c ∨ d < 0) (h3 : c ≤ y) (h4 : y ≤ d) : d⁻¹ ≤ y⁻¹ ∧ y⁻¹ ≤ c⁻¹ := by
  have one : ∀ u v : Rat, u ≤ v → (0 < u ∨ v < 0) → v⁻¹ ≤ u⁻¹ := by
    intro u v huv hs
    have hu : u ≠ 0 := by grind
    have hv : v ≠ 0 := by grind
    have eu := Rat.mul_inv_cancel u hu
    have ev := Rat.mul_inv_cancel v hv
    have sq : 0 ≤ (u * v) * ((v - u) * ((u⁻¹ * u⁻¹) * (v⁻¹ * v⁻¹))) := by
      have q1 : 0 ≤ u * v := by
        rcases hs with hs | hs
        · exact Rat.mul_nonneg (by grind) (by grind)
        · have := Rat.mul_nonneg (a := -u) (b := -v) (by grind) (by grind)
          grind
      have n1 : 0 ≤ u⁻¹ * u⁻¹ := by
        rcases (Rat.le_total (a := 0) (b := u⁻¹)) with z | z
        · exact Rat.mul_nonneg z z
        · have := Rat.mul_nonneg (a := -u⁻¹) (b := -u⁻¹) (by grind) (by grind)
          grind
      have n2 : 0 ≤ v⁻¹ * v⁻¹ := by
        rcases (Rat.le_total (a := 0) (b := v⁻¹)) with z | z
        · exact Rat.mul_nonneg z z
        · have := Rat.mul_nonneg (a := -v⁻¹) (b := -v⁻¹) (by grind) (by grind)
          grind
      exact Rat.mul_nonneg q1 (Rat.mul_nonneg (by grind) (Rat.mul_nonneg n1 n2))
    have e : (u * v) * ((v - u) * ((u⁻¹ * u⁻¹) * (v⁻¹ * v⁻¹))) = u⁻¹ - v⁻¹ := by grind
    grind
  exact ⟨one y d h4 (by grind), one c y h3 (by grind)⟩
/-- the law's six operations -/
def ow (op : Nat) (x y : Rat) : Rat := if op = 0 then x + y else if op = 1 then x - y else if op = 2 then x * y else if op = 3 then (if y < x then y else x) else if op = 4 then (if x < y then y else x) else x / y
/-- what is the least and the greatest of the four corners -/
structure Lst (op : Nat) (a b c d L : Rat) : Prop where
  at_ : L = ow op a c ∨ L = ow op a d ∨ L = ow op b c ∨ L = ow op b d
  h0 : L ≤ ow op a c
  h1 : L ≤ ow op a d
  h2 : L ≤ ow op b c
  h3 : L ≤ ow op b d
structure Grt (op : Nat) (a b c d L : Rat) : Prop where
  at_ : L = ow op a c ∨ L = ow op a d ∨ L = ow op b c ∨ L = ow op b d
  h0 : ow op a c ≤ L
  h1 : ow op a d ≤ L
  h2 : ow op b c ≤ L
  h3 : ow op b d ≤ L
theorem Lst.one {op : Nat} {a b c d L M : Rat} (x : Lst op a b c d L) (y : Lst op a b c d M) : L = M := by
  obtain ⟨x0, x1, x2, x3, x4⟩ := x
  obtain ⟨y0, y1, y2, y3, y4⟩ := y
  refine Rat.le_antisymm ?_ ?_
  · rcases y0 with e | e | e | e <;> rw [e] <;> assumption
  · rcases x0 with e | e | e | e <;> rw [e] <;> assumption
theorem Grt.one {op : Nat} {a b c d L M : Rat} (x : Grt op a b c d L) (y : Grt op a b c d M) : L = M := by
  obtain ⟨x0, x1, x2, x3, x4⟩ := x
  obtain ⟨y0, y1, y2, y3, y4⟩ := y
  refine Rat.le_antisymm ?_ ?_
  · rcases x0 with e | e | e | e <;> rw [e] <;> assumption
  · rcases y0 with e | e | e | e <;> rw [e] <;> assumption
theorem ow_in {op : Nat} {a b c d x y L U : Rat} (h5 : 5 ≤ op → 0 < c ∨ d < 0) (h1 : a ≤ x) (h2 : x ≤ b) (h3 : c ≤ y) (h4 : y ≤ d) (l : Lst op a b c d L) (g : Grt op a b c d U) : L ≤ ow op x y ∧ ow op x y ≤ U := by
  obtain ⟨_, l0, l1, l2, l3⟩ := l
  obtain ⟨_, g0, g1, g2, g3⟩ := g
  unfold ow at *
  by_cases o0 : op = 0
  · simp only [o0, if_true] at *; grind
  by_cases o1 : op = 1
  · simp only [o1, if_true] at *; simp at *; grind
  by_cases o2 : op = 2
  · subst o2
    simp at *
    have p := mul_hi h1 h2 h3 h4
    have q := mul_lw h1 h2 h3 h4
    constructor <;> grind
  by_cases o3 : op = 3
  · subst o3
    simp at *
    constructor <;> grind
  by_cases o4 : op = 4
  · subst o4
    simp at *
    constructor <;> grind
  · simp only [if_neg o0, if_neg o1, if_neg o2, if_neg o3, if_neg o4, Rat.div_def] at *
    obtain ⟨i1, i2⟩ := inv_anti (h5 (by omega)) h3 h4
    have p := mul_hi h1 h2 i1 i2
    have q := mul_lw h1 h2 i1 i2
    constructor <;> grind
theorem ends0 {a b c d : Rat} (h : a ≤ b) (g : c ≤ d) : Lst 0 a b c d (a + c) ∧ Grt 0 a b c d (b + d) := by
  constructor <;> constructor <;> (unfold ow; simp) <;> grind
theorem ends1 {a b c d : Rat} (h : a ≤ b) (g : c ≤ d) : Lst 1 a b c d (a - d) ∧ Grt 1 a b c d (b - c) := by
  constructor <;> constructor <;> (unfold ow; simp) <;> grind
theorem ends3 {a b c d : Rat} (h : a ≤ b) (g : c ≤ d) : Lst 3 a b c d (if a ≤ c then a else c) ∧ Grt 3 a b c d (if b ≤ d then b else d) := by
  constructor <;> constructor <;> (unfold ow; simp) <;> grind
theorem ends4 {a b c d : Rat} (h : a ≤ b) (g : c ≤ d) : Lst 4 a b c d (if c ≤ a then a else c) ∧ Grt 4 a b c d (if d ≤ b then b else d) := by
  constructor <;> constructor <;> (unfold ow; simp) <;> grind
end Fc
set_option Elab.async false
set_option linter.all false
set_option maxRecDepth 100000
set_option maxHeartbeats 4000000
/-! x in y, where y is an instance of an own class that says what is in it. -/
namespace Fc
open PySem PySem.Spec PyProof.Rows L2
section
open PySem.W
variable {M : Model} {A : Around} {E : Value → Shared → Prop} {s : Shared} {K : Frag} {c C f : Addr} {ox : Obj} {od : Option Obj}
theorem in_K {x : Value} {Q : Bool → Shared → Prop} (X : K.In s.heap) (I : InstAt s.heap c ox C od) (hs : findIn K (.ref C) "__contains__" = some (some (.ref f))) (hf : isFn K (.ref f) = true)
    (h : wpAny M A (call (.ref f) [.ref c, x]) (fun r s' => wpAny M A (truthy r) Q E s') E s) : wpAny M A (contains (.ref c) x) Q E s := by
  unfold contains
  refine wpAny_holding ?_
  have e0 : stdlibNamesSay? (.ref c) x = none := rfl
  simp only [e0, callSpecialUnlessNone?, specialOf]
  refine wpAny_bind (wpAny_bind (I.type.here ((looks_findIn X hs).here ?_)))
  show wpAny M A (if (some (Value.ref f) == some Value.none) = true then _ else _) Q E s
  rw [if_neg (by simp)]
  refine wpAny_bind (wpAny_bind (wpAny_bind (I.type.here ((looks_findIn X hs).here ?_))))
  refine wpAny_holding (wpAny_bind ((bind_fn X _ (beq_iff_eq.mp hf)).here ?_))
  show wpAny M A (if (Value.ref f == Value.none) = true then _ else _) _ E s
  rw [if_neg (by simp)]
  exact wpAny_bind (wpAny_mono h (fun v s' z => wpAny_pure z) fun _ _ z => z)
end
/-- x in y -/
def rIn (C : Addr) (sp : Sp) (E : XK) : R2 := fun x y H Q => ∃ a dx fs, y = .ref a ∧ H a = some (.ins C dx fs) ∧ sp [.ref a, x] H (fun v H' => ∃ b, v = .bl b ∧ Q (.bl b) H') E
theorem op_in {X : Cx} {CX : CXT} {k : Nat} {C f : Addr} {fd : FuncData} {ps : List Str} {sp : Sp} {E : XK}
    (hs : PySem.W.findIn X.K (.ref C) "__contains__" = some (some (.ref f))) (hf : PySem.W.isFn X.K (.ref f) = true)
    (F : FnOk X.prog X.w X.K X.mg X.base CX k f fd ps sp) (hr : Room k X.A) (hb : Binds X.K fd ps []) (hx : Passes CX X E) :
    OpR X (compareOp .In) (rIn C sp E) := by
  intro pins s sl H x y u v Q I rx ry h
  obtain ⟨a, dx, fs, rfl, ha, q⟩ := h
  cases ry
  obtain ⟨ox, od, J⟩ := inst_at I ha
  show wpAny (model X.prog X.w) X.A (do return .bool (← contains (.ref a) u)) (EP X pins sl Q) X.xe s
  refine wpAny_bind (in_K I.kIn J hs hf (thn (run_fn (vs := [.ref a, x]) (us := [.ref a, u]) F hr hb .nil hx I (.cons rfl (.cons rx .nil)) q) fun w s' z => ?_))
  obtain ⟨z', H', I', rz, b, rfl, qz⟩ := z
  cases rz
  exact wpAny_pure (wpAny_pure ⟨.bl b, H', I', rfl, qz⟩)
end Fc
set_option Elab.async false
set_option linter.all false
set_option maxRecDepth 100000
set_option maxHeartbeats 4000000
/-! Ratios, pairs and spans on the heap by what they are worth. -/
namespace Fc
open PySem PySem.Spec PyProof.Rows L2
theorem div_is {t b r : Rat} (h : b ≠ 0) (e : r * b = t) : t / b = r := by grind
theorem cast_mul (a b : Int) : ((a * b : Int) : Rat) = (a : Rat) * (b : Rat) := Rat.intCast_mul a b
theorem cast_add (a b : Int) : ((a + b : Int) : Rat) = (a : Rat) + (b : Rat) := Rat.intCast_add a b
theorem cast_sub (a b : Int) : ((a - b : Int) : Rat) = (a : Rat) - (b : Rat) := Rat.intCast_sub a b
theorem cast_neg (a : Int) : ((-a : Int) : Rat) = -(a : Rat) := Rat.intCast_neg a
theorem v_add {p q : Int × Int} (hp : p.2 ≠ 0) (hq : q.2 ≠ 0) : ((p.1 * q.2 + q.1 * p.2 : Int) : Rat) / ((p.2 * q.2 : Int) : Rat) = vl p + vl q := by
  have e1 := vl_mul hp
  have e2 := vl_mul hq
  refine div_is (cast_ne (Int.mul_ne_zero hp hq)) ?_
  rw [cast_mul, cast_add, cast_mul, cast_mul, ← e1, ← e2]
  grind
theorem v_sub {p q : Int × Int} (hp : p.2 ≠ 0) (hq : q.2 ≠ 0) : ((p.1 * q.2 - q.1 * p.2 : Int) : Rat) / ((p.2 * q.2 : Int) : Rat) = vl p - vl q := by
  have e1 := vl_mul hp
  have e2 := vl_mul hq
  refine div_is (cast_ne (Int.mul_ne_zero hp hq)) ?_
  rw [cast_mul, cast_sub, cast_mul, cast_mul, ← e1, ← e2]
  grind
theorem v_mul {p q : Int × Int} (hp : p.2 ≠ 0) (hq : q.2 ≠ 0) : ((p.1 * q.1 : Int) : Rat) / ((p.2 * q.2 : Int) : Rat) = vl p * vl q := by
  have e1 := vl_mul hp
  have e2 := vl_mul hq
  refine div_is (cast_ne (Int.mul_ne_zero hp hq)) ?_
  rw [cast_mul, cast_mul, ← e1, ← e2]
  grind
theorem v_neg {p : Int × Int} (hp : p.2 ≠ 0) : ((-p.1 : Int) : Rat) / (p.2 : Rat) = -vl p := by
  have e1 := vl_mul hp
  refine div_is (cast_ne hp) ?_
  rw [cast_neg, ← e1]
  grind
theorem v_zero {q : Int × Int} (hq : q.2 ≠ 0) : vl q = 0 ↔ q.1 = 0 := by
  have e2 := vl_mul hq
  have := cast_ne hq
  constructor
  · intro h
    rw [h] at e2
    exact Rat.intCast_inj.mp (by rw [← e2]; grind)
  · intro h
    unfold vl
    rw [h]
    grind
theorem v_div {p q : Int × Int} (hp : p.2 ≠ 0) (hq : q.2 ≠ 0) (h0 : q.1 ≠ 0) : ((p.1 * q.2 : Int) : Rat) / ((p.2 * q.1 : Int) : Rat) = vl p / vl q := by
  have e1 := vl_mul hp
  have e2 := vl_mul hq
  have n : vl q ≠ 0 := fun z => h0 ((v_zero hq).mp z)
  refine div_is (cast_ne (Int.mul_ne_zero hp h0)) ?_
  rw [cast_mul, cast_mul, ← e1, ← e2]
  grind
theorem v_pos {q : Int × Int} (hq : 0 < q.2) : 0 < vl q ↔ 0 < q.1 := by
  have := vl_lt (p := ((0, 1) : Int × Int)) (q := q) (by decide) hq
  have z : vl ((0, 1) : Int × Int) = 0 := (v_zero (by decide)).mpr rfl
  rw [z] at this
  rw [this]
  show (0 : Int) * q.2 < q.1 * 1 ↔ _
  rw [Int.zero_mul, Int.mul_one]
theorem v_nn {q : Int × Int} (hq : 0 < q.2) : 0 ≤ vl q ↔ 0 ≤ q.1 := by
  have := vl_le (p := ((0, 1) : Int × Int)) (q := q) (by decide) hq
  have z : vl ((0, 1) : Int × Int) = 0 := (v_zero (by decide)).mpr rfl
  rw [z] at this
  rw [this]
  show (0 : Int) * q.2 ≤ q.1 * 1 ↔ _
  rw [Int.zero_mul, Int.mul_one]
theorem v_np {q : Int × Int} (hq : 0 < q.2) : vl q ≤ 0 ↔ q.1 ≤ 0 := by
  have := vl_le (p := q) (q := ((0, 1) : Int × Int)) hq (by decide)
  have z : vl ((0, 1) : Int × Int) = 0 := (v_zero (by decide)).mpr rfl
  rw [z] at this
  rw [this]
  show q.1 * 1 ≤ (0 : Int) * q.2 ↔ _
  rw [Int.zero_mul, Int.mul_one]
/-- a Ratio in lowest terms, worth r -/
def RatV (C : Addr) (H : Hp) (n : Nat) (a : Addr) (r : Rat) : Prop := ∃ p, RatAt C H a p ∧ Sm n p ∧ Int.gcd p.1 p.2 = 1 ∧ vl p = r
theorem RatV.ex {C : Addr} {H H' : Hp} {n : Nat} {a : Addr} {r : Rat} (h : RatV C H n a r) (e : Ex H H') : RatV C H' n a r := let ⟨p, x, y⟩ := h; ⟨p, x.ex e, y⟩
theorem RatV.mono {C : Addr} {H : Hp} {n m : Nat} {a : Addr} {r : Rat} (h : RatV C H n a r) (l : n ≤ m) : RatV C H m a r := let ⟨p, x, y, z⟩ := h; ⟨p, x, y.mono l, z⟩
theorem RatV.lo {C : Addr} {H : Hp} {n : Nat} {a : Addr} {t b : Int} (h : RatAt C H a (lo t b)) (ht : Bd n t) (hb : Bd n b) (n0 : b ≠ 0) {r : Rat} (e : (t : Rat) / (b : Rat) = r) : RatV C H n a r :=
  ⟨_, h, Sm.lo ht hb n0, lo_cop n0, (vl_lo n0).trans e⟩
/-- a pair of whole numbers worth r -/
def PrV (H : Hp) (n : Nat) (a : Addr) (r : Rat) : Prop := ∃ p, Pr H a p ∧ Sm n p ∧ vl p = r
theorem PrV.ex {H H' : Hp} {n : Nat} {a : Addr} {r : Rat} (h : PrV H n a r) (e : Ex H H') : PrV H' n a r := let ⟨p, x, y⟩ := h; ⟨p, x.ex e, y⟩
theorem PrV.mono {H : Hp} {n m : Nat} {a : Addr} {r : Rat} (h : PrV H n a r) (l : n ≤ m) : PrV H m a r := let ⟨p, x, y, z⟩ := h; ⟨p, x, y.mono l, z⟩
theorem PrV.keep {H H' : Hp} {n : Nat} {p t : Addr} {r : Rat} (h : PrV H n t r) (pt : PotAt H p) (k : Keep p H H') : PrV H' n t r := let ⟨q, x, y⟩ := h; ⟨q, x.keep pt k, y⟩
/-- the same worth, and lowest terms: the same fraction -/
theorem low_is {n m : Nat} {t p : Int × Int} (ht : Sm n t) (hc : Int.gcd t.1 t.2 = 1) (hp : Sm m p) (e : vl t = vl p) : t = lo p.1 p.2 := by
  have h := lo_eq ht.ne hp.ne (vl_eq ht.pos hp.pos e)
  exact (lo_self ht.pos hc).symm.trans h
/-- -1, 0 or 1 -/
def cmpR (x y : Rat) : Int := if x < y then -1 else if y < x then 1 else 0
theorem cmpR_pos {x y : Rat} : 0 < cmpR x y ↔ y < x := by
  unfold cmpR
  split
  · constructor
    · omega
    · intro h; grind
  · split <;> simp_all
theorem cmpR_np {x y : Rat} : cmpR x y ≤ 0 ↔ x ≤ y := by
  have := cmpR_pos (x := x) (y := y)
  constructor
  · intro h
    have : ¬ y < x := fun z => by have := this.mpr z; omega
    grind
  · intro h
    have : ¬ 0 < cmpR x y := fun z => by have := this.mp z; grind
    omega
theorem cmpR_nn {x y : Rat} : 0 ≤ cmpR x y ↔ y ≤ x := by
  unfold cmpR
  split
  · constructor
    · intro h; omega
    · intro h; grind
  · split
    · constructor
      · intro h; grind
      · intro h; omega
    · constructor
      · intro h; grind
      · intro h; omega
/-- the fields of a Span -/
def sf (l h : Addr) : List (Str × V) := [("low", .ref l), ("high", .ref h)]
theorem ne_lh : ¬ (("low" : Str) = "high") := by decide +kernel
theorem sf_put (l h : Addr) : putF "high" (.ref h) (putF "low" (.ref l) []) = sf l h := by
  show (if ("low" : Str) = "high" then _ else (("low" : Str), V.ref l) :: putF "high" (.ref h) []) = sf l h
  rw [if_neg ne_lh]
  rfl
theorem sf_low (l h : Addr) : (sf l h).lookup ("low" : Str) = some (.ref l) := by simp [sf, List.lookup]
theorem sf_high (l h : Addr) : (sf l h).lookup ("high" : Str) = some (.ref h) := by
  have : (("high" : Str) == "low") = false := by decide +kernel
  simp [sf, List.lookup, this]
theorem sf_no (l h : Addr) {m : Str} (h1 : (m == "low") = false) (h2 : (m == "high") = false) : (sf l h).lookup m = none := by
  simp [sf, List.lookup, h1, h2]
/-- a Span from x to y -/
def SpV (S C : Addr) (H : Hp) (n : Nat) (s : Addr) (x y : Rat) : Prop := ∃ dx l h, H s = some (.ins S dx (sf l h)) ∧ RatV C H n l x ∧ RatV C H n h y
theorem SpV.ex {S C : Addr} {H H' : Hp} {n : Nat} {s : Addr} {x y : Rat} (r : SpV S C H n s x y) (e : Ex H H') : SpV S C H' n s x y := let ⟨dx, l, h, a, b, c⟩ := r; ⟨dx, l, h, e _ _ a, b.ex e, c.ex e⟩
theorem SpV.mono {S C : Addr} {H : Hp} {n m : Nat} {s : Addr} {x y : Rat} (r : SpV S C H n s x y) (e : n ≤ m) : SpV S C H m s x y := let ⟨dx, l, h, a, b, c⟩ := r; ⟨dx, l, h, a, b.mono e, c.mono e⟩
/-- a loop over a tuple, whatever its turn asks -/
theorem it_tup {K : PySem.W.Frag} {a : Addr} {xs : List V} {B : (Hp → Prop) → V → Hp → Prop} {H0 : Hp} {Qd : Hp → Prop} (Pv : Nat → Hp → Prop) (h0 : Pv 0 H0) (hl : ∀ i H, i ≤ xs.length → Pv i H → SqT K H a xs)
    (hs : ∀ i x H, xs[i]? = some x → Pv i H → B (Pv (i + 1)) x H) (hd : ∀ H, Pv xs.length H → Qd H) :
    ∃ W : Nat → Nat → Hp → Prop, (∃ m, W 0 m H0) ∧ ∀ i m H, W i m H →
      ((Itt K a).stop i H ∧ Qd H) ∨ ((Itt K a).go i H ∧ ∃ Nx : Hp → Prop, (∀ H', Nx H' → ∃ m', m' < m ∧ W (i + 1) m' H') ∧ ∀ x H', (Itt K a).yld i H x H' → B Nx x H') := by
  refine ⟨fun i m H => m = xs.length - i ∧ i ≤ xs.length ∧ Pv i H, ⟨xs.length, by simp, Nat.zero_le _, h0⟩, ?_⟩
  rintro i m H ⟨rfl, hi, p⟩
  have q := hl i H hi p
  by_cases hlt : i < xs.length
  · refine .inr ⟨⟨xs, xs[i], q, by simp [hlt]⟩, Pv (i + 1), fun H' p' => ⟨xs.length - (i + 1), by omega, rfl, hlt, p'⟩, fun x H' y => ?_⟩
    obtain ⟨e, y⟩ := y
    subst e
    exact hs i x _ (y xs q) p
  · have e : i = xs.length := by omega
    subst e
    exact .inl ⟨⟨xs, q, Nat.le_refl _⟩, hd H p⟩
/-- the Ratios at these addresses are worth these -/
def Fit (C : Addr) (H : Hp) : List Addr → List Rat → Prop
  | [], [] => True
  | a :: as, r :: rs => RatV C H 2001 a r ∧ Fit C H as rs
  | _, _ => False
theorem Fit.len {C : Addr} {H : Hp} : ∀ {as : List Addr} {rs : List Rat}, Fit C H as rs → as.length = rs.length
  | [], [], _ => rfl
  | _ :: _, _ :: _, h => congrArg (· + 1) (Fit.len h.2)
  | [], _ :: _, h => h.elim
  | _ :: _, [], h => h.elim
theorem Fit.app {C : Addr} {H : Hp} {y : Addr} {r : Rat} (hy : RatV C H 2001 y r) : ∀ {as : List Addr} {rs : List Rat}, Fit C H as rs → Fit C H (as ++ [y]) (rs ++ [r])
  | [], [], _ => ⟨hy, trivial⟩
  | _ :: _, _ :: _, h => ⟨h.1, Fit.app hy h.2⟩
  | [], _ :: _, h => h.elim
  | _ :: _, [], h => h.elim
theorem RatV.keep {C D : Addr} {H H' : Hp} {n : Nat} {a : Addr} {r : Rat} {xs : List V} (h : RatV C H n a r) (hD : H D = some (.lst xs)) (k : Keep D H H') : RatV C H' n a r := by
  obtain ⟨p, ⟨dx, z⟩, y⟩ := h
  refine ⟨p, ⟨dx, k _ _ z ?_⟩, y⟩
  intro e
  rw [e, hD] at z
  cases z
theorem Fit.keep {C D : Addr} {H H' : Hp} {xs : List V} (hD : H D = some (.lst xs)) (k : Keep D H H') : ∀ {as : List Addr} {rs : List Rat}, Fit C H as rs → Fit C H' as rs
  | [], [], _ => trivial
  | _ :: _, _ :: _, h => ⟨h.1.keep hD k, Fit.keep hD k h.2⟩
  | [], _ :: _, h => h.elim
  | _ :: _, [], h => h.elim
theorem Fit.ex {C : Addr} {H H' : Hp} (k : Ex H H') : ∀ {as : List Addr} {rs : List Rat}, Fit C H as rs → Fit C H' as rs
  | [], [], _ => trivial
  | _ :: _, _ :: _, h => ⟨h.1.ex k, Fit.ex k h.2⟩
  | [], _ :: _, h => h.elim
  | _ :: _, [], h => h.elim
def Els (C : Addr) (H : Hp) (D : Addr) (rs : List Rat) : Prop := ∃ ys : List Addr, H D = some (.lst (ys.map V.ref)) ∧ Fit C H ys rs
theorem Keep.exn {D : Addr} {H H' : Hp} (k : Keep D H H') (n : H D = none) : Ex H H' := fun b o e => k b o e (ne_of_none e n)
/-- one more of them -/
theorem Els.app {C D : Addr} {H H1 : Hp} {rs : List Rat} {y : Addr} {r : Rat} (h : Els C H D rs) (e : Ex H H1) (hy : RatV C H1 2001 y r) (l : rs.length < 4) :
    ∃ acc, H1 D = some (.lst acc) ∧ acc.length < sizeLine ∧ Els C (upd H1 D (.lst (acc ++ [.ref y]))) D (rs ++ [r]) := by
  obtain ⟨ys, h1, h2⟩ := h
  refine ⟨ys.map V.ref, e _ _ h1, ?_, ys ++ [y], ?_, ?_⟩
  · rw [List.length_map, h2.len, sizeLine_eq]
    omega
  · rw [upd_same, List.map_append]
    rfl
  · exact ((h2.ex e).app hy).keep (e _ _ h1) Keep.upd
/-- [e for x in (a, b) for y in (c, d)] -/
theorem lc22 {K : PySem.W.Frag} {C : Addr} {s o : V} {wi wi1 : TI} {te : TE} {f : Rat → Rat → Rat} {G : Rat → Prop} {H : Hp} {Q : VK} {a b c d : Addr} {ra rb rc rd : Rat}
    (ha : RatV C H 1000 a ra) (hb : RatV C H 1000 b rb) (hc : RatV C H 1000 c rc) (hd : RatV C H 1000 d rd) (gc : G rc) (gd : G rd)
    (hw : ∀ R, (∀ t H', Ex H H' → H' t = some (.tup [.ref a, .ref b]) → R (Itt K t) H') → wi [some s, some o, none, none] H R)
    (hw1 : ∀ u H2 R, Ex H H2 → (∀ t H', Ex H2 H' → H' t = some (.tup [.ref c, .ref d]) → R (Itt K t) H') → wi1 [some s, some o, some u, none] H2 R)
    (ht : ∀ u v ru rv H2 R, RatV C H2 1000 u ru → RatV C H2 1000 v rv → G rv → (∀ y H', Ex H2 H' → H2 y = none → RatV C H' 2001 y (f ru rv) → R (.ref y) H') → te [some s, some o, some (.ref u), some (.ref v)] H2 R)
    (k : ∀ L H' ys, Ex H H' → H' L = some (.lst (ys.map V.ref)) → Fit C H' ys [f ra rc, f ra rd, f rb rc, f rb rd] → Q (.ref L) H') :
    tLc2 wi (gName 2) tYes wi1 (gName 3) tYes te [2, 3] [3] [some s, some o, none, none] H Q := by
  refine hw _ fun t H1 e1 h1 => ?_
  intro D hD
  have tD : t ≠ D := ne_of_none h1 hD
  refine it_tup (xs := [.ref a, .ref b]) (fun i H' => Keep D H1 H' ∧ Els C H' D (([f ra rc, f ra rd, f rb rc, f rb rd] : List Rat).take (2 * i))) ⟨Keep.upd, [], upd_same, trivial⟩ (fun i H' _ p => SqT.of (p.1 _ _ h1 tD)) (fun i x H' hx p => ?_) (fun H' p => ?_)
  · obtain ⟨kp, els⟩ := p
    obtain ⟨u, ru, rfl, hu, i2, e2⟩ : ∃ u ru, x = V.ref u ∧ RatV C H 1000 u ru ∧ i < 2 ∧ ([f ra rc, f ra rd, f rb rc, f rb rd] : List Rat).take (2 * i + 1) = ([f ra rc, f ra rd, f rb rc, f rb rd] : List Rat).take (2 * i) ++ [f ru rc] ∧
        ([f ra rc, f ra rd, f rb rc, f rb rd] : List Rat).take (2 * (i + 1)) = ([f ra rc, f ra rd, f rb rc, f rb rd] : List Rat).take (2 * i + 1) ++ [f ru rd] := by
      match i, hx with
      | 0, z => cases z; exact ⟨a, ra, rfl, ha, by decide, rfl, rfl⟩
      | 1, z => cases z; exact ⟨b, rb, rfl, hb, by decide, rfl, rfl⟩
      | n + 2, z => simp at z
    refine ⟨rfl, hw1 _ _ _ (e1.trans (kp.exn hD)) fun t2 H4 e4 h4 => ?_⟩
    obtain ⟨ys, hy1, hy2⟩ := els
    have t2D : t2 ≠ D := ne_of h4 (e4 _ _ hy1) (by intro z; cases z)
    refine it_tup (xs := [.ref c, .ref d]) (fun j H' => Keep D H4 H' ∧ Els C H' D (([f ra rc, f ra rd, f rb rc, f rb rd] : List Rat).take (2 * i + j))) ⟨Keep.refl, ys, e4 _ _ hy1, hy2.ex e4⟩ (fun j H' _ p => SqT.of (p.1 _ _ h4 t2D)) (fun j x H5 hx p => ?_) (fun H5 p => ?_)
    · obtain ⟨kp5, els5⟩ := p
      have kk : Keep D H1 H5 := (kp.trans (Keep.of e4)).trans kp5
      have E5 : Ex H H5 := e1.trans (kk.exn hD)
      obtain ⟨v, rv, rfl, hv, gv, j2, ej⟩ : ∃ v rv, x = V.ref v ∧ RatV C H 1000 v rv ∧ G rv ∧ j < 2 ∧ ([f ra rc, f ra rd, f rb rc, f rb rd] : List Rat).take (2 * i + (j + 1)) = ([f ra rc, f ra rd, f rb rc, f rb rd] : List Rat).take (2 * i + j) ++ [f ru rv] := by
        match j, hx with
        | 0, z => cases z; exact ⟨c, rc, rfl, hc, gc, by decide, e2.1⟩
        | 1, z => cases z; exact ⟨d, rd, rfl, hd, gd, by decide, e2.2⟩
        | n + 2, z => simp at z
      refine ⟨rfl, ht u v ru rv H5 _ (hu.ex E5) (hv.ex E5) gv fun y H6 e6 ny ry => ?_⟩
      obtain ⟨acc, q1, q2, q3⟩ := els5.app e6 ry (by rw [List.length_take]; show min (2 * i + j) 4 < 4; omega)
      refine ⟨acc, q1, q2, (kp5.trans (Keep.of e6)).trans Keep.upd, ?_⟩
      rw [ej]
      exact q3
    · exact ⟨(kp.trans (Keep.of e4)).trans p.1, p.2⟩
  · obtain ⟨kp, ys, h3, h4⟩ := p
    exact k D H' ys (e1.trans (kp.exn hD)) h3 h4
end Fc
set_option Elab.async false
set_option linter.all false
set_option maxRecDepth 100000
set_option maxHeartbeats 4000000
/-! More rules of mine: an own operator that raises in a try, a static method called off its class. -/
namespace Fc
open PySem PySem.Spec PyProof.Rows L2
section
variable {X : Cx} {CX : CXT} {k : Nat} {C f : Addr} {fd : FuncData} {ps : List Str} {sp : Sp}
def tOwnS (C : Addr) (sp : Sp) (E : L2.St → XK) (ta tb : TE) : TE := fun sl H Q => ta sl H fun x H1 => tb sl H1 fun y H2 => ∃ a b dx dy fs gs, x = .ref a ∧ y = .ref b ∧
  H2 a = some (.ins C dx fs) ∧ H2 b = some (.ins C dy gs) ∧ sp [.ref a, .ref b] H2 Q (E sl)
theorem pe_opS {op : Operator} {E : L2.St → XK} {a b : Expr} {ta tb : TE} {pos : Pos} (hc : PySem.W.selfFirst X.K C = true) (hs : PySem.W.findIn X.K (.ref C) (PySem.dunder op.info.2) = some (some (.ref f)))
    (hf : PySem.W.isFn X.K (.ref f) = true) (F : FnOk X.prog X.w X.K X.mg X.base CX k f fd ps sp) (hr : Room k X.A) (hb : Binds X.K fd ps []) (hx : ∀ sl, PassesAt CX X sl (E sl)) (ha : PE X a ta) (hbb : PE X b tb) :
    PE X (.BinOp a op b pos) (tOwnS C sp E ta tb) := by
  refine ⟨fun pins s sl H Q I h => ?_⟩
  refine wpAny_BinOp (binT ha hbb I h fun v u s2 x y H2 I2 rx ry q => ?_)
  obtain ⟨a, b, dx, dy, fs, gs, rfl, rfl, h1, h2, q⟩ := q
  cases rx
  cases ry
  obtain ⟨ox, od, J⟩ := inst_at I2 h1
  obtain ⟨oy, oe, J'⟩ := inst_at I2 h2
  obtain ⟨m, hF⟩ := I2.fr
  exact PySem.W.binop_K hF I2.ok.mod.kin J J'.type hc hs hf
    (thn (run_fnS (vs := [.ref a, .ref b]) (us := [.ref a, .ref b]) F hr hb (hx sl) I2 (.cons rfl (.cons rfl .nil)) q) fun _ _ z => cmpBack z)
/-! ### C.m(..), a static method -/
structure SMet (K : PySem.W.Frag) (C : Addr) (mc : Value) (m : Str) (p g : Addr) : Prop where
  at_ : PySem.W.findCls K (.ref C) mc m = some (.get (.builtin "staticmethod.__get__") (.ref p) .none (.ref C))
  rc : ∃ rest, PySem.W.recIn K p "staticmethod" = some (.ref g :: rest)
  kp : PySem.W.keepIn K (.ref g) = true
theorem getsm_ok {pins : List (Addr × Obj)} {σ : L2.St} {H : Hp} {s : Shared} {A : Around} {E : Value → Shared → Prop} {mc : Value} {m : Str} {p g : Addr} {pl : Sem Bool} {Q : Value × List Value → Shared → Prop} (I : Inv X pins σ H s)
    (r : ClX.CRead X.K C mc) (c : SMet X.K C mc m p g) (h : ∀ s', Inv X pins σ H s' → Q (.ref g, []) s') : wpAny (model X.prog X.w) A (getMethod (.ref C) m pl) Q E s := by
  obtain ⟨rest, hp⟩ := c.rc
  refine PySem.W.method_cls I.kIn r.ga ?_
  refine PySem.W.cls_bind I.kIn r.rd c.at_ ?_
  exact wpAny_call (PySem.W.sm_get (s := { s with toks := s.toks + 1 }) I.kIn hp (PySem.W.handed_on rfl (h _ (I.tok _))))
def tSMeth (C : Addr) (sp : Sp) (E : XK) (ta : TE) (t : TA) : TE := fun σ H Q => ta σ H fun x H1 => x = .ref C ∧ t σ H1 fun vs H2 => sp vs H2 Q E
theorem pe_smeth {o e : Expr} {es : List Expr} {m : Str} {apos pos : Pos} {pl : Sem Bool} {mc : Value} {p g : Addr} {E : XK} {ta : TE} {t : TA} (he : PE X o ta) (r : ClX.CRead X.K C mc) (c : SMet X.K C mc m p g)
    (F : FnOk X.prog X.w X.K X.mg X.base CX k g fd ps sp) (hr : Room k X.A) (hb : Binds X.K fd ps []) (hx : Passes CX X E) (ha : PA X (e :: es) t)
    (hst : starEach (e :: es) X.env = (false, eval e X.env) :: starEach es X.env := by rfl) (hpl : (backTo pos (starEach es X.env)).any (·.1) = false := by rfl)
    (ht : eval (.Call (.Attribute o m apos) (e :: es) [] pos) X.env = (do
      let ov ← eval o X.env
      standAt apos.atName
      let (f, first) ← holding [ov] (getMethod ov m pl)
      callWith pos f first (backTo pos (starEach (e :: es) X.env)) (backToKw pos (keywordEach [] X.env))) := by rfl) :
    PE X (.Call (.Attribute o m apos) (e :: es) [] pos) (tSMeth C sp E ta t) := by
  refine ⟨fun pins s σ H Q I h => ?_⟩
  refine PySem.W.methodCall_KW (pl := pl) (thn (he.run pins s σ H _ I h) fun u s1 ⟨x, H1, I1, rx, ex, q⟩ => ?_) ht
  subst ex
  obtain rfl : u = Value.ref C := rx
  refine getsm_ok I1 r c fun s2 I2 => ?_
  refine PySem.W.callWith_K (first := []) (h₀ := X.base) I2.ok.mod.kin c.kp ?_ hst hpl
  exact thn (ha.run pos pins s2 σ H1 _ I2 q) fun us s3 ⟨vs, H2, I3, rv, q2⟩ => ⟨I3.kIn, run_fn F hr hb .nil hx I3 rv (by rw [List.append_nil]; exact q2)⟩
end
end Fc
namespace Fc
open PySem PySem.Spec PyProof.Rows L2
/-- one of two readings -/
def rOr (r1 r2 : R2) : R2 := fun x y H Q => r1 x y H Q ∨ r2 x y H Q
theorem op_or {X : Cx} {f : Value → Value → Sem Value} {r1 r2 : R2} (h1 : OpR X f r1) (h2 : OpR X f r2) : OpR X f (rOr r1 r2) := fun pins s sl H x y u v Q I rx ry h => by
  rcases h with h | h
  · exact h1 pins s sl H x y u v Q I rx ry h
  · exact h2 pins s sl H x y u v Q I rx ry h
end Fc
set_option Elab.async false
set_option linter.all false
set_option maxRecDepth 100000
set_option maxHeartbeats 4000000
/-! What a fraction and a span are written as. -/
namespace Fc
open PySem PySem.Spec PyProof.Rows L2
/-- a whole number written -/
def itx (i : Int) : Str := Str.ofString (toString i)
theorem itx_len {i : Int} (h : i.natAbs.log2 < 1920) : (itx i).length ≤ 1921 := int_text_len_1921 h
/-- a fraction written -/
def rtx (p : Int × Int) : Str := if p.2 = 1 then itx p.1 else itx p.1 ++ "/" ++ itx p.2
theorem rtx_len {p : Int × Int} (h : p.1.natAbs.log2 < 1920) (g : p.2.natAbs.log2 < 1920) : (rtx p).length ≤ 4000 := by
  have a := itx_len h
  have b := itx_len g
  unfold rtx
  split
  · omega
  · rw [Str.length_append, Str.length_append]
    have : ("/" : Str).length = 1 := rfl
    omega
theorem Bd.lg {n : Nat} {i : Int} (h : Bd n i) (p : 0 < n := by decide) (l : n ≤ 1920 := by decide) : i.natAbs.log2 < 1920 := Nat.lt_of_lt_of_le (PySem.Flt.log2_lt_of p h) l
end Fc
set_option Elab.async false
set_option linter.all false
set_option maxRecDepth 100000
set_option maxHeartbeats 4000000
set_option exponentiation.threshold 100000
/-! Euclid with Lamé's bound: 1500 steps do for a bottom below 2 ^ 1000. -/
namespace Fc
/-- two Fibonacci numbers in a row -/
def fib2 : Nat → Nat × Nat
  | 0 => (0, 1)
  | n + 1 => ((fib2 n).2, (fib2 n).1 + (fib2 n).2)
structure Lu (g N i a b : Nat) : Prop where
  gcd : Nat.gcd a b = g
  first : i = 0 → b ≤ N
  next : i ≠ 0 → b < a ∧ (fib2 i).1 * a + (fib2 (i - 1)).1 * b ≤ N
theorem Lu.start {a b N : Nat} (h : b ≤ N) : Lu (Nat.gcd a b) N 0 a b := ⟨rfl, fun _ => h, fun z => absurd rfl z⟩
theorem fib_step (n : Nat) : (fib2 (n + 2)).1 = (fib2 (n + 1)).1 + (fib2 n).1 := by
  show (fib2 n).1 + (fib2 n).2 = (fib2 n).2 + (fib2 n).1
  omega
theorem Lu.turn {g N i a b : Nat} (h : Lu g N i a b) (hb : b ≠ 0) : Lu g N (i + 1) b (a % b) := by
  have lt : a % b < b := Nat.mod_lt _ (by omega)
  refine ⟨?_, fun e => by omega, fun _ => ⟨lt, ?_⟩⟩
  · have := h.gcd
    rw [Nat.gcd_comm, ← Nat.gcd_rec, Nat.gcd_comm]
    exact this
  · rcases Nat.eq_zero_or_pos i with z | z
    · subst z
      have := h.first rfl
      show 1 * b + 0 * (a % b) ≤ N
      omega
    · obtain ⟨h1, h2⟩ := h.next (by omega)
      obtain ⟨j, rfl⟩ : ∃ j, i = j + 1 := ⟨i - 1, by omega⟩
      have hd := Nat.div_add_mod a b
      have q1 : 1 ≤ a / b := (Nat.one_le_div_iff (by omega)).mpr (by omega)
      have q2 : b * 1 ≤ b * (a / b) := Nat.mul_le_mul_left b q1
      have q3 : b + a % b ≤ a := by omega
      have q4 := Nat.mul_le_mul_left (fib2 (j + 1)).1 q3
      rw [Nat.mul_add] at q4
      show (fib2 (j + 2)).1 * b + (fib2 (j + 1)).1 * (a % b) ≤ N
      rw [fib_step, Nat.add_mul]
      have h2' : (fib2 (j + 1)).1 * a + (fib2 j).1 * b ≤ N := h2
      omega
/-- .. reckoned with two numbers -/
def fibL : Nat → Nat → Nat → Nat
  | 0, a, _ => a
  | n + 1, a, b => fibL n b (a + b)
theorem fibL_is (n : Nat) : ∀ k, fibL n (fib2 k).1 (fib2 k).2 = (fib2 (n + k)).1 := by
  induction n with
  | zero => intro k; rw [Nat.zero_add]; rfl
  | succ n ih =>
    intro k
    show fibL n (fib2 k).2 ((fib2 k).1 + (fib2 k).2) = _
    have := ih (k + 1)
    rw [show n + 1 + k = n + (k + 1) by omega]
    exact this
theorem fib_big : 2 ^ 1000 < (fib2 1500).1 := by
  have e : (fib2 1500).1 = fibL 1500 0 1 := (fibL_is 1500 0).symm
  rw [e]
  decide +kernel
theorem Lu.done {g N a b : Nat} (h : Lu g N 1500 a b) (hN : N ≤ 2 ^ 1000) : b = 0 := by
  obtain ⟨h1, h2⟩ := h.next (by decide)
  have := fib_big
  have q := Nat.mul_le_mul_left (fib2 1500).1 (show 1 ≤ a by omega)
  omega
theorem Lu.zero {g N i a : Nat} (h : Lu g N i a 0) : a = g := by
  have := h.gcd
  simpa using this
end Fc
set_option Elab.async false
set_option linter.all false
set_option maxRecDepth 100000
set_option maxHeartbeats 4000000
/-! An own error with an own __init__, raised where nothing is handled, with its context told; defs that are called within an except suite. -/
namespace Fc
open PySem PySem.Spec PyProof.Rows L2 L2H
section
variable {X : Cx} {CX : CXT} {k : Nat} {C fI : Addr} {fd : FuncData} {ps : List Str} {sp : Sp} {x : Str} {p pos : Pos} {e : Expr} {es : List Expr} {ta : TA}
/-- the new exception as the own __init__ finds it -/
theorem fresh_exc {pins : List (Addr × Obj)} {sl : L2.St} {H : Hp} {hp : Heap} {g : Array GenState} {dr : Drawn} {tk : Nat} {os : OsState} (I : Inv X pins sl H ⟨hp, g, dr, tk, os⟩) (us : List Value) :
    let h2 := (hp.push (PySem.W.kdv_tup us)).push (PySem.HandSPX.excO C hp.objs.size)
    (∀ b o, hp.get? b = some o → h2.get? b = some o) ∧ Inv X pins sl (upd H (hp.objs.size + 1) (exo (hp.objs.size + 1) C none)) ⟨h2, g, dr, tk, os⟩ := by
  have kp : ∀ b o, hp.get? b = some o → ((hp.push (PySem.W.kdv_tup us)).push (PySem.HandSPX.excO C hp.objs.size)).get? b = some o :=
    fun b o z => Heap.get?_push_of_some _ (Heap.get?_push_of_some _ z)
  have at_ : ((hp.push (PySem.W.kdv_tup us)).push (PySem.HandSPX.excO C hp.objs.size)).get? (hp.objs.size + 1) = some (PySem.HandSPX.excO C hp.objs.size) := by
    heap_get
  exact ⟨kp, I.laid (t' := tk) (a := hp.objs.size + 1) (o := exo (hp.objs.size + 1) C none) kp (Nat.le_succ _) (exo_ok at_)⟩
theorem pmk_oexN (T : OexC X.K C) (iC : PySem.W.findIn X.K (.ref C) "__init__" = some (some (.ref fI))) (tI : PySem.W.typeIn X.K (.ref fI) = some (.type "function")) (G : FnOk X.prog X.w X.K X.mg X.base CX k fI fd ps sp) (room : Room (k + 1) X.A)
    (bnd : Binds X.K fd ps []) (px : Passes CX X (fun _ _ _ => False)) (gl : Gl X x) (at_ : X.mg x = some (.ref C)) (args : PA X (e :: es) ta) (nd : (x == ("__debug__" : Str)) = false := by decide)
    (st : starEach (e :: es) X.env = (false, eval e X.env) :: starEach es X.env := by rfl) (pl : (backTo pos (starEach es X.env)).any (·.1) = false := by rfl) : L2N.PMk X (.Call (.Name x p) (e :: es) [] pos) (tMkO C sp [] ta) := fun pins s0 sl H0 Qx I0 want => by
  obtain ⟨_, _, _, _, bm, _, _, _, _, _, _, _, _, _, _, cls, ve⟩ := T.cls
  refine wpAny_Call_Name_kw (ld_glob I0 gl at_ (PySem.W.callWith_K (h₀ := X.base) I0.ok.mod.kin T.kC (thn (args.run pos pins s0 sl H0 _ I0 want) fun us s1 got => ?_) st pl) nd)
  obtain ⟨vs, H1, I1, rel, many, go⟩ := got
  refine ⟨I1.kIn, ?_⟩
  obtain ⟨hp, g, dr, tk, os⟩ := s1
  obtain ⟨kp, I2⟩ := fresh_exc (C := C) I1 us
  have go' := go (hp.objs.size + 1) (I1.hok.fresh (Nat.le_succ _))
  rw [List.append_nil] at go'
  have rel2 : Vals (V.ref (hp.objs.size + 1) :: vs) (Value.ref (hp.objs.size + 1) :: us) := .cons rfl rel
  have len2 : (Value.ref (hp.objs.size + 1) :: us ++ []).length = ps.length := by
    rw [List.append_nil, ← rel2.length]
    exact G.len _ _ _ _ go'
  have few : us.length ≤ sizeLine := by
    have := Paired.length rel
    rw [sizeLine_eq]
    omega
  have bd := bnd _ (Value.ref (hp.objs.size + 1) :: us) I2.kIn len2
  rw [List.append_nil] at bd
  have run := G.run _ X.stack _ _ ⟨Value.ref (hp.objs.size + 1) :: us, []⟩ (Value.ref (hp.objs.size + 1) :: us) _ _ (fun _ _ _ => False) (room.make C us []) (I2.env0.make C us []) bd rel2 go'
  refine wpAny_call (PySem.HandSPX.call_own F.excBase_ValueError (fun Y => PySem.HandSPX.refsVE_contains Y bm ve) (I1.kIn _ _ cls) (PySem.W.looks_findIn I1.kIn iC) (fun self => PySem.W.bind_fn I1.kIn self tI) few (codeAny_mono run fun r s' out => ?_))
  match r, out with
  | .error er, out => exact px pins sl _ _ er s' I2 out
  | .ok (.ret u), ⟨v, H2, os2, bare2, un2, hok2, rv, ev, d, fs, ea, ed, hd1, q2⟩ =>
    subst ev
    obtain ⟨h2, g2, d2, t2, os'⟩ := s'
    obtain ⟨t0, Gh, J, kG, ge, hoe, na⟩ := mk_end0 (d2 := d2) (t2 := t2) I1 (Nat.le_succ _) kp un2 hok2 os2 bare2 ea ed hd1
    exact ⟨rv, hp.objs.size + 1, _, _, ⟨Gh, g2, d2, t2, os'⟩, _, .ref C, some d, rfl, J, kG, ge, hoe, ⟨rfl, rfl, fun vs hv => by cases hv; rfl⟩, rfl, rfl, na, rfl, bare2, raises_own T.exC T.tyC, q2⟩
  | .ok .next, out => exact out.elim
  | .ok .brk, out => exact out.elim
  | .ok .cont, out => exact out.elim
end
theorem passLN {X : Cx} : Passes (L2N.CX X.prog X.w) X E0 := fun _ _ _ _ _ _ _ h => by
  rcases h with ⟨_, _, _, _, _, _, _, _, _, _, _, _, z⟩
  exact False.elim z
theorem takes0N {X : Cx} : L2N.Takes X (fun _ _ _ _ => False) := fun _ _ h => by
  rcases h with ⟨_, _, _, _, _, _, _, _, _, _, _, _, _, _, _, _, z⟩
  exact False.elim z
section
variable {P : Program} {w : World} {K : PySem.W.Frag} {mg : Str → Option Value} {base : Heap} {x qual : Str} {st : Stmt} {f : Addr} {fd : FuncData} {N ps : List Str} {k : Nat} {sp : Sp}
/-- a def that raises, the context of what it raises told -/
theorem fun_okN (D : Fun K x qual st f fd) (S : FnScope N ps (defScope st)) (len : ∀ vs H Q E, sp vs H Q E → vs.length = ps.length)
    (body : ∀ (cdv : Value) (A : Around) (outer : List Env) (s : Shared) (H : Hp) (vs : List V) (Q : VK) (E : XK), Room k (A.deeper (envOfC qual (defScope st) s.heap.objs.size f cdv)) → sp vs H Q E →
      ∃ t, PSs (cxOf (L2N.CX P w) P w K mg base N qual (defScope st) f cdv A outer s H E) (defBody st) t ∧ t { nx := fun _ H' => Q .non H', rt := Q } (L2.start N vs) H) : FnOk P w K mg base (L2N.CX P w) (k + 1) f fd ps sp := by
  obtain ⟨_, _, _, _, _, _, cdv, _, _, rfl, lk, cd⟩ := D.ex
  exact fn_of lk cd S len fun A outer s H vs Q E room q => body cdv A outer s H vs Q E room q
/-- a def that is called within an except suite -/
theorem fun_okH (D : Fun K x qual st f fd) (S : FnScope N ps (defScope st)) (len : ∀ vs H Q E, sp vs H Q E → vs.length = ps.length)
    (body : ∀ (cdv : Value) (A : Around) (outer : List Env) (s : Shared) (H : Hp) (vs : List V) (Q : VK) (E : XK) (p : Addr × Obj), RoomH k (A.deeper (envOfC qual (defScope st) s.heap.objs.size f cdv)) →
      HotC (cxH CX0 P w K mg base N qual (defScope st) f cdv A outer s H E p) → sp vs H Q E →
      ∃ t, PSs (cxH CX0 P w K mg base N qual (defScope st) f cdv A outer s H E p) (defBody st) t ∧ t { nx := fun _ H' => Q .non H', rt := Q } (L2.start N vs) H) : FnH P w K mg base CX0 (k + 1) f fd ps sp := by
  obtain ⟨_, _, _, _, _, _, cdv, _, _, rfl, lk, cd⟩ := D.ex
  exact fn_ofH lk cd S len fun A outer s H vs Q E p hot room q => body cdv A outer s H vs Q E p room ⟨p, ⟨hot.1, hot.2⟩, List.mem_cons_self⟩ q
end
theorem _root_.L2H.RoomH.u64 {k : Nat} {A : Around} (r : RoomH k A) : A.units + 64 < cLine := by
  have := r.un
  omega
theorem passH {X : Cx} : ∀ sl, PassesAt CX0 X sl E0 := fun _ _ _ _ _ _ _ h => h.elim
/-- the suite of a caught error whose context is None -/
theorem hot_suite {X : Cx} {a : Addr} {oe : Obj} {pn : List (Addr × Obj)} {cls : Value} {d : Option Addr} (hz : L2N.Zn cls d oe) (hf : ∃ vs, oe.data = .fields vs) : HotC (X.suite a ((a, oe) :: pn)) := by
  obtain ⟨vs, h⟩ := hf
  exact ⟨(a, oe), ⟨rfl, vs, h, hz.2.2 vs h⟩, List.mem_cons_self⟩
end Fc
set_option Elab.async false
set_option linter.all false
set_option maxRecDepth 100000
set_option maxHeartbeats 4000000
set_option exponentiation.threshold 100000
namespace Fc
open PySem PySem.Spec PyProof.Rows L2 L2H
/-! ### the text -/
def top (i : Nat) : Stmt := PySem.Challenge.pw_fewcarry_k06_span_order.main.body.getD i (.Pass ⟨0, 0, 0, 0⟩)
abbrev S_cross : Stmt := inClass (top 7) 0
abbrev N_cross : List Str := ["self", "low", "high"]
theorem sc_cross : FnScope N_cross ["self", "low", "high"] (defScope S_cross) := ⟨rfl, rfl, rfl, by decide +kernel, rfl, by decide +kernel, by decide +kernel⟩
abbrev S_init : Stmt := inClass (top 17) 0
abbrev N_init : List Str := ["self", "top", "bottom", "divisor"]
theorem sc_init : FnScope N_init ["self", "top", "bottom"] (defScope S_init) := ⟨rfl, rfl, rfl, by decide +kernel, rfl, by decide +kernel, by decide +kernel⟩
abbrev S_sub : Stmt := inClass (top 17) 3
abbrev N_sub : List Str := ["self", "other", "top"]
theorem sc_sub : FnScope N_sub ["self", "other"] (defScope S_sub) := ⟨rfl, rfl, rfl, by decide +kernel, rfl, by decide +kernel, by decide +kernel⟩
abbrev S_eq : Stmt := inClass (top 17) 8
abbrev N_eq : List Str := ["self", "other"]
theorem sc_eq : FnScope N_eq ["self", "other"] (defScope S_eq) := ⟨rfl, rfl, rfl, by decide +kernel, rfl, by decide +kernel, by decide +kernel⟩
abbrev S_compare : Stmt := inClass (top 17) 11
abbrev N_compare : List Str := ["self", "other", "left", "right"]
theorem sc_compare : FnScope N_compare ["self", "other"] (defScope S_compare) := ⟨rfl, rfl, rfl, by decide +kernel, rfl, by decide +kernel, by decide +kernel⟩
abbrev S_rtext : Stmt := inClass (top 17) 15
abbrev N_rtext : List Str := ["self"]
theorem sc_rtext : FnScope N_rtext ["self"] (defScope S_rtext) := ⟨rfl, rfl, rfl, by decide +kernel, rfl, by decide +kernel, by decide +kernel⟩
abbrev S_sinit : Stmt := inClass (top 19) 0
abbrev N_sinit : List Str := ["self", "low", "high"]
theorem sc_sinit : FnScope N_sinit ["self", "low", "high"] (defScope S_sinit) := ⟨rfl, rfl, rfl, by decide +kernel, rfl, by decide +kernel, by decide +kernel⟩
abbrev S_point : Stmt := inClass (top 19) 1
abbrev N_point : List Str := ["ratio"]
theorem sc_point : FnScope N_point ["ratio"] (defScope S_point) := ⟨rfl, rfl, rfl, by decide +kernel, rfl, by decide +kernel, by decide +kernel⟩
abbrev S_sand : Stmt := inClass (top 19) 6
abbrev N_sand : List Str := ["self", "other", "low", "high"]
theorem sc_sand : FnScope N_sand ["self", "other"] (defScope S_sand) := ⟨rfl, rfl, rfl, by decide +kernel, rfl, by decide +kernel, by decide +kernel⟩
abbrev S_seq : Stmt := inClass (top 19) 7
abbrev N_seq : List Str := ["self", "other"]
theorem sc_seq : FnScope N_seq ["self", "other"] (defScope S_seq) := ⟨rfl, rfl, rfl, by decide +kernel, rfl, by decide +kernel, by decide +kernel⟩
abbrev S_scontains : Stmt := inClass (top 19) 8
abbrev N_scontains : List Str := ["self", "x"]
theorem sc_scontains : FnScope N_scontains ["self", "x"] (defScope S_scontains) := ⟨rfl, rfl, rfl, by decide +kernel, rfl, by decide +kernel, by decide +kernel⟩
abbrev S_length : Stmt := inClass (top 19) 12
abbrev N_length : List Str := ["self"]
theorem sc_length : FnScope N_length ["self"] (defScope S_length) := ⟨rfl, rfl, rfl, by decide +kernel, rfl, by decide +kernel, by decide +kernel⟩
abbrev S_atmost : Stmt := inClass (top 19) 13
abbrev N_atmost : List Str := ["self", "other"]
theorem sc_atmost : FnScope N_atmost ["self", "other"] (defScope S_atmost) := ⟨rfl, rfl, rfl, by decide +kernel, rfl, by decide +kernel, by decide +kernel⟩
abbrev S_stext : Stmt := inClass (top 19) 14
abbrev N_stext : List Str := ["self"]
theorem sc_stext : FnScope N_stext ["self"] (defScope S_stext) := ⟨rfl, rfl, rfl, by decide +kernel, rfl, by decide +kernel, by decide +kernel⟩
abbrev S_lesser : Stmt := top 10
abbrev N_lesser : List Str := ["a", "b"]
theorem sc_lesser : FnScope N_lesser ["a", "b"] (defScope S_lesser) := ⟨rfl, rfl, rfl, by decide +kernel, rfl, by decide +kernel, by decide +kernel⟩
abbrev S_greater : Stmt := top 11
abbrev N_greater : List Str := ["a", "b"]
theorem sc_greater : FnScope N_greater ["a", "b"] (defScope S_greater) := ⟨rfl, rfl, rfl, by decide +kernel, rfl, by decide +kernel, by decide +kernel⟩
abbrev S_start : Stmt := top 22
abbrev N_start : List Str := ["script", "cell"]
theorem sc_start : FnScope N_start ["script"] (defScope S_start) := ⟨rfl, rfl, rfl, by decide +kernel, rfl, by decide +kernel, by decide +kernel⟩
abbrev S_digit : Stmt := top 23
abbrev N_digit : List Str := ["pot", "many", "digit"]
theorem sc_digit : FnScope N_digit ["pot", "many"] (defScope S_digit) := ⟨rfl, rfl, rfl, by decide +kernel, rfl, by decide +kernel, by decide +kernel⟩
abbrev S_fraction : Stmt := top 24
abbrev N_fraction : List Str := ["pot", "kind", "top"]
theorem sc_fraction : FnScope N_fraction ["pot"] (defScope S_fraction) := ⟨rfl, rfl, rfl, by decide +kernel, rfl, by decide +kernel, by decide +kernel⟩
abbrev S_less : Stmt := top 25
abbrev N_less : List Str := ["p", "q"]
theorem sc_less : FnScope N_less ["p", "q"] (defScope S_less) := ⟨rfl, rfl, rfl, by decide +kernel, rfl, by decide +kernel, by decide +kernel⟩
abbrev S_plus : Stmt := top 26
abbrev N_plus : List Str := ["p", "q"]
theorem sc_plus : FnScope N_plus ["p", "q"] (defScope S_plus) := ⟨rfl, rfl, rfl, by decide +kernel, rfl, by decide +kernel, by decide +kernel⟩
abbrev S_minus : Stmt := top 27
abbrev N_minus : List Str := ["p", "q"]
theorem sc_minus : FnScope N_minus ["p", "q"] (defScope S_minus) := ⟨rfl, rfl, rfl, by decide +kernel, rfl, by decide +kernel, by decide +kernel⟩
abbrev S_ends : Stmt := top 28
abbrev N_ends : List Str := ["pot", "kind", "p", "q"]
theorem sc_ends : FnScope N_ends ["pot"] (defScope S_ends) := ⟨rfl, rfl, rfl, by decide +kernel, rfl, by decide +kernel, by decide +kernel⟩
abbrev S_between : Stmt := top 29
abbrev N_between : List Str := ["pot", "s", "sixths", "way"]
theorem sc_between : FnScope N_between ["pot", "s"] (defScope S_between) := ⟨rfl, rfl, rfl, by decide +kernel, rfl, by decide +kernel, by decide +kernel⟩
abbrev S_second : Stmt := top 30
abbrev N_second : List Str := ["pot", "s", "step", "kind", "q", "low", "x"]
theorem sc_second : FnScope N_second ["pot", "s", "step"] (defScope S_second) := ⟨rfl, rfl, rfl, by decide +kernel, rfl, by decide +kernel, by decide +kernel⟩
abbrev S_lowest : Stmt := top 31
abbrev N_lowest : List Str := ["p", "u", "v", "k", "rest"]
theorem sc_lowest : FnScope N_lowest ["p"] (defScope S_lowest) := ⟨rfl, rfl, rfl, by decide +kernel, rfl, by decide +kernel, by decide +kernel⟩
abbrev S_written : Stmt := top 32
abbrev N_written : List Str := ["p"]
theorem sc_written : FnScope N_written ["p"] (defScope S_written) := ⟨rfl, rfl, rfl, by decide +kernel, rfl, by decide +kernel, by decide +kernel⟩
abbrev S_equals : Stmt := top 33
abbrev N_equals : List Str := ["told", "p"]
theorem sc_equals : FnScope N_equals ["told", "p"] (defScope S_equals) := ⟨rfl, rfl, rfl, by decide +kernel, rfl, by decide +kernel, by decide +kernel⟩
abbrev S_isspan : Stmt := top 34
abbrev N_isspan : List Str := ["told", "low", "high"]
theorem sc_isspan : FnScope N_isspan ["told", "low", "high"] (defScope S_isspan) := ⟨rfl, rfl, rfl, by decide +kernel, rfl, by decide +kernel, by decide +kernel⟩
abbrev S_order : Stmt := top 35
abbrev N_order : List Str := ["a", "b", "s", "t", "told"]
theorem sc_order : FnScope N_order ["a", "b", "s", "t"] (defScope S_order) := ⟨rfl, rfl, rfl, by decide +kernel, rfl, by decide +kernel, by decide +kernel⟩
abbrev S_lapart : Stmt := top 36
abbrev N_lapart : List Str := ["a", "b", "told", "e"]
theorem sc_lapart : FnScope N_lapart ["a", "b"] (defScope S_lapart) := ⟨rfl, rfl, rfl, by decide +kernel, rfl, by decide +kernel, by decide +kernel⟩
abbrev S_common : Stmt := top 37
abbrev N_common : List Str := ["a", "b", "s", "t", "low", "high"]
theorem sc_common : FnScope N_common ["a", "b", "s", "t"] (defScope S_common) := ⟨rfl, rfl, rfl, by decide +kernel, rfl, by decide +kernel, by decide +kernel⟩
abbrev S_same : Stmt := top 38
abbrev N_same : List Str := ["a", "b", "s", "t", "due"]
theorem sc_same : FnScope N_same ["a", "b", "s", "t"] (defScope S_same) := ⟨rfl, rfl, rfl, by decide +kernel, rfl, by decide +kernel, by decide +kernel⟩
abbrev S_two : Stmt := top 39
abbrev N_two : List Str := ["a", "b", "s", "t"]
theorem sc_two : FnScope N_two ["a", "b", "s", "t"] (defScope S_two) := ⟨rfl, rfl, rfl, by decide +kernel, rfl, by decide +kernel, by decide +kernel⟩
abbrev S_lcontains : Stmt := top 40
abbrev N_lcontains : List Str := ["a", "s", "p"]
theorem sc_lcontains : FnScope N_lcontains ["a", "s", "p"] (defScope S_lcontains) := ⟨rfl, rfl, rfl, by decide +kernel, rfl, by decide +kernel, by decide +kernel⟩
abbrev S_crossed : Stmt := top 41
abbrev N_crossed : List Str := ["low", "high", "e"]
theorem sc_crossed : FnScope N_crossed ["low", "high"] (defScope S_crossed) := ⟨rfl, rfl, rfl, by decide +kernel, rfl, by decide +kernel, by decide +kernel⟩
abbrev S_alone : Stmt := top 42
abbrev N_alone : List Str := ["a", "s", "step", "row", "text", "other", "p"]
theorem sc_alone : FnScope N_alone ["a", "s", "step"] (defScope S_alone) := ⟨rfl, rfl, rfl, by decide +kernel, rfl, by decide +kernel, by decide +kernel⟩
abbrev S_law : Stmt := top 43
abbrev N_law : List Str := ["script", "pot", "s", "step", "t", "x", "y", "a", "b", "p"]
theorem sc_law : FnScope N_law ["script"] (defScope S_law) := ⟨rfl, rfl, rfl, by decide +kernel, rfl, by decide +kernel, by decide +kernel⟩
structure Ad where
  C : Addr
  f_init : Addr
  d_init : FuncData
  Z : Addr
  S : Addr
  CE : Addr
  Ap : Addr
  Cr : Addr
  f_cross : Addr
  d_cross : FuncData
  f_sub : Addr
  d_sub : FuncData
  f_eq : Addr
  d_eq : FuncData
  f_compare : Addr
  d_compare : FuncData
  f_rtext : Addr
  d_rtext : FuncData
  f_sinit : Addr
  d_sinit : FuncData
  f_point : Addr
  d_point : FuncData
  f_sand : Addr
  d_sand : FuncData
  f_seq : Addr
  d_seq : FuncData
  f_scontains : Addr
  d_scontains : FuncData
  f_length : Addr
  d_length : FuncData
  f_atmost : Addr
  d_atmost : FuncData
  f_stext : Addr
  d_stext : FuncData
  f_lesser : Addr
  d_lesser : FuncData
  f_greater : Addr
  d_greater : FuncData
  f_start : Addr
  d_start : FuncData
  f_digit : Addr
  d_digit : FuncData
  f_fraction : Addr
  d_fraction : FuncData
  f_less : Addr
  d_less : FuncData
  f_plus : Addr
  d_plus : FuncData
  f_minus : Addr
  d_minus : FuncData
  f_ends : Addr
  d_ends : FuncData
  f_between : Addr
  d_between : FuncData
  f_second : Addr
  d_second : FuncData
  f_lowest : Addr
  d_lowest : FuncData
  f_written : Addr
  d_written : FuncData
  f_equals : Addr
  d_equals : FuncData
  f_isspan : Addr
  d_isspan : FuncData
  f_order : Addr
  d_order : FuncData
  f_lapart : Addr
  d_lapart : FuncData
  f_common : Addr
  d_common : FuncData
  f_same : Addr
  d_same : FuncData
  f_two : Addr
  d_two : FuncData
  f_lcontains : Addr
  d_lcontains : FuncData
  f_crossed : Addr
  d_crossed : FuncData
  f_alone : Addr
  d_alone : FuncData
  f_law : Addr
  d_law : FuncData
structure Txt (K : PySem.W.Frag) (mg : Str → Option Value) (A : Ad) : Prop where
  hn : PySem.W.specialIn K (.builtin "object.__class__") "__get__" = some (some (.builtin "getset_descriptor.__get__"))
  htk : PySem.W.takesIn K (.builtin "object.__class__") = some true
  cl : Cls K A.C
  nT : NoAttr K A.C "top"
  nB : NoAttr K A.C "bottom"
  mkC : Mk K A.C A.f_init
  ha : PySem.W.findIn K (.ref A.C) "__class__" = some (some (.builtin "object.__class__"))
  hm : PySem.W.mroIn K A.C (.type "object") = some true
  F_init : FunD K "__init__" "Ratio.__init__" (defArgs S_init) (defBody S_init) (defScope S_init) [.int 1] [] A.f_init A.d_init
  b_init3 : Binds K A.d_init ["self", "top", "bottom"] []
  b_init2 : ∃ ds, Vals [V.int 1] ds ∧ Binds K A.d_init ["self", "top", "bottom"] ds
  g_Ratio : mg "Ratio" = some (.ref A.C)
  g_gcd : mg "gcd" = some (.builtin "math.gcd")
  sf : PySem.W.selfFirst K A.C = true
  g_Z : mg "ZeroBottom" = some (.ref A.Z)
  xZ : PySem.W.excIn K A.Z [.type "ValueError", .type "Exception", .type "BaseException", .type "object"] "ValueError.__new__" = true
  kZ : PySem.W.keepIn K (.ref A.Z) = true
  bZ : PySem.W.subIn K (.ref A.Z) (.type "BaseException") = some true
  tZ : PySem.W.typeIn K (.ref A.Z) = some (.type "type")
  tyC : PySem.W.typeIn K (.ref A.C) = some (.type "type")
  sub : ∀ t, t ∈ ["int", "str", "NoneType", "tuple", "list"] → PySem.W.subIn K (.type t) (.ref A.C) = some false ∧ PySem.W.subIn K (.ref A.C) (.type t) = some false
  cS : Cls K A.S
  nL : NoAttr K A.S "low"
  nH : NoAttr K A.S "high"
  mkS : Mk K A.S A.f_sinit
  sfS : PySem.W.selfFirst K A.S = true
  haS : PySem.W.findIn K (.ref A.S) "__class__" = some (some (.builtin "object.__class__"))
  hmS : PySem.W.mroIn K A.S (.type "object") = some true
  g_Span : mg "Span" = some (.ref A.S)
  g_CE : mg "CarryError" = some (.ref A.CE)
  g_Ap : mg "Apart" = some (.ref A.Ap)
  x_Ap : PySem.W.excIn K A.Ap [.type "ValueError", .type "Exception", .type "BaseException", .type "object"] "ValueError.__new__" = true
  k_Ap : PySem.W.keepIn K (.ref A.Ap) = true
  bs_Ap : PySem.W.subIn K (.ref A.Ap) (.type "BaseException") = some true
  t_Ap : PySem.W.typeIn K (.ref A.Ap) = some (.type "type")
  e_Ap : PySem.W.exmOne K (.ref A.Ap) (.ref A.CE) = some true
  X_Ap : ExcC K A.Ap
  v_Ap : PySem.W.kitOne K (.ref A.Ap) (.type "ValueError") = some true
  g_Cr : mg "Crossed" = some (.ref A.Cr)
  o_Cr : OexC K A.Cr
  in_Cr : PySem.W.findIn K (.ref A.Cr) "__init__" = some (some (.ref A.f_cross))
  ti_Cr : PySem.W.typeIn K (.ref A.f_cross) = some (.type "function")
  xf_Cr : XfC K A.Cr
  e_Cr : PySem.W.exmOne K (.ref A.Cr) (.ref A.CE) = some true
  X_Cr : ExcC K A.Cr
  v_Cr : PySem.W.kitOne K (.ref A.Cr) (.type "ValueError") = some true
  n_Cr_low : PySem.W.findIn K (.ref A.Cr) "low" = some none
  n_Cr_high : PySem.W.findIn K (.ref A.Cr) "high" = some none
  apNc : PySem.W.kitOne K (.ref A.Ap) (.ref A.Cr) = some false
  crNa : PySem.W.kitOne K (.ref A.Cr) (.ref A.Ap) = some false
  tyS : PySem.W.typeIn K (.ref A.S) = some (.type "type")
  subS : ∀ t, t ∈ ["int", "str", "NoneType", "tuple", "list"] → PySem.W.subIn K (.type t) (.ref A.S) = some false ∧ PySem.W.subIn K (.ref A.S) (.type t) = some false
  crS : ClX.CRead K A.S (.type "type")
  rNs : PySem.W.kitOne K (.ref A.C) (.ref A.S) = some false
  sNr : PySem.W.kitOne K (.ref A.S) (.ref A.C) = some false
  nfSR : PySem.W.notFirst K A.S (.ref A.C) = true
  nfRS : PySem.W.notFirst K A.C (.ref A.S) = true
  n_len : mg "len" = none
  n_abs : mg "abs" = none
  n_int : mg "int" = none
  n_bool : mg "bool" = none
  n_isinstance : mg "isinstance" = none
  n_range : mg "range" = none
  n_ValueError : mg "ValueError" = none
  n_str : mg "str" = none
  F_cross : Fun K "__init__" "Crossed.__init__" S_cross A.f_cross A.d_cross
  b_cross : Binds K A.d_cross ["self", "low", "high"] []
  m_cross : Meth K A.Cr "__init__" A.f_cross
  F_sub : Fun K "__sub__" "Ratio.__sub__" S_sub A.f_sub A.d_sub
  b_sub : Binds K A.d_sub ["self", "other"] []
  m_sub : Meth K A.C "__sub__" A.f_sub
  F_eq : Fun K "__eq__" "Ratio.__eq__" S_eq A.f_eq A.d_eq
  b_eq : Binds K A.d_eq ["self", "other"] []
  m_eq : Meth K A.C "__eq__" A.f_eq
  F_compare : Fun K "compare" "Ratio.compare" S_compare A.f_compare A.d_compare
  b_compare : Binds K A.d_compare ["self", "other"] []
  m_compare : Meth K A.C "compare" A.f_compare
  F_rtext : Fun K "text" "Ratio.text" S_rtext A.f_rtext A.d_rtext
  b_rtext : Binds K A.d_rtext ["self"] []
  m_rtext : Meth K A.C "text" A.f_rtext
  F_sinit : Fun K "__init__" "Span.__init__" S_sinit A.f_sinit A.d_sinit
  b_sinit : Binds K A.d_sinit ["self", "low", "high"] []
  m_sinit : Meth K A.S "__init__" A.f_sinit
  F_point : Fun K "point" "Span.point" S_point A.f_point A.d_point
  b_point : Binds K A.d_point ["ratio"] []
  p_point : ∃ p, SMet K A.S (.type "type") "point" p A.f_point
  F_sand : Fun K "__and__" "Span.__and__" S_sand A.f_sand A.d_sand
  b_sand : Binds K A.d_sand ["self", "other"] []
  m_sand : Meth K A.S "__and__" A.f_sand
  F_seq : Fun K "__eq__" "Span.__eq__" S_seq A.f_seq A.d_seq
  b_seq : Binds K A.d_seq ["self", "other"] []
  m_seq : Meth K A.S "__eq__" A.f_seq
  F_scontains : Fun K "__contains__" "Span.__contains__" S_scontains A.f_scontains A.d_scontains
  b_scontains : Binds K A.d_scontains ["self", "x"] []
  m_scontains : Meth K A.S "__contains__" A.f_scontains
  F_length : Fun K "length" "Span.length" S_length A.f_length A.d_length
  b_length : Binds K A.d_length ["self"] []
  m_length : Meth K A.S "length" A.f_length
  F_atmost : Fun K "at_most" "Span.at_most" S_atmost A.f_atmost A.d_atmost
  b_atmost : Binds K A.d_atmost ["self", "other"] []
  m_atmost : Meth K A.S "at_most" A.f_atmost
  F_stext : Fun K "text" "Span.text" S_stext A.f_stext A.d_stext
  b_stext : Binds K A.d_stext ["self"] []
  m_stext : Meth K A.S "text" A.f_stext
  F_lesser : Fun K "lesser" "lesser" S_lesser A.f_lesser A.d_lesser
  b_lesser : Binds K A.d_lesser ["a", "b"] []
  g_lesser : mg "lesser" = some (.ref A.f_lesser)
  F_greater : Fun K "greater" "greater" S_greater A.f_greater A.d_greater
  b_greater : Binds K A.d_greater ["a", "b"] []
  g_greater : mg "greater" = some (.ref A.f_greater)
  F_start : Fun K "_law_start" "_law_start" S_start A.f_start A.d_start
  b_start : Binds K A.d_start ["script"] []
  g_start : mg "_law_start" = some (.ref A.f_start)
  F_digit : Fun K "_law_digit" "_law_digit" S_digit A.f_digit A.d_digit
  b_digit : Binds K A.d_digit ["pot", "many"] []
  g_digit : mg "_law_digit" = some (.ref A.f_digit)
  F_fraction : Fun K "_law_fraction" "_law_fraction" S_fraction A.f_fraction A.d_fraction
  b_fraction : Binds K A.d_fraction ["pot"] []
  g_fraction : mg "_law_fraction" = some (.ref A.f_fraction)
  F_less : Fun K "_law_less" "_law_less" S_less A.f_less A.d_less
  b_less : Binds K A.d_less ["p", "q"] []
  g_less : mg "_law_less" = some (.ref A.f_less)
  F_plus : Fun K "_law_plus" "_law_plus" S_plus A.f_plus A.d_plus
  b_plus : Binds K A.d_plus ["p", "q"] []
  g_plus : mg "_law_plus" = some (.ref A.f_plus)
  F_minus : Fun K "_law_minus" "_law_minus" S_minus A.f_minus A.d_minus
  b_minus : Binds K A.d_minus ["p", "q"] []
  g_minus : mg "_law_minus" = some (.ref A.f_minus)
  F_ends : Fun K "_law_ends" "_law_ends" S_ends A.f_ends A.d_ends
  b_ends : Binds K A.d_ends ["pot"] []
  g_ends : mg "_law_ends" = some (.ref A.f_ends)
  F_between : Fun K "_law_between" "_law_between" S_between A.f_between A.d_between
  b_between : Binds K A.d_between ["pot", "s"] []
  g_between : mg "_law_between" = some (.ref A.f_between)
  F_second : Fun K "_law_second" "_law_second" S_second A.f_second A.d_second
  b_second : Binds K A.d_second ["pot", "s", "step"] []
  g_second : mg "_law_second" = some (.ref A.f_second)
  F_lowest : Fun K "_law_lowest" "_law_lowest" S_lowest A.f_lowest A.d_lowest
  b_lowest : Binds K A.d_lowest ["p"] []
  g_lowest : mg "_law_lowest" = some (.ref A.f_lowest)
  F_written : Fun K "_law_written" "_law_written" S_written A.f_written A.d_written
  b_written : Binds K A.d_written ["p"] []
  g_written : mg "_law_written" = some (.ref A.f_written)
  F_equals : Fun K "_law_equals" "_law_equals" S_equals A.f_equals A.d_equals
  b_equals : Binds K A.d_equals ["told", "p"] []
  g_equals : mg "_law_equals" = some (.ref A.f_equals)
  F_isspan : Fun K "_law_is_span" "_law_is_span" S_isspan A.f_isspan A.d_isspan
  b_isspan : Binds K A.d_isspan ["told", "low", "high"] []
  g_isspan : mg "_law_is_span" = some (.ref A.f_isspan)
  F_order : Fun K "_law_order" "_law_order" S_order A.f_order A.d_order
  b_order : Binds K A.d_order ["a", "b", "s", "t"] []
  g_order : mg "_law_order" = some (.ref A.f_order)
  F_lapart : Fun K "_law_apart" "_law_apart" S_lapart A.f_lapart A.d_lapart
  b_lapart : Binds K A.d_lapart ["a", "b"] []
  g_lapart : mg "_law_apart" = some (.ref A.f_lapart)
  F_common : Fun K "_law_common" "_law_common" S_common A.f_common A.d_common
  b_common : Binds K A.d_common ["a", "b", "s", "t"] []
  g_common : mg "_law_common" = some (.ref A.f_common)
  F_same : Fun K "_law_same" "_law_same" S_same A.f_same A.d_same
  b_same : Binds K A.d_same ["a", "b", "s", "t"] []
  g_same : mg "_law_same" = some (.ref A.f_same)
  F_two : Fun K "_law_two" "_law_two" S_two A.f_two A.d_two
  b_two : Binds K A.d_two ["a", "b", "s", "t"] []
  g_two : mg "_law_two" = some (.ref A.f_two)
  F_lcontains : Fun K "_law_contains" "_law_contains" S_lcontains A.f_lcontains A.d_lcontains
  b_lcontains : Binds K A.d_lcontains ["a", "s", "p"] []
  g_lcontains : mg "_law_contains" = some (.ref A.f_lcontains)
  F_crossed : Fun K "_law_crossed" "_law_crossed" S_crossed A.f_crossed A.d_crossed
  b_crossed : Binds K A.d_crossed ["low", "high"] []
  g_crossed : mg "_law_crossed" = some (.ref A.f_crossed)
  F_alone : Fun K "_law_alone" "_law_alone" S_alone A.f_alone A.d_alone
  b_alone : Binds K A.d_alone ["a", "s", "step"] []
  g_alone : mg "_law_alone" = some (.ref A.f_alone)
  F_law : Fun K "law" "law" S_law A.f_law A.d_law
  b_law : Binds K A.d_law ["script"] []
  g_law : mg "law" = some (.ref A.f_law)
section
variable {P : Program} {w : World} {K : PySem.W.Frag} {mg : Str → Option Value} {base : Heap} {A : Ad}
/-! ### Ratio.__init__: raises for a bottom 0, else lowest terms -/
def spInit (A : Ad) : Sp := fun vs H Q E => ∃ (x dx : Addr) (t b : Int), vs = [.ref x, .int t, .int b] ∧ H x = some (.ins A.C dx []) ∧ (b = 0 → E (.ref A.Z) none H) ∧
  (b ≠ 0 → Bd 8900 b ∧ ∀ H', RatAt A.C H' x (lo t b) → (∀ c o, H c = some o → c ≠ x → H' c = some o) → Q .non H')
theorem ok_init (T : Txt K mg A) : FnOk P w K mg base (L2.CX P w) 1 A.f_init A.d_init ["self", "top", "bottom"] (spInit A) := by
  refine T.F_init.ok sc_init (fun vs H Q E h => ?_) (fun cdv Ar outer s H vs Q E hr h => ?_)
  · obtain ⟨x, dx, t, b, rfl, _⟩ := h
    rfl
  · obtain ⟨x, dx, t, b, rfl, hx, k0, k1⟩ := h
    refine ⟨_, (pss_cons (ps_if (pt_cmpR op_eq (pv 2) pe_int (nomark _))
      (pss_one (ps_raise rfl (takes_of rfl rfl rfl rfl) (pmk_bare PySem.F.excBase_ValueError T.xZ T.g_Z T.kZ (raises_own T.bZ T.tZ) rfl))) pss_nil)
      (pss_cons (ps_set (i := 3) sc_init.nd rfl (Or.inl rfl) (pe_callBfun cr_gcd rfl T.g_gcd (pa_cons (pv 1) (pa_cons (pv 2) pa_nil))))
      (pss_cons (ps_if (pt_cmpR op_lt (pv 2) pe_int (nomark _))
      (pss_one (ps_set (i := 3) sc_init.nd rfl (Or.inl rfl) (pe_un un_neg (pv 3)))) pss_nil)
      (pss_cons (ps_fld (pv 0) (pe_op op_fdv (pv 1) (pv 3)) rfl)
      (pss_one (ps_fld (pv 0) (pe_op op_fdv (pv 2) (pv 3)) rfl)))))), ?_⟩
    refine ⟨_, rfl, rfl, _, rfl, ?_⟩
    by_cases hb : b = 0
    · refine ite2 (fun _ => k0 hb) (fun n => absurd (by rw [hb] <;> rfl) n)
    refine ite2 (fun z => absurd (V.int.inj (of_decide_eq_true z)) hb) (fun _ => ?_)
    obtain ⟨bb, k⟩ := k1 hb
    have g := gcd_pos (t := t) hb
    have gn : ((Nat.gcd t.natAbs b.natAbs : Nat) : Int) = (Int.gcd t b : Int) := rfl
    have gb : Bd 8900 (Int.gcd t b : Int) := by
      refine bb.abs ?_
      have := Nat.le_of_dvd (by omega : 0 < b.natAbs) (Nat.gcd_dvd_right t.natAbs b.natAbs)
      show ((Nat.gcd t.natAbs b.natAbs : Nat) : Int).natAbs ≤ _
      omega
    have lp := lo_prog (t := t) hb
    refine ⟨_, rfl, _, rfl, t, b, rfl, _, rfl, _, _, rfl, rfl, _, rfl, ?_⟩
    have fin : ∀ d : Int, d ≠ 0 → Bd 8900 d → lo t b = (t.fdiv d, b.fdiv d) → ∀ H2 : Hp, H2 = upd (upd H x (.ins A.C dx (putF "top" (.int (t.fdiv d)) []))) x (.ins A.C dx (putF "bottom" (.int (b.fdiv d)) (putF "top" (.int (t.fdiv d)) []))) → Q .non H2 := by
      intro d d0 db e H2 e2
      refine k H2 ⟨dx, ?_⟩ fun c o hc hn => ?_
      · rw [e2, upd_same, rf_put, e]
      · rw [e2, upd_ne hn, upd_ne hn]; exact hc
    refine ite2 (fun c => ?_) (fun c => ?_)
    · have c' : b < 0 := of_decide_eq_true c
      rw [if_pos c'] at lp
      refine ⟨_, rfl, _, rfl, _, rfl, _, rfl, _, _, rfl, rfl, gb.neg.fdv (by omega), _, rfl, x, A.C, dx, _, rfl, hx, T.cl, T.nT, (by show 0 < 1000; decide), ?_⟩
      refine ⟨_, rfl, _, rfl, _, _, rfl, rfl, gb.neg.fdv (by omega), _, rfl, x, A.C, dx, _, rfl, upd_same, T.cl, T.nB, (by show 1 < 1000; decide), ?_⟩
      exact fin _ (by omega) gb.neg lp _ rfl
    · have c' : ¬ b < 0 := fun z => c (decide_eq_true z)
      rw [if_neg c'] at lp
      refine ⟨_, rfl, _, rfl, _, _, rfl, rfl, gb.fdv (by omega), _, rfl, x, A.C, dx, _, rfl, hx, T.cl, T.nT, (by show 0 < 1000; decide), ?_⟩
      refine ⟨_, rfl, _, rfl, _, _, rfl, rfl, gb.fdv (by omega), _, rfl, x, A.C, dx, _, rfl, upd_same, T.cl, T.nB, (by show 1 < 1000; decide), ?_⟩
      exact fin _ (by omega) gb lp _ rfl
/-- Ratio(t, b) read: for b not 0 -/
theorem rd_make {t b : Int} {H : Hp} {Q : VK} {E : XK} (hb : b ≠ 0) (bb : Bd 8900 b) (k : ∀ x H', Ex H H' → H x = none → RatAt A.C H' x (lo t b) → Q (.ref x) H') :
    ∀ x dx, H x = none → H dx = none → dx ≠ x → spInit A [.ref x, .int t, .int b] (upd (upd H dx (.own x)) x (.ins A.C dx [])) (fun v H2 => v = .non ∧ Q (.ref x) H2) E :=
  fun x dx nx nd ne => ⟨x, dx, t, b, rfl, upd_same, fun z => absurd z hb, fun _ => ⟨bb, fun H' r kp => ⟨rfl, k x H' (Same.made nx nd kp) nx r⟩⟩⟩
theorem ok_start (T : Txt K mg A) : FnOk P w K mg base CX0 1 A.f_start A.d_start ["script"] (spStart K) := by
  refine T.F_start.ok sc_start (fun vs H Q E h => ?_) (fun cdv Ar outer s H vs Q E hr h => ?_)
  · obtain ⟨a, ns, rfl, _⟩ := h
    rfl
  · obtain ⟨a, ns, rfl, hS, hl, k⟩ := h
    refine ⟨_, (pss_one (ps_ret (pe_lst (pa_cons (pe_lc (own := [("cell", 1)]) (g := gName 1) (tt := tYes) rfl sc_start.nd (pi_list (pe_slice sl_list (pv 0) po_none (po_some pe_int))) (blkOk_by (own := [("cell", 1)]) (N := N_start) (sc := defScope S_start) (by decide +kernel)) (fun _ _ _ _ _ => pg_name (i := 1) sc_start.nd rfl (Or.inl rfl)) (fun _ _ _ _ _ => pts_nil) (fun _ _ _ _ _ => (pe_callB call_abs (by rfl) T.n_abs (by decide +kernel) (pa_cons (pv 1) pa_nil)))) (pa_cons pe_int (pa_cons pe_int pa_nil)))))), ?_⟩
    obtain ⟨ms, hms, hml⟩ : ∃ ms : List Int, cutV (ns.map V.int) none (some 63) = ms.map V.int ∧ ms.length ≤ 63 := by
      refine ⟨(ns.drop (HT.sIx (ns.map V.int).length 0 none)).take (HT.sIx (ns.map V.int).length (ns.map V.int).length (some 63) - HT.sIx (ns.map V.int).length 0 none), ?_, ?_⟩
      · unfold cutV
        rw [List.map_take, List.map_drop]
      · rw [List.length_take, List.length_drop]
        omega
    refine ⟨_, rfl, _, rfl, a, _, rfl, hS, fun p hp => ⟨p, rfl, ⟨_, SqL.of upd_same⟩, fun D hD => ?_⟩⟩
    rw [hms]
    have hpD : p ≠ D := fun e => by rw [← e, hms, upd_same] at hD; cases hD
    have hD0 : H D = none := by rw [hms, upd_ne hpD.symm] at hD; exact hD
    refine lc_list (K := K) (a := p) (xs := ms.map V.int) (fun i H' => (∃ cs : List Int, H' D = some (.lst (cs.map V.int)) ∧ cs.length = i ∧ (∀ z ∈ cs, 0 ≤ z)) ∧ H' p = some (.lst (ms.map V.int)) ∧ Ex H H')
      ⟨⟨[], upd_same, rfl, fun z hz => by cases hz⟩, ?_, ?_⟩ (fun i H' _ h => SqL.of h.2.1) ?_ ?_
    · rw [upd_ne hpD, upd_same]
    · exact fun c o e => by rw [upd_ne (ne_of_none e hD0), upd_ne (ne_of_none e hp)]; exact e
    · rintro i x H' hx ⟨⟨cs, hcs, hci, hc0⟩, hp', ex⟩
      obtain ⟨z, hz, rfl⟩ : ∃ z, ms[i]? = some z ∧ x = V.int z := by
        rw [List.getElem?_map] at hx
        cases e : ms[i]? with
        | none => rw [e] at hx; cases hx
        | some z => rw [e] at hx; exact ⟨z, rfl, (Option.some.inj hx).symm⟩
      have hi : i < ms.length := (List.getElem?_eq_some_iff.mp hz).1
      refine ⟨rfl, _, rfl, z, rfl, _, hcs, ?_, ⟨⟨cs ++ [if z < 0 then -z else z], ?_, ?_, ?_⟩, ?_, ?_⟩⟩
      · rw [List.length_map, hci, sizeLine_eq]; omega
      · rw [upd_same, List.map_append]; rfl
      · rw [List.length_append, hci]; rfl
      · intro y hy
        rcases List.mem_append.mp hy with h | h
        · exact hc0 y h
        · have : y = if z < 0 then -z else z := by simpa using h
          rw [this]
          split <;> omega
      · rw [upd_ne hpD]; exact hp'
      · exact fun c o e => by rw [upd_ne (ne_of_none e hD0)]; exact ex c o e
    · rintro H' ⟨⟨cs, hcs, hci, hc0⟩, hp', ex⟩
      refine ⟨(by show 3 ≤ sizeLine; exact sz3), fun q hq => ?_⟩
      have nqD : D ≠ q := ne_of_none hcs hq
      refine k q _ ⟨D, cs, 0, 0, nqD.symm, upd_same, by rw [upd_ne nqD]; exact hcs, ?_, by decide, by decide, hc0⟩ (ex.to hq) (ex.free hq)
      rw [List.length_map] at hci
      omega
theorem ok_digit (T : Txt K mg A) : FnOk P w K mg base CX0 1 A.f_digit A.d_digit ["pot", "many"] spDigit := by
  refine T.F_digit.ok sc_digit (fun vs H Q E h => ?_) (fun cdv Ar outer s H vs Q E hr h => ?_)
  · obtain ⟨p, m, rfl, _⟩ := h
    rfl
  · obtain ⟨p, m, rfl, pot, m0, bm, k⟩ := h
    refine ⟨_, (C8.pss_cut (ps_if (PW.pt (pw_and (pt_cmpR op_eq (pe_ix ix_list (pv 0) pe_int (fun _ _ => rfl)) pe_int (nomark _)) (pw_and1 (pt_cmpR op_lt (pe_ix ix_list (pv 0) pe_int (fun _ _ => rfl)) (pe_callB call_len (by rfl) T.n_len PySem.boot_len (pa_cons (pe_ix ix_list (pv 0) pe_int (fun _ _ => rfl)) pa_nil)) (nomark _)))))
      (pss_cons (ps_asg (pe_ix ix_list (pe_ix ix_list (pv 0) pe_int (fun _ _ => rfl)) (pe_ix ix_list (pv 0) pe_int (fun _ _ => rfl)) (fun _ _ => rfl)) (pg_sub (pv 0) pe_int set_list))
      (pss_one (ps_asg (pe_op op_add (pe_ix ix_list (pv 0) pe_int (fun _ _ => rfl)) pe_int) (pg_sub (pv 0) pe_int set_list)))) pss_nil)
      (pss_cons (ps_set (i := 2) sc_digit.nd rfl (Or.inl rfl) (pe_op op_mod (pe_callTy call_int1 (by rfl) T.n_int (by decide +kernel) (pa_cons (pe_ix ix_list (pv 0) pe_int (fun _ _ => rfl)) pa_nil)) (pv 1)))
      (pss_cons (ps_asg (pe_op op_fdivW (pe_ix ix_list (pv 0) pe_int (fun _ _ => rfl)) (pv 1)) (pg_sub (pv 0) pe_int set_list))
      (pss_one (ps_ret (pv 2)))))), ?_⟩
    obtain ⟨l, cs, i, c, ne, h1, h2, hl, i0, c0, hc⟩ := id pot
    refine ⟨fun sl H' => sl = [some (.ref p), some (.int m), none] ∧ PotAt H' p ∧ Keep p H H', ?_, ?_⟩
    · refine ⟨_, rfl, _, _, _, _, rfl, rfl, SqL.of h1, rfl, rfl, _, rfl, ?_⟩
      refine ite2 (fun z => ?_) (fun z => iteF ⟨rfl, pot, Keep.refl⟩)
      refine ⟨_, rfl, _, _, _, _, rfl, rfl, SqL.of h1, rfl, _, rfl, _, _, _, _, rfl, rfl, SqL.of h1, rfl, _, _, rfl, .inl ⟨_, SqL.of h2, rfl⟩, _, _, rfl, rfl, _, rfl, ?_⟩
      refine ite2 (fun z2 => ?_) (fun z2 => ⟨rfl, pot, Keep.refl⟩)
      have hi : i < cs.length := by have := of_decide_eq_true z2; rw [List.length_map] at this; exact this
      obtain ⟨j, rfl⟩ : ∃ j : Nat, i = (j : Int) := ⟨i.toNat, by omega⟩
      have hj : j < cs.length := by omega
      have at_ : (cs.map V.int)[j]? = some (.int cs[j]) := by rw [List.getElem?_map, List.getElem?_eq_getElem hj]; rfl
      refine ⟨_, rfl, _, _, _, _, rfl, rfl, SqL.of h1, rfl, _, rfl, _, _, _, _, rfl, rfl, SqL.of h1, rfl, _, _, _, _, rfl, rfl, SqL.of h2, atI_nat at_, _, rfl, p, _, 2, 2, rfl, rfl, h1, rfl, ?_⟩
      refine ⟨_, rfl, _, _, _, _, rfl, rfl, SqL.of upd_same, rfl, _, _, rfl, rfl, _, rfl, p, _, 1, 1, rfl, rfl, upd_same, rfl, rfl, ?_, ?_⟩
      · refine ⟨l, cs, (j : Int) + 1, cs[j], ne, upd_same, ?_, hl, by omega, hc _ (List.getElem_mem hj), hc⟩
        rw [upd_ne ne.symm, upd_ne ne.symm]; exact h2
      · exact Keep.upd.trans Keep.upd
    · rintro sl H' ⟨rfl, pot', kp⟩
      obtain ⟨l, cs, i, c, ne, h1, h2, hl, i0, c0, hc⟩ := id pot'
      refine ⟨_, rfl, _, _, _, _, rfl, rfl, SqL.of h1, rfl, .inl ⟨_, rfl, _, rfl, _, _, rfl, rfl, m0, ?_⟩⟩
      refine ⟨_, rfl, _, _, _, _, rfl, rfl, SqL.of h1, rfl, _, rfl, _, _, rfl, rfl, bm.div m0, _, rfl, p, _, 2, 2, rfl, rfl, h1, rfl, _, rfl, ?_⟩
      refine k _ _ (Int.emod_nonneg _ (by omega)) (Int.emod_lt_of_pos _ m0) ⟨l, cs, i, c / m, ne, upd_same, ?_, hl, i0, Int.ediv_nonneg c0 (by omega), hc⟩ (kp.trans Keep.upd)
      rw [upd_ne ne.symm]; exact h2
/-- a drawn fraction of at most 41 digits in base 2 -/
def spFrac : Sp := fun vs H Q _ => ∃ (p : Addr), vs = [.ref p] ∧ PotAt H p ∧ ∀ t q H', Pr H' t q → H t = none → Sm 41 q → PotAt H' p → Keep p H H' → Q (.ref t) H'
theorem ok_fraction (T : Txt K mg A) : FnOk P w K mg base CX0 2 A.f_fraction A.d_fraction ["pot"] spFrac := by
  refine T.F_fraction.ok sc_fraction (fun vs H Q E h => ?_) (fun cdv Ar outer s H vs Q E hr h => ?_)
  · obtain ⟨p, rfl, _⟩ := h
    rfl
  · obtain ⟨p, rfl, pot, k⟩ := h
    refine ⟨_, (pss_cons (ps_set (i := 1) sc_fraction.nd rfl (Or.inl rfl) (pe_call (ok_digit T) (hr.mono (by decide)) rfl T.g_digit T.F_digit.kp T.b_digit .nil pass0 (pa_cons (pv 0) (pa_cons pe_int pa_nil))))
      (pss_cons (ps_if (pt_cmpR op_eq (pv 1) pe_int (nomark _))
      (pss_cons (ps_set (i := 2) sc_fraction.nd rfl (Or.inl rfl) (pe_op op_sub (pe_call (ok_digit T) (hr.mono (by decide)) rfl T.g_digit T.F_digit.kp T.b_digit .nil pass0 (pa_cons (pv 0) (pa_cons (pe_op op_add (pe_op op_mulW pe_int (pe_op op_pow pe_int pe_int)) pe_int) pa_nil))) (pe_op op_pow pe_int pe_int)))
      (pss_one (ps_ret (pe_tup (pa_cons (pv 2) (pa_cons (pe_op op_add pe_int (pe_call (ok_digit T) (hr.mono (by decide)) rfl T.g_digit T.F_digit.kp T.b_digit .nil pass0 (pa_cons (pv 0) (pa_cons (pe_op op_pow pe_int pe_int) pa_nil)))) pa_nil)))))) pss_nil)
      (pss_cons (ps_if (pt_cmpR op_eq (pv 1) pe_int (nomark _))
      (pss_cons (ps_set (i := 2) sc_fraction.nd rfl (Or.inl rfl) (pe_op op_sub (pe_call (ok_digit T) (hr.mono (by decide)) rfl T.g_digit T.F_digit.kp T.b_digit .nil pass0 (pa_cons (pv 0) (pa_cons pe_int pa_nil))) pe_int))
      (pss_one (ps_ret (pe_tup (pa_cons (pv 2) (pa_cons (pe_op op_add pe_int (pe_call (ok_digit T) (hr.mono (by decide)) rfl T.g_digit T.F_digit.kp T.b_digit .nil pass0 (pa_cons (pv 0) (pa_cons pe_int pa_nil)))) pa_nil)))))) pss_nil)
      (pss_cons (ps_set (i := 2) sc_fraction.nd rfl (Or.inl rfl) (pe_op op_sub pe_int (pe_call (ok_digit T) (hr.mono (by decide)) rfl T.g_digit T.F_digit.kp T.b_digit .nil pass0 (pa_cons (pv 0) (pa_cons pe_int pa_nil)))))
      (pss_one (ps_ret (pe_tup (pa_cons (pv 2) (pa_cons (pe_op op_sub pe_int (pe_call (ok_digit T) (hr.mono (by decide)) rfl T.g_digit T.F_digit.kp T.b_digit .nil pass0 (pa_cons (pv 0) (pa_cons pe_int pa_nil)))) pa_nil))))))))), ?_⟩
    have fin : ∀ (q : Int × Int) (H' : Hp), Sm 41 q → PotAt H' p → Keep p H H' → ∀ t, H' t = none → Q (.ref t) (upd H' t (.tup [.int q.1, .int q.2])) := fun q H' sq pt kp t ht =>
      k t q _ upd_same (kp.free pt ht) sq (pt.ex (Ex.new ht)) (kp.trans (Keep.new ht))
    have bt : Bd 41 ((10 : Int) ^ (12 : Int).toNat) := by show ((10 : Int) ^ 12).natAbs < 2 ^ 41; decide +kernel
    refine ⟨_, rfl, p, 4, rfl, pot, by decide, bd_of (by decide), fun d0 H0 a0 b0 pot0 k0 => ?_⟩
    refine ⟨_, rfl, rfl, _, rfl, ite2 (fun _ => ?_) (fun _ => ?_)⟩
    · have e2 : Bd 62 (2 * (10 : Int) ^ (12 : Int).toNat) := bd_two.mul bd_twel
      refine ⟨_, rfl, _, _, rfl, rfl, cpow 10 12 (by decide) (by decide), _, _, rfl, rfl, bd_two.w bd_twel, _, _, rfl, rfl, p, _, rfl, pot0, ?_, ?_, fun d H1 a b pt k1 => ?_⟩
      · have := twel_pos; show 0 < 2 * (10 : Int) ^ (12 : Int).toNat + 1; omega
      · exact (e2.add (show Bd 62 (1 : Int) from bd_of (by decide +kernel))).mono (by decide)
      have b' : d < 2 * (10 : Int) ^ (12 : Int).toNat + 1 := b
      refine ⟨_, _, rfl, rfl, cpow 10 12 (by decide) (by decide), _, _, rfl, rfl, _, rfl, _, rfl, _, _, rfl, rfl, cpow 10 12 (by decide) (by decide), p, _, rfl, pt, twel_pos, bd_twel.mono (by decide), fun d2 H2 a2 b2 pt2 k2 => ?_⟩
      have b2' : d2 < (10 : Int) ^ (12 : Int).toNat := b2
      refine ⟨_, _, rfl, rfl, (by show 2 ≤ sizeLine; exact sz2), fun t ht => ?_⟩
      exact fin (d - (10 : Int) ^ (12 : Int).toNat, 1 + d2) H2 ⟨bd_le bt (by show -(10 : Int) ^ (12 : Int).toNat ≤ d - (10 : Int) ^ (12 : Int).toNat; omega) (by show d - (10 : Int) ^ (12 : Int).toNat ≤ (10 : Int) ^ (12 : Int).toNat; omega), bd_le bt (by show -(10 : Int) ^ (12 : Int).toNat ≤ 1 + d2; omega) (by show 1 + d2 ≤ (10 : Int) ^ (12 : Int).toNat; omega), by show 0 < 1 + d2; omega⟩ pt2 ((k0.trans k1).trans k2) t ht
    refine ⟨_, rfl, rfl, _, rfl, ite2 (fun _ => ?_) (fun _ => ?_)⟩
    · refine ⟨_, rfl, p, 2001, rfl, pot0, by decide, bd_of (by decide), fun d H1 a b pt k1 => ?_⟩
      refine ⟨_, _, rfl, rfl, _, rfl, _, rfl, p, 1000, rfl, pt, by decide, bd_of (by decide), fun d2 H2 a2 b2 pt2 k2 => ?_⟩
      refine ⟨_, _, rfl, rfl, (by show 2 ≤ sizeLine; exact sz2), fun t ht => ?_⟩
      exact fin (d - 1000, 1 + d2) H2 ⟨(bd_le (j := 2001) (bd_of (by decide)) (by omega) (by omega) : Bd 41 (d - 1000)), (bd_le (j := 2001) (bd_of (by decide)) (by omega) (by omega) : Bd 41 (1 + d2)), by show 0 < 1 + d2; omega⟩ pt2 ((k0.trans k1).trans k2) t ht
    · refine ⟨_, rfl, p, 13, rfl, pot0, by decide, bd_of (by decide), fun d H1 a b pt k1 => ?_⟩
      refine ⟨_, _, rfl, rfl, _, rfl, _, rfl, p, 7, rfl, pt, by decide, bd_of (by decide), fun d2 H2 a2 b2 pt2 k2 => ?_⟩
      refine ⟨_, _, rfl, rfl, (by show 2 ≤ sizeLine; exact sz2), fun t ht => ?_⟩
      exact fin (6 - d, 7 - d2) H2 ⟨(bd_le (j := 2001) (bd_of (by decide)) (by omega) (by omega) : Bd 41 (6 - d)), (bd_le (j := 2001) (bd_of (by decide)) (by omega) (by omega) : Bd 41 (7 - d2)), by show 0 < 7 - d2; omega⟩ pt2 ((k0.trans k1).trans k2) t ht
def spBin (C : Addr) (G : Rat → Prop) (f : Rat → Rat → Rat) : Sp := fun vs H Q _ => ∃ (a b : Addr) (x y : Rat), vs = [.ref a, .ref b] ∧ RatV C H 1000 a x ∧ RatV C H 1000 b y ∧ G y ∧ ∀ c H', Ex H H' → H c = none → RatV C H' 2001 c (f x y) → Q (.ref c) H'
theorem ok_sub (T : Txt K mg A) : FnOk P w K mg base CX0 3 A.f_sub A.d_sub ["self", "other"] (spBin A.C (fun _ => True) fun x y => x - y) := by
  refine T.F_sub.ok sc_sub (fun vs H Q E h => ?_) (fun cdv Ar outer s H vs Q E hr h => ?_)
  · obtain ⟨a, b, x, y, rfl, _⟩ := h
    rfl
  · obtain ⟨a, b, x, y, rfl, ⟨p, ⟨dx, ha⟩, sp, cp, rfl⟩, ⟨q, ⟨dy, hb⟩, sq, cq, rfl⟩, _, k⟩ := h
    refine ⟨_, (pss_cons (ps_set (i := 2) sc_sub.nd rfl (Or.inl rfl) (pe_op op_sub (pe_op op_mulW (pe_fld (pv 0) rfl) (pe_fld (pv 1) rfl)) (pe_op op_mulW (pe_fld (pv 1) rfl) (pe_fld (pv 0) rfl))))
      (pss_one (ps_ret (pe_make T.mkC (ok_init T) (hr.mono (by decide)) rfl T.g_Ratio T.b_init3 .nil passL (pa_cons (pv 2) (pa_cons (pe_op op_mulW (pe_fld (pv 0) rfl) (pe_fld (pv 1) rfl)) pa_nil)))))), ?_⟩
    refine ⟨_, rfl, _, _, _, _, _, rfl, ha, T.cl, T.nT, rf_top _, _, rfl, _, _, _, _, _, rfl, hb, T.cl, T.nB, rf_bot _, _, _, rfl, rfl, sp.t.w sq.b, _, rfl, _, _, _, _, _, rfl, hb, T.cl, T.nT, rf_top _, _, rfl, _, _, _, _, _, rfl, ha, T.cl, T.nB, rf_bot _, _, _, rfl, rfl, sq.t.w sp.b, _, _, rfl, rfl, _, rfl, _, rfl, _, _, _, _, _, rfl, ha, T.cl, T.nB, rf_bot _, _, rfl, _, _, _, _, _, rfl, hb, T.cl, T.nB, rf_bot _, _, _, rfl, rfl, sp.b.w sq.b, ?_⟩
    exact rd_make (sp.nn sq) ((sp.b.mul sq.b).mono (by decide)) fun c H' ex nc r => k c H' ex nc (.lo r (((sp.t.mul sq.b).sub (sq.t.mul sp.b)).mono (by decide)) ((sp.b.mul sq.b).mono (by decide)) (sp.nn sq) (v_sub sp.ne sq.ne))
def spCmp (C : Addr) : Sp := fun vs H Q _ => ∃ (a b : Addr) (x y : Rat), vs = [.ref a, .ref b] ∧ RatV C H 2001 a x ∧ RatV C H 2001 b y ∧ Q (.int (cmpR x y)) H
theorem ok_compare (T : Txt K mg A) : FnOk P w K mg base CX0 1 A.f_compare A.d_compare ["self", "other"] (spCmp A.C) := by
  refine T.F_compare.ok sc_compare (fun vs H Q E h => ?_) (fun cdv Ar outer s H vs Q E hr h => ?_)
  · obtain ⟨a, b, x, y, rfl, _⟩ := h
    rfl
  · obtain ⟨a, b, x, y, rfl, ⟨p, ⟨dx, ha⟩, sp, cp, rfl⟩, ⟨q, ⟨dy, hb⟩, sq, cq, rfl⟩, k⟩ := h
    refine ⟨_, (pss_cons (ps_set (i := 2) sc_compare.nd rfl (Or.inl rfl) (pe_op op_mulW (pe_fld (pv 0) rfl) (pe_fld (pv 1) rfl)))
      (pss_cons (ps_set (i := 3) sc_compare.nd rfl (Or.inl rfl) (pe_op op_mulW (pe_fld (pv 1) rfl) (pe_fld (pv 0) rfl)))
      (pss_cons (ps_if (pt_cmpR op_lt (pv 2) (pv 3) (nomark _))
      (pss_one (ps_ret (pe_un un_neg pe_int))) pss_nil)
      (pss_one (ps_ret (pe_ifExp (pt_cmpR op_gt (pv 2) (pv 3) (nomark _)) pe_int pe_int)))))), ?_⟩
    refine ⟨_, rfl, _, _, _, _, _, rfl, ha, T.cl, T.nT, rf_top _, _, rfl, _, _, _, _, _, rfl, hb, T.cl, T.nB, rf_bot _, _, _, rfl, rfl, sp.t.w sq.b, _, rfl, _, _, _, _, _, rfl, hb, T.cl, T.nT, rf_top _, _, rfl, _, _, _, _, _, rfl, ha, T.cl, T.nB, rf_bot _, _, _, rfl, rfl, sq.t.w sp.b, _, rfl, _, rfl, _, _, rfl, rfl, _, rfl, ?_⟩
    unfold cmpR at k
    by_cases c : p.1 * q.2 < q.1 * p.2
    · rw [if_pos ((vl_lt sp.pos sq.pos).mpr c)] at k
      exact ite2 (fun _ => ⟨_, rfl, k⟩) (fun n => absurd (decide_eq_true c) n)
    · rw [if_neg (fun z => c ((vl_lt sp.pos sq.pos).mp z))] at k
      refine ite2 (fun z => absurd (of_decide_eq_true z) c) (fun _ => ?_)
      refine ⟨_, rfl, _, rfl, _, _, rfl, rfl, _, rfl, ?_⟩
      by_cases d : q.1 * p.2 < p.1 * q.2
      · rw [if_pos ((vl_lt sq.pos sp.pos).mpr d)] at k
        exact ite2 (fun _ => k) (fun n => absurd (decide_eq_true d) n)
      · rw [if_neg (fun z => d ((vl_lt sq.pos sp.pos).mp z))] at k
        exact ite2 (fun z => absurd (of_decide_eq_true z) d) (fun _ => k)
def spEq (K : PySem.W.Frag) (C : Addr) : Sp := fun vs H Q _ => ∃ (a : Addr) (y : V) (p : Int × Int), vs = [.ref a, y] ∧ RatAt C H a p ∧
  ((∃ (c : Addr) (q : Int × Int) (e : Bool), y = .ref c ∧ RatAt C H c q ∧ e = decide (p = q) ∧ Q (.bl e) H) ∨
   (∃ t, TyX K H y t ∧ PySem.W.kitOne K t (.ref C) = some false ∧ Q (.bl false) H))
theorem ok_eq (T : Txt K mg A) : FnOk P w K mg base CX0 1 A.f_eq A.d_eq ["self", "other"] (Fc.spEq K A.C) := by
  refine T.F_eq.ok sc_eq (fun vs H Q E h => ?_) (fun cdv Ar outer s H vs Q E hr h => ?_)
  · obtain ⟨a, y, p, rfl, _⟩ := h
    rfl
  · obtain ⟨a, y, p, rfl, ⟨dx, ha⟩, h⟩ := h
    refine ⟨_, (pss_one (ps_ret (pe_and (pe_callB call_isi (by rfl) T.n_isinstance (by decide +kernel) (pa_cons (pv 1) (pa_cons (pe_glob (v := .ref A.C) rfl T.g_Ratio rfl) pa_nil))) (pe_and (pe_cmpR op_eq (pe_fld (pv 0) rfl) (pe_fld (pv 1) rfl) (nomark _)) (pe_one (pe_cmpR op_eq (pe_fld (pv 0) rfl) (pe_fld (pv 1) rfl) (nomark _))))))), ?_⟩
    rcases h with ⟨c, q, e, rfl, ⟨dy, hc⟩, he, k⟩ | ⟨t, ty, kt, k⟩
    · refine ⟨_, rfl, .ref c, .ref A.C, .ref A.C, .ref A.C, true, rfl, .own _, .base (.ins hc T.cl T.ha T.hn T.htk T.hm), kit_self, true, rfl, ?_⟩
      refine ⟨_, rfl, _, _, _, _, _, rfl, ha, T.cl, T.nT, rf_top _, _, rfl, _, _, _, _, _, rfl, hc, T.cl, T.nT, rf_top _, rfl, _, rfl, ?_⟩
      by_cases e1 : p.1 = q.1
      · refine ite2 (fun _ => ?_) (fun n => absurd (by rw [e1]; exact decide_eq_true rfl) n)
        refine ⟨_, rfl, _, _, _, _, _, rfl, ha, T.cl, T.nB, rf_bot _, _, rfl, _, _, _, _, _, rfl, hc, T.cl, T.nB, rf_bot _, rfl, ?_⟩
        have : decide (V.int p.2 = V.int q.2) = e := by
          rw [he]
          by_cases e2 : p.2 = q.2
          · rw [decide_eq_true (by rw [e2]), decide_eq_true (Prod.ext e1 e2)]
          · rw [decide_eq_false (fun z => e2 (V.int.inj z)), decide_eq_false (fun z => e2 (by rw [z]))]
        show Q (V.bl (decide (V.int p.2 = V.int q.2))) H
        rw [this]
        exact k
      · refine ite2 (fun z => absurd (V.int.inj (of_decide_eq_true z)) e1) (fun _ => ?_)
        have : e = false := by rw [he]; exact decide_eq_false (fun z => e1 (by rw [z]))
        rw [this] at k
        exact k
    · exact ⟨_, rfl, y, .ref A.C, t, .ref A.C, false, rfl, .own _, ty, kt, false, rfl, k⟩
def spRText (C : Addr) : Sp := fun vs H Q _ => ∃ (a : Addr) (p : Int × Int), vs = [.ref a] ∧ RatAt C H a p ∧ Sm 600 p ∧ Q (.str (rtx p)) H
theorem ok_rtext (T : Txt K mg A) : FnOk P w K mg base CX0 1 A.f_rtext A.d_rtext ["self"] (spRText A.C) := by
  refine T.F_rtext.ok sc_rtext (fun vs H Q E h => ?_) (fun cdv Ar outer s H vs Q E hr h => ?_)
  · obtain ⟨a, p, rfl, _⟩ := h
    rfl
  · obtain ⟨a, p, rfl, ⟨dx, ha⟩, sp, k⟩ := h
    refine ⟨_, (pss_cons (ps_if (pt_cmpR op_eq (pe_fld (pv 0) rfl) pe_int (nomark _))
      (pss_one (ps_ret (pe_callTy call_str_int (by rfl) T.n_str (by decide +kernel) (pa_cons (pe_fld (pv 0) rfl) pa_nil)))) pss_nil)
      (pss_one (ps_ret (pe_joined (.cons (pe_fmt (pe_fld (pv 0) rfl)) (.cons pe_str (.cons (pe_fmt (pe_fld (pv 0) rfl)) .nil))))))), ?_⟩
    unfold rtx at k
    refine ⟨_, rfl, _, _, _, _, _, rfl, ha, T.cl, T.nB, rf_bot _, rfl, _, rfl, ?_⟩
    by_cases c : p.2 = 1
    · rw [if_pos c] at k
      refine ite2 (fun _ => ?_) (fun n => absurd (decide_eq_true (by rw [c])) n)
      exact ⟨_, rfl, _, _, _, _, _, rfl, ha, T.cl, T.nT, rf_top _, _, rfl, sp.t.lg, k⟩
    · rw [if_neg c] at k
      refine ite2 (fun z => absurd (V.int.inj (of_decide_eq_true z)) c) (fun _ => ?_)
      have l1 := itx_len (sp.t.lg)
      have l2 := itx_len (sp.b.lg)
      refine ⟨_, rfl, _, _, _, _, _, rfl, ha, T.cl, T.nT, rf_top _, .inr ⟨p.1, rfl, sp.t.lg, itx p.1, rfl, ?_, "/", rfl, ?_, _, rfl, _, _, _, _, _, rfl, ha, T.cl, T.nB, rf_bot _, .inr ⟨p.2, rfl, sp.b.lg, itx p.2, rfl, ?_, ?_⟩⟩⟩
      · rw [Str.empty_append, sizeLine_eq]; omega
      · rw [Str.empty_append, Str.length_append, sizeLine_eq]
        have : ("/" : Str).length = 1 := rfl
        omega
      · rw [Str.empty_append, Str.length_append, Str.length_append, sizeLine_eq]
        have : ("/" : Str).length = 1 := rfl
        omega
      · rw [Str.empty_append]
        exact k
end
end Fc
set_option Elab.async false
set_option linter.all false
set_option maxRecDepth 100000
set_option maxHeartbeats 4000000
set_option exponentiation.threshold 100000
namespace Fc
open PySem PySem.Spec PyProof.Rows L2 L2H
section
variable {P : Program} {w : World} {K : PySem.W.Frag} {mg : Str → Option Value} {base : Heap} {A : Ad}
theorem np_compare (r : Int × Int) : (rf r).lookup ("compare" : Str) = none := rf_no _ (by decide +kernel) (by decide +kernel)
def spPick (C : Addr) (R : Rat → Rat → Rat) : Sp := fun vs H Q _ => ∃ (a b : Addr) (x y : Rat), vs = [.ref a, .ref b] ∧ RatV C H 2001 a x ∧ RatV C H 2001 b y ∧ ∀ c, RatV C H 2001 c (R x y) → Q (.ref c) H
abbrev lsR (x y : Rat) : Rat := if x ≤ y then x else y
abbrev gtR (x y : Rat) : Rat := if y ≤ x then x else y
theorem ok_lesser (T : Txt K mg A) : FnOk P w K mg base CX0 2 A.f_lesser A.d_lesser ["a", "b"] (spPick A.C lsR) := by
  refine T.F_lesser.ok sc_lesser (fun vs H Q E h => ?_) (fun cdv Ar outer s H vs Q E hr h => ?_)
  · obtain ⟨a, b, x, y, rfl, _⟩ := h
    rfl
  · obtain ⟨a, b, x, y, rfl, ha, hb, k⟩ := h
    refine ⟨_, (pss_one (ps_ret (pe_ifExp (pt_cmpR op_le (pe_meth (pv 0) T.cl T.m_compare (ok_compare T) (hr.mono (by decide)) T.b_compare .nil pass0 (pa_cons (pv 1) pa_nil)) pe_int (nomark _)) (pv 0) (pv 1)))), ?_⟩
    obtain ⟨p, ⟨dl, hp⟩, rp⟩ := id ha
    refine ⟨_, rfl, a, dl, _, rfl, hp, np_compare _, _, rfl, a, b, x, y, rfl, ha, hb, _, _, rfl, rfl, _, rfl, ?_⟩
    unfold lsR at k
    by_cases c : x ≤ y
    · rw [if_pos c] at k
      exact ite2 (fun _ => ⟨_, rfl, k _ ha⟩) (fun n => absurd (decide_eq_true (cmpR_np.mpr c)) n)
    · rw [if_neg c] at k
      exact ite2 (fun z => absurd (cmpR_np.mp (of_decide_eq_true z)) c) (fun _ => ⟨_, rfl, k _ hb⟩)
theorem ok_greater (T : Txt K mg A) : FnOk P w K mg base CX0 2 A.f_greater A.d_greater ["a", "b"] (spPick A.C gtR) := by
  refine T.F_greater.ok sc_greater (fun vs H Q E h => ?_) (fun cdv Ar outer s H vs Q E hr h => ?_)
  · obtain ⟨a, b, x, y, rfl, _⟩ := h
    rfl
  · obtain ⟨a, b, x, y, rfl, ha, hb, k⟩ := h
    refine ⟨_, (pss_one (ps_ret (pe_ifExp (pt_cmpR op_ge (pe_meth (pv 0) T.cl T.m_compare (ok_compare T) (hr.mono (by decide)) T.b_compare .nil pass0 (pa_cons (pv 1) pa_nil)) pe_int (nomark _)) (pv 0) (pv 1)))), ?_⟩
    obtain ⟨p, ⟨dl, hp⟩, rp⟩ := id ha
    refine ⟨_, rfl, a, dl, _, rfl, hp, np_compare _, _, rfl, a, b, x, y, rfl, ha, hb, _, _, rfl, rfl, _, rfl, ?_⟩
    unfold gtR at k
    by_cases c : y ≤ x
    · rw [if_pos c] at k
      exact ite2 (fun _ => ⟨_, rfl, k _ ha⟩) (fun n => absurd (decide_eq_true (cmpR_nn.mpr c)) n)
    · rw [if_neg c] at k
      exact ite2 (fun z => absurd (cmpR_nn.mp (of_decide_eq_true z)) c) (fun _ => ⟨_, rfl, k _ hb⟩)
def spCont (A : Ad) : Sp := fun vs H Q _ => ∃ (s r : Addr) (x y v : Rat), vs = [.ref s, .ref r] ∧ SpV A.S A.C H 2001 s x y ∧ RatV A.C H 2001 r v ∧ Q (.bl (decide (x ≤ v) && decide (v ≤ y))) H
theorem ok_scontains (T : Txt K mg A) : FnOk P w K mg base CX0 2 A.f_scontains A.d_scontains ["self", "x"] (spCont A) := by
  refine T.F_scontains.ok sc_scontains (fun vs H Q E h => ?_) (fun cdv Ar outer s H vs Q E hr h => ?_)
  · obtain ⟨s, r, x, y, v, rfl, _⟩ := h
    rfl
  · obtain ⟨s, r, x, y, v, rfl, ⟨dx, l, h, hs, hl, hh⟩, hv, k⟩ := h
    refine ⟨_, (pss_one (ps_ret (pe_and (pe_cmpR op_le (pe_meth (pe_fld (pv 0) rfl) T.cl T.m_compare (ok_compare T) (hr.mono (by decide)) T.b_compare .nil pass0 (pa_cons (pv 1) pa_nil)) pe_int (nomark _)) (pe_one (pe_cmpR op_ge (pe_meth (pe_fld (pv 0) rfl) T.cl T.m_compare (ok_compare T) (hr.mono (by decide)) T.b_compare .nil pass0 (pa_cons (pv 1) pa_nil)) pe_int (nomark _)))))), ?_⟩
    obtain ⟨p, ⟨dl, hp⟩, rp⟩ := id hl
    obtain ⟨q, ⟨dh, hq⟩, rq⟩ := id hh
    refine ⟨_, rfl, _, _, _, _, _, rfl, hs, T.cS, T.nL, sf_low _ _, l, dl, _, rfl, hp, np_compare _, _, rfl, l, r, x, v, rfl, hl, hv, _, _, rfl, rfl, ?_⟩
    by_cases c : x ≤ v
    · refine ⟨true, congrArg V.bl (decide_eq_true (cmpR_np.mpr c)), ?_⟩
      refine ⟨_, rfl, _, _, _, _, _, rfl, hs, T.cS, T.nH, sf_high _ _, h, dh, _, rfl, hq, np_compare _, _, rfl, h, r, y, v, rfl, hh, hv, _, _, rfl, rfl, ?_⟩
      have e : decide (0 ≤ cmpR y v) = decide (v ≤ y) := decide_eq_decide.mpr cmpR_nn
      rw [decide_eq_true c, Bool.true_and, ← e] at k
      exact k
    · refine ⟨false, congrArg V.bl (decide_eq_false (fun z => c (cmpR_np.mp z))), ?_⟩
      rw [decide_eq_false c, Bool.false_and] at k
      exact k
/-! ### length, text, at_most, == -/
def spLength (A : Ad) : Sp := fun vs H Q _ => ∃ (s : Addr) (x y : Rat), vs = [.ref s] ∧ SpV A.S A.C H 1000 s x y ∧ ∀ c H', Ex H H' → H c = none → RatV A.C H' 2001 c (y - x) → Q (.ref c) H'
theorem rd_own {C : Addr} {G : Rat → Prop} {f : Rat → Rat → Rat} {a b : Addr} {x y : Rat} {H : Hp} {Q : VK} {E : XK} (ha : RatV C H 1000 a x) (hb : RatV C H 1000 b y) (g : G y) (k : ∀ c H', Ex H H' → H c = none → RatV C H' 2001 c (f x y) → Q (.ref c) H') :
    rOwn C (spBin C G f) E (.ref a) (.ref b) H Q := by
  obtain ⟨p, ⟨dx, h1⟩, rp⟩ := id ha
  obtain ⟨q, ⟨dy, h2⟩, rq⟩ := id hb
  exact ⟨a, b, dx, dy, _, _, rfl, rfl, h1, h2, a, b, x, y, rfl, ha, hb, g, k⟩
theorem ok_length (T : Txt K mg A) : FnOk P w K mg base CX0 4 A.f_length A.d_length ["self"] (spLength A) := by
  refine T.F_length.ok sc_length (fun vs H Q E h => ?_) (fun cdv Ar outer s H vs Q E hr h => ?_)
  · obtain ⟨s, x, y, rfl, _⟩ := h
    rfl
  · obtain ⟨s, x, y, rfl, ⟨dx, l, h, hs, hl, hh⟩, k⟩ := h
    refine ⟨_, (pss_one (ps_ret (pe_op (op_own T.sf T.m_sub.at_ T.m_sub.fn (ok_sub T) (hr.mono (by decide)) T.b_sub pass0) (pe_fld (pv 0) rfl) (pe_fld (pv 0) rfl)))), ?_⟩
    exact ⟨_, rfl, _, _, _, _, _, rfl, hs, T.cS, T.nH, sf_high _ _, _, rfl, _, _, _, _, _, rfl, hs, T.cS, T.nL, sf_low _ _, rd_own hh hl trivial k⟩
def spAtMost (A : Ad) : Sp := fun vs H Q _ => ∃ (a b : Addr) (x1 y1 x2 y2 : Rat), vs = [.ref a, .ref b] ∧ SpV A.S A.C H 2001 a x1 y1 ∧ SpV A.S A.C H 2001 b x2 y2 ∧
  Q (if y1 ≤ x2 then .bl true else if y2 < x1 then .bl false else .non) H
theorem ok_atmost (T : Txt K mg A) : FnOk P w K mg base CX0 2 A.f_atmost A.d_atmost ["self", "other"] (spAtMost A) := by
  refine T.F_atmost.ok sc_atmost (fun vs H Q E h => ?_) (fun cdv Ar outer s H vs Q E hr h => ?_)
  · obtain ⟨a, b, x1, y1, x2, y2, rfl, _⟩ := h
    rfl
  · obtain ⟨a, b, x1, y1, x2, y2, rfl, ⟨dx, l1, h1, ha, hl1, hh1⟩, ⟨dy, l2, h2, hb, hl2, hh2⟩, k⟩ := h
    refine ⟨_, (pss_cons (ps_if (pt_cmpR op_le (pe_meth (pe_fld (pv 0) rfl) T.cl T.m_compare (ok_compare T) (hr.mono (by decide)) T.b_compare .nil pass0 (pa_cons (pe_fld (pv 1) rfl) pa_nil)) pe_int (nomark _))
      (pss_one (ps_ret pe_bl)) pss_nil)
      (pss_cons (ps_if (pt_cmpR op_gt (pe_meth (pe_fld (pv 0) rfl) T.cl T.m_compare (ok_compare T) (hr.mono (by decide)) T.b_compare .nil pass0 (pa_cons (pe_fld (pv 1) rfl) pa_nil)) pe_int (nomark _))
      (pss_one (ps_ret pe_bl)) pss_nil)
      (pss_one (ps_ret pe_non)))), ?_⟩
    obtain ⟨p, ⟨dl, hp⟩, rp⟩ := id hl1
    obtain ⟨q, ⟨dh, hq⟩, rq⟩ := id hh1
    refine ⟨_, rfl, _, _, _, _, _, rfl, ha, T.cS, T.nH, sf_high _ _, h1, dh, _, rfl, hq, np_compare _, _, rfl, _, _, _, _, _, rfl, hb, T.cS, T.nL, sf_low _ _, h1, l2, y1, x2, rfl, hh1, hl2, _, _, rfl, rfl, _, rfl, ?_⟩
    by_cases c : y1 ≤ x2
    · rw [if_pos c] at k
      exact ite2 (fun _ => k) (fun n => absurd (decide_eq_true (cmpR_np.mpr c)) n)
    rw [if_neg c] at k
    refine ite2 (fun z => absurd (cmpR_np.mp (of_decide_eq_true z)) c) (fun _ => ?_)
    refine ⟨_, rfl, _, _, _, _, _, rfl, ha, T.cS, T.nL, sf_low _ _, l1, dl, _, rfl, hp, np_compare _, _, rfl, _, _, _, _, _, rfl, hb, T.cS, T.nH, sf_high _ _, l1, h2, x1, y2, rfl, hl1, hh2, _, _, rfl, rfl, _, rfl, ?_⟩
    by_cases d : y2 < x1
    · rw [if_pos d] at k
      exact ite2 (fun _ => k) (fun n => absurd (decide_eq_true (cmpR_pos.mpr d)) n)
    · rw [if_neg d] at k
      exact ite2 (fun z => absurd (cmpR_pos.mp (of_decide_eq_true z)) d) (fun _ => k)
/-- a span written -/
def stx (p q : Int × Int) : Str := "[" ++ rtx p ++ ", " ++ rtx q ++ "]"
def spSText (A : Ad) : Sp := fun vs H Q _ => ∃ (s dx l h : Addr) (p q : Int × Int), vs = [.ref s] ∧ H s = some (.ins A.S dx (sf l h)) ∧ RatAt A.C H l p ∧ RatAt A.C H h q ∧ Sm 600 p ∧ Sm 600 q ∧ Q (.str (stx p q)) H
theorem ok_stext (T : Txt K mg A) : FnOk P w K mg base CX0 2 A.f_stext A.d_stext ["self"] (spSText A) := by
  refine T.F_stext.ok sc_stext (fun vs H Q E h => ?_) (fun cdv Ar outer s H vs Q E hr h => ?_)
  · obtain ⟨s, dx, l, h, p, q, rfl, _⟩ := h
    rfl
  · obtain ⟨s, dx, l, h, p, q, rfl, hs, ⟨dl, hl⟩, ⟨dh, hh⟩, sp, sq, k⟩ := h
    refine ⟨_, (pss_one (ps_ret (pe_joined (.cons pe_str (.cons (pe_fmt (pe_meth0 (pe_fld (pv 0) rfl) T.cl T.m_rtext (ok_rtext T) (hr.mono (by decide)) T.b_rtext .nil pass0)) (.cons pe_str (.cons (pe_fmt (pe_meth0 (pe_fld (pv 0) rfl) T.cl T.m_rtext (ok_rtext T) (hr.mono (by decide)) T.b_rtext .nil pass0)) (.cons pe_str .nil)))))))), ?_⟩
    have l1 := rtx_len sp.t.lg sp.b.lg
    have l2 := rtx_len sq.t.lg sq.b.lg
    have o1 : ("[" : Str).length = 1 := rfl
    have o2 : (", " : Str).length = 2 := rfl
    have o3 : ("]" : Str).length = 1 := rfl
    have nt : ∀ r : Int × Int, (rf r).lookup ("text" : Str) = none := fun r => rf_no _ (by decide +kernel) (by decide +kernel)
    refine ⟨"[", rfl, ?_, _, rfl, _, _, _, _, _, rfl, hs, T.cS, T.nL, sf_low _ _, l, dl, _, rfl, hl, nt _, l, p, rfl, ⟨dl, hl⟩, sp, .inl ⟨rtx p, rfl, ?_, rtx p, rfl, ?_, ", ", rfl, ?_, _, rfl, _, _, _, _, _, rfl, hs, T.cS, T.nH, sf_high _ _, h, dh, _, rfl, hh, nt _, h, q, rfl, ⟨dh, hh⟩, sq, .inl ⟨rtx q, rfl, ?_, rtx q, rfl, ?_, "]", rfl, ?_, ?_⟩⟩⟩
    all_goals simp only [Str.empty_append, Str.length_append, sizeLine_eq, o1, o2, o3]
    all_goals first | omega | skip
    exact k
end
end Fc
set_option Elab.async false
set_option linter.all false
set_option maxRecDepth 100000
set_option maxHeartbeats 4000000
set_option exponentiation.threshold 100000
namespace Fc
open PySem PySem.Spec PyProof.Rows L2 L2H
section
variable {P : Program} {w : World} {K : PySem.W.Frag} {mg : Str → Option Value} {base : Heap} {A : Ad}
/-! ### Crossed -/
/-- the fields of the error Crossed -/
def crf (l h : Addr) : List (Str × V) := [("high", .ref h), ("low", .ref l)]
def spCross (A : Ad) : Sp := fun vs H Q _ => ∃ (a l h : Addr), vs = [.ref a, .ref l, .ref h] ∧ H a = some (exo a A.Cr none) ∧
  ∀ d H2, H d = none → d ≠ a → H2 a = some (exo a A.Cr (some d)) → H2 d = some (exd d (crf l h)) → (∀ c o, H c = some o → c ≠ a → H2 c = some o) → Q .non H2
theorem ok_cross (T : Txt K mg A) : FnOk P w K mg base CX0 1 A.f_cross A.d_cross ["self", "low", "high"] (spCross A) := by
  refine T.F_cross.ok sc_cross (fun vs H Q E h => ?_) (fun cdv Ar outer s H vs Q E hr h => ?_)
  · obtain ⟨a, l, h, rfl, _⟩ := h
    rfl
  · obtain ⟨a, l, h, rfl, ha, k⟩ := h
    refine ⟨_, (pss_cons (ps_ost (pv 0) (pv 1))
      (pss_one (ps_ost (pv 0) (pv 2)))), ?_⟩
    refine ⟨_, rfl, _, rfl, a, A.Cr, rfl, T.o_Cr, T.n_Cr_low, .inl ⟨ha, fun d hd hn => ?_⟩⟩
    refine ⟨_, rfl, _, rfl, a, A.Cr, rfl, T.o_Cr, T.n_Cr_high, .inr ⟨d, [("low", .ref l)], upd_same, by rw [upd_ne hn, upd_same], (by show 1 ≤ 900; decide), ?_⟩⟩
    refine k d _ hd hn ?_ upd_same fun c o e ne => ?_
    · rw [upd_ne hn.symm, upd_same]
    · rw [upd_ne (ne_of_none e hd), upd_ne ne, upd_ne (ne_of_none e hd)]
      exact e
/-! ### a Span is made, or is refused -/
def spSInit (A : Ad) : Sp := fun vs H Q E => ∃ (s dx l h : Addr) (x y : Rat), vs = [.ref s, .ref l, .ref h] ∧ H s = some (.ins A.S dx []) ∧ RatV A.C H 2001 l x ∧ RatV A.C H 2001 h y ∧
  (y < x → ∀ d H', Ex H H' → H' d = some (.xd (crf l h)) → E (.ref A.Cr) (some d) H') ∧
  (x ≤ y → ∀ H', H' s = some (.ins A.S dx (sf l h)) → (∀ c o, H c = some o → c ≠ s → H' c = some o) → Q .non H')
theorem ok_sinit (T : Txt K mg A) : FnOk P w K mg base (L2N.CX P w) 3 A.f_sinit A.d_sinit ["self", "low", "high"] (spSInit A) := by
  refine fun_okN T.F_sinit sc_sinit (fun vs H Q E h => ?_) (fun cdv Ar outer s H vs Q E hr h => ?_)
  · obtain ⟨s, dx, l, h, x, y, rfl, _⟩ := h
    rfl
  · obtain ⟨s, dx, l, h, x, y, rfl, hs, hl, hh, k0, k⟩ := h
    refine ⟨_, (pss_cons (ps_if (pt_cmpR op_gt (pe_meth (pv 1) T.cl T.m_compare (ok_compare T) (hr.mono (by decide)) T.b_compare .nil pass0 (pa_cons (pv 2) pa_nil)) pe_int (nomark _))
      (pss_one (L2N.ps_raise rfl (L2N.takes_of rfl rfl rfl rfl) (pmk_oexN T.o_Cr T.in_Cr T.ti_Cr (ok_cross T) (hr.mono (by decide)) T.b_cross passF rfl T.g_Cr (pa_cons (pv 1) (pa_cons (pv 2) pa_nil))))) pss_nil)
      (pss_cons (ps_fld (pv 0) (pv 1) rfl)
      (pss_one (ps_fld (pv 0) (pv 2) rfl)))), ?_⟩
    obtain ⟨p, ⟨dl, hp⟩, rp⟩ := id hl
    refine ⟨_, rfl, l, dl, _, rfl, hp, np_compare _, _, rfl, l, h, x, y, rfl, hl, hh, _, _, rfl, rfl, _, rfl, ?_⟩
    by_cases c : y < x
    · refine ite2 (fun _ => ?_) (fun z => absurd (decide_eq_true (cmpR_pos.mpr c)) z)
      refine ⟨_, rfl, _, rfl, (by show 2 ≤ 1000; decide), fun a na => ⟨a, l, h, rfl, upd_same, fun d H2 nd ne h1 h2 kp => ⟨rfl, d, crf l h, h1, h2, ?_, ?_⟩⟩⟩
      · rw [upd_ne ne] at nd; exact nd
      · have hd : H d = none := by rw [upd_ne ne] at nd; exact nd
        refine k0 c d _ (fun b o e => ?_) upd_same
        rw [upd_ne (ne_of_none e hd), del_ne (ne_of_none e na)]
        exact kp b o (by rw [upd_ne (ne_of_none e na)]; exact e) (ne_of_none e na)
    · refine ite2 (fun z => absurd (cmpR_pos.mp (of_decide_eq_true z)) c) (fun _ => ?_)
      refine ⟨_, rfl, _, rfl, s, A.S, dx, _, rfl, hs, T.cS, T.nL, (by show 0 < 1000; decide), ?_⟩
      refine ⟨_, rfl, _, rfl, s, A.S, dx, _, rfl, upd_same, T.cS, T.nH, (by show 1 < 1000; decide), ?_⟩
      refine k (by grind) _ (by rw [upd_same, sf_put]) fun c o hc hn => ?_
      rw [upd_ne hn, upd_ne hn]
      exact hc
def spAnd (A : Ad) : Sp := fun vs H Q E => ∃ (a b : Addr) (x1 y1 x2 y2 : Rat), vs = [.ref a, .ref b] ∧ SpV A.S A.C H 2001 a x1 y1 ∧ SpV A.S A.C H 2001 b x2 y2 ∧
  (lsR y1 y2 < gtR x1 x2 → ∀ H', Ex H H' → E (.ref A.Ap) none H') ∧
  (gtR x1 x2 ≤ lsR y1 y2 → ∀ c H', Ex H H' → H c = none → SpV A.S A.C H' 2001 c (gtR x1 x2) (lsR y1 y2) → Q (.ref c) H')
theorem ok_sand (T : Txt K mg A) : FnOk P w K mg base (L2.CX P w) 5 A.f_sand A.d_sand ["self", "other"] (spAnd A) := by
  refine T.F_sand.okX sc_sand (fun vs H Q E h => ?_) (fun cdv Ar outer s H vs Q E hr h => ?_)
  · obtain ⟨a, b, x1, y1, x2, y2, rfl, _⟩ := h
    rfl
  · obtain ⟨a, b, x1, y1, x2, y2, rfl, ⟨dx, l1, h1, ha, hl1, hh1⟩, ⟨dy, l2, h2, hb, hl2, hh2⟩, k0, k⟩ := h
    refine ⟨_, (pss_cons (ps_set (i := 2) sc_sand.nd rfl (Or.inl rfl) (pe_call (ok_greater T) (hr.mono (by decide)) rfl T.g_greater T.F_greater.kp T.b_greater .nil pass0 (pa_cons (pe_fld (pv 0) rfl) (pa_cons (pe_fld (pv 1) rfl) pa_nil))))
      (pss_cons (ps_set (i := 3) sc_sand.nd rfl (Or.inl rfl) (pe_call (ok_lesser T) (hr.mono (by decide)) rfl T.g_lesser T.F_lesser.kp T.b_lesser .nil pass0 (pa_cons (pe_fld (pv 0) rfl) (pa_cons (pe_fld (pv 1) rfl) pa_nil))))
      (pss_cons (ps_if (pt_cmpR op_gt (pe_meth (pv 2) T.cl T.m_compare (ok_compare T) (hr.mono (by decide)) T.b_compare .nil pass0 (pa_cons (pv 3) pa_nil)) pe_int (nomark _))
      (pss_one (ps_raise rfl (takes_of rfl rfl rfl rfl) (pmk_bare PySem.F.excBase_ValueError T.x_Ap T.g_Ap T.k_Ap (raises_own T.bs_Ap T.t_Ap) rfl))) pss_nil)
      (pss_one (ps_ret (pe_make T.mkS (ok_sinit T) (hr.mono (by decide)) rfl T.g_Span T.b_sinit .nil passLN (pa_cons (pv 2) (pa_cons (pv 3) pa_nil)))))))), ?_⟩
    refine ⟨_, rfl, _, _, _, _, _, rfl, ha, T.cS, T.nL, sf_low _ _, _, rfl, _, _, _, _, _, rfl, hb, T.cS, T.nL, sf_low _ _, l1, l2, x1, x2, rfl, hl1, hl2, fun c r1 => ?_⟩
    refine ⟨_, rfl, _, _, _, _, _, rfl, ha, T.cS, T.nH, sf_high _ _, _, rfl, _, _, _, _, _, rfl, hb, T.cS, T.nH, sf_high _ _, h1, h2, y1, y2, rfl, hh1, hh2, fun d r2 => ?_⟩
    obtain ⟨p, ⟨dl, hp⟩, rp⟩ := id r1
    refine ⟨_, rfl, c, dl, _, rfl, hp, np_compare _, _, rfl, c, d, _, _, rfl, r1, r2, _, _, rfl, rfl, _, rfl, ?_⟩
    by_cases g : lsR y1 y2 < gtR x1 x2
    · exact ite2 (fun _ => k0 g H (fun _ _ e => e)) (fun z => absurd (decide_eq_true (cmpR_pos.mpr g)) z)
    · refine ite2 (fun z => absurd (cmpR_pos.mp (of_decide_eq_true z)) g) (fun _ => ?_)
      refine ⟨_, rfl, _, rfl, ?_⟩
      intro e de ne nd _
      have em : Ex H (upd (upd H de (.own e)) e (.ins A.S de [])) := fun b o h => by rw [upd_ne (ne_of_none h ne), upd_ne (ne_of_none h nd)]; exact h
      refine ⟨e, de, c, d, _, _, rfl, upd_same, r1.ex em, r2.ex em, fun z => absurd z g, fun le H' he kp => ⟨rfl, ?_⟩⟩
      have e9 : Ex H H' := Same.made ne nd kp
      exact k le e H' e9 ne ⟨de, c, d, he, r1.ex e9, r2.ex e9⟩
end
end Fc
set_option Elab.async false
set_option linter.all false
set_option maxRecDepth 100000
set_option maxHeartbeats 4000000
set_option exponentiation.threshold 100000
namespace Fc
open PySem PySem.Spec PyProof.Rows L2 L2H
section
variable {P : Program} {w : World} {K : PySem.W.Frag} {mg : Str → Option Value} {base : Heap} {A : Ad}
theorem nf_self {C : Addr} : PySem.W.notFirst K C (.ref C) = true := by
  unfold PySem.W.notFirst
  simp
theorem tyR (T : Txt K mg A) {H : Hp} {a dx : Addr} {fs : List (Str × V)} (h : H a = some (.ins A.C dx fs)) : TyX K H (.ref a) (.ref A.C) := .base (.ins h T.cl T.ha T.hn T.htk T.hm)
theorem tyS (T : Txt K mg A) {H : Hp} {a dx : Addr} {fs : List (Str × V)} (h : H a = some (.ins A.S dx fs)) : TyX K H (.ref a) (.ref A.S) := .base (.ins h T.cS T.haS T.hn T.htk T.hmS)
/-- lowest terms: the same pair exactly where the same worth -/
theorem low_same {n m : Nat} {p q : Int × Int} (sp : Sm n p) (sq : Sm m q) (cp : Int.gcd p.1 p.2 = 1) (cq : Int.gcd q.1 q.2 = 1) : p = q ↔ vl p = vl q := by
  constructor
  · intro h; rw [h]
  · intro h
    have := low_is sp cp sq h
    rw [this]
    exact lo_self sq.pos cq
/-- == of two Ratios -/
theorem rd_eq (T : Txt K mg A) {n m : Nat} {a b : Addr} {x y : Rat} {H : Hp} {Q : VK} {E : XK} (ha : RatV A.C H n a x) (hb : RatV A.C H m b y) (k : Q (.bl (decide (x = y))) H) : rEqR K A.C (Fc.spEq K A.C) E (.ref a) (.ref b) H Q := by
  obtain ⟨p, ⟨dx, h1⟩, sp, cp, rfl⟩ := ha
  obtain ⟨q, ⟨dy, h2⟩, sq, cq, rfl⟩ := hb
  have e : decide (p = q) = decide (vl p = vl q) := decide_eq_decide.mpr (low_same sp sq cp cq)
  exact .inl ⟨a, dx, _, _, rfl, h1, tyR T h2, nf_self, a, _, p, rfl, ⟨dx, h1⟩, .inl ⟨b, q, _, rfl, ⟨dy, h2⟩, e.symm, k⟩⟩
def spSEq (K : PySem.W.Frag) (A : Ad) : Sp := fun vs H Q _ => ∃ (a : Addr) (y : V) (x1 y1 : Rat), vs = [.ref a, y] ∧ SpV A.S A.C H 2001 a x1 y1 ∧
  ((∃ (b : Addr) (x2 y2 : Rat), y = .ref b ∧ SpV A.S A.C H 2001 b x2 y2 ∧ Q (.bl (decide (x1 = x2) && decide (y1 = y2))) H) ∨
   (∃ t, TyX K H y t ∧ PySem.W.kitOne K t (.ref A.S) = some false ∧ Q (.bl false) H))
theorem ok_seq (T : Txt K mg A) : FnOk P w K mg base CX0 2 A.f_seq A.d_seq ["self", "other"] (spSEq K A) := by
  refine T.F_seq.ok sc_seq (fun vs H Q E h => ?_) (fun cdv Ar outer s H vs Q E hr h => ?_)
  · obtain ⟨a, y, x1, y1, rfl, _⟩ := h
    rfl
  · obtain ⟨a, y, x1, y1, rfl, ⟨dx, l1, h1, ha, hl1, hh1⟩, h⟩ := h
    refine ⟨_, (pss_one (ps_ret (pe_and (pe_callB call_isi (by rfl) T.n_isinstance (by decide +kernel) (pa_cons (pv 1) (pa_cons (pe_glob (v := .ref A.S) rfl T.g_Span rfl) pa_nil))) (pe_and (pe_cmpR (op_eqR T.sub T.m_eq.at_ T.m_eq.fn (ok_eq T) (hr.mono (by decide)) T.b_eq pass0) (pe_fld (pv 0) rfl) (pe_fld (pv 1) rfl) (nomark _)) (pe_one (pe_cmpR (op_eqR T.sub T.m_eq.at_ T.m_eq.fn (ok_eq T) (hr.mono (by decide)) T.b_eq pass0) (pe_fld (pv 0) rfl) (pe_fld (pv 1) rfl) (nomark _))))))), ?_⟩
    rcases h with ⟨b, x2, y2, rfl, ⟨dy, l2, h2, hb, hl2, hh2⟩, k⟩ | ⟨t, ty, kt, k⟩
    · refine ⟨_, rfl, .ref b, .ref A.S, .ref A.S, .ref A.S, true, rfl, .own _, tyS T hb, kit_self, true, rfl, ?_⟩
      refine ⟨_, rfl, _, _, _, _, _, rfl, ha, T.cS, T.nL, sf_low _ _, _, rfl, _, _, _, _, _, rfl, hb, T.cS, T.nL, sf_low _ _, rd_eq T hl1 hl2 ?_⟩
      by_cases c : x1 = x2
      · rw [decide_eq_true c, Bool.true_and] at k
        refine ⟨true, congrArg V.bl (decide_eq_true c), ?_⟩
        exact ⟨_, rfl, _, _, _, _, _, rfl, ha, T.cS, T.nH, sf_high _ _, _, rfl, _, _, _, _, _, rfl, hb, T.cS, T.nH, sf_high _ _, rd_eq T hh1 hh2 k⟩
      · rw [decide_eq_false c, Bool.false_and] at k
        exact ⟨false, congrArg V.bl (decide_eq_false c), k⟩
    · exact ⟨_, rfl, y, .ref A.S, t, .ref A.S, false, rfl, .own _, ty, kt, false, rfl, k⟩
end
end Fc
set_option Elab.async false
set_option linter.all false
set_option maxRecDepth 100000
set_option maxHeartbeats 4000000
set_option exponentiation.threshold 100000
namespace Fc
open PySem PySem.Spec PyProof.Rows L2 L2H
section
variable {P : Program} {w : World} {K : PySem.W.Frag} {mg : Str → Option Value} {base : Heap} {A : Ad}
/-! ### the law's own fractions -/
def spLess : Sp := fun vs H Q _ => ∃ (a b : Addr) (x y : Rat), vs = [.ref a, .ref b] ∧ PrV H 1000 a x ∧ PrV H 1000 b y ∧ Q (.bl (decide (x < y))) H
theorem ok_less (T : Txt K mg A) : FnOk P w K mg base CX0 1 A.f_less A.d_less ["p", "q"] spLess := by
  refine T.F_less.ok sc_less (fun vs H Q E h => ?_) (fun cdv Ar outer s H vs Q E hr h => ?_)
  · obtain ⟨a, b, x, y, rfl, _⟩ := h
    rfl
  · obtain ⟨a, b, x, y, rfl, ⟨p, hp, sp, rfl⟩, ⟨q, hq, sq, rfl⟩, k⟩ := h
    refine ⟨_, (pss_one (ps_ret (pe_cmpR op_lt (pe_op op_mulW (pe_ix ix_tup (pv 0) pe_int (fun _ _ => rfl)) (pe_ix ix_tup (pv 1) pe_int (fun _ _ => rfl))) (pe_op op_mulW (pe_ix ix_tup (pv 1) pe_int (fun _ _ => rfl)) (pe_ix ix_tup (pv 0) pe_int (fun _ _ => rfl))) (nomark _)))), ?_⟩
    refine ⟨_, rfl, _, _, _, _, rfl, rfl, SqT.of (hp), rfl, _, rfl, _, _, _, _, rfl, rfl, SqT.of (hq), rfl, _, _, rfl, rfl, sp.t.w sq.b, _, rfl, _, _, _, _, rfl, rfl, SqT.of (hq), rfl, _, rfl, _, _, _, _, rfl, rfl, SqT.of (hp), rfl, _, _, rfl, rfl, sq.t.w sp.b, _, _, rfl, rfl, ?_⟩
    have e : decide (p.1 * q.2 < q.1 * p.2) = decide (vl p < vl q) := decide_eq_decide.mpr (vl_lt sp.pos sq.pos).symm
    rw [← e] at k
    exact k
def spPlus : Sp := fun vs H Q _ => ∃ (a b : Addr) (x y : Rat) (n m : Nat), vs = [.ref a, .ref b] ∧ PrV H n a x ∧ PrV H m b y ∧ 0 < n ∧ 0 < m ∧ n + m ≤ 10000 ∧ ∀ c H', Ex H H' → H c = none → PrV H' (n + m + 1) c (x + y) → Q (.ref c) H'
theorem ok_plus (T : Txt K mg A) : FnOk P w K mg base CX0 1 A.f_plus A.d_plus ["p", "q"] spPlus := by
  refine T.F_plus.ok sc_plus (fun vs H Q E h => ?_) (fun cdv Ar outer s H vs Q E hr h => ?_)
  · obtain ⟨a, b, x, y, n, m, rfl, _⟩ := h
    rfl
  · obtain ⟨a, b, x, y, n, m, rfl, ⟨p, hp, sp, rfl⟩, ⟨q, hq, sq, rfl⟩, n0, m0, nm, k⟩ := h
    refine ⟨_, (pss_one (ps_ret (pe_tup (pa_cons (pe_op op_add (pe_op op_mulW (pe_ix ix_tup (pv 0) pe_int (fun _ _ => rfl)) (pe_ix ix_tup (pv 1) pe_int (fun _ _ => rfl))) (pe_op op_mulW (pe_ix ix_tup (pv 1) pe_int (fun _ _ => rfl)) (pe_ix ix_tup (pv 0) pe_int (fun _ _ => rfl)))) (pa_cons (pe_op op_mulW (pe_ix ix_tup (pv 0) pe_int (fun _ _ => rfl)) (pe_ix ix_tup (pv 1) pe_int (fun _ _ => rfl))) pa_nil))))), ?_⟩
    refine ⟨_, rfl, _, _, _, _, rfl, rfl, SqT.of (hp), rfl, _, rfl, _, _, _, _, rfl, rfl, SqT.of (hq), rfl, _, _, rfl, rfl, sp.t.w sq.b n0 m0 (by omega), _, rfl, _, _, _, _, rfl, rfl, SqT.of (hq), rfl, _, rfl, _, _, _, _, rfl, rfl, SqT.of (hp), rfl, _, _, rfl, rfl, sq.t.w sp.b m0 n0 (by omega), _, _, rfl, rfl, _, rfl, _, _, _, _, rfl, rfl, SqT.of (hp), rfl, _, rfl, _, _, _, _, rfl, rfl, SqT.of (hq), rfl, _, _, rfl, rfl, sp.b.w sq.b n0 m0 (by omega), (by show 2 ≤ sizeLine; exact sz2), fun u hu => ?_⟩
    refine k u _ (Ex.new hu) hu ⟨(p.1 * q.2 + q.1 * p.2, p.2 * q.2), upd_same, ⟨(sp.t.mul sq.b).add ((sq.t.mul sp.b).mono (by omega)), (sp.b.mul sq.b).mono (by omega), Int.mul_pos sp.pos sq.pos⟩, v_add sp.ne sq.ne⟩
def spMinus : Sp := fun vs H Q _ => ∃ (a b : Addr) (x y : Rat) (n m : Nat), vs = [.ref a, .ref b] ∧ PrV H n a x ∧ PrV H m b y ∧ 0 < n ∧ 0 < m ∧ n + m ≤ 10000 ∧ ∀ c H', Ex H H' → H c = none → PrV H' (n + m + 1) c (x - y) → Q (.ref c) H'
theorem ok_minus (T : Txt K mg A) : FnOk P w K mg base CX0 1 A.f_minus A.d_minus ["p", "q"] spMinus := by
  refine T.F_minus.ok sc_minus (fun vs H Q E h => ?_) (fun cdv Ar outer s H vs Q E hr h => ?_)
  · obtain ⟨a, b, x, y, n, m, rfl, _⟩ := h
    rfl
  · obtain ⟨a, b, x, y, n, m, rfl, ⟨p, hp, sp, rfl⟩, ⟨q, hq, sq, rfl⟩, n0, m0, nm, k⟩ := h
    refine ⟨_, (pss_one (ps_ret (pe_tup (pa_cons (pe_op op_sub (pe_op op_mulW (pe_ix ix_tup (pv 0) pe_int (fun _ _ => rfl)) (pe_ix ix_tup (pv 1) pe_int (fun _ _ => rfl))) (pe_op op_mulW (pe_ix ix_tup (pv 1) pe_int (fun _ _ => rfl)) (pe_ix ix_tup (pv 0) pe_int (fun _ _ => rfl)))) (pa_cons (pe_op op_mulW (pe_ix ix_tup (pv 0) pe_int (fun _ _ => rfl)) (pe_ix ix_tup (pv 1) pe_int (fun _ _ => rfl))) pa_nil))))), ?_⟩
    refine ⟨_, rfl, _, _, _, _, rfl, rfl, SqT.of (hp), rfl, _, rfl, _, _, _, _, rfl, rfl, SqT.of (hq), rfl, _, _, rfl, rfl, sp.t.w sq.b n0 m0 (by omega), _, rfl, _, _, _, _, rfl, rfl, SqT.of (hq), rfl, _, rfl, _, _, _, _, rfl, rfl, SqT.of (hp), rfl, _, _, rfl, rfl, sq.t.w sp.b m0 n0 (by omega), _, _, rfl, rfl, _, rfl, _, _, _, _, rfl, rfl, SqT.of (hp), rfl, _, rfl, _, _, _, _, rfl, rfl, SqT.of (hq), rfl, _, _, rfl, rfl, sp.b.w sq.b n0 m0 (by omega), (by show 2 ≤ sizeLine; exact sz2), fun u hu => ?_⟩
    refine k u _ (Ex.new hu) hu ⟨(p.1 * q.2 - q.1 * p.2, p.2 * q.2), upd_same, ⟨(sp.t.mul sq.b).sub ((sq.t.mul sp.b).mono (by omega)), (sp.b.mul sq.b).mono (by omega), Int.mul_pos sp.pos sq.pos⟩, v_sub sp.ne sq.ne⟩
/-- the ends of a span, as the law holds them -/
def EnV (H : Hp) (n : Nat) (t : Addr) (x y : Rat) : Prop := ∃ a b, H t = some (.tup [.ref a, .ref b]) ∧ PrV H n a x ∧ PrV H n b y
theorem EnV.mono {H : Hp} {n m : Nat} {t : Addr} {x y : Rat} (h : EnV H n t x y) (l : n ≤ m) : EnV H m t x y := let ⟨a, b, z, u, v⟩ := h; ⟨a, b, z, u.mono l, v.mono l⟩
theorem EnV.ex {H H' : Hp} {n : Nat} {t : Addr} {x y : Rat} (h : EnV H n t x y) (e : Ex H H') : EnV H' n t x y := let ⟨a, b, z, u, v⟩ := h; ⟨a, b, e _ _ z, u.ex e, v.ex e⟩
theorem EnV.keep {H H' : Hp} {n : Nat} {t p : Addr} {x y : Rat} (h : EnV H n t x y) (pt : PotAt H p) (k : Keep p H H') : EnV H' n t x y := by
  obtain ⟨a, b, z, u, v⟩ := h
  refine ⟨a, b, k _ _ z ?_, u.keep pt k, v.keep pt k⟩
  obtain ⟨l, cs, i, c, ne, h1, h2, _⟩ := pt
  exact ne_of z h1 (by intro z; cases z)
theorem Keep.newk {p t : Addr} {H H' : Hp} {o : HO} (k : Keep p H H') (n : H' t = none) : Keep p H (L2.upd H' t o) := k.trans (Keep.new n)
theorem PrV.new {H : Hp} {u : Addr} {n : Nat} (q : Int × Int) (s : Sm n q) : PrV (upd H u (.tup [.int q.1, .int q.2])) n u (vl q) := ⟨q, upd_same, s, rfl⟩
def spEnds : Sp := fun vs H Q _ => ∃ (p : Addr), vs = [.ref p] ∧ PotAt H p ∧ ∀ t x y H', EnV H' 83 t x y → x ≤ y → PotAt H' p → Keep p H H' → Q (.ref t) H'
abbrev ab (z : Int) : Int := if z < 0 then -z else z
theorem Bd.ab {n : Nat} {z : Int} (h : Bd n z) : Bd n (ab z) := h.abs (by unfold Fc.ab; split <;> omega)
theorem ab_nn (z : Int) : 0 ≤ ab z := by unfold Fc.ab; split <;> omega
theorem one41 : Bd 41 (1 : Int) := bd_of (by decide)
theorem zer41 : Bd 41 (0 : Int) := bd_of (by decide)
theorem ok_ends (T : Txt K mg A) : FnOk P w K mg base CX0 3 A.f_ends A.d_ends ["pot"] spEnds := by
  refine T.F_ends.ok sc_ends (fun vs H Q E h => ?_) (fun cdv Ar outer s H vs Q E hr h => ?_)
  · obtain ⟨p, rfl, _⟩ := h
    rfl
  · obtain ⟨pt, rfl, pot, k⟩ := h
    refine ⟨_, (pss_cons (ps_set (i := 1) sc_ends.nd rfl (Or.inl rfl) (pe_call (ok_digit T) (hr.mono (by decide)) rfl T.g_digit T.F_digit.kp T.b_digit .nil pass0 (pa_cons (pv 0) (pa_cons pe_int pa_nil))))
      (C8.pss_cut (ps_set (i := 2) sc_ends.nd rfl (Or.inl rfl) (pe_call (ok_fraction T) (hr.mono (by decide)) rfl T.g_fraction T.F_fraction.kp T.b_fraction .nil pass0 (pa_cons (pv 0) pa_nil)))
      (pss_cons (ps_if (pt_cmpR op_eq (pv 1) pe_int (nomark _))
      (pss_one (ps_ret (pe_tup (pa_cons (pv 2) (pa_cons (pv 2) pa_nil))))) pss_nil)
      (C8.pss_cut (ps_set (i := 3) sc_ends.nd rfl (Or.inl rfl) (pe_call (ok_fraction T) (hr.mono (by decide)) rfl T.g_fraction T.F_fraction.kp T.b_fraction .nil pass0 (pa_cons (pv 0) pa_nil)))
      (pss_cons (ps_if (pt_cmpR op_eq (pv 1) pe_int (nomark _))
      (pss_one (ps_ret (pe_tup (pa_cons (pv 2) (pa_cons (pe_call (ok_plus T) (hr.mono (by decide)) rfl T.g_plus T.F_plus.kp T.b_plus .nil pass0 (pa_cons (pv 2) (pa_cons (pe_tup (pa_cons (pe_callB call_abs (by rfl) T.n_abs (by decide +kernel) (pa_cons (pe_ix ix_tup (pv 3) pe_int (fun _ _ => rfl)) pa_nil)) (pa_cons (pe_ix ix_tup (pv 3) pe_int (fun _ _ => rfl)) pa_nil))) pa_nil))) pa_nil))))) pss_nil)
      (pss_cons (ps_if (pt_cmpR op_eq (pv 1) pe_int (nomark _))
      (pss_one (ps_ret (pe_tup (pa_cons (pe_tup (pa_cons (pe_un un_neg (pe_callB call_abs (by rfl) T.n_abs (by decide +kernel) (pa_cons (pe_ix ix_tup (pv 2) pe_int (fun _ _ => rfl)) pa_nil))) (pa_cons (pe_ix ix_tup (pv 2) pe_int (fun _ _ => rfl)) pa_nil))) (pa_cons (pe_tup (pa_cons (pe_callB call_abs (by rfl) T.n_abs (by decide +kernel) (pa_cons (pe_ix ix_tup (pv 3) pe_int (fun _ _ => rfl)) pa_nil)) (pa_cons (pe_ix ix_tup (pv 3) pe_int (fun _ _ => rfl)) pa_nil))) pa_nil))))) pss_nil)
      (pss_cons (ps_if (pt_cmpR op_eq (pv 1) pe_int (nomark _))
      (pss_one (ps_ret (pe_tup (pa_cons (pe_tup (pa_cons pe_int (pa_cons pe_int pa_nil))) (pa_cons (pe_tup (pa_cons (pe_callB call_abs (by rfl) T.n_abs (by decide +kernel) (pa_cons (pe_ix ix_tup (pv 3) pe_int (fun _ _ => rfl)) pa_nil)) (pa_cons (pe_ix ix_tup (pv 3) pe_int (fun _ _ => rfl)) pa_nil))) pa_nil))))) pss_nil)
      (pss_cons (ps_if (pt_cmpR op_eq (pv 1) pe_int (nomark _))
      (pss_one (ps_ret (pe_tup (pa_cons (pe_tup (pa_cons (pe_un un_neg (pe_callB call_abs (by rfl) T.n_abs (by decide +kernel) (pa_cons (pe_ix ix_tup (pv 3) pe_int (fun _ _ => rfl)) pa_nil))) (pa_cons (pe_ix ix_tup (pv 3) pe_int (fun _ _ => rfl)) pa_nil))) (pa_cons (pe_tup (pa_cons pe_int (pa_cons pe_int pa_nil))) pa_nil))))) pss_nil)
      (pss_cons (ps_if (pt_val (pe_call (ok_less T) (hr.mono (by decide)) rfl T.g_less T.F_less.kp T.b_less .nil pass0 (pa_cons (pv 3) (pa_cons (pv 2) pa_nil))))
      (pss_one (ps_ret (pe_tup (pa_cons (pv 3) (pa_cons (pv 2) pa_nil))))) pss_nil)
      (pss_one (ps_ret (pe_tup (pa_cons (pv 2) (pa_cons (pv 3) pa_nil)))))))))))))), ?_⟩
    have fin : ∀ (a b : Addr) (x y : Rat) (H' : Hp), PrV H' 83 a x → PrV H' 83 b y → x ≤ y → PotAt H' pt → Keep pt H H' → ∀ t, H' t = none → Q (.ref t) (upd H' t (.tup [.ref a, .ref b])) := fun a b x y H' ha hb le p1 k1 t ht =>
      k t x y _ ⟨a, b, upd_same, ha.ex (Ex.new ht), hb.ex (Ex.new ht)⟩ le (p1.ex (Ex.new ht)) (k1.newk ht)
    refine ⟨_, rfl, pt, 6, rfl, pot, by decide, bd_of (by decide), fun d0 H0 a0 b0 pot0 k0 => ?_⟩
    refine ⟨fun sl H' => ∃ (a : Addr) (x : Rat) (kd : Int) (q : Int × Int), sl = [some (.ref pt), some (.int kd), some (.ref a), none] ∧ Pr H' a q ∧ Sm 41 q ∧ PotAt H' pt ∧ Keep pt H H', ?_, ?_⟩
    · refine ⟨_, rfl, pt, rfl, pot0, fun t q H' hq nt sq p1 k1 => ?_⟩
      exact ⟨t, 0, _, q, rfl, hq, sq, p1, k0.trans k1⟩
    rintro sl H1 ⟨a, x, kd, q, rfl, hq, sq, p1, k1⟩
    have s83 : ∀ {r : Int × Int}, Sm 41 r → Sm 83 r := fun h => h.mono (by decide)
    refine ⟨_, rfl, rfl, _, rfl, ite2 (fun _ => ?_) (fun _ => ?_)⟩
    · exact ⟨_, rfl, _, rfl, (by show 2 ≤ sizeLine; exact sz2), fun t ht => fin a a _ _ H1 ⟨q, hq, s83 sq, rfl⟩ ⟨q, hq, s83 sq, rfl⟩ (by grind) p1 k1 t ht⟩
    refine ⟨fun sl H' => ∃ (b : Addr) (r : Int × Int), sl = [some (.ref pt), some (.int kd), some (.ref a), some (.ref b)] ∧ Pr H' a q ∧ Pr H' b r ∧ Sm 41 r ∧ PotAt H' pt ∧ Keep pt H H', ?_, ?_⟩
    · refine ⟨_, rfl, pt, rfl, p1, fun t r H' hr nt sr p2 k2 => ?_⟩
      exact ⟨t, r, rfl, hq.keep p1 k2, hr, sr, p2, k1.trans k2⟩
    clear hq p1 k1
    rintro sl H1 ⟨b, r, rfl, hq, hr', sr, p1, k1⟩
    have vr := vl_mul sr.ne
    refine ⟨_, rfl, rfl, _, rfl, ite2 (fun _ => ?_) (fun _ => ?_)⟩
    · refine ⟨_, rfl, _, rfl, _, rfl, _, _, _, _, rfl, rfl, SqT.of (hr'), rfl, r.1, rfl, _, rfl, _, _, _, _, rfl, rfl, SqT.of (hr'), rfl, (by show 2 ≤ sizeLine; exact sz2), fun u hu => ?_⟩
      have hs : Sm 41 (ab r.1, r.2) := ⟨sr.t.ab, sr.b, sr.pos⟩
      refine ⟨a, u, vl q, vl (ab r.1, r.2), 41, 41, rfl, ⟨q, hq.ex (Ex.new hu), sq, rfl⟩, PrV.new (ab r.1, r.2) hs, by decide, by decide, by decide, fun c H2 e2 nc hc => ?_⟩
      refine ⟨(by show 2 ≤ sizeLine; exact sz2), fun t ht => ?_⟩
      have nn := (v_nn (q := (ab r.1, r.2)) sr.pos).mpr (ab_nn _)
      exact fin a c _ _ H2 ⟨q, (hq.ex (Ex.new hu)).ex e2, s83 sq, rfl⟩ hc (by grind) ((p1.ex (Ex.new hu)).ex e2) ((k1.newk hu).trans (Keep.of e2)) t ht
    refine ⟨_, rfl, rfl, _, rfl, ite2 (fun _ => ?_) (fun _ => ?_)⟩
    · refine ⟨_, rfl, _, _, _, _, rfl, rfl, SqT.of (hq), rfl, q.1, rfl, _, rfl, _, rfl, _, _, _, _, rfl, rfl, SqT.of (hq), rfl, (by show 2 ≤ sizeLine; exact sz2), fun u hu => ?_⟩
      have e1 : Ex H1 (upd H1 u (.tup [.int (-ab q.1), .int q.2])) := Ex.new hu
      refine ⟨_, rfl, _, _, _, _, rfl, rfl, SqT.of (e1 _ _ hr'), rfl, r.1, rfl, _, rfl, _, _, _, _, rfl, rfl, SqT.of (e1 _ _ hr'), rfl, (by show 2 ≤ sizeLine; exact sz2), fun v hv => ⟨(by show 2 ≤ sizeLine; exact sz2), fun t ht => ?_⟩⟩
      have h1 : Sm 83 (-ab q.1, q.2) := s83 ⟨sq.t.ab.neg, sq.b, sq.pos⟩
      have h2 : Sm 83 (ab r.1, r.2) := s83 ⟨sr.t.ab, sr.b, sr.pos⟩
      have n1 := (v_np (q := (-ab q.1, q.2)) sq.pos).mpr (by have := ab_nn q.1; show -ab q.1 ≤ 0; omega)
      have n2 := (v_nn (q := (ab r.1, r.2)) sr.pos).mpr (ab_nn _)
      exact fin u v _ _ _ ((PrV.new (-ab q.1, q.2) h1).ex (Ex.new hv)) (PrV.new (ab r.1, r.2) h2) (by grind) ((p1.ex e1).ex (Ex.new hv)) ((k1.newk hu).newk hv) t ht
    have z83 : Sm 83 ((0, 1) : Int × Int) := s83 ⟨zer41, one41, by decide⟩
    have zv : vl ((0, 1) : Int × Int) = 0 := (v_zero (by decide)).mpr rfl
    refine ⟨_, rfl, rfl, _, rfl, ite2 (fun _ => ?_) (fun _ => ?_)⟩
    · refine ⟨(by show 2 ≤ sizeLine; exact sz2), fun u hu => ?_⟩
      have e1 : Ex H1 (upd H1 u (.tup [.int 0, .int 1])) := Ex.new hu
      refine ⟨_, rfl, _, _, _, _, rfl, rfl, SqT.of (e1 _ _ hr'), rfl, r.1, rfl, _, rfl, _, _, _, _, rfl, rfl, SqT.of (e1 _ _ hr'), rfl, (by show 2 ≤ sizeLine; exact sz2), fun v hv => ⟨(by show 2 ≤ sizeLine; exact sz2), fun t ht => ?_⟩⟩
      have h2 : Sm 83 (ab r.1, r.2) := s83 ⟨sr.t.ab, sr.b, sr.pos⟩
      have n2 := (v_nn (q := (ab r.1, r.2)) sr.pos).mpr (ab_nn _)
      exact fin u v _ _ _ ((PrV.new (0, 1) z83).ex (Ex.new hv)) (PrV.new (ab r.1, r.2) h2) (by grind) ((p1.ex e1).ex (Ex.new hv)) ((k1.newk hu).newk hv) t ht
    refine ⟨_, rfl, rfl, _, rfl, ite2 (fun _ => ?_) (fun _ => ?_)⟩
    · refine ⟨_, rfl, _, _, _, _, rfl, rfl, SqT.of (hr'), rfl, r.1, rfl, _, rfl, _, rfl, _, _, _, _, rfl, rfl, SqT.of (hr'), rfl, (by show 2 ≤ sizeLine; exact sz2), fun u hu => ?_⟩
      refine ⟨(by show 2 ≤ sizeLine; exact sz2), fun v hv => ⟨(by show 2 ≤ sizeLine; exact sz2), fun t ht => ?_⟩⟩
      have e1 : Ex H1 (upd H1 u (.tup [.int (-ab r.1), .int r.2])) := Ex.new hu
      have h1 : Sm 83 (-ab r.1, r.2) := s83 ⟨sr.t.ab.neg, sr.b, sr.pos⟩
      have n1 := (v_np (q := (-ab r.1, r.2)) sr.pos).mpr (by have := ab_nn r.1; show -ab r.1 ≤ 0; omega)
      exact fin u v _ _ _ ((PrV.new (-ab r.1, r.2) h1).ex (Ex.new hv)) (PrV.new (0, 1) z83) (by grind) ((p1.ex e1).ex (Ex.new hv)) ((k1.newk hu).newk hv) t ht
    refine ⟨_, rfl, _, rfl, b, a, vl r, vl q, rfl, ⟨r, hr', sr.mono (by decide), rfl⟩, ⟨q, hq, sq.mono (by decide), rfl⟩, _, rfl, ?_⟩
    by_cases c : vl r < vl q
    · refine ite2 (fun _ => ?_) (fun n => absurd (decide_eq_true c) n)
      exact ⟨_, rfl, _, rfl, (by show 2 ≤ sizeLine; exact sz2), fun t ht => fin b a _ _ H1 ⟨r, hr', s83 sr, rfl⟩ ⟨q, hq, s83 sq, rfl⟩ (by grind) p1 k1 t ht⟩
    · refine ite2 (fun z => absurd (of_decide_eq_true z) c) (fun _ => ?_)
      exact ⟨_, rfl, _, rfl, (by show 2 ≤ sizeLine; exact sz2), fun t ht => fin a b _ _ H1 ⟨q, hq, s83 sq, rfl⟩ ⟨r, hr', s83 sr, rfl⟩ (by grind) p1 k1 t ht⟩
theorem sz7 : 7 ≤ sizeLine := by rw [sizeLine_eq]; decide
theorem v_six {q : Int × Int} (hq : q.2 ≠ 0) (c : Int) : vl (q.1 * c, q.2 * 6) = vl q * ((c : Rat) / 6) := by
  have e := vl_mul hq
  have n := cast_ne (Int.mul_ne_zero hq (by decide : (6 : Int) ≠ 0))
  have m := cast_ne hq
  show ((q.1 * c : Int) : Rat) / ((q.2 * 6 : Int) : Rat) = _
  refine div_is n ?_
  rw [cast_mul, cast_mul, ← e]
  show vl q * ((c : Rat) / 6) * ((q.2 : Rat) * (6 : Rat)) = _
  grind
theorem mid {x y : Rat} {c : Int} (le : x ≤ y) (c0 : 0 ≤ c) (c6 : c ≤ 6) : x ≤ x + (y - x) * ((c : Rat) / 6) ∧ x + (y - x) * ((c : Rat) / 6) ≤ y := by
  have a : (0 : Rat) ≤ (c : Rat) := Rat.intCast_le_intCast.mpr c0
  have b : (c : Rat) ≤ ((6 : Int) : Rat) := Rat.intCast_le_intCast.mpr c6
  have b' : (c : Rat) ≤ 6 := b
  have p := Rat.mul_nonneg (a := y - x) (b := (c : Rat) / 6) (by grind) (by grind)
  have q := Rat.mul_nonneg (a := y - x) (b := 1 - (c : Rat) / 6) (by grind) (by grind)
  constructor <;> grind
def spBetween : Sp := fun vs H Q _ => ∃ (pt s : Addr) (n : Nat) (x y : Rat), vs = [.ref pt, .ref s] ∧ PotAt H pt ∧ EnV H n s x y ∧ 0 < n ∧ n ≤ 300 ∧ x ≤ y ∧ ∀ u v H', PrV H' (3 * n + 5) u v → x ≤ v → v ≤ y → PotAt H' pt → Keep pt H H' → Q (.ref u) H'
theorem ok_between (T : Txt K mg A) : FnOk P w K mg base CX0 2 A.f_between A.d_between ["pot", "s"] spBetween := by
  refine T.F_between.ok sc_between (fun vs H Q E h => ?_) (fun cdv Ar outer s H vs Q E hr h => ?_)
  · obtain ⟨pt, s, n, x, y, rfl, _⟩ := h
    rfl
  · obtain ⟨pt, s, n, x, y, rfl, pot, en, n0, n3, le, k⟩ := h
    refine ⟨_, (pss_cons (ps_set (i := 2) sc_between.nd rfl (Or.inl rfl) (pe_ix ix_list (pe_lst (pa_cons pe_int (pa_cons pe_int (pa_cons pe_int (pa_cons pe_int (pa_cons pe_int (pa_cons pe_int (pa_cons pe_int pa_nil)))))))) (pe_call (ok_digit T) (hr.mono (by decide)) rfl T.g_digit T.F_digit.kp T.b_digit .nil pass0 (pa_cons (pv 0) (pa_cons pe_int pa_nil))) (fun _ _ => rfl)))
      (pss_cons (ps_set (i := 3) sc_between.nd rfl (Or.inl rfl) (pe_call (ok_minus T) (hr.mono (by decide)) rfl T.g_minus T.F_minus.kp T.b_minus .nil pass0 (pa_cons (pe_ix ix_tup (pv 1) pe_int (fun _ _ => rfl)) (pa_cons (pe_ix ix_tup (pv 1) pe_int (fun _ _ => rfl)) pa_nil))))
      (pss_one (ps_ret (pe_call (ok_plus T) (hr.mono (by decide)) rfl T.g_plus T.F_plus.kp T.b_plus .nil pass0 (pa_cons (pe_ix ix_tup (pv 1) pe_int (fun _ _ => rfl)) (pa_cons (pe_tup (pa_cons (pe_op op_mulW (pe_ix ix_tup (pv 3) pe_int (fun _ _ => rfl)) (pv 2)) (pa_cons (pe_op op_mulW (pe_ix ix_tup (pv 3) pe_int (fun _ _ => rfl)) pe_int) pa_nil))) pa_nil))))))), ?_⟩
    refine ⟨(by show 7 ≤ sizeLine; exact sz7), fun L hL => ?_⟩
    have e0 : Ex H (upd H L (.lst [.int 3, .int 0, .int 6, .int 1, .int 2, .int 4, .int 5])) := Ex.new hL
    have gL : upd H L (.lst [.int 3, .int 0, .int 6, .int 1, .int 2, .int 4, .int 5]) L = some (.lst [.int 3, .int 0, .int 6, .int 1, .int 2, .int 4, .int 5]) := upd_same
    generalize upd H L (.lst [.int 3, .int 0, .int 6, .int 1, .int 2, .int 4, .int 5]) = H0 at e0 gL ⊢
    have pot0 := pot.ex e0
    have nL : L ≠ pt := fun e => by rw [e, pot.choose_spec.choose_spec.choose_spec.choose_spec.2.1] at hL; cases hL
    refine ⟨_, rfl, pt, 7, rfl, pot0, by decide, bd_of (by decide), fun d H1 d0 d7 pot1 k1 => ?_⟩
    have gL1 := k1 _ _ gL nL
    have K1 : Keep pt H H1 := (Keep.of e0).trans k1
    obtain ⟨c, hc, c0, c6, bc⟩ : ∃ c : Int, atI ([.int 3, .int 0, .int 6, .int 1, .int 2, .int 4, .int 5] : List V) d = some (.int c) ∧ 0 ≤ c ∧ c ≤ 6 ∧ Bd 3 c := by
      have : d = 0 ∨ d = 1 ∨ d = 2 ∨ d = 3 ∨ d = 4 ∨ d = 5 ∨ d = 6 := by omega
      rcases this with rfl | rfl | rfl | rfl | rfl | rfl | rfl
      · exact ⟨3, rfl, by decide, by decide, bd_of (by decide)⟩
      · exact ⟨0, rfl, by decide, by decide, bd_of (by decide)⟩
      · exact ⟨6, rfl, by decide, by decide, bd_of (by decide)⟩
      · exact ⟨1, rfl, by decide, by decide, bd_of (by decide)⟩
      · exact ⟨2, rfl, by decide, by decide, bd_of (by decide)⟩
      · exact ⟨4, rfl, by decide, by decide, bd_of (by decide)⟩
      · exact ⟨5, rfl, by decide, by decide, bd_of (by decide)⟩
    refine ⟨_, _, _, _, rfl, rfl, SqL.of gL1, hc, ?_⟩
    obtain ⟨a, b, hs, ⟨p, hp, sp, rfl⟩, ⟨q, hq, sq, rfl⟩⟩ := en.keep pot K1
    refine ⟨_, rfl, _, _, _, _, rfl, rfl, SqT.of (hs), rfl, _, rfl, _, _, _, _, rfl, rfl, SqT.of (hs), rfl, b, a, vl q, vl p, n, n, rfl, ⟨q, hq, sq, rfl⟩, ⟨p, hp, sp, rfl⟩, n0, n0, by omega, fun wy H3 E3 nw hw => ?_⟩
    obtain ⟨r, hr3, sr, vr⟩ := hw
    refine ⟨_, rfl, _, _, _, _, rfl, rfl, SqT.of (E3 _ _ hs), rfl, _, rfl, _, _, _, _, rfl, rfl, SqT.of (hr3), rfl, _, rfl, _, _, rfl, rfl, sr.t.w bc (by omega) (by decide) (by omega), _, rfl, _, _, _, _, rfl, rfl, SqT.of (hr3), rfl, _, _, rfl, rfl, sr.b.w (show Bd 3 (6 : Int) from bd_of (by decide)) (by omega) (by decide) (by omega), (by show 2 ≤ sizeLine; exact sz2), fun v hv => ?_⟩
    have sm : Sm (2 * n + 4) (r.1 * c, r.2 * 6) := ⟨(sr.t.mul bc).mono (by omega), (sr.b.mul (show Bd 3 (6 : Int) from bd_of (by decide))).mono (by omega), Int.mul_pos sr.pos (by decide)⟩
    refine ⟨a, v, vl p, vl (r.1 * c, r.2 * 6), n, 2 * n + 4, rfl, ⟨p, (E3 _ _ hp : _).trans (by rfl) |> fun z => (Ex.new hv) _ _ z, sp, rfl⟩, PrV.new (r.1 * c, r.2 * 6) sm, n0, by omega, by omega, fun t H4 e4 nt ht => ?_⟩
    have m := mid (c := c) le c0 c6
    rw [v_six sr.ne, vr] at ht
    refine k t _ H4 (ht.mono (by omega)) m.1 m.2 (((pot1.ex E3).ex (Ex.new hv)).ex e4) ?_
    exact (K1.trans (Keep.of E3)).trans ((Keep.new hv).trans (Keep.of e4))
end
end Fc
set_option Elab.async false
set_option linter.all false
set_option maxRecDepth 100000
set_option maxHeartbeats 4000000
set_option exponentiation.threshold 100000
namespace Fc
open PySem PySem.Spec PyProof.Rows L2 L2H
section
variable {P : Program} {w : World} {K : PySem.W.Frag} {mg : Str → Option Value} {base : Heap} {A : Ad}
def spLowest : Sp := fun vs H Q _ => ∃ (a : Addr) (p : Int × Int), vs = [.ref a] ∧ Pr H a p ∧ Sm 1000 p ∧ ∀ c H', Ex H H' → H c = none → Pr H' c (lo p.1 p.2) → Q (.ref c) H'
theorem ok_lowest (T : Txt K mg A) : FnOk P w K mg base CX0 1 A.f_lowest A.d_lowest ["p"] spLowest := by
  refine T.F_lowest.ok sc_lowest (fun vs H Q E h => ?_) (fun cdv Ar outer s H vs Q E hr h => ?_)
  · obtain ⟨a, p, rfl, _⟩ := h
    rfl
  · obtain ⟨a, p, rfl, hp, sp, k⟩ := h
    refine ⟨_, (pss_cons (ps_set (i := 1) sc_lowest.nd rfl (Or.inl rfl) (pe_callB call_abs (by rfl) T.n_abs (by decide +kernel) (pa_cons (pe_ix ix_tup (pv 0) pe_int (fun _ _ => rfl)) pa_nil)))
      (C8.pss_cut (ps_set (i := 2) sc_lowest.nd rfl (Or.inl rfl) (pe_ix ix_tup (pv 0) pe_int (fun _ _ => rfl)))
      (pss_cons (ps_for PassesOwn.never rfl (pi_range1 rfl T.n_range (pa_cons pe_int pa_nil)) (pg_name (i := 3) sc_lowest.nd rfl (Or.inl rfl))
      (pss_cons (ps_if (pt_cmpR op_eq (pv 2) pe_int (nomark _))
      (pss_one ps_break) pss_nil)
      (pss_cons (ps_set (i := 4) sc_lowest.nd rfl (Or.inl rfl) (pe_op op_mod (pe_callTy call_int1 (by rfl) T.n_int (by decide +kernel) (pa_cons (pv 1) pa_nil)) (pv 2)))
      (pss_cons (ps_set (i := 1) sc_lowest.nd rfl (Or.inl rfl) (pv 2))
      (pss_one (ps_set (i := 2) sc_lowest.nd rfl (Or.inl rfl) (pv 4)))))))
      (pss_one (ps_ret (pe_tup (pa_cons (pe_op op_fdivW (pe_ix ix_tup (pv 0) pe_int (fun _ _ => rfl)) (pv 1)) (pa_cons (pe_op op_fdivW (pe_ix ix_tup (pv 0) pe_int (fun _ _ => rfl)) (pv 1)) pa_nil)))))))), ?_⟩
    have fit : lo p.1 p.2 = (p.1 / (Int.gcd p.1 p.2 : Int), p.2 / (Int.gcd p.1 p.2 : Int)) := by
      unfold lo
      rw [if_neg (by have := sp.pos; omega)]
    have p0 := sp.pos
    have eg : Int.gcd p.1 p.2 = Nat.gcd (ab p.1).toNat p.2.toNat := by
      show Nat.gcd p.1.natAbs p.2.natAbs = _
      congr 1
      · unfold ab; split <;> omega
      · omega
    have gp : 0 < Int.gcd p.1 p.2 := Int.gcd_pos_of_ne_zero_right p.1 (by omega)
    have bg : Bd 1000 (Int.gcd p.1 p.2 : Int) := by
      refine sp.b.abs ?_
      have := Nat.le_of_dvd (by omega : 0 < p.2.natAbs) (Nat.gcd_dvd_right p.1.natAbs p.2.natAbs)
      show ((Nat.gcd p.1.natAbs p.2.natAbs : Nat) : Int).natAbs ≤ _
      omega
    refine ⟨_, rfl, _, _, _, _, rfl, rfl, SqT.of (hp), rfl, p.1, rfl, ?_⟩
    refine ⟨fun sl H' => sl = [some (.ref a), some (.int (ab p.1)), some (.int p.2), none, none] ∧ H' = H, ?_, ?_⟩
    · exact ⟨_, rfl, _, _, _, _, rfl, rfl, SqT.of (hp), rfl, rfl, rfl⟩
    rintro sl H' ⟨rfl, rfl⟩
    refine ⟨1500, rfl, by decide, by decide, for_range (lo := 0) (n := 1500) (fun i sl H2 => ∃ (x y : Nat) (v1 v2 : Option V), sl = [some (.ref a), some (.int (x : Int)), some (.int (y : Int)), v1, v2] ∧ H2 = H' ∧ Lu (Int.gcd p.1 p.2) (2 ^ 1000) i x y) ?_ ?_ ?_⟩
    · refine ⟨(ab p.1).toNat, p.2.toNat, none, none, ?_, rfl, ?_⟩
      · have e1 : (((ab p.1).toNat : Nat) : Int) = ab p.1 := by have := ab_nn p.1; omega
        have e2 : ((p.2.toNat : Nat) : Int) = p.2 := by omega
        rw [e1, e2]
      · rw [eg]
        refine Lu.start ?_
        have : p.2.natAbs < 2 ^ 1000 := sp.b
        omega
    · rintro i sl H2 hi ⟨x, y, v1, v2, rfl, rfl, eu⟩
      refine ⟨_, rfl, rfl, _, rfl, ite2 (fun c => ?_) (fun c => ?_)⟩
      · have y0 : y = 0 := by have := V.int.inj (of_decide_eq_true c); omega
        subst y0
        have ex := eu.zero
        subst ex
        refine ⟨_, rfl, _, _, _, _, rfl, rfl, SqT.of (hp), rfl, _, rfl, _, _, rfl, rfl, bg.div (by omega), _, rfl, _, _, _, _, rfl, rfl, SqT.of (hp), rfl, _, rfl, _, _, rfl, rfl, bg.div (by omega), (by show 2 ≤ sizeLine; exact sz2), fun u hu => ?_⟩
        exact k u _ (Ex.new hu) hu (by rw [fit]; exact upd_same)
      · have y0 : y ≠ 0 := fun z => c (by rw [z] <;> rfl)
        refine ⟨_, rfl, .inl ⟨_, rfl, _, rfl, _, _, rfl, rfl, (by show (0 : Int) < (y : Int); omega), _, rfl, _, rfl, y, x % y, some (.int (0 + (i : Int))), some (.int ((x : Int) % (y : Int))), ?_, rfl, eu.turn y0⟩⟩
        rw [Int.natCast_emod]
        rfl
    · rintro sl H2 ⟨x, y, v1, v2, rfl, rfl, eu⟩
      have y0 := eu.done (Nat.le_refl _)
      subst y0
      have ex := eu.zero
      subst ex
      refine ⟨_, rfl, _, _, _, _, rfl, rfl, SqT.of (hp), rfl, _, rfl, _, _, rfl, rfl, bg.div (by omega), _, rfl, _, _, _, _, rfl, rfl, SqT.of (hp), rfl, _, rfl, _, _, rfl, rfl, bg.div (by omega), (by show 2 ≤ sizeLine; exact sz2), fun u hu => ?_⟩
      exact k u _ (Ex.new hu) hu (by rw [fit]; exact upd_same)
theorem str_len_slash : ("/" : Str).length = 1 := rfl
def spWritten : Sp := fun vs H Q _ => ∃ (a : Addr) (p : Int × Int), vs = [.ref a] ∧ Pr H a p ∧ Sm 1000 p ∧ ∀ H', Ex H H' → Q (.str (rtx (lo p.1 p.2))) H'
theorem ok_written (T : Txt K mg A) : FnOk P w K mg base CX0 2 A.f_written A.d_written ["p"] spWritten := by
  refine T.F_written.ok sc_written (fun vs H Q E h => ?_) (fun cdv Ar outer s H vs Q E hr h => ?_)
  · obtain ⟨a, p, rfl, _⟩ := h
    rfl
  · obtain ⟨a, p, rfl, hp, sp, k⟩ := h
    refine ⟨_, (pss_cons (ps_set (i := 0) sc_written.nd rfl (Or.inl rfl) (pe_call (ok_lowest T) (hr.mono (by decide)) rfl T.g_lowest T.F_lowest.kp T.b_lowest .nil pass0 (pa_cons (pv 0) pa_nil)))
      (pss_cons (ps_if (pt_cmpR op_eq (pe_ix ix_tup (pv 0) pe_int (fun _ _ => rfl)) pe_int (nomark _))
      (pss_one (ps_ret (pe_callTy call_str_int (by rfl) T.n_str (by decide +kernel) (pa_cons (pe_ix ix_tup (pv 0) pe_int (fun _ _ => rfl)) pa_nil)))) pss_nil)
      (pss_one (ps_ret (pe_op op_add_str (pe_op op_add_str (pe_callTy call_str_int (by rfl) T.n_str (by decide +kernel) (pa_cons (pe_ix ix_tup (pv 0) pe_int (fun _ _ => rfl)) pa_nil)) pe_str) (pe_callTy call_str_int (by rfl) T.n_str (by decide +kernel) (pa_cons (pe_ix ix_tup (pv 0) pe_int (fun _ _ => rfl)) pa_nil))))))), ?_⟩
    have sl := Sm.lo sp.t sp.b sp.ne
    refine ⟨_, rfl, a, p, rfl, hp, sp, fun c H1 e1 nc hc => ?_⟩
    replace k := k H1 e1
    generalize lo p.1 p.2 = q at hc sl k
    unfold rtx at k
    refine ⟨_, rfl, _, _, _, _, rfl, rfl, SqT.of (hc), rfl, rfl, _, rfl, ?_⟩
    by_cases c1 : q.2 = 1
    · rw [if_pos c1] at k
      refine ite2 (fun _ => ?_) (fun n => absurd (decide_eq_true (by rw [c1])) n)
      exact ⟨_, rfl, _, _, _, _, rfl, rfl, SqT.of (hc), rfl, _, rfl, sl.t.lg, k⟩
    · rw [if_neg c1] at k
      refine ite2 (fun z => absurd (V.int.inj (of_decide_eq_true z)) c1) (fun _ => ?_)
      have l1 := itx_len sl.t.lg
      have l2 := itx_len sl.b.lg
      refine ⟨_, rfl, _, _, _, _, rfl, rfl, SqT.of (hc), rfl, _, rfl, sl.t.lg, itx q.1, "/", rfl, rfl, ?_, _, rfl, _, _, _, _, rfl, rfl, SqT.of (hc), rfl, _, rfl, sl.b.lg, itx q.1 ++ "/", itx q.2, rfl, rfl, ?_, k⟩
      · rw [str_len_slash, sizeLine_eq]; omega
      · rw [Str.length_append, str_len_slash, sizeLine_eq]; omega
def spEquals (A : Ad) : Sp := fun vs H Q _ => ∃ (t a : Addr) (r : Rat), vs = [.ref t, .ref a] ∧ RatV A.C H 2001 t r ∧ PrV H 1000 a r ∧ ∀ H', Ex H H' → Q (.bl true) H'
theorem ok_equals (T : Txt K mg A) : FnOk P w K mg base CX0 2 A.f_equals A.d_equals ["told", "p"] (spEquals A) := by
  refine T.F_equals.ok sc_equals (fun vs H Q E h => ?_) (fun cdv Ar outer s H vs Q E hr h => ?_)
  · obtain ⟨t, a, r, rfl, _⟩ := h
    rfl
  · obtain ⟨t, a, r, rfl, ⟨tp, ⟨dx, ht⟩, st, ct, vt⟩, ⟨p, hp, sp, vp⟩, k⟩ := h
    refine ⟨_, (pss_cons (ps_if (pt_not (pt_val (pe_callB call_isi (by rfl) T.n_isinstance (by decide +kernel) (pa_cons (pv 0) (pa_cons (pe_glob (v := .ref A.C) rfl T.g_Ratio rfl) pa_nil)))))
      (pss_one (ps_ret pe_bl)) pss_nil)
      (pss_cons (ps_if (PW.pt (pw_or (pt_not (pt_val (pe_callB call_isi (by rfl) T.n_isinstance (by decide +kernel) (pa_cons (pe_fld (pv 0) rfl) (pa_cons (pe_bltn (v := .ty "int") rfl T.n_int (by decide +kernel) rfl) pa_nil))))) (pw_or1 (pt_val (pe_callB call_isi (by rfl) T.n_isinstance (by decide +kernel) (pa_cons (pe_fld (pv 0) rfl) (pa_cons (pe_bltn (v := .ty "bool") rfl T.n_bool (by decide +kernel) rfl) pa_nil)))))))
      (pss_one (ps_ret pe_bl)) pss_nil)
      (pss_cons (ps_if (PW.pt (pw_or (pt_not (pt_val (pe_callB call_isi (by rfl) T.n_isinstance (by decide +kernel) (pa_cons (pe_fld (pv 0) rfl) (pa_cons (pe_bltn (v := .ty "int") rfl T.n_int (by decide +kernel) rfl) pa_nil))))) (pw_or1 (pt_val (pe_callB call_isi (by rfl) T.n_isinstance (by decide +kernel) (pa_cons (pe_fld (pv 0) rfl) (pa_cons (pe_bltn (v := .ty "bool") rfl T.n_bool (by decide +kernel) rfl) pa_nil)))))))
      (pss_one (ps_ret pe_bl)) pss_nil)
      (pss_one (ps_ret (pe_cmpR (op_eqD hr.units) (pe_tup (pa_cons (pe_fld (pv 0) rfl) (pa_cons (pe_fld (pv 0) rfl) pa_nil))) (pe_call (ok_lowest T) (hr.mono (by decide)) rfl T.g_lowest T.F_lowest.kp T.b_lowest .nil pass0 (pa_cons (pv 1) pa_nil)) (nomark _))))))), ?_⟩
    have same : tp = lo p.1 p.2 := low_is st ct sp (vt.trans vp.symm)
    have ii : ∀ n : Int, TyX K H (.int n) (.type "int") := fun n => .base (.int n)
    refine ⟨_, rfl, .ref t, .ref A.C, .ref A.C, .ref A.C, true, rfl, .own _, .base (.ins ht T.cl T.ha T.hn T.htk T.hm), kit_self, _, rfl, iteF ?_⟩
    refine ⟨_, rfl, _, _, _, _, _, rfl, ht, T.cl, T.nT, rf_top _, _, .ty "int", _, _, true, rfl, .ty _, ii _, kit_ty (by decide +kernel), _, rfl, iteF ?_⟩
    refine ⟨_, rfl, _, _, _, _, _, rfl, ht, T.cl, T.nT, rf_top _, _, .ty "bool", _, _, false, rfl, .ty _, ii _, kit_ty (by decide +kernel), _, rfl, iteF ?_⟩
    refine ⟨_, rfl, _, _, _, _, _, rfl, ht, T.cl, T.nB, rf_bot _, _, .ty "int", _, _, true, rfl, .ty _, ii _, kit_ty (by decide +kernel), _, rfl, iteF ?_⟩
    refine ⟨_, rfl, _, _, _, _, _, rfl, ht, T.cl, T.nB, rf_bot _, _, .ty "bool", _, _, false, rfl, .ty _, ii _, kit_ty (by decide +kernel), _, rfl, iteF ?_⟩
    refine ⟨_, rfl, _, _, _, _, _, rfl, ht, T.cl, T.nT, rf_top _, _, rfl, _, _, _, _, _, rfl, ht, T.cl, T.nB, rf_bot _, (by show 2 ≤ sizeLine; exact sz2), fun u hu => ?_⟩
    refine ⟨_, rfl, a, p, rfl, hp.ex (Ex.new hu), sp, fun c H1 e1 nc hc => ?_⟩
    have hu1 := e1 _ _ (upd_same (H := H) (a := u) (o := .tup [.int tp.1, .int tp.2]))
    rw [← same] at hc
    refine ⟨.tuple [.int tp.1, .int tp.2], .tuple [.int tp.1, .int tp.2], .tup (SqT.of hu1) (.cons (.int _) (.cons (.int _) .nil)), .tup (SqT.of hc) (.cons (.int _) (.cons (.int _) .nil)), rfl, rfl, ?_⟩
    rw [show PyData.eqv (.tuple [.int tp.1, .int tp.2]) (.tuple [.int tp.1, .int tp.2]) = true from PySem.SeqAt.eqv_refl _ rfl]
    exact k H1 ((Ex.new hu).trans e1)
end
end Fc
set_option Elab.async false
set_option linter.all false
set_option maxRecDepth 100000
set_option maxHeartbeats 4000000
set_option exponentiation.threshold 100000
namespace Fc
open PySem PySem.Spec PyProof.Rows L2 L2H
section
variable {P : Program} {w : World} {K : PySem.W.Frag} {mg : Str → Option Value} {base : Heap} {A : Ad}
/-! ### the same two, within an except suite -/
theorem okH_lowest (T : Txt K mg A) : FnH P w K mg base CX0 1 A.f_lowest A.d_lowest ["p"] spLowest := by
  refine fun_okH T.F_lowest sc_lowest (fun vs H Q E h => ?_) (fun cdv Ar outer s H vs Q E pp hr hc h => ?_)
  · obtain ⟨a, p, rfl, _⟩ := h
    rfl
  · obtain ⟨a, p, rfl, hp, sp, k⟩ := h
    refine ⟨_, (pss_cons (ps_set (i := 1) sc_lowest.nd rfl (Or.inl rfl) (pe_callB call_abs (by rfl) T.n_abs (by decide +kernel) (pa_cons (pe_ix ix_tup (pv 0) pe_int (fun _ _ => rfl)) pa_nil)))
      (C8.pss_cut (ps_set (i := 2) sc_lowest.nd rfl (Or.inl rfl) (pe_ix ix_tup (pv 0) pe_int (fun _ _ => rfl)))
      (pss_cons (ps_forH (passes_of rfl) hc (pi_range1H rfl T.n_range (pa_cons pe_int pa_nil)) (pg_name (i := 3) sc_lowest.nd rfl (Or.inl rfl))
      (pss_cons (ps_if (pt_cmpR op_eq (pv 2) pe_int (nomark _))
      (pss_one ps_break) pss_nil)
      (pss_cons (ps_set (i := 4) sc_lowest.nd rfl (Or.inl rfl) (pe_op op_mod (pe_callTy call_int1 (by rfl) T.n_int (by decide +kernel) (pa_cons (pv 1) pa_nil)) (pv 2)))
      (pss_cons (ps_set (i := 1) sc_lowest.nd rfl (Or.inl rfl) (pv 2))
      (pss_one (ps_set (i := 2) sc_lowest.nd rfl (Or.inl rfl) (pv 4)))))))
      (pss_one (ps_ret (pe_tup (pa_cons (pe_op op_fdivW (pe_ix ix_tup (pv 0) pe_int (fun _ _ => rfl)) (pv 1)) (pa_cons (pe_op op_fdivW (pe_ix ix_tup (pv 0) pe_int (fun _ _ => rfl)) (pv 1)) pa_nil)))))))), ?_⟩
    have fit : lo p.1 p.2 = (p.1 / (Int.gcd p.1 p.2 : Int), p.2 / (Int.gcd p.1 p.2 : Int)) := by
      unfold lo
      rw [if_neg (by have := sp.pos; omega)]
    have p0 := sp.pos
    have eg : Int.gcd p.1 p.2 = Nat.gcd (ab p.1).toNat p.2.toNat := by
      show Nat.gcd p.1.natAbs p.2.natAbs = _
      congr 1
      · unfold ab; split <;> omega
      · omega
    have gp : 0 < Int.gcd p.1 p.2 := Int.gcd_pos_of_ne_zero_right p.1 (by omega)
    have bg : Bd 1000 (Int.gcd p.1 p.2 : Int) := by
      refine sp.b.abs ?_
      have := Nat.le_of_dvd (by omega : 0 < p.2.natAbs) (Nat.gcd_dvd_right p.1.natAbs p.2.natAbs)
      show ((Nat.gcd p.1.natAbs p.2.natAbs : Nat) : Int).natAbs ≤ _
      omega
    refine ⟨_, rfl, _, _, _, _, rfl, rfl, SqT.of (hp), rfl, p.1, rfl, ?_⟩
    refine ⟨fun sl H' => sl = [some (.ref a), some (.int (ab p.1)), some (.int p.2), none, none] ∧ H' = H, ?_, ?_⟩
    · exact ⟨_, rfl, _, _, _, _, rfl, rfl, SqT.of (hp), rfl, rfl, rfl⟩
    rintro sl H' ⟨rfl, rfl⟩
    refine ⟨1500, rfl, by decide, by decide, for_range (lo := 0) (n := 1500) (fun i sl H2 => ∃ (x y : Nat) (v1 v2 : Option V), sl = [some (.ref a), some (.int (x : Int)), some (.int (y : Int)), v1, v2] ∧ H2 = H' ∧ Lu (Int.gcd p.1 p.2) (2 ^ 1000) i x y) ?_ ?_ ?_⟩
    · refine ⟨(ab p.1).toNat, p.2.toNat, none, none, ?_, rfl, ?_⟩
      · have e1 : (((ab p.1).toNat : Nat) : Int) = ab p.1 := by have := ab_nn p.1; omega
        have e2 : ((p.2.toNat : Nat) : Int) = p.2 := by omega
        rw [e1, e2]
      · rw [eg]
        refine Lu.start ?_
        have : p.2.natAbs < 2 ^ 1000 := sp.b
        omega
    · rintro i sl H2 hi ⟨x, y, v1, v2, rfl, rfl, eu⟩
      refine ⟨_, rfl, rfl, _, rfl, ite2 (fun c => ?_) (fun c => ?_)⟩
      · have y0 : y = 0 := by have := V.int.inj (of_decide_eq_true c); omega
        subst y0
        have ex := eu.zero
        subst ex
        refine ⟨_, rfl, _, _, _, _, rfl, rfl, SqT.of (hp), rfl, _, rfl, _, _, rfl, rfl, bg.div (by omega), _, rfl, _, _, _, _, rfl, rfl, SqT.of (hp), rfl, _, rfl, _, _, rfl, rfl, bg.div (by omega), (by show 2 ≤ sizeLine; exact sz2), fun u hu => ?_⟩
        exact k u _ (Ex.new hu) hu (by rw [fit]; exact upd_same)
      · have y0 : y ≠ 0 := fun z => c (by rw [z] <;> rfl)
        refine ⟨_, rfl, .inl ⟨_, rfl, _, rfl, _, _, rfl, rfl, (by show (0 : Int) < (y : Int); omega), _, rfl, _, rfl, y, x % y, some (.int (0 + (i : Int))), some (.int ((x : Int) % (y : Int))), ?_, rfl, eu.turn y0⟩⟩
        rw [Int.natCast_emod]
        rfl
    · rintro sl H2 ⟨x, y, v1, v2, rfl, rfl, eu⟩
      have y0 := eu.done (Nat.le_refl _)
      subst y0
      have ex := eu.zero
      subst ex
      refine ⟨_, rfl, _, _, _, _, rfl, rfl, SqT.of (hp), rfl, _, rfl, _, _, rfl, rfl, bg.div (by omega), _, rfl, _, _, _, _, rfl, rfl, SqT.of (hp), rfl, _, rfl, _, _, rfl, rfl, bg.div (by omega), (by show 2 ≤ sizeLine; exact sz2), fun u hu => ?_⟩
      exact k u _ (Ex.new hu) hu (by rw [fit]; exact upd_same)
theorem okH_equals (T : Txt K mg A) : FnH P w K mg base CX0 2 A.f_equals A.d_equals ["told", "p"] (spEquals A) := by
  refine fun_okH T.F_equals sc_equals (fun vs H Q E h => ?_) (fun cdv Ar outer s H vs Q E pp hr hc h => ?_)
  · obtain ⟨t, a, r, rfl, _⟩ := h
    rfl
  · obtain ⟨t, a, r, rfl, ⟨tp, ⟨dx, ht⟩, st, ct, vt⟩, ⟨p, hp, sp, vp⟩, k⟩ := h
    refine ⟨_, (pss_cons (ps_if (pt_not (pt_val (pe_callB call_isi (by rfl) T.n_isinstance (by decide +kernel) (pa_cons (pv 0) (pa_cons (pe_glob (v := .ref A.C) rfl T.g_Ratio rfl) pa_nil)))))
      (pss_one (ps_ret pe_bl)) pss_nil)
      (pss_cons (ps_if (PW.pt (pw_or (pt_not (pt_val (pe_callB call_isi (by rfl) T.n_isinstance (by decide +kernel) (pa_cons (pe_fld (pv 0) rfl) (pa_cons (pe_bltn (v := .ty "int") rfl T.n_int (by decide +kernel) rfl) pa_nil))))) (pw_or1 (pt_val (pe_callB call_isi (by rfl) T.n_isinstance (by decide +kernel) (pa_cons (pe_fld (pv 0) rfl) (pa_cons (pe_bltn (v := .ty "bool") rfl T.n_bool (by decide +kernel) rfl) pa_nil)))))))
      (pss_one (ps_ret pe_bl)) pss_nil)
      (pss_cons (ps_if (PW.pt (pw_or (pt_not (pt_val (pe_callB call_isi (by rfl) T.n_isinstance (by decide +kernel) (pa_cons (pe_fld (pv 0) rfl) (pa_cons (pe_bltn (v := .ty "int") rfl T.n_int (by decide +kernel) rfl) pa_nil))))) (pw_or1 (pt_val (pe_callB call_isi (by rfl) T.n_isinstance (by decide +kernel) (pa_cons (pe_fld (pv 0) rfl) (pa_cons (pe_bltn (v := .ty "bool") rfl T.n_bool (by decide +kernel) rfl) pa_nil)))))))
      (pss_one (ps_ret pe_bl)) pss_nil)
      (pss_one (ps_ret (pe_cmpR (op_eqD hr.u64) (pe_tup (pa_cons (pe_fld (pv 0) rfl) (pa_cons (pe_fld (pv 0) rfl) pa_nil))) (pe_callH (okH_lowest T) (hr.mono (by decide)) hc rfl T.g_lowest T.F_lowest.kp T.b_lowest passH (pa_cons (pv 1) pa_nil)) (nomark _))))))), ?_⟩
    have same : tp = lo p.1 p.2 := low_is st ct sp (vt.trans vp.symm)
    have ii : ∀ n : Int, TyX K H (.int n) (.type "int") := fun n => .base (.int n)
    refine ⟨_, rfl, .ref t, .ref A.C, .ref A.C, .ref A.C, true, rfl, .own _, .base (.ins ht T.cl T.ha T.hn T.htk T.hm), kit_self, _, rfl, iteF ?_⟩
    refine ⟨_, rfl, _, _, _, _, _, rfl, ht, T.cl, T.nT, rf_top _, _, .ty "int", _, _, true, rfl, .ty _, ii _, kit_ty (by decide +kernel), _, rfl, iteF ?_⟩
    refine ⟨_, rfl, _, _, _, _, _, rfl, ht, T.cl, T.nT, rf_top _, _, .ty "bool", _, _, false, rfl, .ty _, ii _, kit_ty (by decide +kernel), _, rfl, iteF ?_⟩
    refine ⟨_, rfl, _, _, _, _, _, rfl, ht, T.cl, T.nB, rf_bot _, _, .ty "int", _, _, true, rfl, .ty _, ii _, kit_ty (by decide +kernel), _, rfl, iteF ?_⟩
    refine ⟨_, rfl, _, _, _, _, _, rfl, ht, T.cl, T.nB, rf_bot _, _, .ty "bool", _, _, false, rfl, .ty _, ii _, kit_ty (by decide +kernel), _, rfl, iteF ?_⟩
    refine ⟨_, rfl, _, _, _, _, _, rfl, ht, T.cl, T.nT, rf_top _, _, rfl, _, _, _, _, _, rfl, ht, T.cl, T.nB, rf_bot _, (by show 2 ≤ sizeLine; exact sz2), fun u hu => ?_⟩
    refine ⟨_, rfl, a, p, rfl, hp.ex (Ex.new hu), sp, fun c H1 e1 nc hc => ?_⟩
    have hu1 := e1 _ _ (upd_same (H := H) (a := u) (o := .tup [.int tp.1, .int tp.2]))
    rw [← same] at hc
    refine ⟨.tuple [.int tp.1, .int tp.2], .tuple [.int tp.1, .int tp.2], .tup (SqT.of hu1) (.cons (.int _) (.cons (.int _) .nil)), .tup (SqT.of hc) (.cons (.int _) (.cons (.int _) .nil)), rfl, rfl, ?_⟩
    rw [show PyData.eqv (.tuple [.int tp.1, .int tp.2]) (.tuple [.int tp.1, .int tp.2]) = true from PySem.SeqAt.eqv_refl _ rfl]
    exact k H1 ((Ex.new hu).trans e1)
end
end Fc
set_option Elab.async false
set_option linter.all false
set_option maxRecDepth 100000
set_option maxHeartbeats 4000000
set_option exponentiation.threshold 100000
namespace Fc
open PySem PySem.Spec PyProof.Rows L2 L2H
section
variable {P : Program} {w : World} {K : PySem.W.Frag} {mg : Str → Option Value} {base : Heap} {A : Ad}
def spIsSpan (A : Ad) : Sp := fun vs H Q _ => ∃ (t a b : Addr) (l u : Rat), vs = [.ref t, .ref a, .ref b] ∧ SpV A.S A.C H 2001 t l u ∧ PrV H 1000 a l ∧ PrV H 1000 b u ∧ ∀ H', Ex H H' → Q (.bl true) H'
theorem ok_isspan (T : Txt K mg A) : FnOk P w K mg base CX0 3 A.f_isspan A.d_isspan ["told", "low", "high"] (spIsSpan A) := by
  refine T.F_isspan.ok sc_isspan (fun vs H Q E h => ?_) (fun cdv Ar outer s H vs Q E hr h => ?_)
  · obtain ⟨t, a, b, l, u, rfl, _⟩ := h
    rfl
  · obtain ⟨t, a, b, l, u, rfl, ⟨dx, la, ha, ht, hl, hh⟩, pa, pb, k⟩ := h
    refine ⟨_, (pss_cons (ps_if (pt_not (pt_val (pe_callB call_isi (by rfl) T.n_isinstance (by decide +kernel) (pa_cons (pv 0) (pa_cons (pe_glob (v := .ref A.S) rfl T.g_Span rfl) pa_nil)))))
      (pss_one (ps_ret pe_bl)) pss_nil)
      (pss_one (ps_ret (pe_and (pe_call (ok_equals T) (hr.mono (by decide)) rfl T.g_equals T.F_equals.kp T.b_equals .nil pass0 (pa_cons (pe_fld (pv 0) rfl) (pa_cons (pv 1) pa_nil))) (pe_one (pe_call (ok_equals T) (hr.mono (by decide)) rfl T.g_equals T.F_equals.kp T.b_equals .nil pass0 (pa_cons (pe_fld (pv 0) rfl) (pa_cons (pv 2) pa_nil)))))))), ?_⟩
    refine ⟨_, rfl, .ref t, .ref A.S, .ref A.S, .ref A.S, true, rfl, .own _, tyS T ht, kit_self, _, rfl, iteF ?_⟩
    refine ⟨_, rfl, _, _, _, _, _, rfl, ht, T.cS, T.nL, sf_low _ _, _, rfl, la, a, l, rfl, hl, pa, fun H1 e1 => ⟨true, rfl, ?_⟩⟩
    exact ⟨_, rfl, _, _, _, _, _, rfl, e1 _ _ ht, T.cS, T.nH, sf_high _ _, _, rfl, ha, b, u, rfl, hh.ex e1, pb.ex e1, fun H2 e2 => k H2 (e1.trans e2)⟩
/-- two spans and their ends -/
structure TwoIn (A : Ad) (H : Hp) (a b s t : Addr) (x1 y1 x2 y2 : Rat) : Prop where
  a : SpV A.S A.C H 1000 a x1 y1
  b : SpV A.S A.C H 1000 b x2 y2
  s : EnV H 296 s x1 y1
  t : EnV H 296 t x2 y2
  le1 : x1 ≤ y1
  le2 : x2 ≤ y2
theorem TwoIn.ex {A : Ad} {H H' : Hp} {a b s t : Addr} {x1 y1 x2 y2 : Rat} (h : TwoIn A H a b s t x1 y1 x2 y2) (e : Ex H H') : TwoIn A H' a b s t x1 y1 x2 y2 := ⟨h.a.ex e, h.b.ex e, h.s.ex e, h.t.ex e, h.le1, h.le2⟩
theorem TwoIn.flip {A : Ad} {H : Hp} {a b s t : Addr} {x1 y1 x2 y2 : Rat} (h : TwoIn A H a b s t x1 y1 x2 y2) : TwoIn A H b a t s x2 y2 x1 y1 := ⟨h.b, h.a, h.t, h.s, h.le2, h.le1⟩
def spTwo (A : Ad) : Sp := fun vs H Q _ => ∃ (a b s t : Addr) (x1 y1 x2 y2 : Rat), vs = [.ref a, .ref b, .ref s, .ref t] ∧ TwoIn A H a b s t x1 y1 x2 y2 ∧ ∀ H', Ex H H' → Q (.bl true) H'
theorem ok_order (T : Txt K mg A) : FnOk P w K mg base CX0 3 A.f_order A.d_order ["a", "b", "s", "t"] (spTwo A) := by
  refine T.F_order.ok sc_order (fun vs H Q E h => ?_) (fun cdv Ar outer s H vs Q E hr h => ?_)
  · obtain ⟨a, b, s, t, x1, y1, x2, y2, rfl, _⟩ := h
    rfl
  · obtain ⟨a, b, s, t, x1, y1, x2, y2, rfl, g, k⟩ := h
    refine ⟨_, (pss_cons (ps_set (i := 4) sc_order.nd rfl (Or.inl rfl) (pe_meth (pv 0) T.cS T.m_atmost (ok_atmost T) (hr.mono (by decide)) T.b_atmost .nil pass0 (pa_cons (pv 1) pa_nil)))
      (pss_cons (ps_if (pt_not (pt_val (pe_call (ok_less T) (hr.mono (by decide)) rfl T.g_less T.F_less.kp T.b_less .nil pass0 (pa_cons (pe_ix ix_tup (pv 3) pe_int (fun _ _ => rfl)) (pa_cons (pe_ix ix_tup (pv 2) pe_int (fun _ _ => rfl)) pa_nil)))))
      (pss_one (ps_ret (pe_cmpR op_isBl (pv 4) pe_bl (nomark _)))) pss_nil)
      (pss_cons (ps_if (pt_val (pe_call (ok_less T) (hr.mono (by decide)) rfl T.g_less T.F_less.kp T.b_less .nil pass0 (pa_cons (pe_ix ix_tup (pv 3) pe_int (fun _ _ => rfl)) (pa_cons (pe_ix ix_tup (pv 2) pe_int (fun _ _ => rfl)) pa_nil))))
      (pss_one (ps_ret (pe_cmpR op_isBl (pv 4) pe_bl (nomark _)))) pss_nil)
      (pss_one (ps_ret (pe_cmp (pc_isN (pv 4)) rfl)))))), ?_⟩
    obtain ⟨dx, l1, h1, ia, _⟩ := id g.a
    obtain ⟨s0, s1, hs, hs0, hs1⟩ := g.s
    obtain ⟨t0, t1, ht, ht0, ht1⟩ := g.t
    refine ⟨_, rfl, a, dx, _, rfl, ia, sf_no _ _ (by decide +kernel) (by decide +kernel), _, rfl, a, b, x1, y1, x2, y2, rfl, g.a.mono (by decide), g.b.mono (by decide), ?_⟩
    refine ⟨_, rfl, _, _, _, _, rfl, rfl, SqT.of (ht), rfl, _, rfl, _, _, _, _, rfl, rfl, SqT.of (hs), rfl, t0, s1, x2, y1, rfl, ht0.mono (by decide), hs1.mono (by decide), _, rfl, ?_⟩
    by_cases c : y1 ≤ x2
    · rw [if_pos c]
      rw [decide_eq_false (by grind : ¬ x2 < y1)]
      exact iteT ⟨_, rfl, _, _, rfl, rfl, k H (fun _ _ h => h)⟩
    rw [if_neg c, decide_eq_true (by grind : x2 < y1)]
    refine iteF ⟨_, rfl, _, _, _, _, rfl, rfl, SqT.of (ht), rfl, _, rfl, _, _, _, _, rfl, rfl, SqT.of (hs), rfl, t1, s0, y2, x1, rfl, ht1.mono (by decide), hs0.mono (by decide), _, rfl, ?_⟩
    by_cases d : y2 < x1
    · rw [if_pos d, decide_eq_true d]
      exact iteT ⟨_, rfl, _, _, rfl, rfl, k H (fun _ _ h => h)⟩
    · rw [if_neg d, decide_eq_false d]
      exact iteF ⟨_, rfl, k H (fun _ _ h => h)⟩
end
end Fc
set_option Elab.async false
set_option linter.all false
set_option maxRecDepth 100000
set_option maxHeartbeats 4000000
set_option exponentiation.threshold 100000
namespace Fc
open PySem PySem.Spec PyProof.Rows L2 L2H
/-- the suite of an Apart -/
def t_ap (K : PySem.W.Frag) (A : Ad) (i : Nat) : Addr → Value → Option Addr → TS := fun a cls d =>
  tRet (tAndV (tCB (rIsX K cls d a) (tCons (tVar i) (tCons (tC (.ref A.Ap)) tNil))) (tAndV (tCB (rIsX K cls d a) (tCons (tVar i) (tCons (tC (.ty "ValueError")) tNil))) (tNotV (tCB (rIsX K cls d a) (tCons (tVar i) (tCons (tC (.ref A.Cr)) tNil))))))
section
variable {P : Program} {w : World} {K : PySem.W.Frag} {mg : Str → Option Value} {base : Heap} {A : Ad}
theorem rd_ap (T : Txt K mg A) {i : Nat} {a : Addr} {sl : L2.St} {H : Hp} {D : Ends} (h : sl[i]? = some (some (.ref a))) (k : D.rt (.bl true) H) : t_ap K A i a (.ref A.Ap) none D sl H := by
  have nd : ∀ dd : Addr, (none : Option Addr) = some dd → ∃ fs, H dd = some (.xd fs) := fun dd e => by cases e
  refine ⟨_, h, A.Ap, .ref A.Ap, .ref A.Ap, true, rfl, T.X_Ap, nd, rfl, fun u e => e, kit_self, true, rfl, ?_⟩
  refine ⟨_, h, A.Ap, .ty "ValueError", _, true, rfl, T.X_Ap, nd, rfl, fun u e => e, T.v_Ap, true, rfl, ?_⟩
  exact ⟨_, h, A.Ap, .ref A.Cr, _, false, rfl, T.X_Ap, nd, rfl, fun u e => e, T.apNc, false, rfl, k⟩
def spLApart (A : Ad) : Sp := fun vs H Q _ => ∃ (a b : Addr) (x1 y1 x2 y2 : Rat), vs = [.ref a, .ref b] ∧ SpV A.S A.C H 1000 a x1 y1 ∧ SpV A.S A.C H 1000 b x2 y2 ∧ lsR y1 y2 < gtR x1 x2 ∧ ∀ H', Ex H H' → Q (.bl true) H'
theorem ok_lapart (T : Txt K mg A) : FnOk P w K mg base CX0 6 A.f_lapart A.d_lapart ["a", "b"] (spLApart A) := by
  refine T.F_lapart.ok sc_lapart (fun vs H Q E h => ?_) (fun cdv Ar outer s H vs Q E hr h => ?_)
  · obtain ⟨a, b, x1, y1, x2, y2, rfl, _⟩ := h
    rfl
  · obtain ⟨a, b, x1, y1, x2, y2, rfl, ha, hb, lt, k⟩ := h
    refine ⟨_, (pss_cons (ps_try_as (i := 3) (tb := fun W => tAsg (tOwnS A.S (spAnd A) (WE W) (tVar 0) (tVar 1)) (gName 2)) (ts := t_ap K A 3) (Wout := fun _ _ _ _ => False) rfl rfl sc_lapart.nd rfl rfl ⟨rfl, by decide, Or.inl T.g_CE⟩ takes0 (fun W pn xe tk _ => pss_one (ps_set (i := 2) sc_lapart.nd rfl (Or.inl rfl) (pe_opS T.sfS T.m_sand.at_ T.m_sand.fn (ok_sand T) (hr.mono (by decide)) T.b_sand (fun sl => passAt tk sl) (pv 0) (pv 1)))) (fun a oe cls d pn hz hf => pss_one (ps_ret (pe_and (pe_callB (call_isX hz hf) (by rfl) T.n_isinstance (by decide +kernel) (pa_cons (pv 3) (pa_cons (pe_glob (v := .ref A.Ap) rfl T.g_Ap rfl) pa_nil))) (pe_and (pe_callB (call_isX hz hf) (by rfl) T.n_isinstance (by decide +kernel) (pa_cons (pv 3) (pa_cons (pe_bltn (v := .ty "ValueError") rfl T.n_ValueError (by decide +kernel) rfl) pa_nil))) (pe_one (pe_not (pe_callB (call_isX hz hf) (by rfl) T.n_isinstance (by decide +kernel) (pa_cons (pv 3) (pa_cons (pe_glob (v := .ref A.Cr) rfl T.g_Cr rfl) pa_nil))))))))))
      (pss_one (ps_ret pe_bl))), ?_⟩
    obtain ⟨dx, l1, h1, ia, _⟩ := id ha
    obtain ⟨dy, l2, h2, ib, _⟩ := id hb
    refine ⟨_, rfl, _, rfl, a, b, dx, dy, _, _, rfl, rfl, ia, ib, a, b, x1, y1, x2, y2, rfl, ha.mono (by decide), hb.mono (by decide), fun _ H' ex => ⟨true, T.e_Ap, fun _ c nc => ?_, fun z => Bool.noConfusion z⟩, fun n => absurd lt (by grind)⟩
    exact rd_ap T rfl (k H' ex)
theorem ok_common (T : Txt K mg A) : FnOk P w K mg base CX0 7 A.f_common A.d_common ["a", "b", "s", "t"] (spTwo A) := by
  refine T.F_common.ok sc_common (fun vs H Q E h => ?_) (fun cdv Ar outer s H vs Q E hr h => ?_)
  · obtain ⟨a, b, s, t, x1, y1, x2, y2, rfl, _⟩ := h
    rfl
  · obtain ⟨a, b, s, t, x1, y1, x2, y2, rfl, g, k⟩ := h
    refine ⟨_, (C8.pss_cut (ps_set (i := 4) sc_common.nd rfl (Or.inl rfl) (pe_ifExp (pt_val (pe_call (ok_less T) (hr.mono (by decide)) rfl T.g_less T.F_less.kp T.b_less .nil pass0 (pa_cons (pe_ix ix_tup (pv 2) pe_int (fun _ _ => rfl)) (pa_cons (pe_ix ix_tup (pv 3) pe_int (fun _ _ => rfl)) pa_nil)))) (pe_ix ix_tup (pv 3) pe_int (fun _ _ => rfl)) (pe_ix ix_tup (pv 2) pe_int (fun _ _ => rfl))))
      (C8.pss_cut (ps_set (i := 5) sc_common.nd rfl (Or.inl rfl) (pe_ifExp (pt_val (pe_call (ok_less T) (hr.mono (by decide)) rfl T.g_less T.F_less.kp T.b_less .nil pass0 (pa_cons (pe_ix ix_tup (pv 3) pe_int (fun _ _ => rfl)) (pa_cons (pe_ix ix_tup (pv 2) pe_int (fun _ _ => rfl)) pa_nil)))) (pe_ix ix_tup (pv 3) pe_int (fun _ _ => rfl)) (pe_ix ix_tup (pv 2) pe_int (fun _ _ => rfl))))
      (pss_cons (ps_if (pt_val (pe_call (ok_less T) (hr.mono (by decide)) rfl T.g_less T.F_less.kp T.b_less .nil pass0 (pa_cons (pv 5) (pa_cons (pv 4) pa_nil))))
      (pss_one (ps_ret (pe_call (ok_lapart T) (hr.mono (by decide)) rfl T.g_lapart T.F_lapart.kp T.b_lapart .nil pass0 (pa_cons (pv 0) (pa_cons (pv 1) pa_nil))))) pss_nil)
      (pss_one (ps_ret (pe_call (ok_isspan T) (hr.mono (by decide)) rfl T.g_isspan T.F_isspan.kp T.b_isspan .nil pass0 (pa_cons (pe_op (op_own T.sfS T.m_sand.at_ T.m_sand.fn (ok_sand T) (hr.mono (by decide)) T.b_sand passL) (pv 0) (pv 1)) (pa_cons (pv 4) (pa_cons (pv 5) pa_nil))))))))), ?_⟩
    obtain ⟨dx, l1, h1, ia, _⟩ := id g.a
    obtain ⟨dy, l2, h2, ib, _⟩ := id g.b
    obtain ⟨s0, s1, hs, hs0, hs1⟩ := g.s
    obtain ⟨t0, t1, ht, ht0, ht1⟩ := g.t
    refine ⟨fun sl H' => H' = H ∧ ∃ lo, sl = [some (.ref a), some (.ref b), some (.ref s), some (.ref t), some (.ref lo), none] ∧ PrV H 296 lo (gtR x1 x2), ?_, ?_⟩
    · refine ⟨_, rfl, _, _, _, _, rfl, rfl, SqT.of (hs), rfl, _, rfl, _, _, _, _, rfl, rfl, SqT.of (ht), rfl, s0, t0, x1, x2, rfl, hs0.mono (by decide), ht0.mono (by decide), _, rfl, ?_⟩
      unfold gtR
      by_cases c : x1 < x2
      · rw [if_neg (by grind : ¬ x2 ≤ x1)]
        exact ite2 (fun _ => ⟨_, rfl, _, _, _, _, rfl, rfl, SqT.of (ht), rfl, rfl, t0, rfl, ht0⟩) (fun z => absurd (decide_eq_true c) z)
      · rw [if_pos (by grind : x2 ≤ x1)]
        exact ite2 (fun z => absurd (of_decide_eq_true z) c) (fun _ => ⟨_, rfl, _, _, _, _, rfl, rfl, SqT.of (hs), rfl, rfl, s0, rfl, hs0⟩)
    rintro sl H' ⟨rfl, lo, rfl, hlo⟩
    refine ⟨fun sl H1 => H1 = H' ∧ ∃ hi, sl = [some (.ref a), some (.ref b), some (.ref s), some (.ref t), some (.ref lo), some (.ref hi)] ∧ PrV H1 296 hi (lsR y1 y2), ?_, ?_⟩
    · refine ⟨_, rfl, _, _, _, _, rfl, rfl, SqT.of (ht), rfl, _, rfl, _, _, _, _, rfl, rfl, SqT.of (hs), rfl, t1, s1, y2, y1, rfl, ht1.mono (by decide), hs1.mono (by decide), _, rfl, ?_⟩
      unfold lsR
      by_cases c : y2 < y1
      · rw [if_neg (by grind : ¬ y1 ≤ y2)]
        exact ite2 (fun _ => ⟨_, rfl, _, _, _, _, rfl, rfl, SqT.of (ht), rfl, rfl, t1, rfl, ht1⟩) (fun z => absurd (decide_eq_true c) z)
      · rw [if_pos (by grind : y1 ≤ y2)]
        exact ite2 (fun z => absurd (of_decide_eq_true z) c) (fun _ => ⟨_, rfl, _, _, _, _, rfl, rfl, SqT.of (hs), rfl, rfl, s1, rfl, hs1⟩)
    rintro sl H1 ⟨rfl, hi, rfl, hhi⟩
    refine ⟨_, rfl, _, rfl, hi, lo, _, _, rfl, hhi.mono (by decide), hlo.mono (by decide), _, rfl, ?_⟩
    by_cases c : lsR y1 y2 < gtR x1 x2
    · refine ite2 (fun _ => ?_) (fun z => absurd (decide_eq_true c) z)
      exact ⟨_, rfl, _, rfl, a, b, x1, y1, x2, y2, rfl, g.a, g.b, c, k⟩
    · refine ite2 (fun z => absurd (of_decide_eq_true z) c) (fun _ => ?_)
      refine ⟨_, rfl, _, rfl, a, b, dx, dy, _, _, rfl, rfl, ia, ib, a, b, x1, y1, x2, y2, rfl, g.a.mono (by decide), g.b.mono (by decide), fun z => absurd z c, fun _ d H2 e2 nd sd => ?_⟩
      exact ⟨_, rfl, _, rfl, d, lo, hi, _, _, rfl, sd, (hlo.ex e2).mono (by decide), (hhi.ex e2).mono (by decide), fun H3 e3 => k H3 (e2.trans e3)⟩
theorem ok_same (T : Txt K mg A) : FnOk P w K mg base CX0 3 A.f_same A.d_same ["a", "b", "s", "t"] (spTwo A) := by
  refine T.F_same.ok sc_same (fun vs H Q E h => ?_) (fun cdv Ar outer s H vs Q E hr h => ?_)
  · obtain ⟨a, b, s, t, x1, y1, x2, y2, rfl, _⟩ := h
    rfl
  · obtain ⟨a, b, s, t, x1, y1, x2, y2, rfl, g, k⟩ := h
    refine ⟨_, (C8.pss_cut (ps_set (i := 4) sc_same.nd rfl (Or.inl rfl) (pe_and (pe_not (pe_call (ok_less T) (hr.mono (by decide)) rfl T.g_less T.F_less.kp T.b_less .nil pass0 (pa_cons (pe_ix ix_tup (pv 2) pe_int (fun _ _ => rfl)) (pa_cons (pe_ix ix_tup (pv 3) pe_int (fun _ _ => rfl)) pa_nil)))) (pe_one (pe_not (pe_call (ok_less T) (hr.mono (by decide)) rfl T.g_less T.F_less.kp T.b_less .nil pass0 (pa_cons (pe_ix ix_tup (pv 3) pe_int (fun _ _ => rfl)) (pa_cons (pe_ix ix_tup (pv 2) pe_int (fun _ _ => rfl)) pa_nil)))))))
      (C8.pss_cut (ps_set (i := 4) sc_same.nd rfl (Or.inl rfl) (pe_and (pv 4) (pe_and (pe_not (pe_call (ok_less T) (hr.mono (by decide)) rfl T.g_less T.F_less.kp T.b_less .nil pass0 (pa_cons (pe_ix ix_tup (pv 2) pe_int (fun _ _ => rfl)) (pa_cons (pe_ix ix_tup (pv 3) pe_int (fun _ _ => rfl)) pa_nil)))) (pe_one (pe_not (pe_call (ok_less T) (hr.mono (by decide)) rfl T.g_less T.F_less.kp T.b_less .nil pass0 (pa_cons (pe_ix ix_tup (pv 3) pe_int (fun _ _ => rfl)) (pa_cons (pe_ix ix_tup (pv 2) pe_int (fun _ _ => rfl)) pa_nil))))))))
      (pss_cons (ps_if (pt_val (pv 4))
      (pss_one (ps_ret (pe_cmpR op_isBl (pe_cmpR (op_or (op_eqR T.subS T.m_seq.at_ T.m_seq.fn (ok_seq T) (hr.mono (by decide)) T.b_seq pass0) (op_eqR T.sub T.m_eq.at_ T.m_eq.fn (ok_eq T) (hr.mono (by decide)) T.b_eq pass0)) (pv 0) (pv 1) (nomark _)) pe_bl (nomark _)))) pss_nil)
      (pss_one (ps_ret (pe_cmpR op_isBl (pe_cmpR (op_or (op_eqR T.subS T.m_seq.at_ T.m_seq.fn (ok_seq T) (hr.mono (by decide)) T.b_seq pass0) (op_eqR T.sub T.m_eq.at_ T.m_eq.fn (ok_eq T) (hr.mono (by decide)) T.b_eq pass0)) (pv 0) (pv 1) (nomark _)) pe_bl (nomark _))))))), ?_⟩
    obtain ⟨dx, l1, h1, ia, _⟩ := id g.a
    obtain ⟨dy, l2, h2, ib, _⟩ := id g.b
    obtain ⟨s0, s1, hs, hs0, hs1⟩ := g.s
    obtain ⟨t0, t1, ht, ht0, ht1⟩ := g.t
    have eqn : ∀ u v : Rat, decide (u = v) = (!decide (u < v) && !decide (v < u)) := by
      intro u v
      by_cases p : u < v
      · rw [decide_eq_true p, decide_eq_false (by grind : ¬ u = v)]; rfl
      · by_cases q : v < u
        · rw [decide_eq_false p, decide_eq_true q, decide_eq_false (by grind : ¬ u = v)]; rfl
        · rw [decide_eq_false p, decide_eq_false q, decide_eq_true (by grind : u = v)]; rfl
    refine ⟨fun sl H' => H' = H ∧ sl = [some (.ref a), some (.ref b), some (.ref s), some (.ref t), some (.bl (decide (x1 = x2)))], ?_, ?_⟩
    · rw [eqn x1 x2]
      refine ⟨_, rfl, _, _, _, _, rfl, rfl, SqT.of (hs), rfl, _, rfl, _, _, _, _, rfl, rfl, SqT.of (ht), rfl, s0, t0, x1, x2, rfl, hs0.mono (by decide), ht0.mono (by decide), _, rfl, _, rfl, ?_⟩
      by_cases p : x1 < x2
      · rw [decide_eq_true p]
        exact ⟨rfl, rfl⟩
      · rw [decide_eq_false p]
        exact ⟨_, rfl, _, _, _, _, rfl, rfl, SqT.of (ht), rfl, _, rfl, _, _, _, _, rfl, rfl, SqT.of (hs), rfl, t0, s0, x2, x1, rfl, ht0.mono (by decide), hs0.mono (by decide), _, rfl, rfl, rfl⟩
    rintro sl H' ⟨rfl, rfl⟩
    refine ⟨fun sl H1 => H1 = H' ∧ sl = [some (.ref a), some (.ref b), some (.ref s), some (.ref t), some (.bl (decide (x1 = x2) && decide (y1 = y2)))], ?_, ?_⟩
    · refine ⟨_, rfl, _, rfl, ?_⟩
      by_cases c : x1 = x2
      · rw [decide_eq_true c, eqn y1 y2]
        refine ⟨_, rfl, _, _, _, _, rfl, rfl, SqT.of (hs), rfl, _, rfl, _, _, _, _, rfl, rfl, SqT.of (ht), rfl, s1, t1, y1, y2, rfl, hs1.mono (by decide), ht1.mono (by decide), _, rfl, _, rfl, ?_⟩
        by_cases p : y1 < y2
        · rw [decide_eq_true p]
          exact ⟨rfl, rfl⟩
        · rw [decide_eq_false p]
          exact ⟨_, rfl, _, _, _, _, rfl, rfl, SqT.of (ht), rfl, _, rfl, _, _, _, _, rfl, rfl, SqT.of (hs), rfl, t1, s1, y2, y1, rfl, ht1.mono (by decide), hs1.mono (by decide), _, rfl, rfl, rfl⟩
      · rw [decide_eq_false c]
        exact ⟨rfl, rfl⟩
    rintro sl H1 ⟨rfl, rfl⟩
    have eqs : ∀ Q' : VK, Q' (.bl (decide (x1 = x2) && decide (y1 = y2))) H1 → rOr (rEqR K A.S (spSEq K A) E0) (rEqR K A.C (Fc.spEq K A.C) E0) (.ref a) (.ref b) H1 Q' := fun Q' q =>
      .inl (.inl ⟨a, dx, _, _, rfl, ia, tyS T ib, nf_self, a, .ref b, x1, y1, rfl, g.a.mono (by decide), .inl ⟨b, x2, y2, rfl, g.b.mono (by decide), q⟩⟩)
    refine ⟨_, rfl, _, rfl, ?_⟩
    cases e : (decide (x1 = x2) && decide (y1 = y2)) with
    | true => exact iteT ⟨_, rfl, _, rfl, eqs _ ⟨_, _, rfl, rfl, by rw [e]; exact k H1 (fun _ _ h => h)⟩⟩
    | false => exact iteF ⟨_, rfl, _, rfl, eqs _ ⟨_, _, rfl, rfl, by rw [e]; exact k H1 (fun _ _ h => h)⟩⟩
theorem ok_two (T : Txt K mg A) : FnOk P w K mg base CX0 8 A.f_two A.d_two ["a", "b", "s", "t"] (spTwo A) := by
  refine T.F_two.ok sc_two (fun vs H Q E h => ?_) (fun cdv Ar outer s H vs Q E hr h => ?_)
  · obtain ⟨a, b, s, t, x1, y1, x2, y2, rfl, _⟩ := h
    rfl
  · obtain ⟨a, b, s, t, x1, y1, x2, y2, rfl, g, k⟩ := h
    refine ⟨_, (pss_cons (ps_if (PW.pt (pw_or (pt_not (pt_val (pe_call (ok_order T) (hr.mono (by decide)) rfl T.g_order T.F_order.kp T.b_order .nil pass0 (pa_cons (pv 0) (pa_cons (pv 1) (pa_cons (pv 2) (pa_cons (pv 3) pa_nil))))))) (pw_or1 (pt_not (pt_val (pe_call (ok_order T) (hr.mono (by decide)) rfl T.g_order T.F_order.kp T.b_order .nil pass0 (pa_cons (pv 1) (pa_cons (pv 0) (pa_cons (pv 3) (pa_cons (pv 2) pa_nil))))))))))
      (pss_one (ps_ret pe_bl)) pss_nil)
      (pss_cons (ps_if (PW.pt (pw_or (pt_not (pt_val (pe_call (ok_common T) (hr.mono (by decide)) rfl T.g_common T.F_common.kp T.b_common .nil pass0 (pa_cons (pv 0) (pa_cons (pv 1) (pa_cons (pv 2) (pa_cons (pv 3) pa_nil))))))) (pw_or1 (pt_not (pt_val (pe_call (ok_common T) (hr.mono (by decide)) rfl T.g_common T.F_common.kp T.b_common .nil pass0 (pa_cons (pv 1) (pa_cons (pv 0) (pa_cons (pv 3) (pa_cons (pv 2) pa_nil))))))))))
      (pss_one (ps_ret pe_bl)) pss_nil)
      (pss_one (ps_ret (pe_and (pe_call (ok_same T) (hr.mono (by decide)) rfl T.g_same T.F_same.kp T.b_same .nil pass0 (pa_cons (pv 0) (pa_cons (pv 1) (pa_cons (pv 2) (pa_cons (pv 3) pa_nil))))) (pe_one (pe_call (ok_same T) (hr.mono (by decide)) rfl T.g_same T.F_same.kp T.b_same .nil pass0 (pa_cons (pv 1) (pa_cons (pv 0) (pa_cons (pv 3) (pa_cons (pv 2) pa_nil))))))))))), ?_⟩
    refine ⟨_, rfl, _, rfl, _, rfl, _, rfl, a, b, s, t, x1, y1, x2, y2, rfl, g, fun H1 e1 => ⟨_, rfl, iteF ?_⟩⟩
    refine ⟨_, rfl, _, rfl, _, rfl, _, rfl, b, a, t, s, x2, y2, x1, y1, rfl, (g.ex e1).flip, fun H2 e2 => ⟨_, rfl, iteF ?_⟩⟩
    have E2 := e1.trans e2
    refine ⟨_, rfl, _, rfl, _, rfl, _, rfl, a, b, s, t, x1, y1, x2, y2, rfl, g.ex E2, fun H3 e3 => ⟨_, rfl, iteF ?_⟩⟩
    have E3 := E2.trans e3
    refine ⟨_, rfl, _, rfl, _, rfl, _, rfl, b, a, t, s, x2, y2, x1, y1, rfl, (g.ex E3).flip, fun H4 e4 => ⟨_, rfl, iteF ?_⟩⟩
    have E4 := E3.trans e4
    refine ⟨_, rfl, _, rfl, _, rfl, _, rfl, a, b, s, t, x1, y1, x2, y2, rfl, g.ex E4, fun H5 e5 => ⟨true, rfl, ?_⟩⟩
    have E5 := E4.trans e5
    exact ⟨_, rfl, _, rfl, _, rfl, _, rfl, b, a, t, s, x2, y2, x1, y1, rfl, (g.ex E5).flip, fun H6 e6 => k H6 (E5.trans e6)⟩
end
end Fc
set_option Elab.async false
set_option linter.all false
set_option maxRecDepth 100000
set_option maxHeartbeats 4000000
set_option exponentiation.threshold 100000
namespace Fc
open PySem PySem.Spec PyProof.Rows L2 L2H
section
variable {P : Program} {w : World} {K : PySem.W.Frag} {mg : Str → Option Value} {base : Heap} {A : Ad}
def spLCont (A : Ad) : Sp := fun vs H Q _ => ∃ (a s p : Addr) (x y v : Rat), vs = [.ref a, .ref s, .ref p] ∧ SpV A.S A.C H 1000 a x y ∧ EnV H 296 s x y ∧ PrV H 900 p v ∧ ∀ H', Ex H H' → Q (.bl true) H'
theorem ok_lcontains (T : Txt K mg A) : FnOk P w K mg base CX0 4 A.f_lcontains A.d_lcontains ["a", "s", "p"] (spLCont A) := by
  refine T.F_lcontains.ok sc_lcontains (fun vs H Q E h => ?_) (fun cdv Ar outer s H vs Q E hr h => ?_)
  · obtain ⟨a, s, p, x, y, v, rfl, _⟩ := h
    rfl
  · obtain ⟨a, s, p, x, y, v, rfl, ha, en, hp, k⟩ := h
    refine ⟨_, (pss_cons (ps_if (PW.pt (pw_or (pt_val (pe_call (ok_less T) (hr.mono (by decide)) rfl T.g_less T.F_less.kp T.b_less .nil pass0 (pa_cons (pv 2) (pa_cons (pe_ix ix_tup (pv 1) pe_int (fun _ _ => rfl)) pa_nil)))) (pw_or1 (pt_val (pe_call (ok_less T) (hr.mono (by decide)) rfl T.g_less T.F_less.kp T.b_less .nil pass0 (pa_cons (pe_ix ix_tup (pv 1) pe_int (fun _ _ => rfl)) (pa_cons (pv 2) pa_nil)))))))
      (pss_one (ps_ret (pe_cmpR op_isBl (pe_cmpR (op_in T.m_scontains.at_ T.m_scontains.fn (ok_scontains T) (hr.mono (by decide)) T.b_scontains pass0) (pe_make T.mkC (ok_init T) (hr.mono (by decide)) rfl T.g_Ratio T.b_init3 .nil passL (pa_cons (pe_ix ix_tup (pv 2) pe_int (fun _ _ => rfl)) (pa_cons (pe_ix ix_tup (pv 2) pe_int (fun _ _ => rfl)) pa_nil))) (pv 0) (by with_unfolding_all rfl)) pe_bl (nomark _)))) pss_nil)
      (pss_one (ps_ret (pe_cmpR op_isBl (pe_cmpR (op_in T.m_scontains.at_ T.m_scontains.fn (ok_scontains T) (hr.mono (by decide)) T.b_scontains pass0) (pe_make T.mkC (ok_init T) (hr.mono (by decide)) rfl T.g_Ratio T.b_init3 .nil passL (pa_cons (pe_ix ix_tup (pv 2) pe_int (fun _ _ => rfl)) (pa_cons (pe_ix ix_tup (pv 2) pe_int (fun _ _ => rfl)) pa_nil))) (pv 0) (by with_unfolding_all rfl)) pe_bl (nomark _))))), ?_⟩
    obtain ⟨s0, s1, hs, hs0, hs1⟩ := en
    obtain ⟨q, hq, sq, vq⟩ := id hp
    have end_ : ∀ (b : Bool) (z dz : Addr) (H1 : Hp), H z = none → H dz = none → RatAt A.C H1 z (lo q.1 q.2) → (∀ c o, H c = some o → H1 c = some o) → RatV A.C H1 2001 z v := fun b z dz H1 _ _ r ex => .lo r (sq.t.mono (by decide)) (sq.b.mono (by decide)) sq.ne vq
    refine ⟨_, rfl, _, rfl, _, _, _, _, rfl, rfl, SqT.of (hs), rfl, p, s0, v, x, rfl, hp.mono (by decide), hs0.mono (by decide), _, rfl, ?_⟩
    by_cases c : v < x
    · rw [decide_eq_true c]
      refine iteT ⟨_, rfl, _, _, _, _, rfl, rfl, SqT.of (hq), rfl, _, rfl, _, _, _, _, rfl, rfl, SqT.of (hq), rfl, ?_⟩
      intro z dz nz nd _
      refine ⟨z, dz, _, _, rfl, upd_same, fun zz => absurd zz sq.ne, fun _ => ⟨sq.b.mono (by decide), fun H1 rz kp => ⟨rfl, ?_⟩⟩⟩
      have e1 : Ex H H1 := Same.made nz nd kp
      obtain ⟨dx, l, h, ia, _⟩ := id (ha.ex e1)
      refine ⟨_, rfl, a, dx, _, rfl, ia, a, z, x, y, v, rfl, (ha.ex e1).mono (by decide), end_ true z dz H1 nz nd rz e1, _, rfl, _, _, rfl, rfl, ?_⟩
      rw [decide_eq_false (by grind : ¬ x ≤ v), Bool.false_and]
      exact k H1 e1
    rw [decide_eq_false c]
    refine iteF ⟨_, rfl, _, _, _, _, rfl, rfl, SqT.of (hs), rfl, _, rfl, s1, p, y, v, rfl, hs1.mono (by decide), hp.mono (by decide), _, rfl, ?_⟩
    by_cases d : y < v
    · rw [decide_eq_true d]
      refine iteT ⟨_, rfl, _, _, _, _, rfl, rfl, SqT.of (hq), rfl, _, rfl, _, _, _, _, rfl, rfl, SqT.of (hq), rfl, ?_⟩
      intro z dz nz nd _
      refine ⟨z, dz, _, _, rfl, upd_same, fun zz => absurd zz sq.ne, fun _ => ⟨sq.b.mono (by decide), fun H1 rz kp => ⟨rfl, ?_⟩⟩⟩
      have e1 : Ex H H1 := Same.made nz nd kp
      obtain ⟨dx, l, h, ia, _⟩ := id (ha.ex e1)
      refine ⟨_, rfl, a, dx, _, rfl, ia, a, z, x, y, v, rfl, (ha.ex e1).mono (by decide), end_ true z dz H1 nz nd rz e1, _, rfl, _, _, rfl, rfl, ?_⟩
      rw [decide_eq_false (by grind : ¬ v ≤ y), Bool.and_false]
      exact k H1 e1
    · rw [decide_eq_false d]
      refine iteF ⟨_, rfl, _, _, _, _, rfl, rfl, SqT.of (hq), rfl, _, rfl, _, _, _, _, rfl, rfl, SqT.of (hq), rfl, ?_⟩
      intro z dz nz nd _
      refine ⟨z, dz, _, _, rfl, upd_same, fun zz => absurd zz sq.ne, fun _ => ⟨sq.b.mono (by decide), fun H1 rz kp => ⟨rfl, ?_⟩⟩⟩
      have e1 : Ex H H1 := Same.made nz nd kp
      obtain ⟨dx, l, h, ia, _⟩ := id (ha.ex e1)
      refine ⟨_, rfl, a, dx, _, rfl, ia, a, z, x, y, v, rfl, (ha.ex e1).mono (by decide), end_ true z dz H1 nz nd rz e1, _, rfl, _, _, rfl, rfl, ?_⟩
      rw [decide_eq_true (by grind : x ≤ v), decide_eq_true (by grind : v ≤ y)]
      exact k H1 e1
end
end Fc
set_option Elab.async false
set_option linter.all false
set_option maxRecDepth 100000
set_option maxHeartbeats 4000000
set_option exponentiation.threshold 100000
namespace Fc
open PySem PySem.Spec PyProof.Rows L2 L2H
section
variable {P : Program} {w : World} {K : PySem.W.Frag} {mg : Str → Option Value} {base : Heap} {A : Ad}
def spSecond : Sp := fun vs H Q _ => ∃ (pt s st : Addr) (x y z : Rat), vs = [.ref pt, .ref s, .ref st] ∧ PotAt H pt ∧ EnV H 83 s x y ∧ x ≤ y ∧ PrV H 41 st z ∧ ∀ t x2 y2 H', EnV H' 296 t x2 y2 → x2 ≤ y2 → PotAt H' pt → Keep pt H H' → Q (.ref t) H'
theorem ok_second (T : Txt K mg A) : FnOk P w K mg base CX0 4 A.f_second A.d_second ["pot", "s", "step"] spSecond := by
  refine T.F_second.ok sc_second (fun vs H Q E h => ?_) (fun cdv Ar outer s H vs Q E hr h => ?_)
  · obtain ⟨pt, s, st, x, y, z, rfl, _⟩ := h
    rfl
  · obtain ⟨pt, s, st, x, y, z, rfl, pot, en, le, hst, k⟩ := h
    refine ⟨_, (pss_cons (ps_set (i := 3) sc_second.nd rfl (Or.inl rfl) (pe_call (ok_digit T) (hr.mono (by decide)) rfl T.g_digit T.F_digit.kp T.b_digit .nil pass0 (pa_cons (pv 0) (pa_cons pe_int pa_nil))))
      (pss_cons (ps_if (pt_cmpR op_eq (pv 3) pe_int (nomark _))
      (pss_one (ps_ret (pv 1))) pss_nil)
      (pss_cons (ps_if (pt_cmpR op_eq (pv 3) pe_int (nomark _))
      (pss_one (ps_ret (pe_call (ok_ends T) (hr.mono (by decide)) rfl T.g_ends T.F_ends.kp T.b_ends .nil pass0 (pa_cons (pv 0) pa_nil)))) pss_nil)
      (C8.pss_cut (ps_set (i := 4) sc_second.nd rfl (Or.inl rfl) (pe_call (ok_fraction T) (hr.mono (by decide)) rfl T.g_fraction T.F_fraction.kp T.b_fraction .nil pass0 (pa_cons (pv 0) pa_nil)))
      (C8.pss_cut (ps_set (i := 4) sc_second.nd rfl (Or.inl rfl) (pe_tup (pa_cons (pe_callB call_abs (by rfl) T.n_abs (by decide +kernel) (pa_cons (pe_ix ix_tup (pv 4) pe_int (fun _ _ => rfl)) pa_nil)) (pa_cons (pe_ix ix_tup (pv 4) pe_int (fun _ _ => rfl)) pa_nil))))
      (pss_cons (ps_if (pt_cmpR op_eq (pv 3) pe_int (nomark _))
      (pss_one (ps_ret (pe_tup (pa_cons (pe_call (ok_minus T) (hr.mono (by decide)) rfl T.g_minus T.F_minus.kp T.b_minus .nil pass0 (pa_cons (pe_ix ix_tup (pv 1) pe_int (fun _ _ => rfl)) (pa_cons (pv 4) pa_nil))) (pa_cons (pe_ix ix_tup (pv 1) pe_int (fun _ _ => rfl)) pa_nil))))) pss_nil)
      (pss_cons (ps_if (pt_cmpR op_eq (pv 3) pe_int (nomark _))
      (pss_cons (ps_set (i := 5) sc_second.nd rfl (Or.inl rfl) (pe_call (ok_plus T) (hr.mono (by decide)) rfl T.g_plus T.F_plus.kp T.b_plus .nil pass0 (pa_cons (pe_ix ix_tup (pv 1) pe_int (fun _ _ => rfl)) (pa_cons (pv 2) pa_nil))))
      (pss_one (ps_ret (pe_tup (pa_cons (pv 5) (pa_cons (pe_call (ok_plus T) (hr.mono (by decide)) rfl T.g_plus T.F_plus.kp T.b_plus .nil pass0 (pa_cons (pv 5) (pa_cons (pv 4) pa_nil))) pa_nil)))))) pss_nil)
      (C8.pss_cut (ps_set (i := 6) sc_second.nd rfl (Or.inl rfl) (pe_call (ok_between T) (hr.mono (by decide)) rfl T.g_between T.F_between.kp T.b_between .nil pass0 (pa_cons (pv 0) (pa_cons (pv 1) pa_nil))))
      (pss_cons (ps_if (pt_cmpR op_eq (pv 3) pe_int (nomark _))
      (pss_one (ps_ret (pe_tup (pa_cons (pv 6) (pa_cons (pe_call (ok_plus T) (hr.mono (by decide)) rfl T.g_plus T.F_plus.kp T.b_plus .nil pass0 (pa_cons (pv 6) (pa_cons (pv 4) pa_nil))) pa_nil))))) pss_nil)
      (pss_cons (ps_if (pt_cmpR op_eq (pv 3) pe_int (nomark _))
      (pss_one (ps_ret (pe_tup (pa_cons (pv 6) (pa_cons (pv 6) pa_nil))))) pss_nil)
      (pss_one (ps_ret (pe_tup (pa_cons (pe_ix ix_tup (pv 1) pe_int (fun _ _ => rfl)) (pa_cons (pe_call (ok_plus T) (hr.mono (by decide)) rfl T.g_plus T.F_plus.kp T.b_plus .nil pass0 (pa_cons (pe_ix ix_tup (pv 1) pe_int (fun _ _ => rfl)) (pa_cons (pv 4) pa_nil))) pa_nil))))))))))))))), ?_⟩
    have fin : ∀ (a b : Addr) (x y : Rat) (H' : Hp), PrV H' 296 a x → PrV H' 296 b y → x ≤ y → PotAt H' pt → Keep pt H H' → ∀ t, H' t = none → Q (.ref t) (upd H' t (.tup [.ref a, .ref b])) := fun a b x y H' ha hb le p1 k1 t ht =>
      k t x y _ ⟨a, b, upd_same, ha.ex (Ex.new ht), hb.ex (Ex.new ht)⟩ le (p1.ex (Ex.new ht)) (k1.newk ht)
    refine ⟨_, rfl, pt, 7, rfl, pot, by decide, bd_of (by decide), fun d0 H0 a0 b0 pot0 k0 => ?_⟩
    refine ⟨_, rfl, rfl, _, rfl, ite2 (fun _ => ⟨_, rfl, k s x y H0 ((en.keep pot k0).mono (by decide)) le pot0 k0⟩) (fun _ => ?_)⟩
    refine ⟨_, rfl, rfl, _, rfl, ite2 (fun _ => ⟨_, rfl, pt, rfl, pot0, fun t x2 y2 H1 e1 le1 p1 k1 => k t x2 y2 H1 (e1.mono (by decide)) le1 p1 (k0.trans k1)⟩) (fun _ => ?_)⟩
    refine ⟨fun sl H' => ∃ (b : Addr) (r : Int × Int), sl = [some (.ref pt), some (.ref s), some (.ref st), some (.int d0), some (.ref b), none, none] ∧ Pr H' b r ∧ Sm 41 r ∧ PotAt H' pt ∧ Keep pt H H', ?_, ?_⟩
    · refine ⟨_, rfl, pt, rfl, pot0, fun t r H1 hr nt sr p1 k1 => ?_⟩
      exact ⟨t, r, rfl, hr, sr, p1, k0.trans k1⟩
    rintro sl H1 ⟨b, r, rfl, hrr, sr, p1, k1⟩
    refine ⟨fun sl H' => ∃ (q : Addr) (v : Rat), sl = [some (.ref pt), some (.ref s), some (.ref st), some (.int d0), some (.ref q), none, none] ∧ PrV H' 41 q v ∧ 0 ≤ v ∧ PotAt H' pt ∧ Keep pt H H', ?_, ?_⟩
    · refine ⟨_, rfl, _, _, _, _, rfl, rfl, SqT.of (hrr), rfl, r.1, rfl, _, rfl, _, _, _, _, rfl, rfl, SqT.of (hrr), rfl, (by show 2 ≤ sizeLine; exact sz2), fun u hu => ?_⟩
      have hs : Sm 41 (ab r.1, r.2) := ⟨sr.t.ab, sr.b, sr.pos⟩
      exact ⟨u, _, rfl, PrV.new (ab r.1, r.2) hs, (v_nn (q := (ab r.1, r.2)) sr.pos).mpr (ab_nn _), p1.ex (Ex.new hu), k1.newk hu⟩
    clear hrr sr p1 k1
    rintro sl H1 ⟨q, v, rfl, hq, v0, p1, k1⟩
    have en1 := en.keep pot k1
    have hst1 := hst.keep pot k1
    obtain ⟨s0, s1, hs, hs0, hs1⟩ := id en1
    refine ⟨_, rfl, rfl, _, rfl, ite2 (fun _ => ?_) (fun _ => ?_)⟩
    · refine ⟨_, rfl, _, _, _, _, rfl, rfl, SqT.of (hs), rfl, _, rfl, s0, q, x, v, 83, 41, rfl, hs0, hq, by decide, by decide, by decide, fun c H2 e2 nc hc => ?_⟩
      exact ⟨_, rfl, _, _, _, _, rfl, rfl, SqT.of (e2 _ _ hs), rfl, (by show 2 ≤ sizeLine; exact sz2), fun t ht => fin c s0 _ _ H2 (hc.mono (by decide)) ((hs0.ex e2).mono (by decide)) (by grind) (p1.ex e2) (k1.trans (Keep.of e2)) t ht⟩
    refine ⟨_, rfl, rfl, _, rfl, ite2 (fun _ => ?_) (fun _ => ?_)⟩
    · refine ⟨_, rfl, _, _, _, _, rfl, rfl, SqT.of (hs), rfl, _, rfl, s1, st, y, z, 83, 41, rfl, hs1, hst1, by decide, by decide, by decide, fun c H2 e2 nc hc => ?_⟩
      refine ⟨_, rfl, _, rfl, _, rfl, c, q, _, v, 125, 41, rfl, hc, hq.ex e2, by decide, by decide, by decide, fun d H3 e3 nd hd => ?_⟩
      exact ⟨(by show 2 ≤ sizeLine; exact sz2), fun t ht => fin c d _ _ H3 ((hc.ex e3).mono (by decide)) (hd.mono (by decide)) (by grind) ((p1.ex e2).ex e3) ((k1.trans (Keep.of e2)).trans (Keep.of e3)) t ht⟩
    refine ⟨fun sl H' => ∃ (xx : Addr) (vx : Rat), sl = [some (.ref pt), some (.ref s), some (.ref st), some (.int d0), some (.ref q), none, some (.ref xx)] ∧ PrV H' 41 q v ∧ PrV H' 254 xx vx ∧ EnV H' 83 s x y ∧ PotAt H' pt ∧ Keep pt H H', ?_, ?_⟩
    · refine ⟨_, rfl, _, rfl, pt, s, 83, x, y, rfl, p1, en1, by decide, by decide, le, fun u vx H2 hu i1 i2 p2 k2 => ?_⟩
      exact ⟨u, vx, rfl, hq.keep p1 k2, hu, en1.keep p1 k2, p2, k1.trans k2⟩
    clear hs hs0 hs1 hst1 en1 hq p1 k1
    rintro sl H2 ⟨xx, vx, rfl, hq, hx, en1, p1, k1⟩
    obtain ⟨s0, s1, hs, hs0, hs1⟩ := id en1
    refine ⟨_, rfl, rfl, _, rfl, ite2 (fun _ => ?_) (fun _ => ?_)⟩
    · refine ⟨_, rfl, _, rfl, _, rfl, xx, q, vx, v, 254, 41, rfl, hx, hq, by decide, by decide, by decide, fun d H3 e3 nd hd => ?_⟩
      exact ⟨(by show 2 ≤ sizeLine; exact sz2), fun t ht => fin xx d _ _ H3 ((hx.ex e3).mono (by decide)) (hd.mono (by decide)) (by grind) (p1.ex e3) (k1.trans (Keep.of e3)) t ht⟩
    refine ⟨_, rfl, rfl, _, rfl, ite2 (fun _ => ?_) (fun _ => ?_)⟩
    · exact ⟨_, rfl, _, rfl, (by show 2 ≤ sizeLine; exact sz2), fun t ht => fin xx xx _ _ H2 (hx.mono (by decide)) (hx.mono (by decide)) (by grind) p1 k1 t ht⟩
    · refine ⟨_, rfl, _, _, _, _, rfl, rfl, SqT.of (hs), rfl, _, rfl, _, _, _, _, rfl, rfl, SqT.of (hs), rfl, _, rfl, s1, q, y, v, 83, 41, rfl, hs1, hq, by decide, by decide, by decide, fun d H3 e3 nd hd => ?_⟩
      exact ⟨(by show 2 ≤ sizeLine; exact sz2), fun t ht => fin s1 d _ _ H3 ((hs1.ex e3).mono (by decide)) (hd.mono (by decide)) (by grind) (p1.ex e3) (k1.trans (Keep.of e3)) t ht⟩
end
end Fc
set_option Elab.async false
set_option linter.all false
set_option maxRecDepth 100000
set_option maxHeartbeats 4000000
set_option exponentiation.threshold 100000
namespace Fc
open PySem PySem.Spec PyProof.Rows L2 L2H
section
variable {P : Program} {w : World} {K : PySem.W.Frag} {mg : Str → Option Value} {base : Heap} {A : Ad}
/-! ### the span of one number -/
def spPoint (A : Ad) : Sp := fun vs H Q _ => ∃ (a : Addr) (x : Rat), vs = [.ref a] ∧ RatV A.C H 2001 a x ∧ ∀ c H', Ex H H' → H c = none → SpV A.S A.C H' 2001 c x x → Q (.ref c) H'
theorem ok_point (T : Txt K mg A) : FnOk P w K mg base CX0 5 A.f_point A.d_point ["ratio"] (spPoint A) := by
  refine T.F_point.ok sc_point (fun vs H Q E h => ?_) (fun cdv Ar outer s H vs Q E hr h => ?_)
  · obtain ⟨a, x, rfl, _⟩ := h
    rfl
  · obtain ⟨a, x, rfl, ha, k⟩ := h
    refine ⟨_, (pss_one (ps_ret (pe_make T.mkS (ok_sinit T) (hr.mono (by decide)) rfl T.g_Span T.b_sinit .nil passLN (pa_cons (pv 0) (pa_cons (pv 0) pa_nil))))), ?_⟩
    refine ⟨_, rfl, _, rfl, ?_⟩
    intro e de ne nd _
    have em : Ex H (upd (upd H de (.own e)) e (.ins A.S de [])) := fun b o h => by rw [upd_ne (ne_of_none h ne), upd_ne (ne_of_none h nd)]; exact h
    refine ⟨e, de, a, a, x, x, rfl, upd_same, ha.ex em, ha.ex em, fun z => absurd z (by grind), fun _ H' he kp => ⟨rfl, ?_⟩⟩
    have e9 : Ex H H' := Same.made ne nd kp
    exact k e H' e9 ne ⟨de, a, a, he, ha.ex e9, ha.ex e9⟩
end
end Fc
set_option Elab.async false
set_option linter.all false
set_option maxRecDepth 100000
set_option maxHeartbeats 4000000
set_option exponentiation.threshold 100000
namespace Fc
open PySem PySem.Spec PyProof.Rows L2 L2H
/-- the arguments of the refused Span -/
def tA_cr (K : PySem.W.Frag) (A : Ad) : TA :=
  tCons (tMake A.C (spInit A) [] E0 (tCons (tOp (rIxT K) (tVar 1) (tC (.int 0))) (tCons (tOp (rIxT K) (tVar 1) (tC (.int 1))) tNil)))
  (tCons (tMake A.C (spInit A) [] E0 (tCons (tOp (rIxT K) (tVar 0) (tC (.int 0))) (tCons (tOp (rIxT K) (tVar 0) (tC (.int 1))) tNil))) tNil)
/-- the suite of a Crossed -/
def t_cr (K : PySem.W.Frag) (A : Ad) : Addr → Value → Option Addr → TS := fun a cls d =>
  tSeq (tIfS (tOr (tNot (tB (tCB (rIsX K cls d a) (tCons (tVar 2) (tCons (tC (.ref A.Cr)) tNil))))) (tOr (tNot (tB (tCB (rIsX K cls d a) (tCons (tVar 2) (tCons (tC (.ty "ValueError")) tNil))))) (tB (tCB (rIsX K cls d a) (tCons (tVar 2) (tCons (tC (.ref A.Ap)) tNil))))))
      (tRet (tC (.bl false))) tNext)
    (tRet (tAndV (tCallS (spEquals A) (fun _ => E0) (tCons (tXf a cls d A.Cr "low" (tVar 2)) (tCons (tVar 1) tNil))) (tCallS (spEquals A) (fun _ => E0) (tCons (tXf a cls d A.Cr "high" (tVar 2)) (tCons (tVar 0) tNil)))))
theorem crf_low (l h : Addr) : (crf l h).lookup ("low" : Str) = some (.ref l) := by
  have : (("low" : Str) == "high") = false := by decide +kernel
  simp [crf, List.lookup, this]
theorem crf_high (l h : Addr) : (crf l h).lookup ("high" : Str) = some (.ref h) := by simp [crf, List.lookup]
section
variable {P : Program} {w : World} {K : PySem.W.Frag} {mg : Str → Option Value} {base : Heap} {A : Ad}
def spLCrossed : Sp := fun vs H Q _ => ∃ (l h : Addr) (x y : Rat), vs = [.ref l, .ref h] ∧ PrV H 296 l x ∧ PrV H 296 h y ∧ x < y ∧ ∀ H', Ex H H' → Q (.bl true) H'
theorem ok_crossed (T : Txt K mg A) : FnOk P w K mg base CX0 6 A.f_crossed A.d_crossed ["low", "high"] spLCrossed := by
  refine T.F_crossed.ok sc_crossed (fun vs H Q E h => ?_) (fun cdv Ar outer s H vs Q E hr h => ?_)
  · obtain ⟨l, h, x, y, rfl, _⟩ := h
    rfl
  · obtain ⟨l, h, x, y, rfl, ⟨p, hp, sp, vp⟩, ⟨q, hq, sq, vq⟩, lt, k⟩ := h
    refine ⟨_, (pss_cons (L2N.ps_try_as (i := 2) (tb := fun W => tDrop (tMakeS A.S (spSInit A) (WE W) (tA_cr K A))) (ts := t_cr K A) (Wout := fun _ _ _ _ => False) rfl rfl sc_crossed.nd rfl rfl ⟨rfl, by decide, Or.inl T.g_CE⟩ takes0N (fun W pn xe tk _ => pss_one (ps_expr (pe_makeS T.mkS (ok_sinit T) (hr.mono (by decide)) rfl T.g_Span T.b_sinit (fun sl => L2N.passAt tk sl) (pa_cons (pe_make T.mkC (ok_init T) (hr.mono (by decide)) rfl T.g_Ratio T.b_init3 .nil passL (pa_cons (pe_ix ix_tup (pv 1) pe_int (fun _ _ => rfl)) (pa_cons (pe_ix ix_tup (pv 1) pe_int (fun _ _ => rfl)) pa_nil))) (pa_cons (pe_make T.mkC (ok_init T) (hr.mono (by decide)) rfl T.g_Ratio T.b_init3 .nil passL (pa_cons (pe_ix ix_tup (pv 0) pe_int (fun _ _ => rfl)) (pa_cons (pe_ix ix_tup (pv 0) pe_int (fun _ _ => rfl)) pa_nil))) pa_nil))))) (fun a oe cls d pn hz hf => pss_cons (ps_if (PW.pt (pw_or (pt_not (pt_val (pe_callB (call_isX hz.zc hf) (by rfl) T.n_isinstance (by decide +kernel) (pa_cons (pv 2) (pa_cons (pe_glob (v := .ref A.Cr) rfl T.g_Cr rfl) pa_nil))))) (pw_or (pt_not (pt_val (pe_callB (call_isX hz.zc hf) (by rfl) T.n_isinstance (by decide +kernel) (pa_cons (pv 2) (pa_cons (pe_bltn (v := .ty "ValueError") rfl T.n_ValueError (by decide +kernel) rfl) pa_nil))))) (pw_or1 (pt_val (pe_callB (call_isX hz.zc hf) (by rfl) T.n_isinstance (by decide +kernel) (pa_cons (pv 2) (pa_cons (pe_glob (v := .ref A.Ap) rfl T.g_Ap rfl) pa_nil)))))))) (pss_one (ps_ret pe_bl)) pss_nil) (pss_one (ps_ret (pe_and (pe_callH (okH_equals T) (roomH_mark (hr.mono (by decide)) _) (hot_suite hz hf) rfl T.g_equals T.F_equals.kp T.b_equals passH (pa_cons (pe_xf T.xf_Cr T.n_Cr_low hz.zc hf (pv 2)) (pa_cons (pv 1) pa_nil))) (pe_one (pe_callH (okH_equals T) (roomH_mark (hr.mono (by decide)) _) (hot_suite hz hf) rfl T.g_equals T.F_equals.kp T.b_equals passH (pa_cons (pe_xf T.xf_Cr T.n_Cr_high hz.zc hf (pv 2)) (pa_cons (pv 0) pa_nil)))))))))
      (pss_one (ps_ret pe_bl))), ?_⟩
    refine ⟨_, rfl, _, _, _, _, rfl, rfl, SqT.of (hq), rfl, _, rfl, _, _, _, _, rfl, rfl, SqT.of (hq), rfl, ?_⟩
    intro u du nu nd _
    refine ⟨u, du, _, _, rfl, upd_same, fun zz => absurd zz sq.ne, fun _ => ⟨sq.b.mono (by decide), fun H1 ru kp => ⟨rfl, ?_⟩⟩⟩
    have e1 : Ex H H1 := Same.made nu nd kp
    refine ⟨_, rfl, _, _, _, _, rfl, rfl, SqT.of (e1 _ _ hp), rfl, _, rfl, _, _, _, _, rfl, rfl, SqT.of (e1 _ _ hp), rfl, ?_⟩
    intro v dv nv nd' _
    refine ⟨v, dv, _, _, rfl, upd_same, fun zz => absurd zz sp.ne, fun _ => ⟨sp.b.mono (by decide), fun H2 rv kp' => ⟨rfl, ?_⟩⟩⟩
    have e2 : Ex H1 H2 := Same.made nv nd' kp'
    have ry : RatV A.C H2 2001 u y := (RatV.lo ru (sq.t.mono (by decide)) (sq.b.mono (by decide)) sq.ne vq).ex e2
    have rx : RatV A.C H2 2001 v x := RatV.lo rv (sp.t.mono (by decide)) (sp.b.mono (by decide)) sp.ne vp
    intro c dc nc nd2 _
    have em : Ex H2 (upd (upd H2 dc (.own c)) c (.ins A.S dc [])) := fun b o h => by rw [upd_ne (ne_of_none h nc), upd_ne (ne_of_none h nd2)]; exact h
    refine ⟨c, dc, u, v, y, x, rfl, upd_same, ry.ex em, rx.ex em, fun _ d H' ex hd => ⟨true, T.e_Cr, fun _ b nb => ?_, fun z => Bool.noConfusion z⟩, fun n => absurd lt (by grind)⟩
    have nd3 : ∀ dd : Addr, some d = some dd → ∃ fs, H' dd = some (.xd fs) := fun dd e => by cases e; exact ⟨_, hd⟩
    have E3 : Ex H2 H' := em.trans ex
    have E4 : Ex H H' := (e1.trans e2).trans E3
    refine ⟨_, rfl, A.Cr, .ref A.Cr, .ref A.Cr, true, rfl, T.X_Cr, nd3, rfl, fun u e => e, kit_self, _, rfl, iteF ?_⟩
    refine ⟨_, rfl, A.Cr, .ty "ValueError", _, true, rfl, T.X_Cr, nd3, rfl, fun u e => e, T.v_Cr, _, rfl, iteF ?_⟩
    refine ⟨_, rfl, A.Cr, .ref A.Ap, _, false, rfl, T.X_Cr, nd3, rfl, fun u e => e, T.crNa, _, rfl, iteF ?_⟩
    refine ⟨_, rfl, rfl, rfl, d, _, _, rfl, hd, crf_low u v, _, rfl, u, h, y, rfl, ry.ex E3, ⟨q, hq.ex E4, sq.mono (by decide), vq⟩, fun H5 e5 => ⟨true, rfl, ?_⟩⟩
    exact ⟨_, rfl, rfl, rfl, d, _, _, rfl, e5 _ _ hd, crf_high u v, _, rfl, v, l, x, rfl, (rx.ex E3).ex e5, ⟨p, (hp.ex E4).ex e5, sp.mono (by decide), vp⟩, fun H6 e6 => k H6 ((E4.trans e5).trans e6)⟩
end
end Fc
set_option Elab.async false
set_option linter.all false
set_option maxRecDepth 100000
set_option maxHeartbeats 4000000
set_option exponentiation.threshold 100000
namespace Fc
open PySem PySem.Spec PyProof.Rows L2 L2H
section
variable {P : Program} {w : World} {K : PySem.W.Frag} {mg : Str → Option Value} {base : Heap} {A : Ad}
theorem nf_ty {C : Addr} {t : String} (h : PySem.W.subIn K (.type t) (.ref C) = some false) : PySem.W.notFirst K C (.type t) = true := by
  unfold PySem.W.notFirst
  rw [h]
  simp
/-- a Span beside a Ratio, a pair, a text or None: never equal, either way round -/
theorem rd_unlike (T : Txt K mg A) {a : Addr} {x y : Rat} {v : V} {H : Hp} {Q : VK} (ha : SpV A.S A.C H 1000 a x y) (hv : (∃ b r n, v = .ref b ∧ RatV A.C H n b r) ∨ ∃ t, t ∈ ["int", "str", "NoneType", "tuple", "list"] ∧ BK H v t) (k : Q (.bl false) H) :
    rOr (rEqR K A.S (spSEq K A) E0) (rEqR K A.C (Fc.spEq K A.C) E0) (.ref a) v H Q ∧ rOr (rEqR K A.S (spSEq K A) E0) (rEqR K A.C (Fc.spEq K A.C) E0) v (.ref a) H Q := by
  obtain ⟨dx, l, h, ia, _⟩ := id ha
  have ha2 : SpV A.S A.C H 2001 a x y := ha.mono (by decide)
  rcases hv with ⟨b, r, n, rfl, p, ⟨dy, ib⟩, _⟩ | ⟨t, hm, bk⟩
  · refine ⟨.inl (.inl ⟨a, dx, _, _, rfl, ia, tyR T ib, T.nfSR, a, .ref b, x, y, rfl, ha2, .inr ⟨_, tyR T ib, T.rNs, k⟩⟩), .inr (.inl ⟨b, dy, _, _, rfl, ib, tyS T ia, T.nfRS, b, .ref a, p, rfl, ⟨dy, ib⟩, .inr ⟨_, tyS T ia, T.sNr, k⟩⟩)⟩
  · have kn : PySem.W.kitOne K (.type t) (.ref A.S) = some false := kit_ref T.cS.hd T.tyS (T.subS t hm).1 (by intro z; cases z)
    exact ⟨.inl (.inl ⟨a, dx, _, _, rfl, ia, bk.ty, nf_ty (T.subS t hm).1, a, v, x, y, rfl, ha2, .inr ⟨_, bk.ty, kn, k⟩⟩), .inl (.inr ⟨a, dx, _, t, rfl, ia, bk, a, v, x, y, rfl, ha2, .inr ⟨_, bk.ty, kn, k⟩⟩)⟩
def spAlone (A : Ad) : Sp := fun vs H Q _ => ∃ (a s st : Addr) (x y z : Rat), vs = [.ref a, .ref s, .ref st] ∧ SpV A.S A.C H 1000 a x y ∧ EnV H 296 s x y ∧ x ≤ y ∧ PrV H 41 st z ∧ ∀ H', Ex H H' → Q (.bl true) H'
theorem ok_alone (T : Txt K mg A) : FnOk P w K mg base CX0 9 A.f_alone A.d_alone ["a", "s", "step"] (spAlone A) := by
  refine T.F_alone.ok sc_alone (fun vs H Q E h => ?_) (fun cdv Ar outer s H vs Q E hr h => ?_)
  · obtain ⟨a, s, st, x, y, z, rfl, _⟩ := h
    rfl
  · obtain ⟨a, s, st, x, y, z, rfl, ha, en, le, hst, k⟩ := h
    refine ⟨_, (pss_cons (ps_if (pt_not (pt_val (pe_call (ok_isspan T) (hr.mono (by decide)) rfl T.g_isspan T.F_isspan.kp T.b_isspan .nil pass0 (pa_cons (pv 0) (pa_cons (pe_ix ix_tup (pv 1) pe_int (fun _ _ => rfl)) (pa_cons (pe_ix ix_tup (pv 1) pe_int (fun _ _ => rfl)) pa_nil))))))
      (pss_one (ps_ret pe_bl)) pss_nil)
      (pss_cons (ps_if (pt_not (pt_val (pe_call (ok_equals T) (hr.mono (by decide)) rfl T.g_equals T.F_equals.kp T.b_equals .nil pass0 (pa_cons (pe_meth0 (pv 0) T.cS T.m_length (ok_length T) (hr.mono (by decide)) T.b_length .nil pass0) (pa_cons (pe_call (ok_minus T) (hr.mono (by decide)) rfl T.g_minus T.F_minus.kp T.b_minus .nil pass0 (pa_cons (pe_ix ix_tup (pv 1) pe_int (fun _ _ => rfl)) (pa_cons (pe_ix ix_tup (pv 1) pe_int (fun _ _ => rfl)) pa_nil))) pa_nil)))))
      (pss_one (ps_ret pe_bl)) pss_nil)
      (C8.pss_cut (ps_set (i := 3) sc_alone.nd rfl (Or.inl rfl) (pe_op op_add_str (pe_op op_add_str (pe_op op_add_str (pe_op op_add_str pe_str (pe_call (ok_written T) (hr.mono (by decide)) rfl T.g_written T.F_written.kp T.b_written .nil pass0 (pa_cons (pe_ix ix_tup (pv 1) pe_int (fun _ _ => rfl)) pa_nil))) pe_str) (pe_call (ok_written T) (hr.mono (by decide)) rfl T.g_written T.F_written.kp T.b_written .nil pass0 (pa_cons (pe_ix ix_tup (pv 1) pe_int (fun _ _ => rfl)) pa_nil))) pe_str))
      (C8.pss_cut (ps_set (i := 4) sc_alone.nd rfl (Or.inl rfl) (pe_meth0 (pv 0) T.cS T.m_stext (ok_stext T) (hr.mono (by decide)) T.b_stext .nil pass0))
      (pss_cons (ps_if (PW.pt (pw_or (pt_not (pt_val (pe_callB call_isi (by rfl) T.n_isinstance (by decide +kernel) (pa_cons (pv 4) (pa_cons (pe_bltn (v := .ty "str") rfl T.n_str (by decide +kernel) rfl) pa_nil))))) (pw_or1 (pt_cmpR op_ne (pv 4) (pv 3) (nomark _)))))
      (pss_one (ps_ret pe_bl)) pss_nil)
      (C8.pss_cut (ps_for PassesOwn.never rfl (pi_list (pe_lst (pa_cons (pe_fld (pv 0) rfl) (pa_cons (pe_tup (pa_cons (pe_fld (pv 0) rfl) (pa_cons (pe_fld (pv 0) rfl) pa_nil))) (pa_cons (pv 3) (pa_cons pe_non pa_nil)))))) (pg_name (i := 5) sc_alone.nd rfl (Or.inl rfl))
      (pss_one (ps_if (PW.pt (pw_or (pt_cmpR op_notBl (pe_cmpR (op_or (op_eqR T.subS T.m_seq.at_ T.m_seq.fn (ok_seq T) (hr.mono (by decide)) T.b_seq pass0) (op_eqR T.sub T.m_eq.at_ T.m_eq.fn (ok_eq T) (hr.mono (by decide)) T.b_eq pass0)) (pv 0) (pv 5) (nomark _)) pe_bl (nomark _)) (pw_or1 (pt_cmpR op_notBl (pe_cmpR (op_or (op_eqR T.subS T.m_seq.at_ T.m_seq.fn (ok_seq T) (hr.mono (by decide)) T.b_seq pass0) (op_eqR T.sub T.m_eq.at_ T.m_eq.fn (ok_eq T) (hr.mono (by decide)) T.b_eq pass0)) (pv 5) (pv 0) (nomark _)) pe_bl (nomark _)))))
      (pss_one (ps_ret pe_bl)) pss_nil)))
      (C8.pss_cut (ps_for PassesOwn.never rfl (pi_list (pe_lst (pa_cons (pe_call (ok_minus T) (hr.mono (by decide)) rfl T.g_minus T.F_minus.kp T.b_minus .nil pass0 (pa_cons (pe_ix ix_tup (pv 1) pe_int (fun _ _ => rfl)) (pa_cons (pv 2) pa_nil))) (pa_cons (pe_call (ok_plus T) (hr.mono (by decide)) rfl T.g_plus T.F_plus.kp T.b_plus .nil pass0 (pa_cons (pe_ix ix_tup (pv 1) pe_int (fun _ _ => rfl)) (pa_cons (pv 2) pa_nil))) pa_nil)))) (pg_name (i := 6) sc_alone.nd rfl (Or.inl rfl))
      (pss_one (ps_if (pt_not (pt_val (pe_call (ok_lcontains T) (hr.mono (by decide)) rfl T.g_lcontains T.F_lcontains.kp T.b_lcontains .nil pass0 (pa_cons (pv 0) (pa_cons (pv 1) (pa_cons (pv 6) pa_nil))))))
      (pss_one (ps_ret pe_bl)) pss_nil)))
      (pss_cons (ps_if (PW.pt (pw_and (pt_val (pe_call (ok_less T) (hr.mono (by decide)) rfl T.g_less T.F_less.kp T.b_less .nil pass0 (pa_cons (pe_ix ix_tup (pv 1) pe_int (fun _ _ => rfl)) (pa_cons (pe_ix ix_tup (pv 1) pe_int (fun _ _ => rfl)) pa_nil)))) (pw_and1 (pt_not (pt_val (pe_call (ok_crossed T) (hr.mono (by decide)) rfl T.g_crossed T.F_crossed.kp T.b_crossed .nil pass0 (pa_cons (pe_ix ix_tup (pv 1) pe_int (fun _ _ => rfl)) (pa_cons (pe_ix ix_tup (pv 1) pe_int (fun _ _ => rfl)) pa_nil))))))))
      (pss_one (ps_ret pe_bl)) pss_nil)
      (pss_one (ps_ret (pe_call (ok_two T) (hr.mono (by decide)) rfl T.g_two T.F_two.kp T.b_two .nil pass0 (pa_cons (pv 0) (pa_cons (pv 0) (pa_cons (pv 1) (pa_cons (pv 1) pa_nil))))))))))))))), ?_⟩
    obtain ⟨s0, s1, hs, hs0, hs1⟩ := id en
    obtain ⟨dx, l, h, ia, hl, hh⟩ := id ha
    -- the ends
    refine ⟨_, rfl, _, rfl, _, _, _, _, rfl, rfl, SqT.of (hs), rfl, _, rfl, _, _, _, _, rfl, rfl, SqT.of (hs), rfl, a, s0, s1, x, y, rfl, ha.mono (by decide), hs0.mono (by decide), hs1.mono (by decide), fun H1 e1 => ⟨true, rfl, iteF ?_⟩⟩
    -- the length
    refine ⟨_, rfl, a, dx, _, rfl, e1 _ _ ia, sf_no _ _ (by decide +kernel) (by decide +kernel), a, x, y, rfl, ha.ex e1, fun c H2 e2 nc hc => ?_⟩
    have E2 := e1.trans e2
    refine ⟨_, rfl, _, _, _, _, rfl, rfl, SqT.of (E2 _ _ hs), rfl, _, rfl, _, _, _, _, rfl, rfl, SqT.of (E2 _ _ hs), rfl, s1, s0, y, x, 296, 296, rfl, hs1.ex E2, hs0.ex E2, by decide, by decide, by decide, fun d H3 e3 nd hd => ?_⟩
    refine ⟨c, d, y - x, rfl, hc.ex e3, hd.mono (by decide), fun H4 e4 => ⟨true, rfl, iteF ?_⟩⟩
    have E4 := (E2.trans e3).trans e4
    obtain ⟨p, hp, sp, vp⟩ := hs0
    obtain ⟨q, hq, sq, vq⟩ := hs1
    have lp := rtx_len (Sm.lo sp.t sp.b sp.ne).t.lg (Sm.lo sp.t sp.b sp.ne).b.lg
    have lq := rtx_len (Sm.lo sq.t sq.b sq.ne).t.lg (Sm.lo sq.t sq.b sq.ne).b.lg
    have o1 : ("[" : Str).length = 1 := rfl
    have o2 : (", " : Str).length = 2 := rfl
    have o3 : ("]" : Str).length = 1 := rfl
    -- its text
    refine ⟨fun sl H' => sl = [some (.ref a), some (.ref s), some (.ref st), some (.str (stx (lo p.1 p.2) (lo q.1 q.2))), none, none, none] ∧ Ex H H', ?_, ?_⟩
    · refine ⟨_, rfl, _, _, _, _, rfl, rfl, SqT.of (E4 _ _ hs), rfl, s0, p, rfl, hp.ex E4, sp.mono (by decide), fun H5 e5 => ?_⟩
      refine ⟨_, _, rfl, rfl, ?_, _, _, rfl, rfl, ?_, ?_⟩
      · rw [o1, sizeLine_eq]; omega
      · simp only [Str.length_append, sizeLine_eq, o1, o2]; omega
      have E5 := E4.trans e5
      refine ⟨_, rfl, _, _, _, _, rfl, rfl, SqT.of (E5 _ _ hs), rfl, s1, q, rfl, hq.ex E5, sq.mono (by decide), fun H6 e6 => ?_⟩
      refine ⟨_, _, rfl, rfl, ?_, _, _, rfl, rfl, ?_, ?_⟩
      · simp only [Str.length_append, sizeLine_eq, o1, o2]; omega
      · simp only [Str.length_append, sizeLine_eq, o1, o2, o3]; omega
      exact ⟨rfl, E5.trans e6⟩
    rintro sl H5 ⟨rfl, e5⟩
    refine ⟨fun sl H' => sl = [some (.ref a), some (.ref s), some (.ref st), some (.str (stx (lo p.1 p.2) (lo q.1 q.2))), some (.str (stx (lo p.1 p.2) (lo q.1 q.2))), none, none] ∧ H' = H5, ?_, ?_⟩
    · obtain ⟨pl, rl, sl', gl, vl'⟩ := hl.ex e5
      obtain ⟨ph, rh, sh, gh, vh⟩ := hh.ex e5
      have el : pl = lo p.1 p.2 := low_is sl' gl sp (vl'.trans vp.symm)
      have eh : ph = lo q.1 q.2 := low_is sh gh sq (vh.trans vq.symm)
      subst el eh
      refine ⟨_, rfl, a, dx, _, rfl, e5 _ _ ia, sf_no _ _ (by decide +kernel) (by decide +kernel), a, dx, l, h, _, _, rfl, e5 _ _ ia, rl, rh, (Sm.lo sp.t sp.b sp.ne).mono (by decide), (Sm.lo sq.t sq.b sq.ne).mono (by decide), ?_⟩
      exact ⟨rfl, rfl⟩
    rintro sl H6 ⟨rfl, rfl⟩
    refine ⟨_, rfl, _, .ty "str", _, _, true, rfl, .ty _, .base (.str _), kit_ty (by decide +kernel), true, rfl, ?_⟩
    refine iteF ⟨_, rfl, _, rfl, rfl, _, rfl, ?_⟩
    rw [decide_eq_true rfl]
    refine iteF ?_
    -- what it is not equal to
    refine ⟨fun sl H' => (∃ o1 o2, sl = [some (.ref a), some (.ref s), some (.ref st), some (.str (stx (lo p.1 p.2) (lo q.1 q.2))), some (.str (stx (lo p.1 p.2) (lo q.1 q.2))), o1, o2]) ∧ Ex H H', ?_, ?_⟩
    · have hl5 := hl.ex e5
      refine ⟨_, rfl, _, _, _, _, _, rfl, e5 _ _ ia, T.cS, T.nL, sf_low _ _, _, rfl, _, _, _, _, _, rfl, e5 _ _ ia, T.cS, T.nL, sf_low _ _, _, rfl, _, _, _, _, _, rfl, e5 _ _ ia, T.cS, T.nH, sf_high _ _, (by show 2 ≤ sizeLine; exact sz2), fun t nt => ⟨_, rfl, (by show 4 ≤ sizeLine; rw [sizeLine_eq]; decide), fun L nL => ?_⟩⟩
      have e7 : Ex H6 (upd H6 t (.tup [.ref l, .ref h])) := Ex.new nt
      have ht : upd H6 t (.tup [.ref l, .ref h]) t = some (.tup [.ref l, .ref h]) := upd_same
      generalize upd H6 t (.tup [.ref l, .ref h]) = H7 at e7 ht nL ⊢
      have e8 : Ex H7 (upd H7 L (.lst [.ref l, .ref t, .str (stx (lo p.1 p.2) (lo q.1 q.2)), .non])) := Ex.new nL
      have hL : upd H7 L (.lst [.ref l, .ref t, .str (stx (lo p.1 p.2) (lo q.1 q.2)), .non]) L = some (.lst [.ref l, .ref t, .str (stx (lo p.1 p.2) (lo q.1 q.2)), .non]) := upd_same
      generalize upd H7 L (.lst [.ref l, .ref t, .str (stx (lo p.1 p.2) (lo q.1 q.2)), .non]) = H8 at e8 hL ⊢
      have E8 : Ex H H8 := (e5.trans e7).trans e8
      refine ⟨L, rfl, ⟨_, SqL.of hL⟩, for_list (K := K) (a := L) (xs := [.ref l, .ref t, .str (stx (lo p.1 p.2) (lo q.1 q.2)), .non]) (fun i sl H' => (∃ o1 o2, sl = [some (.ref a), some (.ref s), some (.ref st), some (.str (stx (lo p.1 p.2) (lo q.1 q.2))), some (.str (stx (lo p.1 p.2) (lo q.1 q.2))), o1, o2]) ∧ H' = H8) ⟨⟨_, _, rfl⟩, rfl⟩ (fun i sl H' _ p => by rw [p.2]; exact SqL.of hL) (fun i v sl H' hv p => ?_) (fun sl H' p => by rw [p.2]; exact ⟨p.1, E8⟩)⟩
      obtain ⟨⟨o1, o2, rfl⟩, rfl⟩ := p
      have kind : (∃ b r n, v = .ref b ∧ RatV A.C H' n b r) ∨ ∃ t, t ∈ ["int", "str", "NoneType", "tuple", "list"] ∧ BK H' v t := by
        match i, hv with
        | 0, z => cases z; exact .inl ⟨l, _, _, rfl, (hl5.ex e7).ex e8⟩
        | 1, z => cases z; exact .inr ⟨"tuple", by decide, .tup (e8 _ _ ht)⟩
        | 2, z => cases z; exact .inr ⟨"str", by decide, .str _⟩
        | 3, z => cases z; exact .inr ⟨"NoneType", by decide, .non⟩
        | n + 4, z => simp at z
      refine ⟨_, rfl, _, rfl, (rd_unlike T (ha.ex E8) kind ?_).1⟩
      refine ⟨false, false, rfl, rfl, false, rfl, iteF ⟨_, rfl, _, rfl, (rd_unlike T (ha.ex E8) kind ?_).2⟩⟩
      exact ⟨false, false, rfl, rfl, false, rfl, iteF ⟨⟨_, _, rfl⟩, rfl⟩⟩
    rintro sl H7 ⟨⟨o1, o2, rfl⟩, e7⟩
    -- just outside
    refine ⟨fun sl H' => (∃ o1 o2, sl = [some (.ref a), some (.ref s), some (.ref st), some (.str (stx (lo p.1 p.2) (lo q.1 q.2))), some (.str (stx (lo p.1 p.2) (lo q.1 q.2))), o1, o2]) ∧ Ex H H', ?_, ?_⟩
    · refine ⟨_, rfl, _, _, _, _, rfl, rfl, SqT.of (e7 _ _ hs), rfl, _, rfl, s0, st, x, z, 296, 41, rfl, ⟨p, hp.ex e7, sp, vp⟩, hst.ex e7, by decide, by decide, by decide, fun u H8 e8 nu hu => ?_⟩
      have E8 := e7.trans e8
      refine ⟨_, rfl, _, _, _, _, rfl, rfl, SqT.of (E8 _ _ hs), rfl, _, rfl, s1, st, y, z, 296, 41, rfl, ⟨q, hq.ex E8, sq, vq⟩, hst.ex E8, by decide, by decide, by decide, fun v H9 e9 nv hv => ?_⟩
      refine ⟨(by show 2 ≤ sizeLine; exact sz2), fun L nL => ?_⟩
      have hu9 := hu.ex e9
      have E9 := E8.trans e9
      have e0 : Ex H9 (upd H9 L (.lst [.ref u, .ref v])) := Ex.new nL
      have hL : upd H9 L (.lst [.ref u, .ref v]) L = some (.lst [.ref u, .ref v]) := upd_same
      generalize upd H9 L (.lst [.ref u, .ref v]) = H0 at e0 hL ⊢
      have E0' := E9.trans e0
      refine ⟨L, rfl, ⟨_, SqL.of hL⟩, for_list (K := K) (a := L) (xs := [.ref u, .ref v]) (fun i sl H' => (∃ o1 o2, sl = [some (.ref a), some (.ref s), some (.ref st), some (.str (stx (lo p.1 p.2) (lo q.1 q.2))), some (.str (stx (lo p.1 p.2) (lo q.1 q.2))), o1, o2]) ∧ Ex H0 H') ⟨⟨_, _, rfl⟩, fun _ _ h => h⟩ (fun i sl H' _ p => SqL.of (p.2 _ _ hL)) (fun i w sl H' hw p => ?_) (fun sl H' p => ⟨p.1, E0'.trans p.2⟩)⟩
      obtain ⟨⟨o1, o2, rfl⟩, ex⟩ := p
      obtain ⟨b, r, rfl, hb⟩ : ∃ b r, w = V.ref b ∧ PrV H' 900 b r := by
        match i, hw with
        | 0, z => cases z; exact ⟨u, _, rfl, ((hu9.ex e0).ex ex).mono (by decide)⟩
        | 1, z => cases z; exact ⟨v, _, rfl, ((hv.ex e0).ex ex).mono (by decide)⟩
        | n + 2, z => simp at z
      have EE := E0'.trans ex
      exact ⟨_, rfl, _, rfl, _, rfl, a, s, b, x, y, r, rfl, ha.ex EE, en.ex EE, hb, fun H'' e'' => ⟨true, rfl, iteF ⟨⟨_, _, rfl⟩, ex.trans e''⟩⟩⟩
    rintro sl H8 ⟨⟨o1, o2, rfl⟩, e8⟩
    -- exchanged
    have two : ∀ H', Ex H H' → tRet (tCall (spTwo A) [] E0 (tCons (tVar 0) (tCons (tVar 0) (tCons (tVar 1) (tCons (tVar 1) tNil))))) ⟨fun _ _ => False, Q, fun _ _ => False, fun _ _ => False⟩ [some (.ref a), some (.ref s), some (.ref st), some (.str (stx (lo p.1 p.2) (lo q.1 q.2))), some (.str (stx (lo p.1 p.2) (lo q.1 q.2))), o1, o2] H' := fun H' e' =>
      ⟨_, rfl, _, rfl, _, rfl, _, rfl, a, a, s, s, x, y, x, y, rfl, ⟨ha.ex e', ha.ex e', en.ex e', en.ex e', le, le⟩, fun H'' e'' => k H'' (e'.trans e'')⟩
    refine ⟨_, rfl, _, _, _, _, rfl, rfl, SqT.of (e8 _ _ hs), rfl, _, rfl, _, _, _, _, rfl, rfl, SqT.of (e8 _ _ hs), rfl, s0, s1, x, y, rfl, PrV.mono ⟨p, hp.ex e8, sp, vp⟩ (by decide), PrV.mono ⟨q, hq.ex e8, sq, vq⟩ (by decide), _, rfl, ?_⟩
    by_cases c : x < y
    · rw [decide_eq_true c]
      refine ⟨_, rfl, _, _, _, _, rfl, rfl, SqT.of (e8 _ _ hs), rfl, _, rfl, _, _, _, _, rfl, rfl, SqT.of (e8 _ _ hs), rfl, s0, s1, x, y, rfl, ⟨p, hp.ex e8, sp, vp⟩, ⟨q, hq.ex e8, sq, vq⟩, c, fun H9 e9 => ⟨true, rfl, iteF ?_⟩⟩
      exact two H9 (e8.trans e9)
    · rw [decide_eq_false c]
      exact iteF (two H8 e8)
end
end Fc
set_option Elab.async false
set_option linter.all false
set_option maxRecDepth 100000
set_option maxHeartbeats 4000000
set_option exponentiation.threshold 100000
namespace Fc
open PySem PySem.Spec PyProof.Rows L2 L2H
section
variable {P : Program} {w : World} {K : PySem.W.Frag} {mg : Str → Option Value} {base : Heap} {A : Ad}
/-- a fraction of the law's, as its Ratio -/
theorem rat_of {C : Addr} {H : Hp} {u : Addr} {p : Int × Int} (r : RatAt C H u (lo p.1 p.2)) (s : Sm 296 p) : RatV C H 1000 u (vl p) := .lo r (s.t.mono (by decide)) (s.b.mono (by decide)) s.ne rfl
theorem ok_law (T : Txt K mg A) : FnOk P w K mg base CX0 10 A.f_law A.d_law ["script"] (spLaw K) := by
  refine T.F_law.ok sc_law (fun vs H Q E h => ?_) (fun cdv Ar outer s H vs Q E hr h => ?_)
  · obtain ⟨a, ns, rfl, _⟩ := h
    rfl
  · obtain ⟨a0, ns, rfl, hS, hlen, k⟩ := h
    obtain ⟨spp, smp⟩ := T.p_point
    refine ⟨_, (C8.pss_cut (ps_set (i := 1) sc_law.nd rfl (Or.inl rfl) (pe_call (ok_start T) (hr.mono (by decide)) rfl T.g_start T.F_start.kp T.b_start .nil pass0 (pa_cons (pv 0) pa_nil)))
      (C8.pss_cut (ps_set (i := 2) sc_law.nd rfl (Or.inl rfl) (pe_call (ok_ends T) (hr.mono (by decide)) rfl T.g_ends T.F_ends.kp T.b_ends .nil pass0 (pa_cons (pv 1) pa_nil)))
      (C8.pss_cut (ps_set (i := 3) sc_law.nd rfl (Or.inl rfl) (pe_tup (pa_cons pe_int (pa_cons (pe_op op_add pe_int (pe_call (ok_digit T) (hr.mono (by decide)) rfl T.g_digit T.F_digit.kp T.b_digit .nil pass0 (pa_cons (pv 1) (pa_cons (pe_op op_pow pe_int pe_int) pa_nil)))) pa_nil))))
      (C8.pss_cut (ps_set (i := 4) sc_law.nd rfl (Or.inl rfl) (pe_call (ok_second T) (hr.mono (by decide)) rfl T.g_second T.F_second.kp T.b_second .nil pass0 (pa_cons (pv 1) (pa_cons (pv 2) (pa_cons (pv 3) pa_nil)))))
      (C8.pss_cut (ps_set (i := 5) sc_law.nd rfl (Or.inl rfl) (pe_call (ok_between T) (hr.mono (by decide)) rfl T.g_between T.F_between.kp T.b_between .nil pass0 (pa_cons (pv 1) (pa_cons (pv 2) pa_nil))))
      (C8.pss_cut (ps_set (i := 6) sc_law.nd rfl (Or.inl rfl) (pe_call (ok_between T) (hr.mono (by decide)) rfl T.g_between T.F_between.kp T.b_between .nil pass0 (pa_cons (pv 1) (pa_cons (pv 4) pa_nil))))
      (C8.pss_cut (ps_set (i := 7) sc_law.nd rfl (Or.inl rfl) (pe_make T.mkS (ok_sinit T) (hr.mono (by decide)) rfl T.g_Span T.b_sinit .nil passLN (pa_cons (pe_make T.mkC (ok_init T) (hr.mono (by decide)) rfl T.g_Ratio T.b_init3 .nil passL (pa_cons (pe_ix ix_tup (pe_ix ix_tup (pv 2) pe_int (fun _ _ => rfl)) pe_int (fun _ _ => rfl)) (pa_cons (pe_ix ix_tup (pe_ix ix_tup (pv 2) pe_int (fun _ _ => rfl)) pe_int (fun _ _ => rfl)) pa_nil))) (pa_cons (pe_make T.mkC (ok_init T) (hr.mono (by decide)) rfl T.g_Ratio T.b_init3 .nil passL (pa_cons (pe_ix ix_tup (pe_ix ix_tup (pv 2) pe_int (fun _ _ => rfl)) pe_int (fun _ _ => rfl)) (pa_cons (pe_ix ix_tup (pe_ix ix_tup (pv 2) pe_int (fun _ _ => rfl)) pe_int (fun _ _ => rfl)) pa_nil))) pa_nil))))
      (C8.pss_cut (ps_set (i := 8) sc_law.nd rfl (Or.inl rfl) (pe_make T.mkS (ok_sinit T) (hr.mono (by decide)) rfl T.g_Span T.b_sinit .nil passLN (pa_cons (pe_make T.mkC (ok_init T) (hr.mono (by decide)) rfl T.g_Ratio T.b_init3 .nil passL (pa_cons (pe_ix ix_tup (pe_ix ix_tup (pv 4) pe_int (fun _ _ => rfl)) pe_int (fun _ _ => rfl)) (pa_cons (pe_ix ix_tup (pe_ix ix_tup (pv 4) pe_int (fun _ _ => rfl)) pe_int (fun _ _ => rfl)) pa_nil))) (pa_cons (pe_make T.mkC (ok_init T) (hr.mono (by decide)) rfl T.g_Ratio T.b_init3 .nil passL (pa_cons (pe_ix ix_tup (pe_ix ix_tup (pv 4) pe_int (fun _ _ => rfl)) pe_int (fun _ _ => rfl)) (pa_cons (pe_ix ix_tup (pe_ix ix_tup (pv 4) pe_int (fun _ _ => rfl)) pe_int (fun _ _ => rfl)) pa_nil))) pa_nil))))
      (C8.pss_cut (ps_if (PW.pt (pw_or (pt_not (pt_val (pe_call (ok_alone T) (hr.mono (by decide)) rfl T.g_alone T.F_alone.kp T.b_alone .nil pass0 (pa_cons (pv 7) (pa_cons (pv 2) (pa_cons (pv 3) pa_nil)))))) (pw_or1 (pt_not (pt_val (pe_call (ok_alone T) (hr.mono (by decide)) rfl T.g_alone T.F_alone.kp T.b_alone .nil pass0 (pa_cons (pv 8) (pa_cons (pv 4) (pa_cons (pv 3) pa_nil)))))))))
      (pss_one (ps_ret pe_bl)) pss_nil)
      (pss_cons (ps_if (pt_not (pt_val (pe_call (ok_two T) (hr.mono (by decide)) rfl T.g_two T.F_two.kp T.b_two .nil pass0 (pa_cons (pv 7) (pa_cons (pv 8) (pa_cons (pv 2) (pa_cons (pv 4) pa_nil)))))))
      (pss_one (ps_ret pe_bl)) pss_nil)
      (C8.pss_cut (ps_for PassesOwn.never rfl (pi_list (pe_lst (pa_cons (pe_ix ix_tup (pv 2) pe_int (fun _ _ => rfl)) (pa_cons (pe_ix ix_tup (pv 2) pe_int (fun _ _ => rfl)) (pa_cons (pe_ix ix_tup (pv 4) pe_int (fun _ _ => rfl)) (pa_cons (pe_ix ix_tup (pv 4) pe_int (fun _ _ => rfl)) (pa_cons (pv 5) (pa_cons (pv 6) pa_nil)))))))) (pg_name (i := 9) sc_law.nd rfl (Or.inl rfl))
      (pss_cons (ps_if (PW.pt (pw_or (pt_not (pt_val (pe_call (ok_lcontains T) (hr.mono (by decide)) rfl T.g_lcontains T.F_lcontains.kp T.b_lcontains .nil pass0 (pa_cons (pv 7) (pa_cons (pv 2) (pa_cons (pv 9) pa_nil)))))) (pw_or1 (pt_not (pt_val (pe_call (ok_lcontains T) (hr.mono (by decide)) rfl T.g_lcontains T.F_lcontains.kp T.b_lcontains .nil pass0 (pa_cons (pv 8) (pa_cons (pv 4) (pa_cons (pv 9) pa_nil)))))))))
      (pss_one (ps_ret pe_bl)) pss_nil)
      (pss_one (ps_if (pt_not (pt_val (pe_call (ok_isspan T) (hr.mono (by decide)) rfl T.g_isspan T.F_isspan.kp T.b_isspan .nil pass0 (pa_cons (pe_smeth (pe_glob (v := .ref A.S) rfl T.g_Span rfl) T.crS smp (ok_point T) (hr.mono (by decide)) T.b_point pass0 (pa_cons (pe_make T.mkC (ok_init T) (hr.mono (by decide)) rfl T.g_Ratio T.b_init3 .nil passL (pa_cons (pe_ix ix_tup (pv 9) pe_int (fun _ _ => rfl)) (pa_cons (pe_ix ix_tup (pv 9) pe_int (fun _ _ => rfl)) pa_nil))) pa_nil)) (pa_cons (pv 9) (pa_cons (pv 9) pa_nil))))))
      (pss_one (ps_ret pe_bl)) pss_nil))))
      (pss_cons (ps_if (PW.pt (pw_or (pt_not (pt_val (pe_call (ok_isspan T) (hr.mono (by decide)) rfl T.g_isspan T.F_isspan.kp T.b_isspan .nil pass0 (pa_cons (pv 7) (pa_cons (pe_ix ix_tup (pv 2) pe_int (fun _ _ => rfl)) (pa_cons (pe_ix ix_tup (pv 2) pe_int (fun _ _ => rfl)) pa_nil)))))) (pw_or1 (pt_not (pt_val (pe_call (ok_isspan T) (hr.mono (by decide)) rfl T.g_isspan T.F_isspan.kp T.b_isspan .nil pass0 (pa_cons (pv 8) (pa_cons (pe_ix ix_tup (pv 4) pe_int (fun _ _ => rfl)) (pa_cons (pe_ix ix_tup (pv 4) pe_int (fun _ _ => rfl)) pa_nil)))))))))
      (pss_one (ps_ret pe_bl)) pss_nil)
      (pss_one (ps_ret (pe_call (ok_two T) (hr.mono (by decide)) rfl T.g_two T.F_two.kp T.b_two .nil pass0 (pa_cons (pv 7) (pa_cons (pv 8) (pa_cons (pv 2) (pa_cons (pv 4) pa_nil))))))))))))))))))), ?_⟩
    refine ⟨fun sl H' => ∃ pt, sl = [some (.ref a0), some (.ref pt), none, none, none, none, none, none, none, none] ∧ PotAt H' pt, ?_, ?_⟩
    · exact ⟨_, rfl, a0, ns, rfl, hS, hlen, fun pt H1 pt1 e1 n1 => ⟨pt, rfl, pt1⟩⟩
    rintro sl H1 ⟨pt, rfl, p1⟩
    refine ⟨fun sl H' => ∃ s x1 y1, sl = [some (.ref a0), some (.ref pt), some (.ref s), none, none, none, none, none, none, none] ∧ PotAt H' pt ∧ EnV H' 83 s x1 y1 ∧ x1 ≤ y1, ?_, ?_⟩
    · exact ⟨_, rfl, pt, rfl, p1, fun s x1 y1 H2 es le p2 k2 => ⟨s, x1, y1, rfl, p2, es, le⟩⟩
    clear p1
    rintro sl H2 ⟨s, x1, y1, rfl, p1, es, le1⟩
    refine ⟨fun sl H' => ∃ st z, sl = [some (.ref a0), some (.ref pt), some (.ref s), some (.ref st), none, none, none, none, none, none] ∧ PotAt H' pt ∧ EnV H' 83 s x1 y1 ∧ PrV H' 41 st z, ?_, ?_⟩
    · refine ⟨_, rfl, _, _, rfl, rfl, cpow 10 12 (by decide) (by decide), pt, _, rfl, p1, twel_pos, bd_twel.mono (by decide), fun d H3 d0 d1 p3 k3 => ?_⟩
      refine ⟨_, _, rfl, rfl, (by show 2 ≤ sizeLine; exact sz2), fun u hu => ?_⟩
      have bt : Bd 40 ((10 : Int) ^ (12 : Int).toNat) := by show ((10 : Int) ^ 12).natAbs < 2 ^ 40; decide +kernel
      have bb : Bd 41 (1 + d) := by
        have : (1 : Int) + d ≤ (10 : Int) ^ (12 : Int).toNat := by omega
        exact bd_le (bt.mono (by decide)) (by have := twel_pos; omega) this
      exact ⟨u, _, rfl, p3.ex (Ex.new hu), (es.keep p1 k3).ex (Ex.new hu), PrV.new (1, 1 + d) ⟨one41, bb, by show (0 : Int) < 1 + d; omega⟩⟩
    clear p1 es
    rintro sl H3 ⟨st, z, rfl, p1, es, hst⟩
    refine ⟨fun sl H' => ∃ t x2 y2, sl = [some (.ref a0), some (.ref pt), some (.ref s), some (.ref st), some (.ref t), none, none, none, none, none] ∧ PotAt H' pt ∧ EnV H' 83 s x1 y1 ∧ PrV H' 41 st z ∧ EnV H' 296 t x2 y2 ∧ x2 ≤ y2, ?_, ?_⟩
    · exact ⟨_, rfl, _, rfl, _, rfl, pt, s, st, x1, y1, z, rfl, p1, es, le1, hst, fun t x2 y2 H4 et le2 p4 k4 => ⟨t, x2, y2, rfl, p4, es.keep p1 k4, hst.keep p1 k4, et, le2⟩⟩
    clear p1 es hst
    rintro sl H4 ⟨t, x2, y2, rfl, p1, es, hst, et, le2⟩
    refine ⟨fun sl H' => ∃ x vx, sl = [some (.ref a0), some (.ref pt), some (.ref s), some (.ref st), some (.ref t), some (.ref x), none, none, none, none] ∧ PotAt H' pt ∧ EnV H' 83 s x1 y1 ∧ PrV H' 41 st z ∧ EnV H' 296 t x2 y2 ∧ PrV H' 900 x vx, ?_, ?_⟩
    · exact ⟨_, rfl, _, rfl, pt, s, 83, x1, y1, rfl, p1, es, by decide, by decide, le1, fun x vx H5 hx i1 i2 p5 k5 => ⟨x, vx, rfl, p5, es.keep p1 k5, hst.keep p1 k5, et.keep p1 k5, hx.mono (by decide)⟩⟩
    clear p1 es hst et
    rintro sl H5 ⟨x, vx, rfl, p1, es, hst, et, hx⟩
    refine ⟨fun sl H' => ∃ y vy, sl = [some (.ref a0), some (.ref pt), some (.ref s), some (.ref st), some (.ref t), some (.ref x), some (.ref y), none, none, none] ∧ EnV H' 296 s x1 y1 ∧ PrV H' 41 st z ∧ EnV H' 296 t x2 y2 ∧ PrV H' 900 x vx ∧ PrV H' 900 y vy, ?_, ?_⟩
    · exact ⟨_, rfl, _, rfl, pt, t, 296, x2, y2, rfl, p1, et, by decide, by decide, le2, fun y vy H6 hy i1 i2 p6 k6 => ⟨y, vy, rfl, (es.keep p1 k6).mono (by decide), hst.keep p1 k6, et.keep p1 k6, hx.keep p1 k6, hy.mono (by decide)⟩⟩
    clear p1 es hst et hx
    rintro sl H6 ⟨y, vy, rfl, es, hst, et, hx, hy⟩
    refine ⟨fun sl H' => ∃ a, sl = [some (.ref a0), some (.ref pt), some (.ref s), some (.ref st), some (.ref t), some (.ref x), some (.ref y), some (.ref a), none, none] ∧ Ex H6 H' ∧ SpV A.S A.C H' 1000 a x1 y1, ?_, ?_⟩
    · obtain ⟨pa, pb, hs, ⟨p, hp, sp, rfl⟩, ⟨q, hq, sq, rfl⟩⟩ := id es
      refine ⟨_, rfl, _, _, _, _, rfl, rfl, SqT.of (hs), rfl, _, _, _, _, rfl, rfl, SqT.of (hp), rfl, _, rfl, _, _, _, _, rfl, rfl, SqT.of (hs), rfl, _, _, _, _, rfl, rfl, SqT.of (hp), rfl, ?_⟩
      intro u du nu nd _
      refine ⟨u, du, _, _, rfl, upd_same, fun zz => absurd zz sp.ne, fun _ => ⟨sp.b.mono (by decide), fun J7 ru kp => ⟨rfl, ?_⟩⟩⟩
      have e7 : Ex H6 J7 := Same.made nu nd kp
      clear nu nd kp
      refine ⟨_, rfl, _, _, _, _, rfl, rfl, SqT.of (e7 _ _ hs), rfl, _, _, _, _, rfl, rfl, SqT.of (e7 _ _ hq), rfl, _, rfl, _, _, _, _, rfl, rfl, SqT.of (e7 _ _ hs), rfl, _, _, _, _, rfl, rfl, SqT.of (e7 _ _ hq), rfl, ?_⟩
      intro v dv nv nd _
      refine ⟨v, dv, _, _, rfl, upd_same, fun zz => absurd zz sq.ne, fun _ => ⟨sq.b.mono (by decide), fun J8 rv kp => ⟨rfl, ?_⟩⟩⟩
      have e8 : Ex J7 J8 := Same.made nv nd kp
      clear nv nd kp
      have r1 := (rat_of ru sp).ex e8
      have r2 := rat_of rv sq
      intro c dc nc nd ne
      have em : Ex J8 (upd (upd J8 dc (.own c)) c (.ins A.S dc [])) := fun b o e => by rw [upd_ne (ne_of_none e nc), upd_ne (ne_of_none e nd)]; exact e
      refine ⟨c, dc, u, v, _, _, rfl, upd_same, (r1.ex em).mono (by decide), (r2.ex em).mono (by decide), fun zz => absurd zz (by grind), fun _ J9 hc kp => ⟨rfl, ?_⟩⟩
      have e9 : Ex J8 J9 := Same.made nc nd kp
      exact ⟨c, rfl, (e7.trans e8).trans e9, dc, u, v, hc, r1.ex e9, r2.ex e9⟩
    rintro sl H7 ⟨a, rfl, ea, ha⟩
    replace es := es.ex ea
    replace hst := hst.ex ea
    replace et := et.ex ea
    replace hx := hx.ex ea
    replace hy := hy.ex ea
    clear ea
    refine ⟨fun sl H' => ∃ b, sl = [some (.ref a0), some (.ref pt), some (.ref s), some (.ref st), some (.ref t), some (.ref x), some (.ref y), some (.ref a), some (.ref b), none] ∧ Ex H7 H' ∧ SpV A.S A.C H' 1000 b x2 y2, ?_, ?_⟩
    · obtain ⟨pa, pb, hs, ⟨p, hp, sp, rfl⟩, ⟨q, hq, sq, rfl⟩⟩ := id et
      refine ⟨_, rfl, _, _, _, _, rfl, rfl, SqT.of (hs), rfl, _, _, _, _, rfl, rfl, SqT.of (hp), rfl, _, rfl, _, _, _, _, rfl, rfl, SqT.of (hs), rfl, _, _, _, _, rfl, rfl, SqT.of (hp), rfl, ?_⟩
      intro u du nu nd _
      refine ⟨u, du, _, _, rfl, upd_same, fun zz => absurd zz sp.ne, fun _ => ⟨sp.b.mono (by decide), fun J7 ru kp => ⟨rfl, ?_⟩⟩⟩
      have e7 : Ex H7 J7 := Same.made nu nd kp
      clear nu nd kp
      refine ⟨_, rfl, _, _, _, _, rfl, rfl, SqT.of (e7 _ _ hs), rfl, _, _, _, _, rfl, rfl, SqT.of (e7 _ _ hq), rfl, _, rfl, _, _, _, _, rfl, rfl, SqT.of (e7 _ _ hs), rfl, _, _, _, _, rfl, rfl, SqT.of (e7 _ _ hq), rfl, ?_⟩
      intro v dv nv nd _
      refine ⟨v, dv, _, _, rfl, upd_same, fun zz => absurd zz sq.ne, fun _ => ⟨sq.b.mono (by decide), fun J8 rv kp => ⟨rfl, ?_⟩⟩⟩
      have e8 : Ex J7 J8 := Same.made nv nd kp
      clear nv nd kp
      have r1 := (rat_of ru sp).ex e8
      have r2 := rat_of rv sq
      intro c dc nc nd ne
      have em : Ex J8 (upd (upd J8 dc (.own c)) c (.ins A.S dc [])) := fun b o e => by rw [upd_ne (ne_of_none e nc), upd_ne (ne_of_none e nd)]; exact e
      refine ⟨c, dc, u, v, _, _, rfl, upd_same, (r1.ex em).mono (by decide), (r2.ex em).mono (by decide), fun zz => absurd zz (by grind), fun _ J9 hc kp => ⟨rfl, ?_⟩⟩
      have e9 : Ex J8 J9 := Same.made nc nd kp
      exact ⟨c, rfl, (e7.trans e8).trans e9, dc, u, v, hc, r1.ex e9, r2.ex e9⟩
    rintro sl H8 ⟨b, rfl, eb, hb⟩
    replace es := es.ex eb
    replace hst := hst.ex eb
    replace et := et.ex eb
    replace hx := hx.ex eb
    replace hy := hy.ex eb
    replace ha := ha.ex eb
    clear eb
    refine ⟨fun sl H' => sl = [some (.ref a0), some (.ref pt), some (.ref s), some (.ref st), some (.ref t), some (.ref x), some (.ref y), some (.ref a), some (.ref b), none] ∧ Ex H8 H', ?_, ?_⟩
    · refine ⟨_, rfl, _, rfl, _, rfl, a, s, st, x1, y1, z, rfl, ha, es, le1, hst, fun G1 e1 => ⟨_, rfl, iteF ?_⟩⟩
      refine ⟨_, rfl, _, rfl, _, rfl, b, t, st, x2, y2, z, rfl, hb.ex e1, et.ex e1, le2, hst.ex e1, fun G2 e2 => ⟨_, rfl, iteF ?_⟩⟩
      exact ⟨rfl, e1.trans e2⟩
    rintro sl G ⟨rfl, eg⟩
    have ht : TwoIn A G a b s t x1 y1 x2 y2 := ⟨ha.ex eg, hb.ex eg, es.ex eg, et.ex eg, le1, le2⟩
    refine ⟨_, rfl, _, rfl, _, rfl, _, rfl, a, b, s, t, x1, y1, x2, y2, rfl, ht, fun G1 e1 => ⟨_, rfl, iteF ?_⟩⟩
    replace ht := ht.ex e1
    replace hx := (hx.ex eg).ex e1
    replace hy := (hy.ex eg).ex e1
    clear eg es et ha hb hst
    refine ⟨fun sl H' => (∃ o, sl = [some (.ref a0), some (.ref pt), some (.ref s), some (.ref st), some (.ref t), some (.ref x), some (.ref y), some (.ref a), some (.ref b), o]) ∧ Ex G1 H', ?_, ?_⟩
    · obtain ⟨s0, s1, hs, hs0, hs1⟩ := ht.s
      obtain ⟨t0, t1, hh, ht0, ht1⟩ := ht.t
      refine ⟨_, rfl, _, _, _, _, rfl, rfl, SqT.of (hs), rfl, _, rfl, _, _, _, _, rfl, rfl, SqT.of (hs), rfl, _, rfl, _, _, _, _, rfl, rfl, SqT.of (hh), rfl, _, rfl, _, _, _, _, rfl, rfl, SqT.of (hh), rfl, _, rfl, _, rfl, (by show 6 ≤ sizeLine; rw [sizeLine_eq]; decide), fun L nL => ?_⟩
      have e0 : Ex G1 (upd G1 L (.lst [.ref s0, .ref s1, .ref t0, .ref t1, .ref x, .ref y])) := Ex.new nL
      have hL : upd G1 L (.lst [.ref s0, .ref s1, .ref t0, .ref t1, .ref x, .ref y]) L = some (.lst [.ref s0, .ref s1, .ref t0, .ref t1, .ref x, .ref y]) := upd_same
      generalize upd G1 L (.lst [.ref s0, .ref s1, .ref t0, .ref t1, .ref x, .ref y]) = G2 at e0 hL ⊢
      refine ⟨L, rfl, ⟨_, SqL.of hL⟩, for_list (K := K) (a := L) (xs := [.ref s0, .ref s1, .ref t0, .ref t1, .ref x, .ref y]) (fun i sl H' => (∃ o, sl = [some (.ref a0), some (.ref pt), some (.ref s), some (.ref st), some (.ref t), some (.ref x), some (.ref y), some (.ref a), some (.ref b), o]) ∧ Ex G2 H') ⟨⟨_, rfl⟩, fun _ _ h => h⟩ (fun i sl H' _ p => SqL.of (p.2 _ _ hL)) (fun i v sl H' hv p => ?_) (fun sl H' p => ⟨p.1, e0.trans p.2⟩)⟩
      obtain ⟨⟨o, rfl⟩, ex⟩ := p
      have E := e0.trans ex
      obtain ⟨q, r, rfl, hq⟩ : ∃ q r, v = V.ref q ∧ PrV H' 900 q r := by
        match i, hv with
        | 0, z => cases z; exact ⟨s0, _, rfl, (hs0.ex E).mono (by decide)⟩
        | 1, z => cases z; exact ⟨s1, _, rfl, (hs1.ex E).mono (by decide)⟩
        | 2, z => cases z; exact ⟨t0, _, rfl, (ht0.ex E).mono (by decide)⟩
        | 3, z => cases z; exact ⟨t1, _, rfl, (ht1.ex E).mono (by decide)⟩
        | 4, z => cases z; exact ⟨x, _, rfl, hx.ex E⟩
        | 5, z => cases z; exact ⟨y, _, rfl, hy.ex E⟩
        | n + 6, z => simp at z
      have hT := ht.ex E
      refine ⟨_, rfl, _, rfl, _, rfl, a, s, q, x1, y1, r, rfl, hT.a, hT.s, hq, fun H1 e1 => ⟨true, rfl, iteF ?_⟩⟩
      refine ⟨_, rfl, _, rfl, _, rfl, b, t, q, x2, y2, r, rfl, hT.b.ex e1, hT.t.ex e1, hq.ex e1, fun H2 e2 => ⟨true, rfl, iteF ?_⟩⟩
      have E2 := e1.trans e2
      obtain ⟨pq, hpq, spq, vpq⟩ := hq.ex E2
      refine ⟨rfl, _, rfl, _, _, _, _, rfl, rfl, SqT.of (hpq), rfl, _, rfl, _, _, _, _, rfl, rfl, SqT.of (hpq), rfl, ?_⟩
      intro u du nu nd _
      refine ⟨u, du, _, _, rfl, upd_same, fun zz => absurd zz spq.ne, fun _ => ⟨spq.b.mono (by decide), fun J7 ru kp => ⟨rfl, ?_⟩⟩⟩
      have e7 : Ex H2 J7 := Same.made nu nd kp
      have ru' : RatV A.C J7 2001 u r := .lo ru (spq.t.mono (by decide)) (spq.b.mono (by decide)) spq.ne vpq
      refine ⟨u, r, rfl, ru', fun c J8 e8 nc sc => ?_⟩
      have hq8 : PrV J8 1000 q r := ⟨pq, (e7.trans e8) _ _ hpq, spq.mono (by decide), vpq⟩
      refine ⟨_, rfl, _, rfl, c, q, q, r, r, rfl, sc, hq8, hq8, fun J9 e9 => ⟨true, rfl, iteF ?_⟩⟩
      exact ⟨⟨_, rfl⟩, ((ex.trans E2).trans (e7.trans e8)).trans e9⟩
    rintro sl G2 ⟨⟨o, rfl⟩, eg⟩
    replace ht := ht.ex eg
    obtain ⟨s0, s1, hs, hs0, hs1⟩ := ht.s
    obtain ⟨t0, t1, hh, ht0, ht1⟩ := ht.t
    refine ⟨_, rfl, _, rfl, _, _, _, _, rfl, rfl, SqT.of (hs), rfl, _, rfl, _, _, _, _, rfl, rfl, SqT.of (hs), rfl, a, s0, s1, x1, y1, rfl, ht.a.mono (by decide), hs0.mono (by decide), hs1.mono (by decide), fun H1 e1 => ⟨true, rfl, iteF ?_⟩⟩
    refine ⟨_, rfl, _, rfl, _, _, _, _, rfl, rfl, SqT.of (e1 _ _ hh), rfl, _, rfl, _, _, _, _, rfl, rfl, SqT.of (e1 _ _ hh), rfl, b, t0, t1, x2, y2, rfl, (ht.b.ex e1).mono (by decide), (ht0.ex e1).mono (by decide), (ht1.ex e1).mono (by decide), fun H2 e2 => ⟨true, rfl, iteF ?_⟩⟩
    exact ⟨_, rfl, _, rfl, _, rfl, _, rfl, a, b, s, t, x1, y1, x2, y2, rfl, ht.ex (e1.trans e2), fun H3 _ => k H3⟩
end
end Fc
set_option Elab.async false
set_option linter.all false
set_option maxRecDepth 100000
set_option maxHeartbeats 4000000
namespace Fc
open PySem PySem.Spec PyProof.Rows L2 L2H
theorem all_mk {l : PySem.W.OpenLaw} {w : World} {K : PySem.W.Frag} {h : Heap} {mg : Str → Option Value} {fa : Addr} (X : K.In h) (G : h.Ns mainGlobals mg) (hfa : mg "law" = some (.ref fa))
    {f_cross : Addr} {oc_cross kV_cross dc_cross pm_cross cd_cross ct_cross : Value} {od_cross an_cross : Option Addr} {sl_cross : Array (Option Value)}
    {f_sub : Addr} {oc_sub kV_sub dc_sub pm_sub cd_sub ct_sub : Value} {od_sub an_sub : Option Addr} {sl_sub : Array (Option Value)}
    {f_eq : Addr} {oc_eq kV_eq dc_eq pm_eq cd_eq ct_eq : Value} {od_eq an_eq : Option Addr} {sl_eq : Array (Option Value)}
    {f_compare : Addr} {oc_compare kV_compare dc_compare pm_compare cd_compare ct_compare : Value} {od_compare an_compare : Option Addr} {sl_compare : Array (Option Value)}
    {f_rtext : Addr} {oc_rtext kV_rtext dc_rtext pm_rtext cd_rtext ct_rtext : Value} {od_rtext an_rtext : Option Addr} {sl_rtext : Array (Option Value)}
    {f_sinit : Addr} {oc_sinit kV_sinit dc_sinit pm_sinit cd_sinit ct_sinit : Value} {od_sinit an_sinit : Option Addr} {sl_sinit : Array (Option Value)}
    {f_point : Addr} {oc_point kV_point dc_point pm_point cd_point ct_point : Value} {od_point an_point : Option Addr} {sl_point : Array (Option Value)}
    {p_point : Addr} {rest_point : List Value}
    {f_sand : Addr} {oc_sand kV_sand dc_sand pm_sand cd_sand ct_sand : Value} {od_sand an_sand : Option Addr} {sl_sand : Array (Option Value)}
    {f_seq : Addr} {oc_seq kV_seq dc_seq pm_seq cd_seq ct_seq : Value} {od_seq an_seq : Option Addr} {sl_seq : Array (Option Value)}
    {f_scontains : Addr} {oc_scontains kV_scontains dc_scontains pm_scontains cd_scontains ct_scontains : Value} {od_scontains an_scontains : Option Addr} {sl_scontains : Array (Option Value)}
    {f_length : Addr} {oc_length kV_length dc_length pm_length cd_length ct_length : Value} {od_length an_length : Option Addr} {sl_length : Array (Option Value)}
    {f_atmost : Addr} {oc_atmost kV_atmost dc_atmost pm_atmost cd_atmost ct_atmost : Value} {od_atmost an_atmost : Option Addr} {sl_atmost : Array (Option Value)}
    {f_stext : Addr} {oc_stext kV_stext dc_stext pm_stext cd_stext ct_stext : Value} {od_stext an_stext : Option Addr} {sl_stext : Array (Option Value)}
    {f_lesser : Addr} {oc_lesser kV_lesser dc_lesser pm_lesser cd_lesser ct_lesser : Value} {od_lesser an_lesser : Option Addr} {sl_lesser : Array (Option Value)}
    {f_greater : Addr} {oc_greater kV_greater dc_greater pm_greater cd_greater ct_greater : Value} {od_greater an_greater : Option Addr} {sl_greater : Array (Option Value)}
    {f_start : Addr} {oc_start kV_start dc_start pm_start cd_start ct_start : Value} {od_start an_start : Option Addr} {sl_start : Array (Option Value)}
    {f_digit : Addr} {oc_digit kV_digit dc_digit pm_digit cd_digit ct_digit : Value} {od_digit an_digit : Option Addr} {sl_digit : Array (Option Value)}
    {f_fraction : Addr} {oc_fraction kV_fraction dc_fraction pm_fraction cd_fraction ct_fraction : Value} {od_fraction an_fraction : Option Addr} {sl_fraction : Array (Option Value)}
    {f_less : Addr} {oc_less kV_less dc_less pm_less cd_less ct_less : Value} {od_less an_less : Option Addr} {sl_less : Array (Option Value)}
    {f_plus : Addr} {oc_plus kV_plus dc_plus pm_plus cd_plus ct_plus : Value} {od_plus an_plus : Option Addr} {sl_plus : Array (Option Value)}
    {f_minus : Addr} {oc_minus kV_minus dc_minus pm_minus cd_minus ct_minus : Value} {od_minus an_minus : Option Addr} {sl_minus : Array (Option Value)}
    {f_ends : Addr} {oc_ends kV_ends dc_ends pm_ends cd_ends ct_ends : Value} {od_ends an_ends : Option Addr} {sl_ends : Array (Option Value)}
    {f_between : Addr} {oc_between kV_between dc_between pm_between cd_between ct_between : Value} {od_between an_between : Option Addr} {sl_between : Array (Option Value)}
    {f_second : Addr} {oc_second kV_second dc_second pm_second cd_second ct_second : Value} {od_second an_second : Option Addr} {sl_second : Array (Option Value)}
    {f_lowest : Addr} {oc_lowest kV_lowest dc_lowest pm_lowest cd_lowest ct_lowest : Value} {od_lowest an_lowest : Option Addr} {sl_lowest : Array (Option Value)}
    {f_written : Addr} {oc_written kV_written dc_written pm_written cd_written ct_written : Value} {od_written an_written : Option Addr} {sl_written : Array (Option Value)}
    {f_equals : Addr} {oc_equals kV_equals dc_equals pm_equals cd_equals ct_equals : Value} {od_equals an_equals : Option Addr} {sl_equals : Array (Option Value)}
    {f_isspan : Addr} {oc_isspan kV_isspan dc_isspan pm_isspan cd_isspan ct_isspan : Value} {od_isspan an_isspan : Option Addr} {sl_isspan : Array (Option Value)}
    {f_order : Addr} {oc_order kV_order dc_order pm_order cd_order ct_order : Value} {od_order an_order : Option Addr} {sl_order : Array (Option Value)}
    {f_lapart : Addr} {oc_lapart kV_lapart dc_lapart pm_lapart cd_lapart ct_lapart : Value} {od_lapart an_lapart : Option Addr} {sl_lapart : Array (Option Value)}
    {f_common : Addr} {oc_common kV_common dc_common pm_common cd_common ct_common : Value} {od_common an_common : Option Addr} {sl_common : Array (Option Value)}
    {f_same : Addr} {oc_same kV_same dc_same pm_same cd_same ct_same : Value} {od_same an_same : Option Addr} {sl_same : Array (Option Value)}
    {f_two : Addr} {oc_two kV_two dc_two pm_two cd_two ct_two : Value} {od_two an_two : Option Addr} {sl_two : Array (Option Value)}
    {f_lcontains : Addr} {oc_lcontains kV_lcontains dc_lcontains pm_lcontains cd_lcontains ct_lcontains : Value} {od_lcontains an_lcontains : Option Addr} {sl_lcontains : Array (Option Value)}
    {f_crossed : Addr} {oc_crossed kV_crossed dc_crossed pm_crossed cd_crossed ct_crossed : Value} {od_crossed an_crossed : Option Addr} {sl_crossed : Array (Option Value)}
    {f_alone : Addr} {oc_alone kV_alone dc_alone pm_alone cd_alone ct_alone : Value} {od_alone an_alone : Option Addr} {sl_alone : Array (Option Value)}
    {f_law : Addr} {oc_law kV_law dc_law pm_law cd_law ct_law : Value} {od_law an_law : Option Addr} {sl_law : Array (Option Value)}
    {C f_init T_init : Addr} {oc_init kV_init dc_init pm_init cd_init ct_init : Value} {od_init an_init : Option Addr} {sl_init : Array (Option Value)} {oT : Value} {dT : Option Addr} {tT : Tok} {nT' : Nat} {sT : Array (Option Value)}
    {Z : Addr}
    {S : Addr}
    {CE : Addr}
    {Ap : Addr}
    {Cr : Addr} {nm_Cr q_Cr : Str} {N_Cr : Addr} {bs1_Cr : List Value} {sn_Cr : List Str} {sub_Cr : List Value} {ab_Cr : Bool} {col_Cr : Option Bool} {dd_Cr : Option Addr} {m0_Cr m1_Cr m2_Cr m3_Cr m5_Cr : Option Value} {bm_Cr : List Value}
    (hn : PySem.W.specialIn K (.builtin "object.__class__") "__get__" = some (some (.builtin "getset_descriptor.__get__")))
    (htk : PySem.W.takesIn K (.builtin "object.__class__") = some true)
    (aC : PySem.W.nsIn K mainGlobals "Ratio" = some (some (.ref C)))
    (pgC : PySem.W.plainGet K C Str.empty = true)
    (hdC : PySem.W.hasDictIn K C = true)
    (poC : PySem.W.plainOver K C = true)
    (saC : PySem.W.findIn K (.ref C) "__setattr__" = some (some (.builtin "object.__setattr__")))
    (mkC : PySem.W.makesIn K C = true)
    (kcC : PySem.W.keepIn K (.ref C) = true)
    (a_init : PySem.W.findIn K (.ref C) "__init__" = some (some (.ref f_init)))
    (i_init : PySem.W.isFn K (.ref f_init) = true)
    (l_init : K.lookup f_init = some ⟨oc_init, od_init, .func (PySem.W.fnOf "__init__" "Ratio.__init__" (defArgs S_init) (defBody S_init) (defScope S_init) (.ref T_init) kV_init dc_init pm_init an_init cd_init ct_init), sl_init⟩)
    (lT : K.lookup T_init = some ⟨oT, dT, .seq #[Value.int 1 tT] nT', sT⟩)
    (c_init : PySem.W.codeIn K cd_init "Ratio.__init__" = true)
    (k_init : PySem.W.keepIn K (.ref f_init) = true)
    (nT : PySem.W.findIn K (.ref C) "top" = some none)
    (nB : PySem.W.findIn K (.ref C) "bottom" = some none)
    (ha : PySem.W.findIn K (.ref C) "__class__" = some (some (.builtin "object.__class__")))
    (hm : PySem.W.mroIn K C (.type "object") = some true)
    (gg : PySem.W.nsIn K mainGlobals "gcd" = some (some (.builtin "math.gcd")))
    (sf : PySem.W.selfFirst K C = true)
    (aZ : PySem.W.nsIn K mainGlobals "ZeroBottom" = some (some (.ref Z)))
    (xZ : PySem.W.excIn K Z [.type "ValueError", .type "Exception", .type "BaseException", .type "object"] "ValueError.__new__" = true)
    (kZ : PySem.W.keepIn K (.ref Z) = true)
    (bZ : PySem.W.subIn K (.ref Z) (.type "BaseException") = some true)
    (tZ : PySem.W.typeIn K (.ref Z) = some (.type "type"))
    (tyC : PySem.W.typeIn K (.ref C) = some (.type "type"))
    (s0a : PySem.W.subIn K (.type "int") (.ref C) = some false)
    (s0b : PySem.W.subIn K (.ref C) (.type "int") = some false)
    (s1a : PySem.W.subIn K (.type "str") (.ref C) = some false)
    (s1b : PySem.W.subIn K (.ref C) (.type "str") = some false)
    (s2a : PySem.W.subIn K (.type "NoneType") (.ref C) = some false)
    (s2b : PySem.W.subIn K (.ref C) (.type "NoneType") = some false)
    (s3a : PySem.W.subIn K (.type "tuple") (.ref C) = some false)
    (s3b : PySem.W.subIn K (.ref C) (.type "tuple") = some false)
    (s4a : PySem.W.subIn K (.type "list") (.ref C) = some false)
    (s4b : PySem.W.subIn K (.ref C) (.type "list") = some false)
    (aS : PySem.W.nsIn K mainGlobals "Span" = some (some (.ref S)))
    (pgS : PySem.W.plainGet K S Str.empty = true)
    (hdS : PySem.W.hasDictIn K S = true)
    (poS : PySem.W.plainOver K S = true)
    (saS : PySem.W.findIn K (.ref S) "__setattr__" = some (some (.builtin "object.__setattr__")))
    (mkS : PySem.W.makesIn K S = true)
    (kcS : PySem.W.keepIn K (.ref S) = true)
    (nL : PySem.W.findIn K (.ref S) "low" = some none)
    (nH : PySem.W.findIn K (.ref S) "high" = some none)
    (sfS : PySem.W.selfFirst K S = true)
    (haS : PySem.W.findIn K (.ref S) "__class__" = some (some (.builtin "object.__class__")))
    (hmS : PySem.W.mroIn K S (.type "object") = some true)
    (aCE : PySem.W.nsIn K mainGlobals "CarryError" = some (some (.ref CE)))
    (CEd : PySem.W.hasDictIn K CE = true)
    (CEb : PySem.W.subIn K (.ref CE) (.type "BaseException") = some true)
    (CEt : PySem.W.typeIn K (.ref CE) = some (.type "type"))
    (a_Ap : PySem.W.nsIn K mainGlobals "Apart" = some (some (.ref Ap)))
    (x_Ap : PySem.W.excIn K Ap [.type "ValueError", .type "Exception", .type "BaseException", .type "object"] "ValueError.__new__" = true)
    (k_Ap : PySem.W.keepIn K (.ref Ap) = true)
    (bs_Ap : PySem.W.subIn K (.ref Ap) (.type "BaseException") = some true)
    (t_Ap : PySem.W.typeIn K (.ref Ap) = some (.type "type"))
    (e_Ap : PySem.W.subIn K (.ref Ap) (.ref CE) = some true)
    (g0_Ap : PySem.W.findIn K (.ref Ap) "__getattribute__" = some (some (.builtin "BaseException.__getattribute__")))
    (g1_Ap : PySem.W.findIn K (.ref Ap) "__getattr__" = some none)
    (d_Ap : PySem.W.hasDictIn K Ap = true)
    (cl_Ap : PySem.W.findIn K (.ref Ap) "__class__" = some (some (.builtin "object.__class__")))
    (m_Ap : PySem.W.mroIn K Ap (.type "object") = some true)
    (v_Ap : PySem.W.subIn K (.ref Ap) (.type "ValueError") = some true)
    (a_Cr : PySem.W.nsIn K mainGlobals "Crossed" = some (some (.ref Cr)))
    (c_Cr : K.lookup Cr = some (excClassObj nm_Cr q_Cr Cr N_Cr bs1_Cr bm_Cr true sn_Cr sub_Cr ab_Cr col_Cr dd_Cr m0_Cr m1_Cr m2_Cr m3_Cr m5_Cr "ValueError.__new__"))
    (r_Cr : PySem.HandSPX.refsVE bm_Cr = true)
    (sa_Cr : PySem.W.findIn K (.ref Cr) "__setattr__" = some (some (.builtin "object.__setattr__")))
    (k_Cr : PySem.W.keepIn K (.ref Cr) = true)
    (bs_Cr : PySem.W.subIn K (.ref Cr) (.type "BaseException") = some true)
    (t_Cr : PySem.W.typeIn K (.ref Cr) = some (.type "type"))
    (e_Cr : PySem.W.subIn K (.ref Cr) (.ref CE) = some true)
    (g0_Cr : PySem.W.findIn K (.ref Cr) "__getattribute__" = some (some (.builtin "BaseException.__getattribute__")))
    (g1_Cr : PySem.W.findIn K (.ref Cr) "__getattr__" = some none)
    (d_Cr : PySem.W.hasDictIn K Cr = true)
    (cl_Cr : PySem.W.findIn K (.ref Cr) "__class__" = some (some (.builtin "object.__class__")))
    (m_Cr : PySem.W.mroIn K Cr (.type "object") = some true)
    (v_Cr : PySem.W.subIn K (.ref Cr) (.type "ValueError") = some true)
    (n_Cr_low : PySem.W.findIn K (.ref Cr) "low" = some none)
    (n_Cr_high : PySem.W.findIn K (.ref Cr) "high" = some none)
    (s_apNc : PySem.W.subIn K (.ref Ap) (.ref Cr) = some false)
    (n_apNc : Ap ≠ Cr)
    (s_crNa : PySem.W.subIn K (.ref Cr) (.ref Ap) = some false)
    (n_crNa : Cr ≠ Ap)
    (tyS : PySem.W.typeIn K (.ref S) = some (.type "type"))
    (s0aS : PySem.W.subIn K (.type "int") (.ref S) = some false)
    (s0bS : PySem.W.subIn K (.ref S) (.type "int") = some false)
    (s1aS : PySem.W.subIn K (.type "str") (.ref S) = some false)
    (s1bS : PySem.W.subIn K (.ref S) (.type "str") = some false)
    (s2aS : PySem.W.subIn K (.type "NoneType") (.ref S) = some false)
    (s2bS : PySem.W.subIn K (.ref S) (.type "NoneType") = some false)
    (s3aS : PySem.W.subIn K (.type "tuple") (.ref S) = some false)
    (s3bS : PySem.W.subIn K (.ref S) (.type "tuple") = some false)
    (s4aS : PySem.W.subIn K (.type "list") (.ref S) = some false)
    (s4bS : PySem.W.subIn K (.ref S) (.type "list") = some false)
    (rdS : PySem.W.readsIn K S (.type "type") = true)
    (gaS : PySem.W.specialIn K (.ref S) "__getattribute__" = some (some (.builtin "type.__getattribute__")))
    (s_rNs : PySem.W.subIn K (.ref C) (.ref S) = some false)
    (n_rNs : C ≠ S)
    (s_sNr : PySem.W.subIn K (.ref S) (.ref C) = some false)
    (n_sNr : S ≠ C)
    (h_nfSR : PySem.W.notFirst K S (.ref C) = true)
    (h_nfRS : PySem.W.notFirst K C (.ref S) = true)
    (z_len : PySem.W.nsIn K mainGlobals "len" = some none)
    (z_abs : PySem.W.nsIn K mainGlobals "abs" = some none)
    (z_int : PySem.W.nsIn K mainGlobals "int" = some none)
    (z_bool : PySem.W.nsIn K mainGlobals "bool" = some none)
    (z_isinstance : PySem.W.nsIn K mainGlobals "isinstance" = some none)
    (z_range : PySem.W.nsIn K mainGlobals "range" = some none)
    (z_ValueError : PySem.W.nsIn K mainGlobals "ValueError" = some none)
    (z_str : PySem.W.nsIn K mainGlobals "str" = some none)
    (a_cross : PySem.W.findIn K (.ref Cr) "__init__" = some (some (.ref f_cross)))
    (i_cross : PySem.W.isFn K (.ref f_cross) = true)
    (l_cross : K.lookup f_cross = some ⟨oc_cross, od_cross, .func (PySem.W.fnOf "__init__" "Crossed.__init__" (defArgs S_cross) (defBody S_cross) (defScope S_cross) .none kV_cross dc_cross pm_cross an_cross cd_cross ct_cross), sl_cross⟩)
    (c_cross : PySem.W.codeIn K cd_cross "Crossed.__init__" = true)
    (k_cross : PySem.W.keepIn K (.ref f_cross) = true)
    (a_sub : PySem.W.findIn K (.ref C) "__sub__" = some (some (.ref f_sub)))
    (i_sub : PySem.W.isFn K (.ref f_sub) = true)
    (l_sub : K.lookup f_sub = some ⟨oc_sub, od_sub, .func (PySem.W.fnOf "__sub__" "Ratio.__sub__" (defArgs S_sub) (defBody S_sub) (defScope S_sub) .none kV_sub dc_sub pm_sub an_sub cd_sub ct_sub), sl_sub⟩)
    (c_sub : PySem.W.codeIn K cd_sub "Ratio.__sub__" = true)
    (k_sub : PySem.W.keepIn K (.ref f_sub) = true)
    (a_eq : PySem.W.findIn K (.ref C) "__eq__" = some (some (.ref f_eq)))
    (i_eq : PySem.W.isFn K (.ref f_eq) = true)
    (l_eq : K.lookup f_eq = some ⟨oc_eq, od_eq, .func (PySem.W.fnOf "__eq__" "Ratio.__eq__" (defArgs S_eq) (defBody S_eq) (defScope S_eq) .none kV_eq dc_eq pm_eq an_eq cd_eq ct_eq), sl_eq⟩)
    (c_eq : PySem.W.codeIn K cd_eq "Ratio.__eq__" = true)
    (k_eq : PySem.W.keepIn K (.ref f_eq) = true)
    (a_compare : PySem.W.findIn K (.ref C) "compare" = some (some (.ref f_compare)))
    (i_compare : PySem.W.isFn K (.ref f_compare) = true)
    (l_compare : K.lookup f_compare = some ⟨oc_compare, od_compare, .func (PySem.W.fnOf "compare" "Ratio.compare" (defArgs S_compare) (defBody S_compare) (defScope S_compare) .none kV_compare dc_compare pm_compare an_compare cd_compare ct_compare), sl_compare⟩)
    (c_compare : PySem.W.codeIn K cd_compare "Ratio.compare" = true)
    (k_compare : PySem.W.keepIn K (.ref f_compare) = true)
    (a_rtext : PySem.W.findIn K (.ref C) "text" = some (some (.ref f_rtext)))
    (i_rtext : PySem.W.isFn K (.ref f_rtext) = true)
    (l_rtext : K.lookup f_rtext = some ⟨oc_rtext, od_rtext, .func (PySem.W.fnOf "text" "Ratio.text" (defArgs S_rtext) (defBody S_rtext) (defScope S_rtext) .none kV_rtext dc_rtext pm_rtext an_rtext cd_rtext ct_rtext), sl_rtext⟩)
    (c_rtext : PySem.W.codeIn K cd_rtext "Ratio.text" = true)
    (k_rtext : PySem.W.keepIn K (.ref f_rtext) = true)
    (a_sinit : PySem.W.findIn K (.ref S) "__init__" = some (some (.ref f_sinit)))
    (i_sinit : PySem.W.isFn K (.ref f_sinit) = true)
    (l_sinit : K.lookup f_sinit = some ⟨oc_sinit, od_sinit, .func (PySem.W.fnOf "__init__" "Span.__init__" (defArgs S_sinit) (defBody S_sinit) (defScope S_sinit) .none kV_sinit dc_sinit pm_sinit an_sinit cd_sinit ct_sinit), sl_sinit⟩)
    (c_sinit : PySem.W.codeIn K cd_sinit "Span.__init__" = true)
    (k_sinit : PySem.W.keepIn K (.ref f_sinit) = true)
    (a_point : PySem.W.findCls K (.ref S) (.type "type") "point" = some (.get (.builtin "staticmethod.__get__") (.ref p_point) .none (.ref S)))
    (i_point : PySem.W.recIn K p_point "staticmethod" = some (.ref f_point :: rest_point))
    (l_point : K.lookup f_point = some ⟨oc_point, od_point, .func (PySem.W.fnOf "point" "Span.point" (defArgs S_point) (defBody S_point) (defScope S_point) .none kV_point dc_point pm_point an_point cd_point ct_point), sl_point⟩)
    (c_point : PySem.W.codeIn K cd_point "Span.point" = true)
    (k_point : PySem.W.keepIn K (.ref f_point) = true)
    (a_sand : PySem.W.findIn K (.ref S) "__and__" = some (some (.ref f_sand)))
    (i_sand : PySem.W.isFn K (.ref f_sand) = true)
    (l_sand : K.lookup f_sand = some ⟨oc_sand, od_sand, .func (PySem.W.fnOf "__and__" "Span.__and__" (defArgs S_sand) (defBody S_sand) (defScope S_sand) .none kV_sand dc_sand pm_sand an_sand cd_sand ct_sand), sl_sand⟩)
    (c_sand : PySem.W.codeIn K cd_sand "Span.__and__" = true)
    (k_sand : PySem.W.keepIn K (.ref f_sand) = true)
    (a_seq : PySem.W.findIn K (.ref S) "__eq__" = some (some (.ref f_seq)))
    (i_seq : PySem.W.isFn K (.ref f_seq) = true)
    (l_seq : K.lookup f_seq = some ⟨oc_seq, od_seq, .func (PySem.W.fnOf "__eq__" "Span.__eq__" (defArgs S_seq) (defBody S_seq) (defScope S_seq) .none kV_seq dc_seq pm_seq an_seq cd_seq ct_seq), sl_seq⟩)
    (c_seq : PySem.W.codeIn K cd_seq "Span.__eq__" = true)
    (k_seq : PySem.W.keepIn K (.ref f_seq) = true)
    (a_scontains : PySem.W.findIn K (.ref S) "__contains__" = some (some (.ref f_scontains)))
    (i_scontains : PySem.W.isFn K (.ref f_scontains) = true)
    (l_scontains : K.lookup f_scontains = some ⟨oc_scontains, od_scontains, .func (PySem.W.fnOf "__contains__" "Span.__contains__" (defArgs S_scontains) (defBody S_scontains) (defScope S_scontains) .none kV_scontains dc_scontains pm_scontains an_scontains cd_scontains ct_scontains), sl_scontains⟩)
    (c_scontains : PySem.W.codeIn K cd_scontains "Span.__contains__" = true)
    (k_scontains : PySem.W.keepIn K (.ref f_scontains) = true)
    (a_length : PySem.W.findIn K (.ref S) "length" = some (some (.ref f_length)))
    (i_length : PySem.W.isFn K (.ref f_length) = true)
    (l_length : K.lookup f_length = some ⟨oc_length, od_length, .func (PySem.W.fnOf "length" "Span.length" (defArgs S_length) (defBody S_length) (defScope S_length) .none kV_length dc_length pm_length an_length cd_length ct_length), sl_length⟩)
    (c_length : PySem.W.codeIn K cd_length "Span.length" = true)
    (k_length : PySem.W.keepIn K (.ref f_length) = true)
    (a_atmost : PySem.W.findIn K (.ref S) "at_most" = some (some (.ref f_atmost)))
    (i_atmost : PySem.W.isFn K (.ref f_atmost) = true)
    (l_atmost : K.lookup f_atmost = some ⟨oc_atmost, od_atmost, .func (PySem.W.fnOf "at_most" "Span.at_most" (defArgs S_atmost) (defBody S_atmost) (defScope S_atmost) .none kV_atmost dc_atmost pm_atmost an_atmost cd_atmost ct_atmost), sl_atmost⟩)
    (c_atmost : PySem.W.codeIn K cd_atmost "Span.at_most" = true)
    (k_atmost : PySem.W.keepIn K (.ref f_atmost) = true)
    (a_stext : PySem.W.findIn K (.ref S) "text" = some (some (.ref f_stext)))
    (i_stext : PySem.W.isFn K (.ref f_stext) = true)
    (l_stext : K.lookup f_stext = some ⟨oc_stext, od_stext, .func (PySem.W.fnOf "text" "Span.text" (defArgs S_stext) (defBody S_stext) (defScope S_stext) .none kV_stext dc_stext pm_stext an_stext cd_stext ct_stext), sl_stext⟩)
    (c_stext : PySem.W.codeIn K cd_stext "Span.text" = true)
    (k_stext : PySem.W.keepIn K (.ref f_stext) = true)
    (a_lesser : PySem.W.nsIn K mainGlobals "lesser" = some (some (.ref f_lesser)))
    (l_lesser : K.lookup f_lesser = some ⟨oc_lesser, od_lesser, .func (PySem.W.fnOf "lesser" "lesser" (defArgs S_lesser) (defBody S_lesser) (defScope S_lesser) .none kV_lesser dc_lesser pm_lesser an_lesser cd_lesser ct_lesser), sl_lesser⟩)
    (c_lesser : PySem.W.codeIn K cd_lesser "lesser" = true)
    (k_lesser : PySem.W.keepIn K (.ref f_lesser) = true)
    (a_greater : PySem.W.nsIn K mainGlobals "greater" = some (some (.ref f_greater)))
    (l_greater : K.lookup f_greater = some ⟨oc_greater, od_greater, .func (PySem.W.fnOf "greater" "greater" (defArgs S_greater) (defBody S_greater) (defScope S_greater) .none kV_greater dc_greater pm_greater an_greater cd_greater ct_greater), sl_greater⟩)
    (c_greater : PySem.W.codeIn K cd_greater "greater" = true)
    (k_greater : PySem.W.keepIn K (.ref f_greater) = true)
    (a_start : PySem.W.nsIn K mainGlobals "_law_start" = some (some (.ref f_start)))
    (l_start : K.lookup f_start = some ⟨oc_start, od_start, .func (PySem.W.fnOf "_law_start" "_law_start" (defArgs S_start) (defBody S_start) (defScope S_start) .none kV_start dc_start pm_start an_start cd_start ct_start), sl_start⟩)
    (c_start : PySem.W.codeIn K cd_start "_law_start" = true)
    (k_start : PySem.W.keepIn K (.ref f_start) = true)
    (a_digit : PySem.W.nsIn K mainGlobals "_law_digit" = some (some (.ref f_digit)))
    (l_digit : K.lookup f_digit = some ⟨oc_digit, od_digit, .func (PySem.W.fnOf "_law_digit" "_law_digit" (defArgs S_digit) (defBody S_digit) (defScope S_digit) .none kV_digit dc_digit pm_digit an_digit cd_digit ct_digit), sl_digit⟩)
    (c_digit : PySem.W.codeIn K cd_digit "_law_digit" = true)
    (k_digit : PySem.W.keepIn K (.ref f_digit) = true)
    (a_fraction : PySem.W.nsIn K mainGlobals "_law_fraction" = some (some (.ref f_fraction)))
    (l_fraction : K.lookup f_fraction = some ⟨oc_fraction, od_fraction, .func (PySem.W.fnOf "_law_fraction" "_law_fraction" (defArgs S_fraction) (defBody S_fraction) (defScope S_fraction) .none kV_fraction dc_fraction pm_fraction an_fraction cd_fraction ct_fraction), sl_fraction⟩)
    (c_fraction : PySem.W.codeIn K cd_fraction "_law_fraction" = true)
    (k_fraction : PySem.W.keepIn K (.ref f_fraction) = true)
    (a_less : PySem.W.nsIn K mainGlobals "_law_less" = some (some (.ref f_less)))
    (l_less : K.lookup f_less = some ⟨oc_less, od_less, .func (PySem.W.fnOf "_law_less" "_law_less" (defArgs S_less) (defBody S_less) (defScope S_less) .none kV_less dc_less pm_less an_less cd_less ct_less), sl_less⟩)
    (c_less : PySem.W.codeIn K cd_less "_law_less" = true)
    (k_less : PySem.W.keepIn K (.ref f_less) = true)
    (a_plus : PySem.W.nsIn K mainGlobals "_law_plus" = some (some (.ref f_plus)))
    (l_plus : K.lookup f_plus = some ⟨oc_plus, od_plus, .func (PySem.W.fnOf "_law_plus" "_law_plus" (defArgs S_plus) (defBody S_plus) (defScope S_plus) .none kV_plus dc_plus pm_plus an_plus cd_plus ct_plus), sl_plus⟩)
    (c_plus : PySem.W.codeIn K cd_plus "_law_plus" = true)
    (k_plus : PySem.W.keepIn K (.ref f_plus) = true)
    (a_minus : PySem.W.nsIn K mainGlobals "_law_minus" = some (some (.ref f_minus)))
    (l_minus : K.lookup f_minus = some ⟨oc_minus, od_minus, .func (PySem.W.fnOf "_law_minus" "_law_minus" (defArgs S_minus) (defBody S_minus) (defScope S_minus) .none kV_minus dc_minus pm_minus an_minus cd_minus ct_minus), sl_minus⟩)
    (c_minus : PySem.W.codeIn K cd_minus "_law_minus" = true)
    (k_minus : PySem.W.keepIn K (.ref f_minus) = true)
    (a_ends : PySem.W.nsIn K mainGlobals "_law_ends" = some (some (.ref f_ends)))
    (l_ends : K.lookup f_ends = some ⟨oc_ends, od_ends, .func (PySem.W.fnOf "_law_ends" "_law_ends" (defArgs S_ends) (defBody S_ends) (defScope S_ends) .none kV_ends dc_ends pm_ends an_ends cd_ends ct_ends), sl_ends⟩)
    (c_ends : PySem.W.codeIn K cd_ends "_law_ends" = true)
    (k_ends : PySem.W.keepIn K (.ref f_ends) = true)
    (a_between : PySem.W.nsIn K mainGlobals "_law_between" = some (some (.ref f_between)))
    (l_between : K.lookup f_between = some ⟨oc_between, od_between, .func (PySem.W.fnOf "_law_between" "_law_between" (defArgs S_between) (defBody S_between) (defScope S_between) .none kV_between dc_between pm_between an_between cd_between ct_between), sl_between⟩)
    (c_between : PySem.W.codeIn K cd_between "_law_between" = true)
    (k_between : PySem.W.keepIn K (.ref f_between) = true)
    (a_second : PySem.W.nsIn K mainGlobals "_law_second" = some (some (.ref f_second)))
    (l_second : K.lookup f_second = some ⟨oc_second, od_second, .func (PySem.W.fnOf "_law_second" "_law_second" (defArgs S_second) (defBody S_second) (defScope S_second) .none kV_second dc_second pm_second an_second cd_second ct_second), sl_second⟩)
    (c_second : PySem.W.codeIn K cd_second "_law_second" = true)
    (k_second : PySem.W.keepIn K (.ref f_second) = true)
    (a_lowest : PySem.W.nsIn K mainGlobals "_law_lowest" = some (some (.ref f_lowest)))
    (l_lowest : K.lookup f_lowest = some ⟨oc_lowest, od_lowest, .func (PySem.W.fnOf "_law_lowest" "_law_lowest" (defArgs S_lowest) (defBody S_lowest) (defScope S_lowest) .none kV_lowest dc_lowest pm_lowest an_lowest cd_lowest ct_lowest), sl_lowest⟩)
    (c_lowest : PySem.W.codeIn K cd_lowest "_law_lowest" = true)
    (k_lowest : PySem.W.keepIn K (.ref f_lowest) = true)
    (a_written : PySem.W.nsIn K mainGlobals "_law_written" = some (some (.ref f_written)))
    (l_written : K.lookup f_written = some ⟨oc_written, od_written, .func (PySem.W.fnOf "_law_written" "_law_written" (defArgs S_written) (defBody S_written) (defScope S_written) .none kV_written dc_written pm_written an_written cd_written ct_written), sl_written⟩)
    (c_written : PySem.W.codeIn K cd_written "_law_written" = true)
    (k_written : PySem.W.keepIn K (.ref f_written) = true)
    (a_equals : PySem.W.nsIn K mainGlobals "_law_equals" = some (some (.ref f_equals)))
    (l_equals : K.lookup f_equals = some ⟨oc_equals, od_equals, .func (PySem.W.fnOf "_law_equals" "_law_equals" (defArgs S_equals) (defBody S_equals) (defScope S_equals) .none kV_equals dc_equals pm_equals an_equals cd_equals ct_equals), sl_equals⟩)
    (c_equals : PySem.W.codeIn K cd_equals "_law_equals" = true)
    (k_equals : PySem.W.keepIn K (.ref f_equals) = true)
    (a_isspan : PySem.W.nsIn K mainGlobals "_law_is_span" = some (some (.ref f_isspan)))
    (l_isspan : K.lookup f_isspan = some ⟨oc_isspan, od_isspan, .func (PySem.W.fnOf "_law_is_span" "_law_is_span" (defArgs S_isspan) (defBody S_isspan) (defScope S_isspan) .none kV_isspan dc_isspan pm_isspan an_isspan cd_isspan ct_isspan), sl_isspan⟩)
    (c_isspan : PySem.W.codeIn K cd_isspan "_law_is_span" = true)
    (k_isspan : PySem.W.keepIn K (.ref f_isspan) = true)
    (a_order : PySem.W.nsIn K mainGlobals "_law_order" = some (some (.ref f_order)))
    (l_order : K.lookup f_order = some ⟨oc_order, od_order, .func (PySem.W.fnOf "_law_order" "_law_order" (defArgs S_order) (defBody S_order) (defScope S_order) .none kV_order dc_order pm_order an_order cd_order ct_order), sl_order⟩)
    (c_order : PySem.W.codeIn K cd_order "_law_order" = true)
    (k_order : PySem.W.keepIn K (.ref f_order) = true)
    (a_lapart : PySem.W.nsIn K mainGlobals "_law_apart" = some (some (.ref f_lapart)))
    (l_lapart : K.lookup f_lapart = some ⟨oc_lapart, od_lapart, .func (PySem.W.fnOf "_law_apart" "_law_apart" (defArgs S_lapart) (defBody S_lapart) (defScope S_lapart) .none kV_lapart dc_lapart pm_lapart an_lapart cd_lapart ct_lapart), sl_lapart⟩)
    (c_lapart : PySem.W.codeIn K cd_lapart "_law_apart" = true)
    (k_lapart : PySem.W.keepIn K (.ref f_lapart) = true)
    (a_common : PySem.W.nsIn K mainGlobals "_law_common" = some (some (.ref f_common)))
    (l_common : K.lookup f_common = some ⟨oc_common, od_common, .func (PySem.W.fnOf "_law_common" "_law_common" (defArgs S_common) (defBody S_common) (defScope S_common) .none kV_common dc_common pm_common an_common cd_common ct_common), sl_common⟩)
    (c_common : PySem.W.codeIn K cd_common "_law_common" = true)
    (k_common : PySem.W.keepIn K (.ref f_common) = true)
    (a_same : PySem.W.nsIn K mainGlobals "_law_same" = some (some (.ref f_same)))
    (l_same : K.lookup f_same = some ⟨oc_same, od_same, .func (PySem.W.fnOf "_law_same" "_law_same" (defArgs S_same) (defBody S_same) (defScope S_same) .none kV_same dc_same pm_same an_same cd_same ct_same), sl_same⟩)
    (c_same : PySem.W.codeIn K cd_same "_law_same" = true)
    (k_same : PySem.W.keepIn K (.ref f_same) = true)
    (a_two : PySem.W.nsIn K mainGlobals "_law_two" = some (some (.ref f_two)))
    (l_two : K.lookup f_two = some ⟨oc_two, od_two, .func (PySem.W.fnOf "_law_two" "_law_two" (defArgs S_two) (defBody S_two) (defScope S_two) .none kV_two dc_two pm_two an_two cd_two ct_two), sl_two⟩)
    (c_two : PySem.W.codeIn K cd_two "_law_two" = true)
    (k_two : PySem.W.keepIn K (.ref f_two) = true)
    (a_lcontains : PySem.W.nsIn K mainGlobals "_law_contains" = some (some (.ref f_lcontains)))
    (l_lcontains : K.lookup f_lcontains = some ⟨oc_lcontains, od_lcontains, .func (PySem.W.fnOf "_law_contains" "_law_contains" (defArgs S_lcontains) (defBody S_lcontains) (defScope S_lcontains) .none kV_lcontains dc_lcontains pm_lcontains an_lcontains cd_lcontains ct_lcontains), sl_lcontains⟩)
    (c_lcontains : PySem.W.codeIn K cd_lcontains "_law_contains" = true)
    (k_lcontains : PySem.W.keepIn K (.ref f_lcontains) = true)
    (a_crossed : PySem.W.nsIn K mainGlobals "_law_crossed" = some (some (.ref f_crossed)))
    (l_crossed : K.lookup f_crossed = some ⟨oc_crossed, od_crossed, .func (PySem.W.fnOf "_law_crossed" "_law_crossed" (defArgs S_crossed) (defBody S_crossed) (defScope S_crossed) .none kV_crossed dc_crossed pm_crossed an_crossed cd_crossed ct_crossed), sl_crossed⟩)
    (c_crossed : PySem.W.codeIn K cd_crossed "_law_crossed" = true)
    (k_crossed : PySem.W.keepIn K (.ref f_crossed) = true)
    (a_alone : PySem.W.nsIn K mainGlobals "_law_alone" = some (some (.ref f_alone)))
    (l_alone : K.lookup f_alone = some ⟨oc_alone, od_alone, .func (PySem.W.fnOf "_law_alone" "_law_alone" (defArgs S_alone) (defBody S_alone) (defScope S_alone) .none kV_alone dc_alone pm_alone an_alone cd_alone ct_alone), sl_alone⟩)
    (c_alone : PySem.W.codeIn K cd_alone "_law_alone" = true)
    (k_alone : PySem.W.keepIn K (.ref f_alone) = true)
    (a_law : PySem.W.nsIn K mainGlobals "law" = some (some (.ref f_law)))
    (l_law : K.lookup f_law = some ⟨oc_law, od_law, .func (PySem.W.fnOf "law" "law" (defArgs S_law) (defBody S_law) (defScope S_law) .none kV_law dc_law pm_law an_law cd_law ct_law), sl_law⟩)
    (c_law : PySem.W.codeIn K cd_law "law" = true)
    (k_law : PySem.W.keepIn K (.ref f_law) = true) :
    ∃ fd : FuncData, (∀ (s : Shared) (v : Value), BindsTo s fd ⟨[v], []⟩ [("script", v)]) ∧ ∀ base : Heap, K.In base → base.Ns mainGlobals mg → FnOk l.prog w K mg base CX0 10 fa fd ["script"] (spLaw K) := by
  have e := hfa.symm.trans (PySem.W.mg_of X G a_law)
  cases e
  have F_cross := fun_mk (st := S_cross) l_cross c_cross k_cross
  have b_cross := F_cross.binds (ps := ["self", "low", "high"]) fun _ _ _ _ _ _ us hl => match us, hl with | [_, _, _], _ => rfl
  have F_sub := fun_mk (st := S_sub) l_sub c_sub k_sub
  have b_sub := F_sub.binds (ps := ["self", "other"]) fun _ _ _ _ _ _ us hl => match us, hl with | [_, _], _ => rfl
  have F_eq := fun_mk (st := S_eq) l_eq c_eq k_eq
  have b_eq := F_eq.binds (ps := ["self", "other"]) fun _ _ _ _ _ _ us hl => match us, hl with | [_, _], _ => rfl
  have F_compare := fun_mk (st := S_compare) l_compare c_compare k_compare
  have b_compare := F_compare.binds (ps := ["self", "other"]) fun _ _ _ _ _ _ us hl => match us, hl with | [_, _], _ => rfl
  have F_rtext := fun_mk (st := S_rtext) l_rtext c_rtext k_rtext
  have b_rtext := F_rtext.binds (ps := ["self"]) fun _ _ _ _ _ _ us hl => match us, hl with | [_], _ => rfl
  have F_sinit := fun_mk (st := S_sinit) l_sinit c_sinit k_sinit
  have b_sinit := F_sinit.binds (ps := ["self", "low", "high"]) fun _ _ _ _ _ _ us hl => match us, hl with | [_, _, _], _ => rfl
  have F_point := fun_mk (st := S_point) l_point c_point k_point
  have b_point := F_point.binds (ps := ["ratio"]) fun _ _ _ _ _ _ us hl => match us, hl with | [_], _ => rfl
  have F_sand := fun_mk (st := S_sand) l_sand c_sand k_sand
  have b_sand := F_sand.binds (ps := ["self", "other"]) fun _ _ _ _ _ _ us hl => match us, hl with | [_, _], _ => rfl
  have F_seq := fun_mk (st := S_seq) l_seq c_seq k_seq
  have b_seq := F_seq.binds (ps := ["self", "other"]) fun _ _ _ _ _ _ us hl => match us, hl with | [_, _], _ => rfl
  have F_scontains := fun_mk (st := S_scontains) l_scontains c_scontains k_scontains
  have b_scontains := F_scontains.binds (ps := ["self", "x"]) fun _ _ _ _ _ _ us hl => match us, hl with | [_, _], _ => rfl
  have F_length := fun_mk (st := S_length) l_length c_length k_length
  have b_length := F_length.binds (ps := ["self"]) fun _ _ _ _ _ _ us hl => match us, hl with | [_], _ => rfl
  have F_atmost := fun_mk (st := S_atmost) l_atmost c_atmost k_atmost
  have b_atmost := F_atmost.binds (ps := ["self", "other"]) fun _ _ _ _ _ _ us hl => match us, hl with | [_, _], _ => rfl
  have F_stext := fun_mk (st := S_stext) l_stext c_stext k_stext
  have b_stext := F_stext.binds (ps := ["self"]) fun _ _ _ _ _ _ us hl => match us, hl with | [_], _ => rfl
  have F_lesser := fun_mk (st := S_lesser) l_lesser c_lesser k_lesser
  have b_lesser := F_lesser.binds (ps := ["a", "b"]) fun _ _ _ _ _ _ us hl => match us, hl with | [_, _], _ => rfl
  have F_greater := fun_mk (st := S_greater) l_greater c_greater k_greater
  have b_greater := F_greater.binds (ps := ["a", "b"]) fun _ _ _ _ _ _ us hl => match us, hl with | [_, _], _ => rfl
  have F_start := fun_mk (st := S_start) l_start c_start k_start
  have b_start := F_start.binds (ps := ["script"]) fun _ _ _ _ _ _ us hl => match us, hl with | [_], _ => rfl
  have F_digit := fun_mk (st := S_digit) l_digit c_digit k_digit
  have b_digit := F_digit.binds (ps := ["pot", "many"]) fun _ _ _ _ _ _ us hl => match us, hl with | [_, _], _ => rfl
  have F_fraction := fun_mk (st := S_fraction) l_fraction c_fraction k_fraction
  have b_fraction := F_fraction.binds (ps := ["pot"]) fun _ _ _ _ _ _ us hl => match us, hl with | [_], _ => rfl
  have F_less := fun_mk (st := S_less) l_less c_less k_less
  have b_less := F_less.binds (ps := ["p", "q"]) fun _ _ _ _ _ _ us hl => match us, hl with | [_, _], _ => rfl
  have F_plus := fun_mk (st := S_plus) l_plus c_plus k_plus
  have b_plus := F_plus.binds (ps := ["p", "q"]) fun _ _ _ _ _ _ us hl => match us, hl with | [_, _], _ => rfl
  have F_minus := fun_mk (st := S_minus) l_minus c_minus k_minus
  have b_minus := F_minus.binds (ps := ["p", "q"]) fun _ _ _ _ _ _ us hl => match us, hl with | [_, _], _ => rfl
  have F_ends := fun_mk (st := S_ends) l_ends c_ends k_ends
  have b_ends := F_ends.binds (ps := ["pot"]) fun _ _ _ _ _ _ us hl => match us, hl with | [_], _ => rfl
  have F_between := fun_mk (st := S_between) l_between c_between k_between
  have b_between := F_between.binds (ps := ["pot", "s"]) fun _ _ _ _ _ _ us hl => match us, hl with | [_, _], _ => rfl
  have F_second := fun_mk (st := S_second) l_second c_second k_second
  have b_second := F_second.binds (ps := ["pot", "s", "step"]) fun _ _ _ _ _ _ us hl => match us, hl with | [_, _, _], _ => rfl
  have F_lowest := fun_mk (st := S_lowest) l_lowest c_lowest k_lowest
  have b_lowest := F_lowest.binds (ps := ["p"]) fun _ _ _ _ _ _ us hl => match us, hl with | [_], _ => rfl
  have F_written := fun_mk (st := S_written) l_written c_written k_written
  have b_written := F_written.binds (ps := ["p"]) fun _ _ _ _ _ _ us hl => match us, hl with | [_], _ => rfl
  have F_equals := fun_mk (st := S_equals) l_equals c_equals k_equals
  have b_equals := F_equals.binds (ps := ["told", "p"]) fun _ _ _ _ _ _ us hl => match us, hl with | [_, _], _ => rfl
  have F_isspan := fun_mk (st := S_isspan) l_isspan c_isspan k_isspan
  have b_isspan := F_isspan.binds (ps := ["told", "low", "high"]) fun _ _ _ _ _ _ us hl => match us, hl with | [_, _, _], _ => rfl
  have F_order := fun_mk (st := S_order) l_order c_order k_order
  have b_order := F_order.binds (ps := ["a", "b", "s", "t"]) fun _ _ _ _ _ _ us hl => match us, hl with | [_, _, _, _], _ => rfl
  have F_lapart := fun_mk (st := S_lapart) l_lapart c_lapart k_lapart
  have b_lapart := F_lapart.binds (ps := ["a", "b"]) fun _ _ _ _ _ _ us hl => match us, hl with | [_, _], _ => rfl
  have F_common := fun_mk (st := S_common) l_common c_common k_common
  have b_common := F_common.binds (ps := ["a", "b", "s", "t"]) fun _ _ _ _ _ _ us hl => match us, hl with | [_, _, _, _], _ => rfl
  have F_same := fun_mk (st := S_same) l_same c_same k_same
  have b_same := F_same.binds (ps := ["a", "b", "s", "t"]) fun _ _ _ _ _ _ us hl => match us, hl with | [_, _, _, _], _ => rfl
  have F_two := fun_mk (st := S_two) l_two c_two k_two
  have b_two := F_two.binds (ps := ["a", "b", "s", "t"]) fun _ _ _ _ _ _ us hl => match us, hl with | [_, _, _, _], _ => rfl
  have F_lcontains := fun_mk (st := S_lcontains) l_lcontains c_lcontains k_lcontains
  have b_lcontains := F_lcontains.binds (ps := ["a", "s", "p"]) fun _ _ _ _ _ _ us hl => match us, hl with | [_, _, _], _ => rfl
  have F_crossed := fun_mk (st := S_crossed) l_crossed c_crossed k_crossed
  have b_crossed := F_crossed.binds (ps := ["low", "high"]) fun _ _ _ _ _ _ us hl => match us, hl with | [_, _], _ => rfl
  have F_alone := fun_mk (st := S_alone) l_alone c_alone k_alone
  have b_alone := F_alone.binds (ps := ["a", "s", "step"]) fun _ _ _ _ _ _ us hl => match us, hl with | [_, _, _], _ => rfl
  have F_law := fun_mk (st := S_law) l_law c_law k_law
  have b_law := F_law.binds (ps := ["script"]) fun _ _ _ _ _ _ us hl => match us, hl with | [_], _ => rfl
  have F_init : FunD K "__init__" "Ratio.__init__" (defArgs S_init) (defBody S_init) (defScope S_init) [.int 1] [] f_init (PySem.W.fnOf "__init__" "Ratio.__init__" (defArgs S_init) (defBody S_init) (defScope S_init) (.ref T_init) kV_init dc_init pm_init an_init cd_init ct_init) :=
    ⟨⟨_, _, _, _, _, _, _, _, _, _, rfl, l_init, c_init, .inr ⟨(by intro z; cases z), T_init, _, [Value.int 1 tT], _, rfl, lT, rfl, .cons ⟨_, rfl⟩ .nil⟩, .inl rfl⟩, k_init⟩
  have b3 : ∃ ds, Vals (([V.int 1] : List V).drop 1) ds ∧ Binds K (PySem.W.fnOf "__init__" "Ratio.__init__" (defArgs S_init) (defBody S_init) (defScope S_init) (.ref T_init) kV_init dc_init pm_init an_init cd_init ct_init) ["self", "top", "bottom"] ds :=
    F_init.binds1 3 1 (by intro z; cases z) rfl fun T kV doc pm an cdv ct us its h1 h2 => match us, its, h1, h2 with | [_, _, _], [_], _, _ => ⟨_, rfl, rfl⟩
  have b2 : ∃ ds, Vals (([V.int 1] : List V).drop 0) ds ∧ Binds K (PySem.W.fnOf "__init__" "Ratio.__init__" (defArgs S_init) (defBody S_init) (defScope S_init) (.ref T_init) kV_init dc_init pm_init an_init cd_init ct_init) ["self", "top", "bottom"] ds :=
    F_init.binds1 2 0 (by intro z; cases z) rfl fun T kV doc pm an cdv ct us its h1 h2 => match us, its, h1, h2 with | [_, _], [_], _, _ => ⟨_, rfl, rfl⟩
  have b3' : Binds K (PySem.W.fnOf "__init__" "Ratio.__init__" (defArgs S_init) (defBody S_init) (defScope S_init) (.ref T_init) kV_init dc_init pm_init an_init cd_init ct_init) ["self", "top", "bottom"] [] := by
    obtain ⟨ds, v, b⟩ := b3
    cases v
    exact b
  let A : Ad := { C := C, f_init := f_init, d_init := PySem.W.fnOf "__init__" "Ratio.__init__" (defArgs S_init) (defBody S_init) (defScope S_init) (.ref T_init) kV_init dc_init pm_init an_init cd_init ct_init, Z := Z, S := S, CE := CE, Ap := Ap, Cr := Cr, f_cross := f_cross, d_cross := PySem.W.fnOf "__init__" "Crossed.__init__" (defArgs S_cross) (defBody S_cross) (defScope S_cross) .none kV_cross dc_cross pm_cross an_cross cd_cross ct_cross, f_sub := f_sub, d_sub := PySem.W.fnOf "__sub__" "Ratio.__sub__" (defArgs S_sub) (defBody S_sub) (defScope S_sub) .none kV_sub dc_sub pm_sub an_sub cd_sub ct_sub, f_eq := f_eq, d_eq := PySem.W.fnOf "__eq__" "Ratio.__eq__" (defArgs S_eq) (defBody S_eq) (defScope S_eq) .none kV_eq dc_eq pm_eq an_eq cd_eq ct_eq, f_compare := f_compare, d_compare := PySem.W.fnOf "compare" "Ratio.compare" (defArgs S_compare) (defBody S_compare) (defScope S_compare) .none kV_compare dc_compare pm_compare an_compare cd_compare ct_compare, f_rtext := f_rtext, d_rtext := PySem.W.fnOf "text" "Ratio.text" (defArgs S_rtext) (defBody S_rtext) (defScope S_rtext) .none kV_rtext dc_rtext pm_rtext an_rtext cd_rtext ct_rtext, f_sinit := f_sinit, d_sinit := PySem.W.fnOf "__init__" "Span.__init__" (defArgs S_sinit) (defBody S_sinit) (defScope S_sinit) .none kV_sinit dc_sinit pm_sinit an_sinit cd_sinit ct_sinit, f_point := f_point, d_point := PySem.W.fnOf "point" "Span.point" (defArgs S_point) (defBody S_point) (defScope S_point) .none kV_point dc_point pm_point an_point cd_point ct_point, f_sand := f_sand, d_sand := PySem.W.fnOf "__and__" "Span.__and__" (defArgs S_sand) (defBody S_sand) (defScope S_sand) .none kV_sand dc_sand pm_sand an_sand cd_sand ct_sand, f_seq := f_seq, d_seq := PySem.W.fnOf "__eq__" "Span.__eq__" (defArgs S_seq) (defBody S_seq) (defScope S_seq) .none kV_seq dc_seq pm_seq an_seq cd_seq ct_seq, f_scontains := f_scontains, d_scontains := PySem.W.fnOf "__contains__" "Span.__contains__" (defArgs S_scontains) (defBody S_scontains) (defScope S_scontains) .none kV_scontains dc_scontains pm_scontains an_scontains cd_scontains ct_scontains, f_length := f_length, d_length := PySem.W.fnOf "length" "Span.length" (defArgs S_length) (defBody S_length) (defScope S_length) .none kV_length dc_length pm_length an_length cd_length ct_length, f_atmost := f_atmost, d_atmost := PySem.W.fnOf "at_most" "Span.at_most" (defArgs S_atmost) (defBody S_atmost) (defScope S_atmost) .none kV_atmost dc_atmost pm_atmost an_atmost cd_atmost ct_atmost, f_stext := f_stext, d_stext := PySem.W.fnOf "text" "Span.text" (defArgs S_stext) (defBody S_stext) (defScope S_stext) .none kV_stext dc_stext pm_stext an_stext cd_stext ct_stext, f_lesser := f_lesser, d_lesser := PySem.W.fnOf "lesser" "lesser" (defArgs S_lesser) (defBody S_lesser) (defScope S_lesser) .none kV_lesser dc_lesser pm_lesser an_lesser cd_lesser ct_lesser, f_greater := f_greater, d_greater := PySem.W.fnOf "greater" "greater" (defArgs S_greater) (defBody S_greater) (defScope S_greater) .none kV_greater dc_greater pm_greater an_greater cd_greater ct_greater, f_start := f_start, d_start := PySem.W.fnOf "_law_start" "_law_start" (defArgs S_start) (defBody S_start) (defScope S_start) .none kV_start dc_start pm_start an_start cd_start ct_start, f_digit := f_digit, d_digit := PySem.W.fnOf "_law_digit" "_law_digit" (defArgs S_digit) (defBody S_digit) (defScope S_digit) .none kV_digit dc_digit pm_digit an_digit cd_digit ct_digit, f_fraction := f_fraction, d_fraction := PySem.W.fnOf "_law_fraction" "_law_fraction" (defArgs S_fraction) (defBody S_fraction) (defScope S_fraction) .none kV_fraction dc_fraction pm_fraction an_fraction cd_fraction ct_fraction, f_less := f_less, d_less := PySem.W.fnOf "_law_less" "_law_less" (defArgs S_less) (defBody S_less) (defScope S_less) .none kV_less dc_less pm_less an_less cd_less ct_less, f_plus := f_plus, d_plus := PySem.W.fnOf "_law_plus" "_law_plus" (defArgs S_plus) (defBody S_plus) (defScope S_plus) .none kV_plus dc_plus pm_plus an_plus cd_plus ct_plus, f_minus := f_minus, d_minus := PySem.W.fnOf "_law_minus" "_law_minus" (defArgs S_minus) (defBody S_minus) (defScope S_minus) .none kV_minus dc_minus pm_minus an_minus cd_minus ct_minus, f_ends := f_ends, d_ends := PySem.W.fnOf "_law_ends" "_law_ends" (defArgs S_ends) (defBody S_ends) (defScope S_ends) .none kV_ends dc_ends pm_ends an_ends cd_ends ct_ends, f_between := f_between, d_between := PySem.W.fnOf "_law_between" "_law_between" (defArgs S_between) (defBody S_between) (defScope S_between) .none kV_between dc_between pm_between an_between cd_between ct_between, f_second := f_second, d_second := PySem.W.fnOf "_law_second" "_law_second" (defArgs S_second) (defBody S_second) (defScope S_second) .none kV_second dc_second pm_second an_second cd_second ct_second, f_lowest := f_lowest, d_lowest := PySem.W.fnOf "_law_lowest" "_law_lowest" (defArgs S_lowest) (defBody S_lowest) (defScope S_lowest) .none kV_lowest dc_lowest pm_lowest an_lowest cd_lowest ct_lowest, f_written := f_written, d_written := PySem.W.fnOf "_law_written" "_law_written" (defArgs S_written) (defBody S_written) (defScope S_written) .none kV_written dc_written pm_written an_written cd_written ct_written, f_equals := f_equals, d_equals := PySem.W.fnOf "_law_equals" "_law_equals" (defArgs S_equals) (defBody S_equals) (defScope S_equals) .none kV_equals dc_equals pm_equals an_equals cd_equals ct_equals, f_isspan := f_isspan, d_isspan := PySem.W.fnOf "_law_is_span" "_law_is_span" (defArgs S_isspan) (defBody S_isspan) (defScope S_isspan) .none kV_isspan dc_isspan pm_isspan an_isspan cd_isspan ct_isspan, f_order := f_order, d_order := PySem.W.fnOf "_law_order" "_law_order" (defArgs S_order) (defBody S_order) (defScope S_order) .none kV_order dc_order pm_order an_order cd_order ct_order, f_lapart := f_lapart, d_lapart := PySem.W.fnOf "_law_apart" "_law_apart" (defArgs S_lapart) (defBody S_lapart) (defScope S_lapart) .none kV_lapart dc_lapart pm_lapart an_lapart cd_lapart ct_lapart, f_common := f_common, d_common := PySem.W.fnOf "_law_common" "_law_common" (defArgs S_common) (defBody S_common) (defScope S_common) .none kV_common dc_common pm_common an_common cd_common ct_common, f_same := f_same, d_same := PySem.W.fnOf "_law_same" "_law_same" (defArgs S_same) (defBody S_same) (defScope S_same) .none kV_same dc_same pm_same an_same cd_same ct_same, f_two := f_two, d_two := PySem.W.fnOf "_law_two" "_law_two" (defArgs S_two) (defBody S_two) (defScope S_two) .none kV_two dc_two pm_two an_two cd_two ct_two, f_lcontains := f_lcontains, d_lcontains := PySem.W.fnOf "_law_contains" "_law_contains" (defArgs S_lcontains) (defBody S_lcontains) (defScope S_lcontains) .none kV_lcontains dc_lcontains pm_lcontains an_lcontains cd_lcontains ct_lcontains, f_crossed := f_crossed, d_crossed := PySem.W.fnOf "_law_crossed" "_law_crossed" (defArgs S_crossed) (defBody S_crossed) (defScope S_crossed) .none kV_crossed dc_crossed pm_crossed an_crossed cd_crossed ct_crossed, f_alone := f_alone, d_alone := PySem.W.fnOf "_law_alone" "_law_alone" (defArgs S_alone) (defBody S_alone) (defScope S_alone) .none kV_alone dc_alone pm_alone an_alone cd_alone ct_alone, f_law := fa, d_law := PySem.W.fnOf "law" "law" (defArgs S_law) (defBody S_law) (defScope S_law) .none kV_law dc_law pm_law an_law cd_law ct_law }
  have T : Txt K mg A := {
    hn := hn,
    htk := htk,
    cl := ⟨pgC, hdC, poC, saC⟩,
    nT := nT,
    nB := nB,
    mkC := ⟨mkC, a_init, i_init, kcC⟩,
    ha := ha,
    hm := hm,
    F_init := F_init,
    b_init3 := b3',
    b_init2 := b2,
    g_Ratio := PySem.W.mg_of X G aC,
    g_gcd := PySem.W.mg_of X G gg,
    sf := sf,
    g_Z := PySem.W.mg_of X G aZ,
    xZ := xZ,
    kZ := kZ,
    bZ := bZ,
    tZ := tZ,
    tyC := tyC,
    sub := fun t ht => by (simp only [List.mem_cons, List.not_mem_nil, or_false] at ht; rcases ht with rfl | rfl | rfl | rfl | rfl <;> first | exact ⟨s0a, s0b⟩ | exact ⟨s1a, s1b⟩ | exact ⟨s2a, s2b⟩ | exact ⟨s3a, s3b⟩ | exact ⟨s4a, s4b⟩),
    cS := ⟨pgS, hdS, poS, saS⟩,
    nL := nL,
    nH := nH,
    mkS := ⟨mkS, a_sinit, i_sinit, kcS⟩,
    sfS := sfS,
    haS := haS,
    hmS := hmS,
    g_Span := PySem.W.mg_of X G aS,
    g_CE := PySem.W.mg_of X G aCE,
    g_Ap := PySem.W.mg_of X G a_Ap,
    x_Ap := x_Ap,
    k_Ap := k_Ap,
    bs_Ap := bs_Ap,
    t_Ap := t_Ap,
    e_Ap := PySem.W.exm_ref CEb CEd CEt e_Ap,
    X_Ap := ⟨g0_Ap, g1_Ap, bs_Ap, d_Ap, cl_Ap, hn, htk, m_Ap⟩,
    v_Ap := kit_typ (by decide +kernel) v_Ap,
    g_Cr := PySem.W.mg_of X G a_Cr,
    o_Cr := ⟨⟨nm_Cr, q_Cr, N_Cr, bs1_Cr, bm_Cr, sn_Cr, sub_Cr, ab_Cr, col_Cr, dd_Cr, m0_Cr, m1_Cr, m2_Cr, m3_Cr, m5_Cr, c_Cr, r_Cr⟩, sa_Cr, bs_Cr, t_Cr, k_Cr⟩,
    in_Cr := a_cross,
    ti_Cr := beq_iff_eq.mp i_cross,
    xf_Cr := ⟨g0_Cr, g1_Cr, bs_Cr, d_Cr⟩,
    e_Cr := PySem.W.exm_ref CEb CEd CEt e_Cr,
    X_Cr := ⟨g0_Cr, g1_Cr, bs_Cr, d_Cr, cl_Cr, hn, htk, m_Cr⟩,
    v_Cr := kit_typ (by decide +kernel) v_Cr,
    n_Cr_low := n_Cr_low,
    n_Cr_high := n_Cr_high,
    apNc := kit_ref d_Cr t_Cr s_apNc (fun z => n_apNc (Value.ref.inj z)),
    crNa := kit_ref d_Ap t_Ap s_crNa (fun z => n_crNa (Value.ref.inj z)),
    tyS := tyS,
    subS := fun t ht => by (simp only [List.mem_cons, List.not_mem_nil, or_false] at ht; rcases ht with rfl | rfl | rfl | rfl | rfl <;> first | exact ⟨s0aS, s0bS⟩ | exact ⟨s1aS, s1bS⟩ | exact ⟨s2aS, s2bS⟩ | exact ⟨s3aS, s3bS⟩ | exact ⟨s4aS, s4bS⟩),
    crS := ⟨rdS, gaS⟩,
    rNs := kit_ref hdS tyS s_rNs (fun z => n_rNs (Value.ref.inj z)),
    sNr := kit_ref hdC tyC s_sNr (fun z => n_sNr (Value.ref.inj z)),
    nfSR := h_nfSR,
    nfRS := h_nfRS,
    n_len := PySem.W.mg_none_of X G z_len,
    n_abs := PySem.W.mg_none_of X G z_abs,
    n_int := PySem.W.mg_none_of X G z_int,
    n_bool := PySem.W.mg_none_of X G z_bool,
    n_isinstance := PySem.W.mg_none_of X G z_isinstance,
    n_range := PySem.W.mg_none_of X G z_range,
    n_ValueError := PySem.W.mg_none_of X G z_ValueError,
    n_str := PySem.W.mg_none_of X G z_str,
    F_cross := F_cross, b_cross := b_cross,
    m_cross := ⟨a_cross, i_cross, k_cross⟩,
    F_sub := F_sub, b_sub := b_sub,
    m_sub := ⟨a_sub, i_sub, k_sub⟩,
    F_eq := F_eq, b_eq := b_eq,
    m_eq := ⟨a_eq, i_eq, k_eq⟩,
    F_compare := F_compare, b_compare := b_compare,
    m_compare := ⟨a_compare, i_compare, k_compare⟩,
    F_rtext := F_rtext, b_rtext := b_rtext,
    m_rtext := ⟨a_rtext, i_rtext, k_rtext⟩,
    F_sinit := F_sinit, b_sinit := b_sinit,
    m_sinit := ⟨a_sinit, i_sinit, k_sinit⟩,
    F_point := F_point, b_point := b_point,
    p_point := ⟨_, a_point, ⟨_, i_point⟩, k_point⟩,
    F_sand := F_sand, b_sand := b_sand,
    m_sand := ⟨a_sand, i_sand, k_sand⟩,
    F_seq := F_seq, b_seq := b_seq,
    m_seq := ⟨a_seq, i_seq, k_seq⟩,
    F_scontains := F_scontains, b_scontains := b_scontains,
    m_scontains := ⟨a_scontains, i_scontains, k_scontains⟩,
    F_length := F_length, b_length := b_length,
    m_length := ⟨a_length, i_length, k_length⟩,
    F_atmost := F_atmost, b_atmost := b_atmost,
    m_atmost := ⟨a_atmost, i_atmost, k_atmost⟩,
    F_stext := F_stext, b_stext := b_stext,
    m_stext := ⟨a_stext, i_stext, k_stext⟩,
    F_lesser := F_lesser, b_lesser := b_lesser,
    g_lesser := PySem.W.mg_of X G a_lesser,
    F_greater := F_greater, b_greater := b_greater,
    g_greater := PySem.W.mg_of X G a_greater,
    F_start := F_start, b_start := b_start,
    g_start := PySem.W.mg_of X G a_start,
    F_digit := F_digit, b_digit := b_digit,
    g_digit := PySem.W.mg_of X G a_digit,
    F_fraction := F_fraction, b_fraction := b_fraction,
    g_fraction := PySem.W.mg_of X G a_fraction,
    F_less := F_less, b_less := b_less,
    g_less := PySem.W.mg_of X G a_less,
    F_plus := F_plus, b_plus := b_plus,
    g_plus := PySem.W.mg_of X G a_plus,
    F_minus := F_minus, b_minus := b_minus,
    g_minus := PySem.W.mg_of X G a_minus,
    F_ends := F_ends, b_ends := b_ends,
    g_ends := PySem.W.mg_of X G a_ends,
    F_between := F_between, b_between := b_between,
    g_between := PySem.W.mg_of X G a_between,
    F_second := F_second, b_second := b_second,
    g_second := PySem.W.mg_of X G a_second,
    F_lowest := F_lowest, b_lowest := b_lowest,
    g_lowest := PySem.W.mg_of X G a_lowest,
    F_written := F_written, b_written := b_written,
    g_written := PySem.W.mg_of X G a_written,
    F_equals := F_equals, b_equals := b_equals,
    g_equals := PySem.W.mg_of X G a_equals,
    F_isspan := F_isspan, b_isspan := b_isspan,
    g_isspan := PySem.W.mg_of X G a_isspan,
    F_order := F_order, b_order := b_order,
    g_order := PySem.W.mg_of X G a_order,
    F_lapart := F_lapart, b_lapart := b_lapart,
    g_lapart := PySem.W.mg_of X G a_lapart,
    F_common := F_common, b_common := b_common,
    g_common := PySem.W.mg_of X G a_common,
    F_same := F_same, b_same := b_same,
    g_same := PySem.W.mg_of X G a_same,
    F_two := F_two, b_two := b_two,
    g_two := PySem.W.mg_of X G a_two,
    F_lcontains := F_lcontains, b_lcontains := b_lcontains,
    g_lcontains := PySem.W.mg_of X G a_lcontains,
    F_crossed := F_crossed, b_crossed := b_crossed,
    g_crossed := PySem.W.mg_of X G a_crossed,
    F_alone := F_alone, b_alone := b_alone,
    g_alone := PySem.W.mg_of X G a_alone,
    F_law := F_law, b_law := b_law,
    g_law := PySem.W.mg_of X G a_law }
  exact ⟨_, fun s v => .of_eq rfl, fun base _ _ => ok_law (P := l.prog) (w := w) (base := base) T⟩
theorem walk {l : PySem.W.OpenLaw} {q : Program} {loose : List Str} {XP : (Str → Option Value) → Heap → Prop} {YP : World → Heap → Prop} {d : DefRec} {K : Params → PySem.W.Frag} (hn : l.most = some 63) (hdf : d.params.defaults = [])
    (hY : ∀ (w : World) (h : Heap), YP w h → (K w.params).In h)
    (F : ∀ (w : World) (mg : Str → Option Value) (fa : Addr) (h : Heap), (K w.params).In h → h.Ns mainGlobals mg → mg d.name = some (.ref fa) →
      ∃ fd : FuncData, (∀ (s : Shared) (u : Value), BindsTo s fd ⟨[u], []⟩ [("script", u)]) ∧ ∀ base : Heap, (K w.params).In base → base.Ns mainGlobals mg → FnOk l.prog w (K w.params) mg base CX0 10 fa fd ["script"] (spLaw (K w.params))) :
    PySem.W.WalkO q loose XP YP l.row.toRowW d [] (fun f vs => PySem.call f vs) :=
  L2.walk_of (n := 63) (k := 10) (x := "script") (CX := fun _ => CX0) (sp := fun w => spLaw (K w.params)) hn (by decide) hdf ⟨rfl, by decide, by decide⟩ hY F
    (fun _ _ a ns hl _ hS => ⟨a, ns, rfl, hS, hl, fun _ => rfl⟩) fun _ _ _ _ _ z => z
end Fc
open PySem PySem.W PyProof.Rows
set_option maxRecDepth 100000 in
set_option maxHeartbeats 0 in
theorem PySem.Challenge.cw_fewcarry_k06_span_order_holds : PySem.Challenge.rw_fewcarry_k06_span_order.Holds := by
  w_on; o_law; k_head; (case hw => w_witness2)
  k_fill
  refine Fc.walk (l := PySem.Challenge.rw_fewcarry_k06_span_order) rfl rfl (fun w h Y => PySem.W.kIn_of Y) ?F
  case F =>
    intro w mg fa h KX G hmg
    refine' Fc.all_mk KX G hmg ?hn ?htk ?aC ?pgC ?hdC ?poC ?saC ?mkC ?kcC ?a_init ?i_init ?l_init ?lT ?c_init ?k_init ?nT ?nB ?ha ?hm ?gg ?sf ?aZ ?xZ ?kZ ?bZ ?tZ ?tyC ?s0a ?s0b ?s1a ?s1b ?s2a ?s2b ?s3a ?s3b ?s4a ?s4b ?aS ?pgS ?hdS ?poS ?saS ?mkS ?kcS ?nL ?nH ?sfS ?haS ?hmS ?aCE ?CEd ?CEb ?CEt ?a_Ap ?x_Ap ?k_Ap ?bs_Ap ?t_Ap ?e_Ap ?g0_Ap ?g1_Ap ?d_Ap ?cl_Ap ?m_Ap ?v_Ap ?a_Cr ?c_Cr ?r_Cr ?sa_Cr ?k_Cr ?bs_Cr ?t_Cr ?e_Cr ?g0_Cr ?g1_Cr ?d_Cr ?cl_Cr ?m_Cr ?v_Cr ?n_Cr_low ?n_Cr_high ?s_apNc ?n_apNc ?s_crNa ?n_crNa ?tyS ?s0aS ?s0bS ?s1aS ?s1bS ?s2aS ?s2bS ?s3aS ?s3bS ?s4aS ?s4bS ?rdS ?gaS ?s_rNs ?n_rNs ?s_sNr ?n_sNr ?h_nfSR ?h_nfRS ?z_len ?z_abs ?z_int ?z_bool ?z_isinstance ?z_range ?z_ValueError ?z_str ?a_cross ?i_cross ?l_cross ?c_cross ?k_cross ?a_sub ?i_sub ?l_sub ?c_sub ?k_sub ?a_eq ?i_eq ?l_eq ?c_eq ?k_eq ?a_compare ?i_compare ?l_compare ?c_compare ?k_compare ?a_rtext ?i_rtext ?l_rtext ?c_rtext ?k_rtext ?a_sinit ?i_sinit ?l_sinit ?c_sinit ?k_sinit ?a_point ?i_point ?l_point ?c_point ?k_point ?a_sand ?i_sand ?l_sand ?c_sand ?k_sand ?a_seq ?i_seq ?l_seq ?c_seq ?k_seq ?a_scontains ?i_scontains ?l_scontains ?c_scontains ?k_scontains ?a_length ?i_length ?l_length ?c_length ?k_length ?a_atmost ?i_atmost ?l_atmost ?c_atmost ?k_atmost ?a_stext ?i_stext ?l_stext ?c_stext ?k_stext ?a_lesser ?l_lesser ?c_lesser ?k_lesser ?a_greater ?l_greater ?c_greater ?k_greater ?a_start ?l_start ?c_start ?k_start ?a_digit ?l_digit ?c_digit ?k_digit ?a_fraction ?l_fraction ?c_fraction ?k_fraction ?a_less ?l_less ?c_less ?k_less ?a_plus ?l_plus ?c_plus ?k_plus ?a_minus ?l_minus ?c_minus ?k_minus ?a_ends ?l_ends ?c_ends ?k_ends ?a_between ?l_between ?c_between ?k_between ?a_second ?l_second ?c_second ?k_second ?a_lowest ?l_lowest ?c_lowest ?k_lowest ?a_written ?l_written ?c_written ?k_written ?a_equals ?l_equals ?c_equals ?k_equals ?a_isspan ?l_isspan ?c_isspan ?k_isspan ?a_order ?l_order ?c_order ?k_order ?a_lapart ?l_lapart ?c_lapart ?k_lapart ?a_common ?l_common ?c_common ?k_common ?a_same ?l_same ?c_same ?k_same ?a_two ?l_two ?c_two ?k_two ?a_lcontains ?l_lcontains ?c_lcontains ?k_lcontains ?a_crossed ?l_crossed ?c_crossed ?k_crossed ?a_alone ?l_alone ?c_alone ?k_alone ?a_law ?l_law ?c_law ?k_law
    (case hn => k_is)
    (case htk => k_is)
    (case aC => k_is)
    (case pgC => k_is)
    (case hdC => k_is)
    (case poC => k_is)
    (case saC => k_is)
    (case mkC => k_is)
    (case kcC => k_is)
    (case a_init => k_is)
    (case i_init => k_is)
    (case l_init => k_is)
    (case lT => k_is)
    (case c_init => k_is)
    (case k_init => k_is)
    (case nT => k_is)
    (case nB => k_is)
    (case ha => k_is)
    (case hm => k_is)
    (case gg => k_is)
    (case sf => k_is)
    (case aZ => k_is)
    (case xZ => k_exc)
    (case kZ => k_is)
    (case bZ => k_is)
    (case tZ => k_is)
    (case tyC => k_is)
    (case s0a => k_is)
    (case s0b => k_is)
    (case s1a => k_is)
    (case s1b => k_is)
    (case s2a => k_is)
    (case s2b => k_is)
    (case s3a => k_is)
    (case s3b => k_is)
    (case s4a => k_is)
    (case s4b => k_is)
    (case aS => k_is)
    (case pgS => k_is)
    (case hdS => k_is)
    (case poS => k_is)
    (case saS => k_is)
    (case mkS => k_is)
    (case kcS => k_is)
    (case nL => k_is)
    (case nH => k_is)
    (case sfS => k_is)
    (case haS => k_is)
    (case hmS => k_is)
    (case aCE => k_is)
    (case CEd => k_is)
    (case CEb => k_is)
    (case CEt => k_is)
    (case a_Ap => k_is)
    (case x_Ap => k_exc)
    (case k_Ap => k_is)
    (case bs_Ap => k_is)
    (case t_Ap => k_is)
    (case e_Ap => k_is)
    (case g0_Ap => k_is)
    (case g1_Ap => k_is)
    (case d_Ap => k_is)
    (case cl_Ap => k_is)
    (case m_Ap => k_is)
    (case v_Ap => k_is)
    (case a_Cr => k_is)
    (case c_Cr => k_is)
    (case r_Cr => decide +kernel)
    (case sa_Cr => k_is)
    (case k_Cr => k_is)
    (case bs_Cr => k_is)
    (case t_Cr => k_is)
    (case e_Cr => k_is)
    (case g0_Cr => k_is)
    (case g1_Cr => k_is)
    (case d_Cr => k_is)
    (case cl_Cr => k_is)
    (case m_Cr => k_is)
    (case v_Cr => k_is)
    (case n_Cr_low => k_is)
    (case n_Cr_high => k_is)
    (case s_apNc => k_is)
    (case n_apNc => decide)
    (case s_crNa => k_is)
    (case n_crNa => decide)
    (case tyS => k_is)
    (case s0aS => k_is)
    (case s0bS => k_is)
    (case s1aS => k_is)
    (case s1bS => k_is)
    (case s2aS => k_is)
    (case s2bS => k_is)
    (case s3aS => k_is)
    (case s3bS => k_is)
    (case s4aS => k_is)
    (case s4bS => k_is)
    (case rdS => k_is)
    (case gaS => k_is)
    (case s_rNs => k_is)
    (case n_rNs => decide)
    (case s_sNr => k_is)
    (case n_sNr => decide)
    (case h_nfSR => k_is)
    (case h_nfRS => k_is)
    (case z_len => k_is)
    (case z_abs => k_is)
    (case z_int => k_is)
    (case z_bool => k_is)
    (case z_isinstance => k_is)
    (case z_range => k_is)
    (case z_ValueError => k_is)
    (case z_str => k_is)
    (case a_cross => k_is)
    (case i_cross => k_is)
    (case l_cross => k_is)
    (case c_cross => k_is)
    (case k_cross => k_is)
    (case a_sub => k_is)
    (case i_sub => k_is)
    (case l_sub => k_is)
    (case c_sub => k_is)
    (case k_sub => k_is)
    (case a_eq => k_is)
    (case i_eq => k_is)
    (case l_eq => k_is)
    (case c_eq => k_is)
    (case k_eq => k_is)
    (case a_compare => k_is)
    (case i_compare => k_is)
    (case l_compare => k_is)
    (case c_compare => k_is)
    (case k_compare => k_is)
    (case a_rtext => k_is)
    (case i_rtext => k_is)
    (case l_rtext => k_is)
    (case c_rtext => k_is)
    (case k_rtext => k_is)
    (case a_sinit => k_is)
    (case i_sinit => k_is)
    (case l_sinit => k_is)
    (case c_sinit => k_is)
    (case k_sinit => k_is)
    (case a_point => k_is)
    (case i_point => k_is)
    (case l_point => k_is)
    (case c_point => k_is)
    (case k_point => k_is)
    (case a_sand => k_is)
    (case i_sand => k_is)
    (case l_sand => k_is)
    (case c_sand => k_is)
    (case k_sand => k_is)
    (case a_seq => k_is)
    (case i_seq => k_is)
    (case l_seq => k_is)
    (case c_seq => k_is)
    (case k_seq => k_is)
    (case a_scontains => k_is)
    (case i_scontains => k_is)
    (case l_scontains => k_is)
    (case c_scontains => k_is)
    (case k_scontains => k_is)
    (case a_length => k_is)
    (case i_length => k_is)
    (case l_length => k_is)
    (case c_length => k_is)
    (case k_length => k_is)
    (case a_atmost => k_is)
    (case i_atmost => k_is)
    (case l_atmost => k_is)
    (case c_atmost => k_is)
    (case k_atmost => k_is)
    (case a_stext => k_is)
    (case i_stext => k_is)
    (case l_stext => k_is)
    (case c_stext => k_is)
    (case k_stext => k_is)
    (case a_lesser => k_is)
    (case l_lesser => k_is)
    (case c_lesser => k_is)
    (case k_lesser => k_is)
    (case a_greater => k_is)
    (case l_greater => k_is)
    (case c_greater => k_is)
    (case k_greater => k_is)
    (case a_start => k_is)
    (case l_start => k_is)
    (case c_start => k_is)
    (case k_start => k_is)
    (case a_digit => k_is)
    (case l_digit => k_is)
    (case c_digit => k_is)
    (case k_digit => k_is)
    (case a_fraction => k_is)
    (case l_fraction => k_is)
    (case c_fraction => k_is)
    (case k_fraction => k_is)
    (case a_less => k_is)
    (case l_less => k_is)
    (case c_less => k_is)
    (case k_less => k_is)
    (case a_plus => k_is)
    (case l_plus => k_is)
    (case c_plus => k_is)
    (case k_plus => k_is)
    (case a_minus => k_is)
    (case l_minus => k_is)
    (case c_minus => k_is)
    (case k_minus => k_is)
    (case a_ends => k_is)
    (case l_ends => k_is)
    (case c_ends => k_is)
    (case k_ends => k_is)
    (case a_between => k_is)
    (case l_between => k_is)
    (case c_between => k_is)
    (case k_between => k_is)
    (case a_second => k_is)
    (case l_second => k_is)
    (case c_second => k_is)
    (case k_second => k_is)
    (case a_lowest => k_is)
    (case l_lowest => k_is)
    (case c_lowest => k_is)
    (case k_lowest => k_is)
    (case a_written => k_is)
    (case l_written => k_is)
    (case c_written => k_is)
    (case k_written => k_is)
    (case a_equals => k_is)
    (case l_equals => k_is)
    (case c_equals => k_is)
    (case k_equals => k_is)
    (case a_isspan => k_is)
    (case l_isspan => k_is)
    (case c_isspan => k_is)
    (case k_isspan => k_is)
    (case a_order => k_is)
    (case l_order => k_is)
    (case c_order => k_is)
    (case k_order => k_is)
    (case a_lapart => k_is)
    (case l_lapart => k_is)
    (case c_lapart => k_is)
    (case k_lapart => k_is)
    (case a_common => k_is)
    (case l_common => k_is)
    (case c_common => k_is)
    (case k_common => k_is)
    (case a_same => k_is)
    (case l_same => k_is)
    (case c_same => k_is)
    (case k_same => k_is)
    (case a_two => k_is)
    (case l_two => k_is)
    (case c_two => k_is)
    (case k_two => k_is)
    (case a_lcontains => k_is)
    (case l_lcontains => k_is)
    (case c_lcontains => k_is)
    (case k_lcontains => k_is)
    (case a_crossed => k_is)
    (case l_crossed => k_is)
    (case c_crossed => k_is)
    (case k_crossed => k_is)
    (case a_alone => k_is)
    (case l_alone => k_is)
    (case c_alone => k_is)
    (case k_alone => k_is)
    (case a_law => k_is)
    (case l_law => k_is)
    (case c_law => k_is)
    (case k_law => k_is)
#print axioms PySem.Challenge.cw_fewcarry_k06_span_order_holds
