import PyProof.Rows.All
import Wide.All
import OpenK.AllK
import Wide.FinOn
import HandS.ForExc
import HandS.Comp
import HandS.Wide
import HandS.Gcd
import HandS.ExcInit
import HandS.ExcIs
import HandS.ExcField
import HandS.IsInst
import HandS.OwnEq
import HandS.Small
import HandS.Flow
import HandS.Codes
import KE.KOpsOwn
import HandS.Style
import HandS.Defaults
import HandS.ExcInitHot
import HandS.SetFor
import HandS.WideBits
import KE.IntBitsLaws
import PySem.Challenge.RW_fewcarry_k25_bars
set_option Elab.async false
set_option linter.all false
set_option maxRecDepth 100000
set_option maxHeartbeats 4000000
/-! Rules of mine over the hand layer: operators that an own class defines, abs by an own method, floor division by any divisor,
an own error without arguments, isinstance of a caught error that has fields, a new instance or a method's call that may raise in a try. -/
namespace Fc
open PySem PySem.Spec PyProof.Rows L2

section
variable {X : Cx} {pins : List (Addr × Obj)} {sl : L2.St} {H : Hp} {s : Shared}

/-- a value of ours is never the mark NotImplemented -/
theorem cmpBack {Q : VK} {u : Value} {s' : Shared} (h : EP X pins sl Q u s') : PySem.W.CmpBack (EP X pins sl Q) u s' := by
  obtain ⟨v, H', I, r, q⟩ := id h
  cases v with
  | non => cases r; exact h
  | bl b => cases r; exact h
  | int i => obtain ⟨t, e⟩ := r; cases e; exact h
  | str y => obtain ⟨t, e⟩ := r; cases e; exact h
  | byt y => obtain ⟨t, e⟩ := r; cases e; exact h
  | flt y => obtain ⟨t, e⟩ := r; cases e; exact h
  | ref a => cases r; exact h
  | ty n => cases r; exact h

/-- what is known of an instance, as the library's rules ask it -/
theorem inst_at {a C dx : Addr} {fs : List (Str × V)} (I : Inv X pins sl H s) (e : H a = some (.ins C dx fs)) : ∃ ox od, PySem.W.InstAt s.heap a ox C od := by
  obtain ⟨mA, J, _⟩ := ins_get I.hok e
  obtain ⟨od, J, _⟩ := J.look
  exact ⟨_, _, J⟩
end

/-! ### x op y for two instances of one class -/
section
variable {X : Cx} {CX : CXT} {k : Nat} {C f : Addr} {fd : FuncData} {ps : List Str} {sp : Sp} {E : XK}
def rOwn (C : Addr) (sp : Sp) (E : XK) : R2 := fun x y H Q => ∃ a b dx dy fs gs, x = .ref a ∧ y = .ref b ∧
  H a = some (.ins C dx fs) ∧ H b = some (.ins C dy gs) ∧ sp [.ref a, .ref b] H Q E
theorem op_own {op : Operator} (hc : PySem.W.selfFirst X.K C = true) (hs : PySem.W.findIn X.K (.ref C) (PySem.dunder op.info.2) = some (some (.ref f)))
    (hf : PySem.W.isFn X.K (.ref f) = true) (F : FnOk X.prog X.w X.K X.mg X.base CX k f fd ps sp) (hr : Room k X.A) (hb : Binds X.K fd ps []) (hx : Passes CX X E) :
    OpR X (binaryOp op) (rOwn C sp E) := by
  intro pins s sl H x y u v Q I rx ry h
  obtain ⟨a, b, dx, dy, fs, gs, rfl, rfl, ha, hb', q⟩ := h
  cases rx
  cases ry
  obtain ⟨ox, od, J⟩ := inst_at I ha
  obtain ⟨oy, oe, J'⟩ := inst_at I hb'
  obtain ⟨m, hF⟩ := I.fr
  exact PySem.W.binop_K hF I.ok.mod.kin J J'.type hc hs hf
    (thn (run_fn (vs := [.ref a, .ref b]) (us := [.ref a, .ref b]) F hr hb .nil hx I (.cons rfl (.cons rfl .nil)) q) fun _ _ z => cmpBack z)

/-- x op n for an instance and a whole number -/
def rOwnI (C : Addr) (sp : Sp) (E : XK) : R2 := fun x y H Q => ∃ a dx fs n, x = .ref a ∧ y = .int n ∧ H a = some (.ins C dx fs) ∧ sp [.ref a, .int n] H Q E
theorem op_ownI {op : Operator} {fo ro rc : Option Value} (hc : PySem.W.selfFirst X.K C = true) (hs : PySem.W.findIn X.K (.ref C) (PySem.dunder op.info.2) = some (some (.ref f)))
    (hf : PySem.W.isFn X.K (.ref f) = true) (h0 : PySem.W.findIn X.K (.ref C) (dunderR op.info.2) = some rc) (hp : rc = none ∨ ∃ g : Addr, rc = some (.ref g))
    (h1 : PySem.W.findIn X.K (.type "int") (PySem.dunder op.info.2) = some fo) (h2 : PySem.W.findIn X.K (.type "int") (dunderR op.info.2) = some ro)
    (hsub : PySem.W.subIn X.K (.type "int") (.ref C) = some false)
    (F : FnOk X.prog X.w X.K X.mg X.base CX k f fd ps sp) (hr : Room k X.A) (hb : Binds X.K fd ps []) (hx : Passes CX X E) :
    OpR X (binaryOp op) (rOwnI C sp E) := by
  intro pins s sl H x y u v Q I rx ry h
  obtain ⟨a, dx, fs, n, rfl, rfl, ha, q⟩ := h
  cases rx
  obtain ⟨t, rfl⟩ := ry
  obtain ⟨ox, od, J⟩ := inst_at I ha
  obtain ⟨m, hF⟩ := I.fr
  exact PySem.W.ksp_binT (T := "int") hF I.ok.mod.kin J rfl hc hs hf h0 hp h1 h2 hsub
    (thn (run_fn (vs := [.ref a, .int n]) (us := [.ref a, .int n t]) F hr hb .nil hx I (.cons rfl (.cons ⟨t, rfl⟩ .nil)) q) fun _ _ z => cmpBack z)

/-- -x -/
def rOwnU (C : Addr) (sp : Sp) (E : XK) : V → Hp → VK → Prop := fun x H Q => ∃ a dx fs, x = .ref a ∧ H a = some (.ins C dx fs) ∧ sp [.ref a] H Q E
theorem un_own (hs : PySem.W.findIn X.K (.ref C) "__neg__" = some (some (.ref f))) (hf : PySem.W.isFn X.K (.ref f) = true)
    (F : FnOk X.prog X.w X.K X.mg X.base CX k f fd ps sp) (hr : Room k X.A) (hb : Binds X.K fd ps []) (hx : Passes CX X E) :
    UnR X (unaryOp .USub) (rOwnU C sp E) := by
  intro pins s sl H x u Q I rx h
  obtain ⟨a, dx, fs, rfl, ha, q⟩ := h
  cases rx
  obtain ⟨ox, od, J⟩ := inst_at I ha
  obtain ⟨m, hF⟩ := I.fr
  exact PySem.W.ksp_neg hF I.ok.mod.kin J hs hf (run_fn (vs := [.ref a]) (us := [.ref a]) F hr hb .nil hx I (.cons rfl .nil) q)

/-- abs(x) by an own __abs__ -/
def rOwnAbs (C : Addr) (sp : Sp) (E : XK) : List V → Hp → VK → Prop := fun xs H Q => ∃ a dx fs, xs = [.ref a] ∧ H a = some (.ins C dx fs) ∧ sp [.ref a] H Q E
/-- a call of a built-in function that runs nothing else before its own body: the code that runs within it has one unit more -/
theorem call_own_abs (hs : PySem.W.findIn X.K (.ref C) "__abs__" = some (some (.ref f))) (hf : PySem.W.isFn X.K (.ref f) = true)
    (F : FnOk X.prog X.w X.K X.mg X.base CX k f fd ps sp) (hr : Room (k + 1) X.A) (hb : Binds X.K fd ps []) (hx : Passes CX X E) :
    CallR X (.builtin "abs") (rOwnAbs C sp E) := by
  intro pins s sl H xs us Q I r h
  obtain ⟨a, dx, fs, rfl, ha, q⟩ := h
  obtain ⟨u, rfl, ru⟩ := vals1 r
  cases ru
  obtain ⟨ox, od, J⟩ := inst_at I ha
  have e := I.env0
  have e0 : Env0 X.prog X.w X.K X.mg X.base X.A.in1 X.stack s H := e.in1
  have r2 : Vals [V.ref a] [Value.ref a] := .cons rfl .nil
  have hl := F.len _ _ _ _ q
  refine Calls.call_function_entry kind_abs plain_abs entry_abs (args_abs _) ?_
  unfold Builtin.«abs»
  refine wpAny_bind (m := oneArg "abs" _) (wpAny_pure ?_)
  refine wpAny_bind (PySem.W.special_fn I.kIn J hs (beq_iff_eq.mp hf) ?_)
  refine wpAny_call (codeAny_mono (F.run X.A.in1 X.stack s H ⟨[.ref a], []⟩ [.ref a] [.ref a] Q E hr.in1 e0 (by
    have := hb s [.ref a] I.kIn (by simpa using hl)
    simpa using this) r2 q) fun r s' hq => ?_)
  cases r with
  | error e => exact hx pins sl H s e s' I hq
  | ok fl =>
    cases fl with
    | ret w => exact wpAny_pure ⟨_, rfl, I.after hq⟩
    | next => exact False.elim hq
    | brk => exact False.elim hq
    | cont => exact False.elim hq
end

/-! ### // by any divisor but 0, below 2 ^ 9000 -/
def CFdv (_ j : Int) : Prop := j ≠ 0 ∧ j.natAbs.log2 < 9000
theorem op_fdv {X : Cx} : OpR X (binaryOp .FloorDiv) (rI CFdv fun i j => .int (i.fdiv j)) :=
  opI fun i j _ _ _ _ _ hc q => floordiv_int hc.1 q (.inl (PyProof.noPylong_of_log2 hc.2))

/-! ### an own error made without arguments -/
theorem pmk_bare {X : Cx} {C : Addr} {bmB : List Value} {B newId initId : String} {x : Str} {p pos : Pos} (F : ExcBaseFacts B newId initId bmB) (q : PySem.W.excIn X.K C bmB newId = true)
    (gC : X.mg x = some (.ref C)) (kC : PySem.W.keepIn X.K (.ref C) = true) (r : Raises X (.ref C)) (hg : Gl X x) (hdb : (x == ("__debug__" : Str)) = false := by decide) :
    PMk X (.Call (.Name x p) [] [] pos) (fun _ H Q => Q (.ref C) none H) := by
  intro pins s sl H Q I h
  refine wpAny_Call_Name_kw (ld_glob I hg gC ?_ hdb)
  refine PySem.W.callWith_K0 I.kIn kC ?_
  obtain ⟨bm, N, nm, qn, bs, hdct, sn, sub, ab, col, dd, k0, k1, k2, k3, k5, mN, hC, hN, hni, T⟩ := exc_obj I.kIn q
  exact wpAny_call_exc_subT F T hC hN hni (fun h' e hm => mk_of I hm r h (I.hok.gone hm.new)) (Nat.zero_le _)
end Fc
set_option Elab.async false
set_option linter.all false
set_option maxRecDepth 100000
set_option maxHeartbeats 4000000
/-! More rules of mine: a new instance or a method's call whose error an except clause takes; isinstance of a caught error with fields. -/
namespace Fc
open PySem PySem.Spec PyProof.Rows L2

section
variable {X : Cx} {CX : CXT} {k : Nat} {C f : Addr} {fd : FuncData} {ps : List Str} {sp : Sp} {E : L2.St → XK}
/-- C(..), where what is raised is wished for at the slots -/
def tMakeS (C : Addr) (sp : Sp) (E : L2.St → XK) (t : TA) : TE := fun sl H Q => t sl H fun vs H1 => ∀ x dx, H1 x = none → H1 dx = none → dx ≠ x →
  sp (.ref x :: vs) (upd (upd H1 dx (.own x)) x (.ins C dx [])) (fun v H2 => v = .non ∧ Q (.ref x) H2) (E sl)
theorem run_makeS {pins : List (Addr × Obj)} {sl : L2.St} {H : Hp} {s : Shared} {Q : VK} {us : List Value} {vs : List V} (M : Mk X.K C f)
    (F : FnOk X.prog X.w X.K X.mg X.base CX k f fd ps sp) (hr : Room (k + 1) X.A) (hb : Binds X.K fd ps []) (hx : PassesAt CX X sl (E sl))
    (I : Inv X pins sl H s) (r : Vals vs us)
    (h : ∀ x dx, H x = none → H dx = none → dx ≠ x → sp (.ref x :: vs) (upd (upd H dx (.own x)) x (.ins C dx [])) (fun v H2 => v = .non ∧ Q (.ref x) H2) (E sl)) :
    wpAny (model X.prog X.w) X.A (call (.ref C) us) (EP X pins sl Q) X.xe s := by
  have fr : ∀ j, H (s.heap.objs.size + j) = none := fun j => I.hok.fresh (Nat.le_add_right _ _)
  have hq := h (s.heap.objs.size + 1) s.heap.objs.size (fr 1) (fr 0) (Nat.ne_of_lt (Nat.lt_succ_self _))
  have I2 := Inv.made (C := C) I
  have r2 : Vals (V.ref (s.heap.objs.size + 1) :: vs) (Value.ref (s.heap.objs.size + 1) :: us) := .cons rfl r
  have hl : (Value.ref (s.heap.objs.size + 1) :: us).length = ps.length := r2.length.symm.trans (F.len _ _ _ _ hq)
  have bd := hb { s with heap := (s.heap.push PySem.W.emptyDict).push (PySem.W.instObj C s.heap.objs.size) } (Value.ref (s.heap.objs.size + 1) :: us) I2.kIn (by rw [List.append_nil]; exact hl)
  rw [List.append_nil] at bd
  have run := F.run _ X.stack _ _ ⟨Value.ref (s.heap.objs.size + 1) :: us, []⟩ (Value.ref (s.heap.objs.size + 1) :: us) _ _ (E sl) (hr.make C us []) (I2.env0.make C us []) bd r2 hq
  refine wpAny_call (make_map (f := f) I.kIn M.makes M.init (beq_iff_eq.mp M.fn) (codeAny_mono run fun r s' hq' => ?_))
  cases r with
  | error e => exact hx pins _ _ e s' I2 hq'
  | ok fl =>
    cases fl with
    | ret u =>
      obtain ⟨v, H', I3, rv, ev, q3⟩ := I2.after hq'
      subst ev
      exact ⟨rv, ⟨V.ref (s.heap.objs.size + 1), H', I3, rfl, q3⟩⟩
    | next => exact False.elim hq'
    | brk => exact False.elim hq'
    | cont => exact False.elim hq'
theorem pe_makeS {x : Str} {p pos : Pos} {e : Expr} {es : List Expr} {t : TA} (M : Mk X.K C f) (F : FnOk X.prog X.w X.K X.mg X.base CX k f fd ps sp) (hr : Room (k + 1) X.A)
    (hg : Gl X x) (hm : X.mg x = some (.ref C)) (hb : Binds X.K fd ps []) (hx : ∀ sl, PassesAt CX X sl (E sl)) (ha : PA X (e :: es) t)
    (hdb : (x == ("__debug__" : Str)) = false := by decide) (he : starEach (e :: es) X.env = (false, eval e X.env) :: starEach es X.env := by rfl)
    (hpl : (backTo pos (starEach es X.env)).any (·.1) = false := by rfl) : PE X (.Call (.Name x p) (e :: es) [] pos) (tMakeS C sp E t) :=
  ⟨fun pins s sl H Q I h => wpAny_Call_Name_kw (ld_glob I hg hm (PySem.W.callWith_K (h₀ := X.base) I.ok.mod.kin M.kp
    (thn (ha.run pos pins s sl H _ I h) fun us s1 ⟨vs, H1, I1, r, q⟩ => ⟨I1.kIn, run_makeS M F hr hb (hx sl) I1 r q⟩) he hpl) hdb)⟩

/-- o.m(..), where what is raised is wished for at the slots -/
def tMethS (C : Addr) (m : Str) (sp : Sp) (E : L2.St → XK) (ta : TE) (t : TA) : TE := fun sl H Q => ta sl H fun x H1 => ∃ a dx fs, x = .ref a ∧
  H1 a = some (.ins C dx fs) ∧ fs.lookup m = none ∧ t sl H1 fun vs H2 => sp (x :: vs) H2 Q (E sl)
theorem pe_methS {m : Str} {o e : Expr} {es : List Expr} {ta : TE} {t : TA} {apos pos : Pos} {pl : Sem Bool} (ho : PE X o ta) (c : Cls X.K C) (hm : Meth X.K C m f)
    (F : FnOk X.prog X.w X.K X.mg X.base CX k f fd ps sp) (hr : Room k X.A) (hb : Binds X.K fd ps []) (hx : ∀ sl, PassesAt CX X sl (E sl)) (ha : PA X (e :: es) t)
    (hst : starEach (e :: es) X.env = (false, eval e X.env) :: starEach es X.env := by rfl) (hpl : (backTo pos (starEach es X.env)).any (·.1) = false := by rfl)
    (ht : eval (.Call (.Attribute o m apos) (e :: es) [] pos) X.env = (do
      let v ← eval o X.env
      standAt apos.atName
      let (g, first) ← holding [v] (getMethod v m pl)
      callWith pos g first (backTo pos (starEach (e :: es) X.env)) (backToKw pos (keywordEach [] X.env))) := by rfl) :
    PE X (.Call (.Attribute o m apos) (e :: es) [] pos) (tMethS C m sp E ta t) := by
  refine ⟨fun pins s sl H Q I h => PySem.W.methodCall_KW (pl := pl) (thn (ho.run pins s sl H _ I h) fun u s1 hh => ?_) ht⟩
  obtain ⟨x, H1, I1, rx, a, dx, fs, ex, ea, l, q⟩ := hh
  subst ex
  cases rx
  refine getmeth_ok I1 ea c hm l (PySem.W.callWith_K (first := [.ref a]) (h₀ := X.base) I.ok.mod.kin hm.kp ?_ hst hpl)
  exact thn (ha.run pos pins s1 sl H1 _ I1 q) fun us s2 ⟨vs, H2, I2, r, q2⟩ => ⟨I2.kIn, run_fnS (us := .ref a :: us) (vs := .ref a :: vs) F hr hb (hx sl) I2 (.cons rfl r) q2⟩
end

/-! ### isinstance of a caught error, with or without a dict of its own -/
section
open PySem.W PySem.Calls
variable {prog : Program} {w : World} {A : Around} {E : Value → Shared → Prop} {s : Shared} {K : Frag} {x D : Addr} {ox : Obj} {od : Option Obj}
theorem find_data {name : Str} {a g : Value} (hc : (clsIn K D).isSome = true) (ha : findIn K (.ref D) name = some (some a)) (hg : specialIn K a "__get__" = some (some g))
    (ht : takesIn K a = some true) : findObj K D od name = some (.bind g a) := by
  obtain ⟨cd, e⟩ := Option.isSome_iff_exists.mp hc
  unfold findObj
  rw [e, Option.bind_some, ha, Option.bind_some]
  simp [hg, ht]
theorem err_class {Q : Option Value → Shared → Prop} (T : ExcC K D) (X : K.In s.heap) (I : InstAt s.heap x ox D od) (h : Q (some (.ref D)) { s with toks := s.toks + 1 }) :
    wpAny (model prog w) A (getAttr? (.ref x) "__class__") Q E s := by
  have hf : findObj K D od "__class__" = some (.bind (.builtin "getset_descriptor.__get__") (.builtin "object.__class__")) :=
    find_data (by obtain ⟨cd, hc, _⟩ := any_some T.hd; rw [hc]; rfl) T.ha T.hn T.ht
  obtain ⟨hp, g, d, t, os⟩ := s
  have L0 := I.type (M := model prog w)
  have L1 := looks_findIn (M := model prog w) X T.hg
  have L2 := looks_findIn (M := model prog w) X T.hk
  have L3 := looks_find (M := model prog w) X I hf
  have sub : Looks (model prog w) hp (isInstance (.ref x) (.type "BaseException")) true := L0.andThen (looks_subIn X T.hs)
  have z0 : (false && onTheHeap (Value.builtin "BaseException.__getattribute__")) = false := rfl
  have z2 : (Value.builtin "BaseException.__getattribute__" == Value.builtin "object.__getattribute__") = false := by decide +kernel
  have z1 : (onTheHeap (Value.ref D) && Value.builtin "BaseException.__getattribute__" == Value.builtin "object.__getattribute__") = false := by rw [z2]; rfl
  unfold getAttr? getAttrBy? getAttrBy
  refine wpAny_bind (wpAny_mkText (wpAny_bind (wpAny_attempt (wpAny_holding (wpAny_bind (L0.at (wpAny_bind (L1.at ?_))))))))
  show wpAny _ _ (if (onTheHeap (Value.ref D) && Value.builtin "BaseException.__getattribute__" == Value.builtin "object.__getattribute__") = true then _ else _) _ _ _
  rw [z1, if_neg Bool.false_ne_true]
  unfold getAttrByItsOwn hookBefore
  refine wpAny_bind ?_
  rw [if_pos (show onTheHeap (Value.ref D) = true from rfl)]
  refine L2.at (wpAny_bind (wpAny_attempt (wpAny_holding ?_)))
  unfold callGetattribute
  rw [z0, if_neg Bool.false_ne_true]
  unfold boundAndCalled
  rw [PySem.F.excAttr_ValueError.ga.bind (.ref x)]
  refine wpAny_bind (wpAny_pure ?_)
  show wpAny _ _ (call (.builtin "BaseException.__getattribute__") [.ref x, .str "__class__" t]) _ _ _
  refine wpAny_call (codeAny_call_builtin PySem.F.excAttr_ValueError.ga.plain PySem.F.entry_bexc_ga ?_)
  refine @check_slot (model prog w) _ _ ⟨hp, g, d, t + 1, os⟩ "BaseException.__getattribute__" "BaseException" "__getattribute__" (.ref x)
    [.str "__class__" t] [] _ (by decide +kernel) (by decide +kernel) sub (PySem.F.args_bexc_ga (.ref x) (.str "__class__" t)) ?_
  unfold Builtin.«object.__getattribute__»
  refine wpAny_bind (wpAny_of_eq (a := ((Value.ref x : Value), [Value.str "__class__" t])) (by first | rfl | (simp only [slotArgs]; rfl)) ?_)
  refine wpAny_bind (wpAny_pure (wpAny_bind (L0.at (wpAny_bind (L3.at ?_)))))
  show wpAny _ _ (holding [Value.builtin "object.__class__"] (call (.builtin "getset_descriptor.__get__") [.builtin "object.__class__", .ref x, .ref D]) >>= ret) _ _ _
  refine wpAny_bind (wpAny_holding (wpAny_call (class_get (s := ⟨hp, g, d, t + 1, os⟩) (ox := ox) (od := od) X I T.hm (wpAny_pure ?_))))
  show wpAny _ _ (handedOut (.ref D)) _ _ _
  rw [handedOut_of (v := .ref D) rfl]
  first
    | exact wpAny_pure (wpAny_pure h)
    | exact wpAny_pure h
    | exact wpAny_pure (wpAny_bind (wpAny_pure (wpAny_pure h)))
theorem kit_err (T : ExcC K D) : KitX K (.ref x) (.ref D) (fun h => InstAt h x ox D od) where
  ty := fun _ _ _ I => I.type
  it := fun _ _ X _ => by
    obtain ⟨cd, e, _⟩ := any_some T.hd
    unfold clsIn at e
    split at e
    · rename_i z
      exact fun A' Q' E' s' k q => by
        unfold isType loadHead
        exact wpAny_bind (wpAny_loadPart (k _ _ (X _ _ z)) (wpAny_pure q))
    · cases e
  ne := fun h tp dd its n sl X htp => (handS_kitx_exc (x := x) (ox := ox) T.hg T.hk T.hs T.hd T.ha T.hn T.ht T.hm).ne h tp dd its n sl X htp
  ca := fun X I k => err_class T X I k
end
/-- isinstance(e, c), e the error that the suite holds; its own dict, where it has one, is tracked -/
def rIsX (K : PySem.W.Frag) (cls : Value) (d : Option Addr) (a : Addr) : List V → Hp → VK → Prop := fun xs H Q => ∃ (D : Addr) (c : V) (cv : Value) (b : Bool),
  cls = .ref D ∧ ExcC K D ∧ (∀ dd, d = some dd → ∃ fs, H dd = some (.xd fs)) ∧ xs = [.ref a, c] ∧ (∀ u, RelV c u → u = cv) ∧ PySem.W.kitOne K (.ref D) cv = some b ∧ Q (.bl b) H
theorem call_isX {X : Cx} {a : Addr} {cls : Value} {d : Option Addr} {oe : Obj} {pn : List (Addr × Obj)} (hz : Zc cls d oe) (hf : ∃ vs, oe.data = .fields vs) :
    CallR (X.suite a ((a, oe) :: pn)) (.builtin "isinstance") (rIsX X.K cls d a) := by
  intro pins s sl H xs us Q I r h
  obtain ⟨D, c, cv, b, rfl, T, hd, rfl, hcv, e, q⟩ := h
  obtain ⟨u1, u2, rfl, r1, r2⟩ := vals2 r
  cases r1
  have ec := hcv _ r2
  subst ec
  obtain ⟨hget, _⟩ := I.pin (a, oe) (List.mem_append.mpr (.inl List.mem_cons_self))
  obtain ⟨vs, hv⟩ := hf
  have fin : ∀ tk, EP (X.suite a ((a, oe) :: pn)) pins sl Q (.bool b) { s with toks := tk } := fun tk => ⟨.bl b, H, I.tok tk, rfl, q⟩
  cases d with
  | none =>
    have J : PySem.W.InstAt s.heap a oe D none := ⟨hget, hz.1, by unfold PySem.W.notCls; rw [hv] <;> rfl, by rw [hz.2]; exact True.intro⟩
    exact PySem.W.kia_one (kit_err T) I.kIn J e (fun z => nomatch z) fin
  | some dd =>
    obtain ⟨fs, hx⟩ := hd dd rfl
    obtain ⟨mA, hns, _⟩ := (show ObjOk X.prog X.w H s.heap dd (.xd fs) from I.hok dd _ hx)
    obtain ⟨od, ho, _⟩ := lookIn_ns hns
    have J : PySem.W.InstAt s.heap a oe D (some od) := ⟨hget, hz.1, by unfold PySem.W.notCls; rw [hv] <;> rfl, by rw [hz.2]; exact ho⟩
    exact PySem.W.kia_one (kit_err T) I.kIn J e (fun z => nomatch z) fin
end Fc
set_option Elab.async false
set_option linter.all false
set_option maxRecDepth 100000
set_option maxHeartbeats 4000000
/-! == of an own instance with other kinds, both ways round. -/
namespace Fc
open PySem PySem.Spec PyProof.Rows L2
open AutoSeq1 (wpAny_loadPart')
section
open PySem.W
variable {prog : Program} {w : World} {A : Around} {E : Value → Shared → Prop} {s : Shared} {K : Frag} {x C f : Addr} {ox : Obj} {od : Option Obj}
/-- other == x: other's own == declines, then x's is asked -/
theorem rc_back {b : Value} {T id : String} {Q : Value → Shared → Prop} (hu : A.units < cLine) (hT : s.TypeIs b T) (slot : Slot T (cmpInfo .Eq).2.1 id) (X : K.In s.heap) (I : InstAt s.heap x ox C od)
    (hsub : subIn K (.ref C) (.type T) = some false) (hs : findIn K (.ref C) "__eq__" = some (some (.ref f))) (hf : isFn K (.ref f) = true)
    (decl : ∀ Q' : Value → Shared → Prop, Q' .notImplemented s → wpAny (model prog w) A (call (.builtin id) [b, .ref x]) Q' E s)
    (h : wpAny (model prog w) A (call (.ref f) [.ref x, b]) (PySem.W.CmpBack Q) E s) : wpAny (model prog w) A (richCompare .Eq b (.ref x)) Q E s := by
  have one : wpAny (model prog w) A (tryCompare (.ref x) (cmpInfo .Eq).2.2 b) (fun r s' => ∃ v, r = some v ∧ Q v s') E s := by
    unfold tryCompare
    refine wpAny_bind (ifBound_K X I hs hf (wpAny_mono h (fun v s' hv => ?_) fun _ _ e => e))
    cases v <;> first | exact hv.elim | exact wpAny_pure ⟨_, rfl, hv⟩
  rcases hi : cmpInfo CmpOp.Eq with ⟨sym, g, r⟩
  rw [hi] at slot one
  have hne : (Value.type T != Value.ref C) = true := by simp
  simp only [richCompare, hi, hT.oneThing_none]
  try with_reducible refine wpAny_holding ?_
  refine wpAny_bind (wpAny_cRoomFor_or (.inr hu) ?_)
  refine wpAny_bind (wpAny_typeOf hT (wpAny_bind (I.type.here ?_)))
  simp only [hne, if_true]
  refine wpAny_bind ((looks_subIn X hsub).here ?_)
  simp only [Bool.false_eq_true, if_false, Bool.not_false, if_true]
  refine wpAny_bind (m := tryCompare b _ (.ref x)) (wpAny_tryCompare_declines hT slot (decl _ ⟨rfl, ?_⟩))
  refine wpAny_bind (m := tryCompare (.ref x) _ b) (wpAny_mono one (fun r' s' hr => ?_) fun _ _ e => e)
  obtain ⟨v, rfl, q⟩ := hr
  exact wpAny_pure q
/-- the built-in kinds decline -/
theorem decl_int {i : Int} {t : Tok} {Q : Value → Shared → Prop} (hx : s.heap.get? x = some ox) (hd : ∀ v, ox.data ≠ .prim v) (hq : Q .notImplemented s) :
    wpAny (model prog w) A (call (.builtin "int.__eq__") [.int i t, .ref x]) Q E s := by
  refine GQ.call_here F.slot_int_eq (typeIs_int s i t) F.entry_int_eq (F.args_int_eq_2 _ _) ?_
  obtain ⟨oc, od, da, sl⟩ := ox
  obtain ⟨hp, g, d, tk, os⟩ := s
  cases da
  case prim v => exact absurd rfl (hd v)
  all_goals (wp_walk using wpAny_loadPart' hx)
  all_goals exact hq
theorem decl_str {i : Str} {t : Tok} {Q : Value → Shared → Prop} (hx : s.heap.get? x = some ox) (hd : ∀ v, ox.data ≠ .prim v) (hq : Q .notImplemented s) :
    wpAny (model prog w) A (call (.builtin "str.__eq__") [.str i t, .ref x]) Q E s := by
  refine GQ.call_here F.slot_str_eq (typeIs_str s i t) F.entry_str_eq (F.args_str_eq_2 _ _) ?_
  obtain ⟨oc, od, da, sl⟩ := ox
  obtain ⟨hp, g, d, tk, os⟩ := s
  cases da
  case prim v => exact absurd rfl (hd v)
  all_goals (wp_walk using wpAny_loadPart' hx)
  all_goals exact hq
theorem decl_none {Q : Value → Shared → Prop} (hq : Q .notImplemented s) :
    wpAny (model prog w) A (call (.builtin "NoneType.__eq__") [.none, .ref x]) Q E s := by
  refine GQ.call_here F.slot_NoneType_eq rfl F.entry_NoneType_eq (F.args_NoneType_eq_2 _ _) ?_
  obtain ⟨hp, g, d, tk, os⟩ := s
  wp_walk
  exact hq
theorem decl_tup {l : Addr} {Q : Value → Shared → Prop} (hT : s.TypeIs (.ref l) "tuple") (X : K.In s.heap) (I : InstAt s.heap x ox C od) (hsub : subIn K (.ref C) (.type "tuple") = some false) (hq : Q .notImplemented s) :
    wpAny (model prog w) A (call (.builtin "tuple.__eq__") [.ref l, .ref x]) Q E s := by
  refine GQ.call_here F.slot_tuple_eq hT F.entry_tuple_eq (F.args_tuple_eq_2 _ _) ?_
  have L0 : Looks (model prog w) s.heap (isInstance (.ref x) (.type "tuple")) false := (I.type (M := model prog w)).andThen (looks_subIn X hsub)
  obtain ⟨hp, g, d, tk, os⟩ := s
  wp_walk using L0.at
  exact hq
theorem decl_lst {l : Addr} {Q : Value → Shared → Prop} (hT : s.TypeIs (.ref l) "list") (X : K.In s.heap) (I : InstAt s.heap x ox C od) (hsub : subIn K (.ref C) (.type "list") = some false) (hq : Q .notImplemented s) :
    wpAny (model prog w) A (call (.builtin "list.__eq__") [.ref l, .ref x]) Q E s := by
  refine GQ.call_here F.slot_list_eq hT F.entry_list_eq (F.args_list_eq_2 _ _) ?_
  have L0 : Looks (model prog w) s.heap (isInstance (.ref x) (.type "list")) false := (I.type (M := model prog w)).andThen (looks_subIn X hsub)
  obtain ⟨hp, g, d, tk, os⟩ := s
  wp_walk using L0.at
  exact hq
end

/-- values of built-in kinds whose own == declines -/
inductive BK (H : Hp) : V → String → Prop where
  | int (i : Int) : BK H (.int i) "int"
  | str (x : Str) : BK H (.str x) "str"
  | non : BK H .non "NoneType"
  | tup {a : Addr} {xs : List V} (h : H a = some (.tup xs)) : BK H (.ref a) "tuple"
  | lst {a : Addr} {xs : List V} (h : H a = some (.lst xs)) : BK H (.ref a) "list"
theorem BK.ty {K : PySem.W.Frag} {H : Hp} {x : V} {t : String} (b : BK H x t) : TyX K H x (.type t) := by
  cases b with
  | int i => exact .base (.int i)
  | str x => exact .base (.str x)
  | non => exact .base .non
  | tup h => exact .base (.tup h)
  | lst h => exact .base (.lst h)
theorem BK.mem {H : Hp} {x : V} {t : String} (b : BK H x t) : t ∈ ["int", "str", "NoneType", "tuple", "list"] := by
  cases b <;> decide
/-- ==, where one of the two at least is an instance of the class at C -/
def rEqR (K : PySem.W.Frag) (C : Addr) (sp : Sp) (E : XK) : R2 := fun x y H Q =>
  (∃ a dx fs t, x = .ref a ∧ H a = some (.ins C dx fs) ∧ TyX K H y t ∧ PySem.W.notFirst K C t = true ∧ sp [.ref a, y] H Q E) ∨
  (∃ a dx fs t, y = .ref a ∧ H a = some (.ins C dx fs) ∧ BK H x t ∧ sp [.ref a, x] H Q E)
theorem op_eqR {X : Cx} {CX : CXT} {k : Nat} {C f : Addr} {fd : FuncData} {ps : List Str} {sp : Sp} {E : XK}
    (sub : ∀ t, t ∈ ["int", "str", "NoneType", "tuple", "list"] → PySem.W.subIn X.K (.type t) (.ref C) = some false ∧ PySem.W.subIn X.K (.ref C) (.type t) = some false)
    (hs : PySem.W.findIn X.K (.ref C) "__eq__" = some (some (.ref f))) (hf : PySem.W.isFn X.K (.ref f) = true)
    (F : FnOk X.prog X.w X.K X.mg X.base CX k f fd ps sp) (hr : Room k X.A) (hb : Binds X.K fd ps []) (hx : Passes CX X E) :
    OpR X (compareOp .Eq) (rEqR X.K C sp E) := by
  intro pins s sl H x y u v Q I rx ry h
  show wpAny (model X.prog X.w) X.A (richCompare .Eq u v) (EP X pins sl Q) X.xe s
  rcases h with ⟨a, dx, fs, t, rfl, ha, ty, nf, q⟩ | ⟨a, dx, fs, t, rfl, ha, bk, q⟩
  · cases rx
    obtain ⟨ox, od, J⟩ := inst_at I ha
    obtain ⟨m, hF⟩ := I.fr
    obtain ⟨PP, Z, p, _⟩ := kit_of I ry ty
    exact PySem.W.cmp_K (op := .Eq) hr.units0 hF I.ok.mod.kin J (Z.ty _ _ I.kIn p) nf hs hf
      (thn (run_fn (vs := [.ref a, y]) (us := [.ref a, v]) F hr hb .nil hx I (.cons rfl (.cons ry .nil)) q) fun _ _ z => cmpBack z)
  · cases ry
    obtain ⟨mA, O, _⟩ := ins_get I.hok ha
    obtain ⟨od, J, _⟩ := O.look
    have own := thn (run_fn (vs := [.ref a, x]) (us := [.ref a, u]) F hr hb .nil hx I (.cons rfl (.cons rx .nil)) q) fun _ _ z => cmpBack z
    have s2 := (sub t bk.mem).2
    cases bk with
    | int i =>
      obtain ⟨tk, rfl⟩ := rx
      exact rc_back hr.units0 (typeIs_int s i tk) PySem.F.slot_int_eq I.kIn J s2 hs hf (fun Q' hq => decl_int O.obj (fun w z => by cases z) hq) own
    | str i =>
      obtain ⟨tk, rfl⟩ := rx
      exact rc_back hr.units0 (typeIs_str s i tk) PySem.F.slot_str_eq I.kIn J s2 hs hf (fun Q' hq => decl_str O.obj (fun w z => by cases z) hq) own
    | non =>
      cases rx
      exact rc_back hr.units0 rfl PySem.F.slot_NoneType_eq I.kIn J s2 hs hf (fun Q' hq => decl_none hq) own
    | @tup l xs hl =>
      cases rx
      obtain ⟨_, its, _, o, h1, h2, _⟩ := (show ObjOk X.prog X.w H s.heap l (.tup xs) from I.hok l _ hl)
      have hT : s.TypeIs (.ref l) "tuple" := ⟨o, h1, h2⟩
      exact rc_back hr.units0 hT PySem.F.slot_tuple_eq I.kIn J s2 hs hf (fun Q' hq => decl_tup hT I.kIn J s2 hq) own
    | @lst l xs hl =>
      cases rx
      obtain ⟨_, its, n, _, h1⟩ := (show ObjOk X.prog X.w H s.heap l (.lst xs) from I.hok l _ hl)
      have hT : s.TypeIs (.ref l) "list" := ⟨_, h1, rfl⟩
      exact rc_back hr.units0 hT PySem.F.slot_list_eq I.kIn J s2 hs hf (fun Q' hq => decl_lst hT I.kIn J s2 hq) own
end Fc
set_option Elab.async false
set_option maxHeartbeats 4000000
/-! Plain mathematics: lowest terms, Euclid's steps. -/
namespace Fc

/-- top and bottom in lowest terms, the bottom above 0 -/
def lo (t b : Int) : Int × Int := if b < 0 then (-t / (Int.gcd t b : Int), -b / (Int.gcd t b : Int)) else (t / (Int.gcd t b : Int), b / (Int.gcd t b : Int))

theorem gcd_pos {t b : Int} (h : b ≠ 0) : (0 : Int) < (Int.gcd t b : Int) := by
  have : 0 < Int.gcd t b := Int.gcd_pos_of_ne_zero_right t h
  omega
theorem fdv_neg (a g : Int) (hg : 0 < g) : a.fdiv (-g) = -a / g := by
  have e : a.fdiv (-g) = (- -a).fdiv (-g) := by rw [Int.neg_neg]
  rw [e, Int.neg_fdiv_neg, Int.fdiv_eq_ediv_of_nonneg _ (by omega)]
/-- as the program reckons it: both by the divisor with the bottom's sign -/
theorem lo_prog {t b : Int} (h : b ≠ 0) : lo t b =
    (t.fdiv (if b < 0 then -(Int.gcd t b : Int) else (Int.gcd t b : Int)), b.fdiv (if b < 0 then -(Int.gcd t b : Int) else (Int.gcd t b : Int))) := by
  have g := gcd_pos (t := t) h
  unfold lo
  by_cases c : b < 0
  · simp only [if_pos c, fdv_neg _ _ g]
  · simp only [if_neg c, Int.fdiv_eq_ediv_of_nonneg _ (Int.le_of_lt g)]

/-- the two facts that say it all: what is divided is the common divisor -/
theorem lo_split {t b : Int} (h : b ≠ 0) : ∃ k : Int, k ≠ 0 ∧ t = (lo t b).1 * k ∧ b = (lo t b).2 * k ∧ 0 < (lo t b).2 ∧ Int.gcd (lo t b).1 (lo t b).2 = 1 ∧ k.natAbs = Int.gcd t b := by
  have g := gcd_pos (t := t) h
  have d1 : (Int.gcd t b : Int) ∣ t := Int.gcd_dvd_left _ _
  have d2 : (Int.gcd t b : Int) ∣ b := Int.gcd_dvd_right _ _
  obtain ⟨x, hx⟩ := d1
  obtain ⟨y, hy⟩ := d2
  have e1 : t / (Int.gcd t b : Int) = x := by
    exact Int.ediv_eq_of_eq_mul_right (by omega) hx
  have e2 : b / (Int.gcd t b : Int) = y := by
    exact Int.ediv_eq_of_eq_mul_right (by omega) hy
  have e3 : -t / (Int.gcd t b : Int) = -x := by
    have : -t = (Int.gcd t b : Int) * (-x) := by rw [Int.mul_neg, ← hx]
    rw [this]
    exact Int.mul_ediv_cancel_left _ (by omega)
  have e4 : -b / (Int.gcd t b : Int) = -y := by
    have : -b = (Int.gcd t b : Int) * (-y) := by rw [Int.mul_neg, ← hy]
    rw [this]
    exact Int.mul_ediv_cancel_left _ (by omega)
  have cop : Int.gcd x y = 1 := by
    have z : Int.gcd t b = (Int.gcd t b) * Int.gcd x y := by
      have q : Int.gcd ((Int.gcd t b : Int) * x) ((Int.gcd t b : Int) * y) = (Int.gcd t b : Int).natAbs * Int.gcd x y := Int.gcd_mul_left ..
      rw [← hx, ← hy] at q
      simpa using q
    have gp : 0 < Int.gcd t b := by omega
    have : Int.gcd t b * 1 = Int.gcd t b * Int.gcd x y := by omega
    exact (Nat.eq_of_mul_eq_mul_left gp this).symm
  have ypos : b < 0 → y < 0 := fun c => by
    rcases Int.lt_trichotomy y 0 with q | q | q
    · exact q
    · subst q; omega
    · have := Int.mul_pos g q; omega
  have ypos' : ¬ b < 0 → 0 < y := fun c => by
    rcases Int.lt_trichotomy y 0 with q | q | q
    · have := Int.mul_neg_of_pos_of_neg g q; omega
    · subst q; omega
    · exact q
  by_cases c : b < 0
  · refine ⟨-(Int.gcd t b : Int), by omega, ?_, ?_, ?_, ?_, by omega⟩
    · unfold lo; rw [if_pos c, e3, Int.neg_mul_neg, Int.mul_comm]; exact hx
    · unfold lo; rw [if_pos c, e4, Int.neg_mul_neg, Int.mul_comm]; exact hy
    · unfold lo; rw [if_pos c, e4]; have := ypos c; show 0 < -y; omega
    · unfold lo; rw [if_pos c, e3, e4]; show Int.gcd (-x) (-y) = 1; rw [Int.neg_gcd, Int.gcd_neg]; exact cop
  · refine ⟨(Int.gcd t b : Int), by omega, ?_, ?_, ?_, ?_, by omega⟩
    · unfold lo; rw [if_neg c, e1, Int.mul_comm]; exact hx
    · unfold lo; rw [if_neg c, e2, Int.mul_comm]; exact hy
    · unfold lo; rw [if_neg c, e2]; exact ypos' c
    · unfold lo; rw [if_neg c, e1, e2]; exact cop
theorem lo_pos {t b : Int} (h : b ≠ 0) : 0 < (lo t b).2 := let ⟨_, _, _, _, p, _⟩ := lo_split (t := t) h; p
theorem lo_cop {t b : Int} (h : b ≠ 0) : Int.gcd (lo t b).1 (lo t b).2 = 1 := let ⟨_, _, _, _, _, p, _⟩ := lo_split (t := t) h; p
theorem lo_cross {t b : Int} (h : b ≠ 0) : (lo t b).1 * b = t * (lo t b).2 := by
  obtain ⟨k, _, e1, e2, _⟩ := lo_split (t := t) h
  have : (lo t b).1 * ((lo t b).2 * k) = (lo t b).1 * k * (lo t b).2 := by ac_rfl
  rw [← e1, ← e2] at this
  exact this

theorem dvd_cop {a b d : Int} (h : Int.gcd a b = 1) (e : b ∣ a * d) : b ∣ d := by
  have c : Nat.Coprime b.natAbs a.natAbs := by
    have : Nat.gcd a.natAbs b.natAbs = 1 := h
    rwa [Nat.gcd_comm] at this
  have q := Int.natAbs_dvd_natAbs.mpr e
  rw [Int.natAbs_mul] at q
  exact Int.natAbs_dvd_natAbs.mp (c.dvd_of_dvd_mul_left q)
/-- lowest terms are one pair -/
theorem low_one {a b c d : Int} (hb : 0 < b) (hd : 0 < d) (h1 : Int.gcd a b = 1) (h2 : Int.gcd c d = 1) (e : a * d = c * b) : a = c ∧ b = d := by
  have d1 : b ∣ d := by
    have : b ∣ a * d := by rw [e]; exact Int.dvd_mul_left _ _
    exact dvd_cop h1 this
  have d2 : d ∣ b := by
    have : d ∣ c * b := by rw [← e]; exact Int.dvd_mul_left _ _
    exact dvd_cop h2 this
  have eq : b = d := Int.le_antisymm (Int.le_of_dvd hd d1) (Int.le_of_dvd hb d2)
  subst eq
  exact ⟨Int.eq_of_mul_eq_mul_right (by omega) e, rfl⟩
theorem lo_eq {t b u d : Int} (hb : b ≠ 0) (hd : d ≠ 0) (e : t * d = u * b) : lo t b = lo u d := by
  obtain ⟨k, k0, e1, e2, p, cp, _⟩ := lo_split (t := t) hb
  obtain ⟨m, m0, e3, e4, q, cq, _⟩ := lo_split (t := u) hd
  have z : (lo t b).1 * (lo u d).2 = (lo u d).1 * (lo t b).2 := by
    have : ((lo t b).1 * (lo u d).2) * (k * m) = ((lo u d).1 * (lo t b).2) * (k * m) := by
      have l : ((lo t b).1 * (lo u d).2) * (k * m) = ((lo t b).1 * k) * ((lo u d).2 * m) := by ac_rfl
      have r : ((lo u d).1 * (lo t b).2) * (k * m) = ((lo u d).1 * m) * ((lo t b).2 * k) := by ac_rfl
      rw [l, r, ← e1, ← e2, ← e3, ← e4]
      exact e
    exact Int.eq_of_mul_eq_mul_right (Int.mul_ne_zero k0 m0) this
  obtain ⟨h1, h2⟩ := low_one p q cp cq z
  exact Prod.ext h1 h2
theorem lo_mul {t b k : Int} (hb : b ≠ 0) (hk : k ≠ 0) : lo (t * k) (b * k) = lo t b :=
  lo_eq (Int.mul_ne_zero hb hk) hb (by ac_rfl)
theorem lo_self {t b : Int} (hb : 0 < b) (h : Int.gcd t b = 1) : lo t b = (t, b) := by
  unfold lo
  rw [if_neg (by omega), h]
  simp
theorem lo_one (t : Int) : lo t 1 = (t, 1) := lo_self (by decide) (by simp)
theorem lo_zero {b : Int} (hb : b ≠ 0) : lo 0 b = (0, 1) := by
  have := lo_eq (t := 0) (u := 0) (d := 1) hb (by decide) (by simp)
  rw [this, lo_one]
theorem lo_self2 {t b : Int} (hb : b ≠ 0) : lo (lo t b).1 (lo t b).2 = lo t b := lo_self (lo_pos hb) (lo_cop hb)
theorem natAbs_le_mul {a k : Int} (hk : k ≠ 0) : a.natAbs ≤ (a * k).natAbs := by
  rw [Int.natAbs_mul]
  have : 1 ≤ k.natAbs := by omega
  exact Nat.le_mul_of_pos_right _ this
theorem lo_top_le {t b : Int} (h : b ≠ 0) : (lo t b).1.natAbs ≤ t.natAbs := by
  obtain ⟨k, k0, e1, _⟩ := lo_split (t := t) h
  conv => rhs; rw [e1]
  exact natAbs_le_mul k0
theorem lo_bot_le {t b : Int} (h : b ≠ 0) : (lo t b).2.natAbs ≤ b.natAbs := by
  obtain ⟨k, k0, _, e2, _⟩ := lo_split (t := t) h
  conv => rhs; rw [e2]
  exact natAbs_le_mul k0

/-! ### Euclid, step by step, as the law does it -/
structure Eu (g i a b : Nat) : Prop where
  gcd : Nat.gcd a b = g
  even : i % 2 = 0 → b < 2 ^ (750 - i / 2)
  odd : i % 2 = 1 → b < a ∧ a < 2 ^ (750 - i / 2)
theorem Eu.turn {g i a b : Nat} (h : Eu g i a b) (hb : b ≠ 0) (hi : i < 1500) : Eu g (i + 1) b (a % b) := by
  have lt : a % b < b := Nat.mod_lt _ (by omega)
  refine ⟨?_, fun e => ?_, fun o => ?_⟩
  · have := h.gcd
    rw [Nat.gcd_comm, ← Nat.gcd_rec, Nat.gcd_comm]
    exact this
  · have o : i % 2 = 1 := by omega
    obtain ⟨h1, h2⟩ := h.odd o
    have ex : 750 - i / 2 = (750 - (i + 1) / 2) + 1 := by omega
    rw [ex, Nat.pow_succ] at h2
    have hd := Nat.div_add_mod a b
    have q1 : 1 ≤ a / b := (Nat.one_le_div_iff (by omega)).mpr (by omega)
    have q2 : b * 1 ≤ b * (a / b) := Nat.mul_le_mul_left b q1
    omega
  · have e : i % 2 = 0 := by omega
    have := h.even e
    refine ⟨lt, ?_⟩
    have ex : (i + 1) / 2 = i / 2 := by omega
    rw [ex]
    exact this
theorem Eu.done {g a b : Nat} (h : Eu g 1500 a b) : b = 0 := by
  have := h.even (by decide)
  simpa using this
theorem Eu.zero {g i a : Nat} (h : Eu g i a 0) : a = g := by
  have := h.gcd
  simpa using this
theorem Eu.start {a b : Nat} (h : b < 2 ^ 750) : Eu (Nat.gcd a b) 0 a b := ⟨rfl, fun _ => by simpa using h, fun e => by omega⟩

theorem pow_cop {a b : Int} (n : Nat) (h : Int.gcd a b = 1) : Int.gcd (a ^ n) (b ^ n) = 1 := by
  have : Nat.Coprime (a.natAbs ^ n) (b.natAbs ^ n) := Nat.Coprime.pow n n h
  show Nat.gcd (a ^ n).natAbs (b ^ n).natAbs = 1
  rw [Int.natAbs_pow, Int.natAbs_pow]
  exact this
end Fc
set_option Elab.async false
set_option linter.all false
set_option maxRecDepth 100000
set_option maxHeartbeats 4000000
set_option exponentiation.threshold 100000
/-! What does not hang on a law: sizes, heaps, Ratios and pairs on the heap, the pot, promises. -/
namespace Fc
open PySem PySem.Spec PyProof.Rows L2
/-! ### sizes -/
/-- below 2 ^ n in size -/
def Bd (n : Nat) (i : Int) : Prop := i.natAbs < 2 ^ n
theorem Bd.mono {n m : Nat} {i : Int} (h : Bd n i) (l : n ≤ m) : Bd m i := Nat.lt_of_lt_of_le h (Nat.pow_le_pow_right (by decide) l)
theorem Bd.mul {n m : Nat} {i j : Int} (h : Bd n i) (g : Bd m j) : Bd (n + m) (i * j) := wide_lt h g
theorem Bd.add {n : Nat} {i j : Int} (h : Bd n i) (g : Bd n j) : Bd (n + 1) (i + j) := by
  unfold Bd at *
  rw [Nat.pow_succ]
  omega
theorem Bd.sub {n : Nat} {i j : Int} (h : Bd n i) (g : Bd n j) : Bd (n + 1) (i - j) := by
  unfold Bd at *
  rw [Nat.pow_succ]
  omega
theorem Bd.neg {n : Nat} {i : Int} (h : Bd n i) : Bd n (-i) := by
  unfold Bd at *
  omega
theorem Bd.abs {n : Nat} {i j : Int} (h : Bd n i) (e : j.natAbs ≤ i.natAbs) : Bd n j := Nat.lt_of_le_of_lt e h
theorem Bd.w {n m : Nat} {i j : Int} (h : Bd n i) (g : Bd m j) (a : 0 < n := by decide) (b : 0 < m := by decide) (l : n + m ≤ 1000000 := by decide) : CMulW i j := wide_mul h g a b l
theorem Bd.fdv {n : Nat} {i j : Int} (h : Bd n j) (a : j ≠ 0) (b : 0 < n := by decide) (l : n ≤ 9000 := by decide) : CFdv i j := ⟨a, Nat.lt_of_lt_of_le (PySem.Flt.log2_lt_of b h) l⟩
theorem Bd.div {n : Nat} {i j : Int} (h : Bd n j) (a : 0 < j) (b : 0 < n := by decide) (l : n ≤ 9000 := by decide) : CDivW i j := wide_div a h b l

/-! ### heaps -/
abbrev Ex (H H' : Hp) : Prop := Same H H'
theorem Ex.new {H : Hp} {p : Addr} {o : HO} (h : H p = none) : Ex H (upd H p o) := fun a u e => by rw [upd_ne (ne_of_none e h)]; exact e
theorem Ex.to {H H1 : Hp} {p : Addr} {o : HO} (x : Ex H H1) (h : H1 p = none) : Ex H (upd H1 p o) := x.trans (Ex.new h)
/-- all but what stands at p is as it was -/
def Keep (p : Addr) (H H' : Hp) : Prop := ∀ b o, H b = some o → b ≠ p → H' b = some o
theorem Keep.refl {p : Addr} {H : Hp} : Keep p H H := fun _ _ h _ => h
theorem Keep.trans {p : Addr} {H H1 H2 : Hp} (a : Keep p H H1) (b : Keep p H1 H2) : Keep p H H2 := fun c o h n => b c o (a c o h n) n
theorem Keep.of {p : Addr} {H H' : Hp} (h : Ex H H') : Keep p H H' := fun c o e _ => h c o e
theorem Keep.upd {p : Addr} {H : Hp} {o : HO} : Keep p H (upd H p o) := fun c u e n => by rw [upd_ne n]; exact e
theorem Keep.new {p q : Addr} {H : Hp} {o : HO} (h : H q = none) : Keep p H (L2.upd H q o) := Keep.of (Ex.new h)

/-- the fields of a Ratio -/
def rf (p : Int × Int) : List (Str × V) := [("top", .int p.1), ("bottom", .int p.2)]
theorem ne_tb : ¬ (("top" : Str) = "bottom") := by decide +kernel
theorem rf_put (t b : Int) : putF "bottom" (.int b) (putF "top" (.int t) []) = rf (t, b) := by
  show (if ("top" : Str) = "bottom" then _ else (("top" : Str), V.int t) :: putF "bottom" (.int b) []) = rf (t, b)
  rw [if_neg ne_tb]
  rfl
theorem rf_top (p : Int × Int) : (rf p).lookup ("top" : Str) = some (.int p.1) := by simp [rf, List.lookup]
theorem rf_bot (p : Int × Int) : (rf p).lookup ("bottom" : Str) = some (.int p.2) := by
  have : (("bottom" : Str) == "top") = false := by decide +kernel
  simp [rf, List.lookup, this]
theorem rf_no (p : Int × Int) {m : Str} (h : (m == "top") = false) (h2 : (m == "bottom") = false) : (rf p).lookup m = none := by
  simp [rf, List.lookup, h, h2]
/-- a Ratio with the fields p stands at a -/
def RatAt (C : Addr) (H : Hp) (a : Addr) (p : Int × Int) : Prop := ∃ dx, H a = some (.ins C dx (rf p))
theorem RatAt.ex {C : Addr} {H H' : Hp} {a : Addr} {p : Int × Int} (r : RatAt C H a p) (e : Ex H H') : RatAt C H' a p := let ⟨dx, h⟩ := r; ⟨dx, e _ _ h⟩
/-- a pair of whole numbers stands at a -/
def Pr (H : Hp) (a : Addr) (p : Int × Int) : Prop := H a = some (.tup [.int p.1, .int p.2])
theorem Pr.ex {H H' : Hp} {a : Addr} {p : Int × Int} (r : Pr H a p) (e : Ex H H') : Pr H' a p := e _ _ r
/-- a fair pair: the bottom above 0, both of at most n digits in base 2 -/
structure Sm (n : Nat) (p : Int × Int) : Prop where
  t : Bd n p.1
  b : Bd n p.2
  pos : 0 < p.2
theorem Sm.mono {n m : Nat} {p : Int × Int} (h : Sm n p) (l : n ≤ m) : Sm m p := ⟨h.t.mono l, h.b.mono l, h.pos⟩
theorem Sm.lo {n : Nat} {t b : Int} (ht : Bd n t) (hb : Bd n b) (h : b ≠ 0) : Sm n (lo t b) := ⟨ht.abs (lo_top_le h), hb.abs (lo_bot_le h), lo_pos h⟩
theorem pos_ne {b : Int} (h : 0 < b) : b ≠ 0 := by omega

theorem passF {X : Cx} {E : XK} : Passes CX0 X E := fun _ _ _ _ _ _ _ h => h.elim
theorem Sm.ne {n : Nat} {p : Int × Int} (h : Sm n p) : p.2 ≠ 0 := pos_ne h.pos
theorem Sm.nn {n m : Nat} {p q : Int × Int} (h : Sm n p) (g : Sm m q) : p.2 * q.2 ≠ 0 := Int.mul_ne_zero h.ne g.ne
theorem Bd.pow {m : Nat} {a : Int} (h : Bd m a) : ∀ i : Nat, Bd (m * i + 1) (a ^ i)
  | 0 => by unfold Bd; rw [Int.pow_zero, Nat.mul_zero]; decide
  | i + 1 => by
    rw [Int.pow_succ]
    exact ((Bd.pow h i).mul h).mono (by rw [Nat.mul_succ]; omega)
/-- the pot: a list of the cells, the place, and what is left of the cell -/
def PotAt (H : Hp) (p : Addr) : Prop := ∃ (l : Addr) (cs : List Int) (i c : Int), p ≠ l ∧ H p = some (.lst [.ref l, .int i, .int c]) ∧ H l = some (.lst (cs.map V.int)) ∧
  cs.length ≤ 63 ∧ 0 ≤ i ∧ 0 ≤ c ∧ ∀ z ∈ cs, 0 ≤ z
theorem PotAt.ex {H H' : Hp} {p : Addr} (h : PotAt H p) (e : Ex H H') : PotAt H' p := by
  obtain ⟨l, cs, i, c, ne, h1, h2, r⟩ := h
  exact ⟨l, cs, i, c, ne, e _ _ h1, e _ _ h2, r⟩
theorem PotAt.ne {H : Hp} {p t : Addr} (h : PotAt H p) (n : H t = none) : t ≠ p := fun e => by
  obtain ⟨l, cs, i, c, ne, h1, h2, r⟩ := h
  rw [e, h1] at n
  cases n
theorem Keep.free {p t : Addr} {H H' : Hp} (k : Keep p H H') (h : PotAt H' p) (n : H' t = none) : H t = none := by
  cases q : H t with
  | none => rfl
  | some o =>
    rw [k t o q (h.ne n)] at n
    cases n
theorem Pr.ne {H : Hp} {p t : Addr} {q : Int × Int} (r : Pr H t q) (h : PotAt H p) : t ≠ p := by
  obtain ⟨l, cs, i, c, ne, h1, h2, _⟩ := h
  exact ne_of r h1 (by intro z; cases z)
theorem Pr.keep {H H' : Hp} {p t : Addr} {q : Int × Int} (r : Pr H t q) (h : PotAt H p) (k : Keep p H H') : Pr H' t q := k t _ r (r.ne h)
theorem sz3 : 3 ≤ sizeLine := by rw [sizeLine_eq]; decide
theorem sz2 : 2 ≤ sizeLine := by rw [sizeLine_eq]; decide
def spStart (K : PySem.W.Frag) : Sp := fun vs H Q _ => ∃ (a : Addr) (ns : List Int), vs = [.ref a] ∧ SqL K H a (ns.map V.int) ∧ ns.length ≤ 63 ∧
  ∀ p H', PotAt H' p → Ex H H' → H p = none → Q (.ref p) H'
/-- a digit of the pot: all that is said of it is that it is below many -/
def spDigit : Sp := fun vs H Q _ => ∃ (p : Addr) (m : Int), vs = [.ref p, .int m] ∧ PotAt H p ∧ 0 < m ∧ Bd 300 m ∧
  ∀ d H', 0 ≤ d → d < m → PotAt H' p → Keep p H H' → Q (.int d) H'
/-- a drawn fraction -/
def spFraction : Sp := fun vs H Q _ => ∃ (p : Addr), vs = [.ref p] ∧ PotAt H p ∧ ∀ t q H', Pr H' t q → H t = none → Sm 220 q → PotAt H' p → Keep p H H' → Q (.ref t) H'
theorem bd_ten : Bd 210 ((10 : Int) ^ (60 : Int).toNat) := by show ((10 : Int) ^ 60).natAbs < 2 ^ 210; decide +kernel
theorem ten_pos : (0 : Int) < (10 : Int) ^ (60 : Int).toNat := by decide +kernel
theorem bd_twel : Bd 60 ((10 : Int) ^ (12 : Int).toNat) := by show ((10 : Int) ^ 12).natAbs < 2 ^ 60; decide +kernel
theorem twel_pos : (0 : Int) < (10 : Int) ^ (12 : Int).toNat := by decide +kernel
theorem bd_two : Bd 2 (2 : Int) := by show (2 : Int).natAbs < 2 ^ 2; decide
theorem bd_of {n : Nat} {i : Int} (h : i.natAbs < 2 ^ n) : Bd n i := h
theorem bd_le {n : Nat} {i j : Int} (h : Bd n j) (a : -j ≤ i) (b : i ≤ j) : Bd n i := by
  unfold Bd at *
  omega
theorem cpow (i : Int) (j : Nat) (h : i.natAbs < 2 ^ 64) (l : j ≤ 1000000) : CPow i (j : Int) := ⟨by omega, by omega, h⟩
def spHanded : Sp := fun vs H Q _ => ∃ (p t : Addr) (q : Int × Int), vs = [.ref p, .ref t] ∧ PotAt H p ∧ Pr H t q ∧ Sm 300 q ∧
  ∀ u k H', k ≠ 0 → Bd 3 k → Pr H' u (q.1 * k, q.2 * k) → H u = none → PotAt H' p → Keep p H H' → Q (.ref u) H'
theorem kit_self {K : PySem.W.Frag} {a : Addr} : PySem.W.kitOne K (.ref a) (.ref a) = some true := by
  unfold PySem.W.kitOne
  rw [if_pos (by simp)]
/-- lowest terms of at most 220 digits in base 2 -/
structure Lw (p : Int × Int) : Prop where
  s : Sm 220 p
  c : Int.gcd p.1 p.2 = 1
theorem Lw.s4 {p : Int × Int} (h : Lw p) : Sm 4000 p := h.s.mono (by decide)
theorem Lw.of {q : Int × Int} (h : Sm 220 q) : Lw (lo q.1 q.2) := ⟨Sm.lo h.t h.b h.ne, lo_cop h.ne⟩
theorem lo_k {q : Int × Int} (h : Sm 300 q) {k : Int} (k0 : k ≠ 0) : lo (q.1 * k) (q.2 * k) = lo q.1 q.2 := lo_mul h.ne k0
theorem bd_k {q : Int × Int} (h : Sm 300 q) {k : Int} (bk : Bd 3 k) : Bd 8900 (q.2 * k) := (h.b.mul bk).mono (by decide)
def spLaw (K : PySem.W.Frag) : Sp := fun vs H Q _ => ∃ (a : Addr) (ns : List Int), vs = [.ref a] ∧ SqL K H a (ns.map V.int) ∧ ns.length ≤ 63 ∧ ∀ H', Q (.bl true) H'
theorem kit_ref {K : PySem.W.Frag} {t : Value} {D : Addr} {b : Bool} (hd : PySem.W.hasDictIn K D = true) (ht : PySem.W.typeIn K (.ref D) = some (.type "type")) (hs : PySem.W.subIn K t (.ref D) = some b) (ne : t ≠ .ref D) : PySem.W.kitOne K t (.ref D) = some b := by
  obtain ⟨cd, hc, _⟩ := PySem.W.any_some hd
  have e2 : ((PySem.W.clsIn K D).isSome && PySem.W.typeIn K (.ref D) == some (.type "type")) = true := by rw [hc, ht] <;> rfl
  unfold PySem.W.kitOne
  rw [if_neg (fun z => ne (beq_iff_eq.mp z))]
  show (if ((PySem.W.clsIn K D).isSome && PySem.W.typeIn K (.ref D) == some (.type "type")) = true then PySem.W.subIn K t (.ref D) else none) = some b
  rw [if_pos e2]
  exact hs
theorem kit_typ {K : PySem.W.Frag} {D : Addr} {S : String} {b : Bool} (hm : PySem.W.kitMeta S = true) (hs : PySem.W.subIn K (.ref D) (.type S) = some b) : PySem.W.kitOne K (.ref D) (.type S) = some b := by
  unfold PySem.W.kitOne
  rw [if_neg (fun z => by cases beq_iff_eq.mp z)]
  show (if PySem.W.kitMeta S = true then PySem.W.subIn K (.ref D) (.type S) else none) = some b
  rw [if_pos hm]
  exact hs
end Fc
set_option Elab.async false
set_option linter.all false
set_option maxRecDepth 100000
set_option maxHeartbeats 4000000
/-! Fractions as rational numbers; what the ends of spans do under the five operations and the quotient. -/
namespace Fc
/-- what a pair is worth -/
def vl (p : Int × Int) : Rat := (p.1 : Rat) / (p.2 : Rat)
theorem cast_pos {b : Int} (h : 0 < b) : (0 : Rat) < (b : Rat) := Rat.intCast_pos.mpr h
theorem cast_ne {b : Int} (h : b ≠ 0) : (b : Rat) ≠ 0 := fun z => h (Rat.intCast_inj.mp (by rw [z] <;> rfl))
theorem vl_mul {p : Int × Int} (h : p.2 ≠ 0) : vl p * (p.2 : Rat) = (p.1 : Rat) := by
  have := cast_ne h
  unfold vl
  grind
theorem vl_le {p q : Int × Int} (hp : 0 < p.2) (hq : 0 < q.2) : vl p ≤ vl q ↔ p.1 * q.2 ≤ q.1 * p.2 := by
  have a := cast_pos hp
  have b := cast_pos hq
  have e1 := vl_mul (p := p) (by omega)
  have e2 := vl_mul (p := q) (by omega)
  rw [← Rat.intCast_le_intCast, Rat.intCast_mul, Rat.intCast_mul, ← e1, ← e2]
  constructor
  · intro h
    have := Rat.mul_le_mul_of_nonneg_left h (c := (p.2 : Rat) * (q.2 : Rat)) (Rat.mul_nonneg (by grind) (by grind))
    grind
  · intro h
    rcases (Rat.le_total (a := vl p) (b := vl q)) with z | z
    · exact z
    · have m := Rat.mul_le_mul_of_nonneg_left z (c := (p.2 : Rat) * (q.2 : Rat)) (Rat.mul_nonneg (by grind) (by grind))
      have e : (vl p - vl q) * ((p.2 : Rat) * (q.2 : Rat)) = 0 := by grind
      have n : 0 < (p.2 : Rat) * (q.2 : Rat) := Rat.mul_pos a b
      have : vl p - vl q = 0 := (Rat.mul_eq_zero.mp e).resolve_right (by grind)
      grind
theorem vl_lt {p q : Int × Int} (hp : 0 < p.2) (hq : 0 < q.2) : vl p < vl q ↔ p.1 * q.2 < q.1 * p.2 := by
  have := vl_le hq hp
  constructor
  · intro h
    have : ¬ (q.1 * p.2 ≤ p.1 * q.2) := fun z => by have := this.mpr z; grind
    omega
  · intro h
    have : ¬ (vl q ≤ vl p) := fun z => by have := this.mp z; omega
    grind
theorem vl_eq {p q : Int × Int} (hp : 0 < p.2) (hq : 0 < q.2) (h : vl p = vl q) : p.1 * q.2 = q.1 * p.2 := by
  have a := (vl_le hp hq).mp (by grind)
  have b := (vl_le hq hp).mp (by grind)
  omega
theorem vl_lo {t b : Int} (h : b ≠ 0) : vl (lo t b) = (t : Rat) / (b : Rat) := by
  obtain ⟨k, k0, e1, e2, p, _⟩ := lo_split (t := t) h
  have a := cast_ne k0
  have c := cast_pos p
  have f1 : (t : Rat) = ((lo t b).1 : Rat) * (k : Rat) := by rw [← Rat.intCast_mul, ← e1]
  have f2 : (b : Rat) = ((lo t b).2 : Rat) * (k : Rat) := by rw [← Rat.intCast_mul, ← e2]
  unfold vl
  rw [f1, f2]
  grind
/-! ### ranges -/
theorem mul_hi {a b c d x y : Rat} (h1 : a ≤ x) (h2 : x ≤ b) (h3 : c ≤ y) (h4 : y ≤ d) : x * y ≤ a * c ∨ x * y ≤ a * d ∨ x * y ≤ b * c ∨ x * y ≤ b * d := by
  rcases (Rat.le_total (a := 0) (b := y)) with hy | hy
  · have p1 : 0 ≤ (b - x) * y := Rat.mul_nonneg (by grind) hy
    rcases (Rat.le_total (a := 0) (b := b)) with hb | hb
    · have p2 : 0 ≤ b * (d - y) := Rat.mul_nonneg hb (by grind)
      right; right; right; grind
    · have p2 : 0 ≤ (-b) * (y - c) := Rat.mul_nonneg (by grind) (by grind)
      right; right; left; grind
  · have p1 : 0 ≤ (x - a) * (-y) := Rat.mul_nonneg (by grind) (by grind)
    rcases (Rat.le_total (a := 0) (b := a)) with ha | ha
    · have p2 : 0 ≤ a * (d - y) := Rat.mul_nonneg ha (by grind)
      right; left; grind
    · have p2 : 0 ≤ (-a) * (y - c) := Rat.mul_nonneg (by grind) (by grind)
      left; grind
theorem mul_lw {a b c d x y : Rat} (h1 : a ≤ x) (h2 : x ≤ b) (h3 : c ≤ y) (h4 : y ≤ d) : a * c ≤ x * y ∨ a * d ≤ x * y ∨ b * c ≤ x * y ∨ b * d ≤ x * y := by
  have := mul_hi (a := -b) (b := -a) (x := -x) (by grind) (by grind) h3 h4
  grind
theorem inv_anti {c d y : Rat} (h : 0 < c ∨ d < 0) (h3 : c ≤ y) (h4 : y ≤ d) : d⁻¹ ≤ y⁻¹ ∧ y⁻¹ ≤ c⁻¹ := by
  have one : ∀ u v : Rat, u ≤ v → (0 < u ∨ v < 0) → v⁻¹ ≤ u⁻¹ := by
    intro u v huv hs
    have hu : u ≠ 0 := by grind
    have hv : v ≠ 0 := by grind
    have eu := Rat.mul_inv_cancel u hu
    have ev := Rat.mul_inv_cancel v hv
    have sq : 0 ≤ (u * v) * ((v - u) * ((u⁻¹ * u⁻¹) * (v⁻¹ * v⁻¹))) := by
      have q1 : 0 ≤ u * v := by
        rcases hs with hs | hs
        · exact Rat.mul_nonneg (by grind) (by grind)
        · have := Rat.mul_nonneg (a := -u) (b := -v) (by grind) (by grind)
          grind
      have n1 : 0 ≤ u⁻¹ * u⁻¹ := by
        rcases (Rat.le_total (a := 0) (b := u⁻¹)) with z | z
        · exact Rat.mul_nonneg z z
        · have := Rat.mul_nonneg (a := -u⁻¹) (b := -u⁻¹) (by grind) (by grind)
          grind
      have n2 : 0 ≤ v⁻¹ * v⁻¹ := by
        rcases (Rat.le_total (a := 0) (b := v⁻¹)) with z | z
        · exact Rat.mul_nonneg z z
        · have := Rat.mul_nonneg (a := -v⁻¹) (b := -v⁻¹) (by grind) (by grind)
          grind
      exact Rat.mul_nonneg q1 (Rat.mul_nonneg (by grind) (Rat.mul_nonneg n1 n2))
    have e : (u * v) * ((v - u) * ((u⁻¹ * u⁻¹) * (v⁻¹ * v⁻¹))) = u⁻¹ - v⁻¹ := by grind
    grind
  exact ⟨one y d h4 (by grind), one c y h3 (by grind)⟩
/-- the law's six operations -/
def ow (op : Nat) (x y : Rat) : Rat := if op = 0 then x + y else if op = 1 then x - y else if op = 2 then x * y else if op = 3 then (if y < x then y else x) else if op = 4 then (if x < y then y else x) else x / y
/-- what is the least and the greatest of the four corners -/
structure Lst (op : Nat) (a b c d L : Rat) : Prop where
  at_ : L = ow op a c ∨ L = ow op a d ∨ L = ow op b c ∨ L = ow op b d
  h0 : L ≤ ow op a c
  h1 : L ≤ ow op a d
  h2 : L ≤ ow op b c
  h3 : L ≤ ow op b d
structure Grt (op : Nat) (a b c d L : Rat) : Prop where
  at_ : L = ow op a c ∨ L = ow op a d ∨ L = ow op b c ∨ L = ow op b d
  h0 : ow op a c ≤ L
  h1 : ow op a d ≤ L
  h2 : ow op b c ≤ L
  h3 : ow op b d ≤ L
theorem Lst.one {op : Nat} {a b c d L M : Rat} (x : Lst op a b c d L) (y : Lst op a b c d M) : L = M := by
  obtain ⟨x0, x1, x2, x3, x4⟩ := x
  obtain ⟨y0, y1, y2, y3, y4⟩ := y
  refine Rat.le_antisymm ?_ ?_
  · rcases y0 with e | e | e | e <;> rw [e] <;> assumption
  · rcases x0 with e | e | e | e <;> rw [e] <;> assumption
theorem Grt.one {op : Nat} {a b c d L M : Rat} (x : Grt op a b c d L) (y : Grt op a b c d M) : L = M := by
  obtain ⟨x0, x1, x2, x3, x4⟩ := x
  obtain ⟨y0, y1, y2, y3, y4⟩ := y
  refine Rat.le_antisymm ?_ ?_
  · rcases x0 with e | e | e | e <;> rw [e] <;> assumption
  · rcases y0 with e | e | e | e <;> rw [e] <;> assumption
theorem ow_in {op : Nat} {a b c d x y L U : Rat} (h5 : 5 ≤ op → 0 < c ∨ d < 0) (h1 : a ≤ x) (h2 : x ≤ b) (h3 : c ≤ y) (h4 : y ≤ d) (l : Lst op a b c d L) (g : Grt op a b c d U) : L ≤ ow op x y ∧ ow op x y ≤ U := by
  obtain ⟨_, l0, l1, l2, l3⟩ := l
  obtain ⟨_, g0, g1, g2, g3⟩ := g
  unfold ow at *
  by_cases o0 : op = 0
  · simp only [o0, if_true] at *; grind
  by_cases o1 : op = 1
  · simp only [o1, if_true] at *; simp at *; grind
  by_cases o2 : op = 2
  · subst o2
    simp at *
    have p := mul_hi h1 h2 h3 h4
    have q := mul_lw h1 h2 h3 h4
    constructor <;> grind
  by_cases o3 : op = 3
  · subst o3
    simp at *
    constructor <;> grind
  by_cases o4 : op = 4
  · subst o4
    simp at *
    constructor <;> grind
  · simp only [if_neg o0, if_neg o1, if_neg o2, if_neg o3, if_neg o4, Rat.div_def] at *
    obtain ⟨i1, i2⟩ := inv_anti (h5 (by omega)) h3 h4
    have p := mul_hi h1 h2 i1 i2
    have q := mul_lw h1 h2 i1 i2
    constructor <;> grind
theorem ends0 {a b c d : Rat} (h : a ≤ b) (g : c ≤ d) : Lst 0 a b c d (a + c) ∧ Grt 0 a b c d (b + d) := by
  constructor <;> constructor <;> (unfold ow; simp) <;> grind
theorem ends1 {a b c d : Rat} (h : a ≤ b) (g : c ≤ d) : Lst 1 a b c d (a - d) ∧ Grt 1 a b c d (b - c) := by
  constructor <;> constructor <;> (unfold ow; simp) <;> grind
theorem ends3 {a b c d : Rat} (h : a ≤ b) (g : c ≤ d) : Lst 3 a b c d (if a ≤ c then a else c) ∧ Grt 3 a b c d (if b ≤ d then b else d) := by
  constructor <;> constructor <;> (unfold ow; simp) <;> grind
theorem ends4 {a b c d : Rat} (h : a ≤ b) (g : c ≤ d) : Lst 4 a b c d (if c ≤ a then a else c) ∧ Grt 4 a b c d (if d ≤ b then b else d) := by
  constructor <;> constructor <;> (unfold ow; simp) <;> grind
end Fc
set_option Elab.async false
set_option linter.all false
set_option maxRecDepth 100000
set_option maxHeartbeats 4000000
/-! x in y, where y is an instance of an own class that says what is in it. -/
namespace Fc
open PySem PySem.Spec PyProof.Rows L2
section
open PySem.W
variable {M : Model} {A : Around} {E : Value → Shared → Prop} {s : Shared} {K : Frag} {c C f : Addr} {ox : Obj} {od : Option Obj}
theorem in_K {x : Value} {Q : Bool → Shared → Prop} (X : K.In s.heap) (I : InstAt s.heap c ox C od) (hs : findIn K (.ref C) "__contains__" = some (some (.ref f))) (hf : isFn K (.ref f) = true)
    (h : wpAny M A (call (.ref f) [.ref c, x]) (fun r s' => wpAny M A (truthy r) Q E s') E s) : wpAny M A (contains (.ref c) x) Q E s := by
  unfold contains
  refine wpAny_holding ?_
  have e0 : stdlibNamesSay? (.ref c) x = none := rfl
  simp only [e0, callSpecialUnlessNone?, specialOf]
  refine wpAny_bind (wpAny_bind (I.type.here ((looks_findIn X hs).here ?_)))
  show wpAny M A (if (some (Value.ref f) == some Value.none) = true then _ else _) Q E s
  rw [if_neg (by simp)]
  refine wpAny_bind (wpAny_bind (wpAny_bind (I.type.here ((looks_findIn X hs).here ?_))))
  refine wpAny_holding (wpAny_bind ((bind_fn X _ (beq_iff_eq.mp hf)).here ?_))
  show wpAny M A (if (Value.ref f == Value.none) = true then _ else _) _ E s
  rw [if_neg (by simp)]
  exact wpAny_bind (wpAny_mono h (fun v s' z => wpAny_pure z) fun _ _ z => z)
end
/-- x in y -/
def rIn (C : Addr) (sp : Sp) (E : XK) : R2 := fun x y H Q => ∃ a dx fs, y = .ref a ∧ H a = some (.ins C dx fs) ∧ sp [.ref a, x] H (fun v H' => ∃ b, v = .bl b ∧ Q (.bl b) H') E
theorem op_in {X : Cx} {CX : CXT} {k : Nat} {C f : Addr} {fd : FuncData} {ps : List Str} {sp : Sp} {E : XK}
    (hs : PySem.W.findIn X.K (.ref C) "__contains__" = some (some (.ref f))) (hf : PySem.W.isFn X.K (.ref f) = true)
    (F : FnOk X.prog X.w X.K X.mg X.base CX k f fd ps sp) (hr : Room k X.A) (hb : Binds X.K fd ps []) (hx : Passes CX X E) :
    OpR X (compareOp .In) (rIn C sp E) := by
  intro pins s sl H x y u v Q I rx ry h
  obtain ⟨a, dx, fs, rfl, ha, q⟩ := h
  cases ry
  obtain ⟨ox, od, J⟩ := inst_at I ha
  show wpAny (model X.prog X.w) X.A (do return .bool (← contains (.ref a) u)) (EP X pins sl Q) X.xe s
  refine wpAny_bind (in_K I.kIn J hs hf (thn (run_fn (vs := [.ref a, x]) (us := [.ref a, u]) F hr hb .nil hx I (.cons rfl (.cons rx .nil)) q) fun w s' z => ?_))
  obtain ⟨z', H', I', rz, b, rfl, qz⟩ := z
  cases rz
  exact wpAny_pure (wpAny_pure ⟨.bl b, H', I', rfl, qz⟩)
end Fc
set_option Elab.async false
set_option linter.all false
set_option maxRecDepth 100000
set_option maxHeartbeats 4000000
/-! Ratios, pairs and spans on the heap by what they are worth. -/
namespace Fc
open PySem PySem.Spec PyProof.Rows L2
theorem div_is {t b r : Rat} (h : b ≠ 0) (e : r * b = t) : t / b = r := by grind
theorem cast_mul (a b : Int) : ((a * b : Int) : Rat) = (a : Rat) * (b : Rat) := Rat.intCast_mul a b
theorem cast_add (a b : Int) : ((a + b : Int) : Rat) = (a : Rat) + (b : Rat) := Rat.intCast_add a b
theorem cast_sub (a b : Int) : ((a - b : Int) : Rat) = (a : Rat) - (b : Rat) := Rat.intCast_sub a b
theorem cast_neg (a : Int) : ((-a : Int) : Rat) = -(a : Rat) := Rat.intCast_neg a
theorem v_add {p q : Int × Int} (hp : p.2 ≠ 0) (hq : q.2 ≠ 0) : ((p.1 * q.2 + q.1 * p.2 : Int) : Rat) / ((p.2 * q.2 : Int) : Rat) = vl p + vl q := by
  have e1 := vl_mul hp
  have e2 := vl_mul hq
  refine div_is (cast_ne (Int.mul_ne_zero hp hq)) ?_
  rw [cast_mul, cast_add, cast_mul, cast_mul, ← e1, ← e2]
  grind
theorem v_sub {p q : Int × Int} (hp : p.2 ≠ 0) (hq : q.2 ≠ 0) : ((p.1 * q.2 - q.1 * p.2 : Int) : Rat) / ((p.2 * q.2 : Int) : Rat) = vl p - vl q := by
  have e1 := vl_mul hp
  have e2 := vl_mul hq
  refine div_is (cast_ne (Int.mul_ne_zero hp hq)) ?_
  rw [cast_mul, cast_sub, cast_mul, cast_mul, ← e1, ← e2]
  grind
theorem v_mul {p q : Int × Int} (hp : p.2 ≠ 0) (hq : q.2 ≠ 0) : ((p.1 * q.1 : Int) : Rat) / ((p.2 * q.2 : Int) : Rat) = vl p * vl q := by
  have e1 := vl_mul hp
  have e2 := vl_mul hq
  refine div_is (cast_ne (Int.mul_ne_zero hp hq)) ?_
  rw [cast_mul, cast_mul, ← e1, ← e2]
  grind
theorem v_neg {p : Int × Int} (hp : p.2 ≠ 0) : ((-p.1 : Int) : Rat) / (p.2 : Rat) = -vl p := by
  have e1 := vl_mul hp
  refine div_is (cast_ne hp) ?_
  rw [cast_neg, ← e1]
  grind
theorem v_zero {q : Int × Int} (hq : q.2 ≠ 0) : vl q = 0 ↔ q.1 = 0 := by
  have e2 := vl_mul hq
  have := cast_ne hq
  constructor
  · intro h
    rw [h] at e2
    exact Rat.intCast_inj.mp (by rw [← e2]; grind)
  · intro h
    unfold vl
    rw [h]
    grind
theorem v_div {p q : Int × Int} (hp : p.2 ≠ 0) (hq : q.2 ≠ 0) (h0 : q.1 ≠ 0) : ((p.1 * q.2 : Int) : Rat) / ((p.2 * q.1 : Int) : Rat) = vl p / vl q := by
  have e1 := vl_mul hp
  have e2 := vl_mul hq
  have n : vl q ≠ 0 := fun z => h0 ((v_zero hq).mp z)
  refine div_is (cast_ne (Int.mul_ne_zero hp h0)) ?_
  rw [cast_mul, cast_mul, ← e1, ← e2]
  grind
theorem v_pos {q : Int × Int} (hq : 0 < q.2) : 0 < vl q ↔ 0 < q.1 := by
  have := vl_lt (p := ((0, 1) : Int × Int)) (q := q) (by decide) hq
  have z : vl ((0, 1) : Int × Int) = 0 := (v_zero (by decide)).mpr rfl
  rw [z] at this
  rw [this]
  show (0 : Int) * q.2 < q.1 * 1 ↔ _
  rw [Int.zero_mul, Int.mul_one]
theorem v_nn {q : Int × Int} (hq : 0 < q.2) : 0 ≤ vl q ↔ 0 ≤ q.1 := by
  have := vl_le (p := ((0, 1) : Int × Int)) (q := q) (by decide) hq
  have z : vl ((0, 1) : Int × Int) = 0 := (v_zero (by decide)).mpr rfl
  rw [z] at this
  rw [this]
  show (0 : Int) * q.2 ≤ q.1 * 1 ↔ _
  rw [Int.zero_mul, Int.mul_one]
theorem v_np {q : Int × Int} (hq : 0 < q.2) : vl q ≤ 0 ↔ q.1 ≤ 0 := by
  have := vl_le (p := q) (q := ((0, 1) : Int × Int)) hq (by decide)
  have z : vl ((0, 1) : Int × Int) = 0 := (v_zero (by decide)).mpr rfl
  rw [z] at this
  rw [this]
  show q.1 * 1 ≤ (0 : Int) * q.2 ↔ _
  rw [Int.zero_mul, Int.mul_one]
/-- a Ratio in lowest terms, worth r -/
def RatV (C : Addr) (H : Hp) (n : Nat) (a : Addr) (r : Rat) : Prop := ∃ p, RatAt C H a p ∧ Sm n p ∧ Int.gcd p.1 p.2 = 1 ∧ vl p = r
theorem RatV.ex {C : Addr} {H H' : Hp} {n : Nat} {a : Addr} {r : Rat} (h : RatV C H n a r) (e : Ex H H') : RatV C H' n a r := let ⟨p, x, y⟩ := h; ⟨p, x.ex e, y⟩
theorem RatV.mono {C : Addr} {H : Hp} {n m : Nat} {a : Addr} {r : Rat} (h : RatV C H n a r) (l : n ≤ m) : RatV C H m a r := let ⟨p, x, y, z⟩ := h; ⟨p, x, y.mono l, z⟩
theorem RatV.lo {C : Addr} {H : Hp} {n : Nat} {a : Addr} {t b : Int} (h : RatAt C H a (lo t b)) (ht : Bd n t) (hb : Bd n b) (n0 : b ≠ 0) {r : Rat} (e : (t : Rat) / (b : Rat) = r) : RatV C H n a r :=
  ⟨_, h, Sm.lo ht hb n0, lo_cop n0, (vl_lo n0).trans e⟩
/-- a pair of whole numbers worth r -/
def PrV (H : Hp) (n : Nat) (a : Addr) (r : Rat) : Prop := ∃ p, Pr H a p ∧ Sm n p ∧ vl p = r
theorem PrV.ex {H H' : Hp} {n : Nat} {a : Addr} {r : Rat} (h : PrV H n a r) (e : Ex H H') : PrV H' n a r := let ⟨p, x, y⟩ := h; ⟨p, x.ex e, y⟩
theorem PrV.mono {H : Hp} {n m : Nat} {a : Addr} {r : Rat} (h : PrV H n a r) (l : n ≤ m) : PrV H m a r := let ⟨p, x, y, z⟩ := h; ⟨p, x, y.mono l, z⟩
theorem PrV.keep {H H' : Hp} {n : Nat} {p t : Addr} {r : Rat} (h : PrV H n t r) (pt : PotAt H p) (k : Keep p H H') : PrV H' n t r := let ⟨q, x, y⟩ := h; ⟨q, x.keep pt k, y⟩
/-- the same worth, and lowest terms: the same fraction -/
theorem low_is {n m : Nat} {t p : Int × Int} (ht : Sm n t) (hc : Int.gcd t.1 t.2 = 1) (hp : Sm m p) (e : vl t = vl p) : t = lo p.1 p.2 := by
  have h := lo_eq ht.ne hp.ne (vl_eq ht.pos hp.pos e)
  exact (lo_self ht.pos hc).symm.trans h
/-- -1, 0 or 1 -/
def cmpR (x y : Rat) : Int := if x < y then -1 else if y < x then 1 else 0
theorem cmpR_pos {x y : Rat} : 0 < cmpR x y ↔ y < x := by
  unfold cmpR
  split
  · constructor
    · omega
    · intro h; grind
  · split <;> simp_all
theorem cmpR_np {x y : Rat} : cmpR x y ≤ 0 ↔ x ≤ y := by
  have := cmpR_pos (x := x) (y := y)
  constructor
  · intro h
    have : ¬ y < x := fun z => by have := this.mpr z; omega
    grind
  · intro h
    have : ¬ 0 < cmpR x y := fun z => by have := this.mp z; grind
    omega
theorem cmpR_nn {x y : Rat} : 0 ≤ cmpR x y ↔ y ≤ x := by
  unfold cmpR
  split
  · constructor
    · intro h; omega
    · intro h; grind
  · split
    · constructor
      · intro h; grind
      · intro h; omega
    · constructor
      · intro h; grind
      · intro h; omega
/-- the fields of a Span -/
def sf (l h : Addr) : List (Str × V) := [("low", .ref l), ("high", .ref h)]
theorem ne_lh : ¬ (("low" : Str) = "high") := by decide +kernel
theorem sf_put (l h : Addr) : putF "high" (.ref h) (putF "low" (.ref l) []) = sf l h := by
  show (if ("low" : Str) = "high" then _ else (("low" : Str), V.ref l) :: putF "high" (.ref h) []) = sf l h
  rw [if_neg ne_lh]
  rfl
theorem sf_low (l h : Addr) : (sf l h).lookup ("low" : Str) = some (.ref l) := by simp [sf, List.lookup]
theorem sf_high (l h : Addr) : (sf l h).lookup ("high" : Str) = some (.ref h) := by
  have : (("high" : Str) == "low") = false := by decide +kernel
  simp [sf, List.lookup, this]
theorem sf_no (l h : Addr) {m : Str} (h1 : (m == "low") = false) (h2 : (m == "high") = false) : (sf l h).lookup m = none := by
  simp [sf, List.lookup, h1, h2]
/-- a Span from x to y -/
def SpV (S C : Addr) (H : Hp) (n : Nat) (s : Addr) (x y : Rat) : Prop := ∃ dx l h, H s = some (.ins S dx (sf l h)) ∧ RatV C H n l x ∧ RatV C H n h y
theorem SpV.ex {S C : Addr} {H H' : Hp} {n : Nat} {s : Addr} {x y : Rat} (r : SpV S C H n s x y) (e : Ex H H') : SpV S C H' n s x y := let ⟨dx, l, h, a, b, c⟩ := r; ⟨dx, l, h, e _ _ a, b.ex e, c.ex e⟩
theorem SpV.mono {S C : Addr} {H : Hp} {n m : Nat} {s : Addr} {x y : Rat} (r : SpV S C H n s x y) (e : n ≤ m) : SpV S C H m s x y := let ⟨dx, l, h, a, b, c⟩ := r; ⟨dx, l, h, a, b.mono e, c.mono e⟩
/-- a loop over a tuple, whatever its turn asks -/
theorem it_tup {K : PySem.W.Frag} {a : Addr} {xs : List V} {B : (Hp → Prop) → V → Hp → Prop} {H0 : Hp} {Qd : Hp → Prop} (Pv : Nat → Hp → Prop) (h0 : Pv 0 H0) (hl : ∀ i H, i ≤ xs.length → Pv i H → SqT K H a xs)
    (hs : ∀ i x H, xs[i]? = some x → Pv i H → B (Pv (i + 1)) x H) (hd : ∀ H, Pv xs.length H → Qd H) :
    ∃ W : Nat → Nat → Hp → Prop, (∃ m, W 0 m H0) ∧ ∀ i m H, W i m H →
      ((Itt K a).stop i H ∧ Qd H) ∨ ((Itt K a).go i H ∧ ∃ Nx : Hp → Prop, (∀ H', Nx H' → ∃ m', m' < m ∧ W (i + 1) m' H') ∧ ∀ x H', (Itt K a).yld i H x H' → B Nx x H') := by
  refine ⟨fun i m H => m = xs.length - i ∧ i ≤ xs.length ∧ Pv i H, ⟨xs.length, by simp, Nat.zero_le _, h0⟩, ?_⟩
  rintro i m H ⟨rfl, hi, p⟩
  have q := hl i H hi p
  by_cases hlt : i < xs.length
  · refine .inr ⟨⟨xs, xs[i], q, by simp [hlt]⟩, Pv (i + 1), fun H' p' => ⟨xs.length - (i + 1), by omega, rfl, hlt, p'⟩, fun x H' y => ?_⟩
    obtain ⟨e, y⟩ := y
    subst e
    exact hs i x _ (y xs q) p
  · have e : i = xs.length := by omega
    subst e
    exact .inl ⟨⟨xs, q, Nat.le_refl _⟩, hd H p⟩
/-- the Ratios at these addresses are worth these -/
def Fit (C : Addr) (H : Hp) : List Addr → List Rat → Prop
  | [], [] => True
  | a :: as, r :: rs => RatV C H 2001 a r ∧ Fit C H as rs
  | _, _ => False
theorem Fit.len {C : Addr} {H : Hp} : ∀ {as : List Addr} {rs : List Rat}, Fit C H as rs → as.length = rs.length
  | [], [], _ => rfl
  | _ :: _, _ :: _, h => congrArg (· + 1) (Fit.len h.2)
  | [], _ :: _, h => h.elim
  | _ :: _, [], h => h.elim
theorem Fit.app {C : Addr} {H : Hp} {y : Addr} {r : Rat} (hy : RatV C H 2001 y r) : ∀ {as : List Addr} {rs : List Rat}, Fit C H as rs → Fit C H (as ++ [y]) (rs ++ [r])
  | [], [], _ => ⟨hy, trivial⟩
  | _ :: _, _ :: _, h => ⟨h.1, Fit.app hy h.2⟩
  | [], _ :: _, h => h.elim
  | _ :: _, [], h => h.elim
theorem RatV.keep {C D : Addr} {H H' : Hp} {n : Nat} {a : Addr} {r : Rat} {xs : List V} (h : RatV C H n a r) (hD : H D = some (.lst xs)) (k : Keep D H H') : RatV C H' n a r := by
  obtain ⟨p, ⟨dx, z⟩, y⟩ := h
  refine ⟨p, ⟨dx, k _ _ z ?_⟩, y⟩
  intro e
  rw [e, hD] at z
  cases z
theorem Fit.keep {C D : Addr} {H H' : Hp} {xs : List V} (hD : H D = some (.lst xs)) (k : Keep D H H') : ∀ {as : List Addr} {rs : List Rat}, Fit C H as rs → Fit C H' as rs
  | [], [], _ => trivial
  | _ :: _, _ :: _, h => ⟨h.1.keep hD k, Fit.keep hD k h.2⟩
  | [], _ :: _, h => h.elim
  | _ :: _, [], h => h.elim
theorem Fit.ex {C : Addr} {H H' : Hp} (k : Ex H H') : ∀ {as : List Addr} {rs : List Rat}, Fit C H as rs → Fit C H' as rs
  | [], [], _ => trivial
  | _ :: _, _ :: _, h => ⟨h.1.ex k, Fit.ex k h.2⟩
  | [], _ :: _, h => h.elim
  | _ :: _, [], h => h.elim
def Els (C : Addr) (H : Hp) (D : Addr) (rs : List Rat) : Prop := ∃ ys : List Addr, H D = some (.lst (ys.map V.ref)) ∧ Fit C H ys rs
theorem Keep.exn {D : Addr} {H H' : Hp} (k : Keep D H H') (n : H D = none) : Ex H H' := fun b o e => k b o e (ne_of_none e n)
/-- one more of them -/
theorem Els.app {C D : Addr} {H H1 : Hp} {rs : List Rat} {y : Addr} {r : Rat} (h : Els C H D rs) (e : Ex H H1) (hy : RatV C H1 2001 y r) (l : rs.length < 4) :
    ∃ acc, H1 D = some (.lst acc) ∧ acc.length < sizeLine ∧ Els C (upd H1 D (.lst (acc ++ [.ref y]))) D (rs ++ [r]) := by
  obtain ⟨ys, h1, h2⟩ := h
  refine ⟨ys.map V.ref, e _ _ h1, ?_, ys ++ [y], ?_, ?_⟩
  · rw [List.length_map, h2.len, sizeLine_eq]
    omega
  · rw [upd_same, List.map_append]
    rfl
  · exact ((h2.ex e).app hy).keep (e _ _ h1) Keep.upd
/-- [e for x in (a, b) for y in (c, d)] -/
theorem lc22 {K : PySem.W.Frag} {C : Addr} {s o : V} {wi wi1 : TI} {te : TE} {f : Rat → Rat → Rat} {G : Rat → Prop} {H : Hp} {Q : VK} {a b c d : Addr} {ra rb rc rd : Rat}
    (ha : RatV C H 1000 a ra) (hb : RatV C H 1000 b rb) (hc : RatV C H 1000 c rc) (hd : RatV C H 1000 d rd) (gc : G rc) (gd : G rd)
    (hw : ∀ R, (∀ t H', Ex H H' → H' t = some (.tup [.ref a, .ref b]) → R (Itt K t) H') → wi [some s, some o, none, none] H R)
    (hw1 : ∀ u H2 R, Ex H H2 → (∀ t H', Ex H2 H' → H' t = some (.tup [.ref c, .ref d]) → R (Itt K t) H') → wi1 [some s, some o, some u, none] H2 R)
    (ht : ∀ u v ru rv H2 R, RatV C H2 1000 u ru → RatV C H2 1000 v rv → G rv → (∀ y H', Ex H2 H' → H2 y = none → RatV C H' 2001 y (f ru rv) → R (.ref y) H') → te [some s, some o, some (.ref u), some (.ref v)] H2 R)
    (k : ∀ L H' ys, Ex H H' → H' L = some (.lst (ys.map V.ref)) → Fit C H' ys [f ra rc, f ra rd, f rb rc, f rb rd] → Q (.ref L) H') :
    tLc2 wi (gName 2) tYes wi1 (gName 3) tYes te [2, 3] [3] [some s, some o, none, none] H Q := by
  refine hw _ fun t H1 e1 h1 => ?_
  intro D hD
  have tD : t ≠ D := ne_of_none h1 hD
  refine it_tup (xs := [.ref a, .ref b]) (fun i H' => Keep D H1 H' ∧ Els C H' D (([f ra rc, f ra rd, f rb rc, f rb rd] : List Rat).take (2 * i))) ⟨Keep.upd, [], upd_same, trivial⟩ (fun i H' _ p => SqT.of (p.1 _ _ h1 tD)) (fun i x H' hx p => ?_) (fun H' p => ?_)
  · obtain ⟨kp, els⟩ := p
    obtain ⟨u, ru, rfl, hu, i2, e2⟩ : ∃ u ru, x = V.ref u ∧ RatV C H 1000 u ru ∧ i < 2 ∧ ([f ra rc, f ra rd, f rb rc, f rb rd] : List Rat).take (2 * i + 1) = ([f ra rc, f ra rd, f rb rc, f rb rd] : List Rat).take (2 * i) ++ [f ru rc] ∧
        ([f ra rc, f ra rd, f rb rc, f rb rd] : List Rat).take (2 * (i + 1)) = ([f ra rc, f ra rd, f rb rc, f rb rd] : List Rat).take (2 * i + 1) ++ [f ru rd] := by
      match i, hx with
      | 0, z => cases z; exact ⟨a, ra, rfl, ha, by decide, rfl, rfl⟩
      | 1, z => cases z; exact ⟨b, rb, rfl, hb, by decide, rfl, rfl⟩
      | n + 2, z => simp at z
    refine ⟨rfl, hw1 _ _ _ (e1.trans (kp.exn hD)) fun t2 H4 e4 h4 => ?_⟩
    obtain ⟨ys, hy1, hy2⟩ := els
    have t2D : t2 ≠ D := ne_of h4 (e4 _ _ hy1) (by intro z; cases z)
    refine it_tup (xs := [.ref c, .ref d]) (fun j H' => Keep D H4 H' ∧ Els C H' D (([f ra rc, f ra rd, f rb rc, f rb rd] : List Rat).take (2 * i + j))) ⟨Keep.refl, ys, e4 _ _ hy1, hy2.ex e4⟩ (fun j H' _ p => SqT.of (p.1 _ _ h4 t2D)) (fun j x H5 hx p => ?_) (fun H5 p => ?_)
    · obtain ⟨kp5, els5⟩ := p
      have kk : Keep D H1 H5 := (kp.trans (Keep.of e4)).trans kp5
      have E5 : Ex H H5 := e1.trans (kk.exn hD)
      obtain ⟨v, rv, rfl, hv, gv, j2, ej⟩ : ∃ v rv, x = V.ref v ∧ RatV C H 1000 v rv ∧ G rv ∧ j < 2 ∧ ([f ra rc, f ra rd, f rb rc, f rb rd] : List Rat).take (2 * i + (j + 1)) = ([f ra rc, f ra rd, f rb rc, f rb rd] : List Rat).take (2 * i + j) ++ [f ru rv] := by
        match j, hx with
        | 0, z => cases z; exact ⟨c, rc, rfl, hc, gc, by decide, e2.1⟩
        | 1, z => cases z; exact ⟨d, rd, rfl, hd, gd, by decide, e2.2⟩
        | n + 2, z => simp at z
      refine ⟨rfl, ht u v ru rv H5 _ (hu.ex E5) (hv.ex E5) gv fun y H6 e6 ny ry => ?_⟩
      obtain ⟨acc, q1, q2, q3⟩ := els5.app e6 ry (by rw [List.length_take]; show min (2 * i + j) 4 < 4; omega)
      refine ⟨acc, q1, q2, (kp5.trans (Keep.of e6)).trans Keep.upd, ?_⟩
      rw [ej]
      exact q3
    · exact ⟨(kp.trans (Keep.of e4)).trans p.1, p.2⟩
  · obtain ⟨kp, ys, h3, h4⟩ := p
    exact k D H' ys (e1.trans (kp.exn hD)) h3 h4
end Fc
set_option Elab.async false
set_option linter.all false
set_option maxRecDepth 100000
set_option maxHeartbeats 4000000
set_option exponentiation.threshold 100000
/-! Euclid with Lamé's bound: 1500 steps do for a bottom below 2 ^ 1000. -/
namespace Fc
/-- two Fibonacci numbers in a row -/
def fib2 : Nat → Nat × Nat
  | 0 => (0, 1)
  | n + 1 => ((fib2 n).2, (fib2 n).1 + (fib2 n).2)
structure Lu (g N i a b : Nat) : Prop where
  gcd : Nat.gcd a b = g
  first : i = 0 → b ≤ N
  next : i ≠ 0 → b < a ∧ (fib2 i).1 * a + (fib2 (i - 1)).1 * b ≤ N
theorem Lu.start {a b N : Nat} (h : b ≤ N) : Lu (Nat.gcd a b) N 0 a b := ⟨rfl, fun _ => h, fun z => absurd rfl z⟩
theorem fib_step (n : Nat) : (fib2 (n + 2)).1 = (fib2 (n + 1)).1 + (fib2 n).1 := by
  show (fib2 n).1 + (fib2 n).2 = (fib2 n).2 + (fib2 n).1
  omega
theorem Lu.turn {g N i a b : Nat} (h : Lu g N i a b) (hb : b ≠ 0) : Lu g N (i + 1) b (a % b) := by
  have lt : a % b < b := Nat.mod_lt _ (by omega)
  refine ⟨?_, fun e => by omega, fun _ => ⟨lt, ?_⟩⟩
  · have := h.gcd
    rw [Nat.gcd_comm, ← Nat.gcd_rec, Nat.gcd_comm]
    exact this
  · rcases Nat.eq_zero_or_pos i with z | z
    · subst z
      have := h.first rfl
      show 1 * b + 0 * (a % b) ≤ N
      omega
    · obtain ⟨h1, h2⟩ := h.next (by omega)
      obtain ⟨j, rfl⟩ : ∃ j, i = j + 1 := ⟨i - 1, by omega⟩
      have hd := Nat.div_add_mod a b
      have q1 : 1 ≤ a / b := (Nat.one_le_div_iff (by omega)).mpr (by omega)
      have q2 : b * 1 ≤ b * (a / b) := Nat.mul_le_mul_left b q1
      have q3 : b + a % b ≤ a := by omega
      have q4 := Nat.mul_le_mul_left (fib2 (j + 1)).1 q3
      rw [Nat.mul_add] at q4
      show (fib2 (j + 2)).1 * b + (fib2 (j + 1)).1 * (a % b) ≤ N
      rw [fib_step, Nat.add_mul]
      have h2' : (fib2 (j + 1)).1 * a + (fib2 j).1 * b ≤ N := h2
      omega
/-- .. reckoned with two numbers -/
def fibL : Nat → Nat → Nat → Nat
  | 0, a, _ => a
  | n + 1, a, b => fibL n b (a + b)
theorem fibL_is (n : Nat) : ∀ k, fibL n (fib2 k).1 (fib2 k).2 = (fib2 (n + k)).1 := by
  induction n with
  | zero => intro k; rw [Nat.zero_add]; rfl
  | succ n ih =>
    intro k
    show fibL n (fib2 k).2 ((fib2 k).1 + (fib2 k).2) = _
    have := ih (k + 1)
    rw [show n + 1 + k = n + (k + 1) by omega]
    exact this
theorem fib_big : 2 ^ 1000 < (fib2 1500).1 := by
  have e : (fib2 1500).1 = fibL 1500 0 1 := (fibL_is 1500 0).symm
  rw [e]
  decide +kernel
theorem Lu.done {g N a b : Nat} (h : Lu g N 1500 a b) (hN : N ≤ 2 ^ 1000) : b = 0 := by
  obtain ⟨h1, h2⟩ := h.next (by decide)
  have := fib_big
  have q := Nat.mul_le_mul_left (fib2 1500).1 (show 1 ≤ a by omega)
  omega
theorem Lu.zero {g N i a : Nat} (h : Lu g N i a 0) : a = g := by
  have := h.gcd
  simpa using this
end Fc
set_option Elab.async false
set_option linter.all false
set_option maxRecDepth 100000
set_option maxHeartbeats 4000000
/-! An own error with an own __init__, raised where nothing is handled, with its context told; defs that are called within an except suite. -/
namespace Fc
open PySem PySem.Spec PyProof.Rows L2 L2H
section
variable {X : Cx} {CX : CXT} {k : Nat} {C fI : Addr} {fd : FuncData} {ps : List Str} {sp : Sp} {x : Str} {p pos : Pos} {e : Expr} {es : List Expr} {ta : TA}
/-- the new exception as the own __init__ finds it -/
theorem fresh_exc {pins : List (Addr × Obj)} {sl : L2.St} {H : Hp} {hp : Heap} {g : Array GenState} {dr : Drawn} {tk : Nat} {os : OsState} (I : Inv X pins sl H ⟨hp, g, dr, tk, os⟩) (us : List Value) :
    let h2 := (hp.push (PySem.W.kdv_tup us)).push (PySem.HandSPX.excO C hp.objs.size)
    (∀ b o, hp.get? b = some o → h2.get? b = some o) ∧ Inv X pins sl (upd H (hp.objs.size + 1) (exo (hp.objs.size + 1) C none)) ⟨h2, g, dr, tk, os⟩ := by
  have kp : ∀ b o, hp.get? b = some o → ((hp.push (PySem.W.kdv_tup us)).push (PySem.HandSPX.excO C hp.objs.size)).get? b = some o :=
    fun b o z => Heap.get?_push_of_some _ (Heap.get?_push_of_some _ z)
  have at_ : ((hp.push (PySem.W.kdv_tup us)).push (PySem.HandSPX.excO C hp.objs.size)).get? (hp.objs.size + 1) = some (PySem.HandSPX.excO C hp.objs.size) := by
    heap_get
  exact ⟨kp, I.laid (t' := tk) (a := hp.objs.size + 1) (o := exo (hp.objs.size + 1) C none) kp (Nat.le_succ _) (exo_ok at_)⟩
theorem pmk_oexN (T : OexC X.K C) (iC : PySem.W.findIn X.K (.ref C) "__init__" = some (some (.ref fI))) (tI : PySem.W.typeIn X.K (.ref fI) = some (.type "function")) (G : FnOk X.prog X.w X.K X.mg X.base CX k fI fd ps sp) (room : Room (k + 1) X.A)
    (bnd : Binds X.K fd ps []) (px : Passes CX X (fun _ _ _ => False)) (gl : Gl X x) (at_ : X.mg x = some (.ref C)) (args : PA X (e :: es) ta) (nd : (x == ("__debug__" : Str)) = false := by decide)
    (st : starEach (e :: es) X.env = (false, eval e X.env) :: starEach es X.env := by rfl) (pl : (backTo pos (starEach es X.env)).any (·.1) = false := by rfl) : L2N.PMk X (.Call (.Name x p) (e :: es) [] pos) (tMkO C sp [] ta) := fun pins s0 sl H0 Qx I0 want => by
  obtain ⟨_, _, _, _, bm, _, _, _, _, _, _, _, _, _, _, cls, ve⟩ := T.cls
  refine wpAny_Call_Name_kw (ld_glob I0 gl at_ (PySem.W.callWith_K (h₀ := X.base) I0.ok.mod.kin T.kC (thn (args.run pos pins s0 sl H0 _ I0 want) fun us s1 got => ?_) st pl) nd)
  obtain ⟨vs, H1, I1, rel, many, go⟩ := got
  refine ⟨I1.kIn, ?_⟩
  obtain ⟨hp, g, dr, tk, os⟩ := s1
  obtain ⟨kp, I2⟩ := fresh_exc (C := C) I1 us
  have go' := go (hp.objs.size + 1) (I1.hok.fresh (Nat.le_succ _))
  rw [List.append_nil] at go'
  have rel2 : Vals (V.ref (hp.objs.size + 1) :: vs) (Value.ref (hp.objs.size + 1) :: us) := .cons rfl rel
  have len2 : (Value.ref (hp.objs.size + 1) :: us ++ []).length = ps.length := by
    rw [List.append_nil, ← rel2.length]
    exact G.len _ _ _ _ go'
  have few : us.length ≤ sizeLine := by
    have := Paired.length rel
    rw [sizeLine_eq]
    omega
  have bd := bnd _ (Value.ref (hp.objs.size + 1) :: us) I2.kIn len2
  rw [List.append_nil] at bd
  have run := G.run _ X.stack _ _ ⟨Value.ref (hp.objs.size + 1) :: us, []⟩ (Value.ref (hp.objs.size + 1) :: us) _ _ (fun _ _ _ => False) (room.make C us []) (I2.env0.make C us []) bd rel2 go'
  refine wpAny_call (PySem.HandSPX.call_own F.excBase_ValueError (fun Y => PySem.HandSPX.refsVE_contains Y bm ve) (I1.kIn _ _ cls) (PySem.W.looks_findIn I1.kIn iC) (fun self => PySem.W.bind_fn I1.kIn self tI) few (codeAny_mono run fun r s' out => ?_))
  match r, out with
  | .error er, out => exact px pins sl _ _ er s' I2 out
  | .ok (.ret u), ⟨v, H2, os2, bare2, un2, hok2, rv, ev, d, fs, ea, ed, hd1, q2⟩ =>
    subst ev
    obtain ⟨h2, g2, d2, t2, os'⟩ := s'
    obtain ⟨t0, Gh, J, kG, ge, hoe, na⟩ := mk_end0 (d2 := d2) (t2 := t2) I1 (Nat.le_succ _) kp un2 hok2 os2 bare2 ea ed hd1
    exact ⟨rv, hp.objs.size + 1, _, _, ⟨Gh, g2, d2, t2, os'⟩, _, .ref C, some d, rfl, J, kG, ge, hoe, ⟨rfl, rfl, fun vs hv => by cases hv; rfl⟩, rfl, rfl, na, rfl, bare2, raises_own T.exC T.tyC, q2⟩
  | .ok .next, out => exact out.elim
  | .ok .brk, out => exact out.elim
  | .ok .cont, out => exact out.elim
end
theorem passLN {X : Cx} : Passes (L2N.CX X.prog X.w) X E0 := fun _ _ _ _ _ _ _ h => by
  rcases h with ⟨_, _, _, _, _, _, _, _, _, _, _, _, z⟩
  exact False.elim z
theorem takes0N {X : Cx} : L2N.Takes X (fun _ _ _ _ => False) := fun _ _ h => by
  rcases h with ⟨_, _, _, _, _, _, _, _, _, _, _, _, _, _, _, _, z⟩
  exact False.elim z
section
variable {P : Program} {w : World} {K : PySem.W.Frag} {mg : Str → Option Value} {base : Heap} {x qual : Str} {st : Stmt} {f : Addr} {fd : FuncData} {N ps : List Str} {k : Nat} {sp : Sp}
/-- a def that raises, the context of what it raises told -/
theorem fun_okN (D : Fun K x qual st f fd) (S : FnScope N ps (defScope st)) (len : ∀ vs H Q E, sp vs H Q E → vs.length = ps.length)
    (body : ∀ (cdv : Value) (A : Around) (outer : List Env) (s : Shared) (H : Hp) (vs : List V) (Q : VK) (E : XK), Room k (A.deeper (envOfC qual (defScope st) s.heap.objs.size f cdv)) → sp vs H Q E →
      ∃ t, PSs (cxOf (L2N.CX P w) P w K mg base N qual (defScope st) f cdv A outer s H E) (defBody st) t ∧ t { nx := fun _ H' => Q .non H', rt := Q } (L2.start N vs) H) : FnOk P w K mg base (L2N.CX P w) (k + 1) f fd ps sp := by
  obtain ⟨_, _, _, _, _, _, cdv, _, _, rfl, lk, cd⟩ := D.ex
  exact fn_of lk cd S len fun A outer s H vs Q E room q => body cdv A outer s H vs Q E room q
/-- a def that is called within an except suite -/
theorem fun_okH (D : Fun K x qual st f fd) (S : FnScope N ps (defScope st)) (len : ∀ vs H Q E, sp vs H Q E → vs.length = ps.length)
    (body : ∀ (cdv : Value) (A : Around) (outer : List Env) (s : Shared) (H : Hp) (vs : List V) (Q : VK) (E : XK) (p : Addr × Obj), RoomH k (A.deeper (envOfC qual (defScope st) s.heap.objs.size f cdv)) →
      HotC (cxH CX0 P w K mg base N qual (defScope st) f cdv A outer s H E p) → sp vs H Q E →
      ∃ t, PSs (cxH CX0 P w K mg base N qual (defScope st) f cdv A outer s H E p) (defBody st) t ∧ t { nx := fun _ H' => Q .non H', rt := Q } (L2.start N vs) H) : FnH P w K mg base CX0 (k + 1) f fd ps sp := by
  obtain ⟨_, _, _, _, _, _, cdv, _, _, rfl, lk, cd⟩ := D.ex
  exact fn_ofH lk cd S len fun A outer s H vs Q E p hot room q => body cdv A outer s H vs Q E p room ⟨p, ⟨hot.1, hot.2⟩, List.mem_cons_self⟩ q
end
theorem _root_.L2H.RoomH.u64 {k : Nat} {A : Around} (r : RoomH k A) : A.units + 64 < cLine := by
  have := r.un
  omega
theorem passH {X : Cx} : ∀ sl, PassesAt CX0 X sl E0 := fun _ _ _ _ _ _ _ h => h.elim
/-- the suite of a caught error whose context is None -/
theorem hot_suite {X : Cx} {a : Addr} {oe : Obj} {pn : List (Addr × Obj)} {cls : Value} {d : Option Addr} (hz : L2N.Zn cls d oe) (hf : ∃ vs, oe.data = .fields vs) : HotC (X.suite a ((a, oe) :: pn)) := by
  obtain ⟨vs, h⟩ := hf
  exact ⟨(a, oe), ⟨rfl, vs, h, hz.2.2 vs h⟩, List.mem_cons_self⟩
end Fc
set_option Elab.async false
set_option linter.all false
set_option maxRecDepth 100000
set_option maxHeartbeats 4000000
set_option exponentiation.threshold 100000
/-! Instances with many fields; what is no list stays; list.count of truth values; Euclid within the bits of its divisor. -/
namespace Fc
open PySem PySem.Spec PyProof.Rows L2
/-! ### fields by names -/
theorem zip_get {ns : List Str} {vs : List V} {i : Nat} {n : Str} {v : V} (nd : ns.Nodup) (hn : ns[i]? = some n) (hv : vs[i]? = some v) : (ns.zip vs).lookup n = some v := by
  induction ns generalizing vs i with
  | nil => cases hn
  | cons m ns ih =>
    obtain ⟨nm, nd'⟩ := List.nodup_cons.mp nd
    cases vs with
    | nil => cases hv
    | cons w vs =>
      cases i with
      | zero =>
        cases hn
        cases hv
        simp [List.lookup]
      | succ i =>
        have hn' : ns[i]? = some n := by simpa using hn
        have hv' : vs[i]? = some v := by simpa using hv
        have ne : (n == m) = false := by
          rw [beq_eq_false_iff_ne]
          intro e
          subst e
          exact nm (List.mem_of_getElem? hn')
        show (match n == m with | true => some w | false => List.lookup n (ns.zip vs)) = some v
        rw [ne]
        exact ih nd' hn' hv'
theorem zip_no {ns : List Str} {vs : List V} {n : Str} (h : n ∉ ns) : (ns.zip vs).lookup n = none := by
  induction ns generalizing vs with
  | nil => rfl
  | cons m ns ih =>
    cases vs with
    | nil => rfl
    | cons w vs =>
      have ne : (n == m) = false := by
        rw [beq_eq_false_iff_ne]
        intro e
        exact h (by rw [e]; exact List.mem_cons_self)
      show (match n == m with | true => some w | false => List.lookup n (ns.zip vs)) = none
      rw [ne]
      exact ih (fun z => h (List.mem_cons_of_mem _ z))
theorem put_new {ns : List Str} {vs : List V} {n : Str} {v : V} (h : n ∉ ns) (l : ns.length = vs.length) : putF n v (ns.zip vs) = (ns ++ [n]).zip (vs ++ [v]) := by
  induction ns generalizing vs with
  | nil =>
    cases vs with
    | nil => rfl
    | cons w vs => cases l
  | cons m ns ih =>
    cases vs with
    | nil => cases l
    | cons w vs =>
      have ne : ¬ (m = n) := fun e => h (by rw [e]; exact List.mem_cons_self)
      show (if m = n then _ else (m, w) :: putF n v (ns.zip vs)) = _
      rw [if_neg ne, ih (fun z => h (List.mem_cons_of_mem _ z)) (by simpa using l)]
      rfl
theorem put_old {ns : List Str} {vs : List V} {i : Nat} {n : Str} {v w : V} (nd : ns.Nodup) (hn : ns[i]? = some n) (hv : vs[i]? = some w) : putF n v (ns.zip vs) = ns.zip (vs.set i v) := by
  induction ns generalizing vs i with
  | nil => cases hn
  | cons m ns ih =>
    obtain ⟨nm, nd'⟩ := List.nodup_cons.mp nd
    cases vs with
    | nil => cases hv
    | cons u vs =>
      cases i with
      | zero =>
        cases hn
        show (if n = n then (n, v) :: ns.zip vs else _) = _
        rw [if_pos rfl]
        rfl
      | succ i =>
        have hn' : ns[i]? = some n := by simpa using hn
        have hv' : vs[i]? = some w := by simpa using hv
        have ne : ¬ (m = n) := by
          intro e
          subst e
          exact nm (List.mem_of_getElem? hn')
        show (if m = n then _ else (m, u) :: putF n v (ns.zip vs)) = _
        rw [if_neg ne, ih nd' hn' hv']
        rfl
/-! ### what is no list stays -/
def NL (H H' : Hp) : Prop := ∀ b o, H b = some o → (∀ xs, o ≠ .lst xs) → H' b = some o
theorem NL.refl {H : Hp} : NL H H := fun _ _ h _ => h
theorem NL.of {H H' : Hp} (h : Ex H H') : NL H H' := fun b o e _ => h b o e
theorem NL.trans {H H1 H2 : Hp} (a : NL H H1) (b : NL H1 H2) : NL H H2 := fun c o h n => b c o (a c o h n) n
theorem NL.keep {p : Addr} {H H' : Hp} {xs : List V} (hp : H p = some (.lst xs)) (k : Keep p H H') : NL H H' := fun c o h n => k c o h fun e => by
  subst e
  rw [hp] at h
  cases h
  exact n _ rfl
theorem NL.tup {H H' : Hp} {a : Addr} {xs : List V} (k : NL H H') (h : H a = some (.tup xs)) : H' a = some (.tup xs) := k _ _ h fun _ z => by cases z
theorem NL.ins {H H' : Hp} {a C dx : Addr} {fs : List (Str × V)} (k : NL H H') (h : H a = some (.ins C dx fs)) : H' a = some (.ins C dx fs) := k _ _ h fun _ z => by cases z
theorem RatAt.nl {C : Addr} {H H' : Hp} {a : Addr} {p : Int × Int} (r : RatAt C H a p) (k : NL H H') : RatAt C H' a p := let ⟨dx, h⟩ := r; ⟨dx, k.ins h⟩
theorem RatV.nl {C : Addr} {H H' : Hp} {n : Nat} {a : Addr} {r : Rat} (h : RatV C H n a r) (k : NL H H') : RatV C H' n a r := let ⟨p, x, y⟩ := h; ⟨p, x.nl k, y⟩
theorem Pr.nl {H H' : Hp} {a : Addr} {p : Int × Int} (r : Pr H a p) (k : NL H H') : Pr H' a p := k.tup r
theorem PrV.nl {H H' : Hp} {n : Nat} {a : Addr} {r : Rat} (h : PrV H n a r) (k : NL H H') : PrV H' n a r := let ⟨p, x, y⟩ := h; ⟨p, x.nl k, y⟩
/-! ### a pot whose two lists are known -/
def PotL (H : Hp) (p l : Addr) : Prop := ∃ (cs : List Int) (i c : Int), p ≠ l ∧ H p = some (.lst [.ref l, .int i, .int c]) ∧ H l = some (.lst (cs.map V.int)) ∧ cs.length ≤ 63 ∧ 0 ≤ i ∧ 0 ≤ c ∧ ∀ z ∈ cs, 0 ≤ z
theorem PotL.ex {H H' : Hp} {p l : Addr} (h : PotL H p l) (e : Ex H H') : PotL H' p l := by
  obtain ⟨cs, i, c, ne, h1, h2, r⟩ := h
  exact ⟨cs, i, c, ne, e _ _ h1, e _ _ h2, r⟩
theorem PotL.keep {H H' : Hp} {p l D : Addr} (h : PotL H p l) (k : Keep D H H') (n1 : D ≠ p) (n2 : D ≠ l) : PotL H' p l := by
  obtain ⟨cs, i, c, ne, h1, h2, r⟩ := h
  exact ⟨cs, i, c, ne, k _ _ h1 n1.symm, k _ _ h2 n2.symm, r⟩
theorem PotL.nl {H H' : Hp} {p l : Addr} (h : PotL H p l) (k : Keep p H H') : NL H H' := by
  obtain ⟨cs, i, c, ne, h1, h2, r⟩ := h
  exact .keep h1 k
/-! ### list.count of truth values -/
def isB (b : Bool) (v : Value) : Bool := match v with
  | .bool c => c == b
  | _ => false
theorem bools_of {bs : List Bool} : ∀ {us : List Value}, Vals (bs.map V.bl) us → us = bs.map Value.bool := by
  induction bs with
  | nil => intro us h; cases h; rfl
  | cons b bs ih =>
    intro us h
    cases h with
    | cons h t =>
      cases h
      rw [ih t]
      rfl
def rCntB (K : PySem.W.Frag) : V → List V → Hp → VK → Prop := fun x xs H Q => ∃ (p : Addr) (bs : List Bool) (k : Bool), x = .ref p ∧ xs = [.bl k] ∧ SqL K H p (bs.map V.bl) ∧ Q (.int (bs.count k : Nat)) H
theorem mt_bcount {X : Cx} : MtR X "list.count" (rCntB X.K) := by
  intro pins s sl H x xs v us Q I rx rxs h
  obtain ⟨p, bs, k, rfl, rfl, hs, q⟩ := h
  cases rx
  obtain ⟨u, rfl, ru⟩ := rxs.one
  cases ru
  obtain ⟨its, rv, ⟨⟨cls, dd, data, slt⟩, n, ho, hc, hdn, hd⟩, hlen⟩ := I.list hs
  simp only at hc hd
  subst hc hd
  have hi := bools_of rv
  refine call_meets PySem.F.slot_list_count ⟨_, ho, rfl⟩ PySem.F.entry_list_count (PySem.F.args_list_count_2 _ _) (SeqAt.list_countAt p its.toArray n dd slt (.bool k) (isB k)) ⟨ho, fun y hy => ?_, ?_⟩
  · have hm : y ∈ its := by simpa using hy
    rw [hi] at hm
    obtain ⟨b, _, rfl⟩ := List.mem_map.mp hm
    exact SeqAt.EqAt.bool_bool b k
  · have ec : its.toArray.toList.countP (isB k) = bs.count k := by
      rw [List.toList_toArray, hi, List.countP_map]
      rfl
    refine ⟨.int (bs.count k : Nat), H, I.tok _, ⟨s.toks, ?_⟩, q⟩
    show Value.int ((its.toArray.toList.countP (isB k) : Nat) : Int) s.toks = Value.int ((bs.count k : Nat) : Int) s.toks
    rw [ec]
/-! ### Euclid within twice the bits of the lesser number -/
structure EuN (N g i a b : Nat) : Prop where
  gcd : Nat.gcd a b = g
  even : i % 2 = 0 → b < 2 ^ (N - i / 2)
  odd : i % 2 = 1 → b < a ∧ a < 2 ^ (N - i / 2)
theorem EuN.turn {N g i a b : Nat} (h : EuN N g i a b) (hb : b ≠ 0) : EuN N g (i + 1) b (a % b) := by
  have lt : a % b < b := Nat.mod_lt _ (by omega)
  refine ⟨?_, fun e => ?_, fun o => ?_⟩
  · have := h.gcd
    rw [Nat.gcd_comm, ← Nat.gcd_rec, Nat.gcd_comm]
    exact this
  · obtain ⟨h1, h2⟩ := h.odd (by omega)
    have pos : N - i / 2 ≠ 0 := fun z => by rw [z] at h2; omega
    have ex : N - i / 2 = (N - (i + 1) / 2) + 1 := by omega
    rw [ex, Nat.pow_succ] at h2
    have hd := Nat.div_add_mod a b
    have q1 : 1 ≤ a / b := (Nat.one_le_div_iff (by omega)).mpr (by omega)
    have q2 : b * 1 ≤ b * (a / b) := Nat.mul_le_mul_left b q1
    omega
  · have := h.even (by omega)
    refine ⟨lt, ?_⟩
    have ex : (i + 1) / 2 = i / 2 := by omega
    rw [ex]
    exact this
theorem EuN.done {N g a b : Nat} (h : EuN N g (2 * N + 2) a b) : b = 0 := by
  have := h.even (by omega)
  have e : N - (2 * N + 2) / 2 = 0 := by omega
  rw [e] at this
  simpa using this
theorem EuN.zero {N g i a : Nat} (h : EuN N g i a 0) : a = g := by
  have := h.gcd
  simpa using this
theorem EuN.start {N a b : Nat} (h : b < 2 ^ N) : EuN N (Nat.gcd a b) 0 a b := ⟨rfl, fun _ => by simpa using h, fun e => by omega⟩
theorem bits_lt (x : Int) : x.natAbs < 2 ^ (Builtin.Int.intBits x) := intBits_le_iff.mp (Nat.le_refl _)
end Fc
set_option Elab.async false
set_option linter.all false
set_option maxRecDepth 100000
set_option maxHeartbeats 4000000
set_option exponentiation.threshold 100000
namespace Fc
open PySem PySem.Spec PyProof.Rows L2 L2H
/-! ### the text -/
def top (i : Nat) : Stmt := PySem.Challenge.pw_fewcarry_k25_bars.main.body.getD i (.Pass ⟨0, 0, 0, 0⟩)
abbrev S_oob : Stmt := inClass (top 5) 0
abbrev N_oob : List Str := ["self", "value"]
theorem sc_oob : FnScope N_oob ["self", "value"] (defScope S_oob) := ⟨rfl, rfl, rfl, by decide +kernel, rfl, by decide +kernel, by decide +kernel⟩
abbrev S_bq : Stmt := inClass (top 7) 0
abbrev N_bq : List Str := ["self", "q"]
theorem sc_bq : FnScope N_bq ["self", "q"] (defScope S_bq) := ⟨rfl, rfl, rfl, by decide +kernel, rfl, by decide +kernel, by decide +kernel⟩
abbrev S_init : Stmt := inClass (top 13) 0
abbrev N_init : List Str := ["self", "top", "bottom", "divisor"]
theorem sc_init : FnScope N_init ["self", "top", "bottom"] (defScope S_init) := ⟨rfl, rfl, rfl, by decide +kernel, rfl, by decide +kernel, by decide +kernel⟩
abbrev S_add : Stmt := inClass (top 13) 2
abbrev N_add : List Str := ["self", "other", "top"]
theorem sc_add : FnScope N_add ["self", "other"] (defScope S_add) := ⟨rfl, rfl, rfl, by decide +kernel, rfl, by decide +kernel, by decide +kernel⟩
abbrev S_sub : Stmt := inClass (top 13) 3
abbrev N_sub : List Str := ["self", "other", "top"]
theorem sc_sub : FnScope N_sub ["self", "other"] (defScope S_sub) := ⟨rfl, rfl, rfl, by decide +kernel, rfl, by decide +kernel, by decide +kernel⟩
abbrev S_mul : Stmt := inClass (top 13) 4
abbrev N_mul : List Str := ["self", "other"]
theorem sc_mul : FnScope N_mul ["self", "other"] (defScope S_mul) := ⟨rfl, rfl, rfl, by decide +kernel, rfl, by decide +kernel, by decide +kernel⟩
abbrev S_divided : Stmt := inClass (top 13) 9
abbrev N_divided : List Str := ["self", "other"]
theorem sc_divided : FnScope N_divided ["self", "other"] (defScope S_divided) := ⟨rfl, rfl, rfl, by decide +kernel, rfl, by decide +kernel, by decide +kernel⟩
abbrev S_compare : Stmt := inClass (top 13) 11
abbrev N_compare : List Str := ["self", "other", "left", "right"]
theorem sc_compare : FnScope N_compare ["self", "other"] (defScope S_compare) := ⟨rfl, rfl, rfl, by decide +kernel, rfl, by decide +kernel, by decide +kernel⟩
abbrev S_up : Stmt := inClass (top 13) 14
abbrev N_up : List Str := ["self"]
theorem sc_up : FnScope N_up ["self"] (defScope S_up) := ⟨rfl, rfl, rfl, by decide +kernel, rfl, by decide +kernel, by decide +kernel⟩
abbrev S_binit : Stmt := inClass (top 19) 0
abbrev N_binit : List Str := ["self", "q", "dimension", "one"]
theorem sc_binit : FnScope N_binit ["self", "q", "dimension"] (defScope S_binit) := ⟨rfl, rfl, rfl, by decide +kernel, rfl, by decide +kernel, by decide +kernel⟩
abbrev S_ceiling : Stmt := inClass (top 19) 1
abbrev N_ceiling : List Str := ["self", "step"]
theorem sc_ceiling : FnScope N_ceiling ["self", "step"] (defScope S_ceiling) := ⟨rfl, rfl, rfl, by decide +kernel, rfl, by decide +kernel, by decide +kernel⟩
abbrev S_floor : Stmt := inClass (top 19) 2
abbrev N_floor : List Str := ["self", "step"]
theorem sc_floor : FnScope N_floor ["self", "step"] (defScope S_floor) := ⟨rfl, rfl, rfl, by decide +kernel, rfl, by decide +kernel, by decide +kernel⟩
abbrev S_finest : Stmt := inClass (top 19) 3
abbrev N_finest : List Str := ["self", "many"]
theorem sc_finest : FnScope N_finest ["self", "many"] (defScope S_finest) := ⟨rfl, rfl, rfl, by decide +kernel, rfl, by decide +kernel, by decide +kernel⟩
abbrev S_bstart : Stmt := inClass (top 19) 4
abbrev N_bstart : List Str := ["self"]
theorem sc_bstart : FnScope N_bstart ["self"] (defScope S_bstart) := ⟨rfl, rfl, rfl, by decide +kernel, rfl, by decide +kernel, by decide +kernel⟩
abbrev S_check : Stmt := inClass (top 19) 5
abbrev N_check : List Str := ["self", "step"]
theorem sc_check : FnScope N_check ["self", "step"] (defScope S_check) := ⟨rfl, rfl, rfl, by decide +kernel, rfl, by decide +kernel, by decide +kernel⟩
abbrev S_checkq : Stmt := top 20
abbrev N_checkq : List Str := ["q"]
theorem sc_checkq : FnScope N_checkq ["q"] (defScope S_checkq) := ⟨rfl, rfl, rfl, by decide +kernel, rfl, by decide +kernel, by decide +kernel⟩
abbrev S_digit : Stmt := top 22
abbrev N_digit : List Str := ["pot", "many", "found"]
theorem sc_digit : FnScope N_digit ["pot", "many"] (defScope S_digit) := ⟨rfl, rfl, rfl, by decide +kernel, rfl, by decide +kernel, by decide +kernel⟩
abbrev S_whole : Stmt := top 23
abbrev N_whole : List Str := ["told"]
theorem sc_whole : FnScope N_whole ["told"] (defScope S_whole) := ⟨rfl, rfl, rfl, by decide +kernel, rfl, by decide +kernel, by decide +kernel⟩
abbrev S_lgcd : Stmt := top 24
abbrev N_lgcd : List Str := ["one", "two", "k", "rest"]
theorem sc_lgcd : FnScope N_lgcd ["one", "two"] (defScope S_lgcd) := ⟨rfl, rfl, rfl, by decide +kernel, rfl, by decide +kernel, by decide +kernel⟩
abbrev S_read : Stmt := top 25
abbrev N_read : List Str := ["told", "top", "bottom"]
theorem sc_read : FnScope N_read ["told"] (defScope S_read) := ⟨rfl, rfl, rfl, by decide +kernel, rfl, by decide +kernel, by decide +kernel⟩
abbrev S_same : Stmt := top 26
abbrev N_same : List Str := ["told", "due", "pair"]
theorem sc_same : FnScope N_same ["told", "due"] (defScope S_same) := ⟨rfl, rfl, rfl, by decide +kernel, rfl, by decide +kernel, by decide +kernel⟩
abbrev S_drawq : Stmt := top 27
abbrev N_drawq : List Str := ["pot", "k", "kind", "bottom", "top", "fixed", "common"]
theorem sc_drawq : FnScope N_drawq ["pot", "k"] (defScope S_drawq) := ⟨rfl, rfl, rfl, by decide +kernel, rfl, by decide +kernel, by decide +kernel⟩
abbrev S_drawd : Stmt := top 28
abbrev N_drawd : List Str := ["pot", "k", "place", "far"]
theorem sc_drawd : FnScope N_drawd ["pot", "k"] (defScope S_drawd) := ⟨rfl, rfl, rfl, by decide +kernel, rfl, by decide +kernel, by decide +kernel⟩
abbrev S_made : Stmt := top 29
abbrev N_made : List Str := ["q", "dimension", "e", "kinds"]
theorem sc_made : FnScope N_made ["q", "dimension"] (defScope S_made) := ⟨rfl, rfl, rfl, by decide +kernel, rfl, by decide +kernel, by decide +kernel⟩
abbrev S_refused : Stmt := top 30
abbrev N_refused : List Str := ["bars", "place", "number", "e"]
theorem sc_refused : FnScope N_refused ["bars", "place", "number"] (defScope S_refused) := ⟨rfl, rfl, rfl, by decide +kernel, rfl, by decide +kernel, by decide +kernel⟩
abbrev S_fields : Stmt := top 31
abbrev N_fields : List Str := ["bars", "q", "dimension", "steps", "top", "bottom", "more", "less", "due", "way", "shift"]
theorem sc_fields : FnScope N_fields ["bars", "q", "dimension", "steps"] (defScope S_fields) := ⟨rfl, rfl, rfl, by decide +kernel, rfl, by decide +kernel, by decide +kernel⟩
abbrev S_equations : Stmt := top 32
abbrev N_equations : List Str := ["bars", "q", "step", "limit", "left", "factor", "bound"]
theorem sc_equations : FnScope N_equations ["bars", "q"] (defScope S_equations) := ⟨rfl, rfl, rfl, by decide +kernel, rfl, by decide +kernel, by decide +kernel⟩
abbrev S_every : Stmt := top 33
abbrev N_every : List Str := ["bars", "q", "dimension", "steps", "top", "bottom", "shift", "step", "way", "due"]
theorem sc_every : FnScope N_every ["bars", "q", "dimension", "steps"] (defScope S_every) := ⟨rfl, rfl, rfl, by decide +kernel, rfl, by decide +kernel, by decide +kernel⟩
abbrev S_lfinest : Stmt := top 34
abbrev N_lfinest : List Str := ["bars", "q", "dimension", "counts", "top", "bottom", "over", "many", "told", "due"]
theorem sc_lfinest : FnScope N_lfinest ["bars", "q", "dimension", "counts"] (defScope S_lfinest) := ⟨rfl, rfl, rfl, by decide +kernel, rfl, by decide +kernel, by decide +kernel⟩
abbrev S_count : Stmt := top 35
abbrev N_count : List Str := ["q", "dimension", "top"]
theorem sc_count : FnScope N_count ["q", "dimension"] (defScope S_count) := ⟨rfl, rfl, rfl, by decide +kernel, rfl, by decide +kernel, by decide +kernel⟩
abbrev S_good : Stmt := top 36
abbrev N_good : List Str := ["q", "dimension"]
theorem sc_good : FnScope N_good ["q", "dimension"] (defScope S_good) := ⟨rfl, rfl, rfl, by decide +kernel, rfl, by decide +kernel, by decide +kernel⟩
abbrev S_right : Stmt := top 37
abbrev N_right : List Str := ["told", "q", "dimension", "counts", "far", "bars", "steps", "place", "last", "number"]
theorem sc_right : FnScope N_right ["told", "q", "dimension", "counts", "far"] (defScope S_right) := ⟨rfl, rfl, rfl, by decide +kernel, rfl, by decide +kernel, by decide +kernel⟩
abbrev S_law : Stmt := top 38
abbrev N_law : List Str := ["script", "pot", "cell", "rows", "k", "q", "dimension", "times", "handed", "counts", "far", "row", "bars"]
theorem sc_law : FnScope N_law ["script"] (defScope S_law) := ⟨rfl, rfl, rfl, by decide +kernel, rfl, by decide +kernel, by decide +kernel⟩
structure Ad where
  C : Addr
  f_init : Addr
  d_init : FuncData
  Z : Addr
  CE : Addr
  Bq : Addr
  O : Addr
  B : Addr
  f_oob : Addr
  d_oob : FuncData
  f_bq : Addr
  d_bq : FuncData
  f_add : Addr
  d_add : FuncData
  f_sub : Addr
  d_sub : FuncData
  f_mul : Addr
  d_mul : FuncData
  f_divided : Addr
  d_divided : FuncData
  f_compare : Addr
  d_compare : FuncData
  f_up : Addr
  d_up : FuncData
  f_binit : Addr
  d_binit : FuncData
  f_ceiling : Addr
  d_ceiling : FuncData
  f_floor : Addr
  d_floor : FuncData
  f_finest : Addr
  d_finest : FuncData
  f_bstart : Addr
  d_bstart : FuncData
  f_check : Addr
  d_check : FuncData
  f_checkq : Addr
  d_checkq : FuncData
  f_digit : Addr
  d_digit : FuncData
  f_whole : Addr
  d_whole : FuncData
  f_lgcd : Addr
  d_lgcd : FuncData
  f_read : Addr
  d_read : FuncData
  f_same : Addr
  d_same : FuncData
  f_drawq : Addr
  d_drawq : FuncData
  f_drawd : Addr
  d_drawd : FuncData
  f_made : Addr
  d_made : FuncData
  f_refused : Addr
  d_refused : FuncData
  f_fields : Addr
  d_fields : FuncData
  f_equations : Addr
  d_equations : FuncData
  f_every : Addr
  d_every : FuncData
  f_lfinest : Addr
  d_lfinest : FuncData
  f_count : Addr
  d_count : FuncData
  f_good : Addr
  d_good : FuncData
  f_right : Addr
  d_right : FuncData
  f_law : Addr
  d_law : FuncData
structure Txt (K : PySem.W.Frag) (mg : Str → Option Value) (A : Ad) : Prop where
  hn : PySem.W.specialIn K (.builtin "object.__class__") "__get__" = some (some (.builtin "getset_descriptor.__get__"))
  htk : PySem.W.takesIn K (.builtin "object.__class__") = some true
  cl : Cls K A.C
  nT : NoAttr K A.C "top"
  nB : NoAttr K A.C "bottom"
  mkC : Mk K A.C A.f_init
  ha : PySem.W.findIn K (.ref A.C) "__class__" = some (some (.builtin "object.__class__"))
  hm : PySem.W.mroIn K A.C (.type "object") = some true
  F_init : FunD K "__init__" "Ratio.__init__" (defArgs S_init) (defBody S_init) (defScope S_init) [.int 1] [] A.f_init A.d_init
  b_init3 : Binds K A.d_init ["self", "top", "bottom"] []
  b_init2 : ∃ ds, Vals [V.int 1] ds ∧ Binds K A.d_init ["self", "top", "bottom"] ds
  g_Ratio : mg "Ratio" = some (.ref A.C)
  g_gcd : mg "gcd" = some (.builtin "math.gcd")
  sf : PySem.W.selfFirst K A.C = true
  g_Z : mg "ZeroBottom" = some (.ref A.Z)
  xZ : PySem.W.excIn K A.Z [.type "ValueError", .type "Exception", .type "BaseException", .type "object"] "ValueError.__new__" = true
  kZ : PySem.W.keepIn K (.ref A.Z) = true
  bZ : PySem.W.subIn K (.ref A.Z) (.type "BaseException") = some true
  tZ : PySem.W.typeIn K (.ref A.Z) = some (.type "type")
  g_CE : mg "CarryError" = some (.ref A.CE)
  g_Bq : mg "BadQ" = some (.ref A.Bq)
  o_Bq : OexC K A.Bq
  in_Bq : PySem.W.findIn K (.ref A.Bq) "__init__" = some (some (.ref A.f_bq))
  ti_Bq : PySem.W.typeIn K (.ref A.f_bq) = some (.type "function")
  xf_Bq : XfC K A.Bq
  e_Bq : PySem.W.exmOne K (.ref A.Bq) (.ref A.CE) = some true
  X_Bq : ExcC K A.Bq
  v_Bq : PySem.W.kitOne K (.ref A.Bq) (.type "ValueError") = some true
  n_Bq_q : PySem.W.findIn K (.ref A.Bq) "q" = some none
  g_O : mg "OutOfBounds" = some (.ref A.O)
  o_O : OexC K A.O
  in_O : PySem.W.findIn K (.ref A.O) "__init__" = some (some (.ref A.f_oob))
  ti_O : PySem.W.typeIn K (.ref A.f_oob) = some (.type "function")
  xf_O : XfC K A.O
  e_O : PySem.W.exmOne K (.ref A.O) (.ref A.CE) = some true
  X_O : ExcC K A.O
  v_O : PySem.W.kitOne K (.ref A.O) (.type "ValueError") = some true
  n_O_value : PySem.W.findIn K (.ref A.O) "value" = some none
  bqNo : PySem.W.kitOne K (.ref A.Bq) (.ref A.O) = some false
  oNbq : PySem.W.kitOne K (.ref A.O) (.ref A.Bq) = some false
  c_B : Cls K A.B
  mk_B : Mk K A.B A.f_binit
  ha_B : PySem.W.findIn K (.ref A.B) "__class__" = some (some (.builtin "object.__class__"))
  hm_B : PySem.W.mroIn K A.B (.type "object") = some true
  g_Bars : mg "Bars" = some (.ref A.B)
  na_B_q : NoAttr K A.B "q"
  na_B_dimension : NoAttr K A.B "dimension"
  na_B_steps : NoAttr K A.B "steps"
  na_B_ceiling_step : NoAttr K A.B "ceiling_step"
  na_B_floor_step : NoAttr K A.B "floor_step"
  na_B_ceiling_limit : NoAttr K A.B "ceiling_limit"
  na_B_floor_limit : NoAttr K A.B "floor_limit"
  na_B_bound : NoAttr K A.B "bound"
  na_B_factor : NoAttr K A.B "factor"
  gi_MOST_Q : ∃ tk, mg "_MOST_Q" = some (.int 4 tk)
  gi_MOST_Q_BOTTOM : ∃ tk, mg "_MOST_Q_BOTTOM" = some (.int 12 tk)
  gi_MOST_DIMENSION : ∃ tk, mg "_MOST_DIMENSION" = some (.int 12 tk)
  gi_MOST_MANY : ∃ tk, mg "_MOST_MANY" = some (.int 200 tk)
  neBC : A.B ≠ A.C
  n_len : mg "len" = none
  n_abs : mg "abs" = none
  n_int : mg "int" = none
  n_bool : mg "bool" = none
  n_isinstance : mg "isinstance" = none
  n_range : mg "range" = none
  n_ValueError : mg "ValueError" = none
  F_oob : Fun K "__init__" "OutOfBounds.__init__" S_oob A.f_oob A.d_oob
  b_oob : Binds K A.d_oob ["self", "value"] []
  m_oob : Meth K A.O "__init__" A.f_oob
  F_bq : Fun K "__init__" "BadQ.__init__" S_bq A.f_bq A.d_bq
  b_bq : Binds K A.d_bq ["self", "q"] []
  m_bq : Meth K A.Bq "__init__" A.f_bq
  F_add : Fun K "__add__" "Ratio.__add__" S_add A.f_add A.d_add
  b_add : Binds K A.d_add ["self", "other"] []
  m_add : Meth K A.C "__add__" A.f_add
  F_sub : Fun K "__sub__" "Ratio.__sub__" S_sub A.f_sub A.d_sub
  b_sub : Binds K A.d_sub ["self", "other"] []
  m_sub : Meth K A.C "__sub__" A.f_sub
  F_mul : Fun K "__mul__" "Ratio.__mul__" S_mul A.f_mul A.d_mul
  b_mul : Binds K A.d_mul ["self", "other"] []
  m_mul : Meth K A.C "__mul__" A.f_mul
  F_divided : Fun K "divided" "Ratio.divided" S_divided A.f_divided A.d_divided
  b_divided : Binds K A.d_divided ["self", "other"] []
  m_divided : Meth K A.C "divided" A.f_divided
  F_compare : Fun K "compare" "Ratio.compare" S_compare A.f_compare A.d_compare
  b_compare : Binds K A.d_compare ["self", "other"] []
  m_compare : Meth K A.C "compare" A.f_compare
  F_up : Fun K "rounded_up" "Ratio.rounded_up" S_up A.f_up A.d_up
  b_up : Binds K A.d_up ["self"] []
  m_up : Meth K A.C "rounded_up" A.f_up
  F_binit : Fun K "__init__" "Bars.__init__" S_binit A.f_binit A.d_binit
  b_binit : Binds K A.d_binit ["self", "q", "dimension"] []
  m_binit : Meth K A.B "__init__" A.f_binit
  F_ceiling : Fun K "ceiling" "Bars.ceiling" S_ceiling A.f_ceiling A.d_ceiling
  b_ceiling : Binds K A.d_ceiling ["self", "step"] []
  m_ceiling : Meth K A.B "ceiling" A.f_ceiling
  F_floor : Fun K "floor" "Bars.floor" S_floor A.f_floor A.d_floor
  b_floor : Binds K A.d_floor ["self", "step"] []
  m_floor : Meth K A.B "floor" A.f_floor
  F_finest : Fun K "finest" "Bars.finest" S_finest A.f_finest A.d_finest
  b_finest : Binds K A.d_finest ["self", "many"] []
  m_finest : Meth K A.B "finest" A.f_finest
  F_bstart : Fun K "_start" "Bars._start" S_bstart A.f_bstart A.d_bstart
  b_bstart : Binds K A.d_bstart ["self"] []
  m_bstart : Meth K A.B "_start" A.f_bstart
  F_check : Fun K "_check_step" "Bars._check_step" S_check A.f_check A.d_check
  b_check : Binds K A.d_check ["self", "step"] []
  m_check : Meth K A.B "_check_step" A.f_check
  F_checkq : Fun K "check_q" "check_q" S_checkq A.f_checkq A.d_checkq
  b_checkq : Binds K A.d_checkq ["q"] []
  g_checkq : mg "check_q" = some (.ref A.f_checkq)
  F_digit : Fun K "_law_digit" "_law_digit" S_digit A.f_digit A.d_digit
  b_digit : Binds K A.d_digit ["pot", "many"] []
  g_digit : mg "_law_digit" = some (.ref A.f_digit)
  F_whole : Fun K "_law_whole" "_law_whole" S_whole A.f_whole A.d_whole
  b_whole : Binds K A.d_whole ["told"] []
  g_whole : mg "_law_whole" = some (.ref A.f_whole)
  F_lgcd : Fun K "_law_gcd" "_law_gcd" S_lgcd A.f_lgcd A.d_lgcd
  b_lgcd : Binds K A.d_lgcd ["one", "two"] []
  g_lgcd : mg "_law_gcd" = some (.ref A.f_lgcd)
  F_read : Fun K "_law_read" "_law_read" S_read A.f_read A.d_read
  b_read : Binds K A.d_read ["told"] []
  g_read : mg "_law_read" = some (.ref A.f_read)
  F_same : Fun K "_law_same" "_law_same" S_same A.f_same A.d_same
  b_same : Binds K A.d_same ["told", "due"] []
  g_same : mg "_law_same" = some (.ref A.f_same)
  F_drawq : Fun K "_law_draw_q" "_law_draw_q" S_drawq A.f_drawq A.d_drawq
  b_drawq : Binds K A.d_drawq ["pot", "k"] []
  g_drawq : mg "_law_draw_q" = some (.ref A.f_drawq)
  F_drawd : Fun K "_law_draw_dimension" "_law_draw_dimension" S_drawd A.f_drawd A.d_drawd
  b_drawd : Binds K A.d_drawd ["pot", "k"] []
  g_drawd : mg "_law_draw_dimension" = some (.ref A.f_drawd)
  F_made : Fun K "_law_made" "_law_made" S_made A.f_made A.d_made
  b_made : Binds K A.d_made ["q", "dimension"] []
  g_made : mg "_law_made" = some (.ref A.f_made)
  F_refused : Fun K "_law_refused" "_law_refused" S_refused A.f_refused A.d_refused
  b_refused : Binds K A.d_refused ["bars", "place", "number"] []
  g_refused : mg "_law_refused" = some (.ref A.f_refused)
  F_fields : Fun K "_law_fields" "_law_fields" S_fields A.f_fields A.d_fields
  b_fields : Binds K A.d_fields ["bars", "q", "dimension", "steps"] []
  g_fields : mg "_law_fields" = some (.ref A.f_fields)
  F_equations : Fun K "_law_equations" "_law_equations" S_equations A.f_equations A.d_equations
  b_equations : Binds K A.d_equations ["bars", "q"] []
  g_equations : mg "_law_equations" = some (.ref A.f_equations)
  F_every : Fun K "_law_every_step" "_law_every_step" S_every A.f_every A.d_every
  b_every : Binds K A.d_every ["bars", "q", "dimension", "steps"] []
  g_every : mg "_law_every_step" = some (.ref A.f_every)
  F_lfinest : Fun K "_law_finest" "_law_finest" S_lfinest A.f_lfinest A.d_lfinest
  b_lfinest : Binds K A.d_lfinest ["bars", "q", "dimension", "counts"] []
  g_lfinest : mg "_law_finest" = some (.ref A.f_lfinest)
  F_count : Fun K "_law_count_steps" "_law_count_steps" S_count A.f_count A.d_count
  b_count : Binds K A.d_count ["q", "dimension"] []
  g_count : mg "_law_count_steps" = some (.ref A.f_count)
  F_good : Fun K "_law_good" "_law_good" S_good A.f_good A.d_good
  b_good : Binds K A.d_good ["q", "dimension"] []
  g_good : mg "_law_good" = some (.ref A.f_good)
  F_right : Fun K "_law_right" "_law_right" S_right A.f_right A.d_right
  b_right : Binds K A.d_right ["told", "q", "dimension", "counts", "far"] []
  g_right : mg "_law_right" = some (.ref A.f_right)
  F_law : Fun K "law" "law" S_law A.f_law A.d_law
  b_law : Binds K A.d_law ["script"] []
  g_law : mg "law" = some (.ref A.f_law)
section
variable {P : Program} {w : World} {K : PySem.W.Frag} {mg : Str → Option Value} {base : Heap} {A : Ad}
/-! ### Ratio.__init__: raises for a bottom 0, else lowest terms -/
def spInit (A : Ad) : Sp := fun vs H Q E => ∃ (x dx : Addr) (t b : Int), vs = [.ref x, .int t, .int b] ∧ H x = some (.ins A.C dx []) ∧ (b = 0 → E (.ref A.Z) none H) ∧
  (b ≠ 0 → Bd 8900 b ∧ ∀ H', RatAt A.C H' x (lo t b) → (∀ c o, H c = some o → c ≠ x → H' c = some o) → Q .non H')
theorem ok_init (T : Txt K mg A) : FnOk P w K mg base (L2.CX P w) 1 A.f_init A.d_init ["self", "top", "bottom"] (spInit A) := by
  refine T.F_init.ok sc_init (fun vs H Q E h => ?_) (fun cdv Ar outer s H vs Q E hr h => ?_)
  · obtain ⟨x, dx, t, b, rfl, _⟩ := h
    rfl
  · obtain ⟨x, dx, t, b, rfl, hx, k0, k1⟩ := h
    refine ⟨_, (pss_cons (ps_if (pt_cmpR op_eq (pv 2) pe_int (nomark _))
      (pss_one (ps_raise rfl (takes_of rfl rfl rfl rfl) (pmk_bare PySem.F.excBase_ValueError T.xZ T.g_Z T.kZ (raises_own T.bZ T.tZ) rfl))) pss_nil)
      (pss_cons (ps_set (i := 3) sc_init.nd rfl (Or.inl rfl) (pe_callBfun cr_gcd rfl T.g_gcd (pa_cons (pv 1) (pa_cons (pv 2) pa_nil))))
      (pss_cons (ps_if (pt_cmpR op_lt (pv 2) pe_int (nomark _))
      (pss_one (ps_set (i := 3) sc_init.nd rfl (Or.inl rfl) (pe_un un_neg (pv 3)))) pss_nil)
      (pss_cons (ps_fld (pv 0) (pe_op op_fdv (pv 1) (pv 3)) rfl)
      (pss_one (ps_fld (pv 0) (pe_op op_fdv (pv 2) (pv 3)) rfl)))))), ?_⟩
    refine ⟨_, rfl, rfl, _, rfl, ?_⟩
    by_cases hb : b = 0
    · refine ite2 (fun _ => k0 hb) (fun n => absurd (by rw [hb] <;> rfl) n)
    refine ite2 (fun z => absurd (V.int.inj (of_decide_eq_true z)) hb) (fun _ => ?_)
    obtain ⟨bb, k⟩ := k1 hb
    have g := gcd_pos (t := t) hb
    have gn : ((Nat.gcd t.natAbs b.natAbs : Nat) : Int) = (Int.gcd t b : Int) := rfl
    have gb : Bd 8900 (Int.gcd t b : Int) := by
      refine bb.abs ?_
      have := Nat.le_of_dvd (by omega : 0 < b.natAbs) (Nat.gcd_dvd_right t.natAbs b.natAbs)
      show ((Nat.gcd t.natAbs b.natAbs : Nat) : Int).natAbs ≤ _
      omega
    have lp := lo_prog (t := t) hb
    refine ⟨_, rfl, _, rfl, t, b, rfl, _, rfl, _, _, rfl, rfl, _, rfl, ?_⟩
    have fin : ∀ d : Int, d ≠ 0 → Bd 8900 d → lo t b = (t.fdiv d, b.fdiv d) → ∀ H2 : Hp, H2 = upd (upd H x (.ins A.C dx (putF "top" (.int (t.fdiv d)) []))) x (.ins A.C dx (putF "bottom" (.int (b.fdiv d)) (putF "top" (.int (t.fdiv d)) []))) → Q .non H2 := by
      intro d d0 db e H2 e2
      refine k H2 ⟨dx, ?_⟩ fun c o hc hn => ?_
      · rw [e2, upd_same, rf_put, e]
      · rw [e2, upd_ne hn, upd_ne hn]; exact hc
    refine ite2 (fun c => ?_) (fun c => ?_)
    · have c' : b < 0 := of_decide_eq_true c
      rw [if_pos c'] at lp
      refine ⟨_, rfl, _, rfl, _, rfl, _, rfl, _, _, rfl, rfl, gb.neg.fdv (by omega), _, rfl, x, A.C, dx, _, rfl, hx, T.cl, T.nT, (by show 0 < 1000; decide), ?_⟩
      refine ⟨_, rfl, _, rfl, _, _, rfl, rfl, gb.neg.fdv (by omega), _, rfl, x, A.C, dx, _, rfl, upd_same, T.cl, T.nB, (by show 1 < 1000; decide), ?_⟩
      exact fin _ (by omega) gb.neg lp _ rfl
    · have c' : ¬ b < 0 := fun z => c (decide_eq_true z)
      rw [if_neg c'] at lp
      refine ⟨_, rfl, _, rfl, _, _, rfl, rfl, gb.fdv (by omega), _, rfl, x, A.C, dx, _, rfl, hx, T.cl, T.nT, (by show 0 < 1000; decide), ?_⟩
      refine ⟨_, rfl, _, rfl, _, _, rfl, rfl, gb.fdv (by omega), _, rfl, x, A.C, dx, _, rfl, upd_same, T.cl, T.nB, (by show 1 < 1000; decide), ?_⟩
      exact fin _ (by omega) gb lp _ rfl
/-- Ratio(t, b) read: for b not 0 -/
theorem rd_make {t b : Int} {H : Hp} {Q : VK} {E : XK} (hb : b ≠ 0) (bb : Bd 8900 b) (k : ∀ x H', Ex H H' → H x = none → RatAt A.C H' x (lo t b) → Q (.ref x) H') :
    ∀ x dx, H x = none → H dx = none → dx ≠ x → spInit A [.ref x, .int t, .int b] (upd (upd H dx (.own x)) x (.ins A.C dx [])) (fun v H2 => v = .non ∧ Q (.ref x) H2) E :=
  fun x dx nx nd ne => ⟨x, dx, t, b, rfl, upd_same, fun z => absurd z hb, fun _ => ⟨bb, fun H' r kp => ⟨rfl, k x H' (Same.made nx nd kp) nx r⟩⟩⟩
def spCmp (C : Addr) : Sp := fun vs H Q _ => ∃ (a b : Addr) (x y : Rat), vs = [.ref a, .ref b] ∧ RatV C H 2001 a x ∧ RatV C H 2001 b y ∧ Q (.int (cmpR x y)) H
theorem ok_compare (T : Txt K mg A) : FnOk P w K mg base CX0 1 A.f_compare A.d_compare ["self", "other"] (spCmp A.C) := by
  refine T.F_compare.ok sc_compare (fun vs H Q E h => ?_) (fun cdv Ar outer s H vs Q E hr h => ?_)
  · obtain ⟨a, b, x, y, rfl, _⟩ := h
    rfl
  · obtain ⟨a, b, x, y, rfl, ⟨p, ⟨dx, ha⟩, sp, cp, rfl⟩, ⟨q, ⟨dy, hb⟩, sq, cq, rfl⟩, k⟩ := h
    refine ⟨_, (pss_cons (ps_set (i := 2) sc_compare.nd rfl (Or.inl rfl) (pe_op op_mulW (pe_fld (pv 0) rfl) (pe_fld (pv 1) rfl)))
      (pss_cons (ps_set (i := 3) sc_compare.nd rfl (Or.inl rfl) (pe_op op_mulW (pe_fld (pv 1) rfl) (pe_fld (pv 0) rfl)))
      (pss_cons (ps_if (pt_cmpR op_lt (pv 2) (pv 3) (nomark _))
      (pss_one (ps_ret (pe_un un_neg pe_int))) pss_nil)
      (pss_one (ps_ret (pe_ifExp (pt_cmpR op_gt (pv 2) (pv 3) (nomark _)) pe_int pe_int)))))), ?_⟩
    refine ⟨_, rfl, _, _, _, _, _, rfl, ha, T.cl, T.nT, rf_top _, _, rfl, _, _, _, _, _, rfl, hb, T.cl, T.nB, rf_bot _, _, _, rfl, rfl, sp.t.w sq.b, _, rfl, _, _, _, _, _, rfl, hb, T.cl, T.nT, rf_top _, _, rfl, _, _, _, _, _, rfl, ha, T.cl, T.nB, rf_bot _, _, _, rfl, rfl, sq.t.w sp.b, _, rfl, _, rfl, _, _, rfl, rfl, _, rfl, ?_⟩
    unfold cmpR at k
    by_cases c : p.1 * q.2 < q.1 * p.2
    · rw [if_pos ((vl_lt sp.pos sq.pos).mpr c)] at k
      exact ite2 (fun _ => ⟨_, rfl, k⟩) (fun n => absurd (decide_eq_true c) n)
    · rw [if_neg (fun z => c ((vl_lt sp.pos sq.pos).mp z))] at k
      refine ite2 (fun z => absurd (of_decide_eq_true z) c) (fun _ => ?_)
      refine ⟨_, rfl, _, rfl, _, _, rfl, rfl, _, rfl, ?_⟩
      by_cases d : q.1 * p.2 < p.1 * q.2
      · rw [if_pos ((vl_lt sq.pos sp.pos).mpr d)] at k
        exact ite2 (fun _ => k) (fun n => absurd (decide_eq_true d) n)
      · rw [if_neg (fun z => d ((vl_lt sq.pos sp.pos).mp z))] at k
        exact ite2 (fun z => absurd (of_decide_eq_true z) d) (fun _ => k)
theorem np_compare (r : Int × Int) : (rf r).lookup ("compare" : Str) = none := rf_no _ (by decide +kernel) (by decide +kernel)
theorem np_divided (r : Int × Int) : (rf r).lookup ("divided" : Str) = none := rf_no _ (by decide +kernel) (by decide +kernel)
theorem np_up (r : Int × Int) : (rf r).lookup ("rounded_up" : Str) = none := rf_no _ (by decide +kernel) (by decide +kernel)
/-! ### operations, of any size -/
def spBin (C : Addr) (G : Rat → Prop) (f : Rat → Rat → Rat) : Sp := fun vs H Q _ => ∃ (a b : Addr) (x y : Rat) (n m : Nat), vs = [.ref a, .ref b] ∧ RatV C H n a x ∧ RatV C H m b y ∧ 0 < n ∧ 0 < m ∧ n + m ≤ 4000 ∧ G y ∧
  ∀ c H', Ex H H' → H c = none → RatV C H' (n + m + 1) c (f x y) → Q (.ref c) H'
theorem rd_own {C : Addr} {G : Rat → Prop} {f : Rat → Rat → Rat} {a b : Addr} {x y : Rat} {H : Hp} {Q : VK} {E : XK} (n m : Nat) (ha : RatV C H n a x) (hb : RatV C H m b y) (n0 : 0 < n) (m0 : 0 < m) (l : n + m ≤ 4000) (g : G y)
    (k : ∀ c H', Ex H H' → H c = none → RatV C H' (n + m + 1) c (f x y) → Q (.ref c) H') : rOwn C (spBin C G f) E (.ref a) (.ref b) H Q := by
  obtain ⟨p, ⟨dx, h1⟩, rp⟩ := id ha
  obtain ⟨q, ⟨dy, h2⟩, rq⟩ := id hb
  exact ⟨a, b, dx, dy, _, _, rfl, rfl, h1, h2, a, b, x, y, n, m, rfl, ha, hb, n0, m0, l, g, k⟩
theorem ok_add (T : Txt K mg A) : FnOk P w K mg base CX0 3 A.f_add A.d_add ["self", "other"] (spBin A.C (fun _ => True) fun x y => x + y) := by
  refine T.F_add.ok sc_add (fun vs H Q E h => ?_) (fun cdv Ar outer s H vs Q E hr h => ?_)
  · obtain ⟨a, b, x, y, n, m, rfl, _⟩ := h
    rfl
  · obtain ⟨a, b, x, y, n, m, rfl, ⟨p, ⟨dx, ha⟩, sp, cp, rfl⟩, ⟨q, ⟨dy, hb⟩, sq, cq, rfl⟩, n0, m0, l, _, k⟩ := h
    refine ⟨_, (pss_cons (ps_set (i := 2) sc_add.nd rfl (Or.inl rfl) (pe_op op_add (pe_op op_mulW (pe_fld (pv 0) rfl) (pe_fld (pv 1) rfl)) (pe_op op_mulW (pe_fld (pv 1) rfl) (pe_fld (pv 0) rfl))))
      (pss_one (ps_ret (pe_make T.mkC (ok_init T) (hr.mono (by decide)) rfl T.g_Ratio T.b_init3 .nil passL (pa_cons (pv 2) (pa_cons (pe_op op_mulW (pe_fld (pv 0) rfl) (pe_fld (pv 1) rfl)) pa_nil)))))), ?_⟩
    refine ⟨_, rfl, _, _, _, _, _, rfl, ha, T.cl, T.nT, rf_top _, _, rfl, _, _, _, _, _, rfl, hb, T.cl, T.nB, rf_bot _, _, _, rfl, rfl, sp.t.w sq.b n0 m0 (by omega), _, rfl, _, _, _, _, _, rfl, hb, T.cl, T.nT, rf_top _, _, rfl, _, _, _, _, _, rfl, ha, T.cl, T.nB, rf_bot _, _, _, rfl, rfl, sq.t.w sp.b m0 n0 (by omega), _, _, rfl, rfl, _, rfl, _, rfl, _, _, _, _, _, rfl, ha, T.cl, T.nB, rf_bot _, _, rfl, _, _, _, _, _, rfl, hb, T.cl, T.nB, rf_bot _, _, _, rfl, rfl, sp.b.w sq.b n0 m0 (by omega), ?_⟩
    have bb := sp.b.mul sq.b
    exact rd_make (sp.nn sq) (bb.mono (by omega)) fun c H' ex nc r => k c H' ex nc (.lo r ((sp.t.mul sq.b).add ((sq.t.mul sp.b).mono (by omega))) (bb.mono (by omega)) (sp.nn sq) (v_add sp.ne sq.ne))
theorem ok_sub (T : Txt K mg A) : FnOk P w K mg base CX0 3 A.f_sub A.d_sub ["self", "other"] (spBin A.C (fun _ => True) fun x y => x - y) := by
  refine T.F_sub.ok sc_sub (fun vs H Q E h => ?_) (fun cdv Ar outer s H vs Q E hr h => ?_)
  · obtain ⟨a, b, x, y, n, m, rfl, _⟩ := h
    rfl
  · obtain ⟨a, b, x, y, n, m, rfl, ⟨p, ⟨dx, ha⟩, sp, cp, rfl⟩, ⟨q, ⟨dy, hb⟩, sq, cq, rfl⟩, n0, m0, l, _, k⟩ := h
    refine ⟨_, (pss_cons (ps_set (i := 2) sc_sub.nd rfl (Or.inl rfl) (pe_op op_sub (pe_op op_mulW (pe_fld (pv 0) rfl) (pe_fld (pv 1) rfl)) (pe_op op_mulW (pe_fld (pv 1) rfl) (pe_fld (pv 0) rfl))))
      (pss_one (ps_ret (pe_make T.mkC (ok_init T) (hr.mono (by decide)) rfl T.g_Ratio T.b_init3 .nil passL (pa_cons (pv 2) (pa_cons (pe_op op_mulW (pe_fld (pv 0) rfl) (pe_fld (pv 1) rfl)) pa_nil)))))), ?_⟩
    refine ⟨_, rfl, _, _, _, _, _, rfl, ha, T.cl, T.nT, rf_top _, _, rfl, _, _, _, _, _, rfl, hb, T.cl, T.nB, rf_bot _, _, _, rfl, rfl, sp.t.w sq.b n0 m0 (by omega), _, rfl, _, _, _, _, _, rfl, hb, T.cl, T.nT, rf_top _, _, rfl, _, _, _, _, _, rfl, ha, T.cl, T.nB, rf_bot _, _, _, rfl, rfl, sq.t.w sp.b m0 n0 (by omega), _, _, rfl, rfl, _, rfl, _, rfl, _, _, _, _, _, rfl, ha, T.cl, T.nB, rf_bot _, _, rfl, _, _, _, _, _, rfl, hb, T.cl, T.nB, rf_bot _, _, _, rfl, rfl, sp.b.w sq.b n0 m0 (by omega), ?_⟩
    have bb := sp.b.mul sq.b
    exact rd_make (sp.nn sq) (bb.mono (by omega)) fun c H' ex nc r => k c H' ex nc (.lo r ((sp.t.mul sq.b).sub ((sq.t.mul sp.b).mono (by omega))) (bb.mono (by omega)) (sp.nn sq) (v_sub sp.ne sq.ne))
theorem ok_mul (T : Txt K mg A) : FnOk P w K mg base CX0 3 A.f_mul A.d_mul ["self", "other"] (spBin A.C (fun _ => True) fun x y => x * y) := by
  refine T.F_mul.ok sc_mul (fun vs H Q E h => ?_) (fun cdv Ar outer s H vs Q E hr h => ?_)
  · obtain ⟨a, b, x, y, n, m, rfl, _⟩ := h
    rfl
  · obtain ⟨a, b, x, y, n, m, rfl, ⟨p, ⟨dx, ha⟩, sp, cp, rfl⟩, ⟨q, ⟨dy, hb⟩, sq, cq, rfl⟩, n0, m0, l, _, k⟩ := h
    refine ⟨_, (pss_one (ps_ret (pe_make T.mkC (ok_init T) (hr.mono (by decide)) rfl T.g_Ratio T.b_init3 .nil passL (pa_cons (pe_op op_mulW (pe_fld (pv 0) rfl) (pe_fld (pv 1) rfl)) (pa_cons (pe_op op_mulW (pe_fld (pv 0) rfl) (pe_fld (pv 1) rfl)) pa_nil))))), ?_⟩
    refine ⟨_, rfl, _, _, _, _, _, rfl, ha, T.cl, T.nT, rf_top _, _, rfl, _, _, _, _, _, rfl, hb, T.cl, T.nT, rf_top _, _, _, rfl, rfl, sp.t.w sq.t n0 m0 (by omega), _, rfl, _, _, _, _, _, rfl, ha, T.cl, T.nB, rf_bot _, _, rfl, _, _, _, _, _, rfl, hb, T.cl, T.nB, rf_bot _, _, _, rfl, rfl, sp.b.w sq.b n0 m0 (by omega), ?_⟩
    have bb := sp.b.mul sq.b
    exact rd_make (sp.nn sq) (bb.mono (by omega)) fun c H' ex nc r => k c H' ex nc (.lo r ((sp.t.mul sq.t).mono (by omega)) (bb.mono (by omega)) (sp.nn sq) (v_mul sp.ne sq.ne))
theorem ok_divided (T : Txt K mg A) : FnOk P w K mg base CX0 3 A.f_divided A.d_divided ["self", "other"] (spBin A.C (fun y => y ≠ 0) fun x y => x / y) := by
  refine T.F_divided.ok sc_divided (fun vs H Q E h => ?_) (fun cdv Ar outer s H vs Q E hr h => ?_)
  · obtain ⟨a, b, x, y, n, m, rfl, _⟩ := h
    rfl
  · obtain ⟨a, b, x, y, n, m, rfl, ⟨p, ⟨dx, ha⟩, sp, cp, rfl⟩, ⟨q, ⟨dy, hb⟩, sq, cq, rfl⟩, n0, m0, l, nz, k⟩ := h
    refine ⟨_, (pss_one (ps_ret (pe_make T.mkC (ok_init T) (hr.mono (by decide)) rfl T.g_Ratio T.b_init3 .nil passL (pa_cons (pe_op op_mulW (pe_fld (pv 0) rfl) (pe_fld (pv 1) rfl)) (pa_cons (pe_op op_mulW (pe_fld (pv 0) rfl) (pe_fld (pv 1) rfl)) pa_nil))))), ?_⟩
    have q0 : q.1 ≠ 0 := fun z => nz ((v_zero sq.ne).mpr z)
    have bb := sp.b.mul sq.t
    refine ⟨_, rfl, _, _, _, _, _, rfl, ha, T.cl, T.nT, rf_top _, _, rfl, _, _, _, _, _, rfl, hb, T.cl, T.nB, rf_bot _, _, _, rfl, rfl, sp.t.w sq.b n0 m0 (by omega), _, rfl, _, _, _, _, _, rfl, ha, T.cl, T.nB, rf_bot _, _, rfl, _, _, _, _, _, rfl, hb, T.cl, T.nT, rf_top _, _, _, rfl, rfl, sp.b.w sq.t n0 m0 (by omega), ?_⟩
    exact rd_make (Int.mul_ne_zero sp.ne q0) (bb.mono (by omega)) fun c H' ex nc r => k c H' ex nc (.lo r ((sp.t.mul sq.b).mono (by omega)) (bb.mono (by omega)) (Int.mul_ne_zero sp.ne q0) (v_div sp.ne sq.ne q0))
/-- the least whole number that is not below r -/
structure Cl (r : Rat) (z : Int) : Prop where
  ge : r ≤ (z : Rat)
  lt : (z : Rat) < r + 1
theorem Cl.one {r : Rat} {y z : Int} (a : Cl r y) (b : Cl r z) : y = z := by
  have h1 : (y : Rat) < (z : Rat) + 1 := by have := a.lt; have := b.ge; grind
  have h2 : (z : Rat) < (y : Rat) + 1 := by have := b.lt; have := a.ge; grind
  have e1 : (y : Rat) < ((z + 1 : Int) : Rat) := by rw [Rat.intCast_add]; exact h1
  have e2 : (z : Rat) < ((y + 1 : Int) : Rat) := by rw [Rat.intCast_add]; exact h2
  have f1 := Rat.intCast_lt_intCast.mp e1
  have f2 := Rat.intCast_lt_intCast.mp e2
  omega
theorem cl_of {t b : Int} (b0 : 0 < b) {r : Rat} (h : (t : Rat) / (b : Rat) = r) : Cl r (-(-t / b)) := by
  have h1 := Int.emod_add_mul_ediv (-t) b
  have h2 := Int.emod_nonneg (-t) (by omega : b ≠ 0)
  have h3 := Int.emod_lt_of_pos (-t) b0
  have e : (t : Rat) = r * (b : Rat) := by have := cast_ne (show b ≠ 0 by omega); grind
  have bp := cast_pos b0
  have l1 : t ≤ -(-t / b) * b := by rw [Int.neg_mul, Int.mul_comm (-t / b) b]; omega
  have l2 : (-(-t / b) - 1) * b < t := by rw [Int.sub_mul, Int.neg_mul, Int.mul_comm (-t / b) b]; omega
  generalize -(-t / b) = z at l1 l2
  have m1 := Rat.intCast_le_intCast.mpr l1
  have m2 := Rat.intCast_lt_intCast.mpr l2
  rw [Rat.intCast_mul, e] at m1
  rw [Rat.intCast_mul, Rat.intCast_sub, e] at m2
  have m2' : ((z : Rat) - 1) * (b : Rat) < r * (b : Rat) := m2
  constructor
  · rcases (Rat.le_total (a := r) (b := (z : Rat))) with q | q
    · exact q
    · have := Rat.mul_le_mul_of_nonneg_right q (c := (b : Rat)) (by grind)
      have e2 : (r - (z : Rat)) * (b : Rat) = 0 := by grind
      have := (Rat.mul_eq_zero.mp e2).resolve_right (by grind)
      grind
  · rcases (Rat.le_total (a := r + 1) (b := (z : Rat))) with q | q
    · have := Rat.mul_le_mul_of_nonneg_right q (c := (b : Rat)) (by grind)
      grind
    · by_cases eq : (z : Rat) = r + 1
      · rw [eq] at m2'
        grind
      · grind
def spUp (C : Addr) : Sp := fun vs H Q _ => ∃ (a : Addr) (x : Rat), vs = [.ref a] ∧ RatV C H 2000 a x ∧ ∀ z : Int, Cl x z → Q (.int z) H
theorem ok_up (T : Txt K mg A) : FnOk P w K mg base CX0 1 A.f_up A.d_up ["self"] (spUp A.C) := by
  refine T.F_up.ok sc_up (fun vs H Q E h => ?_) (fun cdv Ar outer s H vs Q E hr h => ?_)
  · obtain ⟨a, x, rfl, _⟩ := h
    rfl
  · obtain ⟨a, x, rfl, ⟨p, ⟨dx, ha⟩, sp, cp, vp⟩, k⟩ := h
    refine ⟨_, (pss_one (ps_ret (pe_un un_neg (pe_op op_fdivW (pe_un un_neg (pe_fld (pv 0) rfl)) (pe_fld (pv 0) rfl))))), ?_⟩
    refine ⟨_, rfl, _, _, _, _, _, rfl, ha, T.cl, T.nT, rf_top _, _, rfl, _, rfl, _, _, _, _, _, rfl, ha, T.cl, T.nB, rf_bot _, _, _, rfl, rfl, sp.b.div sp.pos, _, rfl, ?_⟩
    exact k _ (cl_of sp.pos vp)
end
end Fc
set_option Elab.async false
set_option linter.all false
set_option maxRecDepth 100000
set_option maxHeartbeats 4000000
set_option exponentiation.threshold 100000
namespace Fc
open PySem PySem.Spec PyProof.Rows L2 L2H
/-! ### errors with one field -/
def spErr1 (C : Addr) (f : Str) : Sp := fun vs H Q _ => ∃ (a : Addr) (v : V), vs = [.ref a, v] ∧ H a = some (exo a C none) ∧
  ∀ d H2, H d = none → d ≠ a → H2 a = some (exo a C (some d)) → H2 d = some (exd d [(f, v)]) → (∀ c o, H c = some o → c ≠ a → H2 c = some o) → Q .non H2
theorem rd_err1 {C : Addr} {f : Str} {v : V} {H : Hp} {Q : XK} {E : XK} (k : ∀ d H', Ex H H' → H' d = some (.xd [(f, v)]) → Q (.ref C) (some d) H') :
    ([v] : List V).length ≤ 1000 ∧ ∀ a, H a = none → spErr1 C f (.ref a :: ([v] ++ [])) (upd H a (exo a C none))
      (fun u H2 => u = .non ∧ ∃ (d : Addr) (fs : List (Str × V)), H2 a = some (exo a C (some d)) ∧ H2 d = some (exd d fs) ∧ H d = none ∧ Q (.ref C) (some d) (upd (del H2 a) d (.xd fs))) E := by
  refine ⟨(by show 1 ≤ 1000; decide), fun a na => ⟨a, v, rfl, upd_same, fun d H2 nd ne h1 h2 kp => ⟨rfl, d, _, h1, h2, ?_, ?_⟩⟩⟩
  · rw [upd_ne ne] at nd; exact nd
  · have hd : H d = none := by rw [upd_ne ne] at nd; exact nd
    refine k d _ (fun b o e => ?_) upd_same
    rw [upd_ne (ne_of_none e hd), del_ne (ne_of_none e na)]
    exact kp b o (by rw [upd_ne (ne_of_none e na)]; exact e) (ne_of_none e na)
/-! ### Bars -/
def BN : List Str := ["q", "dimension", "steps", "ceiling_step", "floor_step", "ceiling_limit", "floor_limit", "bound", "factor"]
theorem BN_nd : BN.Nodup := by decide +kernel
abbrev csR (x : Rat) : Rat := (x + 1) / (x - 1)
abbrev clR (x : Rat) : Rat := (x - 1) / (x * (x + 1))
structure GoodQ (p : Int × Int) : Prop where
  pos : 0 < p.2
  cop : Int.gcd p.1 p.2 = 1
  gt : p.2 < p.1
  le : p.1 ≤ 4 * p.2
  bo : p.2 ≤ 12
theorem GoodQ.sm {p : Int × Int} (g : GoodQ p) : Sm 6 p := by
  obtain ⟨a, b, c, d, e⟩ := g
  refine ⟨?_, ?_, a⟩ <;> unfold Bd <;> omega
theorem GoodQ.gt1 {p : Int × Int} (g : GoodQ p) : 1 < vl p := by
  have h := (vl_lt (p := ((1, 1) : Int × Int)) (q := p) (by decide) g.pos).mpr (by have := g.gt; show 1 * p.2 < p.1 * 1; omega)
  have e : vl ((1, 1) : Int × Int) = 1 := by decide +kernel
  rw [e] at h
  exact h
/-- a Bars at a, for the parameter p at qa and the rank d, with s steps and the factor fa -/
def BarsOf (A : Ad) (H : Hp) (a : Addr) (p : Int × Int) (d s : Int) (fa : Rat) : Prop := ∃ dx q cs fs cl fl bd f : Addr, H a = some (.ins A.B dx (BN.zip [.ref q, .int d, .int s, .ref cs, .ref fs, .ref cl, .ref fl, .ref bd, .ref f])) ∧ RatAt A.C H q p ∧
  RatV A.C H 20 cs (csR (vl p)) ∧ RatV A.C H 300 fs 1 ∧ RatV A.C H 300 cl (clR (vl p)) ∧ RatV A.C H 300 fl (1 / vl p) ∧ RatV A.C H 300 bd (csR (vl p) * csR (vl p)) ∧ RatV A.C H 300 f fa
theorem BarsOf.nl {A : Ad} {H H' : Hp} {a : Addr} {p : Int × Int} {d s : Int} {fa : Rat} (h : BarsOf A H a p d s fa) (k : NL H H') : BarsOf A H' a p d s fa := by
  obtain ⟨dx, q, cs, fs, cl, fl, bd, f, h0, h1, h2, h3, h4, h5, h6, h7⟩ := h
  exact ⟨dx, q, cs, fs, cl, fl, bd, f, k.ins h0, h1.nl k, h2.nl k, h3.nl k, h4.nl k, h5.nl k, h6.nl k, h7.nl k⟩
theorem BarsOf.ex {A : Ad} {H H' : Hp} {a : Addr} {p : Int × Int} {d s : Int} {fa : Rat} (h : BarsOf A H a p d s fa) (k : Ex H H') : BarsOf A H' a p d s fa := h.nl (.of k)
/-- good: the parameter, the rank, and the steps that they ask for -/
structure GoodB (p : Int × Int) (d s : Int) : Prop where
  q : GoodQ p
  d0 : 0 ≤ d
  d1 : d ≤ 12
  cl : Cl (vl p * vl p * (d : Rat)) s
  s0 : 0 ≤ s
  s1 : s ≤ 192
theorem ratV_int {C : Addr} {H : Hp} {n : Nat} {a : Addr} {i : Int} (r : RatAt C H a (lo i 1)) (h : Bd n i) (n1 : 0 < n) : RatV C H n a (i : Rat) :=
  .lo r h (Nat.lt_of_lt_of_le (by decide : (1 : Int).natAbs < 2 ^ 1) (Nat.pow_le_pow_right (by decide) n1)) (by decide) (by have : ((1 : Int) : Rat) = 1 := rfl; rw [this]; grind)
section
variable {P : Program} {w : World} {K : PySem.W.Frag} {mg : Str → Option Value} {base : Heap} {A : Ad}
theorem rd_int {i : Int} {H : Hp} {E : XK} {A : Ad} {x dx : Addr} {k' : Hp → Prop} (n : Nat) (h : Bd n i) (n1 : 0 < n) (nx : H x = none) (nd : H dx = none) (k : ∀ H', Ex H H' → RatV A.C H' n x (i : Rat) → k' H') :
    spInit A [.ref x, .int i, .int 1] (upd (upd H dx (.own x)) x (.ins A.C dx [])) (fun v H2 => v = .non ∧ k' H2) E :=
  ⟨x, dx, i, 1, rfl, upd_same, fun z => absurd z (by decide), fun _ => ⟨bd_of (by decide +kernel), fun H' r kp => ⟨rfl, k H' (Same.made nx nd kp) (ratV_int r h n1)⟩⟩⟩
theorem ok_oob (T : Txt K mg A) : FnOk P w K mg base CX0 1 A.f_oob A.d_oob ["self", "value"] (spErr1 A.O "value") := by
  refine T.F_oob.ok sc_oob (fun vs H Q E h => ?_) (fun cdv Ar outer s H vs Q E hr h => ?_)
  · obtain ⟨a, v, rfl, _⟩ := h
    rfl
  · obtain ⟨a, v, rfl, ha, k⟩ := h
    refine ⟨_, (pss_one (ps_ost (pv 0) (pv 1))), ?_⟩
    refine ⟨_, rfl, _, rfl, a, A.O, rfl, T.o_O, T.n_O_value, .inl ⟨ha, fun d hd hn => ?_⟩⟩
    exact k d _ hd hn upd_same (by rw [upd_ne hn, upd_same]) fun c o e ne => by rw [upd_ne ne, upd_ne (ne_of_none e hd)]; exact e
theorem ok_bq (T : Txt K mg A) : FnOk P w K mg base CX0 1 A.f_bq A.d_bq ["self", "q"] (spErr1 A.Bq "q") := by
  refine T.F_bq.ok sc_bq (fun vs H Q E h => ?_) (fun cdv Ar outer s H vs Q E hr h => ?_)
  · obtain ⟨a, v, rfl, _⟩ := h
    rfl
  · obtain ⟨a, v, rfl, ha, k⟩ := h
    refine ⟨_, (pss_one (ps_ost (pv 0) (pv 1))), ?_⟩
    refine ⟨_, rfl, _, rfl, a, A.Bq, rfl, T.o_Bq, T.n_Bq_q, .inl ⟨ha, fun d hd hn => ?_⟩⟩
    exact k d _ hd hn upd_same (by rw [upd_ne hn, upd_same]) fun c o e ne => by rw [upd_ne ne, upd_ne (ne_of_none e hd)]; exact e
/-- the numbers 1 and 4 -/
theorem one_cast : ((1 : Int) : Rat) = 1 := rfl
theorem four_cast : ((4 : Int) : Rat) = 4 := rfl
def spCheckQ (A : Ad) : Sp := fun vs H Q E => ∃ (q : Addr) (p : Int × Int), vs = [.ref q] ∧ RatAt A.C H q p ∧ Sm 110 p ∧ Int.gcd p.1 p.2 = 1 ∧
  (¬ GoodQ p → ∀ d H', Ex H H' → H' d = some (.xd [("q", .ref q)]) → E (.ref A.Bq) (some d) H') ∧ (GoodQ p → ∀ H', Ex H H' → Q .non H')
theorem ok_checkq (T : Txt K mg A) : FnOk P w K mg base (L2N.CX P w) 3 A.f_checkq A.d_checkq ["q"] (spCheckQ A) := by
  refine fun_okN T.F_checkq sc_checkq (fun vs H Q E h => ?_) (fun cdv Ar outer s H vs Q E hr h => ?_)
  · obtain ⟨q, p, rfl, _⟩ := h
    rfl
  · obtain ⟨q, p, rfl, hq, sp, cp, k0, k⟩ := h
    obtain ⟨ds, vds, b2⟩ := T.b_init2
    obtain ⟨t1, giQ⟩ := T.gi_MOST_Q
    obtain ⟨t2, giB⟩ := T.gi_MOST_Q_BOTTOM
    refine ⟨_, (pss_one (ps_if (PW.pt (pw_or (pt_cmpR op_le (pe_meth (pv 0) T.cl T.m_compare (ok_compare T) (hr.mono (by decide)) T.b_compare .nil pass0 (pa_cons (pe_make T.mkC (ok_init T) (hr.mono (by decide)) rfl T.g_Ratio b2 vds passL (pa_cons pe_int pa_nil)) pa_nil)) pe_int (nomark _)) (pw_or (pt_cmpR op_gt (pe_meth (pv 0) T.cl T.m_compare (ok_compare T) (hr.mono (by decide)) T.b_compare .nil pass0 (pa_cons (pe_make T.mkC (ok_init T) (hr.mono (by decide)) rfl T.g_Ratio b2 vds passL (pa_cons (pe_glob (v := .int 4) rfl giQ ⟨_, rfl⟩) pa_nil)) pa_nil)) pe_int (nomark _)) (pw_or1 (pt_cmpR op_gt (pe_fld (pv 0) rfl) (pe_glob (v := .int 12) rfl giB ⟨_, rfl⟩) (nomark _))))))
      (pss_one (L2N.ps_raise rfl (L2N.takes_of rfl rfl rfl rfl) (pmk_oexN T.o_Bq T.in_Bq T.ti_Bq (ok_bq T) (hr.mono (by decide)) T.b_bq passF rfl T.g_Bq (pa_cons (pv 0) pa_nil)))) pss_nil)), ?_⟩
    have bad : ∀ H1, Ex H H1 → ¬ GoodQ p → ∀ d H', Ex H1 H' → H' d = some (.xd [("q", .ref q)]) → E (.ref A.Bq) (some d) H' := fun H1 e1 n d H' e2 hd => k0 n d H' (e1.trans e2) hd
    have rq : ∀ {H'}, Ex H H' → RatV A.C H' 2001 q (vl p) := fun e => ⟨p, hq.ex e, sp.mono (by decide), cp, rfl⟩
    obtain ⟨dq, hq0⟩ := id hq
    refine ⟨_, rfl, q, dq, _, rfl, hq0, np_compare _, ?_⟩
    intro u du nu nd_u _
    refine rd_int (i := 1) 1 (bd_of (by decide)) (by decide) nu nd_u fun H1 e1 hu => ?_
    refine ⟨q, u, vl p, 1, rfl, rq e1, hu.mono (by decide), _, _, rfl, rfl, _, rfl, ?_⟩
    by_cases c1 : vl p ≤ 1
    · rw [decide_eq_true (cmpR_np.mpr c1)]
      refine iteT ⟨_, rfl, rd_err1 (bad H1 e1 fun g => ?_)⟩
      have := g.gt1
      grind
    rw [decide_eq_false (fun z => c1 (cmpR_np.mp z))]
    refine iteF ⟨_, rfl, q, dq, _, rfl, e1 _ _ hq0, np_compare _, ?_⟩
    intro v dv nv nd_v _
    refine rd_int (i := 4) 3 (bd_of (by decide)) (by decide) nv nd_v fun H2 e2 hv => ?_
    have E2 := e1.trans e2
    refine ⟨q, v, vl p, 4, rfl, rq E2, hv.mono (by decide), _, _, rfl, rfl, _, rfl, ?_⟩
    have le4 : vl p ≤ 4 ↔ p.1 ≤ 4 * p.2 := by
      have h := vl_le (p := p) (q := ((4, 1) : Int × Int)) sp.pos (by decide)
      have e : vl ((4, 1) : Int × Int) = 4 := by decide +kernel
      rw [e] at h
      rw [h]
      show p.1 * 1 ≤ 4 * p.2 ↔ _
      omega
    by_cases c2 : 4 < vl p
    · rw [decide_eq_true (cmpR_pos.mpr c2)]
      refine iteT ⟨_, rfl, rd_err1 (bad H2 E2 fun g => ?_)⟩
      have := le4.mpr g.le
      grind
    rw [decide_eq_false (fun z => c2 (cmpR_pos.mp z))]
    refine iteF ⟨_, rfl, _, _, _, _, _, rfl, E2 _ _ hq0, T.cl, T.nB, rf_bot _, _, _, rfl, rfl, _, rfl, ?_⟩
    by_cases c3 : 12 < p.2
    · rw [decide_eq_true c3]
      refine iteT ⟨_, rfl, rd_err1 (bad H2 E2 fun g => ?_)⟩
      have := g.bo
      omega
    rw [decide_eq_false c3]
    refine iteF (k ⟨sp.pos, cp, ?_, le4.mp (by grind), by omega⟩ H2 E2)
    have h := vl_lt (p := ((1, 1) : Int × Int)) (q := p) (by decide) sp.pos
    have e : vl ((1, 1) : Int × Int) = 1 := by decide +kernel
    rw [e] at h
    have := h.mp (by grind)
    have t : 1 * p.2 < p.1 * 1 := this
    omega
def spCheck (A : Ad) : Sp := fun vs H Q E => ∃ (a : Addr) (n : Int) (p : Int × Int) (d s : Int) (fa : Rat), vs = [.ref a, .int n] ∧ BarsOf A H a p d s fa ∧
  (¬ (0 ≤ n ∧ n ≤ s) → ∀ dd H', Ex H H' → H' dd = some (.xd [("value", .int n)]) → E (.ref A.O) (some dd) H') ∧ (0 ≤ n → n ≤ s → Q .non H)
theorem ok_check (T : Txt K mg A) : FnOk P w K mg base (L2N.CX P w) 3 A.f_check A.d_check ["self", "step"] (spCheck A) := by
  refine fun_okN T.F_check sc_check (fun vs H Q E h => ?_) (fun cdv Ar outer s H vs Q E hr h => ?_)
  · obtain ⟨a, n, p, d, s, fa, rfl, _⟩ := h
    rfl
  · obtain ⟨a, n, p, d, st, fa, rfl, ⟨dx, q, cs, fs, cl, fl, bd, f, h0, _⟩, k0, k⟩ := h
    refine ⟨_, (pss_one (ps_if (pt_not (pt_chain op_le op_le pe_int (pv 1) (pe_fld (pv 0) rfl)))
      (pss_one (L2N.ps_raise rfl (L2N.takes_of rfl rfl rfl rfl) (pmk_oexN T.o_O T.in_O T.ti_O (ok_oob T) (hr.mono (by decide)) T.b_oob passF rfl T.g_O (pa_cons (pv 1) pa_nil)))) pss_nil)), ?_⟩
    refine ⟨_, rfl, _, _, rfl, rfl, _, rfl, ?_⟩
    by_cases c1 : 0 ≤ n
    · rw [decide_eq_true c1]
      refine iteT ⟨_, rfl, _, _, _, _, _, rfl, h0, T.c_B, T.na_B_steps, zip_get (i := 2) BN_nd rfl rfl, _, _, rfl, rfl, _, rfl, ?_⟩
      by_cases c2 : n ≤ st
      · rw [decide_eq_true c2]
        exact iteF (k c1 c2)
      · rw [decide_eq_false c2]
        exact iteT ⟨_, rfl, rd_err1 (k0 fun z => c2 z.2)⟩
    · rw [decide_eq_false c1]
      exact iteF ⟨_, rfl, iteT ⟨_, rfl, rd_err1 (k0 fun z => c1 z.1)⟩⟩
def spStartB (A : Ad) : Sp := fun vs H Q _ => ∃ (a : Addr) (p : Int × Int) (d s : Int) (fa : Rat), vs = [.ref a] ∧ BarsOf A H a p d s fa ∧ GoodB p d s ∧ ∀ c H', Ex H H' → RatV A.C H' 11 c (vl p * (d : Rat)) → Q (.ref c) H'
theorem ok_bstart (T : Txt K mg A) : FnOk P w K mg base CX0 4 A.f_bstart A.d_bstart ["self"] (spStartB A) := by
  refine T.F_bstart.ok sc_bstart (fun vs H Q E h => ?_) (fun cdv Ar outer s H vs Q E hr h => ?_)
  · obtain ⟨a, p, d, s, fa, rfl, _⟩ := h
    rfl
  · obtain ⟨a, p, d, st, fa, rfl, ⟨dx, q, cs, fs, cl, fl, bd, f, h0, hq, _⟩, g, k⟩ := h
    obtain ⟨ds, vds, b2⟩ := T.b_init2
    refine ⟨_, (pss_one (ps_ret (pe_op (op_own T.sf T.m_mul.at_ T.m_mul.fn (ok_mul T) (hr.mono (by decide)) T.b_mul pass0) (pe_fld (pv 0) rfl) (pe_make T.mkC (ok_init T) (hr.mono (by decide)) rfl T.g_Ratio b2 vds passL (pa_cons (pe_fld (pv 0) rfl) pa_nil))))), ?_⟩
    have bd : Bd 4 d := by have := g.d0; have := g.d1; unfold Bd; omega
    refine ⟨_, rfl, _, _, _, _, _, rfl, h0, T.c_B, T.na_B_q, zip_get (i := 0) BN_nd rfl rfl, _, rfl, _, _, _, _, _, rfl, h0, T.c_B, T.na_B_dimension, zip_get (i := 1) BN_nd rfl rfl, ?_⟩
    intro u du nu nd_u _
    refine rd_int 4 bd (by decide) nu nd_u fun H1 e1 hu => ?_
    exact rd_own 6 4 ⟨p, hq.ex e1, g.q.sm, g.q.cop, rfl⟩ hu (by decide) (by decide) (by decide) trivial fun c H2 e2 nc hc => k c H2 (e1.trans e2) hc
def spCeiling (A : Ad) : Sp := fun vs H Q E => ∃ (a : Addr) (n : Int) (p : Int × Int) (d s : Int) (fa : Rat), vs = [.ref a, .int n] ∧ BarsOf A H a p d s fa ∧ GoodB p d s ∧
  (¬ (0 ≤ n ∧ n ≤ s) → ∀ dd H', Ex H H' → H' dd = some (.xd [("value", .int n)]) → E (.ref A.O) (some dd) H') ∧
  (0 ≤ n → n ≤ s → ∀ c H', Ex H H' → RatV A.C H' 41 c (csR (vl p) * (vl p * (d : Rat) + (n : Rat))) → Q (.ref c) H')
theorem ok_ceiling (T : Txt K mg A) : FnOk P w K mg base (L2N.CX P w) 5 A.f_ceiling A.d_ceiling ["self", "step"] (spCeiling A) := by
  refine fun_okN T.F_ceiling sc_ceiling (fun vs H Q E h => ?_) (fun cdv Ar outer s H vs Q E hr h => ?_)
  · obtain ⟨a, n, p, d, s, fa, rfl, _⟩ := h
    rfl
  · obtain ⟨a, n, p, d, st, fa, rfl, hb, g, k0, k⟩ := h
    obtain ⟨ds, vds, b2⟩ := T.b_init2
    refine ⟨_, (pss_cons (ps_expr (pe_meth (pv 0) T.c_B T.m_check (ok_check T) (hr.mono (by decide)) T.b_check .nil (L2N.passes_call (L2N.takes_of rfl rfl rfl rfl) fun _ _ _ _ h => h) (pa_cons (pv 1) pa_nil)))
      (pss_one (ps_ret (pe_op (op_own T.sf T.m_mul.at_ T.m_mul.fn (ok_mul T) (hr.mono (by decide)) T.b_mul pass0) (pe_fld (pv 0) rfl) (pe_op (op_own T.sf T.m_add.at_ T.m_add.fn (ok_add T) (hr.mono (by decide)) T.b_add pass0) (pe_meth0 (pv 0) T.c_B T.m_bstart (ok_bstart T) (hr.mono (by decide)) T.b_bstart .nil pass0) (pe_make T.mkC (ok_init T) (hr.mono (by decide)) rfl T.g_Ratio b2 vds passL (pa_cons (pv 1) pa_nil))))))), ?_⟩
    obtain ⟨dx, q, cs, fs, cl, fl, bd, f, h0, hq, hcs, _⟩ := id hb
    refine ⟨_, rfl, a, dx, _, rfl, h0, zip_no (by decide +kernel), _, rfl, a, n, p, d, st, fa, rfl, hb, k0, fun n0 n1 => ?_⟩
    have bn : Bd 8 n := by have := g.s1; unfold Bd; omega
    refine ⟨_, rfl, _, _, _, _, _, rfl, h0, T.c_B, T.na_B_ceiling_step, zip_get (i := 3) BN_nd rfl rfl, _, rfl, a, dx, _, rfl, h0, zip_no (by decide +kernel), a, p, d, st, fa, rfl, hb, g, fun u H1 e1 hu => ?_⟩
    refine ⟨_, rfl, ?_⟩
    intro v dv nv nd_v _
    refine rd_int 8 bn (by decide) nv nd_v fun H2 e2 hv => ?_
    refine rd_own 11 8 (hu.ex e2) hv (by decide) (by decide) (by decide) trivial fun c H3 e3 nc hc => ?_
    refine rd_own 20 20 (hcs.ex ((e1.trans e2).trans e3)) hc (by decide) (by decide) (by decide) trivial fun z H4 e4 nz hz => ?_
    exact k n0 n1 z H4 (((e1.trans e2).trans e3).trans e4) hz
def spFloor (A : Ad) : Sp := fun vs H Q E => ∃ (a : Addr) (n : Int) (p : Int × Int) (d s : Int) (fa : Rat), vs = [.ref a, .int n] ∧ BarsOf A H a p d s fa ∧ GoodB p d s ∧
  (¬ (0 ≤ n ∧ n ≤ s) → ∀ dd H', Ex H H' → H' dd = some (.xd [("value", .int n)]) → E (.ref A.O) (some dd) H') ∧
  (0 ≤ n → n ≤ s → ∀ c H', Ex H H' → RatV A.C H' 20 c ((n : Rat) - vl p * (d : Rat)) → Q (.ref c) H')
theorem ok_floor (T : Txt K mg A) : FnOk P w K mg base (L2N.CX P w) 5 A.f_floor A.d_floor ["self", "step"] (spFloor A) := by
  refine fun_okN T.F_floor sc_floor (fun vs H Q E h => ?_) (fun cdv Ar outer s H vs Q E hr h => ?_)
  · obtain ⟨a, n, p, d, s, fa, rfl, _⟩ := h
    rfl
  · obtain ⟨a, n, p, d, st, fa, rfl, hb, g, k0, k⟩ := h
    obtain ⟨ds, vds, b2⟩ := T.b_init2
    refine ⟨_, (pss_cons (ps_expr (pe_meth (pv 0) T.c_B T.m_check (ok_check T) (hr.mono (by decide)) T.b_check .nil (L2N.passes_call (L2N.takes_of rfl rfl rfl rfl) fun _ _ _ _ h => h) (pa_cons (pv 1) pa_nil)))
      (pss_one (ps_ret (pe_op (op_own T.sf T.m_sub.at_ T.m_sub.fn (ok_sub T) (hr.mono (by decide)) T.b_sub pass0) (pe_make T.mkC (ok_init T) (hr.mono (by decide)) rfl T.g_Ratio b2 vds passL (pa_cons (pv 1) pa_nil)) (pe_meth0 (pv 0) T.c_B T.m_bstart (ok_bstart T) (hr.mono (by decide)) T.b_bstart .nil pass0))))), ?_⟩
    obtain ⟨dx, q, cs, fs, cl, fl, bd, f, h0, hq, hcs, _⟩ := id hb
    refine ⟨_, rfl, a, dx, _, rfl, h0, zip_no (by decide +kernel), _, rfl, a, n, p, d, st, fa, rfl, hb, k0, fun n0 n1 => ?_⟩
    have bn : Bd 8 n := by have := g.s1; unfold Bd; omega
    refine ⟨_, rfl, ?_⟩
    intro v dv nv nd_v _
    refine rd_int 8 bn (by decide) nv nd_v fun H2 e2 hv => ?_
    refine ⟨_, rfl, a, dx, _, rfl, e2 _ _ h0, zip_no (by decide +kernel), a, p, d, st, fa, rfl, hb.ex e2, g, fun u H1 e1 hu => ?_⟩
    exact rd_own 8 11 (hv.ex e1) hu (by decide) (by decide) (by decide) trivial fun z H4 e4 nz hz => k n0 n1 z H4 ((e2.trans e1).trans e4) hz
def spFinest (A : Ad) : Sp := fun vs H Q E => ∃ (a : Addr) (n : Int) (p : Int × Int) (d s : Int) (fa : Rat), vs = [.ref a, .int n] ∧ BarsOf A H a p d s fa ∧ GoodB p d s ∧
  (¬ (0 ≤ n ∧ n ≤ 200) → ∀ dd H', Ex H H' → H' dd = some (.xd [("value", .int n)]) → E (.ref A.O) (some dd) H') ∧
  (0 ≤ n → n ≤ 200 → ∀ z H', Ex H H' → Cl ((n : Rat) * vl p * csR (vl p) * (vl p * (d : Rat) + 1)) z → Q (.int z) H')
theorem ok_finest (T : Txt K mg A) : FnOk P w K mg base (L2N.CX P w) 5 A.f_finest A.d_finest ["self", "many"] (spFinest A) := by
  refine fun_okN T.F_finest sc_finest (fun vs H Q E h => ?_) (fun cdv Ar outer s H vs Q E hr h => ?_)
  · obtain ⟨a, n, p, d, s, fa, rfl, _⟩ := h
    rfl
  · obtain ⟨a, n, p, d, st, fa, rfl, hb, g, k0, k⟩ := h
    obtain ⟨ds, vds, b2⟩ := T.b_init2
    obtain ⟨t2, giM⟩ := T.gi_MOST_MANY
    refine ⟨_, (pss_cons (ps_if (pt_not (pt_chain op_le op_le pe_int (pv 1) (pe_glob (v := .int 200) rfl giM ⟨_, rfl⟩)))
      (pss_one (L2N.ps_raise rfl (L2N.takes_of rfl rfl rfl rfl) (pmk_oexN T.o_O T.in_O T.ti_O (ok_oob T) (hr.mono (by decide)) T.b_oob passF rfl T.g_O (pa_cons (pv 1) pa_nil)))) pss_nil)
      (pss_one (ps_ret (pe_meth0 (pe_op (op_own T.sf T.m_mul.at_ T.m_mul.fn (ok_mul T) (hr.mono (by decide)) T.b_mul pass0) (pe_op (op_own T.sf T.m_mul.at_ T.m_mul.fn (ok_mul T) (hr.mono (by decide)) T.b_mul pass0) (pe_op (op_own T.sf T.m_mul.at_ T.m_mul.fn (ok_mul T) (hr.mono (by decide)) T.b_mul pass0) (pe_make T.mkC (ok_init T) (hr.mono (by decide)) rfl T.g_Ratio b2 vds passL (pa_cons (pv 1) pa_nil)) (pe_fld (pv 0) rfl)) (pe_fld (pv 0) rfl)) (pe_op (op_own T.sf T.m_add.at_ T.m_add.fn (ok_add T) (hr.mono (by decide)) T.b_add pass0) (pe_meth0 (pv 0) T.c_B T.m_bstart (ok_bstart T) (hr.mono (by decide)) T.b_bstart .nil pass0) (pe_make T.mkC (ok_init T) (hr.mono (by decide)) rfl T.g_Ratio b2 vds passL (pa_cons pe_int pa_nil)))) T.cl T.m_up (ok_up T) (hr.mono (by decide)) T.b_up .nil pass0)))), ?_⟩
    obtain ⟨dx, q, cs, fs, cl, fl, bd, f, h0, hq, hcs, _⟩ := id hb
    refine ⟨_, rfl, _, _, rfl, rfl, _, rfl, ?_⟩
    by_cases c1 : 0 ≤ n
    · rw [decide_eq_true c1]
      refine iteT ⟨_, _, rfl, rfl, _, rfl, ?_⟩
      by_cases c2 : n ≤ 200
      · rw [decide_eq_true c2]
        refine iteF ⟨_, rfl, ?_⟩
        have bn : Bd 8 n := by unfold Bd; omega
        intro v dv nv nd_v _
        refine rd_int 8 bn (by decide) nv nd_v fun H2 e2 hv => ?_
        refine ⟨_, rfl, _, _, _, _, _, rfl, e2 _ _ h0, T.c_B, T.na_B_q, zip_get (i := 0) BN_nd rfl rfl, ?_⟩
        refine rd_own 8 6 hv ⟨p, hq.ex e2, g.q.sm, g.q.cop, rfl⟩ (by decide) (by decide) (by decide) trivial fun u H3 e3 nu hu => ?_
        have E3 := e2.trans e3
        refine ⟨_, rfl, _, _, _, _, _, rfl, E3 _ _ h0, T.c_B, T.na_B_ceiling_step, zip_get (i := 3) BN_nd rfl rfl, ?_⟩
        refine rd_own 15 20 hu (hcs.ex E3) (by decide) (by decide) (by decide) trivial fun u2 H4 e4 nu2 hu2 => ?_
        have E4 := E3.trans e4
        refine ⟨_, rfl, a, dx, _, rfl, E4 _ _ h0, zip_no (by decide +kernel), a, p, d, st, fa, rfl, hb.ex E4, g, fun u3 H5 e5 hu3 => ?_⟩
        intro v4 dv4 nv4 nd_v4 _
        refine rd_int (i := 1) 1 (bd_of (by decide)) (by decide) nv4 nd_v4 fun H6 e6 hv4 => ?_
        refine rd_own 11 1 (hu3.ex e6) hv4 (by decide) (by decide) (by decide) trivial fun c H7 e7 nc hc => ?_
        refine rd_own 36 13 (hu2.ex ((e5.trans e6).trans e7)) hc (by decide) (by decide) (by decide) trivial fun z H8 e8 nz hz => ?_
        obtain ⟨pz, ⟨dz, hz0⟩, _⟩ := id hz
        refine ⟨z, dz, _, rfl, hz0, np_up _, z, _, rfl, hz.mono (by decide), fun y hy => ?_⟩
        exact k c1 c2 y H8 (((E4.trans (e5.trans e6)).trans e7).trans e8) hy
      · rw [decide_eq_false c2]
        exact iteT ⟨_, rfl, rd_err1 (k0 fun z => c2 z.2)⟩
    · rw [decide_eq_false c1]
      exact iteF ⟨_, rfl, iteT ⟨_, rfl, rd_err1 (k0 fun z => c1 z.1)⟩⟩
end
end Fc
set_option Elab.async false
set_option linter.all false
set_option maxRecDepth 100000
set_option maxHeartbeats 4000000
set_option exponentiation.threshold 100000
namespace Fc
open PySem PySem.Spec PyProof.Rows L2 L2H
theorem not_take {ns : List Str} {k : Nat} {n : Str} (nd : ns.Nodup) (h : ns[k]? = some n) : n ∉ ns.take k := by
  intro m
  obtain ⟨i, hi⟩ := List.mem_iff_getElem?.mp m
  rw [List.getElem?_take] at hi
  split at hi
  · have := nodup_ix nd hi h
    omega
  · cases hi
theorem bput {k : Nat} {vs : List V} {n : Str} {v : V} (h : BN[k]? = some n) (l : (BN.take k).length = vs.length) : putF n v ((BN.take k).zip vs) = (BN.take (k + 1)).zip (vs ++ [v]) := by
  rw [put_new (not_take BN_nd h) l, List.take_succ, h]
  rfl
section
variable {P : Program} {w : World} {K : PySem.W.Frag} {mg : Str → Option Value} {base : Heap} {A : Ad}
theorem RatAt.kA (T : Txt K mg A) {H H' : Hp} {a c dx : Addr} {fs : List (Str × V)} {p : Int × Int} (h : RatAt A.C H c p) (ha : H a = some (.ins A.B dx fs)) (k : Keep a H H') : RatAt A.C H' c p := by
  obtain ⟨dc, h⟩ := h
  refine ⟨dc, k _ _ h fun e => ?_⟩
  subst e
  rw [ha] at h
  injection h with h
  injection h with h1
  exact T.neBC h1
theorem RatV.kA (T : Txt K mg A) {H H' : Hp} {a c dx : Addr} {fs : List (Str × V)} {n : Nat} {r : Rat} (h : RatV A.C H n c r) (ha : H a = some (.ins A.B dx fs)) (k : Keep a H H') : RatV A.C H' n c r := let ⟨p, x, y⟩ := h; ⟨p, x.kA T ha k, y⟩
theorem good_mk {p : Int × Int} {d s : Int} (g : GoodQ p) (d0 : 0 ≤ d) (d1 : d ≤ 12) (c : Cl (vl p * vl p * (d : Rat)) s) : GoodB p d s := by
  have x1 := g.gt1
  have x4 : vl p ≤ 4 := by
    have h := (vl_le (p := p) (q := ((4, 1) : Int × Int)) g.pos (by decide)).mpr (by have := g.le; show p.1 * 1 ≤ 4 * p.2; omega)
    have e : vl ((4, 1) : Int × Int) = 4 := by decide +kernel
    rw [e] at h
    exact h
  have r0 : (0 : Rat) ≤ (d : Rat) := Rat.intCast_le_intCast.mpr d0
  have r1 : (d : Rat) ≤ 12 := Rat.intCast_le_intCast.mpr d1
  have m0 : 0 ≤ vl p * vl p := Rat.mul_nonneg (by grind) (by grind)
  have m1 := Rat.mul_nonneg m0 r0
  have a1 := Rat.mul_nonneg (a := 4 - vl p) (b := vl p) (by grind) (by grind)
  have a2 : vl p * vl p ≤ 16 := by grind
  have a3 := Rat.mul_nonneg (a := 16 - vl p * vl p) (b := (d : Rat)) (by grind) r0
  have a4 : vl p * vl p * (d : Rat) ≤ 192 := by grind
  refine ⟨g, d0, d1, c, ?_, ?_⟩
  · have := c.ge
    exact Rat.intCast_le_intCast.mp (by show (0 : Rat) ≤ (s : Rat); grind)
  · have := c.lt
    have h : (s : Rat) < ((193 : Int) : Rat) := by show (s : Rat) < 193; grind
    have := Rat.intCast_lt_intCast.mp h
    omega
abbrev facR (x : Rat) (d s : Int) : Rat := if 0 < d then csR x * (x * (d : Rat) + (s : Rat)) / ((s : Rat) - x * (d : Rat)) else 1
theorem floor_pos {p : Int × Int} {d s : Int} (g : GoodB p d s) (d0 : 0 < d) : 0 < (s : Rat) - vl p * (d : Rat) := by
  have x1 := g.q.gt1
  have r0 : (0 : Rat) < (d : Rat) := Rat.intCast_lt_intCast.mpr d0
  have m := Rat.mul_pos (a := vl p * (d : Rat)) (b := vl p - 1) (Rat.mul_pos (by grind) r0) (by grind)
  have := g.cl.ge
  grind
def spBInit (A : Ad) : Sp := fun vs H Q E => ∃ (a dx q : Addr) (p : Int × Int) (d : Int), vs = [.ref a, .ref q, .int d] ∧ H a = some (.ins A.B dx []) ∧ RatAt A.C H q p ∧ Sm 110 p ∧ Int.gcd p.1 p.2 = 1 ∧
  (¬ GoodQ p → ∀ dd H', Ex H H' → H' dd = some (.xd [("q", .ref q)]) → E (.ref A.Bq) (some dd) H') ∧
  (GoodQ p → ¬ (0 ≤ d ∧ d ≤ 12) → ∀ dd H', Ex H H' → H' dd = some (.xd [("value", .int d)]) → E (.ref A.O) (some dd) H') ∧
  (GoodQ p → 0 ≤ d → d ≤ 12 → ∀ s H', BarsOf A H' a p d s (facR (vl p) d s) → GoodB p d s → (∀ c o, H c = some o → c ≠ a → H' c = some o) → Q .non H')
theorem ok_binit (T : Txt K mg A) : FnOk P w K mg base (L2N.CX P w) 6 A.f_binit A.d_binit ["self", "q", "dimension"] (spBInit A) := by
  refine fun_okN T.F_binit sc_binit (fun vs H Q E h => ?_) (fun cdv Ar outer s H vs Q E hr h => ?_)
  · obtain ⟨a, dx, q, p, d, rfl, _⟩ := h
    rfl
  · obtain ⟨a, dx, q, p, d, rfl, ha0, hq, sp, cp, k0, k1, k2⟩ := h
    obtain ⟨ds, vds, b2⟩ := T.b_init2
    obtain ⟨t1, giD⟩ := T.gi_MOST_DIMENSION
    refine ⟨_, (C8.pss_cut (ps_expr (pe_call (ok_checkq T) (hr.mono (by decide)) rfl T.g_checkq T.F_checkq.kp T.b_checkq .nil (L2N.passes_call (L2N.takes_of rfl rfl rfl rfl) fun _ _ _ _ h => h) (pa_cons (pv 1) pa_nil)))
      (C8.pss_cut (ps_if (pt_not (pt_chain op_le op_le pe_int (pv 2) (pe_glob (v := .int 12) rfl giD ⟨_, rfl⟩)))
      (pss_one (L2N.ps_raise rfl (L2N.takes_of rfl rfl rfl rfl) (pmk_oexN T.o_O T.in_O T.ti_O (ok_oob T) (hr.mono (by decide)) T.b_oob passF rfl T.g_O (pa_cons (pv 2) pa_nil)))) pss_nil)
      (C8.pss_cut (ps_set (i := 3) sc_binit.nd rfl (Or.inl rfl) (pe_make T.mkC (ok_init T) (hr.mono (by decide)) rfl T.g_Ratio b2 vds passL (pa_cons pe_int pa_nil)))
      (pss_cons (ps_fld (pv 0) (pv 1) rfl)
      (C8.pss_cut (ps_fld (pv 0) (pv 2) rfl)
      (C8.pss_cut (ps_fld (pv 0) (pe_meth0 (pe_op (op_own T.sf T.m_mul.at_ T.m_mul.fn (ok_mul T) (hr.mono (by decide)) T.b_mul pass0) (pe_op (op_own T.sf T.m_mul.at_ T.m_mul.fn (ok_mul T) (hr.mono (by decide)) T.b_mul pass0) (pv 1) (pv 1)) (pe_make T.mkC (ok_init T) (hr.mono (by decide)) rfl T.g_Ratio b2 vds passL (pa_cons (pv 2) pa_nil))) T.cl T.m_up (ok_up T) (hr.mono (by decide)) T.b_up .nil pass0) rfl)
      (C8.pss_cut (ps_fld (pv 0) (pe_meth (pe_op (op_own T.sf T.m_add.at_ T.m_add.fn (ok_add T) (hr.mono (by decide)) T.b_add pass0) (pv 1) (pv 3)) T.cl T.m_divided (ok_divided T) (hr.mono (by decide)) T.b_divided .nil pass0 (pa_cons (pe_op (op_own T.sf T.m_sub.at_ T.m_sub.fn (ok_sub T) (hr.mono (by decide)) T.b_sub pass0) (pv 1) (pv 3)) pa_nil)) rfl)
      (C8.pss_cut (ps_fld (pv 0) (pv 3) rfl)
      (C8.pss_cut (ps_fld (pv 0) (pe_meth (pe_op (op_own T.sf T.m_sub.at_ T.m_sub.fn (ok_sub T) (hr.mono (by decide)) T.b_sub pass0) (pv 1) (pv 3)) T.cl T.m_divided (ok_divided T) (hr.mono (by decide)) T.b_divided .nil pass0 (pa_cons (pe_op (op_own T.sf T.m_mul.at_ T.m_mul.fn (ok_mul T) (hr.mono (by decide)) T.b_mul pass0) (pv 1) (pe_op (op_own T.sf T.m_add.at_ T.m_add.fn (ok_add T) (hr.mono (by decide)) T.b_add pass0) (pv 1) (pv 3))) pa_nil)) rfl)
      (C8.pss_cut (ps_fld (pv 0) (pe_meth (pv 3) T.cl T.m_divided (ok_divided T) (hr.mono (by decide)) T.b_divided .nil pass0 (pa_cons (pv 1) pa_nil)) rfl)
      (C8.pss_cut (ps_fld (pv 0) (pe_op (op_own T.sf T.m_mul.at_ T.m_mul.fn (ok_mul T) (hr.mono (by decide)) T.b_mul pass0) (pe_fld (pv 0) rfl) (pe_fld (pv 0) rfl)) rfl)
      (C8.pss_cut (ps_fld (pv 0) (pv 3) rfl)
      (pss_one (ps_if (pt_cmpR op_gt (pv 2) pe_int (nomark _))
      (pss_one (ps_fld (pv 0) (pe_meth (pe_meth (pv 0) T.c_B T.m_ceiling (ok_ceiling T) (hr.mono (by decide)) T.b_ceiling .nil passLN (pa_cons (pe_fld (pv 0) rfl) pa_nil)) T.cl T.m_divided (ok_divided T) (hr.mono (by decide)) T.b_divided .nil pass0 (pa_cons (pe_meth (pv 0) T.c_B T.m_floor (ok_floor T) (hr.mono (by decide)) T.b_floor .nil passLN (pa_cons (pe_fld (pv 0) rfl) pa_nil)) pa_nil)) rfl)) pss_nil)))))))))))))), ?_⟩
    refine ⟨fun sl H' => sl = [some (.ref a), some (.ref q), some (.int d), none] ∧ Ex H H' ∧ GoodQ p, ?_, ?_⟩
    · exact ⟨_, rfl, q, p, rfl, hq, sp, cp, k0, fun g H' e => ⟨rfl, e, g⟩⟩
    rintro sl H1 ⟨rfl, e1, g⟩
    refine ⟨fun sl H' => sl = [some (.ref a), some (.ref q), some (.int d), none] ∧ Ex H H' ∧ 0 ≤ d ∧ d ≤ 12, ?_, ?_⟩
    · refine ⟨_, rfl, _, _, rfl, rfl, _, rfl, ?_⟩
      by_cases c1 : 0 ≤ d
      · rw [decide_eq_true c1]
        refine iteT ⟨_, _, rfl, rfl, _, rfl, ?_⟩
        by_cases c2 : d ≤ 12
        · rw [decide_eq_true c2]
          exact iteF ⟨rfl, e1, c1, c2⟩
        · rw [decide_eq_false c2]
          exact iteT ⟨_, rfl, rd_err1 fun dd H' e hd => k1 g (fun z => c2 z.2) dd H' (e1.trans e) hd⟩
      · rw [decide_eq_false c1]
        exact iteF ⟨_, rfl, iteT ⟨_, rfl, rd_err1 fun dd H' e hd => k1 g (fun z => c1 z.1) dd H' (e1.trans e) hd⟩⟩
    clear e1
    rintro sl H1 ⟨rfl, e1, d0, d1⟩
    have bdd : Bd 4 d := by unfold Bd; omega
    have x1 := g.gt1
    refine ⟨fun sl H' => ∃ one : Addr, sl = [some (.ref a), some (.ref q), some (.int d), some (.ref one)] ∧ Ex H H' ∧ RatV A.C H' 1 one 1, ?_, ?_⟩
    · intro u du nu nd _
      exact rd_int (i := 1) 1 (bd_of (by decide)) (by decide) nu nd fun H2 e2 hu => ⟨u, rfl, e1.trans e2, hu⟩
    clear e1
    rintro sl H1 ⟨one, rfl, e1, h1⟩
    refine ⟨_, rfl, _, rfl, a, A.B, dx, _, rfl, e1 _ _ ha0, T.c_B, T.na_B_q, (by show 0 < 1000; decide), ?_⟩
    have f1 : upd H1 a (.ins A.B dx (putF "q" (.ref q) [])) a = some (.ins A.B dx ((BN.take 1).zip [.ref q])) := by
      rw [upd_same]
      rfl
    have kk : Keep a H1 (upd H1 a (.ins A.B dx (putF "q" (.ref q) []))) := Keep.upd
    have h1' := h1.kA T (e1 _ _ ha0) kk
    generalize upd H1 a (.ins A.B dx (putF "q" (.ref q) [])) = H2 at f1 kk h1' ⊢
    refine ⟨fun sl H' => ∃ (one : Addr) , sl = [some (.ref a), some (.ref q), some (.int d), some (.ref one)] ∧ Keep a H H' ∧ H' a = some (.ins A.B dx ((BN.take 2).zip [.ref q, .int d])) ∧ RatV A.C H' 1 one 1, ?_, ?_⟩
    · exact ⟨_, rfl, _, rfl, a, A.B, dx, _, rfl, f1, T.c_B, T.na_B_dimension, (by show 1 < 1000; decide), one, rfl, ((Keep.of e1).trans kk).trans Keep.upd, (by rw [upd_same, bput rfl rfl] <;> rfl), h1'.kA T f1 Keep.upd⟩
    clear f1 kk h1'
    clear e1 h1
    rintro sl H1 ⟨one, rfl, kp, ha, h1⟩
    have hq' : RatAt A.C H1 q p := hq.kA T ha0 kp
    have rq : RatV A.C H1 6 q (vl p) := ⟨p, hq', g.sm, g.cop, rfl⟩
    refine ⟨fun sl H' => ∃ (one : Addr) (st : Int), sl = [some (.ref a), some (.ref q), some (.int d), some (.ref one)] ∧ Keep a H H' ∧ H' a = some (.ins A.B dx ((BN.take 3).zip [.ref q, .int d, .int st])) ∧ RatV A.C H' 1 one 1 ∧ Cl (vl p * vl p * (d : Rat)) st, ?_, ?_⟩
    · refine ⟨_, rfl, _, rfl, rd_own 6 6 rq rq (by decide) (by decide) (by decide) trivial fun c H2 e2 nc hc => ?_⟩
      refine ⟨_, rfl, ?_⟩
      intro u du nu nd _
      refine rd_int 4 bdd (by decide) nu nd fun H3 e3 hu => ?_
      refine rd_own 13 4 (hc.ex e3) hu (by decide) (by decide) (by decide) trivial fun z H4 e4 nz hz => ?_
      obtain ⟨pz, ⟨dz, hz0⟩, _⟩ := id hz
      refine ⟨z, dz, _, rfl, hz0, np_up _, z, _, rfl, hz.mono (by decide), fun st hst => ?_⟩
      have E4 : Ex H1 H4 := (e2.trans e3).trans e4
      exact ⟨_, rfl, a, A.B, dx, _, rfl, E4 _ _ ha, T.c_B, T.na_B_steps, (by show 2 < 1000; decide), one, st, rfl, kp.trans ((Keep.of E4).trans Keep.upd), (by rw [upd_same, bput rfl rfl] <;> rfl), (h1.ex E4).kA T (E4 _ _ ha) Keep.upd, hst⟩
    clear kp ha h1 hq' rq
    rintro sl H1 ⟨one, st, rfl, kp, ha, h1, hst⟩
    have hq' : RatAt A.C H1 q p := hq.kA T ha0 kp
    have rq : RatV A.C H1 6 q (vl p) := ⟨p, hq', g.sm, g.cop, rfl⟩
    refine ⟨fun sl H' => ∃ (one : Addr) (st : Int) (cs : Addr), sl = [some (.ref a), some (.ref q), some (.int d), some (.ref one)] ∧ Keep a H H' ∧ H' a = some (.ins A.B dx ((BN.take 4).zip [.ref q, .int d, .int st, .ref cs])) ∧ RatV A.C H' 1 one 1 ∧ Cl (vl p * vl p * (d : Rat)) st ∧ RatV A.C H' 20 cs (csR (vl p)), ?_, ?_⟩
    · refine ⟨_, rfl, _, rfl, rd_own 6 1 rq h1 (by decide) (by decide) (by decide) trivial fun c H2 e2 nc hc => ?_⟩
      obtain ⟨pc, ⟨dc, hc0⟩, _⟩ := id hc
      refine ⟨c, dc, _, rfl, hc0, np_divided _, _, rfl, _, rfl, rd_own 6 1 (rq.ex e2) (h1.ex e2) (by decide) (by decide) (by decide) trivial fun e H3 e3 ne he => ?_⟩
      refine ⟨c, e, _, _, 8, 8, rfl, hc.ex e3, he, by decide, by decide, by decide, by grind, fun cs H4 e4 ncs hcs => ?_⟩
      have E4 : Ex H1 H4 := (e2.trans e3).trans e4
      exact ⟨_, rfl, a, A.B, dx, _, rfl, E4 _ _ ha, T.c_B, T.na_B_ceiling_step, (by show 3 < 1000; decide), one, st, cs, rfl, kp.trans ((Keep.of E4).trans Keep.upd), (by rw [upd_same, bput rfl rfl] <;> rfl), (h1.ex E4).kA T (E4 _ _ ha) Keep.upd, hst, (hcs.mono (by decide)).kA T (E4 _ _ ha) Keep.upd⟩
    clear kp ha h1 hq' rq
    rintro sl H1 ⟨one, st, cs, rfl, kp, ha, h1, hst, hcs⟩
    have hq' : RatAt A.C H1 q p := hq.kA T ha0 kp
    have rq : RatV A.C H1 6 q (vl p) := ⟨p, hq', g.sm, g.cop, rfl⟩
    refine ⟨fun sl H' => ∃ (one : Addr) (st : Int) (cs : Addr), sl = [some (.ref a), some (.ref q), some (.int d), some (.ref one)] ∧ Keep a H H' ∧ H' a = some (.ins A.B dx ((BN.take 5).zip [.ref q, .int d, .int st, .ref cs, .ref one])) ∧ RatV A.C H' 1 one 1 ∧ Cl (vl p * vl p * (d : Rat)) st ∧ RatV A.C H' 20 cs (csR (vl p)), ?_, ?_⟩
    · have E4 : Ex H1 H1 := fun _ _ e => e
      exact ⟨_, rfl, _, rfl, a, A.B, dx, _, rfl, E4 _ _ ha, T.c_B, T.na_B_floor_step, (by show 4 < 1000; decide), one, st, cs, rfl, kp.trans ((Keep.of E4).trans Keep.upd), (by rw [upd_same, bput rfl rfl] <;> rfl), (h1.ex E4).kA T (E4 _ _ ha) Keep.upd, hst, (hcs.ex E4).kA T (E4 _ _ ha) Keep.upd⟩
    clear kp ha h1 hq' rq hcs
    rintro sl H1 ⟨one, st, cs, rfl, kp, ha, h1, hst, hcs⟩
    have hq' : RatAt A.C H1 q p := hq.kA T ha0 kp
    have rq : RatV A.C H1 6 q (vl p) := ⟨p, hq', g.sm, g.cop, rfl⟩
    refine ⟨fun sl H' => ∃ (one : Addr) (st : Int) (cs : Addr) (cl : Addr), sl = [some (.ref a), some (.ref q), some (.int d), some (.ref one)] ∧ Keep a H H' ∧ H' a = some (.ins A.B dx ((BN.take 6).zip [.ref q, .int d, .int st, .ref cs, .ref one, .ref cl])) ∧ RatV A.C H' 1 one 1 ∧ Cl (vl p * vl p * (d : Rat)) st ∧ RatV A.C H' 20 cs (csR (vl p)) ∧ RatV A.C H' 300 cl (clR (vl p)), ?_, ?_⟩
    · refine ⟨_, rfl, _, rfl, rd_own 6 1 rq h1 (by decide) (by decide) (by decide) trivial fun c H2 e2 nc hc => ?_⟩
      obtain ⟨pc, ⟨dc, hc0⟩, _⟩ := id hc
      refine ⟨c, dc, _, rfl, hc0, np_divided _, _, rfl, _, rfl, _, rfl, rd_own 6 1 (rq.ex e2) (h1.ex e2) (by decide) (by decide) (by decide) trivial fun e H3 e3 ne he => ?_⟩
      refine rd_own 6 8 ((rq.ex e2).ex e3) he (by decide) (by decide) (by decide) trivial fun f H4 e4 nf hf => ?_
      have pos := Rat.mul_pos (a := vl p) (b := vl p + 1) (by grind) (by grind)
      refine ⟨c, f, _, _, 8, 15, rfl, (hc.ex e3).ex e4, hf, by decide, by decide, by decide, by grind, fun cl H5 e5 ncl hcl => ?_⟩
      have E4 : Ex H1 H5 := ((e2.trans e3).trans e4).trans e5
      exact ⟨_, rfl, a, A.B, dx, _, rfl, E4 _ _ ha, T.c_B, T.na_B_ceiling_limit, (by show 5 < 1000; decide), one, st, cs, cl, rfl, kp.trans ((Keep.of E4).trans Keep.upd), (by rw [upd_same, bput rfl rfl] <;> rfl), (h1.ex E4).kA T (E4 _ _ ha) Keep.upd, hst, (hcs.ex E4).kA T (E4 _ _ ha) Keep.upd, (hcl.mono (by decide)).kA T (E4 _ _ ha) Keep.upd⟩
    clear kp ha h1 hq' rq hcs
    rintro sl H1 ⟨one, st, cs, cl, rfl, kp, ha, h1, hst, hcs, hcl⟩
    have hq' : RatAt A.C H1 q p := hq.kA T ha0 kp
    have rq : RatV A.C H1 6 q (vl p) := ⟨p, hq', g.sm, g.cop, rfl⟩
    refine ⟨fun sl H' => ∃ (one : Addr) (st : Int) (cs : Addr) (cl : Addr) (fl : Addr), sl = [some (.ref a), some (.ref q), some (.int d), some (.ref one)] ∧ Keep a H H' ∧ H' a = some (.ins A.B dx ((BN.take 7).zip [.ref q, .int d, .int st, .ref cs, .ref one, .ref cl, .ref fl])) ∧ RatV A.C H' 1 one 1 ∧ Cl (vl p * vl p * (d : Rat)) st ∧ RatV A.C H' 20 cs (csR (vl p)) ∧ RatV A.C H' 300 cl (clR (vl p)) ∧ RatV A.C H' 300 fl (1 / vl p), ?_, ?_⟩
    · obtain ⟨po, ⟨do_, ho0⟩, _⟩ := id h1
      refine ⟨_, rfl, one, do_, _, rfl, ho0, np_divided _, _, rfl, one, q, _, _, 1, 6, rfl, h1, rq, by decide, by decide, by decide, by grind, fun fl H5 E4 nfl hfl => ?_⟩
      exact ⟨_, rfl, a, A.B, dx, _, rfl, E4 _ _ ha, T.c_B, T.na_B_floor_limit, (by show 6 < 1000; decide), one, st, cs, cl, fl, rfl, kp.trans ((Keep.of E4).trans Keep.upd), (by rw [upd_same, bput rfl rfl] <;> rfl), (h1.ex E4).kA T (E4 _ _ ha) Keep.upd, hst, (hcs.ex E4).kA T (E4 _ _ ha) Keep.upd, (hcl.ex E4).kA T (E4 _ _ ha) Keep.upd, (hfl.mono (by decide)).kA T (E4 _ _ ha) Keep.upd⟩
    clear kp ha h1 hq' rq hcs hcl
    rintro sl H1 ⟨one, st, cs, cl, fl, rfl, kp, ha, h1, hst, hcs, hcl, hfl⟩
    have hq' : RatAt A.C H1 q p := hq.kA T ha0 kp
    have rq : RatV A.C H1 6 q (vl p) := ⟨p, hq', g.sm, g.cop, rfl⟩
    refine ⟨fun sl H' => ∃ (one : Addr) (st : Int) (cs : Addr) (cl : Addr) (fl : Addr) (bd : Addr), sl = [some (.ref a), some (.ref q), some (.int d), some (.ref one)] ∧ Keep a H H' ∧ H' a = some (.ins A.B dx ((BN.take 8).zip [.ref q, .int d, .int st, .ref cs, .ref one, .ref cl, .ref fl, .ref bd])) ∧ RatV A.C H' 1 one 1 ∧ Cl (vl p * vl p * (d : Rat)) st ∧ RatV A.C H' 20 cs (csR (vl p)) ∧ RatV A.C H' 300 cl (clR (vl p)) ∧ RatV A.C H' 300 fl (1 / vl p) ∧ RatV A.C H' 300 bd (csR (vl p) * csR (vl p)), ?_, ?_⟩
    · refine ⟨_, rfl, _, _, _, _, _, rfl, ha, T.c_B, T.na_B_ceiling_step, zip_get (i := 3) (BN_nd.sublist (List.take_sublist _ _)) rfl rfl, _, rfl, _, _, _, _, _, rfl, ha, T.c_B, T.na_B_ceiling_step, zip_get (i := 3) (BN_nd.sublist (List.take_sublist _ _)) rfl rfl, ?_⟩
      refine rd_own 20 20 hcs hcs (by decide) (by decide) (by decide) trivial fun bd H5 E4 nbd hbd => ?_
      exact ⟨_, rfl, a, A.B, dx, _, rfl, E4 _ _ ha, T.c_B, T.na_B_bound, (by show 7 < 1000; decide), one, st, cs, cl, fl, bd, rfl, kp.trans ((Keep.of E4).trans Keep.upd), (by rw [upd_same, bput rfl rfl] <;> rfl), (h1.ex E4).kA T (E4 _ _ ha) Keep.upd, hst, (hcs.ex E4).kA T (E4 _ _ ha) Keep.upd, (hcl.ex E4).kA T (E4 _ _ ha) Keep.upd, (hfl.ex E4).kA T (E4 _ _ ha) Keep.upd, (hbd.mono (by decide)).kA T (E4 _ _ ha) Keep.upd⟩
    clear kp ha h1 hq' rq hcs hcl hfl
    rintro sl H1 ⟨one, st, cs, cl, fl, bd, rfl, kp, ha, h1, hst, hcs, hcl, hfl, hbd⟩
    have hq' : RatAt A.C H1 q p := hq.kA T ha0 kp
    have rq : RatV A.C H1 6 q (vl p) := ⟨p, hq', g.sm, g.cop, rfl⟩
    refine ⟨fun sl H' => ∃ (one : Addr) (st : Int) (cs : Addr) (cl : Addr) (fl : Addr) (bd : Addr), sl = [some (.ref a), some (.ref q), some (.int d), some (.ref one)] ∧ Keep a H H' ∧ H' a = some (.ins A.B dx ((BN.take 9).zip [.ref q, .int d, .int st, .ref cs, .ref one, .ref cl, .ref fl, .ref bd, .ref one])) ∧ RatV A.C H' 1 one 1 ∧ Cl (vl p * vl p * (d : Rat)) st ∧ RatV A.C H' 20 cs (csR (vl p)) ∧ RatV A.C H' 300 cl (clR (vl p)) ∧ RatV A.C H' 300 fl (1 / vl p) ∧ RatV A.C H' 300 bd (csR (vl p) * csR (vl p)), ?_, ?_⟩
    · have E4 : Ex H1 H1 := fun _ _ e => e
      exact ⟨_, rfl, _, rfl, a, A.B, dx, _, rfl, E4 _ _ ha, T.c_B, T.na_B_factor, (by show 8 < 1000; decide), one, st, cs, cl, fl, bd, rfl, kp.trans ((Keep.of E4).trans Keep.upd), (by rw [upd_same, bput rfl rfl] <;> rfl), (h1.ex E4).kA T (E4 _ _ ha) Keep.upd, hst, (hcs.ex E4).kA T (E4 _ _ ha) Keep.upd, (hcl.ex E4).kA T (E4 _ _ ha) Keep.upd, (hfl.ex E4).kA T (E4 _ _ ha) Keep.upd, (hbd.ex E4).kA T (E4 _ _ ha) Keep.upd⟩
    clear kp ha h1 hq' rq hcs hcl hfl hbd
    rintro sl H1 ⟨one, st, cs, cl, fl, bd, rfl, kp, ha, h1, hst, hcs, hcl, hfl, hbd⟩
    have hq' : RatAt A.C H1 q p := hq.kA T ha0 kp
    have rq : RatV A.C H1 6 q (vl p) := ⟨p, hq', g.sm, g.cop, rfl⟩
    have gb := good_mk g d0 d1 hst
    have bo : BarsOf A H1 a p d st 1 := ⟨dx, q, cs, one, cl, fl, bd, one, ha, hq', hcs, h1.mono (by decide), hcl, hfl, hbd, h1.mono (by decide)⟩
    have nal : ∀ H2 : Hp, (∀ c o, H c = some o → c ≠ a → H2 c = some o) → Keep a H H2 := fun _ h => h
    refine ⟨_, rfl, _, _, rfl, rfl, _, rfl, ?_⟩
    by_cases pos : 0 < d
    · rw [decide_eq_true pos]
      have fp := floor_pos gb pos
      refine iteT ⟨_, rfl, a, dx, _, rfl, ha, zip_no (by decide +kernel), _, rfl, _, _, _, _, _, rfl, ha, T.c_B, T.na_B_steps, zip_get (i := 2) BN_nd rfl rfl, a, st, p, d, st, 1, rfl, bo, gb, fun n => absurd ⟨gb.s0, Int.le_refl _⟩ n, fun _ _ c H2 e2 hc => ?_⟩
      obtain ⟨pc, ⟨dc, hc0⟩, _⟩ := id hc
      refine ⟨c, dc, _, rfl, hc0, np_divided _, _, rfl, a, dx, _, rfl, e2 _ _ ha, zip_no (by decide +kernel), _, rfl, _, _, _, _, _, rfl, e2 _ _ ha, T.c_B, T.na_B_steps, zip_get (i := 2) BN_nd rfl rfl, a, st, p, d, st, 1, rfl, bo.ex e2, gb, fun n => absurd ⟨gb.s0, Int.le_refl _⟩ n, fun _ _ e H3 e3 he => ?_⟩
      refine ⟨c, e, _, _, 41, 20, rfl, hc.ex e3, he, by decide, by decide, by decide, by grind, fun f H4 e4 nf hf => ?_⟩
      have E4 : Ex H1 H4 := (e2.trans e3).trans e4
      refine ⟨_, rfl, a, A.B, dx, _, rfl, E4 _ _ ha, T.c_B, T.na_B_factor, (by show 9 < 1000; decide), ?_⟩
      have kk : ∀ {n c r}, RatV A.C H1 n c r → RatV A.C (upd H4 a (.ins A.B dx (putF "factor" (.ref f) ((BN.take 9).zip [.ref q, .int d, .int st, .ref cs, .ref one, .ref cl, .ref fl, .ref bd, .ref one])))) n c r := fun h => (h.ex E4).kA T (E4 _ _ ha) Keep.upd
      refine k2 g d0 d1 st _ ⟨dx, q, cs, one, cl, fl, bd, f, ?_, (hq'.ex E4).kA T (E4 _ _ ha) Keep.upd, kk hcs, kk (h1.mono (by decide)), kk hcl, kk hfl, kk hbd, ?_⟩ gb (kp.trans ((Keep.of E4).trans Keep.upd))
      · rw [upd_same, show BN.take 9 = BN from rfl, put_old (i := 8) (w := .ref one) BN_nd rfl rfl]
        rfl
      · have hf' := (hf.mono (by decide : _ ≤ 300)).kA T (E4 _ _ ha) (Keep.upd (o := .ins A.B dx (putF "factor" (.ref f) ((BN.take 9).zip [.ref q, .int d, .int st, .ref cs, .ref one, .ref cl, .ref fl, .ref bd, .ref one]))))
        unfold facR
        rw [if_pos pos]
        exact hf'
    · rw [decide_eq_false pos]
      refine iteF (k2 g d0 d1 st _ ?_ gb kp)
      unfold facR
      rw [if_neg pos]
      exact bo
end
end Fc
set_option Elab.async false
set_option linter.all false
set_option maxRecDepth 100000
set_option maxHeartbeats 4000000
set_option exponentiation.threshold 100000
namespace Fc
open PySem PySem.Spec PyProof.Rows L2 L2H
section
variable {P : Program} {w : World} {K : PySem.W.Frag} {mg : Str → Option Value} {base : Heap} {A : Ad}
/-! ### the law's digits -/
def spDigitL : Sp := fun vs H Q _ => ∃ (p l : Addr) (m : Int), vs = [.ref p, .int m] ∧ PotL H p l ∧ 0 < m ∧ Bd 300 m ∧
  ∀ d H', 0 ≤ d → d < m → PotL H' p l → Keep p H H' → Q (.int d) H'
theorem ok_digit (T : Txt K mg A) : FnOk P w K mg base CX0 1 A.f_digit A.d_digit ["pot", "many"] spDigitL := by
  refine T.F_digit.ok sc_digit (fun vs H Q E h => ?_) (fun cdv Ar outer s H vs Q E hr h => ?_)
  · obtain ⟨p, l, m, rfl, _⟩ := h
    rfl
  · obtain ⟨p, l, m, rfl, pot, m0, bm, k⟩ := h
    refine ⟨_, (C8.pss_cut (ps_if (PW.pt (pw_and (pt_cmpR op_eq (pe_ix ix_list (pv 0) pe_int (fun _ _ => rfl)) pe_int (nomark _)) (pw_and1 (pt_cmpR op_lt (pe_ix ix_list (pv 0) pe_int (fun _ _ => rfl)) (pe_callB call_len (by rfl) T.n_len PySem.boot_len (pa_cons (pe_ix ix_list (pv 0) pe_int (fun _ _ => rfl)) pa_nil)) (nomark _)))))
      (pss_cons (ps_asg (pe_ix ix_list (pe_ix ix_list (pv 0) pe_int (fun _ _ => rfl)) (pe_ix ix_list (pv 0) pe_int (fun _ _ => rfl)) (fun _ _ => rfl)) (pg_sub (pv 0) pe_int set_list))
      (pss_one (ps_asg (pe_op op_add (pe_ix ix_list (pv 0) pe_int (fun _ _ => rfl)) pe_int) (pg_sub (pv 0) pe_int set_list)))) pss_nil)
      (pss_cons (ps_set (i := 2) sc_digit.nd rfl (Or.inl rfl) (pe_op op_mod (pe_callTy call_int1 (by rfl) T.n_int (by decide +kernel) (pa_cons (pe_ix ix_list (pv 0) pe_int (fun _ _ => rfl)) pa_nil)) (pv 1)))
      (pss_cons (ps_asg (pe_op op_fdivW (pe_callTy call_int1 (by rfl) T.n_int (by decide +kernel) (pa_cons (pe_ix ix_list (pv 0) pe_int (fun _ _ => rfl)) pa_nil)) (pv 1)) (pg_sub (pv 0) pe_int set_list))
      (pss_one (ps_ret (pv 2)))))), ?_⟩
    obtain ⟨cs, i, c, ne, h1, h2, hl, i0, c0, hc⟩ := id pot
    refine ⟨fun sl H' => sl = [some (.ref p), some (.int m), none] ∧ PotL H' p l ∧ Keep p H H', ?_, ?_⟩
    · refine ⟨_, rfl, _, _, _, _, rfl, rfl, SqL.of h1, rfl, rfl, _, rfl, ?_⟩
      refine ite2 (fun z => ?_) (fun z => iteF ⟨rfl, pot, Keep.refl⟩)
      refine ⟨_, rfl, _, _, _, _, rfl, rfl, SqL.of h1, rfl, _, rfl, _, _, _, _, rfl, rfl, SqL.of h1, rfl, _, _, rfl, .inl ⟨_, SqL.of h2, rfl⟩, _, _, rfl, rfl, _, rfl, ?_⟩
      refine ite2 (fun z2 => ?_) (fun z2 => ⟨rfl, pot, Keep.refl⟩)
      have hi : i < cs.length := by have := of_decide_eq_true z2; rw [List.length_map] at this; exact this
      obtain ⟨j, rfl⟩ : ∃ j : Nat, i = (j : Int) := ⟨i.toNat, by omega⟩
      have hj : j < cs.length := by omega
      have at_ : (cs.map V.int)[j]? = some (.int cs[j]) := by rw [List.getElem?_map, List.getElem?_eq_getElem hj]; rfl
      refine ⟨_, rfl, _, _, _, _, rfl, rfl, SqL.of h1, rfl, _, rfl, _, _, _, _, rfl, rfl, SqL.of h1, rfl, _, _, _, _, rfl, rfl, SqL.of h2, atI_nat at_, _, rfl, p, _, 2, 2, rfl, rfl, h1, rfl, ?_⟩
      refine ⟨_, rfl, _, _, _, _, rfl, rfl, SqL.of upd_same, rfl, _, _, rfl, rfl, _, rfl, p, _, 1, 1, rfl, rfl, upd_same, rfl, rfl, ?_, ?_⟩
      · refine ⟨cs, (j : Int) + 1, cs[j], ne, upd_same, ?_, hl, by omega, hc _ (List.getElem_mem hj), hc⟩
        rw [upd_ne ne.symm, upd_ne ne.symm]; exact h2
      · exact Keep.upd.trans Keep.upd
    · rintro sl H' ⟨rfl, pot', kp⟩
      obtain ⟨cs, i, c, ne, h1, h2, hl, i0, c0, hc⟩ := id pot'
      refine ⟨_, rfl, _, _, _, _, rfl, rfl, SqL.of h1, rfl, .inl ⟨_, rfl, _, rfl, _, _, rfl, rfl, m0, ?_⟩⟩
      refine ⟨_, rfl, _, _, _, _, rfl, rfl, SqL.of h1, rfl, .inl ⟨_, rfl, _, rfl, _, _, rfl, rfl, bm.div m0, _, rfl, p, _, 2, 2, rfl, rfl, h1, rfl, _, rfl, ?_⟩⟩
      refine k _ _ (Int.emod_nonneg _ (by omega)) (Int.emod_lt_of_pos _ m0) ⟨cs, i, c / m, ne, upd_same, ?_, hl, i0, Int.ediv_nonneg c0 (by omega), hc⟩ (kp.trans Keep.upd)
      rw [upd_ne ne.symm]; exact h2
def spWhole : Sp := fun vs H Q _ => ∃ (n : Int), vs = [.int n] ∧ Q (.bl true) H
theorem ok_whole (T : Txt K mg A) : FnOk P w K mg base CX0 1 A.f_whole A.d_whole ["told"] spWhole := by
  refine T.F_whole.ok sc_whole (fun vs H Q E h => ?_) (fun cdv Ar outer s H vs Q E hr h => ?_)
  · obtain ⟨n, rfl, _⟩ := h
    rfl
  · obtain ⟨n, rfl, k⟩ := h
    refine ⟨_, (pss_one (ps_ret (pe_and (pe_callB call_isi (by rfl) T.n_isinstance (by decide +kernel) (pa_cons (pv 0) (pa_cons (pe_bltn (v := .ty "int") rfl T.n_int (by decide +kernel) rfl) pa_nil))) (pe_one (pe_not (pe_callB call_isi (by rfl) T.n_isinstance (by decide +kernel) (pa_cons (pv 0) (pa_cons (pe_bltn (v := .ty "bool") rfl T.n_bool (by decide +kernel) rfl) pa_nil)))))))), ?_⟩
    have ii : TyX K H (.int n) (.type "int") := .base (.int n)
    refine ⟨_, rfl, _, .ty "int", _, _, true, rfl, .ty _, ii, kit_ty (by decide +kernel), _, rfl, ?_⟩
    exact ⟨_, rfl, _, .ty "bool", _, _, false, rfl, .ty _, ii, kit_ty (by decide +kernel), _, rfl, k⟩
theorem okH_whole (T : Txt K mg A) : FnH P w K mg base CX0 1 A.f_whole A.d_whole ["told"] spWhole := by
  refine fun_okH T.F_whole sc_whole (fun vs H Q E h => ?_) (fun cdv Ar outer s H vs Q E pp hr hc h => ?_)
  · obtain ⟨n, rfl, _⟩ := h
    rfl
  · obtain ⟨n, rfl, k⟩ := h
    refine ⟨_, (pss_one (ps_ret (pe_and (pe_callB call_isi (by rfl) T.n_isinstance (by decide +kernel) (pa_cons (pv 0) (pa_cons (pe_bltn (v := .ty "int") rfl T.n_int (by decide +kernel) rfl) pa_nil))) (pe_one (pe_not (pe_callB call_isi (by rfl) T.n_isinstance (by decide +kernel) (pa_cons (pv 0) (pa_cons (pe_bltn (v := .ty "bool") rfl T.n_bool (by decide +kernel) rfl) pa_nil)))))))), ?_⟩
    have ii : TyX K H (.int n) (.type "int") := .base (.int n)
    refine ⟨_, rfl, _, .ty "int", _, _, true, rfl, .ty _, ii, kit_ty (by decide +kernel), _, rfl, ?_⟩
    exact ⟨_, rfl, _, .ty "bool", _, _, false, rfl, .ty _, ii, kit_ty (by decide +kernel), _, rfl, k⟩
def spGcd : Sp := fun vs H Q _ => ∃ (a b : Nat), vs = [.int (a : Int), .int (b : Int)] ∧ Bd 300 (b : Int) ∧ Q (.int (Nat.gcd a b : Nat)) H
theorem ok_lgcd (T : Txt K mg A) : FnOk P w K mg base CX0 1 A.f_lgcd A.d_lgcd ["one", "two"] spGcd := by
  refine T.F_lgcd.ok sc_lgcd (fun vs H Q E h => ?_) (fun cdv Ar outer s H vs Q E hr h => ?_)
  · obtain ⟨a, b, rfl, _⟩ := h
    rfl
  · obtain ⟨a, b, rfl, bb, k⟩ := h
    refine ⟨_, (pss_cons (ps_for PassesOwn.never rfl (pi_range1 rfl T.n_range (pa_cons (pe_op op_add (pe_op op_mulW pe_int (pe_bits (pv 1))) pe_int) pa_nil)) (pg_name (i := 2) sc_lgcd.nd rfl (Or.inl rfl))
      (pss_cons (ps_if (pt_cmpR op_eq (pv 1) pe_int (nomark _))
      (pss_one ps_break) pss_nil)
      (pss_cons (ps_set (i := 3) sc_lgcd.nd rfl (Or.inl rfl) (pe_op op_mod (pe_callTy call_int1 (by rfl) T.n_int (by decide +kernel) (pa_cons (pv 0) pa_nil)) (pv 1)))
      (pss_cons (ps_set (i := 0) sc_lgcd.nd rfl (Or.inl rfl) (pv 1))
      (pss_one (ps_set (i := 1) sc_lgcd.nd rfl (Or.inl rfl) (pv 3)))))))
      (pss_one (ps_ret (pv 0)))), ?_⟩
    have few : Builtin.Int.intBits (b : Int) ≤ 300 := intBits_le_iff.mpr bb
    have lt : b < 2 ^ Builtin.Int.intBits (b : Int) := bits_lt (b : Int)
    obtain ⟨N, hN⟩ : ∃ N, N = Builtin.Int.intBits (b : Int) := ⟨_, rfl⟩
    rw [← hN] at few lt
    have bN : Bd 10 (N : Int) := by unfold Bd; omega
    have e : ((2 : Int) * (N : Int) + 2).toNat = 2 * N + 2 := by omega
    refine ⟨_, rfl, (b : Int), rfl, 2, (N : Int), rfl, (by rw [hN]), bd_two.w bN, _, _, rfl, rfl, (2 : Int) * (N : Int) + 2, rfl, by omega, by omega, ?_⟩
    rw [e]
    refine for_range (lo := 0) (n := 2 * N + 2) (fun i sl H2 => H2 = H ∧ ∃ (x y : Nat) (v1 v2 : Option V), sl = [some (.int (x : Int)), some (.int (y : Int)), v1, v2] ∧ EuN N (Nat.gcd a b) i x y) ⟨rfl, a, b, _, _, rfl, EuN.start lt⟩ ?_ ?_
    · rintro i sl H2 hi ⟨rfl, x, y, v1, v2, rfl, eu⟩
      refine ⟨_, rfl, rfl, _, rfl, ite2 (fun c => ?_) (fun c => ?_)⟩
      · have y0 : y = 0 := by have := V.int.inj (of_decide_eq_true c); omega
        subst y0
        have ex := eu.zero
        subst ex
        exact ⟨_, rfl, k⟩
      · have y0 : y ≠ 0 := fun z => c (by rw [z] <;> rfl)
        refine ⟨_, rfl, .inl ⟨_, rfl, _, rfl, _, _, rfl, rfl, (by show (0 : Int) < (y : Int); omega), _, rfl, _, rfl, rfl, y, x % y, some (.int (0 + (i : Int))), some (.int ((x : Int) % (y : Int))), ?_, eu.turn y0⟩⟩
        rw [Int.natCast_emod]
        rfl
    · rintro sl H2 ⟨rfl, x, y, v1, v2, rfl, eu⟩
      have y0 := eu.done
      subst y0
      have ex := eu.zero
      subst ex
      exact ⟨_, rfl, k⟩
theorem okH_lgcd (T : Txt K mg A) : FnH P w K mg base CX0 1 A.f_lgcd A.d_lgcd ["one", "two"] spGcd := by
  refine fun_okH T.F_lgcd sc_lgcd (fun vs H Q E h => ?_) (fun cdv Ar outer s H vs Q E pp hr hc h => ?_)
  · obtain ⟨a, b, rfl, _⟩ := h
    rfl
  · obtain ⟨a, b, rfl, bb, k⟩ := h
    refine ⟨_, (pss_cons (ps_forH (passes_of rfl) hc (pi_range1H rfl T.n_range (pa_cons (pe_op op_add (pe_op op_mulW pe_int (pe_bits (pv 1))) pe_int) pa_nil)) (pg_name (i := 2) sc_lgcd.nd rfl (Or.inl rfl))
      (pss_cons (ps_if (pt_cmpR op_eq (pv 1) pe_int (nomark _))
      (pss_one ps_break) pss_nil)
      (pss_cons (ps_set (i := 3) sc_lgcd.nd rfl (Or.inl rfl) (pe_op op_mod (pe_callTy call_int1 (by rfl) T.n_int (by decide +kernel) (pa_cons (pv 0) pa_nil)) (pv 1)))
      (pss_cons (ps_set (i := 0) sc_lgcd.nd rfl (Or.inl rfl) (pv 1))
      (pss_one (ps_set (i := 1) sc_lgcd.nd rfl (Or.inl rfl) (pv 3)))))))
      (pss_one (ps_ret (pv 0)))), ?_⟩
    have few : Builtin.Int.intBits (b : Int) ≤ 300 := intBits_le_iff.mpr bb
    have lt : b < 2 ^ Builtin.Int.intBits (b : Int) := bits_lt (b : Int)
    obtain ⟨N, hN⟩ : ∃ N, N = Builtin.Int.intBits (b : Int) := ⟨_, rfl⟩
    rw [← hN] at few lt
    have bN : Bd 10 (N : Int) := by unfold Bd; omega
    have e : ((2 : Int) * (N : Int) + 2).toNat = 2 * N + 2 := by omega
    refine ⟨_, rfl, (b : Int), rfl, 2, (N : Int), rfl, (by rw [hN]), bd_two.w bN, _, _, rfl, rfl, (2 : Int) * (N : Int) + 2, rfl, by omega, by omega, ?_⟩
    rw [e]
    refine for_range (lo := 0) (n := 2 * N + 2) (fun i sl H2 => H2 = H ∧ ∃ (x y : Nat) (v1 v2 : Option V), sl = [some (.int (x : Int)), some (.int (y : Int)), v1, v2] ∧ EuN N (Nat.gcd a b) i x y) ⟨rfl, a, b, _, _, rfl, EuN.start lt⟩ ?_ ?_
    · rintro i sl H2 hi ⟨rfl, x, y, v1, v2, rfl, eu⟩
      refine ⟨_, rfl, rfl, _, rfl, ite2 (fun c => ?_) (fun c => ?_)⟩
      · have y0 : y = 0 := by have := V.int.inj (of_decide_eq_true c); omega
        subst y0
        have ex := eu.zero
        subst ex
        exact ⟨_, rfl, k⟩
      · have y0 : y ≠ 0 := fun z => c (by rw [z] <;> rfl)
        refine ⟨_, rfl, .inl ⟨_, rfl, _, rfl, _, _, rfl, rfl, (by show (0 : Int) < (y : Int); omega), _, rfl, _, rfl, rfl, y, x % y, some (.int (0 + (i : Int))), some (.int ((x : Int) % (y : Int))), ?_, eu.turn y0⟩⟩
        rw [Int.natCast_emod]
        rfl
    · rintro sl H2 ⟨rfl, x, y, v1, v2, rfl, eu⟩
      have y0 := eu.done
      subst y0
      have ex := eu.zero
      subst ex
      exact ⟨_, rfl, k⟩
def spRead (A : Ad) : Sp := fun vs H Q _ => ∃ (t : Addr) (p : Int × Int), vs = [.ref t] ∧ RatAt A.C H t p ∧ Sm 300 p ∧ Int.gcd p.1 p.2 = 1 ∧ ∀ u H', Ex H H' → H u = none → Pr H' u p → Q (.ref u) H'
theorem ok_read (T : Txt K mg A) : FnOk P w K mg base CX0 2 A.f_read A.d_read ["told"] (spRead A) := by
  refine T.F_read.ok sc_read (fun vs H Q E h => ?_) (fun cdv Ar outer s H vs Q E hr h => ?_)
  · obtain ⟨t, p, rfl, _⟩ := h
    rfl
  · obtain ⟨t, p, rfl, ⟨dx, ht⟩, sp, cp, k⟩ := h
    refine ⟨_, (pss_cons (ps_if (pt_not (pt_val (pe_callB call_isi (by rfl) T.n_isinstance (by decide +kernel) (pa_cons (pv 0) (pa_cons (pe_glob (v := .ref A.C) rfl T.g_Ratio rfl) pa_nil)))))
      (pss_one (ps_ret pe_non)) pss_nil)
      (pss_cons (ps_set (i := 1) sc_read.nd rfl (Or.inl rfl) (pe_fld (pv 0) rfl))
      (pss_cons (ps_set (i := 2) sc_read.nd rfl (Or.inl rfl) (pe_fld (pv 0) rfl))
      (pss_cons (ps_if (PW.pt (pw_or (pt_not (pt_val (pe_call (ok_whole T) (hr.mono (by decide)) rfl T.g_whole T.F_whole.kp T.b_whole .nil pass0 (pa_cons (pv 1) pa_nil)))) (pw_or (pt_not (pt_val (pe_call (ok_whole T) (hr.mono (by decide)) rfl T.g_whole T.F_whole.kp T.b_whole .nil pass0 (pa_cons (pv 2) pa_nil)))) (pw_or1 (pt_cmpR op_lt (pv 2) pe_int (nomark _))))))
      (pss_one (ps_ret pe_non)) pss_nil)
      (pss_cons (ps_if (pt_cmpR op_ne (pe_call (ok_lgcd T) (hr.mono (by decide)) rfl T.g_lgcd T.F_lgcd.kp T.b_lgcd .nil pass0 (pa_cons (pe_callB call_abs (by rfl) T.n_abs (by decide +kernel) (pa_cons (pv 1) pa_nil)) (pa_cons (pv 2) pa_nil))) pe_int (nomark _))
      (pss_one (ps_ret pe_non)) pss_nil)
      (pss_one (ps_ret (pe_tup (pa_cons (pv 1) (pa_cons (pv 2) pa_nil)))))))))), ?_⟩
    have p0 := sp.pos
    have e1 : ((p.1.natAbs : Nat) : Int) = if p.1 < 0 then -p.1 else p.1 := by split <;> omega
    have e2 : ((p.2.natAbs : Nat) : Int) = p.2 := by omega
    have g1 : Nat.gcd p.1.natAbs p.2.natAbs = 1 := cp
    refine ⟨_, rfl, .ref t, .ref A.C, .ref A.C, .ref A.C, true, rfl, .own _, .base (.ins ht T.cl T.ha T.hn T.htk T.hm), kit_self, _, rfl, iteF ?_⟩
    refine ⟨_, rfl, _, _, _, _, _, rfl, ht, T.cl, T.nT, rf_top _, _, rfl, _, _, _, _, _, rfl, ht, T.cl, T.nB, rf_bot _, _, rfl, p.1, rfl, true, rfl, iteF ⟨_, rfl, p.2, rfl, true, rfl, iteF ⟨_, rfl, _, _, rfl, rfl, _, rfl, ?_⟩⟩⟩
    rw [decide_eq_false (by omega : ¬ p.2 < 1)]
    refine iteF ⟨_, rfl, p.1, rfl, _, rfl, p.1.natAbs, p.2.natAbs, ?_, ?_, ?_⟩
    · rw [e1, e2] <;> rfl
    · rw [e2]; exact sp.b
    · rw [g1]
      refine ⟨rfl, _, rfl, iteNS rfl ⟨_, rfl, _, rfl, (by show 2 ≤ sizeLine; exact sz2), fun u hu => ?_⟩⟩
      exact k u _ (Ex.new hu) hu upd_same
theorem okH_read (T : Txt K mg A) : FnH P w K mg base CX0 2 A.f_read A.d_read ["told"] (spRead A) := by
  refine fun_okH T.F_read sc_read (fun vs H Q E h => ?_) (fun cdv Ar outer s H vs Q E pp hr hc h => ?_)
  · obtain ⟨t, p, rfl, _⟩ := h
    rfl
  · obtain ⟨t, p, rfl, ⟨dx, ht⟩, sp, cp, k⟩ := h
    refine ⟨_, (pss_cons (ps_if (pt_not (pt_val (pe_callB call_isi (by rfl) T.n_isinstance (by decide +kernel) (pa_cons (pv 0) (pa_cons (pe_glob (v := .ref A.C) rfl T.g_Ratio rfl) pa_nil)))))
      (pss_one (ps_ret pe_non)) pss_nil)
      (pss_cons (ps_set (i := 1) sc_read.nd rfl (Or.inl rfl) (pe_fld (pv 0) rfl))
      (pss_cons (ps_set (i := 2) sc_read.nd rfl (Or.inl rfl) (pe_fld (pv 0) rfl))
      (pss_cons (ps_if (PW.pt (pw_or (pt_not (pt_val (pe_callH (okH_whole T) (hr.mono (by decide)) hc rfl T.g_whole T.F_whole.kp T.b_whole passH (pa_cons (pv 1) pa_nil)))) (pw_or (pt_not (pt_val (pe_callH (okH_whole T) (hr.mono (by decide)) hc rfl T.g_whole T.F_whole.kp T.b_whole passH (pa_cons (pv 2) pa_nil)))) (pw_or1 (pt_cmpR op_lt (pv 2) pe_int (nomark _))))))
      (pss_one (ps_ret pe_non)) pss_nil)
      (pss_cons (ps_if (pt_cmpR op_ne (pe_callH (okH_lgcd T) (hr.mono (by decide)) hc rfl T.g_lgcd T.F_lgcd.kp T.b_lgcd passH (pa_cons (pe_callB call_abs (by rfl) T.n_abs (by decide +kernel) (pa_cons (pv 1) pa_nil)) (pa_cons (pv 2) pa_nil))) pe_int (nomark _))
      (pss_one (ps_ret pe_non)) pss_nil)
      (pss_one (ps_ret (pe_tup (pa_cons (pv 1) (pa_cons (pv 2) pa_nil)))))))))), ?_⟩
    have p0 := sp.pos
    have e1 : ((p.1.natAbs : Nat) : Int) = if p.1 < 0 then -p.1 else p.1 := by split <;> omega
    have e2 : ((p.2.natAbs : Nat) : Int) = p.2 := by omega
    have g1 : Nat.gcd p.1.natAbs p.2.natAbs = 1 := cp
    refine ⟨_, rfl, .ref t, .ref A.C, .ref A.C, .ref A.C, true, rfl, .own _, .base (.ins ht T.cl T.ha T.hn T.htk T.hm), kit_self, _, rfl, iteF ?_⟩
    refine ⟨_, rfl, _, _, _, _, _, rfl, ht, T.cl, T.nT, rf_top _, _, rfl, _, _, _, _, _, rfl, ht, T.cl, T.nB, rf_bot _, _, rfl, p.1, rfl, true, rfl, iteF ⟨_, rfl, p.2, rfl, true, rfl, iteF ⟨_, rfl, _, _, rfl, rfl, _, rfl, ?_⟩⟩⟩
    rw [decide_eq_false (by omega : ¬ p.2 < 1)]
    refine iteF ⟨_, rfl, p.1, rfl, _, rfl, p.1.natAbs, p.2.natAbs, ?_, ?_, ?_⟩
    · rw [e1, e2] <;> rfl
    · rw [e2]; exact sp.b
    · rw [g1]
      refine ⟨rfl, _, rfl, iteNS rfl ⟨_, rfl, _, rfl, (by show 2 ≤ sizeLine; exact sz2), fun u hu => ?_⟩⟩
      exact k u _ (Ex.new hu) hu upd_same
def spSame (A : Ad) : Sp := fun vs H Q _ => ∃ (t d : Addr) (r : Rat) (q : Int × Int), vs = [.ref t, .ref d] ∧ RatV A.C H 300 t r ∧ Pr H d q ∧ Sm 1000 q ∧ vl q = r ∧ ∀ H', Ex H H' → Q (.bl true) H'
theorem ok_same (T : Txt K mg A) : FnOk P w K mg base CX0 3 A.f_same A.d_same ["told", "due"] (spSame A) := by
  refine T.F_same.ok sc_same (fun vs H Q E h => ?_) (fun cdv Ar outer s H vs Q E hr h => ?_)
  · obtain ⟨t, d, r, q, rfl, _⟩ := h
    rfl
  · obtain ⟨t, d, r, q, rfl, ⟨p, hp, sp, cp, vp⟩, hd, sq, vq, k⟩ := h
    refine ⟨_, (pss_cons (ps_set (i := 2) sc_same.nd rfl (Or.inl rfl) (pe_call (ok_read T) (hr.mono (by decide)) rfl T.g_read T.F_read.kp T.b_read .nil pass0 (pa_cons (pv 0) pa_nil)))
      (pss_one (ps_ret (pe_and (pe_cmp (pc_notN (pv 2)) rfl) (pe_one (pe_cmpR op_eq (pe_op op_mulW (pe_ix ix_tup (pv 2) pe_int (fun _ _ => rfl)) (pe_ix ix_tup (pv 1) pe_int (fun _ _ => rfl))) (pe_op op_mulW (pe_ix ix_tup (pv 1) pe_int (fun _ _ => rfl)) (pe_ix ix_tup (pv 2) pe_int (fun _ _ => rfl))) (nomark _))))))), ?_⟩
    refine ⟨_, rfl, t, p, rfl, hp, sp, cp, fun u H1 e1 nu hu => ?_⟩
    have hd1 : Pr H1 d q := e1 _ _ hd
    refine ⟨_, rfl, _, rfl, iteT ⟨_, rfl, _, _, _, _, rfl, rfl, SqT.of (hu), rfl, _, rfl, _, _, _, _, rfl, rfl, SqT.of (hd1), rfl, _, _, rfl, rfl, sp.t.w sq.b, _, rfl, _, _, _, _, rfl, rfl, SqT.of (hd1), rfl, _, rfl, _, _, _, _, rfl, rfl, SqT.of (hu), rfl, _, _, rfl, rfl, sq.t.w sp.b, rfl, ?_⟩⟩
    have e : p.1 * q.2 = q.1 * p.2 := vl_eq sp.pos sq.pos (vp.trans vq.symm)
    show Q (V.bl (decide (V.int (p.1 * q.2) = V.int (q.1 * p.2)))) H1
    rw [decide_eq_true (by rw [e])]
    exact k H1 e1
end
end Fc
set_option Elab.async false
set_option linter.all false
set_option maxRecDepth 100000
set_option maxHeartbeats 8000000
set_option exponentiation.threshold 100000
namespace Fc
open PySem PySem.Spec PyProof.Rows L2 L2H
section
variable {P : Program} {w : World} {K : PySem.W.Frag} {mg : Str → Option Value} {base : Heap} {A : Ad}
def spDrawQ : Sp := fun vs H Q _ => ∃ (pt l : Addr) (k : Int), vs = [.ref pt, .int k] ∧ PotL H pt l ∧ 0 ≤ k ∧ k ≤ 1 ∧
  ∀ t p H', Pr H' t p → Sm 110 p → Int.gcd p.1 p.2 = 1 → PotL H' pt l → Keep pt H H' → Q (.ref t) H'
theorem ok_drawq (T : Txt K mg A) : FnOk P w K mg base CX0 3 A.f_drawq A.d_drawq ["pot", "k"] spDrawQ := by
  refine T.F_drawq.ok sc_drawq (fun vs H Q E h => ?_) (fun cdv Ar outer s H vs Q E hr h => ?_)
  · obtain ⟨pt, l, kk, rfl, _⟩ := h
    rfl
  · obtain ⟨pt, l, kk, rfl, pot, kk0, kk1, k⟩ := h
    refine ⟨_, (C8.pss_cut (ps_set (i := 2) sc_drawq.nd rfl (Or.inl rfl) (pe_call (ok_digit T) (hr.mono (by decide)) rfl T.g_digit T.F_digit.kp T.b_digit .nil pass0 (pa_cons (pv 0) (pa_cons pe_int pa_nil))))
      (C8.pss_cut (ps_if (pt_cmpR op_lt (pv 2) pe_int (nomark _))
      (pss_cons (ps_set (i := 3) sc_drawq.nd rfl (Or.inl rfl) (pe_op op_add pe_int (pe_op op_mod (pe_callTy call_int1 (by rfl) T.n_int (by decide +kernel) (pa_cons (pe_op op_add (pe_op op_add (pe_call (ok_digit T) (hr.mono (by decide)) rfl T.g_digit T.F_digit.kp T.b_digit .nil pass0 (pa_cons (pv 0) (pa_cons pe_int pa_nil))) pe_int) (pv 1)) pa_nil)) pe_int)))
      (pss_one (ps_set (i := 4) sc_drawq.nd rfl (Or.inl rfl) (pe_op op_add (pe_op op_add (pv 3) pe_int) (pe_call (ok_digit T) (hr.mono (by decide)) rfl T.g_digit T.F_digit.kp T.b_digit .nil pass0 (pa_cons (pv 0) (pa_cons (pe_op op_mulW pe_int (pv 3)) pa_nil))))))) (pss_one (ps_if (pt_cmpR op_eq (pv 2) pe_int (nomark _))
      (pss_cons (ps_set (i := 5) sc_drawq.nd rfl (Or.inl rfl) (pe_lst (pa_cons (pe_tup (pa_cons pe_int (pa_cons pe_int pa_nil))) (pa_cons (pe_tup (pa_cons pe_int (pa_cons pe_int pa_nil))) (pa_cons (pe_tup (pa_cons pe_int (pa_cons pe_int pa_nil))) (pa_cons (pe_tup (pa_cons pe_int (pa_cons pe_int pa_nil))) (pa_cons (pe_tup (pa_cons pe_int (pa_cons pe_int pa_nil))) (pa_cons (pe_tup (pa_cons pe_int (pa_cons pe_int pa_nil))) (pa_cons (pe_tup (pa_cons (pe_un un_neg pe_int) (pa_cons pe_int pa_nil))) (pa_cons (pe_tup (pa_cons pe_int (pa_cons pe_int pa_nil))) pa_nil))))))))))
      (pss_cons (ps_set (i := 5) sc_drawq.nd rfl (Or.inl rfl) (pe_op op_cat (pv 5) (pe_lst (pa_cons (pe_tup (pa_cons pe_int (pa_cons pe_int pa_nil))) (pa_cons (pe_tup (pa_cons pe_int (pa_cons pe_int pa_nil))) (pa_cons (pe_tup (pa_cons pe_int (pa_cons pe_int pa_nil))) (pa_cons (pe_tup (pa_cons pe_int (pa_cons pe_int pa_nil))) (pa_cons (pe_tup (pa_cons pe_int (pa_cons pe_int pa_nil))) (pa_cons (pe_tup (pa_cons pe_int (pa_cons pe_int pa_nil))) (pa_cons (pe_tup (pa_cons pe_int (pa_cons pe_int pa_nil))) (pa_cons (pe_tup (pa_cons pe_int (pa_cons pe_int pa_nil))) pa_nil)))))))))))
      (pss_one (ps_asg (pe_ix ix_list (pv 5) (pe_call (ok_digit T) (hr.mono (by decide)) rfl T.g_digit T.F_digit.kp T.b_digit .nil pass0 (pa_cons (pv 0) (pa_cons pe_int pa_nil))) (fun _ _ => rfl)) (pg_tup rfl (pgs_cons (pg_name (i := 4) sc_drawq.nd rfl (Or.inl rfl)) (pgs_cons (pg_name (i := 3) sc_drawq.nd rfl (Or.inl rfl)) pgs_nil))))))) (pss_one (ps_if (pt_cmpR op_eq (pv 2) pe_int (nomark _))
      (pss_cons (ps_set (i := 3) sc_drawq.nd rfl (Or.inl rfl) (pe_op op_add pe_int (pe_call (ok_digit T) (hr.mono (by decide)) rfl T.g_digit T.F_digit.kp T.b_digit .nil pass0 (pa_cons (pv 0) (pa_cons pe_int pa_nil)))))
      (pss_one (ps_set (i := 4) sc_drawq.nd rfl (Or.inl rfl) (pe_op op_add (pe_op op_add (pv 3) pe_int) (pe_call (ok_digit T) (hr.mono (by decide)) rfl T.g_digit T.F_digit.kp T.b_digit .nil pass0 (pa_cons (pv 0) (pa_cons (pe_op op_mulW pe_int (pv 3)) pa_nil))))))) (pss_cons (ps_set (i := 3) sc_drawq.nd rfl (Or.inl rfl) (pe_op op_add pe_int (pe_call (ok_digit T) (hr.mono (by decide)) rfl T.g_digit T.F_digit.kp T.b_digit .nil pass0 (pa_cons (pv 0) (pa_cons pe_int pa_nil)))))
      (pss_cons (ps_set (i := 4) sc_drawq.nd rfl (Or.inl rfl) (pe_op op_sub (pe_call (ok_digit T) (hr.mono (by decide)) rfl T.g_digit T.F_digit.kp T.b_digit .nil pass0 (pa_cons (pv 0) (pa_cons pe_int pa_nil))) pe_int))
      (pss_one (ps_if (pt_cmpR op_eq (pe_call (ok_digit T) (hr.mono (by decide)) rfl T.g_digit T.F_digit.kp T.b_digit .nil pass0 (pa_cons (pv 0) (pa_cons pe_int pa_nil))) pe_int (nomark _))
      (pss_one (ps_set (i := 4) sc_drawq.nd rfl (Or.inl rfl) (pe_op op_add (pv 4) (pe_op op_pow pe_int pe_int)))) pss_nil)))))))))
      (pss_cons (ps_set (i := 6) sc_drawq.nd rfl (Or.inl rfl) (pe_call (ok_lgcd T) (hr.mono (by decide)) rfl T.g_lgcd T.F_lgcd.kp T.b_lgcd .nil pass0 (pa_cons (pe_callB call_abs (by rfl) T.n_abs (by decide +kernel) (pa_cons (pv 4) pa_nil)) (pa_cons (pv 3) pa_nil))))
      (pss_one (ps_ret (pe_tup (pa_cons (pe_op op_fdivW (pv 4) (pv 6)) (pa_cons (pe_op op_fdivW (pv 3) (pv 6)) pa_nil)))))))), ?_⟩
    refine ⟨fun sl H' => ∃ kd : Int, sl = [some (.ref pt), some (.int kk), some (.int kd), none, none, none, none] ∧ PotL H' pt l ∧ Keep pt H H', ?_, ?_⟩
    · exact ⟨_, rfl, pt, l, 8, rfl, pot, by decide, bd_of (by decide), fun d0 H0 a0 b0 pot0 k0 => ⟨_, rfl, pot0, k0⟩⟩
    rintro sl H0 ⟨kd, rfl, pot0, k0⟩
    refine ⟨fun sl H' => ∃ (b t : Int) (fx : Option V), sl = [some (.ref pt), some (.int kk), some (.int kd), some (.int b), some (.int t), fx, none] ∧ 0 < b ∧ Bd 8 b ∧ Bd 110 t ∧ PotL H' pt l ∧ Keep pt H H', ?_, ?_⟩
    · refine ⟨_, rfl, _, _, rfl, rfl, _, rfl, ite2 (fun _ => ?_) (fun _ => ?_)⟩
      · refine ⟨_, rfl, pt, l, 12, rfl, pot0, by decide, bd_of (by decide), fun d H2 d0 d1 pot2 k2 => ?_⟩
        refine ⟨_, _, rfl, rfl, _, rfl, _, _, rfl, rfl, .inl ⟨_, rfl, _, _, rfl, rfl, (by decide : (0 : Int) < 12), _, _, rfl, rfl, ?_⟩⟩
        have r0 := Int.emod_nonneg (d + 1 + kk) (by decide : (12 : Int) ≠ 0)
        have r1 := Int.emod_lt_of_pos (d + 1 + kk) (by decide : (0 : Int) < 12)
        have bb : Bd 8 (1 + (d + 1 + kk) % 12) := by unfold Bd; omega
        refine ⟨_, rfl, _, _, rfl, rfl, _, rfl, _, rfl, _, _, rfl, rfl, (bd_of (by decide) : Bd 2 (3 : Int)).w bb, pt, l, _, rfl, pot2, (by show 0 < 3 * (1 + (d + 1 + kk) % 12); omega), ((bd_of (by decide) : Bd 2 (3 : Int)).mul bb).mono (by decide), fun d2 H3 e0 e1 pot3 k3 => ?_⟩
        have e1' : d2 < 3 * (1 + (d + 1 + kk) % 12) := e1
        refine ⟨_, _, rfl, rfl, _, _, _, rfl, by omega, bb, ?_, pot3, (k0.trans k2).trans k3⟩
        exact (by unfold Bd; omega : Bd 8 (1 + (d + 1 + kk) % 12 + 1 + d2)).mono (by decide)
      refine ⟨_, rfl, rfl, _, rfl, ite2 (fun _ => ?_) (fun _ => ?_)⟩
      · -- the written ones
        refine ⟨(by show 2 ≤ sizeLine; exact sz2), fun u1 hu1 => ?_⟩
        have x1 : Ex H0 (upd H0 u1 (.tup [.int (1), .int 1])) := Ex.new hu1
        have y1 : Pr (upd H0 u1 (.tup [.int (1), .int 1])) u1 (1, 1) := upd_same
        generalize upd H0 u1 (.tup [.int (1), .int 1]) = J1 at x1 y1 ⊢
        refine ⟨(by show 2 ≤ sizeLine; exact sz2), fun u2 hu2 => ?_⟩
        have x2 : Ex J1 (upd J1 u2 (.tup [.int (4), .int 1])) := Ex.new hu2
        have y2 : Pr (upd J1 u2 (.tup [.int (4), .int 1])) u2 (4, 1) := upd_same
        generalize upd J1 u2 (.tup [.int (4), .int 1]) = J2 at x2 y2 ⊢
        refine ⟨(by show 2 ≤ sizeLine; exact sz2), fun u3 hu3 => ?_⟩
        have x3 : Ex J2 (upd J2 u3 (.tup [.int (49), .int 12])) := Ex.new hu3
        have y3 : Pr (upd J2 u3 (.tup [.int (49), .int 12])) u3 (49, 12) := upd_same
        generalize upd J2 u3 (.tup [.int (49), .int 12]) = J3 at x3 y3 ⊢
        refine ⟨(by show 2 ≤ sizeLine; exact sz2), fun u4 hu4 => ?_⟩
        have x4 : Ex J3 (upd J3 u4 (.tup [.int (13), .int 12])) := Ex.new hu4
        have y4 : Pr (upd J3 u4 (.tup [.int (13), .int 12])) u4 (13, 12) := upd_same
        generalize upd J3 u4 (.tup [.int (13), .int 12]) = J4 at x4 y4 ⊢
        refine ⟨(by show 2 ≤ sizeLine; exact sz2), fun u5 hu5 => ?_⟩
        have x5 : Ex J4 (upd J4 u5 (.tup [.int (14), .int 13])) := Ex.new hu5
        have y5 : Pr (upd J4 u5 (.tup [.int (14), .int 13])) u5 (14, 13) := upd_same
        generalize upd J4 u5 (.tup [.int (14), .int 13]) = J5 at x5 y5 ⊢
        refine ⟨(by show 2 ≤ sizeLine; exact sz2), fun u6 hu6 => ?_⟩
        have x6 : Ex J5 (upd J5 u6 (.tup [.int (0), .int 1])) := Ex.new hu6
        have y6 : Pr (upd J5 u6 (.tup [.int (0), .int 1])) u6 (0, 1) := upd_same
        generalize upd J5 u6 (.tup [.int (0), .int 1]) = J6 at x6 y6 ⊢
        refine ⟨3, rfl, (by show 2 ≤ sizeLine; exact sz2), fun u7 hu7 => ?_⟩
        have x7 : Ex J6 (upd J6 u7 (.tup [.int (-3), .int 2])) := Ex.new hu7
        have y7 : Pr (upd J6 u7 (.tup [.int (-3), .int 2])) u7 (-3, 2) := upd_same
        generalize upd J6 u7 (.tup [.int (-3), .int 2]) = J7 at x7 y7 ⊢
        refine ⟨(by show 2 ≤ sizeLine; exact sz2), fun u8 hu8 => ?_⟩
        have x8 : Ex J7 (upd J7 u8 (.tup [.int (47), .int 12])) := Ex.new hu8
        have y8 : Pr (upd J7 u8 (.tup [.int (47), .int 12])) u8 (47, 12) := upd_same
        generalize upd J7 u8 (.tup [.int (47), .int 12]) = J8 at x8 y8 ⊢
        refine ⟨(by show 8 ≤ sizeLine; rw [sizeLine_eq]; decide), fun fx hfx => ?_⟩
        have z1 : Ex J8 (upd J8 fx (.lst [.ref u1, .ref u2, .ref u3, .ref u4, .ref u5, .ref u6, .ref u7, .ref u8])) := Ex.new hfx
        have w1 : upd J8 fx (.lst [.ref u1, .ref u2, .ref u3, .ref u4, .ref u5, .ref u6, .ref u7, .ref u8]) fx = some (.lst [.ref u1, .ref u2, .ref u3, .ref u4, .ref u5, .ref u6, .ref u7, .ref u8]) := upd_same
        generalize upd J8 fx (.lst [.ref u1, .ref u2, .ref u3, .ref u4, .ref u5, .ref u6, .ref u7, .ref u8]) = K1 at z1 w1 ⊢
        refine ⟨_, rfl, ?_⟩
        refine ⟨(by show 2 ≤ sizeLine; exact sz2), fun u9 hu9 => ?_⟩
        have x9 : Ex K1 (upd K1 u9 (.tup [.int (12), .int 13])) := Ex.new hu9
        have y9 : Pr (upd K1 u9 (.tup [.int (12), .int 13])) u9 (12, 13) := upd_same
        generalize upd K1 u9 (.tup [.int (12), .int 13]) = J9 at x9 y9 ⊢
        refine ⟨(by show 2 ≤ sizeLine; exact sz2), fun u10 hu10 => ?_⟩
        have x10 : Ex J9 (upd J9 u10 (.tup [.int (2), .int 1])) := Ex.new hu10
        have y10 : Pr (upd J9 u10 (.tup [.int (2), .int 1])) u10 (2, 1) := upd_same
        generalize upd J9 u10 (.tup [.int (2), .int 1]) = J10 at x10 y10 ⊢
        refine ⟨(by show 2 ≤ sizeLine; exact sz2), fun u11 hu11 => ?_⟩
        have x11 : Ex J10 (upd J10 u11 (.tup [.int (51), .int 13])) := Ex.new hu11
        have y11 : Pr (upd J10 u11 (.tup [.int (51), .int 13])) u11 (51, 13) := upd_same
        generalize upd J10 u11 (.tup [.int (51), .int 13]) = J11 at x11 y11 ⊢
        refine ⟨(by show 2 ≤ sizeLine; exact sz2), fun u12 hu12 => ?_⟩
        have x12 : Ex J11 (upd J11 u12 (.tup [.int (11), .int 12])) := Ex.new hu12
        have y12 : Pr (upd J11 u12 (.tup [.int (11), .int 12])) u12 (11, 12) := upd_same
        generalize upd J11 u12 (.tup [.int (11), .int 12]) = J12 at x12 y12 ⊢
        refine ⟨(by show 2 ≤ sizeLine; exact sz2), fun u13 hu13 => ?_⟩
        have x13 : Ex J12 (upd J12 u13 (.tup [.int (48), .int 12])) := Ex.new hu13
        have y13 : Pr (upd J12 u13 (.tup [.int (48), .int 12])) u13 (48, 12) := upd_same
        generalize upd J12 u13 (.tup [.int (48), .int 12]) = J13 at x13 y13 ⊢
        refine ⟨(by show 2 ≤ sizeLine; exact sz2), fun u14 hu14 => ?_⟩
        have x14 : Ex J13 (upd J13 u14 (.tup [.int (25), .int 6])) := Ex.new hu14
        have y14 : Pr (upd J13 u14 (.tup [.int (25), .int 6])) u14 (25, 6) := upd_same
        generalize upd J13 u14 (.tup [.int (25), .int 6]) = J14 at x14 y14 ⊢
        refine ⟨(by show 2 ≤ sizeLine; exact sz2), fun u15 hu15 => ?_⟩
        have x15 : Ex J14 (upd J14 u15 (.tup [.int (53), .int 13])) := Ex.new hu15
        have y15 : Pr (upd J14 u15 (.tup [.int (53), .int 13])) u15 (53, 13) := upd_same
        generalize upd J14 u15 (.tup [.int (53), .int 13]) = J15 at x15 y15 ⊢
        refine ⟨(by show 2 ≤ sizeLine; exact sz2), fun u16 hu16 => ?_⟩
        have x16 : Ex J15 (upd J15 u16 (.tup [.int (3), .int 1])) := Ex.new hu16
        have y16 : Pr (upd J15 u16 (.tup [.int (3), .int 1])) u16 (3, 1) := upd_same
        generalize upd J15 u16 (.tup [.int (3), .int 1]) = J16 at x16 y16 ⊢
        refine ⟨(by show 8 ≤ sizeLine; rw [sizeLine_eq]; decide), fun fy hfy => ?_⟩
        have z2 : Ex J16 (upd J16 fy (.lst [.ref u9, .ref u10, .ref u11, .ref u12, .ref u13, .ref u14, .ref u15, .ref u16])) := Ex.new hfy
        have w2 : upd J16 fy (.lst [.ref u9, .ref u10, .ref u11, .ref u12, .ref u13, .ref u14, .ref u15, .ref u16]) fy = some (.lst [.ref u9, .ref u10, .ref u11, .ref u12, .ref u13, .ref u14, .ref u15, .ref u16]) := upd_same
        generalize upd J16 fy (.lst [.ref u9, .ref u10, .ref u11, .ref u12, .ref u13, .ref u14, .ref u15, .ref u16]) = K2 at z2 w2 ⊢
        have c16 : Ex J16 K2 := z2
        have c15 : Ex J15 K2 := x16.trans c16
        have c14 : Ex J14 K2 := x15.trans c15
        have c13 : Ex J13 K2 := x14.trans c14
        have c12 : Ex J12 K2 := x13.trans c13
        have c11 : Ex J11 K2 := x12.trans c12
        have c10 : Ex J10 K2 := x11.trans c11
        have c9 : Ex J9 K2 := x10.trans c10
        have ck : Ex K1 K2 := x9.trans c9
        have c8 : Ex J8 K2 := z1.trans ck
        have c7 : Ex J7 K2 := x8.trans c8
        have c6 : Ex J6 K2 := x7.trans c7
        have c5 : Ex J5 K2 := x6.trans c6
        have c4 : Ex J4 K2 := x5.trans c5
        have c3 : Ex J3 K2 := x4.trans c4
        have c2 : Ex J2 K2 := x3.trans c3
        have c1 : Ex J1 K2 := x2.trans c2
        have c0 : Ex H0 K2 := x1.trans c1
        refine ⟨fx, fy, _, _, rfl, rfl, ck _ _ w1, w2, (by show 8 + 8 ≤ sizeLine; rw [sizeLine_eq]; decide), fun fz hfz => ?_⟩
        have z3 : Ex K2 (upd K2 fz (.lst ([.ref u1, .ref u2, .ref u3, .ref u4, .ref u5, .ref u6, .ref u7, .ref u8] ++ [.ref u9, .ref u10, .ref u11, .ref u12, .ref u13, .ref u14, .ref u15, .ref u16]))) := Ex.new hfz
        have w3 : upd K2 fz (.lst ([.ref u1, .ref u2, .ref u3, .ref u4, .ref u5, .ref u6, .ref u7, .ref u8] ++ [.ref u9, .ref u10, .ref u11, .ref u12, .ref u13, .ref u14, .ref u15, .ref u16])) fz = some (.lst [.ref u1, .ref u2, .ref u3, .ref u4, .ref u5, .ref u6, .ref u7, .ref u8, .ref u9, .ref u10, .ref u11, .ref u12, .ref u13, .ref u14, .ref u15, .ref u16]) := upd_same
        generalize upd K2 fz (.lst ([.ref u1, .ref u2, .ref u3, .ref u4, .ref u5, .ref u6, .ref u7, .ref u8] ++ [.ref u9, .ref u10, .ref u11, .ref u12, .ref u13, .ref u14, .ref u15, .ref u16])) = K3 at z3 w3 ⊢
        have e3 := c0.trans z3
        have nz : fz ≠ pt := fun e => by
          obtain ⟨cs, i, c, ne, q1, q2, _⟩ := pot0.ex c0
          rw [e, q1] at hfz
          cases hfz
        have good : ∀ d : Int, 0 ≤ d → d < 16 → ∃ (u : Addr) (a b : Int), atI ([.ref u1, .ref u2, .ref u3, .ref u4, .ref u5, .ref u6, .ref u7, .ref u8, .ref u9, .ref u10, .ref u11, .ref u12, .ref u13, .ref u14, .ref u15, .ref u16] : List V) d = some (.ref u) ∧ Pr K2 u (a, b) ∧ 0 < b ∧ Bd 8 b ∧ Bd 110 a := by
          intro d d0 d1
          have : d = 0 ∨ d = 1 ∨ d = 2 ∨ d = 3 ∨ d = 4 ∨ d = 5 ∨ d = 6 ∨ d = 7 ∨ d = 8 ∨ d = 9 ∨ d = 10 ∨ d = 11 ∨ d = 12 ∨ d = 13 ∨ d = 14 ∨ d = 15 := by omega
          rcases this with rfl | rfl | rfl | rfl | rfl | rfl | rfl | rfl | rfl | rfl | rfl | rfl | rfl | rfl | rfl | rfl
          · exact ⟨u1, 1, 1, rfl, c1 _ _ y1, by decide, bd_of (by decide), bd_of (by decide +kernel)⟩
          · exact ⟨u2, 4, 1, rfl, c2 _ _ y2, by decide, bd_of (by decide), bd_of (by decide +kernel)⟩
          · exact ⟨u3, 49, 12, rfl, c3 _ _ y3, by decide, bd_of (by decide), bd_of (by decide +kernel)⟩
          · exact ⟨u4, 13, 12, rfl, c4 _ _ y4, by decide, bd_of (by decide), bd_of (by decide +kernel)⟩
          · exact ⟨u5, 14, 13, rfl, c5 _ _ y5, by decide, bd_of (by decide), bd_of (by decide +kernel)⟩
          · exact ⟨u6, 0, 1, rfl, c6 _ _ y6, by decide, bd_of (by decide), bd_of (by decide +kernel)⟩
          · exact ⟨u7, -3, 2, rfl, c7 _ _ y7, by decide, bd_of (by decide), bd_of (by decide +kernel)⟩
          · exact ⟨u8, 47, 12, rfl, c8 _ _ y8, by decide, bd_of (by decide), bd_of (by decide +kernel)⟩
          · exact ⟨u9, 12, 13, rfl, c9 _ _ y9, by decide, bd_of (by decide), bd_of (by decide +kernel)⟩
          · exact ⟨u10, 2, 1, rfl, c10 _ _ y10, by decide, bd_of (by decide), bd_of (by decide +kernel)⟩
          · exact ⟨u11, 51, 13, rfl, c11 _ _ y11, by decide, bd_of (by decide), bd_of (by decide +kernel)⟩
          · exact ⟨u12, 11, 12, rfl, c12 _ _ y12, by decide, bd_of (by decide), bd_of (by decide +kernel)⟩
          · exact ⟨u13, 48, 12, rfl, c13 _ _ y13, by decide, bd_of (by decide), bd_of (by decide +kernel)⟩
          · exact ⟨u14, 25, 6, rfl, c14 _ _ y14, by decide, bd_of (by decide), bd_of (by decide +kernel)⟩
          · exact ⟨u15, 53, 13, rfl, c15 _ _ y15, by decide, bd_of (by decide), bd_of (by decide +kernel)⟩
          · exact ⟨u16, 3, 1, rfl, c16 _ _ y16, by decide, bd_of (by decide), bd_of (by decide +kernel)⟩
        refine ⟨_, rfl, _, rfl, pt, l, 16, rfl, pot0.ex e3, by decide, bd_of (by decide), fun d H2 d0 d1 pot2 k2 => ?_⟩
        obtain ⟨u, a, b, at_, hu, b0, bb, ba⟩ := good d d0 d1
        have hu2 : Pr H2 u (a, b) := (hu.ex z3).nl ((pot0.ex e3).nl k2)
        refine ⟨fz, _, d, _, rfl, rfl, SqL.of (k2 _ _ w3 nz), at_, ?_⟩
        exact ⟨u, _, rfl, SqT.of hu2, rfl, _, _, rfl, _, _, rfl, rfl, b, a, _, rfl, b0, bb, ba, pot2, k0.trans ((Keep.of e3).trans k2)⟩
      refine ⟨_, rfl, rfl, _, rfl, ite2 (fun _ => ?_) (fun _ => ?_)⟩
      · refine ⟨_, rfl, pt, l, 18, rfl, pot0, by decide, bd_of (by decide), fun d H2 d0 d1 pot2 k2 => ?_⟩
        have bb : Bd 8 (13 + d) := by unfold Bd; omega
        refine ⟨_, _, rfl, rfl, _, rfl, _, _, rfl, rfl, _, rfl, _, rfl, _, _, rfl, rfl, (bd_of (by decide) : Bd 2 (3 : Int)).w bb, pt, l, _, rfl, pot2, (by show 0 < 3 * (13 + d); omega), ((bd_of (by decide) : Bd 2 (3 : Int)).mul bb).mono (by decide), fun d2 H3 e0 e1 pot3 k3 => ?_⟩
        have e1' : d2 < 3 * (13 + d) := e1
        refine ⟨_, _, rfl, rfl, _, _, _, rfl, by omega, bb, ?_, pot3, (k0.trans k2).trans k3⟩
        exact (by unfold Bd; omega : Bd 8 (13 + d + 1 + d2)).mono (by decide)
      · refine ⟨_, rfl, pt, l, 12, rfl, pot0, by decide, bd_of (by decide), fun d H2 d0 d1 pot2 k2 => ?_⟩
        have bb : Bd 8 (1 + d) := by unfold Bd; omega
        refine ⟨_, _, rfl, rfl, _, rfl, pt, l, 60, rfl, pot2, by decide, bd_of (by decide), fun d2 H3 e0 e1 pot3 k3 => ?_⟩
        have bt : Bd 8 (d2 - 12) := by unfold Bd; omega
        refine ⟨_, _, rfl, rfl, _, rfl, pt, l, 4, rfl, pot3, by decide, bd_of (by decide), fun d3 H4 f0 f1 pot4 k4 => ?_⟩
        have kk4 := ((k0.trans k2).trans k3).trans k4
        refine ⟨rfl, _, rfl, ite2 (fun _ => ?_) (fun _ => ⟨_, _, _, rfl, by omega, bb, bt.mono (by decide), pot4, kk4⟩)⟩
        refine ⟨_, rfl, _, _, rfl, rfl, cpow 10 30 (by decide) (by decide), _, _, rfl, rfl, _, _, _, rfl, by omega, bb, ?_, pot4, kk4⟩
        exact ((bt.mono (by decide) : Bd 101 _).add (by show ((10 : Int) ^ 30).natAbs < 2 ^ 101; decide +kernel : Bd 101 ((10 : Int) ^ (30 : Int).toNat))).mono (by decide)
    clear pot0 k0
    rintro sl H1 ⟨b, t, fx, rfl, b0, bb, bt, pot1, k1⟩
    have e1 : ((t.natAbs : Nat) : Int) = if t < 0 then -t else t := by split <;> omega
    have e2 : ((b.natAbs : Nat) : Int) = b := by omega
    have g0 : 0 < Int.gcd t b := Int.gcd_pos_of_ne_zero_right t (by omega)
    have gb : Bd 8 ((Int.gcd t b : Nat) : Int) := bb.abs (by
      have := Nat.le_of_dvd (by omega : 0 < b.natAbs) (Nat.gcd_dvd_right t.natAbs b.natAbs)
      show ((Nat.gcd t.natAbs b.natAbs : Nat) : Int).natAbs ≤ _
      omega)
    have lo_ : lo t b = (t / ((Int.gcd t b : Nat) : Int), b / ((Int.gcd t b : Nat) : Int)) := by
      unfold lo
      rw [if_neg (by omega)]
    have gp : (0 : Int) < ((Nat.gcd t.natAbs b.natAbs : Nat) : Int) := by have : 0 < Nat.gcd t.natAbs b.natAbs := g0; omega
    refine ⟨_, rfl, t, rfl, _, rfl, t.natAbs, b.natAbs, (by rw [e1, e2] <;> rfl), (by rw [e2]; exact bb.mono (by decide)), ?_⟩
    refine ⟨_, rfl, _, rfl, _, _, rfl, rfl, gb.div gp, _, rfl, _, rfl, _, _, rfl, rfl, gb.div gp, (by show 2 ≤ sizeLine; exact sz2), fun u hu => ?_⟩
    refine k u (lo t b) _ ?_ ((Sm.lo bt (bb.mono (by decide)) (by omega))) (lo_cop (by omega)) (pot1.ex (Ex.new hu)) (k1.trans (Keep.new hu))
    rw [lo_]
    exact upd_same
def spDrawD : Sp := fun vs H Q _ => ∃ (pt l : Addr) (k : Int), vs = [.ref pt, .int k] ∧ PotL H pt l ∧ 0 ≤ k ∧ k ≤ 1 ∧ ∀ d H', Bd 10 d → PotL H' pt l → Keep pt H H' → Q (.int d) H'
theorem ok_drawd (T : Txt K mg A) : FnOk P w K mg base CX0 2 A.f_drawd A.d_drawd ["pot", "k"] spDrawD := by
  refine T.F_drawd.ok sc_drawd (fun vs H Q E h => ?_) (fun cdv Ar outer s H vs Q E hr h => ?_)
  · obtain ⟨pt, l, kk, rfl, _⟩ := h
    rfl
  · obtain ⟨pt, l, kk, rfl, pot, kk0, kk1, k⟩ := h
    refine ⟨_, (pss_cons (ps_set (i := 2) sc_drawd.nd rfl (Or.inl rfl) (pe_call (ok_digit T) (hr.mono (by decide)) rfl T.g_digit T.F_digit.kp T.b_digit .nil pass0 (pa_cons (pv 0) (pa_cons pe_int pa_nil))))
      (pss_cons (ps_if (pt_cmpR op_lt (pv 2) pe_int (nomark _))
      (pss_one (ps_ret (pe_op op_add pe_int (pe_op op_mod (pe_callTy call_int1 (by rfl) T.n_int (by decide +kernel) (pa_cons (pe_op op_add (pe_op op_add (pv 2) pe_int) (pv 1)) pa_nil)) pe_int)))) pss_nil)
      (pss_cons (ps_if (pt_cmpR op_lt (pv 2) pe_int (nomark _))
      (pss_one (ps_ret pe_int)) pss_nil)
      (pss_cons (ps_set (i := 3) sc_drawd.nd rfl (Or.inl rfl) (pe_call (ok_digit T) (hr.mono (by decide)) rfl T.g_digit T.F_digit.kp T.b_digit .nil pass0 (pa_cons (pv 0) (pa_cons pe_int pa_nil))))
      (pss_cons (ps_if (pt_cmpR op_eq (pv 2) pe_int (nomark _))
      (pss_one (ps_ret (pe_op op_sub (pe_un un_neg pe_int) (pv 3)))) pss_nil)
      (pss_one (ps_ret (pe_op op_add pe_int (pv 3))))))))), ?_⟩
    refine ⟨_, rfl, pt, l, 16, rfl, pot, by decide, bd_of (by decide), fun d H2 d0 d1 pot2 k2 => ?_⟩
    refine ⟨_, rfl, _, _, rfl, rfl, _, rfl, ite2 (fun _ => ?_) (fun _ => ?_)⟩
    · have r0 := Int.emod_nonneg (d + 2 + kk) (by decide : (12 : Int) ≠ 0)
      have r1 := Int.emod_lt_of_pos (d + 2 + kk) (by decide : (0 : Int) < 12)
      exact ⟨_, rfl, _, _, rfl, rfl, _, rfl, _, _, rfl, rfl, .inl ⟨_, rfl, _, _, rfl, rfl, (by decide : (0 : Int) < 12), _, _, rfl, rfl, k _ H2 (by unfold Bd; omega) pot2 k2⟩⟩
    refine ⟨_, rfl, _, _, rfl, rfl, _, rfl, ite2 (fun _ => k _ H2 (bd_of (by decide)) pot2 k2) (fun _ => ?_)⟩
    refine ⟨_, rfl, pt, l, 30, rfl, pot2, by decide, bd_of (by decide), fun f H3 f0 f1 pot3 k3 => ?_⟩
    refine ⟨_, rfl, rfl, _, rfl, ite2 (fun _ => ?_) (fun _ => ?_)⟩
    · exact ⟨1, rfl, _, rfl, _, _, rfl, rfl, k _ H3 (by unfold Bd; omega) pot3 (k2.trans k3)⟩
    · exact ⟨_, rfl, _, _, rfl, rfl, k _ H3 (by unfold Bd; omega) pot3 (k2.trans k3)⟩
end
end Fc
set_option Elab.async false
set_option linter.all false
set_option maxRecDepth 100000
set_option maxHeartbeats 8000000
set_option exponentiation.threshold 100000
namespace Fc
open PySem PySem.Spec PyProof.Rows L2 L2H
/-- what _law_made tells -/
def MadeV (A : Ad) (H : Hp) (m : Addr) (p : Int × Int) (d : Int) : Prop :=
  (∃ b s, GoodB p d s ∧ H m = some (.tup [.str "bars", .ref b]) ∧ BarsOf A H b p d s (facR (vl p) d s)) ∨
  (¬ GoodQ p ∧ ∃ u, H m = some (.tup [.str "q", .ref u]) ∧ Pr H u p) ∨
  (GoodQ p ∧ ¬ (0 ≤ d ∧ d ≤ 12) ∧ H m = some (.tup [.str "value", .int d]))
theorem MadeV.nl {A : Ad} {H H' : Hp} {m : Addr} {p : Int × Int} {d : Int} (h : MadeV A H m p d) (k : NL H H') : MadeV A H' m p d := by
  rcases h with ⟨b, s, g, h1, h2⟩ | ⟨n, u, h1, h2⟩ | ⟨g, n, h1⟩
  · exact .inl ⟨b, s, g, k.tup h1, h2.nl k⟩
  · exact .inr (.inl ⟨n, u, k.tup h1, h2.nl k⟩)
  · exact .inr (.inr ⟨g, n, k.tup h1⟩)
/-- isinstance(e, C), e in slot i -/
abbrev tIX (K : PySem.W.Frag) (cls : Value) (d : Option Addr) (a : Addr) (i : Nat) (c : V) : TE := tCB (rIsX K cls d a) (tCons (tVar i) (tCons (tC c) tNil))
/-- the suite of _law_made -/
def t_md (K : PySem.W.Frag) (A : Ad) : Addr → Value → Option Addr → TS := fun a cls d =>
  tSeq (tAsg (tLst (tCons (tIX K cls d a 2 (.ref A.Bq)) (tCons (tIX K cls d a 2 (.ref A.O)) tNil))) (gName 3))
  (tSeq (tIfS (tOr (tTest (tOp rNe (tBM K "list" (rCntB K) (tVar 3) (tCons (tC (.bl true)) tNil)) (tC (.int 1)))) (tNot (tB (tIX K cls d a 2 (.ty "ValueError"))))) (tRet (tTup (tCons (tC (.str "other")) (tCons (tC .non) tNil)))) tNext)
  (tSeq (tIfS (tB (tOp (rIxL K) (tVar 3) (tC (.int 0)))) (tRet (tTup (tCons (tC (.str "q")) (tCons (tCallS (spRead A) (fun _ => E0) (tCons (tXf a cls d A.Bq "q" (tVar 2)) tNil)) tNil)))) tNext)
    (tIfS (tB (tCallS spWhole (fun _ => E0) (tCons (tXf a cls d A.O "value" (tVar 2)) tNil))) (tRet (tTup (tCons (tC (.str "value")) (tCons (tXf a cls d A.O "value" (tVar 2)) tNil)))) tNext)))
/-- the suite of _law_refused -/
def t_rf (K : PySem.W.Frag) (A : Ad) : Addr → Value → Option Addr → TS := fun a cls d =>
  tSeq (tIfS (tOr (tNot (tB (tIX K cls d a 3 (.ref A.O)))) (tOr (tNot (tB (tIX K cls d a 3 (.ty "ValueError")))) (tB (tIX K cls d a 3 (.ref A.Bq))))) (tRet (tC (.bl false))) tNext)
    (tRet (tAndV (tCallS spWhole (fun _ => E0) (tCons (tXf a cls d A.O "value" (tVar 3)) tNil)) (tOp rEq (tXf a cls d A.O "value" (tVar 3)) (tVar 2))))
theorem lk1 (f : Str) (v : V) : [(f, v)].lookup f = some v := by simp [List.lookup]
section
variable {P : Program} {w : World} {K : PySem.W.Frag} {mg : Str → Option Value} {base : Heap} {A : Ad}
def spMade (A : Ad) : Sp := fun vs H Q _ => ∃ (q : Addr) (p : Int × Int) (d : Int), vs = [.ref q, .int d] ∧ RatAt A.C H q p ∧ Sm 110 p ∧ Int.gcd p.1 p.2 = 1 ∧ ∀ m H', Ex H H' → MadeV A H' m p d → Q (.ref m) H'
theorem ok_made (T : Txt K mg A) : FnOk P w K mg base CX0 8 A.f_made A.d_made ["q", "dimension"] (spMade A) := by
  refine T.F_made.ok sc_made (fun vs H Q E h => ?_) (fun cdv Ar outer s H vs Q E hr h => ?_)
  · obtain ⟨q, p, d, rfl, _⟩ := h
    rfl
  · obtain ⟨q, p, d, rfl, hq, sp, cp, k⟩ := h
    refine ⟨_, (pss_cons (L2N.ps_try_as (i := 2) (tb := fun W => tRet (tTup (tCons (tC (.str "bars")) (tCons (tMakeS A.B (spBInit A) (WE W) (tCons (tVar 0) (tCons (tVar 1) tNil))) tNil)))) (ts := t_md K A) (Wout := fun _ _ _ _ => False) rfl rfl sc_made.nd rfl rfl ⟨rfl, by decide, Or.inl T.g_CE⟩ takes0N (fun W pn xe tk _ => pss_one (ps_ret (pe_tup (pa_cons pe_str (pa_cons (pe_makeS T.mk_B (ok_binit T) (hr.mono (by decide)) rfl T.g_Bars T.b_binit (fun sl => L2N.passAt tk sl) (pa_cons (pv 0) (pa_cons (pv 1) pa_nil))) pa_nil))))) (fun a oe cls d pn hz hf => pss_cons (ps_set (i := 3) sc_made.nd rfl (Or.inl rfl) (pe_lst (pa_cons (pe_callB (call_isX hz.zc hf) (by rfl) T.n_isinstance (by decide +kernel) (pa_cons (pv 2) (pa_cons (pe_glob (v := .ref A.Bq) rfl T.g_Bq rfl) pa_nil))) (pa_cons (pe_callB (call_isX hz.zc hf) (by rfl) T.n_isinstance (by decide +kernel) (pa_cons (pv 2) (pa_cons (pe_glob (v := .ref A.O) rfl T.g_O rfl) pa_nil))) pa_nil)))) (pss_cons (ps_if (PW.pt (pw_or (pt_cmpR op_ne (pe_bm PySem.F.plainAttrs_list PySem.F.slot_list_count PySem.F.type_list_count mt_bcount (pv 3) (pa_cons pe_bl pa_nil)) pe_int (nomark _)) (pw_or1 (pt_not (pt_val (pe_callB (call_isX hz.zc hf) (by rfl) T.n_isinstance (by decide +kernel) (pa_cons (pv 2) (pa_cons (pe_bltn (v := .ty "ValueError") rfl T.n_ValueError (by decide +kernel) rfl) pa_nil)))))))) (pss_one (ps_ret (pe_tup (pa_cons pe_str (pa_cons pe_non pa_nil))))) pss_nil) (pss_cons (ps_if (pt_val (pe_ix ix_list (pv 3) pe_int (fun _ _ => rfl))) (pss_one (ps_ret (pe_tup (pa_cons pe_str (pa_cons (pe_callH (okH_read T) (roomH_mark (hr.mono (by decide)) _) (hot_suite hz hf) rfl T.g_read T.F_read.kp T.b_read passH (pa_cons (pe_xf T.xf_Bq T.n_Bq_q hz.zc hf (pv 2)) pa_nil)) pa_nil))))) pss_nil) (pss_one (ps_if (pt_val (pe_callH (okH_whole T) (roomH_mark (hr.mono (by decide)) _) (hot_suite hz hf) rfl T.g_whole T.F_whole.kp T.b_whole passH (pa_cons (pe_xf T.xf_O T.n_O_value hz.zc hf (pv 2)) pa_nil))) (pss_one (ps_ret (pe_tup (pa_cons pe_str (pa_cons (pe_xf T.xf_O T.n_O_value hz.zc hf (pv 2)) pa_nil))))) pss_nil))))))
      (pss_one (ps_ret (pe_tup (pa_cons pe_str (pa_cons pe_non pa_nil)))))), ?_⟩
    refine ⟨_, rfl, _, rfl, ?_⟩
    intro b db nb nd ne
    have em : Ex H (upd (upd H db (.own b)) b (.ins A.B db [])) := fun c o h => by rw [upd_ne (ne_of_none h nb), upd_ne (ne_of_none h nd)]; exact h
    refine ⟨b, db, q, p, d, rfl, upd_same, hq.ex em, sp, cp, fun ng dd H' e hd => ⟨true, T.e_Bq, fun _ a na => ?_, fun z => Bool.noConfusion z⟩, fun g ng dd H' e hd => ⟨true, T.e_O, fun _ a na => ?_, fun z => Bool.noConfusion z⟩, fun g d0 d1 st H' bo gb kp => ⟨rfl, ?_⟩⟩
    · have E1 := em.trans e
      have nd3 : ∀ {H2 : Hp}, Ex H' H2 → ∀ x : Addr, some dd = some x → ∃ fs, H2 x = some (.xd fs) := fun e2 x ex => by cases ex; exact ⟨_, e2 _ _ hd⟩
      have rf : Ex H' H' := fun _ _ h => h
      refine ⟨_, rfl, A.Bq, .ref A.Bq, .ref A.Bq, true, rfl, T.X_Bq, nd3 rf, rfl, fun u e => e, kit_self, _, rfl, A.Bq, .ref A.O, _, false, rfl, T.X_Bq, nd3 rf, rfl, fun u e => e, T.bqNo, (by show 2 ≤ sizeLine; exact sz2), fun L nL => ?_⟩
      have e2 : Ex H' (upd H' L (.lst [.bl true, .bl false])) := Ex.new nL
      have hL : upd H' L (.lst [.bl true, .bl false]) L = some (.lst [.bl true, .bl false]) := upd_same
      generalize upd H' L (.lst [.bl true, .bl false]) = H2 at e2 hL ⊢
      refine ⟨_, rfl, .inl ⟨rfl, _, SqL.of hL⟩, L, [true, false], true, rfl, rfl, SqL.of hL, rfl, _, rfl, iteNS rfl ?_⟩
      refine ⟨_, rfl, A.Bq, .ty "ValueError", _, true, rfl, T.X_Bq, nd3 e2, rfl, fun u e => e, T.v_Bq, _, rfl, iteF ?_⟩
      refine ⟨_, rfl, _, _, _, _, rfl, rfl, SqL.of hL, rfl, _, rfl, iteT ?_⟩
      refine ⟨_, rfl, rfl, rfl, dd, _, _, rfl, e2 _ _ hd, lk1 _ _, q, p, rfl, (hq.ex E1).ex e2, sp.mono (by decide), cp, fun u H3 e3 nu hu => ⟨(by show 2 ≤ sizeLine; exact sz2), fun t nt => ?_⟩⟩
      exact k t _ (Ex.to ((E1.trans e2).trans e3) nt) (.inr (.inl ⟨ng, u, upd_same, hu.ex (Ex.new nt)⟩))
    · have E1 := em.trans e
      have nd3 : ∀ {H2 : Hp}, Ex H' H2 → ∀ x : Addr, some dd = some x → ∃ fs, H2 x = some (.xd fs) := fun e2 x ex => by cases ex; exact ⟨_, e2 _ _ hd⟩
      have rf : Ex H' H' := fun _ _ h => h
      refine ⟨_, rfl, A.O, .ref A.Bq, _, false, rfl, T.X_O, nd3 rf, rfl, fun u e => e, T.oNbq, _, rfl, A.O, .ref A.O, .ref A.O, true, rfl, T.X_O, nd3 rf, rfl, fun u e => e, kit_self, (by show 2 ≤ sizeLine; exact sz2), fun L nL => ?_⟩
      have e2 : Ex H' (upd H' L (.lst [.bl false, .bl true])) := Ex.new nL
      have hL : upd H' L (.lst [.bl false, .bl true]) L = some (.lst [.bl false, .bl true]) := upd_same
      generalize upd H' L (.lst [.bl false, .bl true]) = H2 at e2 hL ⊢
      refine ⟨_, rfl, .inl ⟨rfl, _, SqL.of hL⟩, L, [false, true], true, rfl, rfl, SqL.of hL, rfl, _, rfl, iteNS rfl ?_⟩
      refine ⟨_, rfl, A.O, .ty "ValueError", _, true, rfl, T.X_O, nd3 e2, rfl, fun u e => e, T.v_O, _, rfl, iteF ?_⟩
      refine ⟨_, rfl, _, _, _, _, rfl, rfl, SqL.of hL, rfl, _, rfl, iteF ?_⟩
      refine ⟨_, rfl, rfl, rfl, dd, _, _, rfl, e2 _ _ hd, lk1 _ _, d, rfl, true, rfl, iteT ?_⟩
      refine ⟨_, rfl, rfl, rfl, dd, _, _, rfl, e2 _ _ hd, lk1 _ _, (by show 2 ≤ sizeLine; exact sz2), fun t nt => ?_⟩
      exact k t _ (Ex.to (E1.trans e2) nt) (.inr (.inr ⟨g, ng, upd_same⟩))
    · have E1 : Ex H H' := Same.made nb nd kp
      refine ⟨(by show 2 ≤ sizeLine; exact sz2), fun t nt => ?_⟩
      exact k t _ (E1.to nt) (.inl ⟨b, st, gb, upd_same, bo.ex (Ex.new nt)⟩)
def spRefused (A : Ad) : Sp := fun vs H Q _ => ∃ (b : Addr) (pl n : Int) (p : Int × Int) (d s : Int) (fa : Rat), vs = [.ref b, .int pl, .int n] ∧ BarsOf A H b p d s fa ∧ GoodB p d s ∧
  ((pl = 0 ∧ ¬ (0 ≤ n ∧ n ≤ s)) ∨ (pl = 1 ∧ ¬ (0 ≤ n ∧ n ≤ s)) ∨ (pl = 2 ∧ ¬ (0 ≤ n ∧ n ≤ 200))) ∧ ∀ H', Ex H H' → Q (.bl true) H'
theorem ok_refused (T : Txt K mg A) : FnOk P w K mg base CX0 8 A.f_refused A.d_refused ["bars", "place", "number"] (spRefused A) := by
  refine T.F_refused.ok sc_refused (fun vs H Q E h => ?_) (fun cdv Ar outer s H vs Q E hr h => ?_)
  · obtain ⟨b, pl, n, p, d, s, fa, rfl, _⟩ := h
    rfl
  · obtain ⟨b, pl, n, p, d, st, fa, rfl, hb, g, bad, k⟩ := h
    refine ⟨_, (pss_cons (L2N.ps_try_as (i := 3) (tb := fun W => tSeq (tIfS (tTest (tOp rEq (tVar 1) (tC (.int 0)))) (tDrop (tMethS A.B "ceiling" (spCeiling A) (WE W) (tVar 0) (tCons (tVar 2) tNil))) tNext) (tSeq (tIfS (tTest (tOp rEq (tVar 1) (tC (.int 1)))) (tDrop (tMethS A.B "floor" (spFloor A) (WE W) (tVar 0) (tCons (tVar 2) tNil))) tNext) (tIfS (tTest (tOp rEq (tVar 1) (tC (.int 2)))) (tDrop (tMethS A.B "finest" (spFinest A) (WE W) (tVar 0) (tCons (tVar 2) tNil))) tNext))) (ts := t_rf K A) (Wout := fun _ _ _ _ => False) rfl rfl sc_refused.nd rfl rfl ⟨rfl, by decide, Or.inl T.g_CE⟩ takes0N (fun W pn xe tk _ => pss_cons (ps_if (pt_cmpR op_eq (pv 1) pe_int (nomark _)) (pss_one (ps_expr (pe_methS (pv 0) T.c_B T.m_ceiling (ok_ceiling T) (hr.mono (by decide)) T.b_ceiling (fun sl => L2N.passAt tk sl) (pa_cons (pv 2) pa_nil)))) pss_nil) (pss_cons (ps_if (pt_cmpR op_eq (pv 1) pe_int (nomark _)) (pss_one (ps_expr (pe_methS (pv 0) T.c_B T.m_floor (ok_floor T) (hr.mono (by decide)) T.b_floor (fun sl => L2N.passAt tk sl) (pa_cons (pv 2) pa_nil)))) pss_nil) (pss_one (ps_if (pt_cmpR op_eq (pv 1) pe_int (nomark _)) (pss_one (ps_expr (pe_methS (pv 0) T.c_B T.m_finest (ok_finest T) (hr.mono (by decide)) T.b_finest (fun sl => L2N.passAt tk sl) (pa_cons (pv 2) pa_nil)))) pss_nil)))) (fun a oe cls d pn hz hf => pss_cons (ps_if (PW.pt (pw_or (pt_not (pt_val (pe_callB (call_isX hz.zc hf) (by rfl) T.n_isinstance (by decide +kernel) (pa_cons (pv 3) (pa_cons (pe_glob (v := .ref A.O) rfl T.g_O rfl) pa_nil))))) (pw_or (pt_not (pt_val (pe_callB (call_isX hz.zc hf) (by rfl) T.n_isinstance (by decide +kernel) (pa_cons (pv 3) (pa_cons (pe_bltn (v := .ty "ValueError") rfl T.n_ValueError (by decide +kernel) rfl) pa_nil))))) (pw_or1 (pt_val (pe_callB (call_isX hz.zc hf) (by rfl) T.n_isinstance (by decide +kernel) (pa_cons (pv 3) (pa_cons (pe_glob (v := .ref A.Bq) rfl T.g_Bq rfl) pa_nil)))))))) (pss_one (ps_ret pe_bl)) pss_nil) (pss_one (ps_ret (pe_and (pe_callH (okH_whole T) (roomH_mark (hr.mono (by decide)) _) (hot_suite hz hf) rfl T.g_whole T.F_whole.kp T.b_whole passH (pa_cons (pe_xf T.xf_O T.n_O_value hz.zc hf (pv 3)) pa_nil)) (pe_one (pe_cmpR op_eq (pe_xf T.xf_O T.n_O_value hz.zc hf (pv 3)) (pv 2) (nomark _))))))))
      (pss_one (ps_ret pe_bl))), ?_⟩
    have suite : ∀ (dd a : Addr) (H' : Hp) (D : Ends), D.rt = Q → Ex H H' → H' dd = some (.xd [("value", .int n)]) → t_rf K A a (.ref A.O) (some dd) D [some (.ref b), some (.int pl), some (.int n), some (.ref a)] H' := by
      intro dd a H' D eD e hd
      have nd3 : ∀ x : Addr, some dd = some x → ∃ fs, H' x = some (.xd fs) := fun x ex => by cases ex; exact ⟨_, hd⟩
      refine ⟨_, rfl, A.O, .ref A.O, .ref A.O, true, rfl, T.X_O, nd3, rfl, fun u e => e, kit_self, _, rfl, iteF ?_⟩
      refine ⟨_, rfl, A.O, .ty "ValueError", _, true, rfl, T.X_O, nd3, rfl, fun u e => e, T.v_O, _, rfl, iteF ?_⟩
      refine ⟨_, rfl, A.O, .ref A.Bq, _, false, rfl, T.X_O, nd3, rfl, fun u e => e, T.oNbq, _, rfl, iteF ?_⟩
      refine ⟨_, rfl, rfl, rfl, dd, _, _, rfl, hd, lk1 _ _, n, rfl, true, rfl, iteT ?_⟩
      refine ⟨_, rfl, rfl, rfl, dd, _, _, rfl, hd, lk1 _ _, _, rfl, rfl, ?_⟩
      show D.rt (V.bl (decide (V.int n = V.int n))) H'
      rw [eD, decide_eq_true rfl]
      exact k H' e
    obtain ⟨dx, q, cs, fs, cl, fl, bd, f, h0, _⟩ := id hb
    rcases bad with ⟨rfl, bad⟩ | ⟨rfl, bad⟩ | ⟨rfl, bad⟩
    · refine ⟨_, rfl, rfl, _, rfl, iteT ?_⟩
      exact ⟨_, rfl, b, dx, _, rfl, h0, zip_no (by decide +kernel), _, rfl, b, n, p, d, st, fa, rfl, hb, g, fun _ dd H' e hd => ⟨true, T.e_O, fun _ a na => suite dd a H' _ rfl e hd, fun z => Bool.noConfusion z⟩, fun a0 a1 => absurd ⟨a0, a1⟩ bad⟩
    · refine ⟨_, rfl, rfl, _, rfl, iteF ?_⟩
      refine ⟨_, rfl, rfl, _, rfl, iteT ?_⟩
      exact ⟨_, rfl, b, dx, _, rfl, h0, zip_no (by decide +kernel), _, rfl, b, n, p, d, st, fa, rfl, hb, g, fun _ dd H' e hd => ⟨true, T.e_O, fun _ a na => suite dd a H' _ rfl e hd, fun z => Bool.noConfusion z⟩, fun a0 a1 => absurd ⟨a0, a1⟩ bad⟩
    · refine ⟨_, rfl, rfl, _, rfl, iteF ?_⟩
      refine ⟨_, rfl, rfl, _, rfl, iteF ?_⟩
      refine ⟨_, rfl, rfl, _, rfl, iteT ?_⟩
      exact ⟨_, rfl, b, dx, _, rfl, h0, zip_no (by decide +kernel), _, rfl, b, n, p, d, st, fa, rfl, hb, g, fun _ dd H' e hd => ⟨true, T.e_O, fun _ a na => suite dd a H' _ rfl e hd, fun z => Bool.noConfusion z⟩, fun a0 a1 => absurd ⟨a0, a1⟩ bad⟩
end
end Fc
set_option Elab.async false
set_option linter.all false
set_option maxRecDepth 100000
set_option maxHeartbeats 8000000
set_option exponentiation.threshold 100000
namespace Fc
open PySem PySem.Spec PyProof.Rows L2 L2H
/-! ### what the law's own pairs are worth -/
theorem GoodQ.ne {p : Int × Int} (g : GoodQ p) : p.2 ≠ 0 := by have := g.pos; omega
theorem due_cs {p : Int × Int} (g : GoodQ p) : vl (p.1 + p.2, p.1 - p.2) = csR (vl p) := by
  have e := vl_mul (p := p) g.ne
  have x1 := g.gt1
  refine div_is (cast_ne (by have := g.gt; show p.1 - p.2 ≠ 0; omega)) ?_
  show csR (vl p) * ((p.1 - p.2 : Int) : Rat) = ((p.1 + p.2 : Int) : Rat)
  rw [cast_add, cast_sub, ← e]
  grind
theorem due_cl {p : Int × Int} (g : GoodQ p) : vl (p.2 * (p.1 - p.2), p.1 * (p.1 + p.2)) = clR (vl p) := by
  have e := vl_mul (p := p) g.ne
  have x1 := g.gt1
  have q1 := g.gt
  have q2 := g.pos
  have n := cast_ne g.ne
  refine div_is (cast_ne (Int.mul_ne_zero (by omega) (by omega))) ?_
  show clR (vl p) * ((p.1 * (p.1 + p.2) : Int) : Rat) = ((p.2 * (p.1 - p.2) : Int) : Rat)
  rw [cast_mul, cast_mul, cast_add, cast_sub, ← e]
  have m := Rat.mul_pos (a := vl p) (b := vl p + 1) (by grind) (by grind)
  grind
theorem due_fl {p : Int × Int} (g : GoodQ p) : vl (p.2, p.1) = 1 / vl p := by
  have e := vl_mul (p := p) g.ne
  have x1 := g.gt1
  refine div_is (cast_ne (by have := g.gt; have := g.pos; show p.1 ≠ 0; omega)) ?_
  show 1 / vl p * ((p.1 : Int) : Rat) = ((p.2 : Int) : Rat)
  rw [← e]
  grind
theorem due_bd {p : Int × Int} (g : GoodQ p) : vl ((p.1 + p.2) * (p.1 + p.2), (p.1 - p.2) * (p.1 - p.2)) = csR (vl p) * csR (vl p) := by
  have h := due_cs g
  have q1 := g.gt
  have n : p.1 - p.2 ≠ 0 := by omega
  have e := vl_mul (p := (p.1 + p.2, p.1 - p.2)) n
  rw [h] at e
  refine div_is (cast_ne (Int.mul_ne_zero n n)) ?_
  show csR (vl p) * csR (vl p) * (((p.1 - p.2) * (p.1 - p.2) : Int) : Rat) = (((p.1 + p.2) * (p.1 + p.2) : Int) : Rat)
  have e' : csR (vl p) * ((p.1 - p.2 : Int) : Rat) = ((p.1 + p.2 : Int) : Rat) := e
  rw [cast_mul, cast_mul, ← e']
  grind
theorem due_ce {p : Int × Int} (g : GoodQ p) (d n : Int) : vl ((p.1 + p.2) * (n * p.2 + p.1 * d), (p.1 - p.2) * p.2) = csR (vl p) * (vl p * (d : Rat) + (n : Rat)) := by
  have h := due_cs g
  have q1 := g.gt
  have nn : p.1 - p.2 ≠ 0 := by omega
  have e := vl_mul (p := (p.1 + p.2, p.1 - p.2)) nn
  rw [h] at e
  have e' : csR (vl p) * ((p.1 - p.2 : Int) : Rat) = ((p.1 + p.2 : Int) : Rat) := e
  have e2 := vl_mul (p := p) g.ne
  refine div_is (cast_ne (Int.mul_ne_zero nn g.ne)) ?_
  show csR (vl p) * (vl p * (d : Rat) + (n : Rat)) * (((p.1 - p.2) * p.2 : Int) : Rat) = (((p.1 + p.2) * (n * p.2 + p.1 * d) : Int) : Rat)
  rw [cast_mul, cast_mul, cast_add (n * p.2), cast_mul n, cast_mul p.1, ← e', ← e2]
  grind
theorem due_flo {p : Int × Int} (g : GoodQ p) (d n : Int) : vl (n * p.2 - p.1 * d, p.2) = (n : Rat) - vl p * (d : Rat) := by
  have e2 := vl_mul (p := p) g.ne
  refine div_is (cast_ne g.ne) ?_
  show ((n : Rat) - vl p * (d : Rat)) * (p.2 : Rat) = ((n * p.2 - p.1 * d : Int) : Rat)
  rw [cast_sub, cast_mul, cast_mul, ← e2]
  grind
theorem way_pos {p : Int × Int} {d s : Int} (g : GoodB p d s) (d0 : 0 < d) : 0 < s * p.2 - p.1 * d := by
  have f := floor_pos g d0
  have e := due_flo g.q d s
  rw [← e] at f
  exact (v_pos (q := (s * p.2 - p.1 * d, p.2)) g.q.pos).mp f
theorem due_fac {p : Int × Int} {d s : Int} (g : GoodB p d s) (d0 : 0 < d) : vl ((p.1 + p.2) * (s * p.2 + p.1 * d), (p.1 - p.2) * (s * p.2 - p.1 * d)) = facR (vl p) d s := by
  have f := floor_pos g d0
  have w := way_pos g d0
  have h := due_cs g.q
  have q1 := g.q.gt
  have nn : p.1 - p.2 ≠ 0 := by omega
  have e := vl_mul (p := (p.1 + p.2, p.1 - p.2)) nn
  rw [h] at e
  have e' : csR (vl p) * ((p.1 - p.2 : Int) : Rat) = ((p.1 + p.2 : Int) : Rat) := e
  have e2 := vl_mul (p := p) g.q.ne
  unfold facR
  rw [if_pos d0]
  refine div_is (cast_ne (Int.mul_ne_zero nn (by omega))) ?_
  show csR (vl p) * (vl p * (d : Rat) + (s : Rat)) / ((s : Rat) - vl p * (d : Rat)) * (((p.1 - p.2) * (s * p.2 - p.1 * d) : Int) : Rat) = (((p.1 + p.2) * (s * p.2 + p.1 * d) : Int) : Rat)
  rw [cast_mul, cast_mul, cast_add (s * p.2), cast_sub (s * p.2), cast_mul s, cast_mul p.1, ← e', ← e2]
  grind
theorem fac_le {p : Int × Int} {d s : Int} (g : GoodB p d s) : facR (vl p) d s ≤ csR (vl p) * csR (vl p) := by
  have x1 := g.q.gt1
  have c0 : 1 < csR (vl p) := by
    have e : csR (vl p) * (vl p - 1) = vl p + 1 := by unfold csR; grind
    rcases (Rat.le_total (a := csR (vl p)) (b := 1)) with z | z
    · have := Rat.mul_le_mul_of_nonneg_right z (c := vl p - 1) (by grind)
      grind
    · by_cases q : csR (vl p) = 1
      · rw [q] at e; grind
      · grind
  by_cases d0 : 0 < d
  · have f := floor_pos g d0
    have cg := g.cl.ge
    unfold facR
    rw [if_pos d0]
    generalize hm : (s : Rat) - vl p * (d : Rat) = m at f
    have hn : 0 < vl p - 1 := by grind
    have ec : csR (vl p) * (vl p - 1) = vl p + 1 := by unfold csR; grind
    generalize csR (vl p) = c at c0 ec
    have key : (c * m - (vl p * (d : Rat) + (s : Rat))) * (vl p - 1) = 2 * ((s : Rat) - vl p * vl p * (d : Rat)) := by grind
    have k0 : 0 ≤ c * m - (vl p * (d : Rat) + (s : Rat)) := by
      rcases (Rat.le_total (a := 0) (b := c * m - (vl p * (d : Rat) + (s : Rat)))) with z | z
      · exact z
      · have := Rat.mul_le_mul_of_nonneg_right z (c := vl p - 1) (by grind)
        have k1 : (c * m - (vl p * (d : Rat) + (s : Rat))) * (vl p - 1) = 0 := by grind
        have := (Rat.mul_eq_zero.mp k1).resolve_right (by grind)
        grind
    have k2 := Rat.mul_nonneg (a := c) (b := c * m - (vl p * (d : Rat) + (s : Rat))) (by grind) k0
    have e3 : c * (vl p * (d : Rat) + (s : Rat)) / m * m = c * (vl p * (d : Rat) + (s : Rat)) := by grind
    rcases (Rat.le_total (a := c * (vl p * (d : Rat) + (s : Rat)) / m) (b := c * c)) with z | z
    · exact z
    · have := Rat.mul_le_mul_of_nonneg_right z (c := m) (by grind)
      have k4 : (c * (vl p * (d : Rat) + (s : Rat)) / m - c * c) * m = 0 := by grind
      have := (Rat.mul_eq_zero.mp k4).resolve_right (by grind)
      grind
  · unfold facR
    rw [if_neg d0]
    have := Rat.mul_nonneg (a := csR (vl p) - 1) (b := csR (vl p) + 1) (by grind) (by grind)
    grind
section
variable {P : Program} {w : World} {K : PySem.W.Frag} {mg : Str → Option Value} {base : Heap} {A : Ad}
/-- a tuple of two whole numbers is laid -/
theorem new2 {H : Hp} {u : Addr} (a b : Int) : Pr (upd H u (.tup [.int a, .int b])) u (a, b) := upd_same
def spFields (A : Ad) : Sp := fun vs H Q _ => ∃ (b q : Addr) (p : Int × Int) (d s : Int), vs = [.ref b, .ref q, .int d, .int s] ∧ BarsOf A H b p d s (facR (vl p) d s) ∧ GoodB p d s ∧ Pr H q p ∧ ∀ H', Ex H H' → Q (.bl true) H'
theorem ok_fields (T : Txt K mg A) : FnOk P w K mg base CX0 4 A.f_fields A.d_fields ["bars", "q", "dimension", "steps"] (spFields A) := by
  refine T.F_fields.ok sc_fields (fun vs H Q E h => ?_) (fun cdv Ar outer s H vs Q E hr h => ?_)
  · obtain ⟨b, q, p, d, s, rfl, _⟩ := h
    rfl
  · obtain ⟨b, q, p, d, st, rfl, hb, g, hq, k⟩ := h
    refine ⟨_, (pss_cons (ps_asg (pv 1) (pg_tup rfl (pgs_cons (pg_name (i := 4) sc_fields.nd rfl (Or.inl rfl)) (pgs_cons (pg_name (i := 5) sc_fields.nd rfl (Or.inl rfl)) pgs_nil))))
      (pss_cons (ps_set (i := 6) sc_fields.nd rfl (Or.inl rfl) (pe_op op_add (pv 4) (pv 5)))
      (C8.pss_cut (ps_set (i := 7) sc_fields.nd rfl (Or.inl rfl) (pe_op op_sub (pv 4) (pv 5)))
      (pss_cons (ps_if (PW.pt (pw_or (pt_not (pt_val (pe_call (ok_same T) (hr.mono (by decide)) rfl T.g_same T.F_same.kp T.b_same .nil pass0 (pa_cons (pe_fld (pv 0) rfl) (pa_cons (pv 1) pa_nil))))) (pw_or1 (pt_not (pt_val (pe_call (ok_whole T) (hr.mono (by decide)) rfl T.g_whole T.F_whole.kp T.b_whole .nil pass0 (pa_cons (pe_fld (pv 0) rfl) pa_nil)))))))
      (pss_one (ps_ret pe_bl)) pss_nil)
      (pss_cons (ps_if (PW.pt (pw_or (pt_not (pt_val (pe_call (ok_whole T) (hr.mono (by decide)) rfl T.g_whole T.F_whole.kp T.b_whole .nil pass0 (pa_cons (pe_fld (pv 0) rfl) pa_nil)))) (pw_or1 (pt_cmpR op_ne (pe_fld (pv 0) rfl) (pv 3) (nomark _)))))
      (pss_one (ps_ret pe_bl)) pss_nil)
      (pss_cons (ps_if (pt_cmpR op_ne (pe_fld (pv 0) rfl) (pv 2) (nomark _))
      (pss_one (ps_ret pe_bl)) pss_nil)
      (pss_cons (ps_if (pt_not (pt_val (pe_call (ok_same T) (hr.mono (by decide)) rfl T.g_same T.F_same.kp T.b_same .nil pass0 (pa_cons (pe_fld (pv 0) rfl) (pa_cons (pe_tup (pa_cons (pv 6) (pa_cons (pv 7) pa_nil))) pa_nil)))))
      (pss_one (ps_ret pe_bl)) pss_nil)
      (pss_cons (ps_if (pt_not (pt_val (pe_call (ok_same T) (hr.mono (by decide)) rfl T.g_same T.F_same.kp T.b_same .nil pass0 (pa_cons (pe_fld (pv 0) rfl) (pa_cons (pe_tup (pa_cons pe_int (pa_cons pe_int pa_nil))) pa_nil)))))
      (pss_one (ps_ret pe_bl)) pss_nil)
      (pss_cons (ps_if (pt_not (pt_val (pe_call (ok_same T) (hr.mono (by decide)) rfl T.g_same T.F_same.kp T.b_same .nil pass0 (pa_cons (pe_fld (pv 0) rfl) (pa_cons (pe_tup (pa_cons (pe_op op_mulW (pv 5) (pv 7)) (pa_cons (pe_op op_mulW (pv 4) (pv 6)) pa_nil))) pa_nil)))))
      (pss_one (ps_ret pe_bl)) pss_nil)
      (pss_cons (ps_if (pt_not (pt_val (pe_call (ok_same T) (hr.mono (by decide)) rfl T.g_same T.F_same.kp T.b_same .nil pass0 (pa_cons (pe_fld (pv 0) rfl) (pa_cons (pe_tup (pa_cons (pv 5) (pa_cons (pv 4) pa_nil))) pa_nil)))))
      (pss_one (ps_ret pe_bl)) pss_nil)
      (pss_cons (ps_if (pt_not (pt_val (pe_call (ok_same T) (hr.mono (by decide)) rfl T.g_same T.F_same.kp T.b_same .nil pass0 (pa_cons (pe_fld (pv 0) rfl) (pa_cons (pe_tup (pa_cons (pe_op op_mulW (pv 6) (pv 6)) (pa_cons (pe_op op_mulW (pv 7) (pv 7)) pa_nil))) pa_nil)))))
      (pss_one (ps_ret pe_bl)) pss_nil)
      (C8.pss_cut (ps_set (i := 8) sc_fields.nd rfl (Or.inl rfl) (pe_tup (pa_cons pe_int (pa_cons pe_int pa_nil))))
      (C8.pss_cut (ps_if (pt_cmpR op_gt (pv 2) pe_int (nomark _))
      (pss_cons (ps_set (i := 9) sc_fields.nd rfl (Or.inl rfl) (pe_op op_mulW (pv 3) (pv 5)))
      (pss_cons (ps_set (i := 10) sc_fields.nd rfl (Or.inl rfl) (pe_op op_mulW (pv 4) (pv 2)))
      (pss_one (ps_set (i := 8) sc_fields.nd rfl (Or.inl rfl) (pe_tup (pa_cons (pe_op op_mulW (pv 6) (pe_op op_add (pv 9) (pv 10))) (pa_cons (pe_op op_mulW (pv 7) (pe_op op_sub (pv 9) (pv 10))) pa_nil))))))) pss_nil)
      (pss_one (ps_ret (pe_call (ok_same T) (hr.mono (by decide)) rfl T.g_same T.F_same.kp T.b_same .nil pass0 (pa_cons (pe_fld (pv 0) rfl) (pa_cons (pv 8) pa_nil)))))))))))))))))), ?_⟩
    have sm := g.q.sm
    have bd : Bd 4 d := by have := g.d0; have := g.d1; unfold Bd; omega
    have bs : Bd 8 st := by have := g.s0; have := g.s1; unfold Bd; omega
    have q1 := g.q.gt
    have q2 := g.q.pos
    have bm := sm.t.add sm.b
    have bl := sm.t.sub sm.b
    refine ⟨_, rfl, q, _, rfl, SqT.of hq, rfl, _, _, rfl, _, _, rfl, rfl, _, rfl, _, rfl, _, _, rfl, rfl, ?_⟩
    refine ⟨fun sl H' => sl = [some (.ref b), some (.ref q), some (.int d), some (.int st), some (.int p.1), some (.int p.2), some (.int (p.1 + p.2)), some (.int (p.1 - p.2)), none, none, none] ∧ H' = H, ?_, ?_⟩
    · exact ⟨_, rfl, _, rfl, _, _, rfl, rfl, rfl, rfl⟩
    rintro sl H0 ⟨rfl, rfl⟩
    have smm : ∀ {n : Nat} {r : Int × Int}, Sm n r → n ≤ 1000 → Sm 1000 r := fun h l => h.mono l
    obtain ⟨dx, qa, cs, fs, cl, fl, bd_, f, h0, hqa, hcs, hfs, hcl, hfl, hbd, hf⟩ := id hb
    refine ⟨_, rfl, _, _, _, _, _, rfl, h0, T.c_B, T.na_B_q, zip_get (i := 0) BN_nd rfl rfl, _, rfl, qa, q, vl p, p, rfl, ⟨p, hqa, sm.mono (by decide), g.q.cop, rfl⟩, hq, sm.mono (by decide), rfl, fun H1 e1 => ⟨true, rfl, iteF ?_⟩⟩
    refine ⟨_, rfl, _, _, _, _, _, rfl, e1 _ _ h0, T.c_B, T.na_B_dimension, zip_get (i := 1) BN_nd rfl rfl, d, rfl, true, rfl, iteF ?_⟩
    refine ⟨_, rfl, _, _, _, _, _, rfl, e1 _ _ h0, T.c_B, T.na_B_steps, zip_get (i := 2) BN_nd rfl rfl, st, rfl, true, rfl, iteF ?_⟩
    refine ⟨_, rfl, _, _, _, _, _, rfl, e1 _ _ h0, T.c_B, T.na_B_steps, zip_get (i := 2) BN_nd rfl rfl, _, rfl, rfl, _, rfl, iteNS rfl ?_⟩
    refine ⟨_, rfl, _, _, _, _, _, rfl, e1 _ _ h0, T.c_B, T.na_B_dimension, zip_get (i := 1) BN_nd rfl rfl, _, rfl, rfl, _, rfl, iteNS rfl ?_⟩
    refine ⟨_, rfl, _, _, _, _, _, rfl, e1 _ _ h0, T.c_B, T.na_B_ceiling_step, zip_get (i := 3) BN_nd rfl rfl, _, rfl, _, rfl, (by show 2 ≤ sizeLine; exact sz2), fun u hu => ?_⟩
    refine ⟨cs, u, _, (p.1 + p.2, p.1 - p.2), rfl, ((hcs.ex e1).ex (Ex.new hu)).mono (by decide), new2 _ _, ⟨bm.mono (by decide), bl.mono (by decide), by show 0 < p.1 - p.2; omega⟩, due_cs g.q, fun H2 e2 => ⟨true, rfl, iteF ?_⟩⟩
    have E2 : Ex H0 H2 := (Ex.to e1 hu).trans e2
    clear hu e1 e2
    refine ⟨_, rfl, _, _, _, _, _, rfl, E2 _ _ h0, T.c_B, T.na_B_floor_step, zip_get (i := 4) BN_nd rfl rfl, (by show 2 ≤ sizeLine; exact sz2), fun u hu => ?_⟩
    refine ⟨fs, u, _, (1, 1), rfl, (hfs.ex E2).ex (Ex.new hu), new2 _ _, ⟨bd_of (by decide +kernel), bd_of (by decide +kernel), by decide⟩, by decide +kernel, fun H3 e3 => ⟨true, rfl, iteF ?_⟩⟩
    have E3 : Ex H0 H3 := (Ex.to E2 hu).trans e3
    clear hu E2 e3
    refine ⟨_, rfl, _, _, _, _, _, rfl, E3 _ _ h0, T.c_B, T.na_B_ceiling_limit, zip_get (i := 5) BN_nd rfl rfl, _, rfl, _, rfl, _, _, rfl, rfl, sm.b.w bl, _, rfl, _, rfl, _, _, rfl, rfl, sm.t.w bm, (by show 2 ≤ sizeLine; exact sz2), fun u hu => ?_⟩
    refine ⟨cl, u, _, (p.2 * (p.1 - p.2), p.1 * (p.1 + p.2)), rfl, (hcl.ex E3).ex (Ex.new hu), new2 _ _, ⟨(sm.b.mul bl).mono (by decide), (sm.t.mul bm).mono (by decide), Int.mul_pos (by omega) (by omega)⟩, due_cl g.q, fun H4 e4 => ⟨true, rfl, iteF ?_⟩⟩
    have E4 : Ex H0 H4 := (Ex.to E3 hu).trans e4
    clear hu E3 e4
    refine ⟨_, rfl, _, _, _, _, _, rfl, E4 _ _ h0, T.c_B, T.na_B_floor_limit, zip_get (i := 6) BN_nd rfl rfl, _, rfl, _, rfl, (by show 2 ≤ sizeLine; exact sz2), fun u hu => ?_⟩
    refine ⟨fl, u, _, (p.2, p.1), rfl, (hfl.ex E4).ex (Ex.new hu), new2 _ _, ⟨sm.b.mono (by decide), sm.t.mono (by decide), by show 0 < p.1; omega⟩, due_fl g.q, fun H5 e5 => ⟨true, rfl, iteF ?_⟩⟩
    have E5 : Ex H0 H5 := (Ex.to E4 hu).trans e5
    clear hu E4 e5
    refine ⟨_, rfl, _, _, _, _, _, rfl, E5 _ _ h0, T.c_B, T.na_B_bound, zip_get (i := 7) BN_nd rfl rfl, _, rfl, _, rfl, _, _, rfl, rfl, bm.w bm, _, rfl, _, rfl, _, _, rfl, rfl, bl.w bl, (by show 2 ≤ sizeLine; exact sz2), fun u hu => ?_⟩
    refine ⟨bd_, u, _, ((p.1 + p.2) * (p.1 + p.2), (p.1 - p.2) * (p.1 - p.2)), rfl, (hbd.ex E5).ex (Ex.new hu), new2 _ _, ⟨(bm.mul bm).mono (by decide), (bl.mul bl).mono (by decide), Int.mul_pos (by omega) (by omega)⟩, due_bd g.q, fun H6 e6 => ⟨true, rfl, iteF ?_⟩⟩
    have E6 : Ex H0 H6 := (Ex.to E5 hu).trans e6
    clear hu E5 e6
    refine ⟨fun sl H' => ∃ du : Addr, sl = [some (.ref b), some (.ref q), some (.int d), some (.int st), some (.int p.1), some (.int p.2), some (.int (p.1 + p.2)), some (.int (p.1 - p.2)), some (.ref du), none, none] ∧ Ex H0 H' ∧ Pr H' du (1, 1), ?_, ?_⟩
    · exact ⟨(by show 2 ≤ sizeLine; exact sz2), fun u hu => ⟨u, rfl, Ex.to E6 hu, new2 _ _⟩⟩
    clear E6
    rintro sl H7 ⟨du, rfl, E7, hdu⟩
    refine ⟨fun sl H' => ∃ (du : Addr) (r : Int × Int) (v1 v2 : Option V), sl = [some (.ref b), some (.ref q), some (.int d), some (.int st), some (.int p.1), some (.int p.2), some (.int (p.1 + p.2)), some (.int (p.1 - p.2)), some (.ref du), v1, v2] ∧ Ex H0 H' ∧ Pr H' du r ∧ Sm 1000 r ∧ vl r = facR (vl p) d st, ?_, ?_⟩
    · refine ⟨_, rfl, _, _, rfl, rfl, _, rfl, ?_⟩
      by_cases d0 : 0 < d
      · rw [decide_eq_true d0]
        have bw : Bd 14 (st * p.2) := bs.mul sm.b
        have bh : Bd 10 (p.1 * d) := sm.t.mul bd
        have b1 := bw.add (bh.mono (by decide))
        have b2 := bw.sub (bh.mono (by decide))
        have wp := way_pos g d0
        refine iteT ⟨_, rfl, _, rfl, _, _, rfl, rfl, bs.w sm.b, _, rfl, _, rfl, _, _, rfl, rfl, sm.t.w bd, _, rfl, _, rfl, _, rfl, _, _, rfl, rfl, _, _, rfl, rfl, bm.w b1, _, rfl, _, rfl, _, rfl, _, _, rfl, rfl, _, _, rfl, rfl, bl.w b2, (by show 2 ≤ sizeLine; exact sz2), fun u hu => ?_⟩
        exact ⟨u, ((p.1 + p.2) * (st * p.2 + p.1 * d), (p.1 - p.2) * (st * p.2 - p.1 * d)), _, _, rfl, Ex.to E7 hu, new2 _ _, ⟨(bm.mul b1).mono (by decide), (bl.mul b2).mono (by decide), Int.mul_pos (by omega) wp⟩, due_fac g d0⟩
      · rw [decide_eq_false d0]
        refine iteF ⟨du, (1, 1), _, _, rfl, E7, hdu, ⟨bd_of (by decide +kernel), bd_of (by decide +kernel), by decide⟩, ?_⟩
        unfold facR
        rw [if_neg d0]
        decide +kernel
    clear E7 hdu
    rintro sl H8 ⟨du, r, v1, v2, rfl, E8, hdu, sr, vr⟩
    exact ⟨_, rfl, _, _, _, _, _, rfl, E8 _ _ h0, T.c_B, T.na_B_factor, zip_get (i := 8) BN_nd rfl rfl, _, rfl, f, du, _, r, rfl, hf.ex E8, hdu, sr, vr, fun H9 e9 => k H9 (E8.trans e9)⟩
end
end Fc
set_option Elab.async false
set_option linter.all false
set_option maxRecDepth 100000
set_option maxHeartbeats 8000000
set_option exponentiation.threshold 100000
namespace Fc
open PySem PySem.Spec PyProof.Rows L2 L2H
/-- the two equations, over whole numbers -/
theorem equation1 {p u v : Int × Int} (g : GoodQ p) (hu : u.2 ≠ 0) (hv : v.2 ≠ 0) (eu : vl u = csR (vl p)) (ev : vl v = clR (vl p)) : (u.2 * v.2 + v.1 * u.1) * p.1 = (p.1 - p.2) * u.1 * v.2 := by
  have a := vl_mul hu
  have b := vl_mul hv
  have c := vl_mul (p := p) g.ne
  have x1 := g.gt1
  rw [eu] at a
  rw [ev] at b
  refine Rat.intCast_inj.mp ?_
  rw [cast_mul, cast_add, cast_mul u.2, cast_mul v.1, cast_mul, cast_mul, cast_sub, ← a, ← b, ← c]
  have m := Rat.mul_pos (a := vl p) (b := vl p + 1) (by grind) (by grind)
  have e1 : csR (vl p) * (vl p - 1) = vl p + 1 := by unfold csR; grind
  have e2 : clR (vl p) * csR (vl p) * vl p = 1 := by unfold csR clR; grind
  generalize csR (vl p) = y at e1 e2
  generalize clR (vl p) = z at e2
  grind
theorem equation2 {p u v : Int × Int} (g : GoodQ p) (hu : u.2 ≠ 0) (hv : v.2 ≠ 0) (eu : vl u = 1) (ev : vl v = 1 / vl p) : (u.2 * v.2 - v.1 * u.1) * p.1 = (p.1 - p.2) * u.1 * v.2 := by
  have a := vl_mul hu
  have b := vl_mul hv
  have c := vl_mul (p := p) g.ne
  have x1 := g.gt1
  rw [eu] at a
  rw [ev] at b
  refine Rat.intCast_inj.mp ?_
  rw [cast_mul, cast_sub, cast_mul u.2, cast_mul v.1, cast_mul, cast_mul, cast_sub, ← a, ← b, ← c]
  have e2 : 1 / vl p * vl p = 1 := by grind
  generalize 1 / vl p = z at e2
  grind
section
variable {P : Program} {w : World} {K : PySem.W.Frag} {mg : Str → Option Value} {base : Heap} {A : Ad}
def spEquations (A : Ad) : Sp := fun vs H Q _ => ∃ (b q : Addr) (p : Int × Int) (d s : Int), vs = [.ref b, .ref q] ∧ BarsOf A H b p d s (facR (vl p) d s) ∧ GoodB p d s ∧ Pr H q p ∧ ∀ H', Ex H H' → Q (.bl true) H'
theorem ok_equations (T : Txt K mg A) : FnOk P w K mg base CX0 3 A.f_equations A.d_equations ["bars", "q"] (spEquations A) := by
  refine T.F_equations.ok sc_equations (fun vs H Q E h => ?_) (fun cdv Ar outer s H vs Q E hr h => ?_)
  · obtain ⟨b, q, p, d, s, rfl, _⟩ := h
    rfl
  · obtain ⟨b, q, p, d, st, rfl, hb, g, hq, k⟩ := h
    refine ⟨_, (pss_cons (ps_set (i := 2) sc_equations.nd rfl (Or.inl rfl) (pe_call (ok_read T) (hr.mono (by decide)) rfl T.g_read T.F_read.kp T.b_read .nil pass0 (pa_cons (pe_fld (pv 0) rfl) pa_nil)))
      (pss_cons (ps_set (i := 3) sc_equations.nd rfl (Or.inl rfl) (pe_call (ok_read T) (hr.mono (by decide)) rfl T.g_read T.F_read.kp T.b_read .nil pass0 (pa_cons (pe_fld (pv 0) rfl) pa_nil)))
      (C8.pss_cut (ps_set (i := 4) sc_equations.nd rfl (Or.inl rfl) (pe_op op_mulW (pe_op op_add (pe_op op_mulW (pe_ix ix_tup (pv 2) pe_int (fun _ _ => rfl)) (pe_ix ix_tup (pv 3) pe_int (fun _ _ => rfl))) (pe_op op_mulW (pe_ix ix_tup (pv 3) pe_int (fun _ _ => rfl)) (pe_ix ix_tup (pv 2) pe_int (fun _ _ => rfl)))) (pe_ix ix_tup (pv 1) pe_int (fun _ _ => rfl))))
      (C8.pss_cut (ps_if (pt_cmpR op_ne (pv 4) (pe_op op_mulW (pe_op op_mulW (pe_op op_sub (pe_ix ix_tup (pv 1) pe_int (fun _ _ => rfl)) (pe_ix ix_tup (pv 1) pe_int (fun _ _ => rfl))) (pe_ix ix_tup (pv 2) pe_int (fun _ _ => rfl))) (pe_ix ix_tup (pv 3) pe_int (fun _ _ => rfl))) (nomark _))
      (pss_one (ps_ret pe_bl)) pss_nil)
      (pss_cons (ps_set (i := 2) sc_equations.nd rfl (Or.inl rfl) (pe_call (ok_read T) (hr.mono (by decide)) rfl T.g_read T.F_read.kp T.b_read .nil pass0 (pa_cons (pe_fld (pv 0) rfl) pa_nil)))
      (pss_cons (ps_set (i := 3) sc_equations.nd rfl (Or.inl rfl) (pe_call (ok_read T) (hr.mono (by decide)) rfl T.g_read T.F_read.kp T.b_read .nil pass0 (pa_cons (pe_fld (pv 0) rfl) pa_nil)))
      (C8.pss_cut (ps_set (i := 4) sc_equations.nd rfl (Or.inl rfl) (pe_op op_mulW (pe_op op_sub (pe_op op_mulW (pe_ix ix_tup (pv 2) pe_int (fun _ _ => rfl)) (pe_ix ix_tup (pv 3) pe_int (fun _ _ => rfl))) (pe_op op_mulW (pe_ix ix_tup (pv 3) pe_int (fun _ _ => rfl)) (pe_ix ix_tup (pv 2) pe_int (fun _ _ => rfl)))) (pe_ix ix_tup (pv 1) pe_int (fun _ _ => rfl))))
      (C8.pss_cut (ps_if (pt_cmpR op_ne (pv 4) (pe_op op_mulW (pe_op op_mulW (pe_op op_sub (pe_ix ix_tup (pv 1) pe_int (fun _ _ => rfl)) (pe_ix ix_tup (pv 1) pe_int (fun _ _ => rfl))) (pe_ix ix_tup (pv 2) pe_int (fun _ _ => rfl))) (pe_ix ix_tup (pv 3) pe_int (fun _ _ => rfl))) (nomark _))
      (pss_one (ps_ret pe_bl)) pss_nil)
      (pss_cons (ps_set (i := 5) sc_equations.nd rfl (Or.inl rfl) (pe_call (ok_read T) (hr.mono (by decide)) rfl T.g_read T.F_read.kp T.b_read .nil pass0 (pa_cons (pe_fld (pv 0) rfl) pa_nil)))
      (pss_cons (ps_set (i := 6) sc_equations.nd rfl (Or.inl rfl) (pe_call (ok_read T) (hr.mono (by decide)) rfl T.g_read T.F_read.kp T.b_read .nil pass0 (pa_cons (pe_fld (pv 0) rfl) pa_nil)))
      (pss_one (ps_ret (pe_cmpR op_le (pe_op op_mulW (pe_ix ix_tup (pv 5) pe_int (fun _ _ => rfl)) (pe_ix ix_tup (pv 6) pe_int (fun _ _ => rfl))) (pe_op op_mulW (pe_ix ix_tup (pv 6) pe_int (fun _ _ => rfl)) (pe_ix ix_tup (pv 5) pe_int (fun _ _ => rfl))) (nomark _)))))))))))))), ?_⟩
    have sm := g.q.sm
    obtain ⟨dx, qa, cs, fs, cl, fl, bd_, f, h0, hqa, ⟨pcs, hcs, scs, ccs, vcs⟩, ⟨pfs, hfs, sfs, cfs, vfs⟩, ⟨pcl, hcl, scl, ccl, vcl⟩, ⟨pfl, hfl, sfl, cfl, vfl⟩, ⟨pbd, hbd, sbd, cbd, vbd⟩, ⟨pf, hf, sf, cf, vf⟩⟩ := id hb
    refine ⟨_, rfl, _, _, _, _, _, rfl, h0, T.c_B, T.na_B_ceiling_step, zip_get (i := 3) BN_nd rfl rfl, cs, pcs, rfl, hcs, scs.mono (by decide), ccs, fun u H1 e1 nu hu => ?_⟩
    refine ⟨_, rfl, _, _, _, _, _, rfl, e1 _ _ h0, T.c_B, T.na_B_ceiling_limit, zip_get (i := 5) BN_nd rfl rfl, cl, pcl, rfl, hcl.ex e1, scl, ccl, fun v H2 e2 nv hv => ?_⟩
    have hu2 : Pr H2 u pcs := hu.ex e2
    have hq2 : Pr H2 q p := (hq.ex e1).ex e2
    have E2 := e1.trans e2
    have w1 := scs.b.mul scl.b
    have w2 := scl.t.mul scs.t
    have eq1 := equation1 g.q scs.ne scl.ne vcs vcl
    refine ⟨fun sl H' => sl = [some (.ref b), some (.ref q), some (.ref u), some (.ref v), some (.int ((pcs.2 * pcl.2 + pcl.1 * pcs.1) * p.1)), none, none] ∧ H' = H2, ?_, ?_⟩
    · exact ⟨_, rfl, _, _, _, _, rfl, rfl, SqT.of (hu2), rfl, _, rfl, _, _, _, _, rfl, rfl, SqT.of (hv), rfl, _, _, rfl, rfl, scs.b.w scl.b, _, rfl, _, _, _, _, rfl, rfl, SqT.of (hv), rfl, _, rfl, _, _, _, _, rfl, rfl, SqT.of (hu2), rfl, _, _, rfl, rfl, scl.t.w scs.t, _, _, rfl, rfl, _, rfl, _, _, _, _, rfl, rfl, SqT.of (hq2), rfl, _, _, rfl, rfl, (w1.add (w2.mono (by decide))).w sm.t, rfl, rfl⟩
    rintro sl H3 ⟨rfl, rfl⟩
    refine ⟨fun sl H' => sl = [some (.ref b), some (.ref q), some (.ref u), some (.ref v), some (.int ((pcs.2 * pcl.2 + pcl.1 * pcs.1) * p.1)), none, none] ∧ H' = H3, ?_, ?_⟩
    · refine ⟨_, rfl, _, rfl, _, _, _, _, rfl, rfl, SqT.of (hq2), rfl, _, rfl, _, _, _, _, rfl, rfl, SqT.of (hq2), rfl, _, _, rfl, rfl, _, rfl, _, _, _, _, rfl, rfl, SqT.of (hu2), rfl, _, _, rfl, rfl, (sm.t.sub sm.b).w scs.t, _, rfl, _, _, _, _, rfl, rfl, SqT.of (hv), rfl, _, _, rfl, rfl, ((sm.t.sub sm.b).mul scs.t).w scl.b, rfl, _, rfl, iteNS (by rw [eq1]) ⟨rfl, rfl⟩⟩
    rintro sl H4 ⟨rfl, rfl⟩
    clear hu2 hq2 hu hv
    refine ⟨_, rfl, _, _, _, _, _, rfl, E2 _ _ h0, T.c_B, T.na_B_floor_step, zip_get (i := 4) BN_nd rfl rfl, fs, pfs, rfl, hfs.ex E2, sfs, cfs, fun u H5 e1 nu hu => ?_⟩
    refine ⟨_, rfl, _, _, _, _, _, rfl, e1 _ _ (E2 _ _ h0), T.c_B, T.na_B_floor_limit, zip_get (i := 6) BN_nd rfl rfl, fl, pfl, rfl, (hfl.ex E2).ex e1, sfl, cfl, fun v H6 e2 nv hv => ?_⟩
    have hu2 : Pr H6 u pfs := hu.ex e2
    have E3 := (E2.trans e1).trans e2
    have hq2 : Pr H6 q p := hq.ex E3
    have w1 := sfs.b.mul sfl.b
    have w2 := sfl.t.mul sfs.t
    have eq1 := equation2 g.q sfs.ne sfl.ne vfs vfl
    refine ⟨fun sl H' => sl = [some (.ref b), some (.ref q), some (.ref u), some (.ref v), some (.int ((pfs.2 * pfl.2 - pfl.1 * pfs.1) * p.1)), none, none] ∧ H' = H6, ?_, ?_⟩
    · exact ⟨_, rfl, _, _, _, _, rfl, rfl, SqT.of (hu2), rfl, _, rfl, _, _, _, _, rfl, rfl, SqT.of (hv), rfl, _, _, rfl, rfl, sfs.b.w sfl.b, _, rfl, _, _, _, _, rfl, rfl, SqT.of (hv), rfl, _, rfl, _, _, _, _, rfl, rfl, SqT.of (hu2), rfl, _, _, rfl, rfl, sfl.t.w sfs.t, _, _, rfl, rfl, _, rfl, _, _, _, _, rfl, rfl, SqT.of (hq2), rfl, _, _, rfl, rfl, (w1.sub (w2.mono (by decide))).w sm.t, rfl, rfl⟩
    rintro sl H7 ⟨rfl, rfl⟩
    refine ⟨fun sl H' => sl = [some (.ref b), some (.ref q), some (.ref u), some (.ref v), some (.int ((pfs.2 * pfl.2 - pfl.1 * pfs.1) * p.1)), none, none] ∧ H' = H7, ?_, ?_⟩
    · refine ⟨_, rfl, _, rfl, _, _, _, _, rfl, rfl, SqT.of (hq2), rfl, _, rfl, _, _, _, _, rfl, rfl, SqT.of (hq2), rfl, _, _, rfl, rfl, _, rfl, _, _, _, _, rfl, rfl, SqT.of (hu2), rfl, _, _, rfl, rfl, (sm.t.sub sm.b).w sfs.t, _, rfl, _, _, _, _, rfl, rfl, SqT.of (hv), rfl, _, _, rfl, rfl, ((sm.t.sub sm.b).mul sfs.t).w sfl.b, rfl, _, rfl, iteNS (by rw [eq1]) ⟨rfl, rfl⟩⟩
    rintro sl H8 ⟨rfl, rfl⟩
    refine ⟨_, rfl, _, _, _, _, _, rfl, E3 _ _ h0, T.c_B, T.na_B_factor, zip_get (i := 8) BN_nd rfl rfl, f, pf, rfl, hf.ex E3, sf, cf, fun u H9 e3 nu hu => ?_⟩
    refine ⟨_, rfl, _, _, _, _, _, rfl, e3 _ _ (E3 _ _ h0), T.c_B, T.na_B_bound, zip_get (i := 7) BN_nd rfl rfl, bd_, pbd, rfl, (hbd.ex E3).ex e3, sbd, cbd, fun v H10 e4 nv hv => ?_⟩
    have hu3 : Pr H10 u pf := hu.ex e4
    refine ⟨_, rfl, _, _, _, _, rfl, rfl, SqT.of (hu3), rfl, _, rfl, _, _, _, _, rfl, rfl, SqT.of (hv), rfl, _, _, rfl, rfl, sf.t.w sbd.b, _, rfl, _, _, _, _, rfl, rfl, SqT.of (hv), rfl, _, rfl, _, _, _, _, rfl, rfl, SqT.of (hu3), rfl, _, _, rfl, rfl, sbd.t.w sf.b, _, _, rfl, rfl, ?_⟩
    have le : pf.1 * pbd.2 ≤ pbd.1 * pf.2 := (vl_le sf.pos sbd.pos).mp (by rw [vf, vbd]; exact fac_le g)
    show Q (V.bl (decide (pf.1 * pbd.2 ≤ pbd.1 * pf.2))) H10
    rw [decide_eq_true le]
    exact k H10 ((E3.trans e3).trans e4)
def spEvery (A : Ad) : Sp := fun vs H Q _ => ∃ (b q : Addr) (p : Int × Int) (d s : Int), vs = [.ref b, .ref q, .int d, .int s] ∧ BarsOf A H b p d s (facR (vl p) d s) ∧ GoodB p d s ∧ Pr H q p ∧ ∀ H', Ex H H' → Q (.bl true) H'
theorem ok_every (T : Txt K mg A) : FnOk P w K mg base CX0 6 A.f_every A.d_every ["bars", "q", "dimension", "steps"] (spEvery A) := by
  refine T.F_every.ok sc_every (fun vs H Q E h => ?_) (fun cdv Ar outer s H vs Q E hr h => ?_)
  · obtain ⟨b, q, p, d, s, rfl, _⟩ := h
    rfl
  · obtain ⟨b, q, p, d, st, rfl, hb, g, hq, k⟩ := h
    refine ⟨_, (pss_cons (ps_asg (pv 1) (pg_tup rfl (pgs_cons (pg_name (i := 4) sc_every.nd rfl (Or.inl rfl)) (pgs_cons (pg_name (i := 5) sc_every.nd rfl (Or.inl rfl)) pgs_nil))))
      (C8.pss_cut (ps_set (i := 6) sc_every.nd rfl (Or.inl rfl) (pe_op op_mulW (pv 4) (pv 2)))
      (pss_cons (ps_for PassesOwn.never rfl (pi_range1 rfl T.n_range (pa_cons (pe_op op_add (pv 3) pe_int) pa_nil)) (pg_name (i := 7) sc_every.nd rfl (Or.inl rfl))
      (pss_cons (ps_set (i := 8) sc_every.nd rfl (Or.inl rfl) (pe_op op_mulW (pv 7) (pv 5)))
      (pss_cons (ps_set (i := 9) sc_every.nd rfl (Or.inl rfl) (pe_op op_mulW (pe_op op_add (pv 4) (pv 5)) (pe_op op_add (pv 8) (pv 6))))
      (pss_cons (ps_if (pt_not (pt_val (pe_call (ok_same T) (hr.mono (by decide)) rfl T.g_same T.F_same.kp T.b_same .nil pass0 (pa_cons (pe_meth (pv 0) T.c_B T.m_ceiling (ok_ceiling T) (hr.mono (by decide)) T.b_ceiling .nil passLN (pa_cons (pv 7) pa_nil)) (pa_cons (pe_tup (pa_cons (pv 9) (pa_cons (pe_op op_mulW (pe_op op_sub (pv 4) (pv 5)) (pv 5)) pa_nil))) pa_nil)))))
      (pss_one (ps_ret pe_bl)) pss_nil)
      (pss_one (ps_if (pt_not (pt_val (pe_call (ok_same T) (hr.mono (by decide)) rfl T.g_same T.F_same.kp T.b_same .nil pass0 (pa_cons (pe_meth (pv 0) T.c_B T.m_floor (ok_floor T) (hr.mono (by decide)) T.b_floor .nil passLN (pa_cons (pv 7) pa_nil)) (pa_cons (pe_tup (pa_cons (pe_op op_sub (pv 8) (pv 6)) (pa_cons (pv 5) pa_nil))) pa_nil)))))
      (pss_one (ps_ret pe_bl)) pss_nil))))))
      (pss_one (ps_ret pe_bl))))), ?_⟩
    have sm := g.q.sm
    have bd : Bd 4 d := by have := g.d0; have := g.d1; unfold Bd; omega
    have s0 := g.s0
    have s1 := g.s1
    have q1 := g.q.gt
    have q2 := g.q.pos
    refine ⟨_, rfl, q, _, rfl, SqT.of hq, rfl, _, _, rfl, _, _, rfl, rfl, ?_⟩
    refine ⟨fun sl H' => sl = [some (.ref b), some (.ref q), some (.int d), some (.int st), some (.int p.1), some (.int p.2), some (.int (p.1 * d)), none, none, none] ∧ H' = H, ?_, ?_⟩
    · exact ⟨_, rfl, _, rfl, _, _, rfl, rfl, sm.t.w bd, rfl, rfl⟩
    rintro sl H0 ⟨rfl, rfl⟩
    refine ⟨_, rfl, _, _, rfl, rfl, st + 1, rfl, by omega, by omega, ?_⟩
    refine for_range (lo := 0) (n := (st + 1).toNat) (fun i sl H' => (∃ v1 v2 v3 : Option V, sl = [some (.ref b), some (.ref q), some (.int d), some (.int st), some (.int p.1), some (.int p.2), some (.int (p.1 * d)), v1, v2, v3]) ∧ Ex H0 H') ⟨⟨_, _, _, rfl⟩, fun _ _ h => h⟩ ?_ ?_
    · rintro i sl H1 hi ⟨⟨v1, v2, v3, rfl⟩, ex⟩
      have i0 : (0 : Int) ≤ 0 + (i : Int) := by omega
      have i1 : 0 + (i : Int) ≤ st := by omega
      generalize hn : (0 : Int) + (i : Int) = n at i0 i1
      have bn : Bd 8 n := by unfold Bd; omega
      have bw : Bd 14 (n * p.2) := bn.mul sm.b
      have bh : Bd 10 (p.1 * d) := sm.t.mul bd
      have b1 := bw.add (bh.mono (by decide))
      refine ⟨_, rfl, _, rfl, _, _, rfl, rfl, bn.w sm.b, _, rfl, _, rfl, _, _, rfl, rfl, _, rfl, _, rfl, _, _, rfl, rfl, _, _, rfl, rfl, (sm.t.add sm.b).w b1, ?_⟩
      have hb1 := hb.ex ex
      obtain ⟨dx, qa, cs, fs, cl, fl, bd_, f, h0, _⟩ := id hb1
      refine ⟨_, rfl, b, dx, _, rfl, h0, zip_no (by decide +kernel), _, rfl, b, n, p, d, st, _, rfl, hb1, g, fun z => absurd ⟨i0, i1⟩ z, fun _ _ c H2 e2 hc => ?_⟩
      refine ⟨_, rfl, _, rfl, _, rfl, _, _, rfl, rfl, _, rfl, _, _, rfl, rfl, (sm.t.sub sm.b).w sm.b, (by show 2 ≤ sizeLine; exact sz2), fun u hu => ?_⟩
      refine ⟨c, u, _, ((p.1 + p.2) * (n * p.2 + p.1 * d), (p.1 - p.2) * p.2), rfl, (hc.ex (Ex.new hu)).mono (by decide), new2 _ _, ⟨((sm.t.add sm.b).mul b1).mono (by decide), ((sm.t.sub sm.b).mul sm.b).mono (by decide), Int.mul_pos (by omega) (by omega)⟩, due_ce g.q d n, fun H3 e3 => ⟨true, rfl, iteF ?_⟩⟩
      have E3 : Ex H1 H3 := (Ex.to e2 hu).trans e3
      clear hu e2 e3 hc
      refine ⟨_, rfl, b, dx, _, rfl, E3 _ _ h0, zip_no (by decide +kernel), _, rfl, b, n, p, d, st, _, rfl, hb1.ex E3, g, fun z => absurd ⟨i0, i1⟩ z, fun _ _ c H4 e4 hc => ?_⟩
      refine ⟨_, rfl, _, rfl, _, _, rfl, rfl, _, rfl, (by show 2 ≤ sizeLine; exact sz2), fun u hu => ?_⟩
      refine ⟨c, u, _, (n * p.2 - p.1 * d, p.2), rfl, (hc.ex (Ex.new hu)).mono (by decide), new2 _ _, ⟨(bw.sub (bh.mono (by decide))).mono (by decide), sm.b.mono (by decide), q2⟩, due_flo g.q d n, fun H5 e5 => ⟨true, rfl, iteF ?_⟩⟩
      exact ⟨⟨_, _, _, rfl⟩, ((ex.trans E3).trans (Ex.to e4 hu)).trans e5⟩
    · rintro sl H1 ⟨⟨v1, v2, v3, rfl⟩, ex⟩
      exact k H1 ex
theorem due_fin {p : Int × Int} (g : GoodQ p) (d n : Int) : ((n * p.1 * (p.1 + p.2) * (p.1 * d + p.2) : Int) : Rat) / ((p.2 * p.2 * (p.1 - p.2) : Int) : Rat) = (n : Rat) * vl p * csR (vl p) * (vl p * (d : Rat) + 1) := by
  have h := due_cs g
  have q1 := g.gt
  have nn : p.1 - p.2 ≠ 0 := by omega
  have e := vl_mul (p := (p.1 + p.2, p.1 - p.2)) nn
  rw [h] at e
  have e' : csR (vl p) * ((p.1 - p.2 : Int) : Rat) = ((p.1 + p.2 : Int) : Rat) := e
  have e2 := vl_mul (p := p) g.ne
  refine div_is (cast_ne (Int.mul_ne_zero (Int.mul_ne_zero g.ne g.ne) nn)) ?_
  rw [cast_mul, cast_mul, cast_mul, cast_mul, cast_mul n, cast_add (p.1 * d), cast_mul p.1, ← e', ← e2]
  grind
def spLFinest (A : Ad) : Sp := fun vs H Q _ => ∃ (b q c : Addr) (p : Int × Int) (d s : Int) (ns : List Int), vs = [.ref b, .ref q, .int d, .ref c] ∧ BarsOf A H b p d s (facR (vl p) d s) ∧ GoodB p d s ∧ Pr H q p ∧ H c = some (.lst (ns.map V.int)) ∧ (∀ n ∈ ns, 0 ≤ n ∧ n ≤ 200) ∧ ∀ H', Ex H H' → Q (.bl true) H'
theorem ok_lfinest (T : Txt K mg A) : FnOk P w K mg base CX0 6 A.f_lfinest A.d_lfinest ["bars", "q", "dimension", "counts"] (spLFinest A) := by
  refine T.F_lfinest.ok sc_lfinest (fun vs H Q E h => ?_) (fun cdv Ar outer s H vs Q E hr h => ?_)
  · obtain ⟨b, q, c, p, d, s, ns, rfl, _⟩ := h
    rfl
  · obtain ⟨b, q, c, p, d, st, ns, rfl, hb, g, hq, hc, hns, k⟩ := h
    refine ⟨_, (pss_cons (ps_asg (pv 1) (pg_tup rfl (pgs_cons (pg_name (i := 4) sc_lfinest.nd rfl (Or.inl rfl)) (pgs_cons (pg_name (i := 5) sc_lfinest.nd rfl (Or.inl rfl)) pgs_nil))))
      (C8.pss_cut (ps_set (i := 6) sc_lfinest.nd rfl (Or.inl rfl) (pe_op op_mulW (pe_op op_mulW (pv 5) (pv 5)) (pe_op op_sub (pv 4) (pv 5))))
      (pss_cons (ps_for PassesOwn.never rfl (pi_list (pv 3)) (pg_name (i := 7) sc_lfinest.nd rfl (Or.inl rfl))
      (pss_cons (ps_set (i := 8) sc_lfinest.nd rfl (Or.inl rfl) (pe_meth (pv 0) T.c_B T.m_finest (ok_finest T) (hr.mono (by decide)) T.b_finest .nil passLN (pa_cons (pv 7) pa_nil)))
      (pss_cons (ps_set (i := 9) sc_lfinest.nd rfl (Or.inl rfl) (pe_op op_mulW (pe_op op_mulW (pe_op op_mulW (pv 7) (pv 4)) (pe_op op_add (pv 4) (pv 5))) (pe_op op_add (pe_op op_mulW (pv 4) (pv 2)) (pv 5))))
      (pss_one (ps_if (PW.pt (pw_or (pt_not (pt_val (pe_call (ok_whole T) (hr.mono (by decide)) rfl T.g_whole T.F_whole.kp T.b_whole .nil pass0 (pa_cons (pv 8) pa_nil)))) (pw_or1 (pt_cmpR op_ne (pv 8) (pe_un un_neg (pe_op op_fdivW (pe_un un_neg (pv 9)) (pv 6))) (nomark _)))))
      (pss_one (ps_ret pe_bl)) pss_nil)))))
      (pss_one (ps_ret pe_bl))))), ?_⟩
    have sm := g.q.sm
    have bd : Bd 4 d := by have := g.d0; have := g.d1; unfold Bd; omega
    have q1 := g.q.gt
    have q2 := g.q.pos
    have bo := (sm.b.mul sm.b).mul (sm.t.sub sm.b)
    have o0 : 0 < p.2 * p.2 * (p.1 - p.2) := Int.mul_pos (Int.mul_pos q2 q2) (by omega)
    refine ⟨_, rfl, q, _, rfl, SqT.of hq, rfl, _, _, rfl, _, _, rfl, rfl, ?_⟩
    refine ⟨fun sl H' => sl = [some (.ref b), some (.ref q), some (.int d), some (.ref c), some (.int p.1), some (.int p.2), some (.int (p.2 * p.2 * (p.1 - p.2))), none, none, none] ∧ H' = H, ?_, ?_⟩
    · exact ⟨_, rfl, _, rfl, _, _, rfl, rfl, sm.b.w sm.b, _, rfl, _, rfl, _, _, rfl, rfl, _, _, rfl, rfl, (sm.b.mul sm.b).w (sm.t.sub sm.b), rfl, rfl⟩
    rintro sl H0 ⟨rfl, rfl⟩
    refine ⟨_, rfl, c, rfl, ⟨_, SqL.of hc⟩, for_list (K := K) (a := c) (xs := ns.map V.int) (fun i sl H' => (∃ v1 v2 v3 : Option V, sl = [some (.ref b), some (.ref q), some (.int d), some (.ref c), some (.int p.1), some (.int p.2), some (.int (p.2 * p.2 * (p.1 - p.2))), v1, v2, v3]) ∧ Ex H0 H') ⟨⟨_, _, _, rfl⟩, fun _ _ h => h⟩ (fun i sl H' _ p => SqL.of (p.2 _ _ hc)) (fun i x sl H1 hx p' => ?_) (fun sl H' p => ?_)⟩
    · obtain ⟨⟨v1, v2, v3, rfl⟩, ex⟩ := p'
      obtain ⟨n, hn, rfl⟩ : ∃ n ∈ ns, x = V.int n := by
        rw [List.getElem?_map] at hx
        cases e : ns[i]? with
        | none => rw [e] at hx; cases hx
        | some z => rw [e] at hx; exact ⟨z, List.mem_of_getElem? e, (Option.some.inj hx).symm⟩
      obtain ⟨n0, n1⟩ := hns n hn
      have bn : Bd 8 n := by unfold Bd; omega
      have hb1 := hb.ex ex
      obtain ⟨dx, qa, cs, fs, cl, fl, bd_, f, h0, _⟩ := id hb1
      have bh : Bd 10 (p.1 * d) := sm.t.mul bd
      refine ⟨_, rfl, b, dx, _, rfl, h0, zip_no (by decide +kernel), _, rfl, b, n, p, d, st, _, rfl, hb1, g, fun z => absurd ⟨n0, n1⟩ z, fun _ _ z H2 e2 hz => ?_⟩
      refine ⟨_, rfl, _, rfl, _, _, rfl, rfl, bn.w sm.t, _, rfl, _, rfl, _, _, rfl, rfl, _, _, rfl, rfl, (bn.mul sm.t).w (sm.t.add sm.b), _, rfl, _, rfl, _, _, rfl, rfl, sm.t.w bd, _, rfl, _, _, rfl, rfl, _, _, rfl, rfl, ((bn.mul sm.t).mul (sm.t.add sm.b)).w (bh.add (sm.b.mono (by decide))), ?_⟩
      refine ⟨_, rfl, z, rfl, true, rfl, iteF ⟨_, rfl, _, rfl, _, rfl, _, rfl, _, _, rfl, rfl, bo.div o0, _, rfl, rfl, _, rfl, iteNS ?_ ⟨⟨_, _, _, rfl⟩, ex.trans e2⟩⟩⟩
      exact congrArg V.int (hz.one (cl_of o0 (due_fin g.q d n)))
    · obtain ⟨⟨v1, v2, v3, rfl⟩, ex⟩ := p
      exact k H' ex
def spCount : Sp := fun vs H Q _ => ∃ (q : Addr) (p : Int × Int) (d : Int), vs = [.ref q, .int d] ∧ Pr H q p ∧ Sm 110 p ∧ Bd 10 d ∧ ∀ z : Int, Cl (vl p * vl p * (d : Rat)) z → Q (.int z) H
theorem ok_count (T : Txt K mg A) : FnOk P w K mg base CX0 1 A.f_count A.d_count ["q", "dimension"] spCount := by
  refine T.F_count.ok sc_count (fun vs H Q E h => ?_) (fun cdv Ar outer s H vs Q E hr h => ?_)
  · obtain ⟨q, p, d, rfl, _⟩ := h
    rfl
  · obtain ⟨q, p, d, rfl, hq, sm, bd, k⟩ := h
    refine ⟨_, (pss_cons (ps_set (i := 2) sc_count.nd rfl (Or.inl rfl) (pe_op op_mulW (pe_op op_mulW (pe_ix ix_tup (pv 0) pe_int (fun _ _ => rfl)) (pe_ix ix_tup (pv 0) pe_int (fun _ _ => rfl))) (pv 1)))
      (pss_one (ps_ret (pe_un un_neg (pe_op op_fdivW (pe_un un_neg (pv 2)) (pe_op op_mulW (pe_ix ix_tup (pv 0) pe_int (fun _ _ => rfl)) (pe_ix ix_tup (pv 0) pe_int (fun _ _ => rfl)))))))), ?_⟩
    have o0 := Int.mul_pos sm.pos sm.pos
    refine ⟨_, rfl, _, _, _, _, rfl, rfl, SqT.of (hq), rfl, _, rfl, _, _, _, _, rfl, rfl, SqT.of (hq), rfl, _, _, rfl, rfl, sm.t.w sm.t, _, rfl, _, _, rfl, rfl, (sm.t.mul sm.t).w bd, _, rfl, _, rfl, _, rfl, _, _, _, _, rfl, rfl, SqT.of (hq), rfl, _, rfl, _, _, _, _, rfl, rfl, SqT.of (hq), rfl, _, _, rfl, rfl, sm.b.w sm.b, _, _, rfl, rfl, (sm.b.mul sm.b).div o0, _, rfl, ?_⟩
    refine k _ (cl_of o0 ?_)
    have e2 := vl_mul (p := p) sm.ne
    refine div_is (cast_ne (Int.mul_ne_zero sm.ne sm.ne)) ?_
    rw [cast_mul, cast_mul, cast_mul p.1, ← e2]
    grind
def spGood : Sp := fun vs H Q _ => ∃ (q : Addr) (p : Int × Int) (d : Int), vs = [.ref q, .int d] ∧ Pr H q p ∧ Sm 110 p ∧ Int.gcd p.1 p.2 = 1 ∧ ∀ b : Bool, (b = true ↔ GoodQ p ∧ 0 ≤ d ∧ d ≤ 12) → Q (.bl b) H
theorem ok_good (T : Txt K mg A) : FnOk P w K mg base CX0 1 A.f_good A.d_good ["q", "dimension"] spGood := by
  refine T.F_good.ok sc_good (fun vs H Q E h => ?_) (fun cdv Ar outer s H vs Q E hr h => ?_)
  · obtain ⟨q, p, d, rfl, _⟩ := h
    rfl
  · obtain ⟨q, p, d, rfl, hq, sm, cp, k⟩ := h
    refine ⟨_, (pss_one (ps_ret (pe_and (pe_cmpR op_le (pe_ix ix_tup (pv 0) pe_int (fun _ _ => rfl)) pe_int (nomark _)) (pe_and (pe_chain op_lt op_le (pe_ix ix_tup (pv 0) pe_int (fun _ _ => rfl)) (pe_ix ix_tup (pv 0) pe_int (fun _ _ => rfl)) (pe_op op_mulW pe_int (pe_ix ix_tup (pv 0) pe_int (fun _ _ => rfl)))) (pe_one (pe_chain op_le op_le pe_int (pv 1) pe_int)))))), ?_⟩
    have no : ¬ (GoodQ p ∧ 0 ≤ d ∧ d ≤ 12) → Q (.bl false) H := fun n => k false ⟨fun z => Bool.noConfusion z, fun z => absurd z n⟩
    have yes : ∀ (c : Prop) [Decidable c], c → V.bl (decide c) = V.bl true := fun c _ h => congrArg V.bl (decide_eq_true h)
    have nope : ∀ (c : Prop) [Decidable c], ¬ c → V.bl (decide c) = V.bl false := fun c _ h => congrArg V.bl (decide_eq_false h)
    by_cases c1 : p.2 ≤ 12
    · refine ⟨_, rfl, _, _, _, _, rfl, rfl, SqT.of (hq), rfl, _, _, rfl, rfl, true, yes _ c1, iteT ?_⟩
      by_cases c2 : p.2 < p.1
      · refine ⟨_, rfl, _, _, _, _, rfl, rfl, SqT.of (hq), rfl, _, rfl, _, _, _, _, rfl, rfl, SqT.of (hq), rfl, _, _, rfl, rfl, true, yes _ c2, iteT ?_⟩
        by_cases c3 : p.1 ≤ 4 * p.2
        · refine ⟨_, rfl, _, _, _, _, rfl, rfl, SqT.of (hq), rfl, _, _, rfl, rfl, (bd_of (by decide) : Bd 3 (4 : Int)).w sm.b, _, _, rfl, rfl, true, yes _ c3, iteT ?_⟩
          by_cases c4 : 0 ≤ d
          · refine ⟨_, rfl, _, _, rfl, rfl, true, yes _ c4, iteT ?_⟩
            by_cases c5 : d ≤ 12
            · refine ⟨_, _, rfl, rfl, ?_⟩
              show Q (V.bl (decide (d ≤ 12))) H
              rw [decide_eq_true c5]
              exact k true ⟨fun _ => ⟨⟨sm.pos, cp, c2, c3, c1⟩, c4, c5⟩, fun _ => rfl⟩
            · refine ⟨_, _, rfl, rfl, ?_⟩
              show Q (V.bl (decide (d ≤ 12))) H
              rw [decide_eq_false c5]
              exact no fun z => c5 z.2.2
          · exact ⟨_, rfl, _, _, rfl, rfl, false, nope _ c4, iteF (no fun z => c4 z.2.1)⟩
        · exact ⟨_, rfl, _, _, _, _, rfl, rfl, SqT.of (hq), rfl, _, _, rfl, rfl, (bd_of (by decide) : Bd 3 (4 : Int)).w sm.b, _, _, rfl, rfl, false, nope _ c3, iteF (no fun z => c3 z.1.le)⟩
      · exact ⟨_, rfl, _, _, _, _, rfl, rfl, SqT.of (hq), rfl, _, rfl, _, _, _, _, rfl, rfl, SqT.of (hq), rfl, _, _, rfl, rfl, false, nope _ c2, iteF ⟨false, rfl, iteF (no fun z => c2 z.1.gt)⟩⟩
    · exact ⟨_, rfl, _, _, _, _, rfl, rfl, SqT.of (hq), rfl, _, _, rfl, rfl, false, nope _ c1, iteF (no fun z => c1 z.1.bo)⟩
end
end Fc
set_option Elab.async false
set_option linter.all false
set_option maxRecDepth 100000
set_option maxHeartbeats 8000000
set_option exponentiation.threshold 100000
namespace Fc
open PySem PySem.Spec PyProof.Rows L2 L2H
theorem cl_q (a b : Int) : PyData.canLay0 (PyData.tuple [PyData.str ("q" : Str), PyData.tuple [PyData.int a, PyData.int b]]) = true := by
  have h : PyData.strOk ("q" : Str) = true := by decide +kernel
  simp [PyData.canLay0, PyData.canLayAll0, h]
theorem sh_q (a b : Int) : SeqAt.shaped (PyData.tuple [PyData.str ("q" : Str), PyData.tuple [PyData.int a, PyData.int b]]) = true := by
  unfold SeqAt.shaped
  rw [cl_q]
  simp [PyData.depth, PyData.depthAll]
theorem cl_v (a : Int) : PyData.canLay0 (PyData.tuple [PyData.str ("value" : Str), PyData.int a]) = true := by
  have h : PyData.strOk ("value" : Str) = true := by decide +kernel
  simp [PyData.canLay0, PyData.canLayAll0, h]
theorem sh_v (a : Int) : SeqAt.shaped (PyData.tuple [PyData.str ("value" : Str), PyData.int a]) = true := by
  unfold SeqAt.shaped
  rw [cl_v]
  simp [PyData.depth, PyData.depthAll]
section
variable {P : Program} {w : World} {K : PySem.W.Frag} {mg : Str → Option Value} {base : Heap} {A : Ad}
def spRight (A : Ad) : Sp := fun vs H Q _ => ∃ (m q c : Addr) (p : Int × Int) (d fr : Int) (ns : List Int), vs = [.ref m, .ref q, .int d, .ref c, .int fr] ∧ MadeV A H m p d ∧ Pr H q p ∧ Sm 110 p ∧ Int.gcd p.1 p.2 = 1 ∧ Bd 10 d ∧
  H c = some (.lst (ns.map V.int)) ∧ (∀ n ∈ ns, 0 ≤ n ∧ n ≤ 200) ∧ 1 ≤ fr ∧ ∀ H', Ex H H' → Q (.bl true) H'
theorem ok_right (T : Txt K mg A) : FnOk P w K mg base CX0 9 A.f_right A.d_right ["told", "q", "dimension", "counts", "far"] (spRight A) := by
  refine T.F_right.ok sc_right (fun vs H Q E h => ?_) (fun cdv Ar outer s H vs Q E hr h => ?_)
  · obtain ⟨m, q, c, p, d, fr, ns, rfl, _⟩ := h
    rfl
  · obtain ⟨m, q, c, p, d, fr, ns, rfl, hm, hq, sm, cp, bd, hc, hns, f1, k⟩ := h
    refine ⟨_, (C8.pss_cut (ps_if (pt_not (pt_val (pe_call (ok_good T) (hr.mono (by decide)) rfl T.g_good T.F_good.kp T.b_good .nil pass0 (pa_cons (pv 1) (pa_cons (pv 2) pa_nil)))))
      (pss_cons (ps_if (pt_not (pt_val (pe_call (ok_good T) (hr.mono (by decide)) rfl T.g_good T.F_good.kp T.b_good .nil pass0 (pa_cons (pv 1) (pa_cons pe_int pa_nil)))))
      (pss_one (ps_ret (pe_cmpR (op_eqD hr.units) (pv 0) (pe_tup (pa_cons pe_str (pa_cons (pv 1) pa_nil))) (nomark _)))) pss_nil)
      (pss_one (ps_ret (pe_cmpR (op_eqD hr.units) (pv 0) (pe_tup (pa_cons pe_str (pa_cons (pv 2) pa_nil))) (nomark _))))) pss_nil)
      (C8.pss_cut (ps_if (PW.pt (pw_or (pt_cmpR op_ne (pe_ix ix_tup (pv 0) pe_int (fun _ _ => rfl)) pe_str (nomark _)) (pw_or1 (pt_not (pt_val (pe_callB call_isi (by rfl) T.n_isinstance (by decide +kernel) (pa_cons (pe_ix ix_tup (pv 0) pe_int (fun _ _ => rfl)) (pa_cons (pe_glob (v := .ref A.B) rfl T.g_Bars rfl) pa_nil))))))))
      (pss_one (ps_ret pe_bl)) pss_nil)
      (C8.pss_cut (ps_set (i := 5) sc_right.nd rfl (Or.inl rfl) (pe_ix ix_tup (pv 0) pe_int (fun _ _ => rfl)))
      (C8.pss_cut (ps_set (i := 6) sc_right.nd rfl (Or.inl rfl) (pe_call (ok_count T) (hr.mono (by decide)) rfl T.g_count T.F_count.kp T.b_count .nil pass0 (pa_cons (pv 1) (pa_cons (pv 2) pa_nil))))
      (C8.pss_cut (ps_if (pt_not (pt_val (pe_call (ok_fields T) (hr.mono (by decide)) rfl T.g_fields T.F_fields.kp T.b_fields .nil pass0 (pa_cons (pv 5) (pa_cons (pv 1) (pa_cons (pv 2) (pa_cons (pv 6) pa_nil)))))))
      (pss_one (ps_ret pe_bl)) pss_nil)
      (C8.pss_cut (ps_if (pt_not (pt_val (pe_call (ok_equations T) (hr.mono (by decide)) rfl T.g_equations T.F_equations.kp T.b_equations .nil pass0 (pa_cons (pv 5) (pa_cons (pv 1) pa_nil)))))
      (pss_one (ps_ret pe_bl)) pss_nil)
      (C8.pss_cut (ps_if (pt_not (pt_val (pe_call (ok_every T) (hr.mono (by decide)) rfl T.g_every T.F_every.kp T.b_every .nil pass0 (pa_cons (pv 5) (pa_cons (pv 1) (pa_cons (pv 2) (pa_cons (pv 6) pa_nil)))))))
      (pss_one (ps_ret pe_bl)) pss_nil)
      (C8.pss_cut (ps_if (pt_not (pt_val (pe_call (ok_lfinest T) (hr.mono (by decide)) rfl T.g_lfinest T.F_lfinest.kp T.b_lfinest .nil pass0 (pa_cons (pv 5) (pa_cons (pv 1) (pa_cons (pv 2) (pa_cons (pv 3) pa_nil)))))))
      (pss_one (ps_ret pe_bl)) pss_nil)
      (pss_cons (ps_for PassesOwn.never rfl (pi_range1 rfl T.n_range (pa_cons pe_int pa_nil)) (pg_name (i := 7) sc_right.nd rfl (Or.inl rfl))
      (C8.pss_cut (ps_set (i := 8) sc_right.nd rfl (Or.inl rfl) (pe_ix ix_list (pe_lst (pa_cons (pv 6) (pa_cons (pv 6) (pa_cons pe_int pa_nil)))) (pv 7) (fun _ _ => rfl)))
      (pss_one (ps_for PassesOwn.never rfl (pi_list (pe_lst (pa_cons (pe_un un_neg pe_int) (pa_cons (pe_un un_neg (pv 4)) (pa_cons (pe_op op_add (pv 8) pe_int) (pa_cons (pe_op op_add (pv 8) (pv 4)) pa_nil)))))) (pg_name (i := 9) sc_right.nd rfl (Or.inl rfl))
      (pss_one (ps_if (pt_not (pt_val (pe_call (ok_refused T) (hr.mono (by decide)) rfl T.g_refused T.F_refused.kp T.b_refused .nil pass0 (pa_cons (pv 5) (pa_cons (pv 7) (pa_cons (pv 9) pa_nil))))))
      (pss_one (ps_ret pe_bl)) pss_nil))))))
      (pss_one (ps_ret pe_bl))))))))))), ?_⟩
    refine ⟨fun sl H' => sl = [some (.ref m), some (.ref q), some (.int d), some (.ref c), some (.int fr), none, none, none, none, none] ∧ H' = H ∧ ∃ b s, GoodB p d s ∧ H m = some (.tup [.str "bars", .ref b]) ∧ BarsOf A H b p d s (facR (vl p) d s), ?_, ?_⟩
    · refine ⟨_, rfl, _, rfl, q, p, d, rfl, hq, sm, cp, fun b hb => ⟨b, rfl, ?_⟩⟩
      rcases hm with ⟨b2, st, g, h1, h2⟩ | ⟨n, u, h1, h2⟩ | ⟨g, n, h1⟩
      · have : b = true := hb.mpr ⟨g.q, g.d0, g.d1⟩
        subst this
        exact iteF ⟨rfl, rfl, b2, st, g, h1, h2⟩
      · have : b = false := by cases b with | false => rfl | true => exact absurd (hb.mp rfl).1 n
        subst this
        refine iteT ⟨_, rfl, q, p, 0, rfl, hq, sm, cp, fun b hb => ⟨b, rfl, ?_⟩⟩
        have : b = false := by cases b with | false => rfl | true => exact absurd (hb.mp rfl).1 n
        subst this
        refine iteT ⟨_, rfl, _, rfl, (by show 2 ≤ sizeLine; exact sz2), fun t nt => ?_⟩
        refine ⟨.tuple [.str "q", .tuple [.int p.1, .int p.2]], .tuple [.str "q", .tuple [.int p.1, .int p.2]], .tup (SqT.of ((Ex.new nt) _ _ h1)) (.cons (.str _) (.cons (.tup (SqT.of ((Ex.new nt) _ _ h2)) (.cons (.int _) (.cons (.int _) .nil))) .nil)),
          .tup (SqT.of upd_same) (.cons (.str _) (.cons (.tup (SqT.of ((Ex.new nt) _ _ hq)) (.cons (.int _) (.cons (.int _) .nil))) .nil)), sh_q _ _, sh_q _ _, ?_⟩
        rw [show PyData.eqv (.tuple [.str "q", .tuple [.int p.1, .int p.2]]) (.tuple [.str "q", .tuple [.int p.1, .int p.2]]) = true from PySem.SeqAt.eqv_refl _ (cl_q _ _)]
        exact k _ (Ex.new nt)
      · have : b = false := by cases b with | false => rfl | true => exact absurd (hb.mp rfl).2 n
        subst this
        refine iteT ⟨_, rfl, q, p, 0, rfl, hq, sm, cp, fun b hb => ⟨b, rfl, ?_⟩⟩
        have : b = true := hb.mpr ⟨g, by decide, by decide⟩
        subst this
        refine iteF ⟨_, rfl, _, rfl, (by show 2 ≤ sizeLine; exact sz2), fun t nt => ?_⟩
        refine ⟨.tuple [.str "value", .int d], .tuple [.str "value", .int d], .tup (SqT.of ((Ex.new nt) _ _ h1)) (.cons (.str _) (.cons (.int _) .nil)), .tup (SqT.of upd_same) (.cons (.str _) (.cons (.int _) .nil)), sh_v _, sh_v _, ?_⟩
        rw [show PyData.eqv (.tuple [.str "value", .int d]) (.tuple [.str "value", .int d]) = true from PySem.SeqAt.eqv_refl _ (cl_v _)]
        exact k _ (Ex.new nt)
    rintro sl H0 ⟨rfl, rfl, b, st, g, h1, hb⟩
    obtain ⟨dx, qa, cs, fs, cl, fl, bd_, f, h0, _⟩ := id hb
    refine ⟨fun sl H' => sl = [some (.ref m), some (.ref q), some (.int d), some (.ref c), some (.int fr), none, none, none, none, none] ∧ H' = H0, ?_, ?_⟩
    · refine ⟨_, rfl, _, _, _, _, rfl, rfl, SqT.of (h1), rfl, rfl, _, rfl, iteNS rfl ?_⟩
      exact ⟨_, rfl, _, _, _, _, rfl, rfl, SqT.of (h1), rfl, .ref b, .ref A.B, .ref A.B, .ref A.B, true, rfl, .own _, .base (.ins h0 T.c_B T.ha_B T.hn T.htk T.hm_B), kit_self, _, rfl, iteF ⟨rfl, rfl⟩⟩
    rintro sl H0' ⟨rfl, rfl⟩
    refine ⟨fun sl H' => sl = [some (.ref m), some (.ref q), some (.int d), some (.ref c), some (.int fr), some (.ref b), none, none, none, none] ∧ H' = H0', ?_, ?_⟩
    · exact ⟨_, rfl, _, _, _, _, rfl, rfl, SqT.of (h1), rfl, rfl, rfl⟩
    rintro sl H0 ⟨rfl, rfl⟩
    refine ⟨fun sl H' => sl = [some (.ref m), some (.ref q), some (.int d), some (.ref c), some (.int fr), some (.ref b), some (.int st), none, none, none] ∧ H' = H0, ?_, ?_⟩
    · refine ⟨_, rfl, _, rfl, q, p, d, rfl, hq, sm, bd, fun z hz => ?_⟩
      have := hz.one g.cl
      subst this
      exact ⟨rfl, rfl⟩
    rintro sl H0' ⟨rfl, rfl⟩
    refine ⟨fun sl H' => sl = [some (.ref m), some (.ref q), some (.int d), some (.ref c), some (.int fr), some (.ref b), some (.int st), none, none, none] ∧ Ex H0' H', ?_, ?_⟩
    · exact ⟨_, rfl, _, rfl, _, rfl, _, rfl, b, q, p, d, st, rfl, hb, g, hq, fun H1 e1 => ⟨true, rfl, iteF ⟨rfl, e1⟩⟩⟩
    rintro sl H1 ⟨rfl, e1⟩
    refine ⟨fun sl H' => sl = [some (.ref m), some (.ref q), some (.int d), some (.ref c), some (.int fr), some (.ref b), some (.int st), none, none, none] ∧ Ex H0' H', ?_, ?_⟩
    · exact ⟨_, rfl, _, rfl, b, q, p, d, st, rfl, hb.ex e1, g, hq.ex e1, fun H2 e2 => ⟨true, rfl, iteF ⟨rfl, Same.trans e1 e2⟩⟩⟩
    clear e1
    rintro sl H1 ⟨rfl, e1⟩
    refine ⟨fun sl H' => sl = [some (.ref m), some (.ref q), some (.int d), some (.ref c), some (.int fr), some (.ref b), some (.int st), none, none, none] ∧ Ex H0' H', ?_, ?_⟩
    · exact ⟨_, rfl, _, rfl, _, rfl, _, rfl, b, q, p, d, st, rfl, hb.ex e1, g, hq.ex e1, fun H2 e2 => ⟨true, rfl, iteF ⟨rfl, Same.trans e1 e2⟩⟩⟩
    clear e1
    rintro sl H1 ⟨rfl, e1⟩
    refine ⟨fun sl H' => sl = [some (.ref m), some (.ref q), some (.int d), some (.ref c), some (.int fr), some (.ref b), some (.int st), none, none, none] ∧ Ex H0' H', ?_, ?_⟩
    · exact ⟨_, rfl, _, rfl, _, rfl, _, rfl, b, q, c, p, d, st, ns, rfl, hb.ex e1, g, hq.ex e1, e1 _ _ hc, hns, fun H2 e2 => ⟨true, rfl, iteF ⟨rfl, Same.trans e1 e2⟩⟩⟩
    clear e1
    rintro sl H1 ⟨rfl, e1⟩
    refine ⟨3, rfl, by decide, by decide, ?_⟩
    refine for_range (lo := 0) (n := 3) (fun i sl H' => (∃ v1 v2 v3 : Option V, sl = [some (.ref m), some (.ref q), some (.int d), some (.ref c), some (.int fr), some (.ref b), some (.int st), v1, v2, v3]) ∧ Ex H0' H') ⟨⟨_, _, _, rfl⟩, e1⟩ ?_ ?_
    · rintro i sl H2 hi ⟨⟨v1, v2, v3, rfl⟩, e2⟩
      obtain ⟨la, hla, bad⟩ : ∃ la : Int, atI ([.int st, .int st, .int 200] : List V) (0 + (i : Int)) = some (.int la) ∧ ∀ n : Int, n < 0 ∨ la < n → ((0 + (i : Int) = 0 ∧ ¬ (0 ≤ n ∧ n ≤ st)) ∨ (0 + (i : Int) = 1 ∧ ¬ (0 ≤ n ∧ n ≤ st)) ∨ (0 + (i : Int) = 2 ∧ ¬ (0 ≤ n ∧ n ≤ 200))) := by
        match i, hi with
        | 0, _ => exact ⟨st, rfl, fun n h => by left; omega⟩
        | 1, _ => exact ⟨st, rfl, fun n h => by right; left; omega⟩
        | 2, _ => exact ⟨200, rfl, fun n h => by right; right; omega⟩
      have la0 : 0 ≤ la := by
        rcases bad (-1) (by omega) with z | z | z
        · match i, hi with
          | 0, _ => have := g.s0; cases hla; exact this
          | 1, _ => omega
          | 2, _ => omega
        · match i, hi with
          | 0, _ => omega
          | 1, _ => have := g.s0; cases hla; exact this
          | 2, _ => omega
        · match i, hi with
          | 0, _ => omega
          | 1, _ => omega
          | 2, _ => cases hla; decide
      generalize (0 : Int) + (i : Int) = pl at hla bad
      refine ⟨fun sl H' => (∃ v3 : Option V, sl = [some (.ref m), some (.ref q), some (.int d), some (.ref c), some (.int fr), some (.ref b), some (.int st), some (.int pl), some (.int la), v3]) ∧ Ex H0' H', ?_, ?_⟩
      · refine ⟨_, rfl, _, rfl, (by show 3 ≤ sizeLine; exact sz3), fun L nL => ?_⟩
        exact ⟨_, rfl, _, _, _, _, rfl, rfl, SqL.of upd_same, hla, ⟨_, rfl⟩, Ex.to e2 nL⟩
      clear e2
      rintro sl H3 ⟨⟨v3, rfl⟩, e3⟩
      refine ⟨1, rfl, _, rfl, fr, rfl, _, rfl, _, _, rfl, rfl, _, rfl, _, rfl, _, _, rfl, rfl, (by show 4 ≤ sizeLine; rw [sizeLine_eq]; decide), fun L nL => ?_⟩
      have e4 : Ex H3 (upd H3 L (.lst [.int (-1), .int (-fr), .int (la + 1), .int (la + fr)])) := Ex.new nL
      have hL : upd H3 L (.lst [.int (-1), .int (-fr), .int (la + 1), .int (la + fr)]) L = some (.lst [.int (-1), .int (-fr), .int (la + 1), .int (la + fr)]) := upd_same
      generalize upd H3 L (.lst [.int (-1), .int (-fr), .int (la + 1), .int (la + fr)]) = H4 at e4 hL ⊢
      refine ⟨L, rfl, ⟨_, SqL.of hL⟩, for_list (K := K) (a := L) (xs := [.int (-1), .int (-fr), .int (la + 1), .int (la + fr)]) (fun i sl H' => (∃ v3 : Option V, sl = [some (.ref m), some (.ref q), some (.int d), some (.ref c), some (.int fr), some (.ref b), some (.int st), some (.int pl), some (.int la), v3]) ∧ Ex H4 H') ⟨⟨_, rfl⟩, fun _ _ h => h⟩ (fun i sl H' _ p => SqL.of (p.2 _ _ hL)) (fun j x sl H5 hx p' => ?_) (fun sl H' p => ?_)⟩
      · obtain ⟨⟨v3, rfl⟩, e5⟩ := p'
        obtain ⟨n, rfl, hn⟩ : ∃ n : Int, x = V.int n ∧ (n < 0 ∨ la < n) := by
          match j, hx with
          | 0, z => cases z; exact ⟨_, rfl, by omega⟩
          | 1, z => cases z; exact ⟨_, rfl, by omega⟩
          | 2, z => cases z; exact ⟨_, rfl, by omega⟩
          | 3, z => cases z; exact ⟨_, rfl, by omega⟩
          | n + 4, z => simp at z
        exact ⟨_, rfl, _, rfl, _, rfl, b, pl, n, p, d, st, _, rfl, ((hb.ex e3).ex e4).ex e5, g, bad n hn, fun H6 e6 => ⟨true, rfl, iteF ⟨⟨_, rfl⟩, Same.trans e5 e6⟩⟩⟩
      · obtain ⟨⟨v3, rfl⟩, e5⟩ := p
        exact ⟨⟨_, _, _, rfl⟩, (Same.trans e3 e4).trans e5⟩
    · rintro sl H2 ⟨⟨v1, v2, v3, rfl⟩, e2⟩
      exact k H2 e2
end
end Fc
set_option Elab.async false
set_option linter.all false
set_option maxRecDepth 100000
set_option maxHeartbeats 8000000
set_option exponentiation.threshold 100000
namespace Fc
open PySem PySem.Spec PyProof.Rows L2 L2H
/-- a row of the law's list -/
def RowV (A : Ad) (H : Hp) (r : Addr) : Prop := ∃ (q h m : Addr) (d : Int) (p : Int × Int), H r = some (.tup [.ref q, .int d, .ref h, .ref m]) ∧ Pr H q p ∧ RatAt A.C H h p ∧ Sm 110 p ∧ Int.gcd p.1 p.2 = 1 ∧ Bd 10 d ∧ MadeV A H m p d
theorem RowV.nl {A : Ad} {H H' : Hp} {r : Addr} (h : RowV A H r) (k : NL H H') : RowV A H' r := by
  obtain ⟨q, h, m, d, p, h1, h2, h3, h4, h5, h6, h7⟩ := h
  exact ⟨q, h, m, d, p, k.tup h1, h2.nl k, h3.nl k, h4, h5, h6, h7.nl k⟩
def Rows (A : Ad) (H : Hp) (rw_ : Addr) (i : Nat) : Prop := ∃ rs : List Addr, H rw_ = some (.lst (rs.map V.ref)) ∧ rs.length = i ∧ ∀ r ∈ rs, RowV A H r
theorem Rows.keep {A : Ad} {H H' : Hp} {rw_ pt l : Addr} {i : Nat} (h : Rows A H rw_ i) (pot : PotL H pt l) (k : Keep pt H H') (ne : rw_ ≠ pt) : Rows A H' rw_ i := by
  obtain ⟨rs, h1, h2, h3⟩ := h
  exact ⟨rs, k _ _ h1 ne, h2, fun r hr => (h3 r hr).nl (pot.nl k)⟩
theorem Rows.ex {A : Ad} {H H' : Hp} {rw_ : Addr} {i : Nat} (h : Rows A H rw_ i) (k : Ex H H') : Rows A H' rw_ i := by
  obtain ⟨rs, h1, h2, h3⟩ := h
  exact ⟨rs, k _ _ h1, h2, fun r hr => (h3 r hr).nl (.of k)⟩
section
variable {P : Program} {w : World} {K : PySem.W.Frag} {mg : Str → Option Value} {base : Heap} {A : Ad}
theorem rd_mk {t b : Int} {H : Hp} {E : XK} {A : Ad} {x dx : Addr} {k' : Hp → Prop} (hb : b ≠ 0) (bb : Bd 8900 b) (nx : H x = none) (nd : H dx = none) (k : ∀ H', Ex H H' → RatAt A.C H' x (lo t b) → k' H') :
    spInit A [.ref x, .int t, .int b] (upd (upd H dx (.own x)) x (.ins A.C dx [])) (fun v H2 => v = .non ∧ k' H2) E :=
  ⟨x, dx, t, b, rfl, upd_same, fun z => absurd z hb, fun _ => ⟨bb, fun H' r kp => ⟨rfl, k H' (Same.made nx nd kp) r⟩⟩⟩
theorem ok_law (T : Txt K mg A) : FnOk P w K mg base CX0 10 A.f_law A.d_law ["script"] (spLaw K) := by
  refine T.F_law.ok sc_law (fun vs H Q E h => ?_) (fun cdv Ar outer s H vs Q E hr h => ?_)
  · obtain ⟨a, ns, rfl, _⟩ := h
    rfl
  · obtain ⟨a0, ns, rfl, hS, hl, k⟩ := h
    refine ⟨_, (C8.pss_cut (ps_set (i := 1) sc_law.nd rfl (Or.inl rfl) (pe_lst (pa_cons (pe_lc (own := [("cell", 2)]) (g := gName 2) (tt := tYes) rfl sc_law.nd (pi_list (pe_slice sl_list (pv 0) po_none (po_some pe_int))) (blkOk_by (own := [("cell", 2)]) (N := N_law) (sc := defScope S_law) (by decide +kernel)) (fun _ _ _ _ _ => pg_name (i := 2) sc_law.nd rfl (Or.inl rfl)) (fun _ _ _ _ _ => pts_nil) (fun _ _ _ _ _ => (pe_callB call_abs (by rfl) T.n_abs (by decide +kernel) (pa_cons (pv 2) pa_nil)))) (pa_cons pe_int (pa_cons pe_int pa_nil)))))
      (C8.pss_cut (ps_set (i := 3) sc_law.nd rfl (Or.inl rfl) (pe_lst pa_nil))
      (C8.pss_cut (ps_for PassesOwn.never rfl (pi_range1 rfl T.n_range (pa_cons pe_int pa_nil)) (pg_name (i := 4) sc_law.nd rfl (Or.inl rfl))
      (C8.pss_cut (ps_set (i := 5) sc_law.nd rfl (Or.inl rfl) (pe_call (ok_drawq T) (hr.mono (by decide)) rfl T.g_drawq T.F_drawq.kp T.b_drawq .nil pass0 (pa_cons (pv 1) (pa_cons (pv 4) pa_nil))))
      (C8.pss_cut (ps_set (i := 6) sc_law.nd rfl (Or.inl rfl) (pe_call (ok_drawd T) (hr.mono (by decide)) rfl T.g_drawd T.F_drawd.kp T.b_drawd .nil pass0 (pa_cons (pv 1) (pa_cons (pv 4) pa_nil))))
      (C8.pss_cut (ps_set (i := 7) sc_law.nd rfl (Or.inl rfl) (pe_op op_add pe_int (pe_op op_mod (pe_callTy call_int1 (by rfl) T.n_int (by decide +kernel) (pa_cons (pe_op op_add (pe_call (ok_digit T) (hr.mono (by decide)) rfl T.g_digit T.F_digit.kp T.b_digit .nil pass0 (pa_cons (pv 1) (pa_cons pe_int pa_nil))) (pv 4)) pa_nil)) pe_int)))
      (C8.pss_cut (ps_set (i := 8) sc_law.nd rfl (Or.inl rfl) (pe_make T.mkC (ok_init T) (hr.mono (by decide)) rfl T.g_Ratio T.b_init3 .nil passL (pa_cons (pe_op op_mulW (pe_ix ix_tup (pv 5) pe_int (fun _ _ => rfl)) (pv 7)) (pa_cons (pe_op op_mulW (pe_ix ix_tup (pv 5) pe_int (fun _ _ => rfl)) (pv 7)) pa_nil))))
      (pss_one (ps_expr (pe_bm PySem.F.plainAttrs_list PySem.F.slot_list_append PySem.F.type_list_append mt_append (pv 3) (pa_cons (pe_tup (pa_cons (pv 5) (pa_cons (pv 6) (pa_cons (pv 8) (pa_cons (pe_call (ok_made T) (hr.mono (by decide)) rfl T.g_made T.F_made.kp T.b_made .nil pass0 (pa_cons (pv 8) (pa_cons (pv 6) pa_nil))) pa_nil))))) pa_nil)))))))))
      (C8.pss_cut (ps_set (i := 9) sc_law.nd rfl (Or.inl rfl) (pe_lst (pa_cons pe_int (pa_cons pe_int (pa_cons pe_int (pa_cons (pe_op op_mod (pe_callTy call_int1 (by rfl) T.n_int (by decide +kernel) (pa_cons (pe_op op_add (pe_call (ok_digit T) (hr.mono (by decide)) rfl T.g_digit T.F_digit.kp T.b_digit .nil pass0 (pa_cons (pv 1) (pa_cons pe_int pa_nil))) pe_int) pa_nil)) pe_int) pa_nil))))))
      (C8.pss_cut (ps_set (i := 10) sc_law.nd rfl (Or.inl rfl) (pe_op op_add pe_int (pe_call (ok_digit T) (hr.mono (by decide)) rfl T.g_digit T.F_digit.kp T.b_digit .nil pass0 (pa_cons (pv 1) (pa_cons pe_int pa_nil)))))
      (C8.pss_cut (ps_for PassesOwn.never rfl (pi_list (pv 3)) (pg_name (i := 11) sc_law.nd rfl (Or.inl rfl))
      (pss_one (ps_if (pt_not (pt_val (pe_call (ok_right T) (hr.mono (by decide)) rfl T.g_right T.F_right.kp T.b_right .nil pass0 (pa_cons (pe_ix ix_tup (pv 11) pe_int (fun _ _ => rfl)) (pa_cons (pe_ix ix_tup (pv 11) pe_int (fun _ _ => rfl)) (pa_cons (pe_ix ix_tup (pv 11) pe_int (fun _ _ => rfl)) (pa_cons (pv 9) (pa_cons (pv 10) pa_nil))))))))
      (pss_one (ps_ret pe_bl)) pss_nil)))
      (C8.pss_cut (ps_for PassesOwn.never rfl (pi_list (pv 3)) (pg_name (i := 11) sc_law.nd rfl (Or.inl rfl))
      (C8.pss_cut (ps_if (pt_not (pt_val (pe_call (ok_same T) (hr.mono (by decide)) rfl T.g_same T.F_same.kp T.b_same .nil pass0 (pa_cons (pe_ix ix_tup (pv 11) pe_int (fun _ _ => rfl)) (pa_cons (pe_ix ix_tup (pv 11) pe_int (fun _ _ => rfl)) pa_nil)))))
      (pss_one (ps_ret pe_bl)) pss_nil)
      (pss_one (ps_if (pt_val (pe_call (ok_good T) (hr.mono (by decide)) rfl T.g_good T.F_good.kp T.b_good .nil pass0 (pa_cons (pe_ix ix_tup (pv 11) pe_int (fun _ _ => rfl)) (pa_cons (pe_ix ix_tup (pv 11) pe_int (fun _ _ => rfl)) pa_nil))))
      (C8.pss_cut (ps_set (i := 12) sc_law.nd rfl (Or.inl rfl) (pe_ix ix_tup (pe_ix ix_tup (pv 11) pe_int (fun _ _ => rfl)) pe_int (fun _ _ => rfl)))
      (pss_cons (ps_if (pt_not (pt_val (pe_call (ok_fields T) (hr.mono (by decide)) rfl T.g_fields T.F_fields.kp T.b_fields .nil pass0 (pa_cons (pv 12) (pa_cons (pe_ix ix_tup (pv 11) pe_int (fun _ _ => rfl)) (pa_cons (pe_ix ix_tup (pv 11) pe_int (fun _ _ => rfl)) (pa_cons (pe_call (ok_count T) (hr.mono (by decide)) rfl T.g_count T.F_count.kp T.b_count .nil pass0 (pa_cons (pe_ix ix_tup (pv 11) pe_int (fun _ _ => rfl)) (pa_cons (pe_ix ix_tup (pv 11) pe_int (fun _ _ => rfl)) pa_nil))) pa_nil)))))))
      (pss_one (ps_ret pe_bl)) pss_nil)
      (pss_one (ps_if (pt_not (pt_val (pe_call (ok_lfinest T) (hr.mono (by decide)) rfl T.g_lfinest T.F_lfinest.kp T.b_lfinest .nil pass0 (pa_cons (pv 12) (pa_cons (pe_ix ix_tup (pv 11) pe_int (fun _ _ => rfl)) (pa_cons (pe_ix ix_tup (pv 11) pe_int (fun _ _ => rfl)) (pa_cons (pv 9) pa_nil)))))))
      (pss_one (ps_ret pe_bl)) pss_nil)))) (pss_one (ps_if (pt_cmpR (op_neD hr.units) (pe_call (ok_made T) (hr.mono (by decide)) rfl T.g_made T.F_made.kp T.b_made .nil pass0 (pa_cons (pe_ix ix_tup (pv 11) pe_int (fun _ _ => rfl)) (pa_cons (pe_ix ix_tup (pv 11) pe_int (fun _ _ => rfl)) pa_nil))) (pe_ix ix_tup (pv 11) pe_int (fun _ _ => rfl)) (nomark _))
      (pss_one (ps_ret pe_bl)) pss_nil))))))
      (pss_one (ps_ret pe_bl))))))))), ?_⟩
    -- the pot
    refine ⟨fun sl H' => ∃ pt l, sl = [some (.ref a0), some (.ref pt), none, none, none, none, none, none, none, none, none, none, none] ∧ PotL H' pt l, ?_, ?_⟩
    · obtain ⟨ms, hms, hml⟩ : ∃ ms : List Int, cutV (ns.map V.int) none (some 63) = ms.map V.int ∧ ms.length ≤ 63 := by
        refine ⟨(ns.drop (HT.sIx (ns.map V.int).length 0 none)).take (HT.sIx (ns.map V.int).length (ns.map V.int).length (some 63) - HT.sIx (ns.map V.int).length 0 none), ?_, ?_⟩
        · unfold cutV
          rw [List.map_take, List.map_drop]
        · rw [List.length_take, List.length_drop]
          omega
      refine ⟨_, rfl, _, rfl, a0, _, rfl, hS, fun p hp => ⟨p, rfl, ⟨_, SqL.of upd_same⟩, fun D hD => ?_⟩⟩
      rw [hms]
      have hpD : p ≠ D := fun e => by rw [← e, hms, upd_same] at hD; cases hD
      have hD0 : H D = none := by rw [hms, upd_ne hpD.symm] at hD; exact hD
      refine lc_list (K := K) (a := p) (xs := ms.map V.int) (fun i H' => (∃ cs : List Int, H' D = some (.lst (cs.map V.int)) ∧ cs.length = i ∧ (∀ z ∈ cs, 0 ≤ z)) ∧ H' p = some (.lst (ms.map V.int)) ∧ Ex H H')
        ⟨⟨[], upd_same, rfl, fun z hz => by cases hz⟩, ?_, ?_⟩ (fun i H' _ h => SqL.of h.2.1) ?_ ?_
      · rw [upd_ne hpD, upd_same]
      · exact fun c o e => by rw [upd_ne (ne_of_none e hD0), upd_ne (ne_of_none e hp)]; exact e
      · rintro i x H' hx ⟨⟨cs, hcs, hci, hc0⟩, hp', ex⟩
        obtain ⟨z, hz, rfl⟩ : ∃ z, ms[i]? = some z ∧ x = V.int z := by
          rw [List.getElem?_map] at hx
          cases e : ms[i]? with
          | none => rw [e] at hx; cases hx
          | some z => rw [e] at hx; exact ⟨z, rfl, (Option.some.inj hx).symm⟩
        have hi : i < ms.length := (List.getElem?_eq_some_iff.mp hz).1
        refine ⟨rfl, _, rfl, z, rfl, _, hcs, ?_, ⟨⟨cs ++ [if z < 0 then -z else z], ?_, ?_, ?_⟩, ?_, ?_⟩⟩
        · rw [List.length_map, hci, sizeLine_eq]; omega
        · rw [upd_same, List.map_append]; rfl
        · rw [List.length_append, hci]; rfl
        · intro y hy
          rcases List.mem_append.mp hy with h | h
          · exact hc0 y h
          · have : y = if z < 0 then -z else z := by simpa using h
            rw [this]
            split <;> omega
        · rw [upd_ne hpD]; exact hp'
        · exact fun c o e => by rw [upd_ne (ne_of_none e hD0)]; exact ex c o e
      · rintro H' ⟨⟨cs, hcs, hci, hc0⟩, hp', ex⟩
        refine ⟨(by show 3 ≤ sizeLine; exact sz3), fun q hq => ?_⟩
        have nqD : D ≠ q := ne_of_none hcs hq
        refine ⟨q, D, rfl, cs, 0, 0, nqD.symm, upd_same, by rw [upd_ne nqD]; exact hcs, ?_, by decide, by decide, hc0⟩
        rw [List.length_map] at hci
        omega
    rintro sl H1 ⟨pt, l, rfl, pot⟩
    refine ⟨fun sl H' => ∃ rw_, sl = [some (.ref a0), some (.ref pt), none, some (.ref rw_), none, none, none, none, none, none, none, none, none] ∧ PotL H' pt l ∧ Rows A H' rw_ 0 ∧ rw_ ≠ pt ∧ rw_ ≠ l, ?_, ?_⟩
    · refine ⟨(by show 0 ≤ sizeLine; exact Nat.zero_le _), fun r hr => ?_⟩
      have n1 : pt ≠ r := ne_of_none pot.choose_spec.choose_spec.choose_spec.2.1 hr
      have n2 : l ≠ r := ne_of_none pot.choose_spec.choose_spec.choose_spec.2.2.1 hr
      exact ⟨r, rfl, pot.ex (Ex.new hr), ⟨[], upd_same, rfl, fun _ h => by cases h⟩, n1.symm, n2.symm⟩
    clear pot
    rintro sl H2 ⟨rw_, rfl, pot, hrw, ne1, ne2⟩
    refine ⟨fun sl H' => (∃ v1 v2 v3 v4 v5 : Option V, sl = [some (.ref a0), some (.ref pt), none, some (.ref rw_), v1, v2, v3, v4, v5, none, none, none, none]) ∧ PotL H' pt l ∧ Rows A H' rw_ 2, ?_, ?_⟩
    · refine ⟨2, rfl, by decide, by decide, ?_⟩
      refine for_range (lo := 0) (n := 2) (fun i sl H' => (∃ v1 v2 v3 v4 v5 : Option V, sl = [some (.ref a0), some (.ref pt), none, some (.ref rw_), v1, v2, v3, v4, v5, none, none, none, none]) ∧ PotL H' pt l ∧ Rows A H' rw_ i) ⟨⟨_, _, _, _, _, rfl⟩, pot, hrw⟩ ?_ (fun sl H' p => p)
      clear pot hrw
      rintro i sl H3 hi ⟨⟨v1, v2, v3, v4, v5, rfl⟩, pot, hrw⟩
      have i0 : (0 : Int) ≤ 0 + (i : Int) := by omega
      have i1 : (0 : Int) + (i : Int) ≤ 1 := by omega
      generalize (0 : Int) + (i : Int) = kk at i0 i1
      refine ⟨fun sl H' => ∃ (q : Addr) (p : Int × Int), sl = [some (.ref a0), some (.ref pt), none, some (.ref rw_), some (.int kk), some (.ref q), v3, v4, v5, none, none, none, none] ∧ PotL H' pt l ∧ Rows A H' rw_ i ∧ Pr H' q p ∧ Sm 110 p ∧ Int.gcd p.1 p.2 = 1, ?_, ?_⟩
      · exact ⟨_, rfl, _, rfl, pt, l, kk, rfl, pot, i0, i1, fun t p H4 hp sp cp p4 k4 => ⟨t, p, rfl, p4, hrw.keep pot k4 ne1, hp, sp, cp⟩⟩
      clear pot hrw
      rintro sl H4 ⟨q, p, rfl, pot, hrw, hq, sp, cp⟩
      refine ⟨fun sl H' => ∃ (d : Int), sl = [some (.ref a0), some (.ref pt), none, some (.ref rw_), some (.int kk), some (.ref q), some (.int d), v4, v5, none, none, none, none] ∧ PotL H' pt l ∧ Rows A H' rw_ i ∧ Pr H' q p ∧ Bd 10 d, ?_, ?_⟩
      · exact ⟨_, rfl, _, rfl, pt, l, kk, rfl, pot, i0, i1, fun d H5 bd p5 k5 => ⟨d, rfl, p5, hrw.keep pot k5 ne1, hq.nl (pot.nl k5), bd⟩⟩
      clear pot hrw hq
      rintro sl H5 ⟨d, rfl, pot, hrw, hq, bd⟩
      refine ⟨fun sl H' => ∃ (m : Int), sl = [some (.ref a0), some (.ref pt), none, some (.ref rw_), some (.int kk), some (.ref q), some (.int d), some (.int m), v5, none, none, none, none] ∧ PotL H' pt l ∧ Rows A H' rw_ i ∧ Pr H' q p ∧ m ≠ 0 ∧ Bd 3 m, ?_, ?_⟩
      · refine ⟨_, rfl, pt, l, 3, rfl, pot, by decide, bd_of (by decide), fun e H6 e0 e1 p6 k6 => ?_⟩
        have r0 := Int.emod_nonneg (e + kk) (by decide : (3 : Int) ≠ 0)
        have r1 := Int.emod_lt_of_pos (e + kk) (by decide : (0 : Int) < 3)
        refine ⟨_, rfl, _, _, rfl, rfl, .inl ⟨_, rfl, _, _, rfl, rfl, (by decide : (0 : Int) < 3), _, _, rfl, rfl, 1 + (e + kk) % 3, rfl, p6, hrw.keep pot k6 ne1, hq.nl (pot.nl k6), by omega, ?_⟩⟩
        unfold Bd
        omega
      clear pot hrw hq
      rintro sl H6 ⟨m, rfl, pot, hrw, hq, m0, bm⟩
      refine ⟨fun sl H' => ∃ (hh : Addr), sl = [some (.ref a0), some (.ref pt), none, some (.ref rw_), some (.int kk), some (.ref q), some (.int d), some (.int m), some (.ref hh), none, none, none, none] ∧ PotL H' pt l ∧ Rows A H' rw_ i ∧ Pr H' q p ∧ RatAt A.C H' hh p, ?_, ?_⟩
      · refine ⟨_, rfl, _, _, _, _, rfl, rfl, SqT.of (hq), rfl, _, rfl, _, _, rfl, rfl, sp.t.w bm, _, rfl, _, _, _, _, rfl, rfl, SqT.of (hq), rfl, _, rfl, _, _, rfl, rfl, sp.b.w bm, ?_⟩
        have n0 : p.2 * m ≠ 0 := Int.mul_ne_zero sp.ne m0
        intro u du nu nd _
        refine rd_mk n0 ((sp.b.mul bm).mono (by decide)) nu nd fun H7 ex r => ?_
        rw [lo_mul sp.ne m0, lo_self sp.pos cp] at r
        exact ⟨u, rfl, pot.ex ex, hrw.ex ex, hq.ex ex, r⟩
      clear pot hrw hq
      rintro sl H7 ⟨hh, rfl, pot, hrw, hq, hhh⟩
      obtain ⟨rs, r1, r2, r3⟩ := id hrw
      refine ⟨_, rfl, .inl ⟨rfl, _, SqL.of r1⟩, _, rfl, _, rfl, _, rfl, _, rfl, _, rfl, hh, p, d, rfl, hhh, sp, cp, fun mm H8 e8 hm => ⟨(by show 4 ≤ sizeLine; rw [sizeLine_eq]; decide), fun t nt => ?_⟩⟩
      have e9 : Ex H7 (upd H8 t (.tup [.ref q, .int d, .ref hh, .ref mm])) := Ex.to e8 nt
      have rv : RowV A (upd H8 t (.tup [.ref q, .int d, .ref hh, .ref mm])) t := ⟨q, hh, mm, d, p, upd_same, hq.ex e9, hhh.ex e9, sp, cp, bd, hm.nl (.of (Ex.new nt))⟩
      generalize upd H8 t (.tup [.ref q, .int d, .ref hh, .ref mm]) = H9 at e9 rv ⊢
      refine ⟨rw_, _, _, rfl, rfl, e9 _ _ r1, ?_, ⟨_, _, _, _, _, rfl⟩, ?_, ?_⟩
      · rw [List.length_map, r2, sizeLine_eq]; omega
      · exact (pot.ex e9).keep Keep.upd ne1 ne2
      · refine ⟨rs ++ [t], ?_, ?_, ?_⟩
        · rw [upd_same, List.map_append]; rfl
        · rw [List.length_append, r2]; rfl
        · intro r hr
          have kn : NL H9 (upd H9 rw_ (.lst (rs.map V.ref ++ [.ref t]))) := .keep (e9 _ _ r1) Keep.upd
          rcases List.mem_append.mp hr with h | h
          · exact ((r3 r h).nl (.of e9)).nl kn
          · have : r = t := by simpa using h
            subst this
            exact rv.nl kn
    clear pot hrw
    rintro sl H3 ⟨⟨v1, v2, v3, v4, v5, rfl⟩, pot, hrw⟩
    -- the counts and what is out of bounds
    refine ⟨fun sl H' => ∃ (c : Addr) (ns : List Int), sl = [some (.ref a0), some (.ref pt), none, some (.ref rw_), v1, v2, v3, v4, v5, some (.ref c), none, none, none] ∧ PotL H' pt l ∧ Rows A H' rw_ 2 ∧ H' c = some (.lst (ns.map V.int)) ∧ (∀ n ∈ ns, 0 ≤ n ∧ n ≤ 200) ∧ c ≠ pt, ?_, ?_⟩
    · refine ⟨_, rfl, pt, l, 201, rfl, pot, by decide, bd_of (by decide), fun e H4 e0 e1 p4 k4 => ?_⟩
      have r0 := Int.emod_nonneg (e + 7) (by decide : (201 : Int) ≠ 0)
      have r1 := Int.emod_lt_of_pos (e + 7) (by decide : (0 : Int) < 201)
      refine ⟨_, _, rfl, rfl, .inl ⟨_, rfl, _, _, rfl, rfl, (by decide : (0 : Int) < 201), (by show 4 ≤ sizeLine; rw [sizeLine_eq]; decide), fun c hc => ?_⟩⟩
      have nc : pt ≠ c := ne_of_none p4.choose_spec.choose_spec.choose_spec.2.1 hc
      refine ⟨c, [0, 1, 200, (e + 7) % 201], rfl, p4.ex (Ex.new hc), (hrw.keep pot k4 ne1).ex (Ex.new hc), upd_same, ?_, nc.symm⟩
      intro n hn
      simp only [List.mem_cons, List.not_mem_nil, or_false] at hn
      rcases hn with rfl | rfl | rfl | rfl <;> omega
    clear pot hrw
    rintro sl H4 ⟨c, cn, rfl, pot, hrw, hc, hcn, nc⟩
    refine ⟨fun sl H' => ∃ (f : Int), sl = [some (.ref a0), some (.ref pt), none, some (.ref rw_), v1, v2, v3, v4, v5, some (.ref c), some (.int f), none, none] ∧ Rows A H' rw_ 2 ∧ H' c = some (.lst (cn.map V.int)) ∧ 1 ≤ f, ?_, ?_⟩
    · exact ⟨_, rfl, pt, l, 1000, rfl, pot, by decide, bd_of (by decide), fun e H5 e0 e1 p5 k5 => ⟨_, _, rfl, rfl, 1 + e, rfl, hrw.keep pot k5 ne1, k5 _ _ hc nc, by omega⟩⟩
    clear pot hrw hc
    rintro sl H5 ⟨f, rfl, ⟨rs, r1, r2, r3⟩, hc, f1⟩
    have rows : ∀ {H' : Hp} {i : Nat} {x : V}, Ex H5 H' → (rs.map V.ref)[i]? = some x → ∃ r, x = V.ref r ∧ RowV A H' r := by
      intro H' i x ex hx
      rw [List.getElem?_map] at hx
      cases e : rs[i]? with
      | none => rw [e] at hx; cases hx
      | some r =>
        rw [e] at hx
        exact ⟨r, (Option.some.inj hx).symm, (r3 r (List.mem_of_getElem? e)).nl (.of ex)⟩
    refine ⟨fun sl H' => (∃ v6 : Option V, sl = [some (.ref a0), some (.ref pt), none, some (.ref rw_), v1, v2, v3, v4, v5, some (.ref c), some (.int f), v6, none]) ∧ Ex H5 H', ?_, ?_⟩
    · refine ⟨_, rfl, rw_, rfl, ⟨_, SqL.of r1⟩, for_list (K := K) (a := rw_) (xs := rs.map V.ref) (fun i sl H' => (∃ v6 : Option V, sl = [some (.ref a0), some (.ref pt), none, some (.ref rw_), v1, v2, v3, v4, v5, some (.ref c), some (.int f), v6, none]) ∧ Ex H5 H') ⟨⟨_, rfl⟩, fun _ _ h => h⟩ (fun i sl H' _ p => SqL.of (p.2 _ _ r1)) (fun i x sl H6 hx p' => ?_) (fun sl H' p => p)⟩
      obtain ⟨⟨v6, rfl⟩, ex⟩ := p'
      obtain ⟨r, rfl, q, hh, m, d, p, h1, h2, h3, h4, h5, h6, h7⟩ := rows ex hx
      exact ⟨_, rfl, _, _, _, _, rfl, rfl, SqT.of (h1), rfl, _, rfl, _, _, _, _, rfl, rfl, SqT.of (h1), rfl, _, rfl, _, _, _, _, rfl, rfl, SqT.of (h1), rfl, _, rfl, _, rfl, m, q, c, p, d, f, cn, rfl, h7, h2, h4, h5, h6, ex _ _ hc, hcn, f1, fun H7 e7 => ⟨true, rfl, iteF ⟨⟨_, rfl⟩, Same.trans ex e7⟩⟩⟩
    rintro sl H6 ⟨⟨v6, rfl⟩, e6⟩
    refine ⟨fun _ _ => True, ?_, fun _ H' _ => k H'⟩
    refine ⟨_, rfl, rw_, rfl, ⟨_, SqL.of (e6 _ _ r1)⟩, for_list (K := K) (a := rw_) (xs := rs.map V.ref) (fun i sl H' => (∃ v6 v7 : Option V, sl = [some (.ref a0), some (.ref pt), none, some (.ref rw_), v1, v2, v3, v4, v5, some (.ref c), some (.int f), v6, v7]) ∧ Ex H5 H') ⟨⟨_, _, rfl⟩, e6⟩ (fun i sl H' _ p => SqL.of (p.2 _ _ r1)) (fun i x sl H7 hx p' => ?_) (fun sl H' p => ?_)⟩
    · obtain ⟨⟨v6, v7, rfl⟩, ex⟩ := p'
      obtain ⟨r, rfl, q, hh, m, d, p, h1, h2, h3, h4, h5, h6, h7⟩ := rows ex hx
      refine ⟨fun sl H' => sl = [some (.ref a0), some (.ref pt), none, some (.ref rw_), v1, v2, v3, v4, v5, some (.ref c), some (.int f), some (.ref r), v7] ∧ Ex H7 H', ?_, ?_⟩
      · exact ⟨_, rfl, _, _, _, _, rfl, rfl, SqT.of (h1), rfl, _, rfl, _, _, _, _, rfl, rfl, SqT.of (h1), rfl, hh, q, vl p, p, rfl, ⟨p, h3, h4.mono (by decide), h5, rfl⟩, h2, h4.mono (by decide), rfl, fun H8 e8 => ⟨true, rfl, iteF ⟨rfl, e8⟩⟩⟩
      rintro sl H8 ⟨rfl, e8⟩
      replace h1 := e8 _ _ h1
      replace h2 := h2.ex e8
      replace h3 := h3.ex e8
      replace h7 := h7.nl (.of e8)
      have ex8 : Ex H5 H8 := Same.trans ex e8
      refine ⟨_, rfl, _, _, _, _, rfl, rfl, SqT.of (h1), rfl, _, rfl, _, _, _, _, rfl, rfl, SqT.of (h1), rfl, q, p, d, rfl, h2, h4, h5, fun b hb => ⟨b, rfl, ?_⟩⟩
      cases b with
      | true =>
        obtain ⟨gq, d0, d1⟩ := hb.mp rfl
        refine iteT ?_
        obtain ⟨b, st, g, hm, hbo⟩ : ∃ b s, GoodB p d s ∧ H8 m = some (.tup [.str "bars", .ref b]) ∧ BarsOf A H8 b p d s (facR (vl p) d s) := by
          rcases h7 with z | ⟨n, _⟩ | ⟨_, n, _⟩
          · exact z
          · exact absurd gq n
          · exact absurd ⟨d0, d1⟩ n
        refine ⟨fun sl H' => sl = [some (.ref a0), some (.ref pt), none, some (.ref rw_), v1, v2, v3, v4, v5, some (.ref c), some (.int f), some (.ref r), some (.ref b)] ∧ H' = H8, ?_, ?_⟩
        · exact ⟨_, rfl, _, _, _, _, rfl, rfl, SqT.of h1, rfl, _, _, _, _, rfl, rfl, SqT.of hm, rfl, rfl, rfl⟩
        rintro sl H9 ⟨rfl, rfl⟩
        refine ⟨_, rfl, _, rfl, _, _, _, _, rfl, rfl, SqT.of (h1), rfl, _, rfl, _, _, _, _, rfl, rfl, SqT.of (h1), rfl, _, rfl, _, _, _, _, rfl, rfl, SqT.of (h1), rfl, _, rfl, _, _, _, _, rfl, rfl, SqT.of (h1), rfl, q, p, d, rfl, h2, h4, h6, fun z hz => ?_⟩
        have := hz.one g.cl
        subst this
        refine ⟨b, q, p, d, z, rfl, hbo, g, h2, fun H10 e10 => ⟨true, rfl, iteF ?_⟩⟩
        refine ⟨_, rfl, _, rfl, _, _, _, _, rfl, rfl, SqT.of (e10 _ _ h1), rfl, _, rfl, _, _, _, _, rfl, rfl, SqT.of (e10 _ _ h1), rfl, _, rfl, b, q, c, p, d, z, cn, rfl, hbo.ex e10, g, h2.ex e10, e10 _ _ (ex8 _ _ hc), hcn, fun H11 e11 => ⟨true, rfl, iteF ?_⟩⟩
        exact ⟨⟨_, _, rfl⟩, (ex8.trans e10).trans e11⟩
      | false =>
        have nb : ¬ (GoodQ p ∧ 0 ≤ d ∧ d ≤ 12) := fun z => Bool.noConfusion (hb.mpr z)
        refine iteF ⟨_, rfl, _, _, _, _, rfl, rfl, SqT.of (h1), rfl, _, rfl, _, _, _, _, rfl, rfl, SqT.of (h1), rfl, hh, p, d, rfl, h3, h4, h5, fun mm H9 e9 hmm => ?_⟩
        have hm9 := h7.nl (.of e9)
        have same : ∃ D, Dp K H9 (.ref mm) D ∧ Dp K H9 (.ref m) D ∧ SeqAt.shaped D = true ∧ PyData.canLay0 D = true := by
          rcases hmm with ⟨_, _, g, _⟩ | ⟨n, u, y1, y2⟩ | ⟨g, n, y1⟩
          · exact absurd ⟨g.q, g.d0, g.d1⟩ nb
          · rcases hm9 with ⟨_, _, g, _⟩ | ⟨n', u', z1, z2⟩ | ⟨g, _, _⟩
            · exact absurd g.q n
            · exact ⟨.tuple [.str "q", .tuple [.int p.1, .int p.2]], .tup (SqT.of y1) (.cons (.str _) (.cons (.tup (SqT.of y2) (.cons (.int _) (.cons (.int _) .nil))) .nil)), .tup (SqT.of z1) (.cons (.str _) (.cons (.tup (SqT.of z2) (.cons (.int _) (.cons (.int _) .nil))) .nil)), sh_q _ _, cl_q _ _⟩
            · exact absurd g n
          · rcases hm9 with ⟨_, _, g', _⟩ | ⟨n', _⟩ | ⟨_, _, z1⟩
            · exact absurd ⟨g'.d0, g'.d1⟩ n
            · exact absurd g n'
            · exact ⟨.tuple [.str "value", .int d], .tup (SqT.of y1) (.cons (.str _) (.cons (.int _) .nil)), .tup (SqT.of z1) (.cons (.str _) (.cons (.int _) .nil)), sh_v _, cl_v _⟩
        obtain ⟨D, d1, d2, d3, d4⟩ := same
        refine ⟨_, rfl, _, _, _, _, rfl, rfl, SqT.of (e9 _ _ h1), rfl, D, D, d1, d2, d3, d3, _, rfl, ?_⟩
        rw [PySem.SeqAt.eqv_refl D d4]
        exact iteF ⟨⟨_, _, rfl⟩, ex8.trans e9⟩
    · trivial
end
end Fc
set_option Elab.async false
set_option linter.all false
set_option maxRecDepth 100000
set_option maxHeartbeats 4000000
namespace Fc
open PySem PySem.Spec PyProof.Rows L2
theorem all_mk {l : PySem.W.OpenLaw} {w : World} {K : PySem.W.Frag} {h : Heap} {mg : Str → Option Value} {fa : Addr} (X : K.In h) (G : h.Ns mainGlobals mg) (hfa : mg "law" = some (.ref fa))
    {f_oob : Addr} {oc_oob kV_oob dc_oob pm_oob cd_oob ct_oob : Value} {od_oob an_oob : Option Addr} {sl_oob : Array (Option Value)}
    {f_bq : Addr} {oc_bq kV_bq dc_bq pm_bq cd_bq ct_bq : Value} {od_bq an_bq : Option Addr} {sl_bq : Array (Option Value)}
    {f_add : Addr} {oc_add kV_add dc_add pm_add cd_add ct_add : Value} {od_add an_add : Option Addr} {sl_add : Array (Option Value)}
    {f_sub : Addr} {oc_sub kV_sub dc_sub pm_sub cd_sub ct_sub : Value} {od_sub an_sub : Option Addr} {sl_sub : Array (Option Value)}
    {f_mul : Addr} {oc_mul kV_mul dc_mul pm_mul cd_mul ct_mul : Value} {od_mul an_mul : Option Addr} {sl_mul : Array (Option Value)}
    {f_divided : Addr} {oc_divided kV_divided dc_divided pm_divided cd_divided ct_divided : Value} {od_divided an_divided : Option Addr} {sl_divided : Array (Option Value)}
    {f_compare : Addr} {oc_compare kV_compare dc_compare pm_compare cd_compare ct_compare : Value} {od_compare an_compare : Option Addr} {sl_compare : Array (Option Value)}
    {f_up : Addr} {oc_up kV_up dc_up pm_up cd_up ct_up : Value} {od_up an_up : Option Addr} {sl_up : Array (Option Value)}
    {f_binit : Addr} {oc_binit kV_binit dc_binit pm_binit cd_binit ct_binit : Value} {od_binit an_binit : Option Addr} {sl_binit : Array (Option Value)}
    {f_ceiling : Addr} {oc_ceiling kV_ceiling dc_ceiling pm_ceiling cd_ceiling ct_ceiling : Value} {od_ceiling an_ceiling : Option Addr} {sl_ceiling : Array (Option Value)}
    {f_floor : Addr} {oc_floor kV_floor dc_floor pm_floor cd_floor ct_floor : Value} {od_floor an_floor : Option Addr} {sl_floor : Array (Option Value)}
    {f_finest : Addr} {oc_finest kV_finest dc_finest pm_finest cd_finest ct_finest : Value} {od_finest an_finest : Option Addr} {sl_finest : Array (Option Value)}
    {f_bstart : Addr} {oc_bstart kV_bstart dc_bstart pm_bstart cd_bstart ct_bstart : Value} {od_bstart an_bstart : Option Addr} {sl_bstart : Array (Option Value)}
    {f_check : Addr} {oc_check kV_check dc_check pm_check cd_check ct_check : Value} {od_check an_check : Option Addr} {sl_check : Array (Option Value)}
    {f_checkq : Addr} {oc_checkq kV_checkq dc_checkq pm_checkq cd_checkq ct_checkq : Value} {od_checkq an_checkq : Option Addr} {sl_checkq : Array (Option Value)}
    {f_digit : Addr} {oc_digit kV_digit dc_digit pm_digit cd_digit ct_digit : Value} {od_digit an_digit : Option Addr} {sl_digit : Array (Option Value)}
    {f_whole : Addr} {oc_whole kV_whole dc_whole pm_whole cd_whole ct_whole : Value} {od_whole an_whole : Option Addr} {sl_whole : Array (Option Value)}
    {f_lgcd : Addr} {oc_lgcd kV_lgcd dc_lgcd pm_lgcd cd_lgcd ct_lgcd : Value} {od_lgcd an_lgcd : Option Addr} {sl_lgcd : Array (Option Value)}
    {f_read : Addr} {oc_read kV_read dc_read pm_read cd_read ct_read : Value} {od_read an_read : Option Addr} {sl_read : Array (Option Value)}
    {f_same : Addr} {oc_same kV_same dc_same pm_same cd_same ct_same : Value} {od_same an_same : Option Addr} {sl_same : Array (Option Value)}
    {f_drawq : Addr} {oc_drawq kV_drawq dc_drawq pm_drawq cd_drawq ct_drawq : Value} {od_drawq an_drawq : Option Addr} {sl_drawq : Array (Option Value)}
    {f_drawd : Addr} {oc_drawd kV_drawd dc_drawd pm_drawd cd_drawd ct_drawd : Value} {od_drawd an_drawd : Option Addr} {sl_drawd : Array (Option Value)}
    {f_made : Addr} {oc_made kV_made dc_made pm_made cd_made ct_made : Value} {od_made an_made : Option Addr} {sl_made : Array (Option Value)}
    {f_refused : Addr} {oc_refused kV_refused dc_refused pm_refused cd_refused ct_refused : Value} {od_refused an_refused : Option Addr} {sl_refused : Array (Option Value)}
    {f_fields : Addr} {oc_fields kV_fields dc_fields pm_fields cd_fields ct_fields : Value} {od_fields an_fields : Option Addr} {sl_fields : Array (Option Value)}
    {f_equations : Addr} {oc_equations kV_equations dc_equations pm_equations cd_equations ct_equations : Value} {od_equations an_equations : Option Addr} {sl_equations : Array (Option Value)}
    {f_every : Addr} {oc_every kV_every dc_every pm_every cd_every ct_every : Value} {od_every an_every : Option Addr} {sl_every : Array (Option Value)}
    {f_lfinest : Addr} {oc_lfinest kV_lfinest dc_lfinest pm_lfinest cd_lfinest ct_lfinest : Value} {od_lfinest an_lfinest : Option Addr} {sl_lfinest : Array (Option Value)}
    {f_count : Addr} {oc_count kV_count dc_count pm_count cd_count ct_count : Value} {od_count an_count : Option Addr} {sl_count : Array (Option Value)}
    {f_good : Addr} {oc_good kV_good dc_good pm_good cd_good ct_good : Value} {od_good an_good : Option Addr} {sl_good : Array (Option Value)}
    {f_right : Addr} {oc_right kV_right dc_right pm_right cd_right ct_right : Value} {od_right an_right : Option Addr} {sl_right : Array (Option Value)}
    {f_law : Addr} {oc_law kV_law dc_law pm_law cd_law ct_law : Value} {od_law an_law : Option Addr} {sl_law : Array (Option Value)}
    {C f_init T_init : Addr} {oc_init kV_init dc_init pm_init cd_init ct_init : Value} {od_init an_init : Option Addr} {sl_init : Array (Option Value)} {oT : Value} {dT : Option Addr} {tT : Tok} {nT' : Nat} {sT : Array (Option Value)}
    {Z : Addr}
    {CE : Addr}
    {Bq : Addr} {nm_Bq q_Bq : Str} {N_Bq : Addr} {bs1_Bq : List Value} {sn_Bq : List Str} {sub_Bq : List Value} {ab_Bq : Bool} {col_Bq : Option Bool} {dd_Bq : Option Addr} {m0_Bq m1_Bq m2_Bq m3_Bq m5_Bq : Option Value} {bm_Bq : List Value}
    {O : Addr} {nm_O q_O : Str} {N_O : Addr} {bs1_O : List Value} {sn_O : List Str} {sub_O : List Value} {ab_O : Bool} {col_O : Option Bool} {dd_O : Option Addr} {m0_O m1_O m2_O m3_O m5_O : Option Value} {bm_O : List Value}
    {B : Addr}
    {tk_MOST_Q : Tok}
    {tk_MOST_Q_BOTTOM : Tok}
    {tk_MOST_DIMENSION : Tok}
    {tk_MOST_MANY : Tok}
    (hn : PySem.W.specialIn K (.builtin "object.__class__") "__get__" = some (some (.builtin "getset_descriptor.__get__")))
    (htk : PySem.W.takesIn K (.builtin "object.__class__") = some true)
    (aC : PySem.W.nsIn K mainGlobals "Ratio" = some (some (.ref C)))
    (pgC : PySem.W.plainGet K C Str.empty = true)
    (hdC : PySem.W.hasDictIn K C = true)
    (poC : PySem.W.plainOver K C = true)
    (saC : PySem.W.findIn K (.ref C) "__setattr__" = some (some (.builtin "object.__setattr__")))
    (mkC : PySem.W.makesIn K C = true)
    (kcC : PySem.W.keepIn K (.ref C) = true)
    (a_init : PySem.W.findIn K (.ref C) "__init__" = some (some (.ref f_init)))
    (i_init : PySem.W.isFn K (.ref f_init) = true)
    (l_init : K.lookup f_init = some ⟨oc_init, od_init, .func (PySem.W.fnOf "__init__" "Ratio.__init__" (defArgs S_init) (defBody S_init) (defScope S_init) (.ref T_init) kV_init dc_init pm_init an_init cd_init ct_init), sl_init⟩)
    (lT : K.lookup T_init = some ⟨oT, dT, .seq #[Value.int 1 tT] nT', sT⟩)
    (c_init : PySem.W.codeIn K cd_init "Ratio.__init__" = true)
    (k_init : PySem.W.keepIn K (.ref f_init) = true)
    (nT : PySem.W.findIn K (.ref C) "top" = some none)
    (nB : PySem.W.findIn K (.ref C) "bottom" = some none)
    (ha : PySem.W.findIn K (.ref C) "__class__" = some (some (.builtin "object.__class__")))
    (hm : PySem.W.mroIn K C (.type "object") = some true)
    (gg : PySem.W.nsIn K mainGlobals "gcd" = some (some (.builtin "math.gcd")))
    (sf : PySem.W.selfFirst K C = true)
    (aZ : PySem.W.nsIn K mainGlobals "ZeroBottom" = some (some (.ref Z)))
    (xZ : PySem.W.excIn K Z [.type "ValueError", .type "Exception", .type "BaseException", .type "object"] "ValueError.__new__" = true)
    (kZ : PySem.W.keepIn K (.ref Z) = true)
    (bZ : PySem.W.subIn K (.ref Z) (.type "BaseException") = some true)
    (tZ : PySem.W.typeIn K (.ref Z) = some (.type "type"))
    (aCE : PySem.W.nsIn K mainGlobals "CarryError" = some (some (.ref CE)))
    (CEd : PySem.W.hasDictIn K CE = true)
    (CEb : PySem.W.subIn K (.ref CE) (.type "BaseException") = some true)
    (CEt : PySem.W.typeIn K (.ref CE) = some (.type "type"))
    (a_Bq : PySem.W.nsIn K mainGlobals "BadQ" = some (some (.ref Bq)))
    (c_Bq : K.lookup Bq = some (excClassObj nm_Bq q_Bq Bq N_Bq bs1_Bq bm_Bq true sn_Bq sub_Bq ab_Bq col_Bq dd_Bq m0_Bq m1_Bq m2_Bq m3_Bq m5_Bq "ValueError.__new__"))
    (r_Bq : PySem.HandSPX.refsVE bm_Bq = true)
    (sa_Bq : PySem.W.findIn K (.ref Bq) "__setattr__" = some (some (.builtin "object.__setattr__")))
    (k_Bq : PySem.W.keepIn K (.ref Bq) = true)
    (bs_Bq : PySem.W.subIn K (.ref Bq) (.type "BaseException") = some true)
    (t_Bq : PySem.W.typeIn K (.ref Bq) = some (.type "type"))
    (e_Bq : PySem.W.subIn K (.ref Bq) (.ref CE) = some true)
    (g0_Bq : PySem.W.findIn K (.ref Bq) "__getattribute__" = some (some (.builtin "BaseException.__getattribute__")))
    (g1_Bq : PySem.W.findIn K (.ref Bq) "__getattr__" = some none)
    (d_Bq : PySem.W.hasDictIn K Bq = true)
    (cl_Bq : PySem.W.findIn K (.ref Bq) "__class__" = some (some (.builtin "object.__class__")))
    (m_Bq : PySem.W.mroIn K Bq (.type "object") = some true)
    (v_Bq : PySem.W.subIn K (.ref Bq) (.type "ValueError") = some true)
    (n_Bq_q : PySem.W.findIn K (.ref Bq) "q" = some none)
    (a_O : PySem.W.nsIn K mainGlobals "OutOfBounds" = some (some (.ref O)))
    (c_O : K.lookup O = some (excClassObj nm_O q_O O N_O bs1_O bm_O true sn_O sub_O ab_O col_O dd_O m0_O m1_O m2_O m3_O m5_O "ValueError.__new__"))
    (r_O : PySem.HandSPX.refsVE bm_O = true)
    (sa_O : PySem.W.findIn K (.ref O) "__setattr__" = some (some (.builtin "object.__setattr__")))
    (k_O : PySem.W.keepIn K (.ref O) = true)
    (bs_O : PySem.W.subIn K (.ref O) (.type "BaseException") = some true)
    (t_O : PySem.W.typeIn K (.ref O) = some (.type "type"))
    (e_O : PySem.W.subIn K (.ref O) (.ref CE) = some true)
    (g0_O : PySem.W.findIn K (.ref O) "__getattribute__" = some (some (.builtin "BaseException.__getattribute__")))
    (g1_O : PySem.W.findIn K (.ref O) "__getattr__" = some none)
    (d_O : PySem.W.hasDictIn K O = true)
    (cl_O : PySem.W.findIn K (.ref O) "__class__" = some (some (.builtin "object.__class__")))
    (m_O : PySem.W.mroIn K O (.type "object") = some true)
    (v_O : PySem.W.subIn K (.ref O) (.type "ValueError") = some true)
    (n_O_value : PySem.W.findIn K (.ref O) "value" = some none)
    (s_bqNo : PySem.W.subIn K (.ref Bq) (.ref O) = some false)
    (n_bqNo : Bq ≠ O)
    (s_oNbq : PySem.W.subIn K (.ref O) (.ref Bq) = some false)
    (n_oNbq : O ≠ Bq)
    (a_B : PySem.W.nsIn K mainGlobals "Bars" = some (some (.ref B)))
    (pgB : PySem.W.plainGet K B Str.empty = true)
    (hdB : PySem.W.hasDictIn K B = true)
    (poB : PySem.W.plainOver K B = true)
    (saB : PySem.W.findIn K (.ref B) "__setattr__" = some (some (.builtin "object.__setattr__")))
    (mkB : PySem.W.makesIn K B = true)
    (kcB : PySem.W.keepIn K (.ref B) = true)
    (ha_B : PySem.W.findIn K (.ref B) "__class__" = some (some (.builtin "object.__class__")))
    (hm_B : PySem.W.mroIn K B (.type "object") = some true)
    (na_B_q : PySem.W.findIn K (.ref B) "q" = some none)
    (na_B_dimension : PySem.W.findIn K (.ref B) "dimension" = some none)
    (na_B_steps : PySem.W.findIn K (.ref B) "steps" = some none)
    (na_B_ceiling_step : PySem.W.findIn K (.ref B) "ceiling_step" = some none)
    (na_B_floor_step : PySem.W.findIn K (.ref B) "floor_step" = some none)
    (na_B_ceiling_limit : PySem.W.findIn K (.ref B) "ceiling_limit" = some none)
    (na_B_floor_limit : PySem.W.findIn K (.ref B) "floor_limit" = some none)
    (na_B_bound : PySem.W.findIn K (.ref B) "bound" = some none)
    (na_B_factor : PySem.W.findIn K (.ref B) "factor" = some none)
    (gi_MOST_Q : PySem.W.nsIn K mainGlobals "_MOST_Q" = some (some (.int 4 tk_MOST_Q)))
    (gi_MOST_Q_BOTTOM : PySem.W.nsIn K mainGlobals "_MOST_Q_BOTTOM" = some (some (.int 12 tk_MOST_Q_BOTTOM)))
    (gi_MOST_DIMENSION : PySem.W.nsIn K mainGlobals "_MOST_DIMENSION" = some (some (.int 12 tk_MOST_DIMENSION)))
    (gi_MOST_MANY : PySem.W.nsIn K mainGlobals "_MOST_MANY" = some (some (.int 200 tk_MOST_MANY)))
    (h_neBC : B ≠ C)
    (z_len : PySem.W.nsIn K mainGlobals "len" = some none)
    (z_abs : PySem.W.nsIn K mainGlobals "abs" = some none)
    (z_int : PySem.W.nsIn K mainGlobals "int" = some none)
    (z_bool : PySem.W.nsIn K mainGlobals "bool" = some none)
    (z_isinstance : PySem.W.nsIn K mainGlobals "isinstance" = some none)
    (z_range : PySem.W.nsIn K mainGlobals "range" = some none)
    (z_ValueError : PySem.W.nsIn K mainGlobals "ValueError" = some none)
    (a_oob : PySem.W.findIn K (.ref O) "__init__" = some (some (.ref f_oob)))
    (i_oob : PySem.W.isFn K (.ref f_oob) = true)
    (l_oob : K.lookup f_oob = some ⟨oc_oob, od_oob, .func (PySem.W.fnOf "__init__" "OutOfBounds.__init__" (defArgs S_oob) (defBody S_oob) (defScope S_oob) .none kV_oob dc_oob pm_oob an_oob cd_oob ct_oob), sl_oob⟩)
    (c_oob : PySem.W.codeIn K cd_oob "OutOfBounds.__init__" = true)
    (k_oob : PySem.W.keepIn K (.ref f_oob) = true)
    (a_bq : PySem.W.findIn K (.ref Bq) "__init__" = some (some (.ref f_bq)))
    (i_bq : PySem.W.isFn K (.ref f_bq) = true)
    (l_bq : K.lookup f_bq = some ⟨oc_bq, od_bq, .func (PySem.W.fnOf "__init__" "BadQ.__init__" (defArgs S_bq) (defBody S_bq) (defScope S_bq) .none kV_bq dc_bq pm_bq an_bq cd_bq ct_bq), sl_bq⟩)
    (c_bq : PySem.W.codeIn K cd_bq "BadQ.__init__" = true)
    (k_bq : PySem.W.keepIn K (.ref f_bq) = true)
    (a_add : PySem.W.findIn K (.ref C) "__add__" = some (some (.ref f_add)))
    (i_add : PySem.W.isFn K (.ref f_add) = true)
    (l_add : K.lookup f_add = some ⟨oc_add, od_add, .func (PySem.W.fnOf "__add__" "Ratio.__add__" (defArgs S_add) (defBody S_add) (defScope S_add) .none kV_add dc_add pm_add an_add cd_add ct_add), sl_add⟩)
    (c_add : PySem.W.codeIn K cd_add "Ratio.__add__" = true)
    (k_add : PySem.W.keepIn K (.ref f_add) = true)
    (a_sub : PySem.W.findIn K (.ref C) "__sub__" = some (some (.ref f_sub)))
    (i_sub : PySem.W.isFn K (.ref f_sub) = true)
    (l_sub : K.lookup f_sub = some ⟨oc_sub, od_sub, .func (PySem.W.fnOf "__sub__" "Ratio.__sub__" (defArgs S_sub) (defBody S_sub) (defScope S_sub) .none kV_sub dc_sub pm_sub an_sub cd_sub ct_sub), sl_sub⟩)
    (c_sub : PySem.W.codeIn K cd_sub "Ratio.__sub__" = true)
    (k_sub : PySem.W.keepIn K (.ref f_sub) = true)
    (a_mul : PySem.W.findIn K (.ref C) "__mul__" = some (some (.ref f_mul)))
    (i_mul : PySem.W.isFn K (.ref f_mul) = true)
    (l_mul : K.lookup f_mul = some ⟨oc_mul, od_mul, .func (PySem.W.fnOf "__mul__" "Ratio.__mul__" (defArgs S_mul) (defBody S_mul) (defScope S_mul) .none kV_mul dc_mul pm_mul an_mul cd_mul ct_mul), sl_mul⟩)
    (c_mul : PySem.W.codeIn K cd_mul "Ratio.__mul__" = true)
    (k_mul : PySem.W.keepIn K (.ref f_mul) = true)
    (a_divided : PySem.W.findIn K (.ref C) "divided" = some (some (.ref f_divided)))
    (i_divided : PySem.W.isFn K (.ref f_divided) = true)
    (l_divided : K.lookup f_divided = some ⟨oc_divided, od_divided, .func (PySem.W.fnOf "divided" "Ratio.divided" (defArgs S_divided) (defBody S_divided) (defScope S_divided) .none kV_divided dc_divided pm_divided an_divided cd_divided ct_divided), sl_divided⟩)
    (c_divided : PySem.W.codeIn K cd_divided "Ratio.divided" = true)
    (k_divided : PySem.W.keepIn K (.ref f_divided) = true)
    (a_compare : PySem.W.findIn K (.ref C) "compare" = some (some (.ref f_compare)))
    (i_compare : PySem.W.isFn K (.ref f_compare) = true)
    (l_compare : K.lookup f_compare = some ⟨oc_compare, od_compare, .func (PySem.W.fnOf "compare" "Ratio.compare" (defArgs S_compare) (defBody S_compare) (defScope S_compare) .none kV_compare dc_compare pm_compare an_compare cd_compare ct_compare), sl_compare⟩)
    (c_compare : PySem.W.codeIn K cd_compare "Ratio.compare" = true)
    (k_compare : PySem.W.keepIn K (.ref f_compare) = true)
    (a_up : PySem.W.findIn K (.ref C) "rounded_up" = some (some (.ref f_up)))
    (i_up : PySem.W.isFn K (.ref f_up) = true)
    (l_up : K.lookup f_up = some ⟨oc_up, od_up, .func (PySem.W.fnOf "rounded_up" "Ratio.rounded_up" (defArgs S_up) (defBody S_up) (defScope S_up) .none kV_up dc_up pm_up an_up cd_up ct_up), sl_up⟩)
    (c_up : PySem.W.codeIn K cd_up "Ratio.rounded_up" = true)
    (k_up : PySem.W.keepIn K (.ref f_up) = true)
    (a_binit : PySem.W.findIn K (.ref B) "__init__" = some (some (.ref f_binit)))
    (i_binit : PySem.W.isFn K (.ref f_binit) = true)
    (l_binit : K.lookup f_binit = some ⟨oc_binit, od_binit, .func (PySem.W.fnOf "__init__" "Bars.__init__" (defArgs S_binit) (defBody S_binit) (defScope S_binit) .none kV_binit dc_binit pm_binit an_binit cd_binit ct_binit), sl_binit⟩)
    (c_binit : PySem.W.codeIn K cd_binit "Bars.__init__" = true)
    (k_binit : PySem.W.keepIn K (.ref f_binit) = true)
    (a_ceiling : PySem.W.findIn K (.ref B) "ceiling" = some (some (.ref f_ceiling)))
    (i_ceiling : PySem.W.isFn K (.ref f_ceiling) = true)
    (l_ceiling : K.lookup f_ceiling = some ⟨oc_ceiling, od_ceiling, .func (PySem.W.fnOf "ceiling" "Bars.ceiling" (defArgs S_ceiling) (defBody S_ceiling) (defScope S_ceiling) .none kV_ceiling dc_ceiling pm_ceiling an_ceiling cd_ceiling ct_ceiling), sl_ceiling⟩)
    (c_ceiling : PySem.W.codeIn K cd_ceiling "Bars.ceiling" = true)
    (k_ceiling : PySem.W.keepIn K (.ref f_ceiling) = true)
    (a_floor : PySem.W.findIn K (.ref B) "floor" = some (some (.ref f_floor)))
    (i_floor : PySem.W.isFn K (.ref f_floor) = true)
    (l_floor : K.lookup f_floor = some ⟨oc_floor, od_floor, .func (PySem.W.fnOf "floor" "Bars.floor" (defArgs S_floor) (defBody S_floor) (defScope S_floor) .none kV_floor dc_floor pm_floor an_floor cd_floor ct_floor), sl_floor⟩)
    (c_floor : PySem.W.codeIn K cd_floor "Bars.floor" = true)
    (k_floor : PySem.W.keepIn K (.ref f_floor) = true)
    (a_finest : PySem.W.findIn K (.ref B) "finest" = some (some (.ref f_finest)))
    (i_finest : PySem.W.isFn K (.ref f_finest) = true)
    (l_finest : K.lookup f_finest = some ⟨oc_finest, od_finest, .func (PySem.W.fnOf "finest" "Bars.finest" (defArgs S_finest) (defBody S_finest) (defScope S_finest) .none kV_finest dc_finest pm_finest an_finest cd_finest ct_finest), sl_finest⟩)
    (c_finest : PySem.W.codeIn K cd_finest "Bars.finest" = true)
    (k_finest : PySem.W.keepIn K (.ref f_finest) = true)
    (a_bstart : PySem.W.findIn K (.ref B) "_start" = some (some (.ref f_bstart)))
    (i_bstart : PySem.W.isFn K (.ref f_bstart) = true)
    (l_bstart : K.lookup f_bstart = some ⟨oc_bstart, od_bstart, .func (PySem.W.fnOf "_start" "Bars._start" (defArgs S_bstart) (defBody S_bstart) (defScope S_bstart) .none kV_bstart dc_bstart pm_bstart an_bstart cd_bstart ct_bstart), sl_bstart⟩)
    (c_bstart : PySem.W.codeIn K cd_bstart "Bars._start" = true)
    (k_bstart : PySem.W.keepIn K (.ref f_bstart) = true)
    (a_check : PySem.W.findIn K (.ref B) "_check_step" = some (some (.ref f_check)))
    (i_check : PySem.W.isFn K (.ref f_check) = true)
    (l_check : K.lookup f_check = some ⟨oc_check, od_check, .func (PySem.W.fnOf "_check_step" "Bars._check_step" (defArgs S_check) (defBody S_check) (defScope S_check) .none kV_check dc_check pm_check an_check cd_check ct_check), sl_check⟩)
    (c_check : PySem.W.codeIn K cd_check "Bars._check_step" = true)
    (k_check : PySem.W.keepIn K (.ref f_check) = true)
    (a_checkq : PySem.W.nsIn K mainGlobals "check_q" = some (some (.ref f_checkq)))
    (l_checkq : K.lookup f_checkq = some ⟨oc_checkq, od_checkq, .func (PySem.W.fnOf "check_q" "check_q" (defArgs S_checkq) (defBody S_checkq) (defScope S_checkq) .none kV_checkq dc_checkq pm_checkq an_checkq cd_checkq ct_checkq), sl_checkq⟩)
    (c_checkq : PySem.W.codeIn K cd_checkq "check_q" = true)
    (k_checkq : PySem.W.keepIn K (.ref f_checkq) = true)
    (a_digit : PySem.W.nsIn K mainGlobals "_law_digit" = some (some (.ref f_digit)))
    (l_digit : K.lookup f_digit = some ⟨oc_digit, od_digit, .func (PySem.W.fnOf "_law_digit" "_law_digit" (defArgs S_digit) (defBody S_digit) (defScope S_digit) .none kV_digit dc_digit pm_digit an_digit cd_digit ct_digit), sl_digit⟩)
    (c_digit : PySem.W.codeIn K cd_digit "_law_digit" = true)
    (k_digit : PySem.W.keepIn K (.ref f_digit) = true)
    (a_whole : PySem.W.nsIn K mainGlobals "_law_whole" = some (some (.ref f_whole)))
    (l_whole : K.lookup f_whole = some ⟨oc_whole, od_whole, .func (PySem.W.fnOf "_law_whole" "_law_whole" (defArgs S_whole) (defBody S_whole) (defScope S_whole) .none kV_whole dc_whole pm_whole an_whole cd_whole ct_whole), sl_whole⟩)
    (c_whole : PySem.W.codeIn K cd_whole "_law_whole" = true)
    (k_whole : PySem.W.keepIn K (.ref f_whole) = true)
    (a_lgcd : PySem.W.nsIn K mainGlobals "_law_gcd" = some (some (.ref f_lgcd)))
    (l_lgcd : K.lookup f_lgcd = some ⟨oc_lgcd, od_lgcd, .func (PySem.W.fnOf "_law_gcd" "_law_gcd" (defArgs S_lgcd) (defBody S_lgcd) (defScope S_lgcd) .none kV_lgcd dc_lgcd pm_lgcd an_lgcd cd_lgcd ct_lgcd), sl_lgcd⟩)
    (c_lgcd : PySem.W.codeIn K cd_lgcd "_law_gcd" = true)
    (k_lgcd : PySem.W.keepIn K (.ref f_lgcd) = true)
    (a_read : PySem.W.nsIn K mainGlobals "_law_read" = some (some (.ref f_read)))
    (l_read : K.lookup f_read = some ⟨oc_read, od_read, .func (PySem.W.fnOf "_law_read" "_law_read" (defArgs S_read) (defBody S_read) (defScope S_read) .none kV_read dc_read pm_read an_read cd_read ct_read), sl_read⟩)
    (c_read : PySem.W.codeIn K cd_read "_law_read" = true)
    (k_read : PySem.W.keepIn K (.ref f_read) = true)
    (a_same : PySem.W.nsIn K mainGlobals "_law_same" = some (some (.ref f_same)))
    (l_same : K.lookup f_same = some ⟨oc_same, od_same, .func (PySem.W.fnOf "_law_same" "_law_same" (defArgs S_same) (defBody S_same) (defScope S_same) .none kV_same dc_same pm_same an_same cd_same ct_same), sl_same⟩)
    (c_same : PySem.W.codeIn K cd_same "_law_same" = true)
    (k_same : PySem.W.keepIn K (.ref f_same) = true)
    (a_drawq : PySem.W.nsIn K mainGlobals "_law_draw_q" = some (some (.ref f_drawq)))
    (l_drawq : K.lookup f_drawq = some ⟨oc_drawq, od_drawq, .func (PySem.W.fnOf "_law_draw_q" "_law_draw_q" (defArgs S_drawq) (defBody S_drawq) (defScope S_drawq) .none kV_drawq dc_drawq pm_drawq an_drawq cd_drawq ct_drawq), sl_drawq⟩)
    (c_drawq : PySem.W.codeIn K cd_drawq "_law_draw_q" = true)
    (k_drawq : PySem.W.keepIn K (.ref f_drawq) = true)
    (a_drawd : PySem.W.nsIn K mainGlobals "_law_draw_dimension" = some (some (.ref f_drawd)))
    (l_drawd : K.lookup f_drawd = some ⟨oc_drawd, od_drawd, .func (PySem.W.fnOf "_law_draw_dimension" "_law_draw_dimension" (defArgs S_drawd) (defBody S_drawd) (defScope S_drawd) .none kV_drawd dc_drawd pm_drawd an_drawd cd_drawd ct_drawd), sl_drawd⟩)
    (c_drawd : PySem.W.codeIn K cd_drawd "_law_draw_dimension" = true)
    (k_drawd : PySem.W.keepIn K (.ref f_drawd) = true)
    (a_made : PySem.W.nsIn K mainGlobals "_law_made" = some (some (.ref f_made)))
    (l_made : K.lookup f_made = some ⟨oc_made, od_made, .func (PySem.W.fnOf "_law_made" "_law_made" (defArgs S_made) (defBody S_made) (defScope S_made) .none kV_made dc_made pm_made an_made cd_made ct_made), sl_made⟩)
    (c_made : PySem.W.codeIn K cd_made "_law_made" = true)
    (k_made : PySem.W.keepIn K (.ref f_made) = true)
    (a_refused : PySem.W.nsIn K mainGlobals "_law_refused" = some (some (.ref f_refused)))
    (l_refused : K.lookup f_refused = some ⟨oc_refused, od_refused, .func (PySem.W.fnOf "_law_refused" "_law_refused" (defArgs S_refused) (defBody S_refused) (defScope S_refused) .none kV_refused dc_refused pm_refused an_refused cd_refused ct_refused), sl_refused⟩)
    (c_refused : PySem.W.codeIn K cd_refused "_law_refused" = true)
    (k_refused : PySem.W.keepIn K (.ref f_refused) = true)
    (a_fields : PySem.W.nsIn K mainGlobals "_law_fields" = some (some (.ref f_fields)))
    (l_fields : K.lookup f_fields = some ⟨oc_fields, od_fields, .func (PySem.W.fnOf "_law_fields" "_law_fields" (defArgs S_fields) (defBody S_fields) (defScope S_fields) .none kV_fields dc_fields pm_fields an_fields cd_fields ct_fields), sl_fields⟩)
    (c_fields : PySem.W.codeIn K cd_fields "_law_fields" = true)
    (k_fields : PySem.W.keepIn K (.ref f_fields) = true)
    (a_equations : PySem.W.nsIn K mainGlobals "_law_equations" = some (some (.ref f_equations)))
    (l_equations : K.lookup f_equations = some ⟨oc_equations, od_equations, .func (PySem.W.fnOf "_law_equations" "_law_equations" (defArgs S_equations) (defBody S_equations) (defScope S_equations) .none kV_equations dc_equations pm_equations an_equations cd_equations ct_equations), sl_equations⟩)
    (c_equations : PySem.W.codeIn K cd_equations "_law_equations" = true)
    (k_equations : PySem.W.keepIn K (.ref f_equations) = true)
    (a_every : PySem.W.nsIn K mainGlobals "_law_every_step" = some (some (.ref f_every)))
    (l_every : K.lookup f_every = some ⟨oc_every, od_every, .func (PySem.W.fnOf "_law_every_step" "_law_every_step" (defArgs S_every) (defBody S_every) (defScope S_every) .none kV_every dc_every pm_every an_every cd_every ct_every), sl_every⟩)
    (c_every : PySem.W.codeIn K cd_every "_law_every_step" = true)
    (k_every : PySem.W.keepIn K (.ref f_every) = true)
    (a_lfinest : PySem.W.nsIn K mainGlobals "_law_finest" = some (some (.ref f_lfinest)))
    (l_lfinest : K.lookup f_lfinest = some ⟨oc_lfinest, od_lfinest, .func (PySem.W.fnOf "_law_finest" "_law_finest" (defArgs S_lfinest) (defBody S_lfinest) (defScope S_lfinest) .none kV_lfinest dc_lfinest pm_lfinest an_lfinest cd_lfinest ct_lfinest), sl_lfinest⟩)
    (c_lfinest : PySem.W.codeIn K cd_lfinest "_law_finest" = true)
    (k_lfinest : PySem.W.keepIn K (.ref f_lfinest) = true)
    (a_count : PySem.W.nsIn K mainGlobals "_law_count_steps" = some (some (.ref f_count)))
    (l_count : K.lookup f_count = some ⟨oc_count, od_count, .func (PySem.W.fnOf "_law_count_steps" "_law_count_steps" (defArgs S_count) (defBody S_count) (defScope S_count) .none kV_count dc_count pm_count an_count cd_count ct_count), sl_count⟩)
    (c_count : PySem.W.codeIn K cd_count "_law_count_steps" = true)
    (k_count : PySem.W.keepIn K (.ref f_count) = true)
    (a_good : PySem.W.nsIn K mainGlobals "_law_good" = some (some (.ref f_good)))
    (l_good : K.lookup f_good = some ⟨oc_good, od_good, .func (PySem.W.fnOf "_law_good" "_law_good" (defArgs S_good) (defBody S_good) (defScope S_good) .none kV_good dc_good pm_good an_good cd_good ct_good), sl_good⟩)
    (c_good : PySem.W.codeIn K cd_good "_law_good" = true)
    (k_good : PySem.W.keepIn K (.ref f_good) = true)
    (a_right : PySem.W.nsIn K mainGlobals "_law_right" = some (some (.ref f_right)))
    (l_right : K.lookup f_right = some ⟨oc_right, od_right, .func (PySem.W.fnOf "_law_right" "_law_right" (defArgs S_right) (defBody S_right) (defScope S_right) .none kV_right dc_right pm_right an_right cd_right ct_right), sl_right⟩)
    (c_right : PySem.W.codeIn K cd_right "_law_right" = true)
    (k_right : PySem.W.keepIn K (.ref f_right) = true)
    (a_law : PySem.W.nsIn K mainGlobals "law" = some (some (.ref f_law)))
    (l_law : K.lookup f_law = some ⟨oc_law, od_law, .func (PySem.W.fnOf "law" "law" (defArgs S_law) (defBody S_law) (defScope S_law) .none kV_law dc_law pm_law an_law cd_law ct_law), sl_law⟩)
    (c_law : PySem.W.codeIn K cd_law "law" = true)
    (k_law : PySem.W.keepIn K (.ref f_law) = true) :
    ∃ fd : FuncData, (∀ (s : Shared) (v : Value), BindsTo s fd ⟨[v], []⟩ [("script", v)]) ∧ ∀ base : Heap, K.In base → base.Ns mainGlobals mg → FnOk l.prog w K mg base CX0 10 fa fd ["script"] (spLaw K) := by
  have e := hfa.symm.trans (PySem.W.mg_of X G a_law)
  cases e
  have F_oob := fun_mk (st := S_oob) l_oob c_oob k_oob
  have b_oob := F_oob.binds (ps := ["self", "value"]) fun _ _ _ _ _ _ us hl => match us, hl with | [_, _], _ => rfl
  have F_bq := fun_mk (st := S_bq) l_bq c_bq k_bq
  have b_bq := F_bq.binds (ps := ["self", "q"]) fun _ _ _ _ _ _ us hl => match us, hl with | [_, _], _ => rfl
  have F_add := fun_mk (st := S_add) l_add c_add k_add
  have b_add := F_add.binds (ps := ["self", "other"]) fun _ _ _ _ _ _ us hl => match us, hl with | [_, _], _ => rfl
  have F_sub := fun_mk (st := S_sub) l_sub c_sub k_sub
  have b_sub := F_sub.binds (ps := ["self", "other"]) fun _ _ _ _ _ _ us hl => match us, hl with | [_, _], _ => rfl
  have F_mul := fun_mk (st := S_mul) l_mul c_mul k_mul
  have b_mul := F_mul.binds (ps := ["self", "other"]) fun _ _ _ _ _ _ us hl => match us, hl with | [_, _], _ => rfl
  have F_divided := fun_mk (st := S_divided) l_divided c_divided k_divided
  have b_divided := F_divided.binds (ps := ["self", "other"]) fun _ _ _ _ _ _ us hl => match us, hl with | [_, _], _ => rfl
  have F_compare := fun_mk (st := S_compare) l_compare c_compare k_compare
  have b_compare := F_compare.binds (ps := ["self", "other"]) fun _ _ _ _ _ _ us hl => match us, hl with | [_, _], _ => rfl
  have F_up := fun_mk (st := S_up) l_up c_up k_up
  have b_up := F_up.binds (ps := ["self"]) fun _ _ _ _ _ _ us hl => match us, hl with | [_], _ => rfl
  have F_binit := fun_mk (st := S_binit) l_binit c_binit k_binit
  have b_binit := F_binit.binds (ps := ["self", "q", "dimension"]) fun _ _ _ _ _ _ us hl => match us, hl with | [_, _, _], _ => rfl
  have F_ceiling := fun_mk (st := S_ceiling) l_ceiling c_ceiling k_ceiling
  have b_ceiling := F_ceiling.binds (ps := ["self", "step"]) fun _ _ _ _ _ _ us hl => match us, hl with | [_, _], _ => rfl
  have F_floor := fun_mk (st := S_floor) l_floor c_floor k_floor
  have b_floor := F_floor.binds (ps := ["self", "step"]) fun _ _ _ _ _ _ us hl => match us, hl with | [_, _], _ => rfl
  have F_finest := fun_mk (st := S_finest) l_finest c_finest k_finest
  have b_finest := F_finest.binds (ps := ["self", "many"]) fun _ _ _ _ _ _ us hl => match us, hl with | [_, _], _ => rfl
  have F_bstart := fun_mk (st := S_bstart) l_bstart c_bstart k_bstart
  have b_bstart := F_bstart.binds (ps := ["self"]) fun _ _ _ _ _ _ us hl => match us, hl with | [_], _ => rfl
  have F_check := fun_mk (st := S_check) l_check c_check k_check
  have b_check := F_check.binds (ps := ["self", "step"]) fun _ _ _ _ _ _ us hl => match us, hl with | [_, _], _ => rfl
  have F_checkq := fun_mk (st := S_checkq) l_checkq c_checkq k_checkq
  have b_checkq := F_checkq.binds (ps := ["q"]) fun _ _ _ _ _ _ us hl => match us, hl with | [_], _ => rfl
  have F_digit := fun_mk (st := S_digit) l_digit c_digit k_digit
  have b_digit := F_digit.binds (ps := ["pot", "many"]) fun _ _ _ _ _ _ us hl => match us, hl with | [_, _], _ => rfl
  have F_whole := fun_mk (st := S_whole) l_whole c_whole k_whole
  have b_whole := F_whole.binds (ps := ["told"]) fun _ _ _ _ _ _ us hl => match us, hl with | [_], _ => rfl
  have F_lgcd := fun_mk (st := S_lgcd) l_lgcd c_lgcd k_lgcd
  have b_lgcd := F_lgcd.binds (ps := ["one", "two"]) fun _ _ _ _ _ _ us hl => match us, hl with | [_, _], _ => rfl
  have F_read := fun_mk (st := S_read) l_read c_read k_read
  have b_read := F_read.binds (ps := ["told"]) fun _ _ _ _ _ _ us hl => match us, hl with | [_], _ => rfl
  have F_same := fun_mk (st := S_same) l_same c_same k_same
  have b_same := F_same.binds (ps := ["told", "due"]) fun _ _ _ _ _ _ us hl => match us, hl with | [_, _], _ => rfl
  have F_drawq := fun_mk (st := S_drawq) l_drawq c_drawq k_drawq
  have b_drawq := F_drawq.binds (ps := ["pot", "k"]) fun _ _ _ _ _ _ us hl => match us, hl with | [_, _], _ => rfl
  have F_drawd := fun_mk (st := S_drawd) l_drawd c_drawd k_drawd
  have b_drawd := F_drawd.binds (ps := ["pot", "k"]) fun _ _ _ _ _ _ us hl => match us, hl with | [_, _], _ => rfl
  have F_made := fun_mk (st := S_made) l_made c_made k_made
  have b_made := F_made.binds (ps := ["q", "dimension"]) fun _ _ _ _ _ _ us hl => match us, hl with | [_, _], _ => rfl
  have F_refused := fun_mk (st := S_refused) l_refused c_refused k_refused
  have b_refused := F_refused.binds (ps := ["bars", "place", "number"]) fun _ _ _ _ _ _ us hl => match us, hl with | [_, _, _], _ => rfl
  have F_fields := fun_mk (st := S_fields) l_fields c_fields k_fields
  have b_fields := F_fields.binds (ps := ["bars", "q", "dimension", "steps"]) fun _ _ _ _ _ _ us hl => match us, hl with | [_, _, _, _], _ => rfl
  have F_equations := fun_mk (st := S_equations) l_equations c_equations k_equations
  have b_equations := F_equations.binds (ps := ["bars", "q"]) fun _ _ _ _ _ _ us hl => match us, hl with | [_, _], _ => rfl
  have F_every := fun_mk (st := S_every) l_every c_every k_every
  have b_every := F_every.binds (ps := ["bars", "q", "dimension", "steps"]) fun _ _ _ _ _ _ us hl => match us, hl with | [_, _, _, _], _ => rfl
  have F_lfinest := fun_mk (st := S_lfinest) l_lfinest c_lfinest k_lfinest
  have b_lfinest := F_lfinest.binds (ps := ["bars", "q", "dimension", "counts"]) fun _ _ _ _ _ _ us hl => match us, hl with | [_, _, _, _], _ => rfl
  have F_count := fun_mk (st := S_count) l_count c_count k_count
  have b_count := F_count.binds (ps := ["q", "dimension"]) fun _ _ _ _ _ _ us hl => match us, hl with | [_, _], _ => rfl
  have F_good := fun_mk (st := S_good) l_good c_good k_good
  have b_good := F_good.binds (ps := ["q", "dimension"]) fun _ _ _ _ _ _ us hl => match us, hl with | [_, _], _ => rfl
  have F_right := fun_mk (st := S_right) l_right c_right k_right
  have b_right := F_right.binds (ps := ["told", "q", "dimension", "counts", "far"]) fun _ _ _ _ _ _ us hl => match us, hl with | [_, _, _, _, _], _ => rfl
  have F_law := fun_mk (st := S_law) l_law c_law k_law
  have b_law := F_law.binds (ps := ["script"]) fun _ _ _ _ _ _ us hl => match us, hl with | [_], _ => rfl
  have F_init : FunD K "__init__" "Ratio.__init__" (defArgs S_init) (defBody S_init) (defScope S_init) [.int 1] [] f_init (PySem.W.fnOf "__init__" "Ratio.__init__" (defArgs S_init) (defBody S_init) (defScope S_init) (.ref T_init) kV_init dc_init pm_init an_init cd_init ct_init) :=
    ⟨⟨_, _, _, _, _, _, _, _, _, _, rfl, l_init, c_init, .inr ⟨(by intro z; cases z), T_init, _, [Value.int 1 tT], _, rfl, lT, rfl, .cons ⟨_, rfl⟩ .nil⟩, .inl rfl⟩, k_init⟩
  have b3 : ∃ ds, Vals (([V.int 1] : List V).drop 1) ds ∧ Binds K (PySem.W.fnOf "__init__" "Ratio.__init__" (defArgs S_init) (defBody S_init) (defScope S_init) (.ref T_init) kV_init dc_init pm_init an_init cd_init ct_init) ["self", "top", "bottom"] ds :=
    F_init.binds1 3 1 (by intro z; cases z) rfl fun T kV doc pm an cdv ct us its h1 h2 => match us, its, h1, h2 with | [_, _, _], [_], _, _ => ⟨_, rfl, rfl⟩
  have b2 : ∃ ds, Vals (([V.int 1] : List V).drop 0) ds ∧ Binds K (PySem.W.fnOf "__init__" "Ratio.__init__" (defArgs S_init) (defBody S_init) (defScope S_init) (.ref T_init) kV_init dc_init pm_init an_init cd_init ct_init) ["self", "top", "bottom"] ds :=
    F_init.binds1 2 0 (by intro z; cases z) rfl fun T kV doc pm an cdv ct us its h1 h2 => match us, its, h1, h2 with | [_, _], [_], _, _ => ⟨_, rfl, rfl⟩
  have b3' : Binds K (PySem.W.fnOf "__init__" "Ratio.__init__" (defArgs S_init) (defBody S_init) (defScope S_init) (.ref T_init) kV_init dc_init pm_init an_init cd_init ct_init) ["self", "top", "bottom"] [] := by
    obtain ⟨ds, v, b⟩ := b3
    cases v
    exact b
  let A : Ad := { C := C, f_init := f_init, d_init := PySem.W.fnOf "__init__" "Ratio.__init__" (defArgs S_init) (defBody S_init) (defScope S_init) (.ref T_init) kV_init dc_init pm_init an_init cd_init ct_init, Z := Z, CE := CE, Bq := Bq, O := O, B := B, f_oob := f_oob, d_oob := PySem.W.fnOf "__init__" "OutOfBounds.__init__" (defArgs S_oob) (defBody S_oob) (defScope S_oob) .none kV_oob dc_oob pm_oob an_oob cd_oob ct_oob, f_bq := f_bq, d_bq := PySem.W.fnOf "__init__" "BadQ.__init__" (defArgs S_bq) (defBody S_bq) (defScope S_bq) .none kV_bq dc_bq pm_bq an_bq cd_bq ct_bq, f_add := f_add, d_add := PySem.W.fnOf "__add__" "Ratio.__add__" (defArgs S_add) (defBody S_add) (defScope S_add) .none kV_add dc_add pm_add an_add cd_add ct_add, f_sub := f_sub, d_sub := PySem.W.fnOf "__sub__" "Ratio.__sub__" (defArgs S_sub) (defBody S_sub) (defScope S_sub) .none kV_sub dc_sub pm_sub an_sub cd_sub ct_sub, f_mul := f_mul, d_mul := PySem.W.fnOf "__mul__" "Ratio.__mul__" (defArgs S_mul) (defBody S_mul) (defScope S_mul) .none kV_mul dc_mul pm_mul an_mul cd_mul ct_mul, f_divided := f_divided, d_divided := PySem.W.fnOf "divided" "Ratio.divided" (defArgs S_divided) (defBody S_divided) (defScope S_divided) .none kV_divided dc_divided pm_divided an_divided cd_divided ct_divided, f_compare := f_compare, d_compare := PySem.W.fnOf "compare" "Ratio.compare" (defArgs S_compare) (defBody S_compare) (defScope S_compare) .none kV_compare dc_compare pm_compare an_compare cd_compare ct_compare, f_up := f_up, d_up := PySem.W.fnOf "rounded_up" "Ratio.rounded_up" (defArgs S_up) (defBody S_up) (defScope S_up) .none kV_up dc_up pm_up an_up cd_up ct_up, f_binit := f_binit, d_binit := PySem.W.fnOf "__init__" "Bars.__init__" (defArgs S_binit) (defBody S_binit) (defScope S_binit) .none kV_binit dc_binit pm_binit an_binit cd_binit ct_binit, f_ceiling := f_ceiling, d_ceiling := PySem.W.fnOf "ceiling" "Bars.ceiling" (defArgs S_ceiling) (defBody S_ceiling) (defScope S_ceiling) .none kV_ceiling dc_ceiling pm_ceiling an_ceiling cd_ceiling ct_ceiling, f_floor := f_floor, d_floor := PySem.W.fnOf "floor" "Bars.floor" (defArgs S_floor) (defBody S_floor) (defScope S_floor) .none kV_floor dc_floor pm_floor an_floor cd_floor ct_floor, f_finest := f_finest, d_finest := PySem.W.fnOf "finest" "Bars.finest" (defArgs S_finest) (defBody S_finest) (defScope S_finest) .none kV_finest dc_finest pm_finest an_finest cd_finest ct_finest, f_bstart := f_bstart, d_bstart := PySem.W.fnOf "_start" "Bars._start" (defArgs S_bstart) (defBody S_bstart) (defScope S_bstart) .none kV_bstart dc_bstart pm_bstart an_bstart cd_bstart ct_bstart, f_check := f_check, d_check := PySem.W.fnOf "_check_step" "Bars._check_step" (defArgs S_check) (defBody S_check) (defScope S_check) .none kV_check dc_check pm_check an_check cd_check ct_check, f_checkq := f_checkq, d_checkq := PySem.W.fnOf "check_q" "check_q" (defArgs S_checkq) (defBody S_checkq) (defScope S_checkq) .none kV_checkq dc_checkq pm_checkq an_checkq cd_checkq ct_checkq, f_digit := f_digit, d_digit := PySem.W.fnOf "_law_digit" "_law_digit" (defArgs S_digit) (defBody S_digit) (defScope S_digit) .none kV_digit dc_digit pm_digit an_digit cd_digit ct_digit, f_whole := f_whole, d_whole := PySem.W.fnOf "_law_whole" "_law_whole" (defArgs S_whole) (defBody S_whole) (defScope S_whole) .none kV_whole dc_whole pm_whole an_whole cd_whole ct_whole, f_lgcd := f_lgcd, d_lgcd := PySem.W.fnOf "_law_gcd" "_law_gcd" (defArgs S_lgcd) (defBody S_lgcd) (defScope S_lgcd) .none kV_lgcd dc_lgcd pm_lgcd an_lgcd cd_lgcd ct_lgcd, f_read := f_read, d_read := PySem.W.fnOf "_law_read" "_law_read" (defArgs S_read) (defBody S_read) (defScope S_read) .none kV_read dc_read pm_read an_read cd_read ct_read, f_same := f_same, d_same := PySem.W.fnOf "_law_same" "_law_same" (defArgs S_same) (defBody S_same) (defScope S_same) .none kV_same dc_same pm_same an_same cd_same ct_same, f_drawq := f_drawq, d_drawq := PySem.W.fnOf "_law_draw_q" "_law_draw_q" (defArgs S_drawq) (defBody S_drawq) (defScope S_drawq) .none kV_drawq dc_drawq pm_drawq an_drawq cd_drawq ct_drawq, f_drawd := f_drawd, d_drawd := PySem.W.fnOf "_law_draw_dimension" "_law_draw_dimension" (defArgs S_drawd) (defBody S_drawd) (defScope S_drawd) .none kV_drawd dc_drawd pm_drawd an_drawd cd_drawd ct_drawd, f_made := f_made, d_made := PySem.W.fnOf "_law_made" "_law_made" (defArgs S_made) (defBody S_made) (defScope S_made) .none kV_made dc_made pm_made an_made cd_made ct_made, f_refused := f_refused, d_refused := PySem.W.fnOf "_law_refused" "_law_refused" (defArgs S_refused) (defBody S_refused) (defScope S_refused) .none kV_refused dc_refused pm_refused an_refused cd_refused ct_refused, f_fields := f_fields, d_fields := PySem.W.fnOf "_law_fields" "_law_fields" (defArgs S_fields) (defBody S_fields) (defScope S_fields) .none kV_fields dc_fields pm_fields an_fields cd_fields ct_fields, f_equations := f_equations, d_equations := PySem.W.fnOf "_law_equations" "_law_equations" (defArgs S_equations) (defBody S_equations) (defScope S_equations) .none kV_equations dc_equations pm_equations an_equations cd_equations ct_equations, f_every := f_every, d_every := PySem.W.fnOf "_law_every_step" "_law_every_step" (defArgs S_every) (defBody S_every) (defScope S_every) .none kV_every dc_every pm_every an_every cd_every ct_every, f_lfinest := f_lfinest, d_lfinest := PySem.W.fnOf "_law_finest" "_law_finest" (defArgs S_lfinest) (defBody S_lfinest) (defScope S_lfinest) .none kV_lfinest dc_lfinest pm_lfinest an_lfinest cd_lfinest ct_lfinest, f_count := f_count, d_count := PySem.W.fnOf "_law_count_steps" "_law_count_steps" (defArgs S_count) (defBody S_count) (defScope S_count) .none kV_count dc_count pm_count an_count cd_count ct_count, f_good := f_good, d_good := PySem.W.fnOf "_law_good" "_law_good" (defArgs S_good) (defBody S_good) (defScope S_good) .none kV_good dc_good pm_good an_good cd_good ct_good, f_right := f_right, d_right := PySem.W.fnOf "_law_right" "_law_right" (defArgs S_right) (defBody S_right) (defScope S_right) .none kV_right dc_right pm_right an_right cd_right ct_right, f_law := fa, d_law := PySem.W.fnOf "law" "law" (defArgs S_law) (defBody S_law) (defScope S_law) .none kV_law dc_law pm_law an_law cd_law ct_law }
  have T : Txt K mg A := {
    hn := hn,
    htk := htk,
    cl := ⟨pgC, hdC, poC, saC⟩,
    nT := nT,
    nB := nB,
    mkC := ⟨mkC, a_init, i_init, kcC⟩,
    ha := ha,
    hm := hm,
    F_init := F_init,
    b_init3 := b3',
    b_init2 := b2,
    g_Ratio := PySem.W.mg_of X G aC,
    g_gcd := PySem.W.mg_of X G gg,
    sf := sf,
    g_Z := PySem.W.mg_of X G aZ,
    xZ := xZ,
    kZ := kZ,
    bZ := bZ,
    tZ := tZ,
    g_CE := PySem.W.mg_of X G aCE,
    g_Bq := PySem.W.mg_of X G a_Bq,
    o_Bq := ⟨⟨nm_Bq, q_Bq, N_Bq, bs1_Bq, bm_Bq, sn_Bq, sub_Bq, ab_Bq, col_Bq, dd_Bq, m0_Bq, m1_Bq, m2_Bq, m3_Bq, m5_Bq, c_Bq, r_Bq⟩, sa_Bq, bs_Bq, t_Bq, k_Bq⟩,
    in_Bq := a_bq,
    ti_Bq := beq_iff_eq.mp i_bq,
    xf_Bq := ⟨g0_Bq, g1_Bq, bs_Bq, d_Bq⟩,
    e_Bq := PySem.W.exm_ref CEb CEd CEt e_Bq,
    X_Bq := ⟨g0_Bq, g1_Bq, bs_Bq, d_Bq, cl_Bq, hn, htk, m_Bq⟩,
    v_Bq := kit_typ (by decide +kernel) v_Bq,
    n_Bq_q := n_Bq_q,
    g_O := PySem.W.mg_of X G a_O,
    o_O := ⟨⟨nm_O, q_O, N_O, bs1_O, bm_O, sn_O, sub_O, ab_O, col_O, dd_O, m0_O, m1_O, m2_O, m3_O, m5_O, c_O, r_O⟩, sa_O, bs_O, t_O, k_O⟩,
    in_O := a_oob,
    ti_O := beq_iff_eq.mp i_oob,
    xf_O := ⟨g0_O, g1_O, bs_O, d_O⟩,
    e_O := PySem.W.exm_ref CEb CEd CEt e_O,
    X_O := ⟨g0_O, g1_O, bs_O, d_O, cl_O, hn, htk, m_O⟩,
    v_O := kit_typ (by decide +kernel) v_O,
    n_O_value := n_O_value,
    bqNo := kit_ref d_O t_O s_bqNo (fun z => n_bqNo (Value.ref.inj z)),
    oNbq := kit_ref d_Bq t_Bq s_oNbq (fun z => n_oNbq (Value.ref.inj z)),
    c_B := ⟨pgB, hdB, poB, saB⟩,
    mk_B := ⟨mkB, a_binit, i_binit, kcB⟩,
    ha_B := ha_B,
    hm_B := hm_B,
    g_Bars := PySem.W.mg_of X G a_B,
    na_B_q := na_B_q,
    na_B_dimension := na_B_dimension,
    na_B_steps := na_B_steps,
    na_B_ceiling_step := na_B_ceiling_step,
    na_B_floor_step := na_B_floor_step,
    na_B_ceiling_limit := na_B_ceiling_limit,
    na_B_floor_limit := na_B_floor_limit,
    na_B_bound := na_B_bound,
    na_B_factor := na_B_factor,
    gi_MOST_Q := ⟨tk_MOST_Q, PySem.W.mg_of X G gi_MOST_Q⟩,
    gi_MOST_Q_BOTTOM := ⟨tk_MOST_Q_BOTTOM, PySem.W.mg_of X G gi_MOST_Q_BOTTOM⟩,
    gi_MOST_DIMENSION := ⟨tk_MOST_DIMENSION, PySem.W.mg_of X G gi_MOST_DIMENSION⟩,
    gi_MOST_MANY := ⟨tk_MOST_MANY, PySem.W.mg_of X G gi_MOST_MANY⟩,
    neBC := h_neBC,
    n_len := PySem.W.mg_none_of X G z_len,
    n_abs := PySem.W.mg_none_of X G z_abs,
    n_int := PySem.W.mg_none_of X G z_int,
    n_bool := PySem.W.mg_none_of X G z_bool,
    n_isinstance := PySem.W.mg_none_of X G z_isinstance,
    n_range := PySem.W.mg_none_of X G z_range,
    n_ValueError := PySem.W.mg_none_of X G z_ValueError,
    F_oob := F_oob, b_oob := b_oob,
    m_oob := ⟨a_oob, i_oob, k_oob⟩,
    F_bq := F_bq, b_bq := b_bq,
    m_bq := ⟨a_bq, i_bq, k_bq⟩,
    F_add := F_add, b_add := b_add,
    m_add := ⟨a_add, i_add, k_add⟩,
    F_sub := F_sub, b_sub := b_sub,
    m_sub := ⟨a_sub, i_sub, k_sub⟩,
    F_mul := F_mul, b_mul := b_mul,
    m_mul := ⟨a_mul, i_mul, k_mul⟩,
    F_divided := F_divided, b_divided := b_divided,
    m_divided := ⟨a_divided, i_divided, k_divided⟩,
    F_compare := F_compare, b_compare := b_compare,
    m_compare := ⟨a_compare, i_compare, k_compare⟩,
    F_up := F_up, b_up := b_up,
    m_up := ⟨a_up, i_up, k_up⟩,
    F_binit := F_binit, b_binit := b_binit,
    m_binit := ⟨a_binit, i_binit, k_binit⟩,
    F_ceiling := F_ceiling, b_ceiling := b_ceiling,
    m_ceiling := ⟨a_ceiling, i_ceiling, k_ceiling⟩,
    F_floor := F_floor, b_floor := b_floor,
    m_floor := ⟨a_floor, i_floor, k_floor⟩,
    F_finest := F_finest, b_finest := b_finest,
    m_finest := ⟨a_finest, i_finest, k_finest⟩,
    F_bstart := F_bstart, b_bstart := b_bstart,
    m_bstart := ⟨a_bstart, i_bstart, k_bstart⟩,
    F_check := F_check, b_check := b_check,
    m_check := ⟨a_check, i_check, k_check⟩,
    F_checkq := F_checkq, b_checkq := b_checkq,
    g_checkq := PySem.W.mg_of X G a_checkq,
    F_digit := F_digit, b_digit := b_digit,
    g_digit := PySem.W.mg_of X G a_digit,
    F_whole := F_whole, b_whole := b_whole,
    g_whole := PySem.W.mg_of X G a_whole,
    F_lgcd := F_lgcd, b_lgcd := b_lgcd,
    g_lgcd := PySem.W.mg_of X G a_lgcd,
    F_read := F_read, b_read := b_read,
    g_read := PySem.W.mg_of X G a_read,
    F_same := F_same, b_same := b_same,
    g_same := PySem.W.mg_of X G a_same,
    F_drawq := F_drawq, b_drawq := b_drawq,
    g_drawq := PySem.W.mg_of X G a_drawq,
    F_drawd := F_drawd, b_drawd := b_drawd,
    g_drawd := PySem.W.mg_of X G a_drawd,
    F_made := F_made, b_made := b_made,
    g_made := PySem.W.mg_of X G a_made,
    F_refused := F_refused, b_refused := b_refused,
    g_refused := PySem.W.mg_of X G a_refused,
    F_fields := F_fields, b_fields := b_fields,
    g_fields := PySem.W.mg_of X G a_fields,
    F_equations := F_equations, b_equations := b_equations,
    g_equations := PySem.W.mg_of X G a_equations,
    F_every := F_every, b_every := b_every,
    g_every := PySem.W.mg_of X G a_every,
    F_lfinest := F_lfinest, b_lfinest := b_lfinest,
    g_lfinest := PySem.W.mg_of X G a_lfinest,
    F_count := F_count, b_count := b_count,
    g_count := PySem.W.mg_of X G a_count,
    F_good := F_good, b_good := b_good,
    g_good := PySem.W.mg_of X G a_good,
    F_right := F_right, b_right := b_right,
    g_right := PySem.W.mg_of X G a_right,
    F_law := F_law, b_law := b_law,
    g_law := PySem.W.mg_of X G a_law }
  exact ⟨_, fun s v => .of_eq rfl, fun base _ _ => ok_law (P := l.prog) (w := w) (base := base) T⟩
theorem walk {l : PySem.W.OpenLaw} {q : Program} {loose : List Str} {XP : (Str → Option Value) → Heap → Prop} {YP : World → Heap → Prop} {d : DefRec} {K : Params → PySem.W.Frag} (hn : l.most = some 63) (hdf : d.params.defaults = [])
    (hY : ∀ (w : World) (h : Heap), YP w h → (K w.params).In h)
    (F : ∀ (w : World) (mg : Str → Option Value) (fa : Addr) (h : Heap), (K w.params).In h → h.Ns mainGlobals mg → mg d.name = some (.ref fa) →
      ∃ fd : FuncData, (∀ (s : Shared) (u : Value), BindsTo s fd ⟨[u], []⟩ [("script", u)]) ∧ ∀ base : Heap, (K w.params).In base → base.Ns mainGlobals mg → FnOk l.prog w (K w.params) mg base CX0 10 fa fd ["script"] (spLaw (K w.params))) :
    PySem.W.WalkO q loose XP YP l.row.toRowW d [] (fun f vs => PySem.call f vs) :=
  L2.walk_of (n := 63) (k := 10) (x := "script") (CX := fun _ => CX0) (sp := fun w => spLaw (K w.params)) hn (by decide) hdf ⟨rfl, by decide, by decide⟩ hY F
    (fun _ _ a ns hl _ hS => ⟨a, ns, rfl, hS, hl, fun _ => rfl⟩) fun _ _ _ _ _ z => z
end Fc
open PySem PySem.W PyProof.Rows
set_option maxRecDepth 100000 in
set_option maxHeartbeats 0 in
theorem PySem.Challenge.cw_fewcarry_k25_bars_holds : PySem.Challenge.rw_fewcarry_k25_bars.Holds := by
  w_on; o_law; k_head; (case hw => w_witness2)
  k_fill
  refine Fc.walk (l := PySem.Challenge.rw_fewcarry_k25_bars) rfl rfl (fun w h Y => PySem.W.kIn_of Y) ?F
  case F =>
    intro w mg fa h KX G hmg
    refine' Fc.all_mk KX G hmg ?hn ?htk ?aC ?pgC ?hdC ?poC ?saC ?mkC ?kcC ?a_init ?i_init ?l_init ?lT ?c_init ?k_init ?nT ?nB ?ha ?hm ?gg ?sf ?aZ ?xZ ?kZ ?bZ ?tZ ?aCE ?CEd ?CEb ?CEt ?a_Bq ?c_Bq ?r_Bq ?sa_Bq ?k_Bq ?bs_Bq ?t_Bq ?e_Bq ?g0_Bq ?g1_Bq ?d_Bq ?cl_Bq ?m_Bq ?v_Bq ?n_Bq_q ?a_O ?c_O ?r_O ?sa_O ?k_O ?bs_O ?t_O ?e_O ?g0_O ?g1_O ?d_O ?cl_O ?m_O ?v_O ?n_O_value ?s_bqNo ?n_bqNo ?s_oNbq ?n_oNbq ?a_B ?pgB ?hdB ?poB ?saB ?mkB ?kcB ?ha_B ?hm_B ?na_B_q ?na_B_dimension ?na_B_steps ?na_B_ceiling_step ?na_B_floor_step ?na_B_ceiling_limit ?na_B_floor_limit ?na_B_bound ?na_B_factor ?gi_MOST_Q ?gi_MOST_Q_BOTTOM ?gi_MOST_DIMENSION ?gi_MOST_MANY ?h_neBC ?z_len ?z_abs ?z_int ?z_bool ?z_isinstance ?z_range ?z_ValueError ?a_oob ?i_oob ?l_oob ?c_oob ?k_oob ?a_bq ?i_bq ?l_bq ?c_bq ?k_bq ?a_add ?i_add ?l_add ?c_add ?k_add ?a_sub ?i_sub ?l_sub ?c_sub ?k_sub ?a_mul ?i_mul ?l_mul ?c_mul ?k_mul ?a_divided ?i_divided ?l_divided ?c_divided ?k_divided ?a_compare ?i_compare ?l_compare ?c_compare ?k_compare ?a_up ?i_up ?l_up ?c_up ?k_up ?a_binit ?i_binit ?l_binit ?c_binit ?k_binit ?a_ceiling ?i_ceiling ?l_ceiling ?c_ceiling ?k_ceiling ?a_floor ?i_floor ?l_floor ?c_floor ?k_floor ?a_finest ?i_finest ?l_finest ?c_finest ?k_finest ?a_bstart ?i_bstart ?l_bstart ?c_bstart ?k_bstart ?a_check ?i_check ?l_check ?c_check ?k_check ?a_checkq ?l_checkq ?c_checkq ?k_checkq ?a_digit ?l_digit ?c_digit ?k_digit ?a_whole ?l_whole ?c_whole ?k_whole ?a_lgcd ?l_lgcd ?c_lgcd ?k_lgcd ?a_read ?l_read ?c_read ?k_read ?a_same ?l_same ?c_same ?k_same ?a_drawq ?l_drawq ?c_drawq ?k_drawq ?a_drawd ?l_drawd ?c_drawd ?k_drawd ?a_made ?l_made ?c_made ?k_made ?a_refused ?l_refused ?c_refused ?k_refused ?a_fields ?l_fields ?c_fields ?k_fields ?a_equations ?l_equations ?c_equations ?k_equations ?a_every ?l_every ?c_every ?k_every ?a_lfinest ?l_lfinest ?c_lfinest ?k_lfinest ?a_count ?l_count ?c_count ?k_count ?a_good ?l_good ?c_good ?k_good ?a_right ?l_right ?c_right ?k_right ?a_law ?l_law ?c_law ?k_law
    (case hn => k_is)
    (case htk => k_is)
    (case aC => k_is)
    (case pgC => k_is)
    (case hdC => k_is)
    (case poC => k_is)
    (case saC => k_is)
    (case mkC => k_is)
    (case kcC => k_is)
    (case a_init => k_is)
    (case i_init => k_is)
    (case l_init => k_is)
    (case lT => k_is)
    (case c_init => k_is)
    (case k_init => k_is)
    (case nT => k_is)
    (case nB => k_is)
    (case ha => k_is)
    (case hm => k_is)
    (case gg => k_is)
    (case sf => k_is)
    (case aZ => k_is)
    (case xZ => k_exc)
    (case kZ => k_is)
    (case bZ => k_is)
    (case tZ => k_is)
    (case aCE => k_is)
    (case CEd => k_is)
    (case CEb => k_is)
    (case CEt => k_is)
    (case a_Bq => k_is)
    (case c_Bq => k_is)
    (case r_Bq => decide +kernel)
    (case sa_Bq => k_is)
    (case k_Bq => k_is)
    (case bs_Bq => k_is)
    (case t_Bq => k_is)
    (case e_Bq => k_is)
    (case g0_Bq => k_is)
    (case g1_Bq => k_is)
    (case d_Bq => k_is)
    (case cl_Bq => k_is)
    (case m_Bq => k_is)
    (case v_Bq => k_is)
    (case n_Bq_q => k_is)
    (case a_O => k_is)
    (case c_O => k_is)
    (case r_O => decide +kernel)
    (case sa_O => k_is)
    (case k_O => k_is)
    (case bs_O => k_is)
    (case t_O => k_is)
    (case e_O => k_is)
    (case g0_O => k_is)
    (case g1_O => k_is)
    (case d_O => k_is)
    (case cl_O => k_is)
    (case m_O => k_is)
    (case v_O => k_is)
    (case n_O_value => k_is)
    (case s_bqNo => k_is)
    (case n_bqNo => decide)
    (case s_oNbq => k_is)
    (case n_oNbq => decide)
    (case a_B => k_is)
    (case pgB => k_is)
    (case hdB => k_is)
    (case poB => k_is)
    (case saB => k_is)
    (case mkB => k_is)
    (case kcB => k_is)
    (case ha_B => k_is)
    (case hm_B => k_is)
    (case na_B_q => k_is)
    (case na_B_dimension => k_is)
    (case na_B_steps => k_is)
    (case na_B_ceiling_step => k_is)
    (case na_B_floor_step => k_is)
    (case na_B_ceiling_limit => k_is)
    (case na_B_floor_limit => k_is)
    (case na_B_bound => k_is)
    (case na_B_factor => k_is)
    (case gi_MOST_Q => k_is)
    (case gi_MOST_Q_BOTTOM => k_is)
    (case gi_MOST_DIMENSION => k_is)
    (case gi_MOST_MANY => k_is)
    (case h_neBC => decide)
    (case z_len => k_is)
    (case z_abs => k_is)
    (case z_int => k_is)
    (case z_bool => k_is)
    (case z_isinstance => k_is)
    (case z_range => k_is)
    (case z_ValueError => k_is)
    (case a_oob => k_is)
    (case i_oob => k_is)
    (case l_oob => k_is)
    (case c_oob => k_is)
    (case k_oob => k_is)
    (case a_bq => k_is)
    (case i_bq => k_is)
    (case l_bq => k_is)
    (case c_bq => k_is)
    (case k_bq => k_is)
    (case a_add => k_is)
    (case i_add => k_is)
    (case l_add => k_is)
    (case c_add => k_is)
    (case k_add => k_is)
    (case a_sub => k_is)
    (case i_sub => k_is)
    (case l_sub => k_is)
    (case c_sub => k_is)
    (case k_sub => k_is)
    (case a_mul => k_is)
    (case i_mul => k_is)
    (case l_mul => k_is)
    (case c_mul => k_is)
    (case k_mul => k_is)
    (case a_divided => k_is)
    (case i_divided => k_is)
    (case l_divided => k_is)
    (case c_divided => k_is)
    (case k_divided => k_is)
    (case a_compare => k_is)
    (case i_compare => k_is)
    (case l_compare => k_is)
    (case c_compare => k_is)
    (case k_compare => k_is)
    (case a_up => k_is)
    (case i_up => k_is)
    (case l_up => k_is)
    (case c_up => k_is)
    (case k_up => k_is)
    (case a_binit => k_is)
    (case i_binit => k_is)
    (case l_binit => k_is)
    (case c_binit => k_is)
    (case k_binit => k_is)
    (case a_ceiling => k_is)
    (case i_ceiling => k_is)
    (case l_ceiling => k_is)
    (case c_ceiling => k_is)
    (case k_ceiling => k_is)
    (case a_floor => k_is)
    (case i_floor => k_is)
    (case l_floor => k_is)
    (case c_floor => k_is)
    (case k_floor => k_is)
    (case a_finest => k_is)
    (case i_finest => k_is)
    (case l_finest => k_is)
    (case c_finest => k_is)
    (case k_finest => k_is)
    (case a_bstart => k_is)
    (case i_bstart => k_is)
    (case l_bstart => k_is)
    (case c_bstart => k_is)
    (case k_bstart => k_is)
    (case a_check => k_is)
    (case i_check => k_is)
    (case l_check => k_is)
    (case c_check => k_is)
    (case k_check => k_is)
    (case a_checkq => k_is)
    (case l_checkq => k_is)
    (case c_checkq => k_is)
    (case k_checkq => k_is)
    (case a_digit => k_is)
    (case l_digit => k_is)
    (case c_digit => k_is)
    (case k_digit => k_is)
    (case a_whole => k_is)
    (case l_whole => k_is)
    (case c_whole => k_is)
    (case k_whole => k_is)
    (case a_lgcd => k_is)
    (case l_lgcd => k_is)
    (case c_lgcd => k_is)
    (case k_lgcd => k_is)
    (case a_read => k_is)
    (case l_read => k_is)
    (case c_read => k_is)
    (case k_read => k_is)
    (case a_same => k_is)
    (case l_same => k_is)
    (case c_same => k_is)
    (case k_same => k_is)
    (case a_drawq => k_is)
    (case l_drawq => k_is)
    (case c_drawq => k_is)
    (case k_drawq => k_is)
    (case a_drawd => k_is)
    (case l_drawd => k_is)
    (case c_drawd => k_is)
    (case k_drawd => k_is)
    (case a_made => k_is)
    (case l_made => k_is)
    (case c_made => k_is)
    (case k_made => k_is)
    (case a_refused => k_is)
    (case l_refused => k_is)
    (case c_refused => k_is)
    (case k_refused => k_is)
    (case a_fields => k_is)
    (case l_fields => k_is)
    (case c_fields => k_is)
    (case k_fields => k_is)
    (case a_equations => k_is)
    (case l_equations => k_is)
    (case c_equations => k_is)
    (case k_equations => k_is)
    (case a_every => k_is)
    (case l_every => k_is)
    (case c_every => k_is)
    (case k_every => k_is)
    (case a_lfinest => k_is)
    (case l_lfinest => k_is)
    (case c_lfinest => k_is)
    (case k_lfinest => k_is)
    (case a_count => k_is)
    (case l_count => k_is)
    (case c_count => k_is)
    (case k_count => k_is)
    (case a_good => k_is)
    (case l_good => k_is)
    (case c_good => k_is)
    (case k_good => k_is)
    (case a_right => k_is)
    (case l_right => k_is)
    (case c_right => k_is)
    (case k_right => k_is)
    (case a_law => k_is)
    (case l_law => k_is)
    (case c_law => k_is)
    (case k_law => k_is)
#print axioms PySem.Challenge.cw_fewcarry_k25_bars_holds
