import PyProof.Rows.All
import Wide.All
import OpenK.AllK
import Wide.FinOn
import HandS.ForExc
import HandS.Comp
import HandS.Wide
import HandS.Gcd
import HandS.ExcInit
import HandS.ExcIs
import HandS.ExcField
import HandS.IsInst
import HandS.OwnEq
import HandS.Small
import HandS.Flow
import HandS.Codes
import KE.KOpsOwn
import HandS.Style
import HandS.Defaults
import HandS.ExcInitHot
import HandS.ClsMeth
import HandS.FStr
import HandS.Text
import HandS.Call
import HandS.StrMore
import HandS.Strs
import PyProof.Rows.StrOr
import PyProof.Rows.Digits
import KE.KIntText
import HandS.SetFor
import HandS.WideBits
import KE.IntBitsLaws
import HandS.CallLocal
import PyProof.Rows.StrMul
import HandS.Star
import HandS.Zip
import PySem.Challenge.RW_fewcarry_k07_grid_form
set_option Elab.async false
set_option linter.all false
set_option maxRecDepth 100000
set_option maxHeartbeats 4000000
/-! Rules of mine over the hand layer: operators that an own class defines, abs by an own method, floor division by any divisor,
an own error without arguments, isinstance of a caught error that has fields, a new instance or a method's call that may raise in a try. -/
namespace Fc
open PySem PySem.Spec PyProof.Rows L2

section
variable {X : Cx} {pins : List (Addr × Obj)} {sl : L2.St} {H : Hp} {s : Shared}

/-- a value of ours is never the mark NotImplemented -/
theorem cmpBack {Q : VK} {u : Value} {s' : Shared} (h : EP X pins sl Q u s') : PySem.W.CmpBack (EP X pins sl Q) u s' := by
  obtain ⟨v, H', I, r, q⟩ := id h
  cases v with
  | non => cases r; exact h
  | bl b => cases r; exact h
  | int i => obtain ⟨t, e⟩ := r; cases e; exact h
  | str y => obtain ⟨t, e⟩ := r; cases e; exact h
  | byt y => obtain ⟨t, e⟩ := r; cases e; exact h
  | flt y => obtain ⟨t, e⟩ := r; cases e; exact h
  | ref a => cases r; exact h
  | ty n => cases r; exact h

/-- what is known of an instance, as the library's rules ask it -/
theorem inst_at {a C dx : Addr} {fs : List (Str × V)} (I : Inv X pins sl H s) (e : H a = some (.ins C dx fs)) : ∃ ox od, PySem.W.InstAt s.heap a ox C od := by
  obtain ⟨mA, J, _⟩ := ins_get I.hok e
  obtain ⟨od, J, _⟩ := J.look
  exact ⟨_, _, J⟩
end

/-! ### x op y for two instances of one class -/
section
variable {X : Cx} {CX : CXT} {k : Nat} {C f : Addr} {fd : FuncData} {ps : List Str} {sp : Sp} {E : XK}
def rOwn (C : Addr) (sp : Sp) (E : XK) : R2 := fun x y H Q => ∃ a b dx dy fs gs, x = .ref a ∧ y = .ref b ∧
  H a = some (.ins C dx fs) ∧ H b = some (.ins C dy gs) ∧ sp [.ref a, .ref b] H Q E
theorem op_own {op : Operator} (hc : PySem.W.selfFirst X.K C = true) (hs : PySem.W.findIn X.K (.ref C) (PySem.dunder op.info.2) = some (some (.ref f)))
    (hf : PySem.W.isFn X.K (.ref f) = true) (F : FnOk X.prog X.w X.K X.mg X.base CX k f fd ps sp) (hr : Room k X.A) (hb : Binds X.K fd ps []) (hx : Passes CX X E) :
    OpR X (binaryOp op) (rOwn C sp E) := by
  intro pins s sl H x y u v Q I rx ry h
  obtain ⟨a, b, dx, dy, fs, gs, rfl, rfl, ha, hb', q⟩ := h
  cases rx
  cases ry
  obtain ⟨ox, od, J⟩ := inst_at I ha
  obtain ⟨oy, oe, J'⟩ := inst_at I hb'
  obtain ⟨m, hF⟩ := I.fr
  exact PySem.W.binop_K hF I.ok.mod.kin J J'.type hc hs hf
    (thn (run_fn (vs := [.ref a, .ref b]) (us := [.ref a, .ref b]) F hr hb .nil hx I (.cons rfl (.cons rfl .nil)) q) fun _ _ z => cmpBack z)

/-- x op n for an instance and a whole number -/
def rOwnI (C : Addr) (sp : Sp) (E : XK) : R2 := fun x y H Q => ∃ a dx fs n, x = .ref a ∧ y = .int n ∧ H a = some (.ins C dx fs) ∧ sp [.ref a, .int n] H Q E
theorem op_ownI {op : Operator} {fo ro rc : Option Value} (hc : PySem.W.selfFirst X.K C = true) (hs : PySem.W.findIn X.K (.ref C) (PySem.dunder op.info.2) = some (some (.ref f)))
    (hf : PySem.W.isFn X.K (.ref f) = true) (h0 : PySem.W.findIn X.K (.ref C) (dunderR op.info.2) = some rc) (hp : rc = none ∨ ∃ g : Addr, rc = some (.ref g))
    (h1 : PySem.W.findIn X.K (.type "int") (PySem.dunder op.info.2) = some fo) (h2 : PySem.W.findIn X.K (.type "int") (dunderR op.info.2) = some ro)
    (hsub : PySem.W.subIn X.K (.type "int") (.ref C) = some false)
    (F : FnOk X.prog X.w X.K X.mg X.base CX k f fd ps sp) (hr : Room k X.A) (hb : Binds X.K fd ps []) (hx : Passes CX X E) :
    OpR X (binaryOp op) (rOwnI C sp E) := by
  intro pins s sl H x y u v Q I rx ry h
  obtain ⟨a, dx, fs, n, rfl, rfl, ha, q⟩ := h
  cases rx
  obtain ⟨t, rfl⟩ := ry
  obtain ⟨ox, od, J⟩ := inst_at I ha
  obtain ⟨m, hF⟩ := I.fr
  exact PySem.W.ksp_binT (T := "int") hF I.ok.mod.kin J rfl hc hs hf h0 hp h1 h2 hsub
    (thn (run_fn (vs := [.ref a, .int n]) (us := [.ref a, .int n t]) F hr hb .nil hx I (.cons rfl (.cons ⟨t, rfl⟩ .nil)) q) fun _ _ z => cmpBack z)

/-- -x -/
def rOwnU (C : Addr) (sp : Sp) (E : XK) : V → Hp → VK → Prop := fun x H Q => ∃ a dx fs, x = .ref a ∧ H a = some (.ins C dx fs) ∧ sp [.ref a] H Q E
theorem un_own (hs : PySem.W.findIn X.K (.ref C) "__neg__" = some (some (.ref f))) (hf : PySem.W.isFn X.K (.ref f) = true)
    (F : FnOk X.prog X.w X.K X.mg X.base CX k f fd ps sp) (hr : Room k X.A) (hb : Binds X.K fd ps []) (hx : Passes CX X E) :
    UnR X (unaryOp .USub) (rOwnU C sp E) := by
  intro pins s sl H x u Q I rx h
  obtain ⟨a, dx, fs, rfl, ha, q⟩ := h
  cases rx
  obtain ⟨ox, od, J⟩ := inst_at I ha
  obtain ⟨m, hF⟩ := I.fr
  exact PySem.W.ksp_neg hF I.ok.mod.kin J hs hf (run_fn (vs := [.ref a]) (us := [.ref a]) F hr hb .nil hx I (.cons rfl .nil) q)

/-- abs(x) by an own __abs__ -/
def rOwnAbs (C : Addr) (sp : Sp) (E : XK) : List V → Hp → VK → Prop := fun xs H Q => ∃ a dx fs, xs = [.ref a] ∧ H a = some (.ins C dx fs) ∧ sp [.ref a] H Q E
/-- a call of a built-in function that runs nothing else before its own body: the code that runs within it has one unit more -/
theorem call_own_abs (hs : PySem.W.findIn X.K (.ref C) "__abs__" = some (some (.ref f))) (hf : PySem.W.isFn X.K (.ref f) = true)
    (F : FnOk X.prog X.w X.K X.mg X.base CX k f fd ps sp) (hr : Room (k + 1) X.A) (hb : Binds X.K fd ps []) (hx : Passes CX X E) :
    CallR X (.builtin "abs") (rOwnAbs C sp E) := by
  intro pins s sl H xs us Q I r h
  obtain ⟨a, dx, fs, rfl, ha, q⟩ := h
  obtain ⟨u, rfl, ru⟩ := vals1 r
  cases ru
  obtain ⟨ox, od, J⟩ := inst_at I ha
  have e := I.env0
  have e0 : Env0 X.prog X.w X.K X.mg X.base X.A.in1 X.stack s H := e.in1
  have r2 : Vals [V.ref a] [Value.ref a] := .cons rfl .nil
  have hl := F.len _ _ _ _ q
  refine Calls.call_function_entry kind_abs plain_abs entry_abs (args_abs _) ?_
  unfold Builtin.«abs»
  refine wpAny_bind (m := oneArg "abs" _) (wpAny_pure ?_)
  refine wpAny_bind (PySem.W.special_fn I.kIn J hs (beq_iff_eq.mp hf) ?_)
  refine wpAny_call (codeAny_mono (F.run X.A.in1 X.stack s H ⟨[.ref a], []⟩ [.ref a] [.ref a] Q E hr.in1 e0 (by
    have := hb s [.ref a] I.kIn (by simpa using hl)
    simpa using this) r2 q) fun r s' hq => ?_)
  cases r with
  | error e => exact hx pins sl H s e s' I hq
  | ok fl =>
    cases fl with
    | ret w => exact wpAny_pure ⟨_, rfl, I.after hq⟩
    | next => exact False.elim hq
    | brk => exact False.elim hq
    | cont => exact False.elim hq
end

/-! ### // by any divisor but 0, below 2 ^ 9000 -/
def CFdv (_ j : Int) : Prop := j ≠ 0 ∧ j.natAbs.log2 < 9000
theorem op_fdv {X : Cx} : OpR X (binaryOp .FloorDiv) (rI CFdv fun i j => .int (i.fdiv j)) :=
  opI fun i j _ _ _ _ _ hc q => floordiv_int hc.1 q (.inl (PyProof.noPylong_of_log2 hc.2))

/-! ### an own error made without arguments -/
theorem pmk_bare {X : Cx} {C : Addr} {bmB : List Value} {B newId initId : String} {x : Str} {p pos : Pos} (F : ExcBaseFacts B newId initId bmB) (q : PySem.W.excIn X.K C bmB newId = true)
    (gC : X.mg x = some (.ref C)) (kC : PySem.W.keepIn X.K (.ref C) = true) (r : Raises X (.ref C)) (hg : Gl X x) (hdb : (x == ("__debug__" : Str)) = false := by decide) :
    PMk X (.Call (.Name x p) [] [] pos) (fun _ H Q => Q (.ref C) none H) := by
  intro pins s sl H Q I h
  refine wpAny_Call_Name_kw (ld_glob I hg gC ?_ hdb)
  refine PySem.W.callWith_K0 I.kIn kC ?_
  obtain ⟨bm, N, nm, qn, bs, hdct, sn, sub, ab, col, dd, k0, k1, k2, k3, k5, mN, hC, hN, hni, T⟩ := exc_obj I.kIn q
  exact wpAny_call_exc_subT F T hC hN hni (fun h' e hm => mk_of I hm r h (I.hok.gone hm.new)) (Nat.zero_le _)
end Fc
set_option Elab.async false
set_option linter.all false
set_option maxRecDepth 100000
set_option maxHeartbeats 4000000
/-! More rules of mine: a new instance or a method's call whose error an except clause takes; isinstance of a caught error with fields. -/
namespace Fc
open PySem PySem.Spec PyProof.Rows L2

section
variable {X : Cx} {CX : CXT} {k : Nat} {C f : Addr} {fd : FuncData} {ps : List Str} {sp : Sp} {E : L2.St → XK}
/-- C(..), where what is raised is wished for at the slots -/
def tMakeS (C : Addr) (sp : Sp) (E : L2.St → XK) (t : TA) : TE := fun sl H Q => t sl H fun vs H1 => ∀ x dx, H1 x = none → H1 dx = none → dx ≠ x →
  sp (.ref x :: vs) (upd (upd H1 dx (.own x)) x (.ins C dx [])) (fun v H2 => v = .non ∧ Q (.ref x) H2) (E sl)
theorem run_makeS {pins : List (Addr × Obj)} {sl : L2.St} {H : Hp} {s : Shared} {Q : VK} {us : List Value} {vs : List V} (M : Mk X.K C f)
    (F : FnOk X.prog X.w X.K X.mg X.base CX k f fd ps sp) (hr : Room (k + 1) X.A) (hb : Binds X.K fd ps []) (hx : PassesAt CX X sl (E sl))
    (I : Inv X pins sl H s) (r : Vals vs us)
    (h : ∀ x dx, H x = none → H dx = none → dx ≠ x → sp (.ref x :: vs) (upd (upd H dx (.own x)) x (.ins C dx [])) (fun v H2 => v = .non ∧ Q (.ref x) H2) (E sl)) :
    wpAny (model X.prog X.w) X.A (call (.ref C) us) (EP X pins sl Q) X.xe s := by
  have fr : ∀ j, H (s.heap.objs.size + j) = none := fun j => I.hok.fresh (Nat.le_add_right _ _)
  have hq := h (s.heap.objs.size + 1) s.heap.objs.size (fr 1) (fr 0) (Nat.ne_of_lt (Nat.lt_succ_self _))
  have I2 := Inv.made (C := C) I
  have r2 : Vals (V.ref (s.heap.objs.size + 1) :: vs) (Value.ref (s.heap.objs.size + 1) :: us) := .cons rfl r
  have hl : (Value.ref (s.heap.objs.size + 1) :: us).length = ps.length := r2.length.symm.trans (F.len _ _ _ _ hq)
  have bd := hb { s with heap := (s.heap.push PySem.W.emptyDict).push (PySem.W.instObj C s.heap.objs.size) } (Value.ref (s.heap.objs.size + 1) :: us) I2.kIn (by rw [List.append_nil]; exact hl)
  rw [List.append_nil] at bd
  have run := F.run _ X.stack _ _ ⟨Value.ref (s.heap.objs.size + 1) :: us, []⟩ (Value.ref (s.heap.objs.size + 1) :: us) _ _ (E sl) (hr.make C us []) (I2.env0.make C us []) bd r2 hq
  refine wpAny_call (make_map (f := f) I.kIn M.makes M.init (beq_iff_eq.mp M.fn) (codeAny_mono run fun r s' hq' => ?_))
  cases r with
  | error e => exact hx pins _ _ e s' I2 hq'
  | ok fl =>
    cases fl with
    | ret u =>
      obtain ⟨v, H', I3, rv, ev, q3⟩ := I2.after hq'
      subst ev
      exact ⟨rv, ⟨V.ref (s.heap.objs.size + 1), H', I3, rfl, q3⟩⟩
    | next => exact False.elim hq'
    | brk => exact False.elim hq'
    | cont => exact False.elim hq'
theorem pe_makeS {x : Str} {p pos : Pos} {e : Expr} {es : List Expr} {t : TA} (M : Mk X.K C f) (F : FnOk X.prog X.w X.K X.mg X.base CX k f fd ps sp) (hr : Room (k + 1) X.A)
    (hg : Gl X x) (hm : X.mg x = some (.ref C)) (hb : Binds X.K fd ps []) (hx : ∀ sl, PassesAt CX X sl (E sl)) (ha : PA X (e :: es) t)
    (hdb : (x == ("__debug__" : Str)) = false := by decide) (he : starEach (e :: es) X.env = (false, eval e X.env) :: starEach es X.env := by rfl)
    (hpl : (backTo pos (starEach es X.env)).any (·.1) = false := by rfl) : PE X (.Call (.Name x p) (e :: es) [] pos) (tMakeS C sp E t) :=
  ⟨fun pins s sl H Q I h => wpAny_Call_Name_kw (ld_glob I hg hm (PySem.W.callWith_K (h₀ := X.base) I.ok.mod.kin M.kp
    (thn (ha.run pos pins s sl H _ I h) fun us s1 ⟨vs, H1, I1, r, q⟩ => ⟨I1.kIn, run_makeS M F hr hb (hx sl) I1 r q⟩) he hpl) hdb)⟩

/-- o.m(..), where what is raised is wished for at the slots -/
def tMethS (C : Addr) (m : Str) (sp : Sp) (E : L2.St → XK) (ta : TE) (t : TA) : TE := fun sl H Q => ta sl H fun x H1 => ∃ a dx fs, x = .ref a ∧
  H1 a = some (.ins C dx fs) ∧ fs.lookup m = none ∧ t sl H1 fun vs H2 => sp (x :: vs) H2 Q (E sl)
theorem pe_methS {m : Str} {o e : Expr} {es : List Expr} {ta : TE} {t : TA} {apos pos : Pos} {pl : Sem Bool} (ho : PE X o ta) (c : Cls X.K C) (hm : Meth X.K C m f)
    (F : FnOk X.prog X.w X.K X.mg X.base CX k f fd ps sp) (hr : Room k X.A) (hb : Binds X.K fd ps []) (hx : ∀ sl, PassesAt CX X sl (E sl)) (ha : PA X (e :: es) t)
    (hst : starEach (e :: es) X.env = (false, eval e X.env) :: starEach es X.env := by rfl) (hpl : (backTo pos (starEach es X.env)).any (·.1) = false := by rfl)
    (ht : eval (.Call (.Attribute o m apos) (e :: es) [] pos) X.env = (do
      let v ← eval o X.env
      standAt apos.atName
      let (g, first) ← holding [v] (getMethod v m pl)
      callWith pos g first (backTo pos (starEach (e :: es) X.env)) (backToKw pos (keywordEach [] X.env))) := by rfl) :
    PE X (.Call (.Attribute o m apos) (e :: es) [] pos) (tMethS C m sp E ta t) := by
  refine ⟨fun pins s sl H Q I h => PySem.W.methodCall_KW (pl := pl) (thn (ho.run pins s sl H _ I h) fun u s1 hh => ?_) ht⟩
  obtain ⟨x, H1, I1, rx, a, dx, fs, ex, ea, l, q⟩ := hh
  subst ex
  cases rx
  refine getmeth_ok I1 ea c hm l (PySem.W.callWith_K (first := [.ref a]) (h₀ := X.base) I.ok.mod.kin hm.kp ?_ hst hpl)
  exact thn (ha.run pos pins s1 sl H1 _ I1 q) fun us s2 ⟨vs, H2, I2, r, q2⟩ => ⟨I2.kIn, run_fnS (us := .ref a :: us) (vs := .ref a :: vs) F hr hb (hx sl) I2 (.cons rfl r) q2⟩
end

/-! ### isinstance of a caught error, with or without a dict of its own -/
section
open PySem.W PySem.Calls
variable {prog : Program} {w : World} {A : Around} {E : Value → Shared → Prop} {s : Shared} {K : Frag} {x D : Addr} {ox : Obj} {od : Option Obj}
theorem find_data {name : Str} {a g : Value} (hc : (clsIn K D).isSome = true) (ha : findIn K (.ref D) name = some (some a)) (hg : specialIn K a "__get__" = some (some g))
    (ht : takesIn K a = some true) : findObj K D od name = some (.bind g a) := by
  obtain ⟨cd, e⟩ := Option.isSome_iff_exists.mp hc
  unfold findObj
  rw [e, Option.bind_some, ha, Option.bind_some]
  simp [hg, ht]
theorem err_class {Q : Option Value → Shared → Prop} (T : ExcC K D) (X : K.In s.heap) (I : InstAt s.heap x ox D od) (h : Q (some (.ref D)) { s with toks := s.toks + 1 }) :
    wpAny (model prog w) A (getAttr? (.ref x) "__class__") Q E s := by
  have hf : findObj K D od "__class__" = some (.bind (.builtin "getset_descriptor.__get__") (.builtin "object.__class__")) :=
    find_data (by obtain ⟨cd, hc, _⟩ := any_some T.hd; rw [hc]; rfl) T.ha T.hn T.ht
  obtain ⟨hp, g, d, t, os⟩ := s
  have L0 := I.type (M := model prog w)
  have L1 := looks_findIn (M := model prog w) X T.hg
  have L2 := looks_findIn (M := model prog w) X T.hk
  have L3 := looks_find (M := model prog w) X I hf
  have sub : Looks (model prog w) hp (isInstance (.ref x) (.type "BaseException")) true := L0.andThen (looks_subIn X T.hs)
  have z0 : (false && onTheHeap (Value.builtin "BaseException.__getattribute__")) = false := rfl
  have z2 : (Value.builtin "BaseException.__getattribute__" == Value.builtin "object.__getattribute__") = false := by decide +kernel
  have z1 : (onTheHeap (Value.ref D) && Value.builtin "BaseException.__getattribute__" == Value.builtin "object.__getattribute__") = false := by rw [z2]; rfl
  unfold getAttr? getAttrBy? getAttrBy
  refine wpAny_bind (wpAny_mkText (wpAny_bind (wpAny_attempt (wpAny_holding (wpAny_bind (L0.at (wpAny_bind (L1.at ?_))))))))
  show wpAny _ _ (if (onTheHeap (Value.ref D) && Value.builtin "BaseException.__getattribute__" == Value.builtin "object.__getattribute__") = true then _ else _) _ _ _
  rw [z1, if_neg Bool.false_ne_true]
  unfold getAttrByItsOwn hookBefore
  refine wpAny_bind ?_
  rw [if_pos (show onTheHeap (Value.ref D) = true from rfl)]
  refine L2.at (wpAny_bind (wpAny_attempt (wpAny_holding ?_)))
  unfold callGetattribute
  rw [z0, if_neg Bool.false_ne_true]
  unfold boundAndCalled
  rw [PySem.F.excAttr_ValueError.ga.bind (.ref x)]
  refine wpAny_bind (wpAny_pure ?_)
  show wpAny _ _ (call (.builtin "BaseException.__getattribute__") [.ref x, .str "__class__" t]) _ _ _
  refine wpAny_call (codeAny_call_builtin PySem.F.excAttr_ValueError.ga.plain PySem.F.entry_bexc_ga ?_)
  refine @check_slot (model prog w) _ _ ⟨hp, g, d, t + 1, os⟩ "BaseException.__getattribute__" "BaseException" "__getattribute__" (.ref x)
    [.str "__class__" t] [] _ (by decide +kernel) (by decide +kernel) sub (PySem.F.args_bexc_ga (.ref x) (.str "__class__" t)) ?_
  unfold Builtin.«object.__getattribute__»
  refine wpAny_bind (wpAny_of_eq (a := ((Value.ref x : Value), [Value.str "__class__" t])) (by first | rfl | (simp only [slotArgs]; rfl)) ?_)
  refine wpAny_bind (wpAny_pure (wpAny_bind (L0.at (wpAny_bind (L3.at ?_)))))
  show wpAny _ _ (holding [Value.builtin "object.__class__"] (call (.builtin "getset_descriptor.__get__") [.builtin "object.__class__", .ref x, .ref D]) >>= ret) _ _ _
  refine wpAny_bind (wpAny_holding (wpAny_call (class_get (s := ⟨hp, g, d, t + 1, os⟩) (ox := ox) (od := od) X I T.hm (wpAny_pure ?_))))
  show wpAny _ _ (handedOut (.ref D)) _ _ _
  rw [handedOut_of (v := .ref D) rfl]
  first
    | exact wpAny_pure (wpAny_pure h)
    | exact wpAny_pure h
    | exact wpAny_pure (wpAny_bind (wpAny_pure (wpAny_pure h)))
theorem kit_err (T : ExcC K D) : KitX K (.ref x) (.ref D) (fun h => InstAt h x ox D od) where
  ty := fun _ _ _ I => I.type
  it := fun _ _ X _ => by
    obtain ⟨cd, e, _⟩ := any_some T.hd
    unfold clsIn at e
    split at e
    · rename_i z
      exact fun A' Q' E' s' k q => by
        unfold isType loadHead
        exact wpAny_bind (wpAny_loadPart (k _ _ (X _ _ z)) (wpAny_pure q))
    · cases e
  ne := fun h tp dd its n sl X htp => (handS_kitx_exc (x := x) (ox := ox) T.hg T.hk T.hs T.hd T.ha T.hn T.ht T.hm).ne h tp dd its n sl X htp
  ca := fun X I k => err_class T X I k
end
/-- isinstance(e, c), e the error that the suite holds; its own dict, where it has one, is tracked -/
def rIsX (K : PySem.W.Frag) (cls : Value) (d : Option Addr) (a : Addr) : List V → Hp → VK → Prop := fun xs H Q => ∃ (D : Addr) (c : V) (cv : Value) (b : Bool),
  cls = .ref D ∧ ExcC K D ∧ (∀ dd, d = some dd → ∃ fs, H dd = some (.xd fs)) ∧ xs = [.ref a, c] ∧ (∀ u, RelV c u → u = cv) ∧ PySem.W.kitOne K (.ref D) cv = some b ∧ Q (.bl b) H
theorem call_isX {X : Cx} {a : Addr} {cls : Value} {d : Option Addr} {oe : Obj} {pn : List (Addr × Obj)} (hz : Zc cls d oe) (hf : ∃ vs, oe.data = .fields vs) :
    CallR (X.suite a ((a, oe) :: pn)) (.builtin "isinstance") (rIsX X.K cls d a) := by
  intro pins s sl H xs us Q I r h
  obtain ⟨D, c, cv, b, rfl, T, hd, rfl, hcv, e, q⟩ := h
  obtain ⟨u1, u2, rfl, r1, r2⟩ := vals2 r
  cases r1
  have ec := hcv _ r2
  subst ec
  obtain ⟨hget, _⟩ := I.pin (a, oe) (List.mem_append.mpr (.inl List.mem_cons_self))
  obtain ⟨vs, hv⟩ := hf
  have fin : ∀ tk, EP (X.suite a ((a, oe) :: pn)) pins sl Q (.bool b) { s with toks := tk } := fun tk => ⟨.bl b, H, I.tok tk, rfl, q⟩
  cases d with
  | none =>
    have J : PySem.W.InstAt s.heap a oe D none := ⟨hget, hz.1, by unfold PySem.W.notCls; rw [hv] <;> rfl, by rw [hz.2]; exact True.intro⟩
    exact PySem.W.kia_one (kit_err T) I.kIn J e (fun z => nomatch z) fin
  | some dd =>
    obtain ⟨fs, hx⟩ := hd dd rfl
    obtain ⟨mA, hns, _⟩ := (show ObjOk X.prog X.w H s.heap dd (.xd fs) from I.hok dd _ hx)
    obtain ⟨od, ho, _⟩ := lookIn_ns hns
    have J : PySem.W.InstAt s.heap a oe D (some od) := ⟨hget, hz.1, by unfold PySem.W.notCls; rw [hv] <;> rfl, by rw [hz.2]; exact ho⟩
    exact PySem.W.kia_one (kit_err T) I.kIn J e (fun z => nomatch z) fin
end Fc
set_option Elab.async false
set_option linter.all false
set_option maxRecDepth 100000
set_option maxHeartbeats 4000000
/-! == of an own instance with other kinds, both ways round. -/
namespace Fc
open PySem PySem.Spec PyProof.Rows L2
open AutoSeq1 (wpAny_loadPart')
section
open PySem.W
variable {prog : Program} {w : World} {A : Around} {E : Value → Shared → Prop} {s : Shared} {K : Frag} {x C f : Addr} {ox : Obj} {od : Option Obj}
/-- other == x: other's own == declines, then x's is asked -/
theorem rc_back {b : Value} {T id : String} {Q : Value → Shared → Prop} (hu : A.units < cLine) (hT : s.TypeIs b T) (slot : Slot T (cmpInfo .Eq).2.1 id) (X : K.In s.heap) (I : InstAt s.heap x ox C od)
    (hsub : subIn K (.ref C) (.type T) = some false) (hs : findIn K (.ref C) "__eq__" = some (some (.ref f))) (hf : isFn K (.ref f) = true)
    (decl : ∀ Q' : Value → Shared → Prop, Q' .notImplemented s → wpAny (model prog w) A (call (.builtin id) [b, .ref x]) Q' E s)
    (h : wpAny (model prog w) A (call (.ref f) [.ref x, b]) (PySem.W.CmpBack Q) E s) : wpAny (model prog w) A (richCompare .Eq b (.ref x)) Q E s := by
  have one : wpAny (model prog w) A (tryCompare (.ref x) (cmpInfo .Eq).2.2 b) (fun r s' => ∃ v, r = some v ∧ Q v s') E s := by
    unfold tryCompare
    refine wpAny_bind (ifBound_K X I hs hf (wpAny_mono h (fun v s' hv => ?_) fun _ _ e => e))
    cases v <;> first | exact hv.elim | exact wpAny_pure ⟨_, rfl, hv⟩
  rcases hi : cmpInfo CmpOp.Eq with ⟨sym, g, r⟩
  rw [hi] at slot one
  have hne : (Value.type T != Value.ref C) = true := by simp
  simp only [richCompare, hi, hT.oneThing_none]
  try with_reducible refine wpAny_holding ?_
  refine wpAny_bind (wpAny_cRoomFor_or (.inr hu) ?_)
  refine wpAny_bind (wpAny_typeOf hT (wpAny_bind (I.type.here ?_)))
  simp only [hne, if_true]
  refine wpAny_bind ((looks_subIn X hsub).here ?_)
  simp only [Bool.false_eq_true, if_false, Bool.not_false, if_true]
  refine wpAny_bind (m := tryCompare b _ (.ref x)) (wpAny_tryCompare_declines hT slot (decl _ ⟨rfl, ?_⟩))
  refine wpAny_bind (m := tryCompare (.ref x) _ b) (wpAny_mono one (fun r' s' hr => ?_) fun _ _ e => e)
  obtain ⟨v, rfl, q⟩ := hr
  exact wpAny_pure q
/-- the built-in kinds decline -/
theorem decl_int {i : Int} {t : Tok} {Q : Value → Shared → Prop} (hx : s.heap.get? x = some ox) (hd : ∀ v, ox.data ≠ .prim v) (hq : Q .notImplemented s) :
    wpAny (model prog w) A (call (.builtin "int.__eq__") [.int i t, .ref x]) Q E s := by
  refine GQ.call_here F.slot_int_eq (typeIs_int s i t) F.entry_int_eq (F.args_int_eq_2 _ _) ?_
  obtain ⟨oc, od, da, sl⟩ := ox
  obtain ⟨hp, g, d, tk, os⟩ := s
  cases da
  case prim v => exact absurd rfl (hd v)
  all_goals (wp_walk using wpAny_loadPart' hx)
  all_goals exact hq
theorem decl_str {i : Str} {t : Tok} {Q : Value → Shared → Prop} (hx : s.heap.get? x = some ox) (hd : ∀ v, ox.data ≠ .prim v) (hq : Q .notImplemented s) :
    wpAny (model prog w) A (call (.builtin "str.__eq__") [.str i t, .ref x]) Q E s := by
  refine GQ.call_here F.slot_str_eq (typeIs_str s i t) F.entry_str_eq (F.args_str_eq_2 _ _) ?_
  obtain ⟨oc, od, da, sl⟩ := ox
  obtain ⟨hp, g, d, tk, os⟩ := s
  cases da
  case prim v => exact absurd rfl (hd v)
  all_goals (wp_walk using wpAny_loadPart' hx)
  all_goals exact hq
theorem decl_none {Q : Value → Shared → Prop} (hq : Q .notImplemented s) :
    wpAny (model prog w) A (call (.builtin "NoneType.__eq__") [.none, .ref x]) Q E s := by
  refine GQ.call_here F.slot_NoneType_eq rfl F.entry_NoneType_eq (F.args_NoneType_eq_2 _ _) ?_
  obtain ⟨hp, g, d, tk, os⟩ := s
  wp_walk
  exact hq
theorem decl_tup {l : Addr} {Q : Value → Shared → Prop} (hT : s.TypeIs (.ref l) "tuple") (X : K.In s.heap) (I : InstAt s.heap x ox C od) (hsub : subIn K (.ref C) (.type "tuple") = some false) (hq : Q .notImplemented s) :
    wpAny (model prog w) A (call (.builtin "tuple.__eq__") [.ref l, .ref x]) Q E s := by
  refine GQ.call_here F.slot_tuple_eq hT F.entry_tuple_eq (F.args_tuple_eq_2 _ _) ?_
  have L0 : Looks (model prog w) s.heap (isInstance (.ref x) (.type "tuple")) false := (I.type (M := model prog w)).andThen (looks_subIn X hsub)
  obtain ⟨hp, g, d, tk, os⟩ := s
  wp_walk using L0.at
  exact hq
theorem decl_lst {l : Addr} {Q : Value → Shared → Prop} (hT : s.TypeIs (.ref l) "list") (X : K.In s.heap) (I : InstAt s.heap x ox C od) (hsub : subIn K (.ref C) (.type "list") = some false) (hq : Q .notImplemented s) :
    wpAny (model prog w) A (call (.builtin "list.__eq__") [.ref l, .ref x]) Q E s := by
  refine GQ.call_here F.slot_list_eq hT F.entry_list_eq (F.args_list_eq_2 _ _) ?_
  have L0 : Looks (model prog w) s.heap (isInstance (.ref x) (.type "list")) false := (I.type (M := model prog w)).andThen (looks_subIn X hsub)
  obtain ⟨hp, g, d, tk, os⟩ := s
  wp_walk using L0.at
  exact hq
end

/-- values of built-in kinds whose own == declines -/
inductive BK (H : Hp) : V → String → Prop where
  | int (i : Int) : BK H (.int i) "int"
  | str (x : Str) : BK H (.str x) "str"
  | non : BK H .non "NoneType"
  | tup {a : Addr} {xs : List V} (h : H a = some (.tup xs)) : BK H (.ref a) "tuple"
  | lst {a : Addr} {xs : List V} (h : H a = some (.lst xs)) : BK H (.ref a) "list"
theorem BK.ty {K : PySem.W.Frag} {H : Hp} {x : V} {t : String} (b : BK H x t) : TyX K H x (.type t) := by
  cases b with
  | int i => exact .base (.int i)
  | str x => exact .base (.str x)
  | non => exact .base .non
  | tup h => exact .base (.tup h)
  | lst h => exact .base (.lst h)
theorem BK.mem {H : Hp} {x : V} {t : String} (b : BK H x t) : t ∈ ["int", "str", "NoneType", "tuple", "list"] := by
  cases b <;> decide
/-- ==, where one of the two at least is an instance of the class at C -/
def rEqR (K : PySem.W.Frag) (C : Addr) (sp : Sp) (E : XK) : R2 := fun x y H Q =>
  (∃ a dx fs t, x = .ref a ∧ H a = some (.ins C dx fs) ∧ TyX K H y t ∧ PySem.W.notFirst K C t = true ∧ sp [.ref a, y] H Q E) ∨
  (∃ a dx fs t, y = .ref a ∧ H a = some (.ins C dx fs) ∧ BK H x t ∧ sp [.ref a, x] H Q E)
theorem op_eqR {X : Cx} {CX : CXT} {k : Nat} {C f : Addr} {fd : FuncData} {ps : List Str} {sp : Sp} {E : XK}
    (sub : ∀ t, t ∈ ["int", "str", "NoneType", "tuple", "list"] → PySem.W.subIn X.K (.type t) (.ref C) = some false ∧ PySem.W.subIn X.K (.ref C) (.type t) = some false)
    (hs : PySem.W.findIn X.K (.ref C) "__eq__" = some (some (.ref f))) (hf : PySem.W.isFn X.K (.ref f) = true)
    (F : FnOk X.prog X.w X.K X.mg X.base CX k f fd ps sp) (hr : Room k X.A) (hb : Binds X.K fd ps []) (hx : Passes CX X E) :
    OpR X (compareOp .Eq) (rEqR X.K C sp E) := by
  intro pins s sl H x y u v Q I rx ry h
  show wpAny (model X.prog X.w) X.A (richCompare .Eq u v) (EP X pins sl Q) X.xe s
  rcases h with ⟨a, dx, fs, t, rfl, ha, ty, nf, q⟩ | ⟨a, dx, fs, t, rfl, ha, bk, q⟩
  · cases rx
    obtain ⟨ox, od, J⟩ := inst_at I ha
    obtain ⟨m, hF⟩ := I.fr
    obtain ⟨PP, Z, p, _⟩ := kit_of I ry ty
    exact PySem.W.cmp_K (op := .Eq) hr.units0 hF I.ok.mod.kin J (Z.ty _ _ I.kIn p) nf hs hf
      (thn (run_fn (vs := [.ref a, y]) (us := [.ref a, v]) F hr hb .nil hx I (.cons rfl (.cons ry .nil)) q) fun _ _ z => cmpBack z)
  · cases ry
    obtain ⟨mA, O, _⟩ := ins_get I.hok ha
    obtain ⟨od, J, _⟩ := O.look
    have own := thn (run_fn (vs := [.ref a, x]) (us := [.ref a, u]) F hr hb .nil hx I (.cons rfl (.cons rx .nil)) q) fun _ _ z => cmpBack z
    have s2 := (sub t bk.mem).2
    cases bk with
    | int i =>
      obtain ⟨tk, rfl⟩ := rx
      exact rc_back hr.units0 (typeIs_int s i tk) PySem.F.slot_int_eq I.kIn J s2 hs hf (fun Q' hq => decl_int O.obj (fun w z => by cases z) hq) own
    | str i =>
      obtain ⟨tk, rfl⟩ := rx
      exact rc_back hr.units0 (typeIs_str s i tk) PySem.F.slot_str_eq I.kIn J s2 hs hf (fun Q' hq => decl_str O.obj (fun w z => by cases z) hq) own
    | non =>
      cases rx
      exact rc_back hr.units0 rfl PySem.F.slot_NoneType_eq I.kIn J s2 hs hf (fun Q' hq => decl_none hq) own
    | @tup l xs hl =>
      cases rx
      obtain ⟨_, its, _, o, h1, h2, _⟩ := (show ObjOk X.prog X.w H s.heap l (.tup xs) from I.hok l _ hl)
      have hT : s.TypeIs (.ref l) "tuple" := ⟨o, h1, h2⟩
      exact rc_back hr.units0 hT PySem.F.slot_tuple_eq I.kIn J s2 hs hf (fun Q' hq => decl_tup hT I.kIn J s2 hq) own
    | @lst l xs hl =>
      cases rx
      obtain ⟨_, its, n, _, h1⟩ := (show ObjOk X.prog X.w H s.heap l (.lst xs) from I.hok l _ hl)
      have hT : s.TypeIs (.ref l) "list" := ⟨_, h1, rfl⟩
      exact rc_back hr.units0 hT PySem.F.slot_list_eq I.kIn J s2 hs hf (fun Q' hq => decl_lst hT I.kIn J s2 hq) own
end Fc
set_option Elab.async false
set_option maxHeartbeats 4000000
/-! Plain mathematics: lowest terms, Euclid's steps. -/
namespace Fc

/-- top and bottom in lowest terms, the bottom above 0 -/
def lo (t b : Int) : Int × Int := if b < 0 then (-t / (Int.gcd t b : Int), -b / (Int.gcd t b : Int)) else (t / (Int.gcd t b : Int), b / (Int.gcd t b : Int))

theorem gcd_pos {t b : Int} (h : b ≠ 0) : (0 : Int) < (Int.gcd t b : Int) := by
  have : 0 < Int.gcd t b := Int.gcd_pos_of_ne_zero_right t h
  omega
theorem fdv_neg (a g : Int) (hg : 0 < g) : a.fdiv (-g) = -a / g := by
  have e : a.fdiv (-g) = (- -a).fdiv (-g) := by rw [Int.neg_neg]
  rw [e, Int.neg_fdiv_neg, Int.fdiv_eq_ediv_of_nonneg _ (by omega)]
/-- as the program reckons it: both by the divisor with the bottom's sign -/
theorem lo_prog {t b : Int} (h : b ≠ 0) : lo t b =
    (t.fdiv (if b < 0 then -(Int.gcd t b : Int) else (Int.gcd t b : Int)), b.fdiv (if b < 0 then -(Int.gcd t b : Int) else (Int.gcd t b : Int))) := by
  have g := gcd_pos (t := t) h
  unfold lo
  by_cases c : b < 0
  · simp only [if_pos c, fdv_neg _ _ g]
  · simp only [if_neg c, Int.fdiv_eq_ediv_of_nonneg _ (Int.le_of_lt g)]

/-- the two facts that say it all: what is divided is the common divisor -/
theorem lo_split {t b : Int} (h : b ≠ 0) : ∃ k : Int, k ≠ 0 ∧ t = (lo t b).1 * k ∧ b = (lo t b).2 * k ∧ 0 < (lo t b).2 ∧ Int.gcd (lo t b).1 (lo t b).2 = 1 ∧ k.natAbs = Int.gcd t b := by
  have g := gcd_pos (t := t) h
  have d1 : (Int.gcd t b : Int) ∣ t := Int.gcd_dvd_left _ _
  have d2 : (Int.gcd t b : Int) ∣ b := Int.gcd_dvd_right _ _
  obtain ⟨x, hx⟩ := d1
  obtain ⟨y, hy⟩ := d2
  have e1 : t / (Int.gcd t b : Int) = x := by
    exact Int.ediv_eq_of_eq_mul_right (by omega) hx
  have e2 : b / (Int.gcd t b : Int) = y := by
    exact Int.ediv_eq_of_eq_mul_right (by omega) hy
  have e3 : -t / (Int.gcd t b : Int) = -x := by
    have : -t = (Int.gcd t b : Int) * (-x) := by rw [Int.mul_neg, ← hx]
    rw [this]
    exact Int.mul_ediv_cancel_left _ (by omega)
  have e4 : -b / (Int.gcd t b : Int) = -y := by
    have : -b = (Int.gcd t b : Int) * (-y) := by rw [Int.mul_neg, ← hy]
    rw [this]
    exact Int.mul_ediv_cancel_left _ (by omega)
  have cop : Int.gcd x y = 1 := by
    have z : Int.gcd t b = (Int.gcd t b) * Int.gcd x y := by
      have q : Int.gcd ((Int.gcd t b : Int) * x) ((Int.gcd t b : Int) * y) = (Int.gcd t b : Int).natAbs * Int.gcd x y := Int.gcd_mul_left ..
      rw [← hx, ← hy] at q
      simpa using q
    have gp : 0 < Int.gcd t b := by omega
    have : Int.gcd t b * 1 = Int.gcd t b * Int.gcd x y := by omega
    exact (Nat.eq_of_mul_eq_mul_left gp this).symm
  have ypos : b < 0 → y < 0 := fun c => by
    rcases Int.lt_trichotomy y 0 with q | q | q
    · exact q
    · subst q; omega
    · have := Int.mul_pos g q; omega
  have ypos' : ¬ b < 0 → 0 < y := fun c => by
    rcases Int.lt_trichotomy y 0 with q | q | q
    · have := Int.mul_neg_of_pos_of_neg g q; omega
    · subst q; omega
    · exact q
  by_cases c : b < 0
  · refine ⟨-(Int.gcd t b : Int), by omega, ?_, ?_, ?_, ?_, by omega⟩
    · unfold lo; rw [if_pos c, e3, Int.neg_mul_neg, Int.mul_comm]; exact hx
    · unfold lo; rw [if_pos c, e4, Int.neg_mul_neg, Int.mul_comm]; exact hy
    · unfold lo; rw [if_pos c, e4]; have := ypos c; show 0 < -y; omega
    · unfold lo; rw [if_pos c, e3, e4]; show Int.gcd (-x) (-y) = 1; rw [Int.neg_gcd, Int.gcd_neg]; exact cop
  · refine ⟨(Int.gcd t b : Int), by omega, ?_, ?_, ?_, ?_, by omega⟩
    · unfold lo; rw [if_neg c, e1, Int.mul_comm]; exact hx
    · unfold lo; rw [if_neg c, e2, Int.mul_comm]; exact hy
    · unfold lo; rw [if_neg c, e2]; exact ypos' c
    · unfold lo; rw [if_neg c, e1, e2]; exact cop
theorem lo_pos {t b : Int} (h : b ≠ 0) : 0 < (lo t b).2 := let ⟨_, _, _, _, p, _⟩ := lo_split (t := t) h; p
theorem lo_cop {t b : Int} (h : b ≠ 0) : Int.gcd (lo t b).1 (lo t b).2 = 1 := let ⟨_, _, _, _, _, p, _⟩ := lo_split (t := t) h; p
theorem lo_cross {t b : Int} (h : b ≠ 0) : (lo t b).1 * b = t * (lo t b).2 := by
  obtain ⟨k, _, e1, e2, _⟩ := lo_split (t := t) h
  have : (lo t b).1 * ((lo t b).2 * k) = (lo t b).1 * k * (lo t b).2 := by ac_rfl
  rw [← e1, ← e2] at this
  exact this

theorem dvd_cop {a b d : Int} (h : Int.gcd a b = 1) (e : b ∣ a * d) : b ∣ d := by
  have c : Nat.Coprime b.natAbs a.natAbs := by
    have : Nat.gcd a.natAbs b.natAbs = 1 := h
    rwa [Nat.gcd_comm] at this
  have q := Int.natAbs_dvd_natAbs.mpr e
  rw [Int.natAbs_mul] at q
  exact Int.natAbs_dvd_natAbs.mp (c.dvd_of_dvd_mul_left q)
/-- lowest terms are one pair -/
theorem low_one {a b c d : Int} (hb : 0 < b) (hd : 0 < d) (h1 : Int.gcd a b = 1) (h2 : Int.gcd c d = 1) (e : a * d = c * b) : a = c ∧ b = d := by
  have d1 : b ∣ d := by
    have : b ∣ a * d := by rw [e]; exact Int.dvd_mul_left _ _
    exact dvd_cop h1 this
  have d2 : d ∣ b := by
    have : d ∣ c * b := by rw [← e]; exact Int.dvd_mul_left _ _
    exact dvd_cop h2 this
  have eq : b = d := Int.le_antisymm (Int.le_of_dvd hd d1) (Int.le_of_dvd hb d2)
  subst eq
  exact ⟨Int.eq_of_mul_eq_mul_right (by omega) e, rfl⟩
theorem lo_eq {t b u d : Int} (hb : b ≠ 0) (hd : d ≠ 0) (e : t * d = u * b) : lo t b = lo u d := by
  obtain ⟨k, k0, e1, e2, p, cp, _⟩ := lo_split (t := t) hb
  obtain ⟨m, m0, e3, e4, q, cq, _⟩ := lo_split (t := u) hd
  have z : (lo t b).1 * (lo u d).2 = (lo u d).1 * (lo t b).2 := by
    have : ((lo t b).1 * (lo u d).2) * (k * m) = ((lo u d).1 * (lo t b).2) * (k * m) := by
      have l : ((lo t b).1 * (lo u d).2) * (k * m) = ((lo t b).1 * k) * ((lo u d).2 * m) := by ac_rfl
      have r : ((lo u d).1 * (lo t b).2) * (k * m) = ((lo u d).1 * m) * ((lo t b).2 * k) := by ac_rfl
      rw [l, r, ← e1, ← e2, ← e3, ← e4]
      exact e
    exact Int.eq_of_mul_eq_mul_right (Int.mul_ne_zero k0 m0) this
  obtain ⟨h1, h2⟩ := low_one p q cp cq z
  exact Prod.ext h1 h2
theorem lo_mul {t b k : Int} (hb : b ≠ 0) (hk : k ≠ 0) : lo (t * k) (b * k) = lo t b :=
  lo_eq (Int.mul_ne_zero hb hk) hb (by ac_rfl)
theorem lo_self {t b : Int} (hb : 0 < b) (h : Int.gcd t b = 1) : lo t b = (t, b) := by
  unfold lo
  rw [if_neg (by omega), h]
  simp
theorem lo_one (t : Int) : lo t 1 = (t, 1) := lo_self (by decide) (by simp)
theorem lo_zero {b : Int} (hb : b ≠ 0) : lo 0 b = (0, 1) := by
  have := lo_eq (t := 0) (u := 0) (d := 1) hb (by decide) (by simp)
  rw [this, lo_one]
theorem lo_self2 {t b : Int} (hb : b ≠ 0) : lo (lo t b).1 (lo t b).2 = lo t b := lo_self (lo_pos hb) (lo_cop hb)
theorem natAbs_le_mul {a k : Int} (hk : k ≠ 0) : a.natAbs ≤ (a * k).natAbs := by
  rw [Int.natAbs_mul]
  have : 1 ≤ k.natAbs := by omega
  exact Nat.le_mul_of_pos_right _ this
theorem lo_top_le {t b : Int} (h : b ≠ 0) : (lo t b).1.natAbs ≤ t.natAbs := by
  obtain ⟨k, k0, e1, _⟩ := lo_split (t := t) h
  conv => rhs; rw [e1]
  exact natAbs_le_mul k0
theorem lo_bot_le {t b : Int} (h : b ≠ 0) : (lo t b).2.natAbs ≤ b.natAbs := by
  obtain ⟨k, k0, _, e2, _⟩ := lo_split (t := t) h
  conv => rhs; rw [e2]
  exact natAbs_le_mul k0

/-! ### Euclid, step by step, as the law does it -/
structure Eu (g i a b : Nat) : Prop where
  gcd : Nat.gcd a b = g
  even : i % 2 = 0 → b < 2 ^ (750 - i / 2)
  odd : i % 2 = 1 → b < a ∧ a < 2 ^ (750 - i / 2)
theorem Eu.turn {g i a b : Nat} (h : Eu g i a b) (hb : b ≠ 0) (hi : i < 1500) : Eu g (i + 1) b (a % b) := by
  have lt : a % b < b := Nat.mod_lt _ (by omega)
  refine ⟨?_, fun e => ?_, fun o => ?_⟩
  · have := h.gcd
    rw [Nat.gcd_comm, ← Nat.gcd_rec, Nat.gcd_comm]
    exact this
  · have o : i % 2 = 1 := by omega
    obtain ⟨h1, h2⟩ := h.odd o
    have ex : 750 - i / 2 = (750 - (i + 1) / 2) + 1 := by omega
    rw [ex, Nat.pow_succ] at h2
    have hd := Nat.div_add_mod a b
    have q1 : 1 ≤ a / b := (Nat.one_le_div_iff (by omega)).mpr (by omega)
    have q2 : b * 1 ≤ b * (a / b) := Nat.mul_le_mul_left b q1
    omega
  · have e : i % 2 = 0 := by omega
    have := h.even e
    refine ⟨lt, ?_⟩
    have ex : (i + 1) / 2 = i / 2 := by omega
    rw [ex]
    exact this
theorem Eu.done {g a b : Nat} (h : Eu g 1500 a b) : b = 0 := by
  have := h.even (by decide)
  simpa using this
theorem Eu.zero {g i a : Nat} (h : Eu g i a 0) : a = g := by
  have := h.gcd
  simpa using this
theorem Eu.start {a b : Nat} (h : b < 2 ^ 750) : Eu (Nat.gcd a b) 0 a b := ⟨rfl, fun _ => by simpa using h, fun e => by omega⟩

theorem pow_cop {a b : Int} (n : Nat) (h : Int.gcd a b = 1) : Int.gcd (a ^ n) (b ^ n) = 1 := by
  have : Nat.Coprime (a.natAbs ^ n) (b.natAbs ^ n) := Nat.Coprime.pow n n h
  show Nat.gcd (a ^ n).natAbs (b ^ n).natAbs = 1
  rw [Int.natAbs_pow, Int.natAbs_pow]
  exact this
end Fc
set_option Elab.async false
set_option linter.all false
set_option maxRecDepth 100000
set_option maxHeartbeats 4000000
set_option exponentiation.threshold 100000
/-! What does not hang on a law: sizes, heaps, Ratios and pairs on the heap, the pot, promises. -/
namespace Fc
open PySem PySem.Spec PyProof.Rows L2
/-! ### sizes -/
/-- below 2 ^ n in size -/
def Bd (n : Nat) (i : Int) : Prop := i.natAbs < 2 ^ n
theorem Bd.mono {n m : Nat} {i : Int} (h : Bd n i) (l : n ≤ m) : Bd m i := Nat.lt_of_lt_of_le h (Nat.pow_le_pow_right (by decide) l)
theorem Bd.mul {n m : Nat} {i j : Int} (h : Bd n i) (g : Bd m j) : Bd (n + m) (i * j) := wide_lt h g
theorem Bd.add {n : Nat} {i j : Int} (h : Bd n i) (g : Bd n j) : Bd (n + 1) (i + j) := by
  unfold Bd at *
  rw [Nat.pow_succ]
  omega
theorem Bd.sub {n : Nat} {i j : Int} (h : Bd n i) (g : Bd n j) : Bd (n + 1) (i - j) := by
  unfold Bd at *
  rw [Nat.pow_succ]
  omega
theorem Bd.neg {n : Nat} {i : Int} (h : Bd n i) : Bd n (-i) := by
  unfold Bd at *
  omega
theorem Bd.abs {n : Nat} {i j : Int} (h : Bd n i) (e : j.natAbs ≤ i.natAbs) : Bd n j := Nat.lt_of_le_of_lt e h
theorem Bd.w {n m : Nat} {i j : Int} (h : Bd n i) (g : Bd m j) (a : 0 < n := by decide) (b : 0 < m := by decide) (l : n + m ≤ 1000000 := by decide) : CMulW i j := wide_mul h g a b l
theorem Bd.fdv {n : Nat} {i j : Int} (h : Bd n j) (a : j ≠ 0) (b : 0 < n := by decide) (l : n ≤ 9000 := by decide) : CFdv i j := ⟨a, Nat.lt_of_lt_of_le (PySem.Flt.log2_lt_of b h) l⟩
theorem Bd.div {n : Nat} {i j : Int} (h : Bd n j) (a : 0 < j) (b : 0 < n := by decide) (l : n ≤ 9000 := by decide) : CDivW i j := wide_div a h b l

/-! ### heaps -/
abbrev Ex (H H' : Hp) : Prop := Same H H'
theorem Ex.new {H : Hp} {p : Addr} {o : HO} (h : H p = none) : Ex H (upd H p o) := fun a u e => by rw [upd_ne (ne_of_none e h)]; exact e
theorem Ex.to {H H1 : Hp} {p : Addr} {o : HO} (x : Ex H H1) (h : H1 p = none) : Ex H (upd H1 p o) := x.trans (Ex.new h)
/-- all but what stands at p is as it was -/
def Keep (p : Addr) (H H' : Hp) : Prop := ∀ b o, H b = some o → b ≠ p → H' b = some o
theorem Keep.refl {p : Addr} {H : Hp} : Keep p H H := fun _ _ h _ => h
theorem Keep.trans {p : Addr} {H H1 H2 : Hp} (a : Keep p H H1) (b : Keep p H1 H2) : Keep p H H2 := fun c o h n => b c o (a c o h n) n
theorem Keep.of {p : Addr} {H H' : Hp} (h : Ex H H') : Keep p H H' := fun c o e _ => h c o e
theorem Keep.upd {p : Addr} {H : Hp} {o : HO} : Keep p H (upd H p o) := fun c u e n => by rw [upd_ne n]; exact e
theorem Keep.new {p q : Addr} {H : Hp} {o : HO} (h : H q = none) : Keep p H (L2.upd H q o) := Keep.of (Ex.new h)

/-- the fields of a Ratio -/
def rf (p : Int × Int) : List (Str × V) := [("top", .int p.1), ("bottom", .int p.2)]
theorem ne_tb : ¬ (("top" : Str) = "bottom") := by decide +kernel
theorem rf_put (t b : Int) : putF "bottom" (.int b) (putF "top" (.int t) []) = rf (t, b) := by
  show (if ("top" : Str) = "bottom" then _ else (("top" : Str), V.int t) :: putF "bottom" (.int b) []) = rf (t, b)
  rw [if_neg ne_tb]
  rfl
theorem rf_top (p : Int × Int) : (rf p).lookup ("top" : Str) = some (.int p.1) := by simp [rf, List.lookup]
theorem rf_bot (p : Int × Int) : (rf p).lookup ("bottom" : Str) = some (.int p.2) := by
  have : (("bottom" : Str) == "top") = false := by decide +kernel
  simp [rf, List.lookup, this]
theorem rf_no (p : Int × Int) {m : Str} (h : (m == "top") = false) (h2 : (m == "bottom") = false) : (rf p).lookup m = none := by
  simp [rf, List.lookup, h, h2]
/-- a Ratio with the fields p stands at a -/
def RatAt (C : Addr) (H : Hp) (a : Addr) (p : Int × Int) : Prop := ∃ dx, H a = some (.ins C dx (rf p))
theorem RatAt.ex {C : Addr} {H H' : Hp} {a : Addr} {p : Int × Int} (r : RatAt C H a p) (e : Ex H H') : RatAt C H' a p := let ⟨dx, h⟩ := r; ⟨dx, e _ _ h⟩
/-- a pair of whole numbers stands at a -/
def Pr (H : Hp) (a : Addr) (p : Int × Int) : Prop := H a = some (.tup [.int p.1, .int p.2])
theorem Pr.ex {H H' : Hp} {a : Addr} {p : Int × Int} (r : Pr H a p) (e : Ex H H') : Pr H' a p := e _ _ r
/-- a fair pair: the bottom above 0, both of at most n digits in base 2 -/
structure Sm (n : Nat) (p : Int × Int) : Prop where
  t : Bd n p.1
  b : Bd n p.2
  pos : 0 < p.2
theorem Sm.mono {n m : Nat} {p : Int × Int} (h : Sm n p) (l : n ≤ m) : Sm m p := ⟨h.t.mono l, h.b.mono l, h.pos⟩
theorem Sm.lo {n : Nat} {t b : Int} (ht : Bd n t) (hb : Bd n b) (h : b ≠ 0) : Sm n (lo t b) := ⟨ht.abs (lo_top_le h), hb.abs (lo_bot_le h), lo_pos h⟩
theorem pos_ne {b : Int} (h : 0 < b) : b ≠ 0 := by omega

theorem passF {X : Cx} {E : XK} : Passes CX0 X E := fun _ _ _ _ _ _ _ h => h.elim
theorem Sm.ne {n : Nat} {p : Int × Int} (h : Sm n p) : p.2 ≠ 0 := pos_ne h.pos
theorem Sm.nn {n m : Nat} {p q : Int × Int} (h : Sm n p) (g : Sm m q) : p.2 * q.2 ≠ 0 := Int.mul_ne_zero h.ne g.ne
theorem Bd.pow {m : Nat} {a : Int} (h : Bd m a) : ∀ i : Nat, Bd (m * i + 1) (a ^ i)
  | 0 => by unfold Bd; rw [Int.pow_zero, Nat.mul_zero]; decide
  | i + 1 => by
    rw [Int.pow_succ]
    exact ((Bd.pow h i).mul h).mono (by rw [Nat.mul_succ]; omega)
/-- the pot: a list of the cells, the place, and what is left of the cell -/
def PotAt (H : Hp) (p : Addr) : Prop := ∃ (l : Addr) (cs : List Int) (i c : Int), p ≠ l ∧ H p = some (.lst [.ref l, .int i, .int c]) ∧ H l = some (.lst (cs.map V.int)) ∧
  cs.length ≤ 63 ∧ 0 ≤ i ∧ 0 ≤ c ∧ ∀ z ∈ cs, 0 ≤ z
theorem PotAt.ex {H H' : Hp} {p : Addr} (h : PotAt H p) (e : Ex H H') : PotAt H' p := by
  obtain ⟨l, cs, i, c, ne, h1, h2, r⟩ := h
  exact ⟨l, cs, i, c, ne, e _ _ h1, e _ _ h2, r⟩
theorem PotAt.ne {H : Hp} {p t : Addr} (h : PotAt H p) (n : H t = none) : t ≠ p := fun e => by
  obtain ⟨l, cs, i, c, ne, h1, h2, r⟩ := h
  rw [e, h1] at n
  cases n
theorem Keep.free {p t : Addr} {H H' : Hp} (k : Keep p H H') (h : PotAt H' p) (n : H' t = none) : H t = none := by
  cases q : H t with
  | none => rfl
  | some o =>
    rw [k t o q (h.ne n)] at n
    cases n
theorem Pr.ne {H : Hp} {p t : Addr} {q : Int × Int} (r : Pr H t q) (h : PotAt H p) : t ≠ p := by
  obtain ⟨l, cs, i, c, ne, h1, h2, _⟩ := h
  exact ne_of r h1 (by intro z; cases z)
theorem Pr.keep {H H' : Hp} {p t : Addr} {q : Int × Int} (r : Pr H t q) (h : PotAt H p) (k : Keep p H H') : Pr H' t q := k t _ r (r.ne h)
theorem sz3 : 3 ≤ sizeLine := by rw [sizeLine_eq]; decide
theorem sz2 : 2 ≤ sizeLine := by rw [sizeLine_eq]; decide
def spStart (K : PySem.W.Frag) : Sp := fun vs H Q _ => ∃ (a : Addr) (ns : List Int), vs = [.ref a] ∧ SqL K H a (ns.map V.int) ∧ ns.length ≤ 63 ∧
  ∀ p H', PotAt H' p → Ex H H' → H p = none → Q (.ref p) H'
/-- a digit of the pot: all that is said of it is that it is below many -/
def spDigit : Sp := fun vs H Q _ => ∃ (p : Addr) (m : Int), vs = [.ref p, .int m] ∧ PotAt H p ∧ 0 < m ∧ Bd 300 m ∧
  ∀ d H', 0 ≤ d → d < m → PotAt H' p → Keep p H H' → Q (.int d) H'
/-- a drawn fraction -/
def spFraction : Sp := fun vs H Q _ => ∃ (p : Addr), vs = [.ref p] ∧ PotAt H p ∧ ∀ t q H', Pr H' t q → H t = none → Sm 220 q → PotAt H' p → Keep p H H' → Q (.ref t) H'
theorem bd_ten : Bd 210 ((10 : Int) ^ (60 : Int).toNat) := by show ((10 : Int) ^ 60).natAbs < 2 ^ 210; decide +kernel
theorem ten_pos : (0 : Int) < (10 : Int) ^ (60 : Int).toNat := by decide +kernel
theorem bd_twel : Bd 60 ((10 : Int) ^ (12 : Int).toNat) := by show ((10 : Int) ^ 12).natAbs < 2 ^ 60; decide +kernel
theorem twel_pos : (0 : Int) < (10 : Int) ^ (12 : Int).toNat := by decide +kernel
theorem bd_two : Bd 2 (2 : Int) := by show (2 : Int).natAbs < 2 ^ 2; decide
theorem bd_of {n : Nat} {i : Int} (h : i.natAbs < 2 ^ n) : Bd n i := h
theorem bd_le {n : Nat} {i j : Int} (h : Bd n j) (a : -j ≤ i) (b : i ≤ j) : Bd n i := by
  unfold Bd at *
  omega
theorem cpow (i : Int) (j : Nat) (h : i.natAbs < 2 ^ 64) (l : j ≤ 1000000) : CPow i (j : Int) := ⟨by omega, by omega, h⟩
def spHanded : Sp := fun vs H Q _ => ∃ (p t : Addr) (q : Int × Int), vs = [.ref p, .ref t] ∧ PotAt H p ∧ Pr H t q ∧ Sm 300 q ∧
  ∀ u k H', k ≠ 0 → Bd 3 k → Pr H' u (q.1 * k, q.2 * k) → H u = none → PotAt H' p → Keep p H H' → Q (.ref u) H'
theorem kit_self {K : PySem.W.Frag} {a : Addr} : PySem.W.kitOne K (.ref a) (.ref a) = some true := by
  unfold PySem.W.kitOne
  rw [if_pos (by simp)]
/-- lowest terms of at most 220 digits in base 2 -/
structure Lw (p : Int × Int) : Prop where
  s : Sm 220 p
  c : Int.gcd p.1 p.2 = 1
theorem Lw.s4 {p : Int × Int} (h : Lw p) : Sm 4000 p := h.s.mono (by decide)
theorem Lw.of {q : Int × Int} (h : Sm 220 q) : Lw (lo q.1 q.2) := ⟨Sm.lo h.t h.b h.ne, lo_cop h.ne⟩
theorem lo_k {q : Int × Int} (h : Sm 300 q) {k : Int} (k0 : k ≠ 0) : lo (q.1 * k) (q.2 * k) = lo q.1 q.2 := lo_mul h.ne k0
theorem bd_k {q : Int × Int} (h : Sm 300 q) {k : Int} (bk : Bd 3 k) : Bd 8900 (q.2 * k) := (h.b.mul bk).mono (by decide)
def spLaw (K : PySem.W.Frag) : Sp := fun vs H Q _ => ∃ (a : Addr) (ns : List Int), vs = [.ref a] ∧ SqL K H a (ns.map V.int) ∧ ns.length ≤ 63 ∧ ∀ H', Q (.bl true) H'
theorem kit_ref {K : PySem.W.Frag} {t : Value} {D : Addr} {b : Bool} (hd : PySem.W.hasDictIn K D = true) (ht : PySem.W.typeIn K (.ref D) = some (.type "type")) (hs : PySem.W.subIn K t (.ref D) = some b) (ne : t ≠ .ref D) : PySem.W.kitOne K t (.ref D) = some b := by
  obtain ⟨cd, hc, _⟩ := PySem.W.any_some hd
  have e2 : ((PySem.W.clsIn K D).isSome && PySem.W.typeIn K (.ref D) == some (.type "type")) = true := by rw [hc, ht] <;> rfl
  unfold PySem.W.kitOne
  rw [if_neg (fun z => ne (beq_iff_eq.mp z))]
  show (if ((PySem.W.clsIn K D).isSome && PySem.W.typeIn K (.ref D) == some (.type "type")) = true then PySem.W.subIn K t (.ref D) else none) = some b
  rw [if_pos e2]
  exact hs
theorem kit_typ {K : PySem.W.Frag} {D : Addr} {S : String} {b : Bool} (hm : PySem.W.kitMeta S = true) (hs : PySem.W.subIn K (.ref D) (.type S) = some b) : PySem.W.kitOne K (.ref D) (.type S) = some b := by
  unfold PySem.W.kitOne
  rw [if_neg (fun z => by cases beq_iff_eq.mp z)]
  show (if PySem.W.kitMeta S = true then PySem.W.subIn K (.ref D) (.type S) else none) = some b
  rw [if_pos hm]
  exact hs
end Fc
set_option Elab.async false
set_option linter.all false
set_option maxRecDepth 100000
set_option maxHeartbeats 4000000
/-! Fractions as rational numbers; what the ends of spans do under the five operations and the quotient. -/
namespace Fc
/-- what a pair is worth -/
def vl (p : Int × Int) : Rat := (p.1 : Rat) / (p.2 : Rat)
theorem cast_pos {b : Int} (h : 0 < b) : (0 : Rat) < (b : Rat) := Rat.intCast_pos.mpr h
theorem cast_ne {b : Int} (h : b ≠ 0) : (b : Rat) ≠ 0 := fun z => h (Rat.intCast_inj.mp (by rw [z] <;> rfl))
theorem vl_mul {p : Int × Int} (h : p.2 ≠ 0) : vl p * (p.2 : Rat) = (p.1 : Rat) := by
  have := cast_ne h
  unfold vl
  grind
theorem vl_le {p q : Int × Int} (hp : 0 < p.2) (hq : 0 < q.2) : vl p ≤ vl q ↔ p.1 * q.2 ≤ q.1 * p.2 := by
  have a := cast_pos hp
  have b := cast_pos hq
  have e1 := vl_mul (p := p) (by omega)
  have e2 := vl_mul (p := q) (by omega)
  rw [← Rat.intCast_le_intCast, Rat.intCast_mul, Rat.intCast_mul, ← e1, ← e2]
  constructor
  · intro h
    have := Rat.mul_le_mul_of_nonneg_left h (c := (p.2 : Rat) * (q.2 : Rat)) (Rat.mul_nonneg (by grind) (by grind))
    grind
  · intro h
    rcases (Rat.le_total (a := vl p) (b := vl q)) with z | z
    · exact z
    · have m := Rat.mul_le_mul_of_nonneg_left z (c := (p.2 : Rat) * (q.2 : Rat)) (Rat.mul_nonneg (by grind) (by grind))
      have e : (vl p - vl q) * ((p.2 : Rat) * (q.2 : Rat)) = 0 := by grind
      have n : 0 < (p.2 : Rat) * (q.2 : Rat) := Rat.mul_pos a b
      have : vl p - vl q = 0 := (Rat.mul_eq_zero.mp e).resolve_right (by grind)
      grind
theorem vl_lt {p q : Int × Int} (hp : 0 < p.2) (hq : 0 < q.2) : vl p < vl q ↔ p.1 * q.2 < q.1 * p.2 := by
  have := vl_le hq hp
  constructor
  · intro h
    have : ¬ (q.1 * p.2 ≤ p.1 * q.2) := fun z => by have := this.mpr z; grind
    omega
  · intro h
    have : ¬ (vl q ≤ vl p) := fun z => by have := this.mp z; omega
    grind
theorem vl_eq {p q : Int × Int} (hp : 0 < p.2) (hq : 0 < q.2) (h : vl p = vl q) : p.1 * q.2 = q.1 * p.2 := by
  have a := (vl_le hp hq).mp (by grind)
  have b := (vl_le hq hp).mp (by grind)
  omega
theorem vl_lo {t b : Int} (h : b ≠ 0) : vl (lo t b) = (t : Rat) / (b : Rat) := by
  obtain ⟨k, k0, e1, e2, p, _⟩ := lo_split (t := t) h
  have a := cast_ne k0
  have c := cast_pos p
  have f1 : (t : Rat) = ((lo t b).1 : Rat) * (k : Rat) := by rw [← Rat.intCast_mul, ← e1]
  have f2 : (b : Rat) = ((lo t b).2 : Rat) * (k : Rat) := by rw [← Rat.intCast_mul, ← e2]
  unfold vl
  rw [f1, f2]
  grind
/-! ### ranges -/
theorem mul_hi {a b c d x y : Rat} (h1 : a ≤ x) (h2 : x ≤ b) (h3 : c ≤ y) (h4 : y ≤ d) : x * y ≤ a * c ∨ x * y ≤ a * d ∨ x * y ≤ b * c ∨ x * y ≤ b * d := by
  rcases (Rat.le_total (a := 0) (b := y)) with hy | hy
  · have p1 : 0 ≤ (b - x) * y := Rat.mul_nonneg (by grind) hy
    rcases (Rat.le_total (a := 0) (b := b)) with hb | hb
    · have p2 : 0 ≤ b * (d - y) := Rat.mul_nonneg hb (by grind)
      right; right; right; grind
    · have p2 : 0 ≤ (-b) * (y - c) := Rat.mul_nonneg (by grind) (by grind)
      right; right; left; grind
  · have p1 : 0 ≤ (x - a) * (-y) := Rat.mul_nonneg (by grind) (by grind)
    rcases (Rat.le_total (a := 0) (b := a)) with ha | ha
    · have p2 : 0 ≤ a * (d - y) := Rat.mul_nonneg ha (by grind)
      right; left; grind
    · have p2 : 0 ≤ (-a) * (y - c) := Rat.mul_nonneg (by grind) (by grind)
      left; grind
theorem mul_lw {a b c d x y : Rat} (h1 : a ≤ x) (h2 : x ≤ b) (h3 : c ≤ y) (h4 : y ≤ d) : a * c ≤ x * y ∨ a * d ≤ x * y ∨ b * c ≤ x * y ∨ b * d ≤ x * y := by
  have := mul_hi (a := -b) (b := -a) (x := -x) (by grind) (by grind) h3 h4
  grind
theorem inv_anti {c d y : Rat} (h : 0 < c ∨ d < 0) (h3 : c ≤ y) (h4 : y ≤ d) : d⁻¹ ≤ y⁻¹ ∧ y⁻¹ ≤ c⁻¹ := by
  have one : ∀ u v : Rat, u ≤ v → (0 < u ∨ v < 0) → v⁻¹ ≤ u⁻¹ := by
    intro u v huv hs
    have hu : u ≠ 0 := by grind
    have hv : v ≠ 0 := by grind
    have eu := Rat.mul_inv_cancel u hu
    have ev := Rat.mul_inv_cancel v hv
    have sq : 0 ≤ (u * v) * ((v - u) * ((u⁻¹ * u⁻¹) * (v⁻¹ * v⁻¹))) := by
      have q1 : 0 ≤ u * v := by
        rcases hs with hs | hs
        · exact Rat.mul_nonneg (by grind) (by grind)
        · have := Rat.mul_nonneg (a := -u) (b := -v) (by grind) (by grind)
          grind
      have n1 : 0 ≤ u⁻¹ * u⁻¹ := by
        rcases (Rat.le_total (a := 0) (b := u⁻¹)) with z | z
        · exact Rat.mul_nonneg z z
        · have := Rat.mul_nonneg (a := -u⁻¹) (b := -u⁻¹) (by grind) (by grind)
          grind
      have n2 : 0 ≤ v⁻¹ * v⁻¹ := by
        rcases (Rat.le_total (a := 0) (b := v⁻¹)) with z | z
        · exact Rat.mul_nonneg z z
        · have := Rat.mul_nonneg (a := -v⁻¹) (b := -v⁻¹) (by grind) (by grind)
          grind
      exact Rat.mul_nonneg q1 (Rat.mul_nonneg (by grind) (Rat.mul_nonneg n1 n2))
    have e : (u * v) * ((v - u) * ((u⁻¹ * u⁻¹) * (v⁻¹ * v⁻¹))) = u⁻¹ - v⁻¹ := by grind
    grind
  exact ⟨one y d h4 (by grind), one c y h3 (by grind)⟩
/-- the law's six operations -/
def ow (op : Nat) (x y : Rat) : Rat := if op = 0 then x + y else if op = 1 then x - y else if op = 2 then x * y else if op = 3 then (if y < x then y else x) else if op = 4 then (if x < y then y else x) else x / y
/-- what is the least and the greatest of the four corners -/
structure Lst (op : Nat) (a b c d L : Rat) : Prop where
  at_ : L = ow op a c ∨ L = ow op a d ∨ L = ow op b c ∨ L = ow op b d
  h0 : L ≤ ow op a c
  h1 : L ≤ ow op a d
  h2 : L ≤ ow op b c
  h3 : L ≤ ow op b d
structure Grt (op : Nat) (a b c d L : Rat) : Prop where
  at_ : L = ow op a c ∨ L = ow op a d ∨ L = ow op b c ∨ L = ow op b d
  h0 : ow op a c ≤ L
  h1 : ow op a d ≤ L
  h2 : ow op b c ≤ L
  h3 : ow op b d ≤ L
theorem Lst.one {op : Nat} {a b c d L M : Rat} (x : Lst op a b c d L) (y : Lst op a b c d M) : L = M := by
  obtain ⟨x0, x1, x2, x3, x4⟩ := x
  obtain ⟨y0, y1, y2, y3, y4⟩ := y
  refine Rat.le_antisymm ?_ ?_
  · rcases y0 with e | e | e | e <;> rw [e] <;> assumption
  · rcases x0 with e | e | e | e <;> rw [e] <;> assumption
theorem Grt.one {op : Nat} {a b c d L M : Rat} (x : Grt op a b c d L) (y : Grt op a b c d M) : L = M := by
  obtain ⟨x0, x1, x2, x3, x4⟩ := x
  obtain ⟨y0, y1, y2, y3, y4⟩ := y
  refine Rat.le_antisymm ?_ ?_
  · rcases x0 with e | e | e | e <;> rw [e] <;> assumption
  · rcases y0 with e | e | e | e <;> rw [e] <;> assumption
theorem ow_in {op : Nat} {a b c d x y L U : Rat} (h5 : 5 ≤ op → 0 < c ∨ d < 0) (h1 : a ≤ x) (h2 : x ≤ b) (h3 : c ≤ y) (h4 : y ≤ d) (l : Lst op a b c d L) (g : Grt op a b c d U) : L ≤ ow op x y ∧ ow op x y ≤ U := by
  obtain ⟨_, l0, l1, l2, l3⟩ := l
  obtain ⟨_, g0, g1, g2, g3⟩ := g
  unfold ow at *
  by_cases o0 : op = 0
  · simp only [o0, if_true] at *; grind
  by_cases o1 : op = 1
  · simp only [o1, if_true] at *; simp at *; grind
  by_cases o2 : op = 2
  · subst o2
    simp at *
    have p := mul_hi h1 h2 h3 h4
    have q := mul_lw h1 h2 h3 h4
    constructor <;> grind
  by_cases o3 : op = 3
  · subst o3
    simp at *
    constructor <;> grind
  by_cases o4 : op = 4
  · subst o4
    simp at *
    constructor <;> grind
  · simp only [if_neg o0, if_neg o1, if_neg o2, if_neg o3, if_neg o4, Rat.div_def] at *
    obtain ⟨i1, i2⟩ := inv_anti (h5 (by omega)) h3 h4
    have p := mul_hi h1 h2 i1 i2
    have q := mul_lw h1 h2 i1 i2
    constructor <;> grind
theorem ends0 {a b c d : Rat} (h : a ≤ b) (g : c ≤ d) : Lst 0 a b c d (a + c) ∧ Grt 0 a b c d (b + d) := by
  constructor <;> constructor <;> (unfold ow; simp) <;> grind
theorem ends1 {a b c d : Rat} (h : a ≤ b) (g : c ≤ d) : Lst 1 a b c d (a - d) ∧ Grt 1 a b c d (b - c) := by
  constructor <;> constructor <;> (unfold ow; simp) <;> grind
theorem ends3 {a b c d : Rat} (h : a ≤ b) (g : c ≤ d) : Lst 3 a b c d (if a ≤ c then a else c) ∧ Grt 3 a b c d (if b ≤ d then b else d) := by
  constructor <;> constructor <;> (unfold ow; simp) <;> grind
theorem ends4 {a b c d : Rat} (h : a ≤ b) (g : c ≤ d) : Lst 4 a b c d (if c ≤ a then a else c) ∧ Grt 4 a b c d (if d ≤ b then b else d) := by
  constructor <;> constructor <;> (unfold ow; simp) <;> grind
end Fc
set_option Elab.async false
set_option linter.all false
set_option maxRecDepth 100000
set_option maxHeartbeats 4000000
/-! x in y, where y is an instance of an own class that says what is in it. -/
namespace Fc
open PySem PySem.Spec PyProof.Rows L2
section
open PySem.W
variable {M : Model} {A : Around} {E : Value → Shared → Prop} {s : Shared} {K : Frag} {c C f : Addr} {ox : Obj} {od : Option Obj}
theorem in_K {x : Value} {Q : Bool → Shared → Prop} (X : K.In s.heap) (I : InstAt s.heap c ox C od) (hs : findIn K (.ref C) "__contains__" = some (some (.ref f))) (hf : isFn K (.ref f) = true)
    (h : wpAny M A (call (.ref f) [.ref c, x]) (fun r s' => wpAny M A (truthy r) Q E s') E s) : wpAny M A (contains (.ref c) x) Q E s := by
  unfold contains
  refine wpAny_holding ?_
  have e0 : stdlibNamesSay? (.ref c) x = none := rfl
  simp only [e0, callSpecialUnlessNone?, specialOf]
  refine wpAny_bind (wpAny_bind (I.type.here ((looks_findIn X hs).here ?_)))
  show wpAny M A (if (some (Value.ref f) == some Value.none) = true then _ else _) Q E s
  rw [if_neg (by simp)]
  refine wpAny_bind (wpAny_bind (wpAny_bind (I.type.here ((looks_findIn X hs).here ?_))))
  refine wpAny_holding (wpAny_bind ((bind_fn X _ (beq_iff_eq.mp hf)).here ?_))
  show wpAny M A (if (Value.ref f == Value.none) = true then _ else _) _ E s
  rw [if_neg (by simp)]
  exact wpAny_bind (wpAny_mono h (fun v s' z => wpAny_pure z) fun _ _ z => z)
end
/-- x in y -/
def rIn (C : Addr) (sp : Sp) (E : XK) : R2 := fun x y H Q => ∃ a dx fs, y = .ref a ∧ H a = some (.ins C dx fs) ∧ sp [.ref a, x] H (fun v H' => ∃ b, v = .bl b ∧ Q (.bl b) H') E
theorem op_in {X : Cx} {CX : CXT} {k : Nat} {C f : Addr} {fd : FuncData} {ps : List Str} {sp : Sp} {E : XK}
    (hs : PySem.W.findIn X.K (.ref C) "__contains__" = some (some (.ref f))) (hf : PySem.W.isFn X.K (.ref f) = true)
    (F : FnOk X.prog X.w X.K X.mg X.base CX k f fd ps sp) (hr : Room k X.A) (hb : Binds X.K fd ps []) (hx : Passes CX X E) :
    OpR X (compareOp .In) (rIn C sp E) := by
  intro pins s sl H x y u v Q I rx ry h
  obtain ⟨a, dx, fs, rfl, ha, q⟩ := h
  cases ry
  obtain ⟨ox, od, J⟩ := inst_at I ha
  show wpAny (model X.prog X.w) X.A (do return .bool (← contains (.ref a) u)) (EP X pins sl Q) X.xe s
  refine wpAny_bind (in_K I.kIn J hs hf (thn (run_fn (vs := [.ref a, x]) (us := [.ref a, u]) F hr hb .nil hx I (.cons rfl (.cons rx .nil)) q) fun w s' z => ?_))
  obtain ⟨z', H', I', rz, b, rfl, qz⟩ := z
  cases rz
  exact wpAny_pure (wpAny_pure ⟨.bl b, H', I', rfl, qz⟩)
end Fc
set_option Elab.async false
set_option linter.all false
set_option maxRecDepth 100000
set_option maxHeartbeats 4000000
/-! Ratios, pairs and spans on the heap by what they are worth. -/
namespace Fc
open PySem PySem.Spec PyProof.Rows L2
theorem div_is {t b r : Rat} (h : b ≠ 0) (e : r * b = t) : t / b = r := by grind
theorem cast_mul (a b : Int) : ((a * b : Int) : Rat) = (a : Rat) * (b : Rat) := Rat.intCast_mul a b
theorem cast_add (a b : Int) : ((a + b : Int) : Rat) = (a : Rat) + (b : Rat) := Rat.intCast_add a b
theorem cast_sub (a b : Int) : ((a - b : Int) : Rat) = (a : Rat) - (b : Rat) := Rat.intCast_sub a b
theorem cast_neg (a : Int) : ((-a : Int) : Rat) = -(a : Rat) := Rat.intCast_neg a
theorem v_add {p q : Int × Int} (hp : p.2 ≠ 0) (hq : q.2 ≠ 0) : ((p.1 * q.2 + q.1 * p.2 : Int) : Rat) / ((p.2 * q.2 : Int) : Rat) = vl p + vl q := by
  have e1 := vl_mul hp
  have e2 := vl_mul hq
  refine div_is (cast_ne (Int.mul_ne_zero hp hq)) ?_
  rw [cast_mul, cast_add, cast_mul, cast_mul, ← e1, ← e2]
  grind
theorem v_sub {p q : Int × Int} (hp : p.2 ≠ 0) (hq : q.2 ≠ 0) : ((p.1 * q.2 - q.1 * p.2 : Int) : Rat) / ((p.2 * q.2 : Int) : Rat) = vl p - vl q := by
  have e1 := vl_mul hp
  have e2 := vl_mul hq
  refine div_is (cast_ne (Int.mul_ne_zero hp hq)) ?_
  rw [cast_mul, cast_sub, cast_mul, cast_mul, ← e1, ← e2]
  grind
theorem v_mul {p q : Int × Int} (hp : p.2 ≠ 0) (hq : q.2 ≠ 0) : ((p.1 * q.1 : Int) : Rat) / ((p.2 * q.2 : Int) : Rat) = vl p * vl q := by
  have e1 := vl_mul hp
  have e2 := vl_mul hq
  refine div_is (cast_ne (Int.mul_ne_zero hp hq)) ?_
  rw [cast_mul, cast_mul, ← e1, ← e2]
  grind
theorem v_neg {p : Int × Int} (hp : p.2 ≠ 0) : ((-p.1 : Int) : Rat) / (p.2 : Rat) = -vl p := by
  have e1 := vl_mul hp
  refine div_is (cast_ne hp) ?_
  rw [cast_neg, ← e1]
  grind
theorem v_zero {q : Int × Int} (hq : q.2 ≠ 0) : vl q = 0 ↔ q.1 = 0 := by
  have e2 := vl_mul hq
  have := cast_ne hq
  constructor
  · intro h
    rw [h] at e2
    exact Rat.intCast_inj.mp (by rw [← e2]; grind)
  · intro h
    unfold vl
    rw [h]
    grind
theorem v_div {p q : Int × Int} (hp : p.2 ≠ 0) (hq : q.2 ≠ 0) (h0 : q.1 ≠ 0) : ((p.1 * q.2 : Int) : Rat) / ((p.2 * q.1 : Int) : Rat) = vl p / vl q := by
  have e1 := vl_mul hp
  have e2 := vl_mul hq
  have n : vl q ≠ 0 := fun z => h0 ((v_zero hq).mp z)
  refine div_is (cast_ne (Int.mul_ne_zero hp h0)) ?_
  rw [cast_mul, cast_mul, ← e1, ← e2]
  grind
theorem v_pos {q : Int × Int} (hq : 0 < q.2) : 0 < vl q ↔ 0 < q.1 := by
  have := vl_lt (p := ((0, 1) : Int × Int)) (q := q) (by decide) hq
  have z : vl ((0, 1) : Int × Int) = 0 := (v_zero (by decide)).mpr rfl
  rw [z] at this
  rw [this]
  show (0 : Int) * q.2 < q.1 * 1 ↔ _
  rw [Int.zero_mul, Int.mul_one]
theorem v_nn {q : Int × Int} (hq : 0 < q.2) : 0 ≤ vl q ↔ 0 ≤ q.1 := by
  have := vl_le (p := ((0, 1) : Int × Int)) (q := q) (by decide) hq
  have z : vl ((0, 1) : Int × Int) = 0 := (v_zero (by decide)).mpr rfl
  rw [z] at this
  rw [this]
  show (0 : Int) * q.2 ≤ q.1 * 1 ↔ _
  rw [Int.zero_mul, Int.mul_one]
theorem v_np {q : Int × Int} (hq : 0 < q.2) : vl q ≤ 0 ↔ q.1 ≤ 0 := by
  have := vl_le (p := q) (q := ((0, 1) : Int × Int)) hq (by decide)
  have z : vl ((0, 1) : Int × Int) = 0 := (v_zero (by decide)).mpr rfl
  rw [z] at this
  rw [this]
  show q.1 * 1 ≤ (0 : Int) * q.2 ↔ _
  rw [Int.zero_mul, Int.mul_one]
/-- a Ratio in lowest terms, worth r -/
def RatV (C : Addr) (H : Hp) (n : Nat) (a : Addr) (r : Rat) : Prop := ∃ p, RatAt C H a p ∧ Sm n p ∧ Int.gcd p.1 p.2 = 1 ∧ vl p = r
theorem RatV.ex {C : Addr} {H H' : Hp} {n : Nat} {a : Addr} {r : Rat} (h : RatV C H n a r) (e : Ex H H') : RatV C H' n a r := let ⟨p, x, y⟩ := h; ⟨p, x.ex e, y⟩
theorem RatV.mono {C : Addr} {H : Hp} {n m : Nat} {a : Addr} {r : Rat} (h : RatV C H n a r) (l : n ≤ m) : RatV C H m a r := let ⟨p, x, y, z⟩ := h; ⟨p, x, y.mono l, z⟩
theorem RatV.lo {C : Addr} {H : Hp} {n : Nat} {a : Addr} {t b : Int} (h : RatAt C H a (lo t b)) (ht : Bd n t) (hb : Bd n b) (n0 : b ≠ 0) {r : Rat} (e : (t : Rat) / (b : Rat) = r) : RatV C H n a r :=
  ⟨_, h, Sm.lo ht hb n0, lo_cop n0, (vl_lo n0).trans e⟩
/-- a pair of whole numbers worth r -/
def PrV (H : Hp) (n : Nat) (a : Addr) (r : Rat) : Prop := ∃ p, Pr H a p ∧ Sm n p ∧ vl p = r
theorem PrV.ex {H H' : Hp} {n : Nat} {a : Addr} {r : Rat} (h : PrV H n a r) (e : Ex H H') : PrV H' n a r := let ⟨p, x, y⟩ := h; ⟨p, x.ex e, y⟩
theorem PrV.mono {H : Hp} {n m : Nat} {a : Addr} {r : Rat} (h : PrV H n a r) (l : n ≤ m) : PrV H m a r := let ⟨p, x, y, z⟩ := h; ⟨p, x, y.mono l, z⟩
theorem PrV.keep {H H' : Hp} {n : Nat} {p t : Addr} {r : Rat} (h : PrV H n t r) (pt : PotAt H p) (k : Keep p H H') : PrV H' n t r := let ⟨q, x, y⟩ := h; ⟨q, x.keep pt k, y⟩
/-- the same worth, and lowest terms: the same fraction -/
theorem low_is {n m : Nat} {t p : Int × Int} (ht : Sm n t) (hc : Int.gcd t.1 t.2 = 1) (hp : Sm m p) (e : vl t = vl p) : t = lo p.1 p.2 := by
  have h := lo_eq ht.ne hp.ne (vl_eq ht.pos hp.pos e)
  exact (lo_self ht.pos hc).symm.trans h
/-- -1, 0 or 1 -/
def cmpR (x y : Rat) : Int := if x < y then -1 else if y < x then 1 else 0
theorem cmpR_pos {x y : Rat} : 0 < cmpR x y ↔ y < x := by
  unfold cmpR
  split
  · constructor
    · omega
    · intro h; grind
  · split <;> simp_all
theorem cmpR_np {x y : Rat} : cmpR x y ≤ 0 ↔ x ≤ y := by
  have := cmpR_pos (x := x) (y := y)
  constructor
  · intro h
    have : ¬ y < x := fun z => by have := this.mpr z; omega
    grind
  · intro h
    have : ¬ 0 < cmpR x y := fun z => by have := this.mp z; grind
    omega
theorem cmpR_nn {x y : Rat} : 0 ≤ cmpR x y ↔ y ≤ x := by
  unfold cmpR
  split
  · constructor
    · intro h; omega
    · intro h; grind
  · split
    · constructor
      · intro h; grind
      · intro h; omega
    · constructor
      · intro h; grind
      · intro h; omega
/-- the fields of a Span -/
def sf (l h : Addr) : List (Str × V) := [("low", .ref l), ("high", .ref h)]
theorem ne_lh : ¬ (("low" : Str) = "high") := by decide +kernel
theorem sf_put (l h : Addr) : putF "high" (.ref h) (putF "low" (.ref l) []) = sf l h := by
  show (if ("low" : Str) = "high" then _ else (("low" : Str), V.ref l) :: putF "high" (.ref h) []) = sf l h
  rw [if_neg ne_lh]
  rfl
theorem sf_low (l h : Addr) : (sf l h).lookup ("low" : Str) = some (.ref l) := by simp [sf, List.lookup]
theorem sf_high (l h : Addr) : (sf l h).lookup ("high" : Str) = some (.ref h) := by
  have : (("high" : Str) == "low") = false := by decide +kernel
  simp [sf, List.lookup, this]
theorem sf_no (l h : Addr) {m : Str} (h1 : (m == "low") = false) (h2 : (m == "high") = false) : (sf l h).lookup m = none := by
  simp [sf, List.lookup, h1, h2]
/-- a Span from x to y -/
def SpV (S C : Addr) (H : Hp) (n : Nat) (s : Addr) (x y : Rat) : Prop := ∃ dx l h, H s = some (.ins S dx (sf l h)) ∧ RatV C H n l x ∧ RatV C H n h y
theorem SpV.ex {S C : Addr} {H H' : Hp} {n : Nat} {s : Addr} {x y : Rat} (r : SpV S C H n s x y) (e : Ex H H') : SpV S C H' n s x y := let ⟨dx, l, h, a, b, c⟩ := r; ⟨dx, l, h, e _ _ a, b.ex e, c.ex e⟩
theorem SpV.mono {S C : Addr} {H : Hp} {n m : Nat} {s : Addr} {x y : Rat} (r : SpV S C H n s x y) (e : n ≤ m) : SpV S C H m s x y := let ⟨dx, l, h, a, b, c⟩ := r; ⟨dx, l, h, a, b.mono e, c.mono e⟩
/-- a loop over a tuple, whatever its turn asks -/
theorem it_tup {K : PySem.W.Frag} {a : Addr} {xs : List V} {B : (Hp → Prop) → V → Hp → Prop} {H0 : Hp} {Qd : Hp → Prop} (Pv : Nat → Hp → Prop) (h0 : Pv 0 H0) (hl : ∀ i H, i ≤ xs.length → Pv i H → SqT K H a xs)
    (hs : ∀ i x H, xs[i]? = some x → Pv i H → B (Pv (i + 1)) x H) (hd : ∀ H, Pv xs.length H → Qd H) :
    ∃ W : Nat → Nat → Hp → Prop, (∃ m, W 0 m H0) ∧ ∀ i m H, W i m H →
      ((Itt K a).stop i H ∧ Qd H) ∨ ((Itt K a).go i H ∧ ∃ Nx : Hp → Prop, (∀ H', Nx H' → ∃ m', m' < m ∧ W (i + 1) m' H') ∧ ∀ x H', (Itt K a).yld i H x H' → B Nx x H') := by
  refine ⟨fun i m H => m = xs.length - i ∧ i ≤ xs.length ∧ Pv i H, ⟨xs.length, by simp, Nat.zero_le _, h0⟩, ?_⟩
  rintro i m H ⟨rfl, hi, p⟩
  have q := hl i H hi p
  by_cases hlt : i < xs.length
  · refine .inr ⟨⟨xs, xs[i], q, by simp [hlt]⟩, Pv (i + 1), fun H' p' => ⟨xs.length - (i + 1), by omega, rfl, hlt, p'⟩, fun x H' y => ?_⟩
    obtain ⟨e, y⟩ := y
    subst e
    exact hs i x _ (y xs q) p
  · have e : i = xs.length := by omega
    subst e
    exact .inl ⟨⟨xs, q, Nat.le_refl _⟩, hd H p⟩
/-- the Ratios at these addresses are worth these -/
def Fit (C : Addr) (H : Hp) : List Addr → List Rat → Prop
  | [], [] => True
  | a :: as, r :: rs => RatV C H 2001 a r ∧ Fit C H as rs
  | _, _ => False
theorem Fit.len {C : Addr} {H : Hp} : ∀ {as : List Addr} {rs : List Rat}, Fit C H as rs → as.length = rs.length
  | [], [], _ => rfl
  | _ :: _, _ :: _, h => congrArg (· + 1) (Fit.len h.2)
  | [], _ :: _, h => h.elim
  | _ :: _, [], h => h.elim
theorem Fit.app {C : Addr} {H : Hp} {y : Addr} {r : Rat} (hy : RatV C H 2001 y r) : ∀ {as : List Addr} {rs : List Rat}, Fit C H as rs → Fit C H (as ++ [y]) (rs ++ [r])
  | [], [], _ => ⟨hy, trivial⟩
  | _ :: _, _ :: _, h => ⟨h.1, Fit.app hy h.2⟩
  | [], _ :: _, h => h.elim
  | _ :: _, [], h => h.elim
theorem RatV.keep {C D : Addr} {H H' : Hp} {n : Nat} {a : Addr} {r : Rat} {xs : List V} (h : RatV C H n a r) (hD : H D = some (.lst xs)) (k : Keep D H H') : RatV C H' n a r := by
  obtain ⟨p, ⟨dx, z⟩, y⟩ := h
  refine ⟨p, ⟨dx, k _ _ z ?_⟩, y⟩
  intro e
  rw [e, hD] at z
  cases z
theorem Fit.keep {C D : Addr} {H H' : Hp} {xs : List V} (hD : H D = some (.lst xs)) (k : Keep D H H') : ∀ {as : List Addr} {rs : List Rat}, Fit C H as rs → Fit C H' as rs
  | [], [], _ => trivial
  | _ :: _, _ :: _, h => ⟨h.1.keep hD k, Fit.keep hD k h.2⟩
  | [], _ :: _, h => h.elim
  | _ :: _, [], h => h.elim
theorem Fit.ex {C : Addr} {H H' : Hp} (k : Ex H H') : ∀ {as : List Addr} {rs : List Rat}, Fit C H as rs → Fit C H' as rs
  | [], [], _ => trivial
  | _ :: _, _ :: _, h => ⟨h.1.ex k, Fit.ex k h.2⟩
  | [], _ :: _, h => h.elim
  | _ :: _, [], h => h.elim
def Els (C : Addr) (H : Hp) (D : Addr) (rs : List Rat) : Prop := ∃ ys : List Addr, H D = some (.lst (ys.map V.ref)) ∧ Fit C H ys rs
theorem Keep.exn {D : Addr} {H H' : Hp} (k : Keep D H H') (n : H D = none) : Ex H H' := fun b o e => k b o e (ne_of_none e n)
/-- one more of them -/
theorem Els.app {C D : Addr} {H H1 : Hp} {rs : List Rat} {y : Addr} {r : Rat} (h : Els C H D rs) (e : Ex H H1) (hy : RatV C H1 2001 y r) (l : rs.length < 4) :
    ∃ acc, H1 D = some (.lst acc) ∧ acc.length < sizeLine ∧ Els C (upd H1 D (.lst (acc ++ [.ref y]))) D (rs ++ [r]) := by
  obtain ⟨ys, h1, h2⟩ := h
  refine ⟨ys.map V.ref, e _ _ h1, ?_, ys ++ [y], ?_, ?_⟩
  · rw [List.length_map, h2.len, sizeLine_eq]
    omega
  · rw [upd_same, List.map_append]
    rfl
  · exact ((h2.ex e).app hy).keep (e _ _ h1) Keep.upd
/-- [e for x in (a, b) for y in (c, d)] -/
theorem lc22 {K : PySem.W.Frag} {C : Addr} {s o : V} {wi wi1 : TI} {te : TE} {f : Rat → Rat → Rat} {G : Rat → Prop} {H : Hp} {Q : VK} {a b c d : Addr} {ra rb rc rd : Rat}
    (ha : RatV C H 1000 a ra) (hb : RatV C H 1000 b rb) (hc : RatV C H 1000 c rc) (hd : RatV C H 1000 d rd) (gc : G rc) (gd : G rd)
    (hw : ∀ R, (∀ t H', Ex H H' → H' t = some (.tup [.ref a, .ref b]) → R (Itt K t) H') → wi [some s, some o, none, none] H R)
    (hw1 : ∀ u H2 R, Ex H H2 → (∀ t H', Ex H2 H' → H' t = some (.tup [.ref c, .ref d]) → R (Itt K t) H') → wi1 [some s, some o, some u, none] H2 R)
    (ht : ∀ u v ru rv H2 R, RatV C H2 1000 u ru → RatV C H2 1000 v rv → G rv → (∀ y H', Ex H2 H' → H2 y = none → RatV C H' 2001 y (f ru rv) → R (.ref y) H') → te [some s, some o, some (.ref u), some (.ref v)] H2 R)
    (k : ∀ L H' ys, Ex H H' → H' L = some (.lst (ys.map V.ref)) → Fit C H' ys [f ra rc, f ra rd, f rb rc, f rb rd] → Q (.ref L) H') :
    tLc2 wi (gName 2) tYes wi1 (gName 3) tYes te [2, 3] [3] [some s, some o, none, none] H Q := by
  refine hw _ fun t H1 e1 h1 => ?_
  intro D hD
  have tD : t ≠ D := ne_of_none h1 hD
  refine it_tup (xs := [.ref a, .ref b]) (fun i H' => Keep D H1 H' ∧ Els C H' D (([f ra rc, f ra rd, f rb rc, f rb rd] : List Rat).take (2 * i))) ⟨Keep.upd, [], upd_same, trivial⟩ (fun i H' _ p => SqT.of (p.1 _ _ h1 tD)) (fun i x H' hx p => ?_) (fun H' p => ?_)
  · obtain ⟨kp, els⟩ := p
    obtain ⟨u, ru, rfl, hu, i2, e2⟩ : ∃ u ru, x = V.ref u ∧ RatV C H 1000 u ru ∧ i < 2 ∧ ([f ra rc, f ra rd, f rb rc, f rb rd] : List Rat).take (2 * i + 1) = ([f ra rc, f ra rd, f rb rc, f rb rd] : List Rat).take (2 * i) ++ [f ru rc] ∧
        ([f ra rc, f ra rd, f rb rc, f rb rd] : List Rat).take (2 * (i + 1)) = ([f ra rc, f ra rd, f rb rc, f rb rd] : List Rat).take (2 * i + 1) ++ [f ru rd] := by
      match i, hx with
      | 0, z => cases z; exact ⟨a, ra, rfl, ha, by decide, rfl, rfl⟩
      | 1, z => cases z; exact ⟨b, rb, rfl, hb, by decide, rfl, rfl⟩
      | n + 2, z => simp at z
    refine ⟨rfl, hw1 _ _ _ (e1.trans (kp.exn hD)) fun t2 H4 e4 h4 => ?_⟩
    obtain ⟨ys, hy1, hy2⟩ := els
    have t2D : t2 ≠ D := ne_of h4 (e4 _ _ hy1) (by intro z; cases z)
    refine it_tup (xs := [.ref c, .ref d]) (fun j H' => Keep D H4 H' ∧ Els C H' D (([f ra rc, f ra rd, f rb rc, f rb rd] : List Rat).take (2 * i + j))) ⟨Keep.refl, ys, e4 _ _ hy1, hy2.ex e4⟩ (fun j H' _ p => SqT.of (p.1 _ _ h4 t2D)) (fun j x H5 hx p => ?_) (fun H5 p => ?_)
    · obtain ⟨kp5, els5⟩ := p
      have kk : Keep D H1 H5 := (kp.trans (Keep.of e4)).trans kp5
      have E5 : Ex H H5 := e1.trans (kk.exn hD)
      obtain ⟨v, rv, rfl, hv, gv, j2, ej⟩ : ∃ v rv, x = V.ref v ∧ RatV C H 1000 v rv ∧ G rv ∧ j < 2 ∧ ([f ra rc, f ra rd, f rb rc, f rb rd] : List Rat).take (2 * i + (j + 1)) = ([f ra rc, f ra rd, f rb rc, f rb rd] : List Rat).take (2 * i + j) ++ [f ru rv] := by
        match j, hx with
        | 0, z => cases z; exact ⟨c, rc, rfl, hc, gc, by decide, e2.1⟩
        | 1, z => cases z; exact ⟨d, rd, rfl, hd, gd, by decide, e2.2⟩
        | n + 2, z => simp at z
      refine ⟨rfl, ht u v ru rv H5 _ (hu.ex E5) (hv.ex E5) gv fun y H6 e6 ny ry => ?_⟩
      obtain ⟨acc, q1, q2, q3⟩ := els5.app e6 ry (by rw [List.length_take]; show min (2 * i + j) 4 < 4; omega)
      refine ⟨acc, q1, q2, (kp5.trans (Keep.of e6)).trans Keep.upd, ?_⟩
      rw [ej]
      exact q3
    · exact ⟨(kp.trans (Keep.of e4)).trans p.1, p.2⟩
  · obtain ⟨kp, ys, h3, h4⟩ := p
    exact k D H' ys (e1.trans (kp.exn hD)) h3 h4
end Fc
set_option Elab.async false
set_option linter.all false
set_option maxRecDepth 100000
set_option maxHeartbeats 4000000
set_option exponentiation.threshold 100000
/-! Euclid with Lamé's bound: 1500 steps do for a bottom below 2 ^ 1000. -/
namespace Fc
/-- two Fibonacci numbers in a row -/
def fib2 : Nat → Nat × Nat
  | 0 => (0, 1)
  | n + 1 => ((fib2 n).2, (fib2 n).1 + (fib2 n).2)
structure Lu (g N i a b : Nat) : Prop where
  gcd : Nat.gcd a b = g
  first : i = 0 → b ≤ N
  next : i ≠ 0 → b < a ∧ (fib2 i).1 * a + (fib2 (i - 1)).1 * b ≤ N
theorem Lu.start {a b N : Nat} (h : b ≤ N) : Lu (Nat.gcd a b) N 0 a b := ⟨rfl, fun _ => h, fun z => absurd rfl z⟩
theorem fib_step (n : Nat) : (fib2 (n + 2)).1 = (fib2 (n + 1)).1 + (fib2 n).1 := by
  show (fib2 n).1 + (fib2 n).2 = (fib2 n).2 + (fib2 n).1
  omega
theorem Lu.turn {g N i a b : Nat} (h : Lu g N i a b) (hb : b ≠ 0) : Lu g N (i + 1) b (a % b) := by
  have lt : a % b < b := Nat.mod_lt _ (by omega)
  refine ⟨?_, fun e => by omega, fun _ => ⟨lt, ?_⟩⟩
  · have := h.gcd
    rw [Nat.gcd_comm, ← Nat.gcd_rec, Nat.gcd_comm]
    exact this
  · rcases Nat.eq_zero_or_pos i with z | z
    · subst z
      have := h.first rfl
      show 1 * b + 0 * (a % b) ≤ N
      omega
    · obtain ⟨h1, h2⟩ := h.next (by omega)
      obtain ⟨j, rfl⟩ : ∃ j, i = j + 1 := ⟨i - 1, by omega⟩
      have hd := Nat.div_add_mod a b
      have q1 : 1 ≤ a / b := (Nat.one_le_div_iff (by omega)).mpr (by omega)
      have q2 : b * 1 ≤ b * (a / b) := Nat.mul_le_mul_left b q1
      have q3 : b + a % b ≤ a := by omega
      have q4 := Nat.mul_le_mul_left (fib2 (j + 1)).1 q3
      rw [Nat.mul_add] at q4
      show (fib2 (j + 2)).1 * b + (fib2 (j + 1)).1 * (a % b) ≤ N
      rw [fib_step, Nat.add_mul]
      have h2' : (fib2 (j + 1)).1 * a + (fib2 j).1 * b ≤ N := h2
      omega
/-- .. reckoned with two numbers -/
def fibL : Nat → Nat → Nat → Nat
  | 0, a, _ => a
  | n + 1, a, b => fibL n b (a + b)
theorem fibL_is (n : Nat) : ∀ k, fibL n (fib2 k).1 (fib2 k).2 = (fib2 (n + k)).1 := by
  induction n with
  | zero => intro k; rw [Nat.zero_add]; rfl
  | succ n ih =>
    intro k
    show fibL n (fib2 k).2 ((fib2 k).1 + (fib2 k).2) = _
    have := ih (k + 1)
    rw [show n + 1 + k = n + (k + 1) by omega]
    exact this
theorem fib_big : 2 ^ 1000 < (fib2 1500).1 := by
  have e : (fib2 1500).1 = fibL 1500 0 1 := (fibL_is 1500 0).symm
  rw [e]
  decide +kernel
theorem Lu.done {g N a b : Nat} (h : Lu g N 1500 a b) (hN : N ≤ 2 ^ 1000) : b = 0 := by
  obtain ⟨h1, h2⟩ := h.next (by decide)
  have := fib_big
  have q := Nat.mul_le_mul_left (fib2 1500).1 (show 1 ≤ a by omega)
  omega
theorem Lu.zero {g N i a : Nat} (h : Lu g N i a 0) : a = g := by
  have := h.gcd
  simpa using this
end Fc
set_option Elab.async false
set_option linter.all false
set_option maxRecDepth 100000
set_option maxHeartbeats 4000000
/-! An own error with an own __init__, raised where nothing is handled, with its context told; defs that are called within an except suite. -/
namespace Fc
open PySem PySem.Spec PyProof.Rows L2 L2H
section
variable {X : Cx} {CX : CXT} {k : Nat} {C fI : Addr} {fd : FuncData} {ps : List Str} {sp : Sp} {x : Str} {p pos : Pos} {e : Expr} {es : List Expr} {ta : TA}
/-- the new exception as the own __init__ finds it -/
theorem fresh_exc {pins : List (Addr × Obj)} {sl : L2.St} {H : Hp} {hp : Heap} {g : Array GenState} {dr : Drawn} {tk : Nat} {os : OsState} (I : Inv X pins sl H ⟨hp, g, dr, tk, os⟩) (us : List Value) :
    let h2 := (hp.push (PySem.W.kdv_tup us)).push (PySem.HandSPX.excO C hp.objs.size)
    (∀ b o, hp.get? b = some o → h2.get? b = some o) ∧ Inv X pins sl (upd H (hp.objs.size + 1) (exo (hp.objs.size + 1) C none)) ⟨h2, g, dr, tk, os⟩ := by
  have kp : ∀ b o, hp.get? b = some o → ((hp.push (PySem.W.kdv_tup us)).push (PySem.HandSPX.excO C hp.objs.size)).get? b = some o :=
    fun b o z => Heap.get?_push_of_some _ (Heap.get?_push_of_some _ z)
  have at_ : ((hp.push (PySem.W.kdv_tup us)).push (PySem.HandSPX.excO C hp.objs.size)).get? (hp.objs.size + 1) = some (PySem.HandSPX.excO C hp.objs.size) := by
    heap_get
  exact ⟨kp, I.laid (t' := tk) (a := hp.objs.size + 1) (o := exo (hp.objs.size + 1) C none) kp (Nat.le_succ _) (exo_ok at_)⟩
theorem pmk_oexN (T : OexC X.K C) (iC : PySem.W.findIn X.K (.ref C) "__init__" = some (some (.ref fI))) (tI : PySem.W.typeIn X.K (.ref fI) = some (.type "function")) (G : FnOk X.prog X.w X.K X.mg X.base CX k fI fd ps sp) (room : Room (k + 1) X.A)
    (bnd : Binds X.K fd ps []) (px : Passes CX X (fun _ _ _ => False)) (gl : Gl X x) (at_ : X.mg x = some (.ref C)) (args : PA X (e :: es) ta) (nd : (x == ("__debug__" : Str)) = false := by decide)
    (st : starEach (e :: es) X.env = (false, eval e X.env) :: starEach es X.env := by rfl) (pl : (backTo pos (starEach es X.env)).any (·.1) = false := by rfl) : L2N.PMk X (.Call (.Name x p) (e :: es) [] pos) (tMkO C sp [] ta) := fun pins s0 sl H0 Qx I0 want => by
  obtain ⟨_, _, _, _, bm, _, _, _, _, _, _, _, _, _, _, cls, ve⟩ := T.cls
  refine wpAny_Call_Name_kw (ld_glob I0 gl at_ (PySem.W.callWith_K (h₀ := X.base) I0.ok.mod.kin T.kC (thn (args.run pos pins s0 sl H0 _ I0 want) fun us s1 got => ?_) st pl) nd)
  obtain ⟨vs, H1, I1, rel, many, go⟩ := got
  refine ⟨I1.kIn, ?_⟩
  obtain ⟨hp, g, dr, tk, os⟩ := s1
  obtain ⟨kp, I2⟩ := fresh_exc (C := C) I1 us
  have go' := go (hp.objs.size + 1) (I1.hok.fresh (Nat.le_succ _))
  rw [List.append_nil] at go'
  have rel2 : Vals (V.ref (hp.objs.size + 1) :: vs) (Value.ref (hp.objs.size + 1) :: us) := .cons rfl rel
  have len2 : (Value.ref (hp.objs.size + 1) :: us ++ []).length = ps.length := by
    rw [List.append_nil, ← rel2.length]
    exact G.len _ _ _ _ go'
  have few : us.length ≤ sizeLine := by
    have := Paired.length rel
    rw [sizeLine_eq]
    omega
  have bd := bnd _ (Value.ref (hp.objs.size + 1) :: us) I2.kIn len2
  rw [List.append_nil] at bd
  have run := G.run _ X.stack _ _ ⟨Value.ref (hp.objs.size + 1) :: us, []⟩ (Value.ref (hp.objs.size + 1) :: us) _ _ (fun _ _ _ => False) (room.make C us []) (I2.env0.make C us []) bd rel2 go'
  refine wpAny_call (PySem.HandSPX.call_own F.excBase_ValueError (fun Y => PySem.HandSPX.refsVE_contains Y bm ve) (I1.kIn _ _ cls) (PySem.W.looks_findIn I1.kIn iC) (fun self => PySem.W.bind_fn I1.kIn self tI) few (codeAny_mono run fun r s' out => ?_))
  match r, out with
  | .error er, out => exact px pins sl _ _ er s' I2 out
  | .ok (.ret u), ⟨v, H2, os2, bare2, un2, hok2, rv, ev, d, fs, ea, ed, hd1, q2⟩ =>
    subst ev
    obtain ⟨h2, g2, d2, t2, os'⟩ := s'
    obtain ⟨t0, Gh, J, kG, ge, hoe, na⟩ := mk_end0 (d2 := d2) (t2 := t2) I1 (Nat.le_succ _) kp un2 hok2 os2 bare2 ea ed hd1
    exact ⟨rv, hp.objs.size + 1, _, _, ⟨Gh, g2, d2, t2, os'⟩, _, .ref C, some d, rfl, J, kG, ge, hoe, ⟨rfl, rfl, fun vs hv => by cases hv; rfl⟩, rfl, rfl, na, rfl, bare2, raises_own T.exC T.tyC, q2⟩
  | .ok .next, out => exact out.elim
  | .ok .brk, out => exact out.elim
  | .ok .cont, out => exact out.elim
end
theorem passLN {X : Cx} : Passes (L2N.CX X.prog X.w) X E0 := fun _ _ _ _ _ _ _ h => by
  rcases h with ⟨_, _, _, _, _, _, _, _, _, _, _, _, z⟩
  exact False.elim z
theorem takes0N {X : Cx} : L2N.Takes X (fun _ _ _ _ => False) := fun _ _ h => by
  rcases h with ⟨_, _, _, _, _, _, _, _, _, _, _, _, _, _, _, _, z⟩
  exact False.elim z
section
variable {P : Program} {w : World} {K : PySem.W.Frag} {mg : Str → Option Value} {base : Heap} {x qual : Str} {st : Stmt} {f : Addr} {fd : FuncData} {N ps : List Str} {k : Nat} {sp : Sp}
/-- a def that raises, the context of what it raises told -/
theorem fun_okN (D : Fun K x qual st f fd) (S : FnScope N ps (defScope st)) (len : ∀ vs H Q E, sp vs H Q E → vs.length = ps.length)
    (body : ∀ (cdv : Value) (A : Around) (outer : List Env) (s : Shared) (H : Hp) (vs : List V) (Q : VK) (E : XK), Room k (A.deeper (envOfC qual (defScope st) s.heap.objs.size f cdv)) → sp vs H Q E →
      ∃ t, PSs (cxOf (L2N.CX P w) P w K mg base N qual (defScope st) f cdv A outer s H E) (defBody st) t ∧ t { nx := fun _ H' => Q .non H', rt := Q } (L2.start N vs) H) : FnOk P w K mg base (L2N.CX P w) (k + 1) f fd ps sp := by
  obtain ⟨_, _, _, _, _, _, cdv, _, _, rfl, lk, cd⟩ := D.ex
  exact fn_of lk cd S len fun A outer s H vs Q E room q => body cdv A outer s H vs Q E room q
/-- a def that is called within an except suite -/
theorem fun_okH (D : Fun K x qual st f fd) (S : FnScope N ps (defScope st)) (len : ∀ vs H Q E, sp vs H Q E → vs.length = ps.length)
    (body : ∀ (cdv : Value) (A : Around) (outer : List Env) (s : Shared) (H : Hp) (vs : List V) (Q : VK) (E : XK) (p : Addr × Obj), RoomH k (A.deeper (envOfC qual (defScope st) s.heap.objs.size f cdv)) →
      HotC (cxH CX0 P w K mg base N qual (defScope st) f cdv A outer s H E p) → sp vs H Q E →
      ∃ t, PSs (cxH CX0 P w K mg base N qual (defScope st) f cdv A outer s H E p) (defBody st) t ∧ t { nx := fun _ H' => Q .non H', rt := Q } (L2.start N vs) H) : FnH P w K mg base CX0 (k + 1) f fd ps sp := by
  obtain ⟨_, _, _, _, _, _, cdv, _, _, rfl, lk, cd⟩ := D.ex
  exact fn_ofH lk cd S len fun A outer s H vs Q E p hot room q => body cdv A outer s H vs Q E p room ⟨p, ⟨hot.1, hot.2⟩, List.mem_cons_self⟩ q
end
theorem _root_.L2H.RoomH.u64 {k : Nat} {A : Around} (r : RoomH k A) : A.units + 64 < cLine := by
  have := r.un
  omega
theorem passH {X : Cx} : ∀ sl, PassesAt CX0 X sl E0 := fun _ _ _ _ _ _ _ h => h.elim
/-- the suite of a caught error whose context is None -/
theorem hot_suite {X : Cx} {a : Addr} {oe : Obj} {pn : List (Addr × Obj)} {cls : Value} {d : Option Addr} (hz : L2N.Zn cls d oe) (hf : ∃ vs, oe.data = .fields vs) : HotC (X.suite a ((a, oe) :: pn)) := by
  obtain ⟨vs, h⟩ := hf
  exact ⟨(a, oe), ⟨rfl, vs, h, hz.2.2 vs h⟩, List.mem_cons_self⟩
end Fc
set_option Elab.async false
set_option linter.all false
set_option maxRecDepth 100000
set_option maxHeartbeats 4000000
/-! More rules of mine: an own operator that raises in a try, a static method called off its class. -/
namespace Fc
open PySem PySem.Spec PyProof.Rows L2
section
variable {X : Cx} {CX : CXT} {k : Nat} {C f : Addr} {fd : FuncData} {ps : List Str} {sp : Sp}
def tOwnS (C : Addr) (sp : Sp) (E : L2.St → XK) (ta tb : TE) : TE := fun sl H Q => ta sl H fun x H1 => tb sl H1 fun y H2 => ∃ a b dx dy fs gs, x = .ref a ∧ y = .ref b ∧
  H2 a = some (.ins C dx fs) ∧ H2 b = some (.ins C dy gs) ∧ sp [.ref a, .ref b] H2 Q (E sl)
theorem pe_opS {op : Operator} {E : L2.St → XK} {a b : Expr} {ta tb : TE} {pos : Pos} (hc : PySem.W.selfFirst X.K C = true) (hs : PySem.W.findIn X.K (.ref C) (PySem.dunder op.info.2) = some (some (.ref f)))
    (hf : PySem.W.isFn X.K (.ref f) = true) (F : FnOk X.prog X.w X.K X.mg X.base CX k f fd ps sp) (hr : Room k X.A) (hb : Binds X.K fd ps []) (hx : ∀ sl, PassesAt CX X sl (E sl)) (ha : PE X a ta) (hbb : PE X b tb) :
    PE X (.BinOp a op b pos) (tOwnS C sp E ta tb) := by
  refine ⟨fun pins s sl H Q I h => ?_⟩
  refine wpAny_BinOp (binT ha hbb I h fun v u s2 x y H2 I2 rx ry q => ?_)
  obtain ⟨a, b, dx, dy, fs, gs, rfl, rfl, h1, h2, q⟩ := q
  cases rx
  cases ry
  obtain ⟨ox, od, J⟩ := inst_at I2 h1
  obtain ⟨oy, oe, J'⟩ := inst_at I2 h2
  obtain ⟨m, hF⟩ := I2.fr
  exact PySem.W.binop_K hF I2.ok.mod.kin J J'.type hc hs hf
    (thn (run_fnS (vs := [.ref a, .ref b]) (us := [.ref a, .ref b]) F hr hb (hx sl) I2 (.cons rfl (.cons rfl .nil)) q) fun _ _ z => cmpBack z)
/-! ### C.m(..), a static method -/
structure SMet (K : PySem.W.Frag) (C : Addr) (mc : Value) (m : Str) (p g : Addr) : Prop where
  at_ : PySem.W.findCls K (.ref C) mc m = some (.get (.builtin "staticmethod.__get__") (.ref p) .none (.ref C))
  rc : ∃ rest, PySem.W.recIn K p "staticmethod" = some (.ref g :: rest)
  kp : PySem.W.keepIn K (.ref g) = true
theorem getsm_ok {pins : List (Addr × Obj)} {σ : L2.St} {H : Hp} {s : Shared} {A : Around} {E : Value → Shared → Prop} {mc : Value} {m : Str} {p g : Addr} {pl : Sem Bool} {Q : Value × List Value → Shared → Prop} (I : Inv X pins σ H s)
    (r : ClX.CRead X.K C mc) (c : SMet X.K C mc m p g) (h : ∀ s', Inv X pins σ H s' → Q (.ref g, []) s') : wpAny (model X.prog X.w) A (getMethod (.ref C) m pl) Q E s := by
  obtain ⟨rest, hp⟩ := c.rc
  refine PySem.W.method_cls I.kIn r.ga ?_
  refine PySem.W.cls_bind I.kIn r.rd c.at_ ?_
  exact wpAny_call (PySem.W.sm_get (s := { s with toks := s.toks + 1 }) I.kIn hp (PySem.W.handed_on rfl (h _ (I.tok _))))
def tSMeth (C : Addr) (sp : Sp) (E : XK) (ta : TE) (t : TA) : TE := fun σ H Q => ta σ H fun x H1 => x = .ref C ∧ t σ H1 fun vs H2 => sp vs H2 Q E
theorem pe_smeth {o e : Expr} {es : List Expr} {m : Str} {apos pos : Pos} {pl : Sem Bool} {mc : Value} {p g : Addr} {E : XK} {ta : TE} {t : TA} (he : PE X o ta) (r : ClX.CRead X.K C mc) (c : SMet X.K C mc m p g)
    (F : FnOk X.prog X.w X.K X.mg X.base CX k g fd ps sp) (hr : Room k X.A) (hb : Binds X.K fd ps []) (hx : Passes CX X E) (ha : PA X (e :: es) t)
    (hst : starEach (e :: es) X.env = (false, eval e X.env) :: starEach es X.env := by rfl) (hpl : (backTo pos (starEach es X.env)).any (·.1) = false := by rfl)
    (ht : eval (.Call (.Attribute o m apos) (e :: es) [] pos) X.env = (do
      let ov ← eval o X.env
      standAt apos.atName
      let (f, first) ← holding [ov] (getMethod ov m pl)
      callWith pos f first (backTo pos (starEach (e :: es) X.env)) (backToKw pos (keywordEach [] X.env))) := by rfl) :
    PE X (.Call (.Attribute o m apos) (e :: es) [] pos) (tSMeth C sp E ta t) := by
  refine ⟨fun pins s σ H Q I h => ?_⟩
  refine PySem.W.methodCall_KW (pl := pl) (thn (he.run pins s σ H _ I h) fun u s1 ⟨x, H1, I1, rx, ex, q⟩ => ?_) ht
  subst ex
  obtain rfl : u = Value.ref C := rx
  refine getsm_ok I1 r c fun s2 I2 => ?_
  refine PySem.W.callWith_K (first := []) (h₀ := X.base) I2.ok.mod.kin c.kp ?_ hst hpl
  exact thn (ha.run pos pins s2 σ H1 _ I2 q) fun us s3 ⟨vs, H2, I3, rv, q2⟩ => ⟨I3.kIn, run_fn F hr hb .nil hx I3 rv (by rw [List.append_nil]; exact q2)⟩
end
end Fc
namespace Fc
open PySem PySem.Spec PyProof.Rows L2
/-- one of two readings -/
def rOr (r1 r2 : R2) : R2 := fun x y H Q => r1 x y H Q ∨ r2 x y H Q
theorem op_or {X : Cx} {f : Value → Value → Sem Value} {r1 r2 : R2} (h1 : OpR X f r1) (h2 : OpR X f r2) : OpR X f (rOr r1 r2) := fun pins s sl H x y u v Q I rx ry h => by
  rcases h with h | h
  · exact h1 pins s sl H x y u v Q I rx ry h
  · exact h2 pins s sl H x y u v Q I rx ry h
end Fc
set_option Elab.async false
set_option linter.all false
set_option maxRecDepth 100000
set_option maxHeartbeats 4000000
/-! What a fraction and a span are written as. -/
namespace Fc
open PySem PySem.Spec PyProof.Rows L2
/-- a whole number written -/
def itx (i : Int) : Str := Str.ofString (toString i)
theorem itx_len {i : Int} (h : i.natAbs.log2 < 1920) : (itx i).length ≤ 1921 := int_text_len_1921 h
/-- a fraction written -/
def rtx (p : Int × Int) : Str := if p.2 = 1 then itx p.1 else itx p.1 ++ "/" ++ itx p.2
theorem rtx_len {p : Int × Int} (h : p.1.natAbs.log2 < 1920) (g : p.2.natAbs.log2 < 1920) : (rtx p).length ≤ 4000 := by
  have a := itx_len h
  have b := itx_len g
  unfold rtx
  split
  · omega
  · rw [Str.length_append, Str.length_append]
    have : ("/" : Str).length = 1 := rfl
    omega
theorem Bd.lg {n : Nat} {i : Int} (h : Bd n i) (p : 0 < n := by decide) (l : n ≤ 1920 := by decide) : i.natAbs.log2 < 1920 := Nat.lt_of_lt_of_le (PySem.Flt.log2_lt_of p h) l
end Fc
set_option Elab.async false
set_option linter.all false
set_option maxRecDepth 100000
set_option maxHeartbeats 4000000
set_option exponentiation.threshold 100000
/-! str(int), f-strings of ints and int(text) for up to 4300 digits, where the interpreter's statics hold no limit of the program's own. -/
namespace Fc
open PySem PySem.Spec PyProof.Rows L2

theorem noDig {X : Cx} {pins : List (Addr × Obj)} {sl : L2.St} {H : Hp} {s : Shared} (I : Inv X pins sl H s)
    (h : PySem.W.nsIn X.K cStatics "sys.int_max_str_digits" = some none) : s.heap.NoDigits := by
  obtain ⟨mc, a, _⟩ := I.nolimit
  exact ⟨mc, a, PySem.W.ns_none_of I.kIn a h⟩

theorem call_strB {X : Cx} (hd : X.A.handled = none) (nd : PySem.W.nsIn X.K cStatics "sys.int_max_str_digits" = some none) :
    CallR X (.type "str") fun xs H Q => ∃ i : Int, xs = [.int i] ∧ i.natAbs < 10 ^ 4300 ∧ Q (.str (Str.ofString (toString i))) H := by
  intro pins s sl H xs us Q I r h
  obtain ⟨i, rfl, hl, q⟩ := h
  obtain ⟨u, rfl, t, rfl⟩ := vals1 r
  refine str_of_int_or hd (noDig I nd) (fun _ => ⟨.str _, _, I.tok _, ⟨_, rfl⟩, q⟩) (fun h => absurd h (by omega))

def tFmtB : TE → TE := fun te sl H Q => te sl H fun x H1 => ∃ i : Int, x = .int i ∧ i.natAbs < 10 ^ 4300 ∧ Q (.str (Str.ofString (toString i))) H1
theorem pe_fmtB {X : Cx} {e : Expr} {te : TE} {pos : Pos} (hd : X.A.handled = none) (nd : PySem.W.nsIn X.K cStatics "sys.int_max_str_digits" = some none) (he : PE X e te) :
    PE X (e.FormattedValue (-1) none pos) (tFmtB te) := by
  refine ⟨fun pins s sl H Q I h => ?_⟩
  refine wpAny_FormattedValue_plain (thn (he.run pins s sl H _ I h) fun v s1 hv => ?_)
  obtain ⟨x, H1, I1, r1, i, rfl, hl, q⟩ := hv
  obtain ⟨t, rfl⟩ := r1
  exact formatField_int hd (noDig I1 nd) (fun _ => ⟨.str _, _, I1.tok _, ⟨_, rfl⟩, q⟩) (fun h => absurd h (by omega))

theorem wp_maxDigits {M : Model} {A : Around} {E : Value → Shared → Prop} {s : Shared} {Q : Nat → Shared → Prop} (hd : s.heap.NoDigits) (h : Q 4300 s) :
    wpAny M A Builtin.intMaxStrDigits Q E s := by
  obtain ⟨mc, hn, hz⟩ := hd
  unfold Builtin.intMaxStrDigits
  refine wpAny_bind (wpAny_nsGet hn ?_)
  rw [hz]
  exact wpAny_pure h

theorem wp_textB {M : Model} {A : Around} {E : Value → Shared → Prop} {s : Shared} {Q : Value → Shared → Prop} {v : Value} {x : Str} {n : Int}
    (hd : s.heap.NoDigits) (hl : x.length ≤ 4300) (hn : intText? x = some n) (h : Q (.int n s.toks) { s with toks := s.toks + 1 }) :
    wpAny M A ((int_private% "intFromText") v (numTextOf x) 10) Q E s := by
  by_cases c : (numSeenOf x).length ≤ 640
  · rcases read0 x c with ⟨m, h1, h2, h3⟩ | ⟨h1, _⟩
    · rw [hn] at h1
      cases h1
      exact PySem.W.KIN.wp_text c h3 h2 h
    · rw [hn] at h1
      cases h1
  · rcases read4300 x (by have : sizeLine = 16777216 := by decide
                          omega) with ⟨m, h1, h2, h3⟩ | ⟨h1, _⟩
    · rw [hn] at h1
      cases h1
      refine wpAny_ite_false (decide_eq_false c) (wpAny_bind (wp_maxDigits hd ?_))
      show wpAny M A (match (int_private% "readNumeral") 4300 10 (numSeenOf x) with | _ => _) Q E s
      rw [h3]
      exact wpAny_ite_true (decide_eq_true h2) (wpAny_mkInt' h)
    · rw [hn] at h1
      cases h1

theorem wp_newB {M : Model} {A : Around} {E : Value → Shared → Prop} {s : Shared} {Q : Value → Shared → Prop} {x : Str} {u : Tok} {n : Int}
    (hd : s.heap.NoDigits) (hl : x.length ≤ 4300) (hn : intText? x = some n) (h : Q (.int n s.toks) { s with toks := s.toks + 1 }) :
    wpAny M A (Builtin.«int.__new__» { pos := [.type "int", .str x u] }) (fun fin s' => ∃ v, fin = .done (.ret v) ∧ Q v s') E s := by
  obtain ⟨hp, g, d, tk, os⟩ := s
  have f1 := PySem.F.conv_sub_int
  have f2 := PySem.F.madeHere_int
  have f3 := PySem.W.KIN.str_int
  have f4 := PySem.W.KIN.str_idx
  have f5 := PySem.W.KIN.str_trunc
  refine wpAny_bind (wpAny_pure (wpAny_ite_false rfl (wpAny_bind (wpAny_of_eq f1 (wpAny_ite_false rfl (wpAny_bind (wpAny_of_eq f2 (wpAny_ite_false rfl (wpAny_ite_false rfl (wpAny_bind ?_))))))))))
  refine wpAny_pure (wpAny_bind (wpAny_bind (wpAny_bind (wpAny_specialOf_val rfl f3 (wpAny_pure (wpAny_bind (wpAny_specialOf_val rfl f4 (wpAny_ite_false rfl (wpAny_bind (wpAny_specialOf_val rfl f5 (wpAny_bind (wpAny_bind ?_)))))))))))) 
  refine wpAny_pure (wpAny_pure (wp_textB hd hl hn (wpAny_ite_true rfl (wpAny_pure ⟨_, rfl, h⟩))))

theorem call_intB {X : Cx} (nd : PySem.W.nsIn X.K cStatics "sys.int_max_str_digits" = some none) :
    CallR X (.type "int") fun xs H Q => ∃ (a : Str) (n : Int), xs = [.str a] ∧ intText? a = some n ∧ a.length ≤ 4300 ∧ Q (.int n) H := by
  intro pins s sl H xs us Q I r h
  obtain ⟨a, n, rfl, hn, hl, q⟩ := h
  obtain ⟨u, rfl, t, rfl⟩ := vals1 r
  refine call_int_1 (S := fun A R s => s.heap.NoDigits ∧ R (.ok (.ret (.int n s.toks))) { s with toks := s.toks + 1 }) (fun prog w A R s h => ?_) ⟨noDig I nd, rfl, ?_⟩
  · refine thn (wp_newB h.1 hl hn h.2 (Q := fun v s' => R (.ok (.ret v)) s')) fun fin s1 hv => ?_
    obtain ⟨v, rfl, q⟩ := hv
    exact q
  · exact ⟨.int _, _, I.tok _, ⟨_, rfl⟩, q⟩
end Fc
set_option Elab.async false
set_option linter.all false
set_option maxRecDepth 100000
set_option maxHeartbeats 4000000
/-! Written forms of whole numbers and fractions, as lists of codes. -/
namespace Fc
open PySem PySem.Spec PyProof.Rows L2 TL

theorem numL_head {n : Nat} (h : 1 ≤ n) : ∃ c r, numL n = c :: r ∧ 49 ≤ c ∧ c ≤ 57 := by
  induction n using Nat.strongRecOn with
  | _ n ih =>
    by_cases c : n < 10
    · exact ⟨48 + n, [], numL_lt c, by omega, by omega⟩
    · obtain ⟨d, r, e, d1, d2⟩ := ih (n / 10) (by omega) (by omega)
      exact ⟨d, r ++ [48 + n % 10], by rw [numL_step (by omega), e]; rfl, d1, d2⟩
theorem numL_zero : numL 0 = [48] := numL_lt (by omega)
theorem numL_dig {n c : Nat} (h : c ∈ numL n) : 48 ≤ c ∧ c ≤ 57 := numL_digits n c h

theorem digitsVal_snoc (l : List Nat) (c : Nat) : NumText.digitsVal (l ++ [c]) = NumText.digitsVal l * 10 + (c - 48) := by
  unfold NumText.digitsVal
  rw [List.foldl_append]
  rfl
/-- digits that do not begin with 0 are the number's own -/
theorem numL_back : ∀ (n : Nat) (l : List Nat), l.length = n → NumText.AllDigits l → (∃ c r, l = c :: r ∧ 49 ≤ c) → numL (NumText.digitsVal l) = l ∧ 1 ≤ NumText.digitsVal l := by
  intro n
  induction n with
  | zero => intro l hl _ ⟨c, r, e, _⟩; rw [e] at hl; cases hl
  | succ n ih =>
    intro l hl hd ⟨c, r, e, hc⟩
    by_cases z : r = []
    · subst z; subst e
      have := hd c (by simp)
      have v : NumText.digitsVal [c] = c - 48 := by show 0 * 10 + (c - 48) = _; omega
      rw [v, numL_lt (by omega)]
      exact ⟨by congr 1; omega, by omega⟩
    · obtain ⟨m, d, hm⟩ : ∃ m d, l = m ++ [d] := by
        have hne : l ≠ [] := by rw [e]; intro z; cases z
        exact ⟨l.dropLast, l.getLast hne, (List.dropLast_concat_getLast hne).symm⟩
      have hm2 : ∃ r', m = c :: r' := by
        cases m with
        | nil => rw [hm] at e; simp at e; exact absurd e.2 z
        | cons a m' => rw [hm] at e; simp at e; exact ⟨m', by rw [e.1]⟩
      obtain ⟨r', hm3⟩ := hm2
      obtain ⟨h1, h2⟩ := ih m (by rw [hm, List.length_append] at hl; simpa using hl) (fun x hx => hd x (by rw [hm]; simp [hx])) ⟨c, r', hm3, hc⟩
      have dd := hd d (by rw [hm]; simp)
      rw [hm, digitsVal_snoc, numL_step (by omega)]
      refine ⟨?_, by omega⟩
      rw [show (NumText.digitsVal m * 10 + (d - 48)) / 10 = NumText.digitsVal m by omega, h1]
      congr 2; omega
theorem digitsVal_lt : ∀ (n : Nat) (l : List Nat), l.length = n → NumText.AllDigits l → NumText.digitsVal l < 10 ^ n := by
  intro n
  induction n with
  | zero => intro l hl _; rw [List.length_eq_zero_iff.mp hl]; decide
  | succ n ih =>
    intro l hl h
    have hne : l ≠ [] := by intro z; rw [z] at hl; cases hl
    have hm := (List.dropLast_concat_getLast hne).symm
    have := ih l.dropLast (by rw [List.length_dropLast]; omega) fun x hx => h x (List.dropLast_subset _ hx)
    have := h (l.getLast hne) (List.getLast_mem hne)
    rw [hm, digitsVal_snoc, Nat.pow_succ]
    omega

def itL (i : Int) : List Nat := if i < 0 then 45 :: numL i.natAbs else numL i.natAbs
theorem tl_itx (i : Int) : tl (itx i) = itL i := by
  unfold itx itL
  cases i with
  | ofNat n => rw [if_neg (show ¬ Int.ofNat n < 0 from Int.not_lt.mpr (Int.natCast_nonneg n))]; exact tl_num n
  | negSucc n =>
    rw [if_pos (Int.negSucc_lt_zero n)]
    have : (toString (Int.negSucc n) : String) = "-" ++ toString ((n + 1 : Nat) : Int) := rfl
    rw [this, tl_ofString, String.toList_append, List.map_append, ← tl_ofString, ← tl_ofString, tl_num]
    rfl
theorem itL_nat {i : Int} (h : 0 ≤ i) : itL i = numL i.natAbs := if_neg (by omega)
theorem itL_neg {i : Int} (h : i < 0) : itL i = 45 :: numL i.natAbs := if_pos h
theorem itL_ne (i : Int) : itL i ≠ [] := by
  unfold itL
  split
  · intro z; cases z
  · exact numL_ne _
theorem itL_mem {i : Int} {c : Nat} (h : c ∈ itL i) : c = 45 ∨ (48 ≤ c ∧ c ≤ 57) := by
  unfold itL at h
  split at h
  · rcases List.mem_cons.mp h with h | h
    · exact .inl h
    · exact .inr (numL_dig h)
  · exact .inr (numL_dig h)
theorem itL_tail {i : Int} {c : Nat} {r : List Nat} (h : itL i = c :: r) : 45 ∉ r := by
  intro m
  by_cases s : i < 0
  · rw [itL_neg s] at h
    cases h
    have := numL_dig m
    omega
  · rw [itL_nat (by omega)] at h
    have := numL_dig (n := i.natAbs) (c := 45) (by rw [h]; simp [m])
    omega
theorem itL_slash (i : Int) : 47 ∉ itL i := fun h => by rcases itL_mem h with h | h <;> omega
theorem itL_inj {i j : Int} (h : itL i = itL j) : i = j := by
  by_cases a : i < 0 <;> by_cases b : j < 0
  · rw [itL_neg a, itL_neg b] at h
    have := numL_inj (List.cons.inj h).2
    omega
  · rw [itL_neg a, itL_nat (by omega)] at h
    have := numL_dig (n := j.natAbs) (c := 45) (by rw [← h]; simp)
    omega
  · rw [itL_neg b, itL_nat (by omega)] at h
    have := numL_dig (n := i.natAbs) (c := 45) (by rw [h]; simp)
    omega
  · rw [itL_nat (by omega), itL_nat (by omega)] at h
    have := numL_inj h
    omega
theorem itL_lead {i : Int} {r : List Nat} (h : itL i = 48 :: r) : r = [] := by
  by_cases a : i < 0
  · rw [itL_neg a] at h; cases h
  · rw [itL_nat (by omega)] at h
    by_cases z : i.natAbs = 0
    · rw [z, numL_zero] at h; cases h; rfl
    · obtain ⟨c, r', e, h1, _⟩ := numL_head (n := i.natAbs) (by omega)
      rw [e] at h; cases h; omega
theorem itL_minus {i : Int} {r : List Nat} (h : itL i = 45 :: r) : ∃ c r', r = c :: r' ∧ 49 ≤ c := by
  by_cases a : i < 0
  · rw [itL_neg a] at h; cases h
    obtain ⟨c, r', e, h1, _⟩ := numL_head (n := i.natAbs) (by omega)
    exact ⟨c, r', e, h1⟩
  · rw [itL_nat (by omega)] at h
    have := numL_dig (n := i.natAbs) (c := 45) (by rw [h]; simp)
    omega
theorem itL_len {i : Int} {k : Nat} (h : i.natAbs < 10 ^ k) (k0 : 0 < k) : (itL i).length ≤ k + 1 := by
  have := numL_len k0 h
  unfold itL
  split
  · rw [List.length_cons]; omega
  · omega
/-- int(text) of what str wrote -/
theorem int_itx {i : Int} (h : (itL i).length ≤ 4300) : intText? (itx i) = some i := by
  by_cases a : i < 0
  · have e := tl_itx i
    rw [itL_neg a] at e
    have := intText_neg (x := itx i) e (numL_digits _) (numL_ne _) (by rw [len_tl, tl_itx]; exact h)
    rw [this, numL_val]
    congr 1; omega
  · have e := tl_itx i
    rw [itL_nat (by omega)] at e
    have := intText_digits (x := itx i) (by show NumText.AllDigits (tl (itx i)); rw [e]; exact numL_digits _) (by show tl (itx i) ≠ []; rw [e]; exact numL_ne _) (by rw [len_tl, tl_itx]; exact h)
    rw [this]
    show some ((NumText.digitsVal (tl (itx i)) : Nat) : Int) = _
    rw [e, numL_val]
    congr 1; omega

/-- a fraction in lowest terms -/
def Wl (p : Int × Int) : Prop := 0 < p.2 ∧ Int.gcd p.1 p.2 = 1
def rtL (p : Int × Int) : List Nat := if p.2 = 1 then itL p.1 else itL p.1 ++ 47 :: itL p.2
theorem tl_slash : tl ("/" : Str) = [47] := by rfl
theorem tl_rtx (p : Int × Int) : tl (rtx p) = rtL p := by
  unfold rtx rtL
  split
  · exact tl_itx _
  · rw [tl_append, tl_append, tl_itx, tl_itx, tl_slash, List.append_assoc]; rfl
theorem rtL_one {p : Int × Int} (h : p.2 = 1) : rtL p = itL p.1 := if_pos h
theorem rtL_two {p : Int × Int} (h : p.2 ≠ 1) : rtL p = itL p.1 ++ 47 :: itL p.2 := if_neg h
theorem itL_head (i : Int) : ∃ c r, itL i = c :: r ∧ c ≠ 47 := by
  cases e : itL i with
  | nil => exact absurd e (itL_ne i)
  | cons c r => exact ⟨c, r, rfl, fun z => itL_slash i (by rw [e, z]; simp)⟩
theorem rtL_head (p : Int × Int) : ∃ c r, rtL p = c :: r ∧ c ≠ 47 := by
  obtain ⟨c, r, e, h⟩ := itL_head p.1
  by_cases d : p.2 = 1
  · exact ⟨c, r, by rw [rtL_one d, e], h⟩
  · exact ⟨c, r ++ 47 :: itL p.2, by rw [rtL_two d, e]; rfl, h⟩
/-- L1 -/
theorem rtL_mem {p : Int × Int} {c : Nat} (h : c ∈ rtL p) : c = 45 ∨ (47 ≤ c ∧ c ≤ 57) := by
  by_cases d : p.2 = 1
  · rw [rtL_one d] at h
    rcases itL_mem h with h | h
    · exact .inl h
    · exact .inr (by omega)
  · rw [rtL_two d] at h
    rcases List.mem_append.mp h with h | h
    · rcases itL_mem h with h | h
      · exact .inl h
      · exact .inr (by omega)
    · rcases List.mem_cons.mp h with h | h
      · exact .inr (by omega)
      · rcases itL_mem h with h | h
        · exact .inl h
        · exact .inr (by omega)
/-- L2 -/
theorem rtL_tail {p : Int × Int} (hp : Wl p) {c : Nat} {r : List Nat} (h : rtL p = c :: r) : 45 ∉ r := by
  obtain ⟨d, s, e, _⟩ := itL_head p.1
  by_cases o : p.2 = 1
  · rw [rtL_one o] at h
    exact itL_tail h
  · rw [rtL_two o, e] at h
    cases h
    intro m
    rcases List.mem_append.mp m with m | m
    · exact itL_tail e m
    · rcases List.mem_cons.mp m with m | m
      · cases m
      · rw [itL_nat (by have := hp.1; omega)] at m
        have := numL_dig m
        omega
theorem itL_count (i : Int) : (itL i).count 47 = 0 := List.count_eq_zero.mpr (itL_slash i)
/-- L3 -/
theorem rtL_count (p : Int × Int) : (rtL p).count 47 ≤ 1 := by
  by_cases o : p.2 = 1
  · rw [rtL_one o, itL_count]; omega
  · rw [rtL_two o, List.count_append, List.count_cons, itL_count, itL_count]
    simp
/-- L5 -/
theorem rtL_lead {p : Int × Int} {r : List Nat} (h : rtL p = 48 :: r) : r = [] ∨ ∃ s, r = 47 :: s := by
  by_cases o : p.2 = 1
  · rw [rtL_one o] at h
    exact .inl (itL_lead h)
  · rw [rtL_two o] at h
    obtain ⟨d, s, e, _⟩ := itL_head p.1
    rw [e] at h
    cases h
    rw [itL_lead e]
    exact .inr ⟨_, rfl⟩
theorem rtL_minus {p : Int × Int} {r : List Nat} (h : rtL p = 45 :: r) : ∃ c s, r = c :: s ∧ 49 ≤ c := by
  by_cases o : p.2 = 1
  · rw [rtL_one o] at h
    exact itL_minus h
  · rw [rtL_two o] at h
    obtain ⟨d, s, e, _⟩ := itL_head p.1
    rw [e] at h
    cases h
    obtain ⟨c, t, e2, h2⟩ := itL_minus e
    exact ⟨c, t ++ 47 :: itL p.2, by rw [e2]; rfl, h2⟩
/-- L6 -/
theorem split_one {a b c d : List Nat} (ha : 47 ∉ a) (hc : 47 ∉ c) (h : a ++ 47 :: b = c ++ 47 :: d) : a = c ∧ b = d := by
  induction a generalizing c with
  | nil =>
    cases c with
    | nil => exact ⟨rfl, (List.cons.inj h).2⟩
    | cons x c => exact absurd (by rw [← (List.cons.inj h).1]; simp) hc
  | cons y a ih =>
    cases c with
    | nil => exact absurd (by rw [(List.cons.inj h).1]; simp) ha
    | cons x c =>
      obtain ⟨h1, h2⟩ := List.cons.inj h
      obtain ⟨h3, h4⟩ := ih (fun z => ha (by simp [z])) (fun z => hc (by simp [z])) h2
      exact ⟨by rw [h1, h3], h4⟩
theorem rtL_split {p : Int × Int} {a b : List Nat} (ha : 47 ∉ a) (h : rtL p = a ++ 47 :: b) : a = itL p.1 ∧ b = itL p.2 ∧ p.2 ≠ 1 := by
  by_cases o : p.2 = 1
  · rw [rtL_one o] at h
    exact absurd (by rw [h]; simp) (itL_slash p.1)
  · rw [rtL_two o] at h
    obtain ⟨h1, h2⟩ := split_one (itL_slash _) ha h
    exact ⟨h1.symm, h2.symm, o⟩
theorem rtL_inj {p q : Int × Int} (h : rtL p = rtL q) : p = q := by
  by_cases o : p.2 = 1
  · by_cases o2 : q.2 = 1
    · rw [rtL_one o, rtL_one o2] at h
      exact Prod.ext (itL_inj h) (by rw [o, o2])
    · rw [rtL_one o, rtL_two o2] at h
      exact absurd (by rw [h]; simp) (itL_slash p.1)
  · rw [rtL_two o] at h
    obtain ⟨h1, h2, _⟩ := rtL_split (itL_slash _) h.symm
    exact Prod.ext (itL_inj h1) (itL_inj h2)

/-- no written form -/
def NotW (l : List Nat) : Prop := ∀ p, Wl p → rtL p ≠ l
theorem nw_nil : NotW [] := fun p _ h => by obtain ⟨c, r, e, _⟩ := rtL_head p; rw [e] at h; cases h
theorem nw_mem {l : List Nat} {c : Nat} (h : c ∈ l) (n : ¬ (c = 45 ∨ (47 ≤ c ∧ c ≤ 57))) : NotW l := fun p _ e => n (rtL_mem (p := p) (by rw [e]; exact h))
theorem nw_tail {c : Nat} {r : List Nat} (h : 45 ∈ r) : NotW (c :: r) := fun p hp e => rtL_tail hp e h
theorem nw_tail2 {a b : List Nat} (ha : a ≠ []) (h : 45 ∈ b) : NotW (a ++ b) := by
  cases a with
  | nil => exact absurd rfl ha
  | cons x a => exact nw_tail (List.mem_append.mpr (.inr h))
theorem nw_count {l : List Nat} (h : 2 ≤ l.count 47) : NotW l := fun p _ e => by have := rtL_count p; rw [e] at this; omega
theorem nw_slash (r : List Nat) : NotW (47 :: r) := fun p _ e => by obtain ⟨c, s, e2, h⟩ := rtL_head p; rw [e] at e2; cases e2; exact h rfl
theorem nw_minus1 : NotW [45] := fun p _ e => by obtain ⟨c, s, e2, _⟩ := rtL_minus e; cases e2
theorem nw_minus2 {c : Nat} (h : c < 49) (r : List Nat) : NotW (45 :: c :: r) := fun p _ e => by obtain ⟨d, s, e2, _⟩ := rtL_minus e; cases e2; omega
theorem nw_lead {c : Nat} (h : c ≠ 47) (r : List Nat) : NotW (48 :: c :: r) := fun p _ e => by
  rcases rtL_lead e with z | ⟨s, z⟩
  · cases z
  · cases z; exact h rfl
theorem nw_zero (p : Int × Int) : NotW (48 :: rtL p) := by
  obtain ⟨c, r, e, h⟩ := rtL_head p
  rw [e]
  exact nw_lead h r
theorem nw_below {i : Int} {b : List Nat} (h : ∀ n : Int, 0 < n → n ≠ 1 → itL n ≠ b) : NotW (itL i ++ 47 :: b) := fun p hp e => by
  obtain ⟨_, h2, h3⟩ := rtL_split (itL_slash _) e
  exact h p.2 hp.1 h3 h2.symm
theorem pos_head {n : Int} (h : 0 < n) : ∃ c r, itL n = c :: r ∧ 49 ≤ c := by
  rw [itL_nat (by omega)]
  obtain ⟨c, r, e, h, _⟩ := numL_head (n := n.natAbs) (by omega)
  exact ⟨c, r, e, h⟩
theorem nw_below0 (i : Int) : NotW (itL i ++ [47]) := nw_below fun n _ _ h => itL_ne n h
theorem nw_below1 (i : Int) : NotW (itL i ++ [47, 49]) := nw_below fun n h0 h1 h => h1 (itL_inj (j := 1) h)
theorem nw_belowz (i : Int) (r : List Nat) : NotW (itL i ++ 47 :: 48 :: r) := nw_below fun n h0 h1 h => by
  obtain ⟨c, s, e, h2⟩ := pos_head h0
  rw [e] at h
  cases h
  omega
theorem nw_times {p : Int × Int} {t : Int} (ht : 2 ≤ t) : NotW (itL (p.1 * t) ++ 47 :: itL (p.2 * t)) := fun q hq e => by
  obtain ⟨h1, h2, _⟩ := rtL_split (itL_slash _) e
  have e1 := itL_inj h1
  have e2 := itL_inj h2
  have g := hq.2
  rw [← e1, ← e2, Int.gcd_mul_right] at g
  have := Nat.eq_one_of_mul_eq_one_left g
  omega
/-- the digits of a text that repeats one -/
theorem rep_own {c : Nat} (h : 49 ≤ c) (g : c ≤ 57) (k : Nat) : numL (NumText.digitsVal (List.replicate (k + 1) c)) = List.replicate (k + 1) c ∧ 1 ≤ NumText.digitsVal (List.replicate (k + 1) c) :=
  numL_back (k + 1) _ (by simp) (fun x hx => by have := List.eq_of_mem_replicate hx; omega) ⟨c, _, rfl, h⟩
end Fc
set_option Elab.async false
set_option linter.all false
set_option maxRecDepth 100000
set_option maxHeartbeats 4000000
set_option exponentiation.threshold 100000
/-! Instances with many fields; what is no list stays; list.count of truth values; Euclid within the bits of its divisor. -/
namespace Fc
open PySem PySem.Spec PyProof.Rows L2
/-! ### fields by names -/
theorem zip_get {ns : List Str} {vs : List V} {i : Nat} {n : Str} {v : V} (nd : ns.Nodup) (hn : ns[i]? = some n) (hv : vs[i]? = some v) : (ns.zip vs).lookup n = some v := by
  induction ns generalizing vs i with
  | nil => cases hn
  | cons m ns ih =>
    obtain ⟨nm, nd'⟩ := List.nodup_cons.mp nd
    cases vs with
    | nil => cases hv
    | cons w vs =>
      cases i with
      | zero =>
        cases hn
        cases hv
        simp [List.lookup]
      | succ i =>
        have hn' : ns[i]? = some n := by simpa using hn
        have hv' : vs[i]? = some v := by simpa using hv
        have ne : (n == m) = false := by
          rw [beq_eq_false_iff_ne]
          intro e
          subst e
          exact nm (List.mem_of_getElem? hn')
        show (match n == m with | true => some w | false => List.lookup n (ns.zip vs)) = some v
        rw [ne]
        exact ih nd' hn' hv'
theorem zip_no {ns : List Str} {vs : List V} {n : Str} (h : n ∉ ns) : (ns.zip vs).lookup n = none := by
  induction ns generalizing vs with
  | nil => rfl
  | cons m ns ih =>
    cases vs with
    | nil => rfl
    | cons w vs =>
      have ne : (n == m) = false := by
        rw [beq_eq_false_iff_ne]
        intro e
        exact h (by rw [e]; exact List.mem_cons_self)
      show (match n == m with | true => some w | false => List.lookup n (ns.zip vs)) = none
      rw [ne]
      exact ih (fun z => h (List.mem_cons_of_mem _ z))
theorem put_new {ns : List Str} {vs : List V} {n : Str} {v : V} (h : n ∉ ns) (l : ns.length = vs.length) : putF n v (ns.zip vs) = (ns ++ [n]).zip (vs ++ [v]) := by
  induction ns generalizing vs with
  | nil =>
    cases vs with
    | nil => rfl
    | cons w vs => cases l
  | cons m ns ih =>
    cases vs with
    | nil => cases l
    | cons w vs =>
      have ne : ¬ (m = n) := fun e => h (by rw [e]; exact List.mem_cons_self)
      show (if m = n then _ else (m, w) :: putF n v (ns.zip vs)) = _
      rw [if_neg ne, ih (fun z => h (List.mem_cons_of_mem _ z)) (by simpa using l)]
      rfl
theorem put_old {ns : List Str} {vs : List V} {i : Nat} {n : Str} {v w : V} (nd : ns.Nodup) (hn : ns[i]? = some n) (hv : vs[i]? = some w) : putF n v (ns.zip vs) = ns.zip (vs.set i v) := by
  induction ns generalizing vs i with
  | nil => cases hn
  | cons m ns ih =>
    obtain ⟨nm, nd'⟩ := List.nodup_cons.mp nd
    cases vs with
    | nil => cases hv
    | cons u vs =>
      cases i with
      | zero =>
        cases hn
        show (if n = n then (n, v) :: ns.zip vs else _) = _
        rw [if_pos rfl]
        rfl
      | succ i =>
        have hn' : ns[i]? = some n := by simpa using hn
        have hv' : vs[i]? = some w := by simpa using hv
        have ne : ¬ (m = n) := by
          intro e
          subst e
          exact nm (List.mem_of_getElem? hn')
        show (if m = n then _ else (m, u) :: putF n v (ns.zip vs)) = _
        rw [if_neg ne, ih nd' hn' hv']
        rfl
/-! ### what is no list stays -/
def NL (H H' : Hp) : Prop := ∀ b o, H b = some o → (∀ xs, o ≠ .lst xs) → H' b = some o
theorem NL.refl {H : Hp} : NL H H := fun _ _ h _ => h
theorem NL.of {H H' : Hp} (h : Ex H H') : NL H H' := fun b o e _ => h b o e
theorem NL.trans {H H1 H2 : Hp} (a : NL H H1) (b : NL H1 H2) : NL H H2 := fun c o h n => b c o (a c o h n) n
theorem NL.keep {p : Addr} {H H' : Hp} {xs : List V} (hp : H p = some (.lst xs)) (k : Keep p H H') : NL H H' := fun c o h n => k c o h fun e => by
  subst e
  rw [hp] at h
  cases h
  exact n _ rfl
theorem NL.tup {H H' : Hp} {a : Addr} {xs : List V} (k : NL H H') (h : H a = some (.tup xs)) : H' a = some (.tup xs) := k _ _ h fun _ z => by cases z
theorem NL.ins {H H' : Hp} {a C dx : Addr} {fs : List (Str × V)} (k : NL H H') (h : H a = some (.ins C dx fs)) : H' a = some (.ins C dx fs) := k _ _ h fun _ z => by cases z
theorem RatAt.nl {C : Addr} {H H' : Hp} {a : Addr} {p : Int × Int} (r : RatAt C H a p) (k : NL H H') : RatAt C H' a p := let ⟨dx, h⟩ := r; ⟨dx, k.ins h⟩
theorem RatV.nl {C : Addr} {H H' : Hp} {n : Nat} {a : Addr} {r : Rat} (h : RatV C H n a r) (k : NL H H') : RatV C H' n a r := let ⟨p, x, y⟩ := h; ⟨p, x.nl k, y⟩
theorem Pr.nl {H H' : Hp} {a : Addr} {p : Int × Int} (r : Pr H a p) (k : NL H H') : Pr H' a p := k.tup r
theorem PrV.nl {H H' : Hp} {n : Nat} {a : Addr} {r : Rat} (h : PrV H n a r) (k : NL H H') : PrV H' n a r := let ⟨p, x, y⟩ := h; ⟨p, x.nl k, y⟩
/-! ### a pot whose two lists are known -/
def PotL (H : Hp) (p l : Addr) : Prop := ∃ (cs : List Int) (i c : Int), p ≠ l ∧ H p = some (.lst [.ref l, .int i, .int c]) ∧ H l = some (.lst (cs.map V.int)) ∧ cs.length ≤ 63 ∧ 0 ≤ i ∧ 0 ≤ c ∧ ∀ z ∈ cs, 0 ≤ z
theorem PotL.ex {H H' : Hp} {p l : Addr} (h : PotL H p l) (e : Ex H H') : PotL H' p l := by
  obtain ⟨cs, i, c, ne, h1, h2, r⟩ := h
  exact ⟨cs, i, c, ne, e _ _ h1, e _ _ h2, r⟩
theorem PotL.keep {H H' : Hp} {p l D : Addr} (h : PotL H p l) (k : Keep D H H') (n1 : D ≠ p) (n2 : D ≠ l) : PotL H' p l := by
  obtain ⟨cs, i, c, ne, h1, h2, r⟩ := h
  exact ⟨cs, i, c, ne, k _ _ h1 n1.symm, k _ _ h2 n2.symm, r⟩
theorem PotL.nl {H H' : Hp} {p l : Addr} (h : PotL H p l) (k : Keep p H H') : NL H H' := by
  obtain ⟨cs, i, c, ne, h1, h2, r⟩ := h
  exact .keep h1 k
/-! ### list.count of truth values -/
def isB (b : Bool) (v : Value) : Bool := match v with
  | .bool c => c == b
  | _ => false
theorem bools_of {bs : List Bool} : ∀ {us : List Value}, Vals (bs.map V.bl) us → us = bs.map Value.bool := by
  induction bs with
  | nil => intro us h; cases h; rfl
  | cons b bs ih =>
    intro us h
    cases h with
    | cons h t =>
      cases h
      rw [ih t]
      rfl
def rCntB (K : PySem.W.Frag) : V → List V → Hp → VK → Prop := fun x xs H Q => ∃ (p : Addr) (bs : List Bool) (k : Bool), x = .ref p ∧ xs = [.bl k] ∧ SqL K H p (bs.map V.bl) ∧ Q (.int (bs.count k : Nat)) H
theorem mt_bcount {X : Cx} : MtR X "list.count" (rCntB X.K) := by
  intro pins s sl H x xs v us Q I rx rxs h
  obtain ⟨p, bs, k, rfl, rfl, hs, q⟩ := h
  cases rx
  obtain ⟨u, rfl, ru⟩ := rxs.one
  cases ru
  obtain ⟨its, rv, ⟨⟨cls, dd, data, slt⟩, n, ho, hc, hdn, hd⟩, hlen⟩ := I.list hs
  simp only at hc hd
  subst hc hd
  have hi := bools_of rv
  refine call_meets PySem.F.slot_list_count ⟨_, ho, rfl⟩ PySem.F.entry_list_count (PySem.F.args_list_count_2 _ _) (SeqAt.list_countAt p its.toArray n dd slt (.bool k) (isB k)) ⟨ho, fun y hy => ?_, ?_⟩
  · have hm : y ∈ its := by simpa using hy
    rw [hi] at hm
    obtain ⟨b, _, rfl⟩ := List.mem_map.mp hm
    exact SeqAt.EqAt.bool_bool b k
  · have ec : its.toArray.toList.countP (isB k) = bs.count k := by
      rw [List.toList_toArray, hi, List.countP_map]
      rfl
    refine ⟨.int (bs.count k : Nat), H, I.tok _, ⟨s.toks, ?_⟩, q⟩
    show Value.int ((its.toArray.toList.countP (isB k) : Nat) : Int) s.toks = Value.int ((bs.count k : Nat) : Int) s.toks
    rw [ec]
/-! ### Euclid within twice the bits of the lesser number -/
structure EuN (N g i a b : Nat) : Prop where
  gcd : Nat.gcd a b = g
  even : i % 2 = 0 → b < 2 ^ (N - i / 2)
  odd : i % 2 = 1 → b < a ∧ a < 2 ^ (N - i / 2)
theorem EuN.turn {N g i a b : Nat} (h : EuN N g i a b) (hb : b ≠ 0) : EuN N g (i + 1) b (a % b) := by
  have lt : a % b < b := Nat.mod_lt _ (by omega)
  refine ⟨?_, fun e => ?_, fun o => ?_⟩
  · have := h.gcd
    rw [Nat.gcd_comm, ← Nat.gcd_rec, Nat.gcd_comm]
    exact this
  · obtain ⟨h1, h2⟩ := h.odd (by omega)
    have pos : N - i / 2 ≠ 0 := fun z => by rw [z] at h2; omega
    have ex : N - i / 2 = (N - (i + 1) / 2) + 1 := by omega
    rw [ex, Nat.pow_succ] at h2
    have hd := Nat.div_add_mod a b
    have q1 : 1 ≤ a / b := (Nat.one_le_div_iff (by omega)).mpr (by omega)
    have q2 : b * 1 ≤ b * (a / b) := Nat.mul_le_mul_left b q1
    omega
  · have := h.even (by omega)
    refine ⟨lt, ?_⟩
    have ex : (i + 1) / 2 = i / 2 := by omega
    rw [ex]
    exact this
theorem EuN.done {N g a b : Nat} (h : EuN N g (2 * N + 2) a b) : b = 0 := by
  have := h.even (by omega)
  have e : N - (2 * N + 2) / 2 = 0 := by omega
  rw [e] at this
  simpa using this
theorem EuN.zero {N g i a : Nat} (h : EuN N g i a 0) : a = g := by
  have := h.gcd
  simpa using this
theorem EuN.start {N a b : Nat} (h : b < 2 ^ N) : EuN N (Nat.gcd a b) 0 a b := ⟨rfl, fun _ => by simpa using h, fun e => by omega⟩
theorem bits_lt (x : Int) : x.natAbs < 2 ^ (Builtin.Int.intBits x) := intBits_le_iff.mp (Nat.le_refl _)
end Fc
set_option Elab.async false
set_option linter.all false
set_option maxRecDepth 100000
set_option maxHeartbeats 4000000
set_option exponentiation.threshold 100000
/-! A text times a number, a classmethod's call and the call of a local name that holds a class. -/
namespace Fc
open PySem PySem.Spec PyProof.Rows L2 TL

theorem fnR_of {P : Program} {w : World} {K : PySem.W.Frag} {mg : Str → Option Value} {base : Heap} {CX : CXT} {k : Nat} {f : Addr} {fd : FuncData} {ps : List Str} {sp : Sp}
    (F : FnOk P w K mg base CX k f fd ps sp) (hb : Binds K fd ps []) : FnR P w K mg base CX k f sp := by
  intro A outer s H us vs Q E hr h0 r q
  have hl : us.length = ps.length := r.length.symm.trans (F.len _ _ _ _ q)
  have kin : K.In s.heap := fun a o e => (h0.bs a o (h0.mod.kin a o e)).1
  have bd := hb s us kin (by rw [List.append_nil]; exact hl)
  rw [List.append_nil] at bd
  exact F.run A outer s H ⟨us, []⟩ us vs Q E hr h0 bd r q

section
variable {X : Cx} {CX : CXT} {k : Nat} {C f : Addr} {fd : FuncData} {ps : List Str} {sp : Sp} {E : XK}
/-- x(..), where the local name x holds a class -/
theorem pe_makeL {x : Str} {i : Nat} {p pos : Pos} {e : Expr} {es : List Expr} {t : TA} (hN : X.N[i]? = some x) (hv : Vis X.env.scope x) (M : Mk X.K C f) (F : FnOk X.prog X.w X.K X.mg X.base CX k f fd ps sp) (hr : Room (k + 1) X.A)
    (hb : Binds X.K fd ps []) (hx : Passes CX X E) (ha : PA X (e :: es) t)
    (hdb : (x == ("__debug__" : Str)) = false := by decide) (hcd : (x == ("__classdict__" : Str)) = false := by decide) (he : starEach (e :: es) X.env = (false, eval e X.env) :: starEach es X.env := by rfl)
    (hpl : (backTo pos (starEach es X.env)).any (·.1) = false := by rfl) : PE X (.Call (.Name x p) (e :: es) [] pos) (fun sl H Q => sl[i]? = some (some (.ref C)) ∧ tMakeS C sp (fun _ => E) t sl H Q) := by
  refine ⟨fun pins s sl H Q I ⟨hs, h⟩ => wpAny_Call_Name_kw (thn ((pe_var hN hv hdb hcd).run pins s sl H (fun v H1 => v = V.ref C ∧ H1 = H) I ⟨.ref C, hs, rfl, rfl⟩) fun u s1 ⟨v, H1, I1, r1, q1, q2⟩ => ?_)⟩
  subst q1; subst q2
  cases r1
  exact PySem.W.callWith_K (h₀ := X.base) I.ok.mod.kin M.kp (thn (ha.run pos pins s1 sl _ _ I1 h) fun us s2 ⟨vs, H2, I2, r, q⟩ => ⟨I2.kIn, run_makeS M F hr hb (E := fun _ => E) (fun pins => hx pins sl) I2 r q⟩) he hpl
end

section
variable {X : Cx} {CX : CXT} {k : Nat} {C p g : Addr} {mc : Value} {sp : Sp} {E : L2.St → XK}
theorem run_fnRS {pins : List (Addr × Obj)} {sl : L2.St} {H : Hp} {s : Shared} {Q : VK} {us : List Value} {vs : List V} {Ee : XK}
    (F : FnR X.prog X.w X.K X.mg X.base CX k g sp) (hr : Room k X.A) (hx : PassesAt CX X sl Ee) (I : Inv X pins sl H s) (r : Vals vs us) (q : sp vs H Q Ee) :
    codeAny (model X.prog X.w) X.A (.call (.ref g) ⟨us, []⟩) (fun r s' => match r with | .ok (.ret v) => EP X pins sl Q v s' | .ok _ => False | .error e => X.xe e s') s := by
  refine codeAny_mono (F X.A X.stack s H us vs Q Ee hr I.env0 r q) fun r s' hq => ?_
  cases r with
  | error e => exact hx pins _ _ e s' I hq
  | ok fl =>
    cases fl with
    | ret u => exact I.after hq
    | next => exact False.elim hq
    | brk => exact False.elim hq
    | cont => exact False.elim hq
/-- C.m(..), m a classmethod, where what is raised is wished for at the slots -/
def tCMethS (C : Addr) (sp : Sp) (E : L2.St → XK) (ta : TE) (t : TA) : TE := fun sl H Q => ta sl H fun x H1 => x = .ref C ∧ t sl H1 fun vs H2 => sp (.ref C :: vs) H2 Q (E sl)
theorem pe_cmethS {m : Str} {o e : Expr} {es : List Expr} {ta : TE} {t : TA} {apos pos : Pos} {pl : Sem Bool} (he : PE X o ta) (r : ClX.CRead X.K C mc) (c : ClX.CMet X.K C mc m p g)
    (F : FnR X.prog X.w X.K X.mg X.base CX k g sp) (hr : Room k X.A) (hx : ∀ sl, PassesAt CX X sl (E sl)) (ha : PA X (e :: es) t)
    (hst : starEach (e :: es) X.env = (false, eval e X.env) :: starEach es X.env := by rfl) (hpl : (backTo pos (starEach es X.env)).any (·.1) = false := by rfl)
    (ht : eval (.Call (.Attribute o m apos) (e :: es) [] pos) X.env = (do
      let v ← eval o X.env
      standAt apos.atName
      let (g, first) ← holding [v] (getMethod v m pl)
      callWith pos g first (backTo pos (starEach (e :: es) X.env)) (backToKw pos (keywordEach [] X.env))) := by rfl) :
    PE X (.Call (.Attribute o m apos) (e :: es) [] pos) (tCMethS C sp E ta t) := by
  refine ⟨fun pins s sl H Q I h => PySem.W.methodCall_KW (pl := pl) (thn (he.run pins s sl H _ I h) fun u s1 hh => ?_) ht⟩
  obtain ⟨x, H1, I1, rx, ex, q⟩ := hh
  subst ex
  cases rx
  refine ClX.getmethcm_ok I1 r c fun s2 I2 => ClX.callwith_cm I2 (ClX.base_none I1 (Nat.le_refl s1.heap.objs.size)) c.fi ?_ hst hpl
  refine thn (ha.run pos _ s2 sl H1 _ I2 q) fun us s3 hh => ?_
  obtain ⟨vs, H2, I3, rv, q2⟩ := hh
  refine ⟨⟨ClX.pin_at I3, I3.kIn⟩, ?_⟩
  exact thn (wpAny_call (PySem.W.method_call (ClX.pin_at I3) (run_fnRS (vs := .ref C :: vs) F hr (hx sl) I3 (.cons rfl rv) q2))) fun x s' y => ClX.unpinE y
end

theorem op_mulS {X : Cx} : OpR X (binaryOp Operator.Mult) fun x y H Q => ∃ (z : Str) (n : Int), x = .str z ∧ y = .int n ∧ z.length ≤ 1000 ∧ 0 ≤ n ∧ n ≤ 10000 ∧ Q (.str (Txt.mul z n)) H := by
  intro pins s sl H x y v u Q I rx ry h
  obtain ⟨z, n, rfl, rfl, hl, n0, n1, q⟩ := h
  obtain ⟨t, rfl⟩ := rx
  obtain ⟨t', rfl⟩ := ry
  exact PySem.SB.mul (mulOk_of 1000 10000 hl (by omega) (by omega) (by omega) (by omega)) fun t' tk => ⟨.str _, H, I.tok _, ⟨_, rfl⟩, q⟩
theorem foldl_app (c : Array Nat) (k : Nat) (acc : Array Nat) : (List.foldl (fun x y => x ++ y) acc (List.replicate k c)).toList = acc.toList ++ (List.replicate k c.toList).flatten := by
  induction k generalizing acc with
  | zero => simp
  | succ k ih => rw [List.replicate_succ, List.foldl_cons, ih, List.replicate_succ, List.flatten_cons, Array.toList_append, List.append_assoc]
theorem tl_mul {z : Str} {n : Nat} (h : 1 ≤ n) : tl (Txt.mul z n) = (List.replicate n (tl z)).flatten := by
  unfold Txt.mul
  rw [if_neg (by omega)]
  split
  · rename_i c
    simp only [Bool.or_eq_true, beq_iff_eq] at c
    rcases c with c | c
    · have : n = 1 := by omega
      subst this
      simp
    · have : tl z = [] := (len0_tl z).mp c
      rw [this]
      clear c h
      induction n with
      | zero => rfl
      | succ n ih => rw [List.replicate_succ, List.flatten_cons, List.nil_append]; exact ih
  · refine (foldl_app z.cps (n : Int).toNat #[]).trans ?_
    simp
theorem tl_mul1 {z : Str} {c n : Nat} (h : 1 ≤ n) (e : tl z = [c]) : tl (Txt.mul z n) = List.replicate n c := by
  rw [tl_mul h, e]
  clear h
  induction n with
  | zero => rfl
  | succ n ih => rw [List.replicate_succ, List.flatten_cons, ih]; rfl

theorem tl_cut (z : Str) (lo hi : Option Int) : tl (cutS z lo hi) = (List.take (HT.sIx z.length z.length hi - HT.sIx z.length 0 lo) (List.drop (HT.sIx z.length 0 lo) (tl z))) := rfl
theorem tl_to {z : Str} {n : Nat} (h : n ≤ z.length) : tl (cutS z none (some n)) = (tl z).take n := by
  rw [tl_cut]
  have : HT.sIx z.length z.length (some (n : Int)) = n := by
    show (if (n : Int) < 0 then ((n : Int) + (z.length : Int)).toNat else min (n : Int).toNat z.length) = n
    rw [if_neg (by omega)]; omega
  rw [this]
  rfl
theorem tl_from {z : Str} {n : Nat} (h : n ≤ z.length) : tl (cutS z (some n) none) = (tl z).drop n := by
  rw [tl_cut]
  have : HT.sIx z.length 0 (some (n : Int)) = n := by
    show (if (n : Int) < 0 then ((n : Int) + (z.length : Int)).toNat else min (n : Int).toNat z.length) = n
    rw [if_neg (by omega)]; omega
  rw [this]
  show List.take (z.length - n) _ = _
  rw [List.take_of_length_le]
  rw [List.length_drop, ← len_tl]
  omega


theorem isDig128 : ∀ c : Nat, c < 128 → Unicode.isDigit c = (decide (48 ≤ c) && decide (c ≤ 57)) := by decide +kernel
theorem digits_iff (z : Str) : (Txt.isascii z && Txt.isdigit z) = true ↔ (NumText.AllDigits (tl z) ∧ tl z ≠ []) := by
  obtain ⟨⟨l⟩⟩ := z
  show ((Array.all ⟨l⟩ fun x => decide (x < 128)) && (decide ((⟨l⟩ : Array Nat).size > 0) && Array.all ⟨l⟩ Unicode.isDigit)) = true ↔ (NumText.AllDigits l ∧ l ≠ [])
  rw [List.all_toArray, List.all_toArray]
  simp only [Bool.and_eq_true, List.all_eq_true, decide_eq_true_eq, List.size_toArray]
  constructor
  · rintro ⟨h1, h2, h3⟩
    refine ⟨fun c hc => ?_, fun z => by rw [z] at h2; exact absurd h2 (by decide)⟩
    have := h3 c hc
    rw [isDig128 c (h1 c hc)] at this
    simpa using this
  · rintro ⟨h1, h2⟩
    refine ⟨fun c hc => by have := h1 c hc; omega, ?_, fun c hc => ?_⟩
    · cases l with
      | nil => exact absurd rfl h2
      | cons a b => simp
    · have := h1 c hc
      rw [isDig128 c (by omega)]
      simpa using this
theorem rmp (z : Str) : Txt.removeprefix z "-" = if (tl z).head? = some 45 then SX.S (tl z).tail else z := by
  rw [PySem.StrLaws.removeprefix_eq]
  obtain ⟨⟨l⟩⟩ := z
  show (if (decide (0 + 1 ≤ (⟨l⟩ : Array Nat).size) && ((⟨l⟩ : Array Nat).extract 0 (0 + 1) == #[45])) = true then _ else _) = _
  cases l with
  | nil => rfl
  | cons c r =>
    show (if (decide (0 + 1 ≤ (c :: r).length) && _) = true then _ else _) = (if some c = some 45 then _ else _)
    by_cases h : c = 45
    · subst h
      rw [if_pos (by simp), if_pos rfl]
      show Str.mk (List.take ((45 :: r).length - 1) r).toArray = _
      rw [List.take_of_length_le (by simp)]
      rfl
    · rw [if_neg (by simp [h]), if_neg (by simp [h])]
theorem rmp_neg {z : Str} {r : List Nat} (h : tl z = 45 :: r) : tl (Txt.removeprefix z "-") = r := by rw [rmp, h]; rfl
theorem rmp_other {z : Str} (h : ∀ r, tl z ≠ 45 :: r) : Txt.removeprefix z "-" = z := by
  rw [rmp, if_neg]
  intro e
  cases c : tl z with
  | nil => rw [c] at e; cases e
  | cons a r => rw [c] at e; simp at e; exact h r (by rw [c, e])
/-- the digits behind the minus of a written number -/
theorem rmp_itx (i : Int) : tl (Txt.removeprefix (itx i) "-") = numL i.natAbs := by
  by_cases a : i < 0
  · exact rmp_neg (by rw [tl_itx, itL_neg a])
  · rw [rmp_other fun r e => ?_, tl_itx, itL_nat (by omega)]
    rw [tl_itx, itL_nat (by omega)] at e
    have := numL_dig (n := i.natAbs) (c := 45) (by rw [e]; simp)
    omega
/-- a text of digits, with or without a minus, is read by int -/
theorem int_any {z : Str} (h : NumText.AllDigits (tl (Txt.removeprefix z "-")) ∧ tl (Txt.removeprefix z "-") ≠ []) (hl : z.length ≤ 2000) : ∃ m : Int, intText? z = some m ∧ m.natAbs < 10 ^ 2000 := by
  have lt : ∀ l : List Nat, NumText.AllDigits l → l.length ≤ 2000 → NumText.digitsVal l < 10 ^ 2000 := fun l a b => Nat.lt_of_lt_of_le (digitsVal_lt _ l rfl a) (Nat.pow_le_pow_right (by decide) b)
  by_cases c : ∃ r, tl z = 45 :: r
  · obtain ⟨r, e⟩ := c
    rw [rmp_neg e] at h
    refine ⟨_, intText_neg (x := z) e h.1 h.2 (by omega), ?_⟩
    rw [Int.natAbs_neg, Int.natAbs_natCast]
    refine lt r h.1 ?_
    rw [len_tl, e, List.length_cons] at hl
    omega
  · rw [rmp_other fun r e => c ⟨r, e⟩] at h
    refine ⟨_, intText_digits (x := z) h.1 h.2 (by omega), ?_⟩
    rw [Int.natAbs_natCast]
    refine lt _ h.1 ?_
    rw [len_tl] at hl
    exact hl
theorem int_pos {z : Str} (h : NumText.AllDigits (tl z) ∧ tl z ≠ []) (hl : z.length ≤ 2000) : ∃ m : Int, intText? z = some m ∧ m.natAbs < 10 ^ 2000 ∧ 0 ≤ m := by
  refine ⟨_, intText_digits (x := z) h.1 h.2 (by omega), ?_, by omega⟩
  rw [Int.natAbs_natCast]
  refine Nat.lt_of_lt_of_le (digitsVal_lt _ _ rfl h.1) (Nat.pow_le_pow_right (by decide) ?_)
  show (tl z).length ≤ 2000
  rw [← len_tl]; exact hl
theorem ten2000 : 10 ^ 2000 < 2 ^ 6700 := by decide +kernel
theorem bd2000 {m : Int} (h : m.natAbs < 10 ^ 2000) : Bd 6700 m := Nat.lt_trans h ten2000
theorem pow4300 {n k : Nat} (h : n < 10 ^ k) (g : k ≤ 4300 := by decide) : n < 10 ^ 4300 := Nat.lt_of_lt_of_le h (Nat.pow_le_pow_right (by decide) g)
theorem bd4300 {m : Int} (h : Bd 8900 m) : m.natAbs < 10 ^ 4300 := Nat.lt_trans h (by decide +kernel)
theorem part_rtx (p : Int × Int) : Txt.partition (rtx p) "/" = if p.2 = 1 then (itx p.1, Str.empty, Str.empty) else (itx p.1, "/", itx p.2) := by
  unfold rtx
  split
  · exact partition_none (y := "/") (s := 47) (S := []) rfl (by rw [tl_itx]; exact itL_slash _)
  · exact partition_app (y := "/") (s := 47) (S := []) rfl (by rw [tl_itx]; exact itL_slash _)
end Fc
set_option Elab.async false
set_option linter.all false
set_option maxRecDepth 100000
set_option maxHeartbeats 4000000
/-! Rows: lists or tuples of whole numbers, and lists or tuples of these. -/
namespace Fc
open PySem PySem.Spec PyProof.Rows L2

section
variable {X : Cx}
/-- for x in l, l a list or a tuple -/
def iSeq (K : PySem.W.Frag) (tl : TE) : TI := fun sl H R => iList K tl sl H R ∨ iTup K tl sl H R
theorem pi_seq {tg l : Expr} {tl : TE} (hl : PE X l tl) : PI X tg l (iSeq X.K tl) := by
  refine ⟨fun pins s sl H R I h => ?_⟩
  rcases h with h | h
  · exact (pi_list (tg := tg) hl).run pins s sl H R I h
  · exact (pi_tup (tg := tg) hl).run pins s sl H R I h
end
/-- a list or a tuple that stands still -/
def SqV (K : PySem.W.Frag) (H : Hp) (a : Addr) (xs : List V) : Prop := SqL K H a xs ∨ SqT K H a xs
def IntsV (K : PySem.W.Frag) (H : Hp) (v : V) (r : List Int) : Prop := ∃ a, v = .ref a ∧ SqV K H a (r.map V.int)
def RowsV (K : PySem.W.Frag) (H : Hp) (v : V) (m : List (List Int)) : Prop := ∃ a vs, v = .ref a ∧ SqV K H a vs ∧ vs.length = m.length ∧ ∀ (i : Nat) (w : V) (r : List Int), vs[i]? = some w → m[i]? = some r → IntsV K H w r
/-- for x in l, any turn, l a list or a tuple -/
theorem for_seq {K : PySem.W.Frag} {a : Addr} {xs : List V} {g : TG} {tb : TS} {D : Ends} {sl : L2.St} {H : Hp} {tl : TE} {R : It → Hp → Prop} (hs : SqV K H a xs)
    (htl : ∀ Q : VK, Q (.ref a) H → tl sl H Q) (hl : SqL K H a xs → R (Itl K a) H) (ht : SqT K H a xs → R (Itt K a) H) : iSeq K tl sl H R := by
  rcases hs with h | h
  · exact .inl (htl _ ⟨a, rfl, ⟨xs, h⟩, hl h⟩)
  · exact .inr (htl _ ⟨a, rfl, ⟨xs, h⟩, ht h⟩)

theorem cr_lcm {X : Cx} : CallR X (.builtin "math.lcm") fun vs H Q => ∃ a b : Int, vs = [.int a, .int b] ∧ a.natAbs < 2 ^ 64 ∧ b.natAbs < 2 ^ 64 ∧ Q (.int (Nat.lcm a.natAbs b.natAbs : Nat)) H := by
  intro pins s sl H vs us Q I r h
  obtain ⟨a, b, rfl, ha, hb, q⟩ := h
  obtain ⟨t, u, rfl⟩ := Vals.int2 r
  refine PySem.W.mg_lcm_v ha hb (c := ((Nat.lcm a.natAbs b.natAbs : Nat) : Int)) (by rw [PySem.W.mc_lcm_one]) ?_ ⟨.int _, _, I.tok _, ⟨_, rfl⟩, q⟩
  have h1 := PySem.W.mc_lcm_le a.natAbs b.natAbs
  have h2 : a.natAbs * b.natAbs < 2 ^ 64 * 2 ^ 64 := Nat.mul_lt_mul'' ha hb
  have h3 : ((Nat.lcm a.natAbs b.natAbs : Nat) : Int).natAbs < 2 ^ 128 := by rw [Int.natAbs_natCast]; omega
  exact Nat.lt_of_lt_of_le (PySem.Flt.log2_lt_of (by decide) h3) (by decide)

/-! ### comprehensions over a list, over two lists or two tuples together -/
theorem it_lst {K : PySem.W.Frag} {a : Addr} {xs : List V} {B : (Hp → Prop) → V → Hp → Prop} {H0 : Hp} {Qd : Hp → Prop} (Pv : Nat → Hp → Prop) (h0 : Pv 0 H0) (hl : ∀ i H, i ≤ xs.length → Pv i H → SqL K H a xs)
    (hs : ∀ i x H, xs[i]? = some x → Pv i H → B (Pv (i + 1)) x H) (hd : ∀ H, Pv xs.length H → Qd H) :
    ∃ W : Nat → Nat → Hp → Prop, (∃ m, W 0 m H0) ∧ ∀ i m H, W i m H →
      ((Itl K a).stop i H ∧ Qd H) ∨ ((Itl K a).go i H ∧ ∃ Nx : Hp → Prop, (∀ H', Nx H' → ∃ m', m' < m ∧ W (i + 1) m' H') ∧ ∀ x H', (Itl K a).yld i H x H' → B Nx x H') := by
  refine ⟨fun i m H => m = xs.length - i ∧ i ≤ xs.length ∧ Pv i H, ⟨xs.length, by simp, Nat.zero_le _, h0⟩, ?_⟩
  rintro i m H ⟨rfl, hi, p⟩
  have q := hl i H hi p
  by_cases hlt : i < xs.length
  · refine .inr ⟨⟨xs, xs[i], q, by simp [hlt]⟩, Pv (i + 1), fun H' p' => ⟨xs.length - (i + 1), by omega, rfl, hlt, p'⟩, fun x H' y => ?_⟩
    obtain ⟨e, y⟩ := y
    subst e
    exact hs i x _ (y xs q) p
  · have e : i = xs.length := by omega
    subst e
    exact .inl ⟨⟨xs, q, Nat.le_refl _⟩, hd H p⟩
theorem it_zipL {K : PySem.W.Frag} {a b : Addr} {xs ys : List V} {B : (Hp → Prop) → V → Hp → Prop} {H0 : Hp} {Qd : Hp → Prop} (el : xs.length = ys.length) (Pv : Nat → Hp → Prop) (h0 : Pv 0 H0) (hl : ∀ i H, i ≤ xs.length → Pv i H → SqL K H a xs ∧ SqL K H b ys)
    (hs : ∀ i x y T H, xs[i]? = some x → ys[i]? = some y → Pv i H → H T = none → B (Pv (i + 1)) (.ref T) (upd H T (.tup [x, y]))) (hd : ∀ H, Pv xs.length H → Qd H) :
    ∃ W : Nat → Nat → Hp → Prop, (∃ m, W 0 m H0) ∧ ∀ i m H, W i m H →
      ((Itz K a b).stop i H ∧ Qd H) ∨ ((Itz K a b).go i H ∧ ∃ Nx : Hp → Prop, (∀ H', Nx H' → ∃ m', m' < m ∧ W (i + 1) m' H') ∧ ∀ x H', (Itz K a b).yld i H x H' → B Nx x H') := by
  refine ⟨fun i m H => m = xs.length - i ∧ i ≤ xs.length ∧ Pv i H, ⟨xs.length, by simp, Nat.zero_le _, h0⟩, ?_⟩
  rintro i m H ⟨rfl, hi, p⟩
  obtain ⟨q, q2⟩ := hl i H hi p
  by_cases hlt : i < xs.length
  · have hl2 : i < ys.length := by omega
    refine .inr ⟨⟨xs, ys, xs[i], ys[i], q, q2, by simp [hlt], by simp [hl2]⟩, Pv (i + 1), fun H' p' => ⟨xs.length - (i + 1), by omega, rfl, hlt, p'⟩, fun x H' y => ?_⟩
    obtain ⟨T, u, v, rfl, nT, rfl, y1, y2⟩ := y
    exact hs i u v T H (y1 xs q) (y2 ys q2) p nT
  · have e : i = xs.length := by omega
    subst e
    exact .inl ⟨⟨xs, ys, q, q2, .inl (Nat.le_refl _)⟩, hd H p⟩
theorem it_zipT {K : PySem.W.Frag} {a b : Addr} {xs ys : List V} {B : (Hp → Prop) → V → Hp → Prop} {H0 : Hp} {Qd : Hp → Prop} (el : xs.length = ys.length) (Pv : Nat → Hp → Prop) (h0 : Pv 0 H0) (hl : ∀ i H, i ≤ xs.length → Pv i H → SqT K H a xs ∧ SqT K H b ys)
    (hs : ∀ i x y T H, xs[i]? = some x → ys[i]? = some y → Pv i H → H T = none → B (Pv (i + 1)) (.ref T) (upd H T (.tup [x, y]))) (hd : ∀ H, Pv xs.length H → Qd H) :
    ∃ W : Nat → Nat → Hp → Prop, (∃ m, W 0 m H0) ∧ ∀ i m H, W i m H →
      ((RZ.ItzT K a b).stop i H ∧ Qd H) ∨ ((RZ.ItzT K a b).go i H ∧ ∃ Nx : Hp → Prop, (∀ H', Nx H' → ∃ m', m' < m ∧ W (i + 1) m' H') ∧ ∀ x H', (RZ.ItzT K a b).yld i H x H' → B Nx x H') := by
  refine ⟨fun i m H => m = xs.length - i ∧ i ≤ xs.length ∧ Pv i H, ⟨xs.length, by simp, Nat.zero_le _, h0⟩, ?_⟩
  rintro i m H ⟨rfl, hi, p⟩
  obtain ⟨q, q2⟩ := hl i H hi p
  by_cases hlt : i < xs.length
  · have hl2 : i < ys.length := by omega
    refine .inr ⟨⟨xs, ys, xs[i], ys[i], q, q2, by simp [hlt], by simp [hl2]⟩, Pv (i + 1), fun H' p' => ⟨xs.length - (i + 1), by omega, rfl, hlt, p'⟩, fun x H' y => ?_⟩
    obtain ⟨T, u, v, rfl, nT, rfl, y1, y2⟩ := y
    exact hs i u v T H (y1 xs q) (y2 ys q2) p nT
  · have e : i = xs.length := by omega
    subst e
    exact .inl ⟨⟨xs, ys, q, q2, .inl (Nat.le_refl _)⟩, hd H p⟩
/-- a tracked list or tuple stays where new objects come -/
theorem SqL.exT {K : PySem.W.Frag} {H : Hp} {a T : Addr} {xs : List V} {o : HO} (h : H a = some (.lst xs)) (n : H T = none) : SqL K (upd H T o) a xs := SqL.of (by rw [upd_ne (ne_of_none h n)]; exact h)
theorem it_rng {lo : Int} {n : Nat} {B : (Hp → Prop) → V → Hp → Prop} {H0 : Hp} {Qd : Hp → Prop} (Pv : Nat → Hp → Prop) (h0 : Pv 0 H0)
    (hs : ∀ i H, i < n → Pv i H → B (Pv (i + 1)) (.int (lo + (i : Int))) H) (hd : ∀ H, Pv n H → Qd H) :
    ∃ W : Nat → Nat → Hp → Prop, (∃ m, W 0 m H0) ∧ ∀ i m H, W i m H →
      ((Itr lo n).stop i H ∧ Qd H) ∨ ((Itr lo n).go i H ∧ ∃ Nx : Hp → Prop, (∀ H', Nx H' → ∃ m', m' < m ∧ W (i + 1) m' H') ∧ ∀ x H', (Itr lo n).yld i H x H' → B Nx x H') := by
  refine ⟨fun i m H => m = n - i ∧ i ≤ n ∧ Pv i H, ⟨n, by simp, Nat.zero_le _, h0⟩, ?_⟩
  rintro i m H ⟨rfl, hi, p⟩
  by_cases hlt : i < n
  · refine .inr ⟨hlt, Pv (i + 1), fun H' p' => ⟨n - (i + 1), by omega, rfl, hlt, p'⟩, fun x H' y => ?_⟩
    obtain ⟨e, e2⟩ := y
    subst e
    subst e2
    exact hs i _ hlt p
  · have e : i = n := by omega
    subst e
    exact .inl ⟨Nat.le_refl _, hd H p⟩
/-- list(x) of a list or a tuple, its reading named for use within a comprehension -/
def rListOf (K : PySem.W.Frag) : List V → Hp → VK → Prop := fun xs H Q => ∃ p ys, xs = [V.ref p] ∧ (SqL K H p ys ∨ SqT K H p ys) ∧ ∀ l : Addr, H l = none → Q (V.ref l) (upd H l (.lst ys))
theorem call_listK {X : Cx} : CallR X (.type "list") (rListOf X.K) := call_list_of
/-- an own error made without arguments, its context told -/
theorem pmk_bareN {X : Cx} {C : Addr} {bmB : List Value} {B newId initId : String} {x : Str} {p pos : Pos} (F : ExcBaseFacts B newId initId bmB) (q : PySem.W.excIn X.K C bmB newId = true)
    (gC : X.mg x = some (.ref C)) (kC : PySem.W.keepIn X.K (.ref C) = true) (r : Raises X (.ref C)) (hg : Gl X x) (hdb : (x == ("__debug__" : Str)) = false := by decide) :
    L2N.PMk X (.Call (.Name x p) [] [] pos) (fun _ H Q => Q (.ref C) none H) := by
  intro pins s sl H Q I h
  refine wpAny_Call_Name_kw (ld_glob I hg gC ?_ hdb)
  refine PySem.W.callWith_K0 I.kIn kC ?_
  obtain ⟨bm, N, nm, qn, bs, hdct, sn, sub, ab, col, dd, k0, k1, k2, k3, k5, mN, hC, hN, hni, T⟩ := exc_obj I.kIn q
  exact wpAny_call_exc_subT F T hC hN hni (fun h' e hm => L2N.mk_of I hm r h (I.hok.gone hm.new)) (Nat.zero_le _)
theorem lenv {K : PySem.W.Frag} {H : Hp} {a : Addr} {vs : List V} (h : SqV K H a vs) : LenV K (.ref a) H vs.length := by
  rcases h with h | h
  · exact .inl ⟨vs, h, rfl⟩
  · exact .inr ⟨vs, h, rfl⟩
/-- the lengths of the rows -/
def LensV (K : PySem.W.Frag) (H : Hp) (a : Addr) (vs : List V) (ns : List Nat) : Prop := SqV K H a vs ∧ vs.length = ns.length ∧
  ∀ (i : Nat) w n, vs[i]? = some w → ns[i]? = some n → ∃ b xs, w = V.ref b ∧ SqV K H b xs ∧ xs.length = n
def ShapeOk (ns : List Nat) : Prop := ns.length ≤ 64 ∧ ∀ n ∈ ns, n ≤ 64 ∧ ns.head? = some n
theorem Rd.ex {H H' : Hp} {a : Addr} {o : HO} (h : Rd H a o) (e : Ex H H') : Rd H' a o := by
  rcases h with h | ⟨f, h⟩
  · exact .inl (e _ _ h)
  · exact .inr ⟨f, e _ _ h⟩
theorem SqL.ex {K : PySem.W.Frag} {H H' : Hp} {a : Addr} {xs : List V} (h : SqL K H a xs) (e : Ex H H') : SqL K H' a xs := by
  rcases h with h | h
  · exact .inl (Rd.ex h e)
  · exact .inr h
theorem SqT.ex {K : PySem.W.Frag} {H H' : Hp} {a : Addr} {xs : List V} (h : SqT K H a xs) (e : Ex H H') : SqT K H' a xs := by
  rcases h with h | h
  · exact .inl (Rd.ex h e)
  · exact .inr h
theorem SqV.ex {K : PySem.W.Frag} {H H' : Hp} {a : Addr} {xs : List V} (h : SqV K H a xs) (e : Ex H H') : SqV K H' a xs := by
  rcases h with h | h
  · exact .inl (Fc.SqL.ex h e)
  · exact .inr (Fc.SqT.ex h e)
/-- rows of whole numbers, each a list or a tuple -/
def MatV (K : PySem.W.Frag) (H : Hp) (a : Addr) (vs : List V) (m : List (List Int)) : Prop := SqV K H a vs ∧ vs.length = m.length ∧
  ∀ (i : Nat) w r, vs[i]? = some w → m[i]? = some r → ∃ b, w = V.ref b ∧ SqV K H b (r.map V.int)
/-! ### nested data for == -/
theorem layI (r : List Int) : PyData.canLayAll0 (r.map PyData.int) = true := by
  induction r with
  | nil => simp [PyData.canLayAll0]
  | cons a r ih => simp [PyData.canLayAll0, PyData.canLay0, ih]
theorem depI (r : List Int) : PyData.depthAll (r.map PyData.int) ≤ 1 := by
  induction r with
  | nil => simp [PyData.depthAll]
  | cons a r ih => simp [PyData.depthAll, PyData.depth]; omega
theorem layL (m : List (List Int)) : PyData.canLayAll0 (m.map fun r => PyData.list (r.map PyData.int)) = true := by
  induction m with
  | nil => simp [PyData.canLayAll0]
  | cons a r ih => simp [PyData.canLayAll0, PyData.canLay0, ih, layI]
theorem depL (m : List (List Int)) : PyData.depthAll (m.map fun r => PyData.list (r.map PyData.int)) ≤ 2 := by
  induction m with
  | nil => simp [PyData.depthAll]
  | cons a r ih => have := depI a; simp [PyData.depthAll, PyData.depth]; omega
theorem layT (m : List (List Int)) : PyData.canLayAll0 (m.map fun r => PyData.tuple (r.map PyData.int)) = true := by
  induction m with
  | nil => simp [PyData.canLayAll0]
  | cons a r ih => simp [PyData.canLayAll0, PyData.canLay0, ih, layI]
theorem depT (m : List (List Int)) : PyData.depthAll (m.map fun r => PyData.tuple (r.map PyData.int)) ≤ 2 := by
  induction m with
  | nil => simp [PyData.depthAll]
  | cons a r ih => have := depI a; simp [PyData.depthAll, PyData.depth]; omega
/-- lists of lists of whole numbers, and tuples of tuples, are shaped: == tells them by their items -/
theorem shapedL (m : List (List Int)) : SeqAt.shaped (PyData.list (m.map fun r => PyData.list (r.map PyData.int))) = true := by
  have := depL m
  unfold SeqAt.shaped
  simp [PyData.canLay0, PyData.depth, layL]
  omega
theorem shapedT (m : List (List Int)) : SeqAt.shaped (PyData.tuple (m.map fun r => PyData.tuple (r.map PyData.int))) = true := by
  have := depT m
  unfold SeqAt.shaped
  simp [PyData.canLay0, PyData.depth, layT]
  omega
theorem dpI {K : PySem.W.Frag} {H : Hp} : ∀ r : List Int, DpAll K H (r.map V.int) (r.map PyData.int)
  | [] => .nil
  | a :: r => .cons (.int a) (dpI r)
theorem dpL {K : PySem.W.Frag} {H : Hp} : ∀ (as : List Addr) (m : List (List Int)), as.length = m.length → (∀ (i : Nat) a r, as[i]? = some a → m[i]? = some r → H a = some (.lst (r.map V.int))) →
    DpAll K H (as.map V.ref) (m.map fun r => PyData.list (r.map PyData.int))
  | [], [], _, _ => .nil
  | a :: as, r :: m, el, h => .cons (.lst (SqL.of (h 0 a r rfl rfl)) (dpI r)) (dpL as m (by simpa using el) fun i b q e1 e2 => h (i + 1) b q (by simpa using e1) (by simpa using e2))
  | [], _ :: _, el, _ => by simp at el
  | _ :: _, [], el, _ => by simp at el
end Fc
set_option Elab.async false
set_option linter.all false
set_option maxRecDepth 100000
set_option maxHeartbeats 4000000
/-! Comprehensions read as a whole: each item gives a value that is related to it, whatever becomes of the list that grows. -/
namespace Fc
open PySem PySem.Spec PyProof.Rows L2 L2H
/-- related, and so behind every heap that keeps what stands but at D -/
def Fix (R : V → Hp → Prop) (D : Addr) (v : V) (H : Hp) : Prop := ∀ H3, Keep D H H3 → R v H3
theorem Fix.int {n : Int} {D : Addr} {H : Hp} : Fix (fun v _ => v = V.int n) D (.int n) H := fun _ _ => rfl
theorem Fix.new {a D : Addr} {H : Hp} {o : HO} {R : V → Hp → Prop} (h : H a = some o) (ne : a ≠ D) (k : ∀ H3, H3 a = some o → R (.ref a) H3) : Fix R D (.ref a) H := fun H3 kp => k H3 (kp a o h ne)
/-- the step of a comprehension: what an item gives -/
abbrev LcStep (R : Nat → V → Hp → Prop) (H1 : Hp) (D : Addr) (i : Nat) (H : Hp) (B : VK → Prop) : Prop :=
  Ex H1 H → (∃ o, H D = some o) → ∀ Q : VK, (∀ v H2, Ex H H2 → Fix (R i) D v H2 → Q v H2) → B Q
def LcEnd (R : Nat → V → Hp → Prop) (H1 : Hp) (n : Nat) (Q : VK) : Prop := ∀ D H2 vs, H1 D = none → Ex H1 H2 → H2 D = some (.lst vs) → vs.length = n → (∀ (i : Nat) v, vs[i]? = some v → R i v H2) → Q (.ref D) H2
structure LcInv (R : Nat → V → Hp → Prop) (H1 : Hp) (D : Addr) (i : Nat) (H : Hp) : Prop where
  ex : Ex H1 H
  at_ : ∃ vs, H D = some (.lst vs) ∧ vs.length = i ∧ ∀ j v, vs[j]? = some v → Fix (R j) D v H
theorem LcInv.start {R : Nat → V → Hp → Prop} {H1 : Hp} {D : Addr} (h : H1 D = none) : LcInv R H1 D 0 (upd H1 D (.lst [])) := ⟨Ex.new h, [], upd_same, rfl, fun j v e => by simp at e⟩
theorem LcInv.done {R : Nat → V → Hp → Prop} {H1 H : Hp} {D : Addr} {n : Nat} {Q : VK} (h : LcInv R H1 D n H) (hD : H1 D = none) (k : LcEnd R H1 n Q) : Q (.ref D) H := by
  obtain ⟨ex, vs, h1, h2, h3⟩ := h
  exact k D H vs hD ex h1 h2 fun i v e => h3 i v e H .refl
theorem LcInv.put {R : Nat → V → Hp → Prop} {H1 H H2 : Hp} {D : Addr} {i : Nat} {v : V} (h : LcInv R H1 D i H) (hD : H1 D = none) (hi : i ≤ 100000) (e : Ex H H2) (f : Fix (R i) D v H2) :
    ∃ acc, H2 D = some (.lst acc) ∧ acc.length < sizeLine ∧ LcInv R H1 D (i + 1) (upd H2 D (.lst (acc ++ [v]))) := by
  obtain ⟨ex, vs, h1, h2, h3⟩ := h
  have kp : Keep D H2 (upd H2 D (.lst (vs ++ [v]))) := fun b o hb ne => by rw [upd_ne ne]; exact hb
  refine ⟨vs, e _ _ h1, by rw [h2, sizeLine_eq]; omega, fun b o hb => ?_, vs ++ [v], upd_same, by rw [List.length_append, h2]; rfl, fun j u hj => ?_⟩
  · rw [upd_ne (ne_of_none hb hD)]; exact e _ _ (ex _ _ hb)
  · intro H3 k3
    have k4 : Keep D H2 H3 := fun b o hb ne => k3 b o (kp b o hb ne) ne
    by_cases c : j < vs.length
    · rw [List.getElem?_append_left c] at hj
      exact h3 j u hj H3 fun b o hb ne => k4 b o (e _ _ hb) ne
    · have hj2 : j = vs.length := by
        have := (List.getElem?_eq_some_iff.mp hj).1
        rw [List.length_append] at this
        simp at this
        omega
      subst hj2
      rw [List.getElem?_append_right (Nat.le_refl _)] at hj
      simp at hj
      subst hj
      subst h2
      exact f H3 k4
/-! ### readings opened by one head -/
theorem uNext {D : Ends} {σ : L2.St} {H : Hp} (h : D.nx σ H) : tNext D σ H := h
theorem uNot {t : TT} {σ : L2.St} {H : Hp} {Q : Bool → Hp → Prop} (h : t σ H fun c H1 => Q (!c) H1) : tNot t σ H Q := h
theorem uB {t : TE} {σ : L2.St} {H : Hp} {Q : Bool → Hp → Prop} (h : t σ H fun x H1 => ∃ c, x = .bl c ∧ Q c H1) : tB t σ H Q := h
theorem uTest {t : TE} {σ : L2.St} {H : Hp} {Q : Bool → Hp → Prop} (h : t σ H fun x H1 => ∃ c, x = .bl c ∧ Q c H1) : tTest t σ H Q := h
theorem uSeq {t u : TS} {D : Ends} {σ : L2.St} {H : Hp} (h : t { D with nx := u D } σ H) : tSeq t u D σ H := h
theorem uDrop {t : TE} {D : Ends} {σ : L2.St} {H : Hp} (h : t σ H fun _ H1 => D.nx σ H1) : tDrop t D σ H := h
theorem uRet {t : TE} {D : Ends} {σ : L2.St} {H : Hp} (h : t σ H D.rt) : tRet t D σ H := h
theorem uAsg {t : TE} {g : TG} {D : Ends} {σ : L2.St} {H : Hp} (h : t σ H fun x H1 => g x σ H1 D.nx) : tAsg t g D σ H := h
theorem uFld {K : PySem.W.Frag} {ta tv : TE} {f : Str} {D : Ends} {σ : L2.St} {H : Hp} (h : tv σ H fun y H1 => ta σ H1 fun x H2 => ∃ a C dx fs, x = .ref a ∧ H2 a = some (.ins C dx fs) ∧ Cls K C ∧ NoAttr K C f ∧ fs.length < 1000 ∧
  D.nx σ (upd H2 a (.ins C dx (putF f y fs)))) : sFld K ta tv f D σ H := h
theorem uCB {r : List V → Hp → VK → Prop} {t : TA} {σ : L2.St} {H : Hp} {Q : VK} (h : t σ H fun vs H1 => r vs H1 Q) : tCB r t σ H Q := h
theorem uCons {ta : TE} {tr : TA} {σ : L2.St} {H : Hp} {Q : List V → Hp → Prop} (h : ta σ H fun x H1 => tr σ H1 fun xs H2 => Q (x :: xs) H2) : tCons ta tr σ H Q := h
theorem uOp {r : R2} {ta tb : TE} {σ : L2.St} {H : Hp} {Q : VK} (h : ta σ H fun x H1 => tb σ H1 fun y H2 => r x y H2 Q) : tOp r ta tb σ H Q := h
theorem uTup {t : TA} {σ : L2.St} {H : Hp} {Q : VK} (h : t σ H fun xs H1 => xs.length ≤ sizeLine ∧ ∀ p, H1 p = none → Q (.ref p) (upd H1 p (.tup xs))) : tTup t σ H Q := h
theorem uLst {t : TA} {σ : L2.St} {H : Hp} {Q : VK} (h : t σ H fun xs H1 => xs.length ≤ sizeLine ∧ ∀ p, H1 p = none → Q (.ref p) (upd H1 p (.lst xs))) : tLst t σ H Q := h
theorem uCall {sp : Sp} {dvs : List V} {E : XK} {t : TA} {σ : L2.St} {H : Hp} {Q : VK} (h : t σ H fun vs H1 => sp (vs ++ dvs) H1 Q E) : tCall sp dvs E t σ H Q := h
theorem uMake {C : Addr} {sp : Sp} {dvs : List V} {E : XK} {t : TA} {σ : L2.St} {H : Hp} {Q : VK} (h : t σ H fun vs H1 => ∀ x dx, H1 x = none → H1 dx = none → dx ≠ x →
  sp (.ref x :: (vs ++ dvs)) (upd (upd H1 dx (.own x)) x (.ins C dx [])) (fun v H2 => v = .non ∧ Q (.ref x) H2) E) : tMake C sp dvs E t σ H Q := h
theorem uIf {c : TT} {t u : TS} {D : Ends} {σ : L2.St} {H : Hp} (h : c σ H fun b H1 => if b = true then t D σ H1 else u D σ H1) : tIfS c t u D σ H := h
section
variable {K : PySem.W.Frag} {tl : TE} {g : TG} {te : TE} {ws : List Nat} {σ : L2.St} {H : Hp} {Q : VK} {a : Addr} {xs : List V}
/-- the body of a comprehension at an item -/
abbrev LcBody (g : TG) (te : TE) (ws : List Nat) (σ : L2.St) (x : V) (H : Hp) : VK → Prop := fun Q => g x (wipe σ ws) H fun σ2 H2 => wipe σ2 ws = wipe σ ws ∧ te σ2 H2 Q
theorem lcL (R : Nat → V → Hp → Prop) (htl : ∀ Q : VK, Q (.ref a) H → tl σ H Q) (ha : SqL K H a xs) (hl : xs.length ≤ 100000)
    (hs : ∀ i x H' D, xs[i]? = some x → LcStep R H D i H' (LcBody g te ws σ x H')) (hd : LcEnd R H xs.length Q) : tLc (iList K tl) g tYes te ws σ H Q := by
  refine htl _ ⟨a, rfl, ⟨_, ha⟩, fun D hD => ?_⟩
  refine it_lst (xs := xs) (fun i H' => LcInv R H D i H') (.start hD) (fun i H' _ q => Fc.SqL.ex ha q.ex) (fun i x H' hx q => ?_) (fun H' q => q.done hD hd)
  have hi := (List.getElem?_eq_some_iff.mp hx).1
  exact hs i x H' D hx q.ex ⟨_, q.at_.choose_spec.1⟩ _ fun v H2 e f => q.put hD (by omega) e f
theorem it_tupC {K : PySem.W.Frag} {a : Addr} {xs : List V} {B : (Hp → Prop) → V → Hp → Prop} {H0 : Hp} {Qd : Hp → Prop} (Pv : Nat → Hp → Prop) (h0 : Pv 0 H0) (hl : ∀ i H, i ≤ xs.length → Pv i H → SqT K H a xs)
    (hs : ∀ i x H, xs[i]? = some x → Pv i H → B (Pv (i + 1)) x H) (hd : ∀ H, Pv xs.length H → Qd H) :
    ∃ W : Nat → Nat → Hp → Prop, (∃ m, W 0 m H0) ∧ ∀ i m H, W i m H →
      ((Itt K a).stop i H ∧ Qd H) ∨ ((Itt K a).go i H ∧ ∃ Nx : Hp → Prop, (∀ H', Nx H' → ∃ m', m' < m ∧ W (i + 1) m' H') ∧ ∀ x H', (Itt K a).yld i H x H' → B Nx x H') := by
  refine ⟨fun i m H => m = xs.length - i ∧ i ≤ xs.length ∧ Pv i H, ⟨xs.length, by simp, Nat.zero_le _, h0⟩, ?_⟩
  rintro i m H ⟨rfl, hi, p⟩
  have q := hl i H hi p
  by_cases hlt : i < xs.length
  · refine .inr ⟨⟨xs, xs[i], q, by simp [hlt]⟩, Pv (i + 1), fun H' p' => ⟨xs.length - (i + 1), by omega, rfl, hlt, p'⟩, fun x H' y => ?_⟩
    obtain ⟨e, y⟩ := y
    subst e
    exact hs i x _ (y xs q) p
  · have e : i = xs.length := by omega
    subst e
    exact .inl ⟨⟨xs, q, Nat.le_refl _⟩, hd H p⟩
theorem lcT (R : Nat → V → Hp → Prop) (htl : ∀ Q : VK, Q (.ref a) H → tl σ H Q) (ha : SqT K H a xs) (hl : xs.length ≤ 100000)
    (hs : ∀ i x H' D, xs[i]? = some x → LcStep R H D i H' (LcBody g te ws σ x H')) (hd : LcEnd R H xs.length Q) : tLc (iTup K tl) g tYes te ws σ H Q := by
  refine htl _ ⟨a, rfl, ⟨_, ha⟩, fun D hD => ?_⟩
  refine it_tupC (xs := xs) (fun i H' => LcInv R H D i H') (.start hD) (fun i H' _ q => Fc.SqT.ex ha q.ex) (fun i x H' hx q => ?_) (fun H' q => q.done hD hd)
  have hi := (List.getElem?_eq_some_iff.mp hx).1
  exact hs i x H' D hx q.ex ⟨_, q.at_.choose_spec.1⟩ _ fun v H2 e f => q.put hD (by omega) e f
theorem lcS (R : Nat → V → Hp → Prop) (htl : ∀ Q : VK, Q (.ref a) H → tl σ H Q) (ha : SqV K H a xs) (hl : xs.length ≤ 100000)
    (hs : ∀ i x H' D, xs[i]? = some x → LcStep R H D i H' (LcBody g te ws σ x H')) (hd : LcEnd R H xs.length Q) : tLc (iSeq K tl) g tYes te ws σ H Q := by
  rcases ha with ha | ha
  · exact .inl (lcL R htl ha hl hs hd)
  · exact .inr (lcT R htl ha hl hs hd)
theorem lcR {lo : Int} {n : Nat} {wi : TI} (R : Nat → V → Hp → Prop) (hn : n ≤ 100000) (hw : ∀ P : It → Hp → Prop, P (Itr lo n) H → wi σ H P)
    (hs : ∀ i H' D, i < n → LcStep R H D i H' (LcBody g te ws σ (V.int (lo + (i : Int))) H')) (hd : LcEnd R H n Q) : tLc wi g tYes te ws σ H Q := by
  refine hw _ fun D hD => ?_
  refine it_rng (fun i H' => LcInv R H D i H') (.start hD) (fun i H' hi q => ?_) (fun H' q => q.done hD hd)
  exact hs i H' D hi q.ex ⟨_, q.at_.choose_spec.1⟩ _ fun v H2 e f => q.put hD (by omega) e f
end
section
variable {K : PySem.W.Frag} {tl : TE} {g : TG} {tb : TS} {D : Ends} {σ : L2.St} {H : Hp} {a : Addr} {xs : List V}
theorem forL (Pv : Nat → L2.St → Hp → Prop) (htl : ∀ Q : VK, Q (.ref a) H → tl σ H Q) (ha : SqL K H a xs) (h0 : Pv 0 σ H) (hl : ∀ i σ H', Pv i σ H' → SqL K H' a xs)
    (hs : ∀ i x σ H, xs[i]? = some x → Pv i σ H → g x σ H fun σ2 H2 => tb { D with nx := Pv (i + 1), ct := Pv (i + 1), bk := D.nx } σ2 H2) (hd : ∀ σ H, Pv xs.length σ H → D.nx σ H) : tFor (iList K tl) g tb D σ H :=
  htl _ ⟨a, rfl, ⟨_, ha⟩, for_list (xs := xs) Pv h0 (fun i σ H' _ q => hl i σ H' q) hs hd⟩
theorem forR {lo : Int} {n : Nat} {wi : TI} (Pv : Nat → L2.St → Hp → Prop) (hw : ∀ P : It → Hp → Prop, P (Itr lo n) H → wi σ H P) (h0 : Pv 0 σ H)
    (hs : ∀ i σ H, i < n → Pv i σ H → g (V.int (lo + (i : Int))) σ H fun σ2 H2 => tb { D with nx := Pv (i + 1), ct := Pv (i + 1), bk := D.nx } σ2 H2) (hd : ∀ σ H, Pv n σ H → D.nx σ H) : tFor wi g tb D σ H :=
  hw _ (for_range Pv h0 hs hd)
theorem forT (Pv : Nat → L2.St → Hp → Prop) (htl : ∀ Q : VK, Q (.ref a) H → tl σ H Q) (ha : SqT K H a xs) (h0 : Pv 0 σ H) (hl : ∀ i σ H', Pv i σ H' → SqT K H' a xs)
    (hs : ∀ i x σ H, xs[i]? = some x → Pv i σ H → g x σ H fun σ2 H2 => tb { D with nx := Pv (i + 1), ct := Pv (i + 1), bk := D.nx } σ2 H2) (hd : ∀ σ H, Pv xs.length σ H → D.nx σ H) : tFor (iTup K tl) g tb D σ H :=
  htl _ ⟨a, rfl, ⟨_, ha⟩, for_tup (xs := xs) Pv h0 (fun i σ H' _ q => hl i σ H' q) hs hd⟩
theorem forS (Pv : Nat → L2.St → Hp → Prop) (htl : ∀ Q : VK, Q (.ref a) H → tl σ H Q) (ha : SqV K H a xs) (h0 : Pv 0 σ H) (hl : ∀ i σ H', Pv i σ H' → Ex H H')
    (hs : ∀ i x σ H, xs[i]? = some x → Pv i σ H → g x σ H fun σ2 H2 => tb { D with nx := Pv (i + 1), ct := Pv (i + 1), bk := D.nx } σ2 H2) (hd : ∀ σ H, Pv xs.length σ H → D.nx σ H) : tFor (iSeq K tl) g tb D σ H := by
  rcases ha with ha | ha
  · exact .inl (forL Pv htl ha h0 (fun i σ H' q => Fc.SqL.ex ha (hl i σ H' q)) hs hd)
  · exact .inr (forT Pv htl ha h0 (fun i σ H' q => Fc.SqT.ex ha (hl i σ H' q)) hs hd)
end
section
variable {K : PySem.W.Frag} {tl tl1 : TE} {g g1 : TG} {te : TE} {ws ws1 : List Nat} {σ : L2.St} {H : Hp} {Q : VK} {a : Addr}
/-- [x for row in rows for x in row], lists both -/
theorem lc2L (as : List Addr) (rows : List (List V)) (htl : ∀ Q : VK, Q (.ref a) H → tl σ H Q) (ha : H a = some (.lst (as.map V.ref))) (el : as.length = rows.length)
    (hrow : ∀ (i : Nat) b r, as[i]? = some b → rows[i]? = some r → H b = some (.lst r)) (tot : rows.flatten.length ≤ 100000)
    (hs : ∀ b H', ∃ σ2, (∀ P : L2.St → Hp → Prop, P σ2 H' → g (.ref b) (wipe σ ws) H' P) ∧ wipe σ2 ws = wipe σ ws ∧ (∀ Q' : VK, Q' (.ref b) H' → tl1 σ2 H' Q') ∧
      ∀ v H2, ∃ σ3, (∀ P : L2.St → Hp → Prop, P σ3 H2 → g1 v (wipe σ2 ws1) H2 P) ∧ wipe σ3 ws1 = wipe σ2 ws1 ∧ ∀ Q' : VK, Q' v H2 → te σ3 H2 Q')
    (k : ∀ D H2, H D = none → Ex H H2 → H2 D = some (.lst rows.flatten) → Q (.ref D) H2) : tLc2 (iList K tl) g tYes (iList K tl1) g1 tYes te ws ws1 σ H Q := by
  refine htl _ ⟨a, rfl, ⟨_, SqL.of ha⟩, fun D hD => ?_⟩
  refine it_lst (xs := as.map V.ref) (fun i H' => Ex H H' ∧ H' D = some (.lst (rows.take i).flatten)) ⟨Ex.new hD, upd_same⟩ (fun i H' _ q => SqL.of (q.1 _ _ ha)) (fun i x H' hx q => ?_) (fun H' q => ?_)
  · rw [List.getElem?_map] at hx
    obtain ⟨b, hb, rfl⟩ := Option.map_eq_some_iff.mp hx
    have hi : i < rows.length := by have := (List.getElem?_eq_some_iff.mp hb).1; omega
    have hr := q.1 _ _ (hrow i b _ hb (List.getElem?_eq_getElem hi))
    obtain ⟨σ2, g2, w2, t2, h3⟩ := hs b H'
    refine g2 _ ⟨w2, ?_⟩
    refine t2 _ ⟨b, rfl, ⟨_, SqL.of hr⟩, ?_⟩
    have e1 : (rows.take (i + 1)).flatten = (rows.take i).flatten ++ rows[i] := by
      rw [List.take_add_one, List.getElem?_eq_getElem hi, List.flatten_append]
      simp
    have tk : (rows.take i).flatten.length + rows[i].length ≤ 100000 := by
      have e2 : rows.flatten = (rows.take (i + 1)).flatten ++ (rows.drop (i + 1)).flatten := by rw [← List.flatten_append, List.take_append_drop]
      have e3 := congrArg List.length e2
      rw [e1, List.length_append, List.length_append] at e3
      omega
    refine it_lst (xs := rows[i]) (fun j H2 => Ex H H2 ∧ H2 D = some (.lst ((rows.take i).flatten ++ rows[i].take j))) ⟨q.1, by rw [q.2, List.take_zero, List.append_nil]⟩ (fun j H2 _ p => SqL.of (p.1 _ _ (hrow i b _ hb (List.getElem?_eq_getElem hi)))) (fun j v H2 hv p => ?_) (fun H2 p => ?_)
    · obtain ⟨σ3, g3, w3, t3⟩ := h3 v H2
      refine g3 _ ⟨w3, ?_⟩
      have hj := (List.getElem?_eq_some_iff.mp hv).1
      refine t3 _ ⟨_, p.2, by rw [List.length_append, List.length_take, sizeLine_eq]; omega, fun c o e => by rw [upd_ne (ne_of_none e hD)]; exact p.1 _ _ e, ?_⟩
      rw [upd_same, List.take_add_one, hv, List.append_assoc]
      rfl
    · rw [List.take_length] at p
      exact ⟨p.1, by rw [e1]; exact p.2⟩
  · rw [List.length_map, el, List.take_length] at q
    exact k D H' hD q.1 q.2
end
section
variable {K : PySem.W.Frag} {tl : TE} {g : TG} {te : TE} {ws : List Nat} {σ : L2.St} {H : Hp} {Q : VK} {a : Addr} {xs : List V}
/-! ### what such a list is -/
theorem vals_int {vs : List V} {f : Nat → Int} {n : Nat} (l : vs.length = n) (h : ∀ (i : Nat) v, vs[i]? = some v → v = V.int (f i)) : vs = ((List.range n).map f).map V.int := by
  refine List.ext_getElem? fun i => ?_
  by_cases c : i < vs.length
  · rw [List.getElem?_eq_getElem c, h i _ (List.getElem?_eq_getElem c), List.getElem?_map, List.getElem?_map, List.getElem?_range (by omega)]; rfl
  · rw [List.getElem?_eq_none (by omega), List.getElem?_eq_none (by rw [List.length_map, List.length_map, List.length_range]; omega)]
theorem vals_map {vs : List V} {r : List Int} {f : Int → Int} (l : vs.length = r.length) (h : ∀ (i : Nat) v n, vs[i]? = some v → r[i]? = some n → v = V.int (f n)) : vs = (r.map f).map V.int := by
  refine List.ext_getElem? fun i => ?_
  by_cases c : i < vs.length
  · have c2 : i < r.length := by omega
    rw [List.getElem?_eq_getElem c, h i _ _ (List.getElem?_eq_getElem c) (List.getElem?_eq_getElem c2), List.getElem?_map, List.getElem?_map, List.getElem?_eq_getElem c2]; rfl
  · rw [List.getElem?_eq_none (by omega), List.getElem?_eq_none (by rw [List.length_map, List.length_map]; omega)]
theorem vals_mapG {α : Type} {vs : List V} {r : List α} {f : α → Int} (l : vs.length = r.length) (h : ∀ (i : Nat) v n, vs[i]? = some v → r[i]? = some n → v = V.int (f n)) : vs = (r.map f).map V.int := by
  refine List.ext_getElem? fun i => ?_
  by_cases c : i < vs.length
  · have c2 : i < r.length := by omega
    rw [List.getElem?_eq_getElem c, h i _ _ (List.getElem?_eq_getElem c) (List.getElem?_eq_getElem c2), List.getElem?_map, List.getElem?_map, List.getElem?_eq_getElem c2]; rfl
  · rw [List.getElem?_eq_none (by omega), List.getElem?_eq_none (by rw [List.length_map, List.length_map]; omega)]
theorem refs_of {vs : List V} (h : ∀ (i : Nat) v, vs[i]? = some v → ∃ a, v = V.ref a) : ∃ as : List Addr, vs = as.map V.ref := by
  induction vs with
  | nil => exact ⟨[], rfl⟩
  | cons v vs ih =>
    obtain ⟨a, rfl⟩ := h 0 v rfl
    obtain ⟨as, rfl⟩ := ih fun i v e => h (i + 1) v (by simpa using e)
    exact ⟨a :: as, rfl⟩
/-- [f(x) for x in row], row a list or a tuple of whole numbers -/
theorem lcInts {wi : TI} (f : Int → Int) {r : List Int} (hw : ∀ R, (∀ i x H' D, (r.map V.int)[i]? = some x → LcStep R H D i H' (LcBody g te ws σ x H')) → LcEnd R H (r.map V.int).length Q → tLc wi g tYes te ws σ H Q)
    (hs : ∀ n H', n ∈ r → Ex H H' → ∀ Q : VK, Q (V.int (f n)) H' → LcBody g te ws σ (V.int n) H' Q) (k : ∀ D H2, H D = none → Ex H H2 → H2 D = some (.lst ((r.map f).map V.int)) → Q (.ref D) H2) : tLc wi g tYes te ws σ H Q := by
  refine hw (fun i v _ => ∀ n, r[i]? = some n → v = V.int (f n)) (fun i x H' D hx ex _ Q' kq => ?_) (fun D H2 vs hD ex h1 h2 h3 => ?_)
  · rw [List.getElem?_map] at hx
    obtain ⟨n, hn, rfl⟩ := Option.map_eq_some_iff.mp hx
    refine hs n H' (List.mem_of_getElem? hn) ex Q' (kq _ _ (fun _ _ h => h) fun H3 _ m hm => ?_)
    rw [hn] at hm
    cases hm
    rfl
  · rw [List.length_map] at h2
    exact k D H2 hD ex (by rw [h1, vals_map h2 fun i v n e1 e2 => h3 i v e1 n e2])
end
def RowsL (H : Hp) (L : Addr) (m : List (List Int)) : Prop := ∃ as : List Addr, H L = some (.lst (as.map V.ref)) ∧ as.length = m.length ∧
  ∀ (i : Nat) a r, as[i]? = some a → m[i]? = some r → H a = some (.lst (r.map V.int))
theorem RowsL.ex {H H' : Hp} {L : Addr} {m : List (List Int)} (h : RowsL H L m) (e : Ex H H') : RowsL H' L m := let ⟨as, a, b, c⟩ := h; ⟨as, e _ _ a, b, fun i x r h1 h2 => e _ _ (c i x r h1 h2)⟩
/-- a tuple of tuples of whole numbers -/
def RowsT (H : Hp) (L : Addr) (m : List (List Int)) : Prop := ∃ as : List Addr, H L = some (.tup (as.map V.ref)) ∧ as.length = m.length ∧
  ∀ (i : Nat) a r, as[i]? = some a → m[i]? = some r → H a = some (.tup (r.map V.int))
theorem RowsT.ex {H H' : Hp} {L : Addr} {m : List (List Int)} (h : RowsT H L m) (e : Ex H H') : RowsT H' L m := let ⟨as, a, b, c⟩ := h; ⟨as, e _ _ a, b, fun i x r h1 h2 => e _ _ (c i x r h1 h2)⟩
/-- the item i is a row of m, a list (or what o makes of it) -/
def RowR (o : List V → HO) (m : List (List Int)) (i : Nat) (v : V) (H : Hp) : Prop := ∃ b r, v = .ref b ∧ m[i]? = some r ∧ H b = some (o (r.map V.int))
theorem RowR.fix {o : List V → HO} {m : List (List Int)} {i : Nat} {b D : Addr} {r : List Int} {H : Hp} (hm : m[i]? = some r) (hb : H b = some (o (r.map V.int))) (ne : b ≠ D) : Fix (RowR o m i) D (.ref b) H :=
  fun H3 kp => ⟨b, r, rfl, hm, kp _ _ hb ne⟩
theorem RowR.all {o : List V → HO} {m : List (List Int)} {vs : List V} {H : Hp} (l : vs.length = m.length) (h : ∀ (i : Nat) v, vs[i]? = some v → RowR o m i v H) :
    ∃ as : List Addr, vs = as.map V.ref ∧ as.length = m.length ∧ ∀ (i : Nat) a r, as[i]? = some a → m[i]? = some r → H a = some (o (r.map V.int)) := by
  obtain ⟨as, rfl⟩ := refs_of fun i v e => let ⟨b, _, e2, _⟩ := h i v e; ⟨b, e2⟩
  refine ⟨as, rfl, by simpa using l, fun i a r e1 e2 => ?_⟩
  obtain ⟨b, r2, h1, h2, h3⟩ := h i (.ref a) (by rw [List.getElem?_map, e1]; rfl)
  cases h1
  rw [e2] at h2
  cases h2
  exact h3
theorem RowsL.matv {K : PySem.W.Frag} {H : Hp} {L : Addr} {m : List (List Int)} (h : RowsL H L m) : ∃ xs, MatV K H L xs m := by
  obtain ⟨as, a, b, c⟩ := h
  refine ⟨_, .inl (SqL.of a), by rw [List.length_map, b], fun i w r e1 e2 => ?_⟩
  rw [List.getElem?_map] at e1
  obtain ⟨x, hx, rfl⟩ := Option.map_eq_some_iff.mp e1
  exact ⟨x, rfl, .inl (SqL.of (c i x r hx e2))⟩
theorem RowsT.matv {K : PySem.W.Frag} {H : Hp} {L : Addr} {m : List (List Int)} (h : RowsT H L m) : ∃ xs, MatV K H L xs m := by
  obtain ⟨as, a, b, c⟩ := h
  refine ⟨_, .inr (SqT.of a), by rw [List.length_map, b], fun i w r e1 e2 => ?_⟩
  rw [List.getElem?_map] at e1
  obtain ⟨x, hx, rfl⟩ := Option.map_eq_some_iff.mp e1
  exact ⟨x, rfl, .inr (SqT.of (c i x r hx e2))⟩
theorem MatV.lens {K : PySem.W.Frag} {H : Hp} {a : Addr} {xs : List V} {m : List (List Int)} (h : MatV K H a xs m) : LensV K H a xs (m.map List.length) := by
  obtain ⟨h1, h2, h3⟩ := h
  refine ⟨h1, by rw [h2, List.length_map], fun i w n e1 e2 => ?_⟩
  rw [List.getElem?_map] at e2
  obtain ⟨r, hr, rfl⟩ := Option.map_eq_some_iff.mp e2
  obtain ⟨b, e, hb⟩ := h3 i w r e1 hr
  exact ⟨b, _, e, hb, by rw [List.length_map]⟩
theorem LensV.ex {K : PySem.W.Frag} {H H' : Hp} {a : Addr} {xs : List V} {ns : List Nat} (h : LensV K H a xs ns) (e : Ex H H') : LensV K H' a xs ns := by
  obtain ⟨h1, h2, h3⟩ := h
  exact ⟨h1.ex e, h2, fun i w n e1 e2 => let ⟨b, ys, x, y, z⟩ := h3 i w n e1 e2; ⟨b, ys, x, y.ex e, z⟩⟩
theorem MatV.ex {K : PySem.W.Frag} {H H' : Hp} {a : Addr} {xs : List V} {m : List (List Int)} (h : MatV K H a xs m) (e : Ex H H') : MatV K H' a xs m := by
  obtain ⟨h1, h2, h3⟩ := h
  exact ⟨h1.ex e, h2, fun i w r e1 e2 => let ⟨b, x, y⟩ := h3 i w r e1 e2; ⟨b, x, y.ex e⟩⟩
theorem vals_true {vs : List V} (h : ∀ (i : Nat) v, vs[i]? = some v → v = V.bl true) : vs = (List.replicate vs.length true).map V.bl := by
  refine List.ext_getElem? fun i => ?_
  by_cases c : i < vs.length
  · rw [List.getElem?_eq_getElem c, h i _ (List.getElem?_eq_getElem c), List.getElem?_map, List.getElem?_replicate, if_pos c]; rfl
  · rw [List.getElem?_eq_none (by omega), List.getElem?_eq_none (by rw [List.length_map, List.length_replicate]; omega)]
theorem all_true (n : Nat) : (List.replicate n true).all id = true := by
  rw [List.all_eq_true]
  intro x hx
  rw [(List.mem_replicate.mp hx).2]
  rfl
theorem shapedI (r : List Int) : SeqAt.shaped (PyData.list (r.map PyData.int)) = true := by
  have := depI r
  unfold SeqAt.shaped
  simp [PyData.canLay0, PyData.depth, layI]
  omega
theorem shapedIT (r : List Int) : SeqAt.shaped (PyData.tuple (r.map PyData.int)) = true := by
  have := depI r
  unfold SeqAt.shaped
  simp [PyData.canLay0, PyData.depth, layI]
  omega
/-! ### with a pot that is drawn from -/
theorem PotL.ne {H : Hp} {p l D : Addr} (h : PotL H p l) (n : H D = none) : D ≠ p ∧ D ≠ l := by
  obtain ⟨cs, i, c, ne, h1, h2, _⟩ := h
  exact ⟨(ne_of_none h1 n).symm, (ne_of_none h2 n).symm⟩
theorem ints_ne {H : Hp} {p l a : Addr} {ns : List Int} (h : PotL H p l) (ha : H a = some (.lst (ns.map V.int))) : a ≠ p := by
  obtain ⟨cs, i, c, ne, h1, h2, _⟩ := h
  rintro rfl
  rw [ha] at h1
  cases ns with
  | nil => cases h1
  | cons n ns => cases h1
theorem refs_ne {H : Hp} {p l a : Addr} {as : List Addr} (h : PotL H p l) (ha : H a = some (.lst (as.map V.ref))) : a ≠ p := by
  obtain ⟨cs, i, c, ne, h1, h2, _⟩ := h
  rintro rfl
  rw [ha] at h1
  match as, h1 with
  | [], h1 => cases h1
  | [_], h1 => cases h1
  | _ :: _ :: _, h1 => cases h1
theorem RowsL.kp {H H' : Hp} {L p l : Addr} {m : List (List Int)} (h : RowsL H L m) (pot : PotL H p l) (k : Keep p H H') : RowsL H' L m := by
  obtain ⟨as, a, b, c⟩ := h
  exact ⟨as, k _ _ a (refs_ne pot a), b, fun i x r e1 e2 => k _ _ (c i x r e1 e2) (ints_ne pot (c i x r e1 e2))⟩
theorem RowsT.nl {H H' : Hp} {L : Addr} {m : List (List Int)} (h : RowsT H L m) (k : NL H H') : RowsT H' L m := let ⟨as, a, b, c⟩ := h; ⟨as, k.tup a, b, fun i x r e1 e2 => k.tup (c i x r e1 e2)⟩
theorem kp_at {p D : Addr} {H H' : Hp} {o : HO} (k : Fc.Keep p H H') (hD : H D = none) : Fc.Keep p H (L2.upd H' D o) := fun b ob hb ne => by rw [L2.upd_ne (ne_of_none hb hD)]; exact k b ob hb ne
section
variable {K : PySem.W.Frag} {g : TG} {te : TE} {ws : List Nat} {σ : L2.St} {H : Hp} {Q : VK}
theorem lcRP {lo : Int} {n : Nat} {wi : TI} {p l : Addr} (Pb : Nat → Int → Prop) (hn : n ≤ 100000) (pot : PotL H p l) (hw : ∀ P : It → Hp → Prop, P (Itr lo n) H → wi σ H P)
    (hs : ∀ i H' D, i < n → PotL H' p l → Keep p H H' → (∃ o, H' D = some o) → ∀ Q' : VK, (∀ x H2, Pb i x → PotL H2 p l → Keep p H' H2 → Q' (.int x) H2) → LcBody g te ws σ (V.int (lo + (i : Int))) H' Q')
    (k : ∀ D H2 (xs : List Int), H D = none → H2 D = some (.lst (xs.map V.int)) → xs.length = n → (∀ (i : Nat) x, xs[i]? = some x → Pb i x) → PotL H2 p l → Keep p H H2 → Q (.ref D) H2) : tLc wi g tYes te ws σ H Q := by
  refine hw _ fun D hD => ?_
  obtain ⟨dp, dl⟩ := pot.ne hD
  refine it_rng (fun i H' => PotL H' p l ∧ Keep p H H' ∧ ∃ xs : List Int, H' D = some (.lst (xs.map V.int)) ∧ xs.length = i ∧ ∀ (j : Nat) x, xs[j]? = some x → Pb j x)
    ⟨pot.ex (Ex.new hD), Keep.new hD, [], upd_same, rfl, fun j x e => by simp at e⟩ (fun i H' hi q => ?_) (fun H' q => ?_)
  · obtain ⟨pt, kp, xs, h1, h2, h3⟩ := q
    refine hs i H' D hi pt kp ⟨_, h1⟩ _ fun x H2 px p2 k2 => ?_
    have hD2 := k2 _ _ h1 dp
    refine ⟨_, hD2, by rw [List.length_map, h2, sizeLine_eq]; omega, p2.keep (fun b o hb ne => by rw [upd_ne ne]; exact hb) dp dl, kp_at (kp.trans k2) hD, xs ++ [x], by rw [upd_same, List.map_append]; rfl, by rw [List.length_append, h2]; rfl, fun j y hj => ?_⟩
    by_cases c : j < xs.length
    · rw [List.getElem?_append_left c] at hj
      exact h3 j y hj
    · have hj2 : j = xs.length := by
        have := (List.getElem?_eq_some_iff.mp hj).1
        rw [List.length_append] at this
        simp at this
        omega
      subst hj2
      rw [List.getElem?_append_right (Nat.le_refl _)] at hj
      simp at hj
      subst hj
      rw [h2]
      exact px
  · obtain ⟨pt, kp, xs, h1, h2, h3⟩ := q
    exact k D H' xs hD h1 h2 h3 pt kp
end
theorem pick_all {P : Nat → Addr → List Addr → Prop} : ∀ {vs : List V} {n : Nat}, (∀ (i : Nat) v, vs[i]? = some v → ∃ b cs, v = V.ref b ∧ P (n + i) b cs) →
    ∃ (as : List Addr) (css : List (List Addr)), vs = as.map V.ref ∧ css.length = as.length ∧ ∀ (i : Nat) b cs, as[i]? = some b → css[i]? = some cs → P (n + i) b cs
  | [], n, _ => ⟨[], [], rfl, rfl, fun i b cs h => by simp at h⟩
  | v :: vs, n, h => by
    obtain ⟨b, cs, rfl, hb⟩ := h 0 v rfl
    obtain ⟨as, css, e, l, k⟩ := pick_all (P := P) (vs := vs) (n := n + 1) fun i v hv => by
      have := h (i + 1) v (by simpa using hv)
      rwa [show n + (i + 1) = n + 1 + i by omega] at this
    subst e
    refine ⟨b :: as, cs :: css, rfl, by simpa using l, fun i c ds h1 h2 => ?_⟩
    cases i with
    | zero => cases h1; cases h2; exact hb
    | succ i =>
      have := k i c ds (by simpa using h1) (by simpa using h2)
      rwa [show n + 1 + i = n + (i + 1) by omega] at this
/-- e.f read within a comprehension: the fragment named -/
theorem pe_fldN {X : Cx} (K : PySem.W.Frag) {e : Expr} {f : Str} {pos : Pos} {ta : TE} (he : PE X e ta) (hb : attributeBase e f X.env (eval e X.env) = eval e X.env := by rfl) (hK : X.K = K := by rfl) : PE X (.Attribute e f pos) (tFld K ta f) := by
  subst hK
  exact pe_fld he hb
end Fc
set_option Elab.async false
set_option linter.all false
set_option maxRecDepth 100000
set_option maxHeartbeats 4000000
set_option exponentiation.threshold 100000
namespace Fc
open PySem PySem.Spec PyProof.Rows L2 L2H
/-! ### the text -/
def top (i : Nat) : Stmt := PySem.Challenge.pw_fewcarry_k07_grid_form.main.body.getD i (.Pass ⟨0, 0, 0, 0⟩)
abbrev S_cbot : Stmt := top 3
abbrev N_cbot : List Str := ["ratios", "bottom", "ratio"]
theorem sc_cbot : FnScope N_cbot ["ratios"] (defScope S_cbot) := ⟨rfl, rfl, rfl, by decide +kernel, rfl, by decide +kernel, by decide +kernel⟩
abbrev S_oob : Stmt := inClass (top 7) 0
abbrev N_oob : List Str := ["self", "value"]
theorem sc_oob : FnScope N_oob ["self", "value"] (defScope S_oob) := ⟨rfl, rfl, rfl, by decide +kernel, rfl, by decide +kernel, by decide +kernel⟩
abbrev S_bpl : Stmt := inClass (top 10) 0
abbrev N_bpl : List Str := ["self", "place"]
theorem sc_bpl : FnScope N_bpl ["self", "place"] (defScope S_bpl) := ⟨rfl, rfl, rfl, by decide +kernel, rfl, by decide +kernel, by decide +kernel⟩
abbrev S_init : Stmt := inClass (top 16) 0
abbrev N_init : List Str := ["self", "top", "bottom", "divisor"]
theorem sc_init : FnScope N_init ["self", "top", "bottom"] (defScope S_init) := ⟨rfl, rfl, rfl, by decide +kernel, rfl, by decide +kernel, by decide +kernel⟩
abbrev S_dot : Stmt := top 18
abbrev N_dot : List Str := ["left", "right", "x", "y"]
theorem sc_dot : FnScope N_dot ["left", "right"] (defScope S_dot) := ⟨rfl, rfl, rfl, by decide +kernel, rfl, by decide +kernel, by decide +kernel⟩
abbrev S_trows : Stmt := top 19
abbrev N_trows : List Str := ["rows", "width", "row", "j"]
theorem sc_trows : FnScope N_trows ["rows", "width"] (defScope S_trows) := ⟨rfl, rfl, rfl, by decide +kernel, rfl, by decide +kernel, by decide +kernel⟩
abbrev S_cdiv : Stmt := top 20
abbrev N_cdiv : List Str := ["row", "divisor", "number"]
theorem sc_cdiv : FnScope N_cdiv ["row"] (defScope S_cdiv) := ⟨rfl, rfl, rfl, by decide +kernel, rfl, by decide +kernel, by decide +kernel⟩
abbrev S_ginit : Stmt := inClass (top 23) 0
abbrev N_ginit : List Str := ["self", "rows", "over", "divisor", "number", "row"]
theorem sc_ginit : FnScope N_ginit ["self", "rows", "over"] (defScope S_ginit) := ⟨rfl, rfl, rfl, by decide +kernel, rfl, by decide +kernel, by decide +kernel⟩
abbrev S_gof : Stmt := inClass (top 23) 1
abbrev N_gof : List Str := ["cls", "ratios", "over", "row", "ratio"]
theorem sc_gof : FnScope N_gof ["cls", "ratios"] (defScope S_gof) := ⟨rfl, rfl, rfl, by decide +kernel, rfl, by decide +kernel, by decide +kernel⟩
abbrev S_gunit : Stmt := inClass (top 23) 2
abbrev N_gunit : List Str := ["size", "j", "i"]
theorem sc_gunit : FnScope N_gunit ["size"] (defScope S_gunit) := ⟨rfl, rfl, rfl, by decide +kernel, rfl, by decide +kernel, by decide +kernel⟩
abbrev S_geq : Stmt := inClass (top 23) 6
abbrev N_geq : List Str := ["self", "other"]
theorem sc_geq : FnScope N_geq ["self", "other"] (defScope S_geq) := ⟨rfl, rfl, rfl, by decide +kernel, rfl, by decide +kernel, by decide +kernel⟩
abbrev S_gget : Stmt := inClass (top 23) 7
abbrev N_gget : List Str := ["self", "at", "i", "j"]
theorem sc_gget : FnScope N_gget ["self", "at"] (defScope S_gget) := ⟨rfl, rfl, rfl, by decide +kernel, rfl, by decide +kernel, by decide +kernel⟩
abbrev S_gscaled : Stmt := inClass (top 23) 9
abbrev N_gscaled : List Str := ["self", "ratio", "rows", "number", "row"]
theorem sc_gscaled : FnScope N_gscaled ["self", "ratio"] (defScope S_gscaled) := ⟨rfl, rfl, rfl, by decide +kernel, rfl, by decide +kernel, by decide +kernel⟩
abbrev S_gturned : Stmt := inClass (top 23) 10
abbrev N_gturned : List Str := ["self"]
theorem sc_gturned : FnScope N_gturned ["self"] (defScope S_gturned) := ⟨rfl, rfl, rfl, by decide +kernel, rfl, by decide +kernel, by decide +kernel⟩
abbrev S_gpart : Stmt := inClass (top 23) 11
abbrev N_gpart : List Str := ["self", "row_places", "column_places", "rows", "j", "i"]
theorem sc_gpart : FnScope N_gpart ["self", "row_places", "column_places"] (defScope S_gpart) := ⟨rfl, rfl, rfl, by decide +kernel, rfl, by decide +kernel, by decide +kernel⟩
abbrev S_gform : Stmt := inClass (top 23) 12
abbrev N_gform : List Str := ["self", "left", "right", "row"]
theorem sc_gform : FnScope N_gform ["self", "left", "right"] (defScope S_gform) := ⟨rfl, rfl, rfl, by decide +kernel, rfl, by decide +kernel, by decide +kernel⟩
abbrev S_gtrace : Stmt := inClass (top 23) 13
abbrev N_gtrace : List Str := ["self", "k"]
theorem sc_gtrace : FnScope N_gtrace ["self"] (defScope S_gtrace) := ⟨rfl, rfl, rfl, by decide +kernel, rfl, by decide +kernel, by decide +kernel⟩
abbrev S_cshape : Stmt := top 24
abbrev N_cshape : List Str := ["rows", "row"]
theorem sc_cshape : FnScope N_cshape ["rows"] (defScope S_cshape) := ⟨rfl, rfl, rfl, by decide +kernel, rfl, by decide +kernel, by decide +kernel⟩
abbrev S_cplaces : Stmt := top 25
abbrev N_cplaces : List Str := ["places", "many", "place"]
theorem sc_cplaces : FnScope N_cplaces ["places", "many"] (defScope S_cplaces) := ⟨rfl, rfl, rfl, by decide +kernel, rfl, by decide +kernel, by decide +kernel⟩
abbrev S_shared : Stmt := top 26
abbrev N_shared : List Str := ["rows", "over", "divisor", "row"]
theorem sc_shared : FnScope N_shared ["rows", "over"] (defScope S_shared) := ⟨rfl, rfl, rfl, by decide +kernel, rfl, by decide +kernel, by decide +kernel⟩
abbrev S_start : Stmt := top 29
abbrev N_start : List Str := ["script", "cell"]
theorem sc_start : FnScope N_start ["script"] (defScope S_start) := ⟨rfl, rfl, rfl, by decide +kernel, rfl, by decide +kernel, by decide +kernel⟩
abbrev S_digit : Stmt := top 30
abbrev N_digit : List Str := ["pot", "many", "digit"]
theorem sc_digit : FnScope N_digit ["pot", "many"] (defScope S_digit) := ⟨rfl, rfl, rfl, by decide +kernel, rfl, by decide +kernel, by decide +kernel⟩
abbrev S_lcommon : Stmt := top 31
abbrev N_lcommon : List Str := ["u", "v", "k", "rest"]
theorem sc_lcommon : FnScope N_lcommon ["u", "v"] (defScope S_lcommon) := ⟨rfl, rfl, rfl, by decide +kernel, rfl, by decide +kernel, by decide +kernel⟩
abbrev S_number : Stmt := top 32
abbrev N_number : List Str := ["pot", "many", "shift"]
theorem sc_number : FnScope N_number ["pot", "many", "shift"] (defScope S_number) := ⟨rfl, rfl, rfl, by decide +kernel, rfl, by decide +kernel, by decide +kernel⟩
abbrev S_cells : Stmt := top 33
abbrev N_cells : List Str := ["pot", "height", "width", "kind", "many", "rows", "i", "shift", "row", "j", "cell"]
theorem sc_cells : FnScope N_cells ["pot", "height", "width"] (defScope S_cells) := ⟨rfl, rfl, rfl, by decide +kernel, rfl, by decide +kernel, by decide +kernel⟩
abbrev S_wide : Stmt := top 34
abbrev N_wide : List Str := ["rows"]
theorem sc_wide : FnScope N_wide ["rows"] (defScope S_wide) := ⟨rfl, rfl, rfl, by decide +kernel, rfl, by decide +kernel, by decide +kernel⟩
abbrev S_copy : Stmt := top 35
abbrev N_copy : List Str := ["rows", "row"]
theorem sc_copy : FnScope N_copy ["rows"] (defScope S_copy) := ⟨rfl, rfl, rfl, by decide +kernel, rfl, by decide +kernel, by decide +kernel⟩
abbrev S_whole : Stmt := top 36
abbrev N_whole : List Str := ["told"]
theorem sc_whole : FnScope N_whole ["told"] (defScope S_whole) := ⟨rfl, rfl, rfl, by decide +kernel, rfl, by decide +kernel, by decide +kernel⟩
abbrev S_isratio : Stmt := top 37
abbrev N_isratio : List Str := ["told", "top", "bottom", "common"]
theorem sc_isratio : FnScope N_isratio ["told", "top", "bottom"] (defScope S_isratio) := ⟨rfl, rfl, rfl, by decide +kernel, rfl, by decide +kernel, by decide +kernel⟩
abbrev S_lis : Stmt := top 38
abbrev N_lis : List Str := ["told", "rows", "over", "common", "row", "cell", "due", "fields", "field"]
theorem sc_lis : FnScope N_lis ["told", "rows", "over"] (defScope S_lis) := ⟨rfl, rfl, rfl, by decide +kernel, rfl, by decide +kernel, by decide +kernel⟩
abbrev S_badshape : Stmt := top 39
abbrev N_badshape : List Str := ["way", "a", "first", "second", "e"]
theorem sc_badshape : FnScope N_badshape ["way", "a", "first", "second"] (defScope S_badshape) := ⟨rfl, rfl, rfl, by decide +kernel, rfl, by decide +kernel, by decide +kernel⟩
abbrev S_badover : Stmt := top 40
abbrev N_badover : List Str := ["rows", "over", "e"]
theorem sc_badover : FnScope N_badover ["rows", "over"] (defScope S_badover) := ⟨rfl, rfl, rfl, by decide +kernel, rfl, by decide +kernel, by decide +kernel⟩
abbrev S_noentry : Stmt := top 41
abbrev N_noentry : List Str := ["a", "i", "j", "told", "e"]
theorem sc_noentry : FnScope N_noentry ["a", "i", "j"] (defScope S_noentry) := ⟨rfl, rfl, rfl, by decide +kernel, rfl, by decide +kernel, by decide +kernel⟩
abbrev S_badplace : Stmt := top 42
abbrev N_badplace : List Str := ["a", "up", "across", "place", "e"]
theorem sc_badplace : FnScope N_badplace ["a", "up", "across", "place"] (defScope S_badplace) := ⟨rfl, rfl, rfl, by decide +kernel, rfl, by decide +kernel, by decide +kernel⟩
abbrev S_made : Stmt := top 43
abbrev N_made : List Str := ["pot", "rows", "over", "times", "handed", "cell", "row", "kept", "a", "fixed", "ratios", "b"]
theorem sc_made : FnScope N_made ["pot", "rows", "over"] (defScope S_made) := ⟨rfl, rfl, rfl, by decide +kernel, rfl, by decide +kernel, by decide +kernel⟩
abbrev S_mixed : Stmt := top 44
abbrev N_mixed : List Str := ["pot", "rows", "handed", "due", "i", "row", "low", "j"]
theorem sc_mixed : FnScope N_mixed ["pot", "rows"] (defScope S_mixed) := ⟨rfl, rfl, rfl, by decide +kernel, rfl, by decide +kernel, by decide +kernel⟩
abbrev S_entries : Stmt := top 45
abbrev N_entries : List Str := ["a", "rows", "over", "height", "width", "i", "j", "other", "b", "place"]
theorem sc_entries : FnScope N_entries ["a", "rows", "over"] (defScope S_entries) := ⟨rfl, rfl, rfl, by decide +kernel, rfl, by decide +kernel, by decide +kernel⟩
abbrev S_places : Stmt := top 46
abbrev N_places : List Str := ["pot", "size", "many", "k"]
theorem sc_places : FnScope N_places ["pot", "size"] (defScope S_places) := ⟨rfl, rfl, rfl, by decide +kernel, rfl, by decide +kernel, by decide +kernel⟩
abbrev S_outside : Stmt := top 47
abbrev N_outside : List Str := ["pot", "size", "beyond"]
theorem sc_outside : FnScope N_outside ["pot", "size"] (defScope S_outside) := ⟨rfl, rfl, rfl, by decide +kernel, rfl, by decide +kernel, by decide +kernel⟩
abbrev S_parts : Stmt := top 48
abbrev N_parts : List Str := ["pot", "a", "rows", "over", "height", "width", "up", "across", "due", "j", "i", "handed", "bad", "wrong", "at", "first", "second", "other", "k", "last"]
theorem sc_parts : FnScope N_parts ["pot", "a", "rows", "over"] (defScope S_parts) := ⟨rfl, rfl, rfl, by decide +kernel, rfl, by decide +kernel, by decide +kernel⟩
abbrev S_sums : Stmt := top 49
abbrev N_sums : List Str := ["pot", "a", "rows", "over", "height", "width", "many", "left", "right", "shift", "i", "j", "total", "handed", "told", "more"]
theorem sc_sums : FnScope N_sums ["pot", "a", "rows", "over"] (defScope S_sums) := ⟨rfl, rfl, rfl, by decide +kernel, rfl, by decide +kernel, by decide +kernel⟩
abbrev S_changed : Stmt := top 50
abbrev N_changed : List Str := ["pot", "a", "rows", "over", "due", "j", "row", "top", "low", "cell"]
theorem sc_changed : FnScope N_changed ["pot", "a", "rows", "over"] (defScope S_changed) := ⟨rfl, rfl, rfl, by decide +kernel, rfl, by decide +kernel, by decide +kernel⟩
abbrev S_refused : Stmt := top 51
abbrev N_refused : List Str := ["pot", "a", "rows", "width", "at", "odd", "over", "handed", "ratios", "cell", "row"]
theorem sc_refused : FnScope N_refused ["pot", "a", "rows"] (defScope S_refused) := ⟨rfl, rfl, rfl, by decide +kernel, rfl, by decide +kernel, by decide +kernel⟩
abbrev S_units : Stmt := top 52
abbrev N_units : List Str := ["pot", "a", "size", "due", "j", "i"]
theorem sc_units : FnScope N_units ["pot", "a"] (defScope S_units) := ⟨rfl, rfl, rfl, by decide +kernel, rfl, by decide +kernel, by decide +kernel⟩
abbrev S_law : Stmt := top 53
abbrev N_law : List Str := ["script", "pot", "height", "width", "drawn", "rows", "over", "a"]
theorem sc_law : FnScope N_law ["script"] (defScope S_law) := ⟨rfl, rfl, rfl, by decide +kernel, rfl, by decide +kernel, by decide +kernel⟩
structure Ad where
  C : Addr
  f_init : Addr
  d_init : FuncData
  Z : Addr
  CE : Addr
  BS : Addr
  O : Addr
  P : Addr
  Gr : Addr
  f_ginit : Addr
  d_ginit : FuncData
  f_cbot : Addr
  d_cbot : FuncData
  f_oob : Addr
  d_oob : FuncData
  f_bpl : Addr
  d_bpl : FuncData
  f_dot : Addr
  d_dot : FuncData
  f_trows : Addr
  d_trows : FuncData
  f_cdiv : Addr
  d_cdiv : FuncData
  f_gof : Addr
  d_gof : FuncData
  f_gunit : Addr
  d_gunit : FuncData
  f_geq : Addr
  d_geq : FuncData
  f_gget : Addr
  d_gget : FuncData
  f_gscaled : Addr
  d_gscaled : FuncData
  f_gturned : Addr
  d_gturned : FuncData
  f_gpart : Addr
  d_gpart : FuncData
  f_gform : Addr
  d_gform : FuncData
  f_gtrace : Addr
  d_gtrace : FuncData
  f_cshape : Addr
  d_cshape : FuncData
  f_cplaces : Addr
  d_cplaces : FuncData
  f_shared : Addr
  d_shared : FuncData
  f_start : Addr
  d_start : FuncData
  f_digit : Addr
  d_digit : FuncData
  f_lcommon : Addr
  d_lcommon : FuncData
  f_number : Addr
  d_number : FuncData
  f_cells : Addr
  d_cells : FuncData
  f_wide : Addr
  d_wide : FuncData
  f_copy : Addr
  d_copy : FuncData
  f_whole : Addr
  d_whole : FuncData
  f_isratio : Addr
  d_isratio : FuncData
  f_lis : Addr
  d_lis : FuncData
  f_badshape : Addr
  d_badshape : FuncData
  f_badover : Addr
  d_badover : FuncData
  f_noentry : Addr
  d_noentry : FuncData
  f_badplace : Addr
  d_badplace : FuncData
  f_made : Addr
  d_made : FuncData
  f_mixed : Addr
  d_mixed : FuncData
  f_entries : Addr
  d_entries : FuncData
  f_places : Addr
  d_places : FuncData
  f_outside : Addr
  d_outside : FuncData
  f_parts : Addr
  d_parts : FuncData
  f_sums : Addr
  d_sums : FuncData
  f_changed : Addr
  d_changed : FuncData
  f_refused : Addr
  d_refused : FuncData
  f_units : Addr
  d_units : FuncData
  f_law : Addr
  d_law : FuncData
structure Txt (K : PySem.W.Frag) (mg : Str → Option Value) (A : Ad) : Prop where
  hn : PySem.W.specialIn K (.builtin "object.__class__") "__get__" = some (some (.builtin "getset_descriptor.__get__"))
  htk : PySem.W.takesIn K (.builtin "object.__class__") = some true
  cl : Cls K A.C
  nT : NoAttr K A.C "top"
  nB : NoAttr K A.C "bottom"
  mkC : Mk K A.C A.f_init
  ha : PySem.W.findIn K (.ref A.C) "__class__" = some (some (.builtin "object.__class__"))
  hm : PySem.W.mroIn K A.C (.type "object") = some true
  F_init : FunD K "__init__" "Ratio.__init__" (defArgs S_init) (defBody S_init) (defScope S_init) [.int 1] [] A.f_init A.d_init
  b_init3 : Binds K A.d_init ["self", "top", "bottom"] []
  b_init2 : ∃ ds, Vals [V.int 1] ds ∧ Binds K A.d_init ["self", "top", "bottom"] ds
  g_Ratio : mg "Ratio" = some (.ref A.C)
  g_gcd : mg "gcd" = some (.builtin "math.gcd")
  g_Z : mg "ZeroBottom" = some (.ref A.Z)
  xZ : PySem.W.excIn K A.Z [.type "ValueError", .type "Exception", .type "BaseException", .type "object"] "ValueError.__new__" = true
  kZ : PySem.W.keepIn K (.ref A.Z) = true
  bZ : PySem.W.subIn K (.ref A.Z) (.type "BaseException") = some true
  tZ : PySem.W.typeIn K (.ref A.Z) = some (.type "type")
  g_CE : mg "CarryError" = some (.ref A.CE)
  g_lcm : mg "lcm" = some (.builtin "math.lcm")
  g_BS : mg "BadShape" = some (.ref A.BS)
  x_BS : PySem.W.excIn K A.BS [.type "ValueError", .type "Exception", .type "BaseException", .type "object"] "ValueError.__new__" = true
  k_BS : PySem.W.keepIn K (.ref A.BS) = true
  bs_BS : PySem.W.subIn K (.ref A.BS) (.type "BaseException") = some true
  t_BS : PySem.W.typeIn K (.ref A.BS) = some (.type "type")
  e_BS : PySem.W.exmOne K (.ref A.BS) (.ref A.CE) = some true
  X_BS : ExcC K A.BS
  v_BS : PySem.W.kitOne K (.ref A.BS) (.type "ValueError") = some true
  g_O : mg "OutOfBounds" = some (.ref A.O)
  o_O : OexC K A.O
  in_O : PySem.W.findIn K (.ref A.O) "__init__" = some (some (.ref A.f_oob))
  ti_O : PySem.W.typeIn K (.ref A.f_oob) = some (.type "function")
  xf_O : XfC K A.O
  e_O : PySem.W.exmOne K (.ref A.O) (.ref A.CE) = some true
  X_O : ExcC K A.O
  v_O : PySem.W.kitOne K (.ref A.O) (.type "ValueError") = some true
  n_O_value : PySem.W.findIn K (.ref A.O) "value" = some none
  g_P : mg "BadPlace" = some (.ref A.P)
  o_P : OexC K A.P
  in_P : PySem.W.findIn K (.ref A.P) "__init__" = some (some (.ref A.f_bpl))
  ti_P : PySem.W.typeIn K (.ref A.f_bpl) = some (.type "function")
  xf_P : XfC K A.P
  e_P : PySem.W.exmOne K (.ref A.P) (.ref A.CE) = some true
  X_P : ExcC K A.P
  v_P : PySem.W.kitOne K (.ref A.P) (.type "ValueError") = some true
  n_P_place : PySem.W.findIn K (.ref A.P) "place" = some none
  bsNo : PySem.W.kitOne K (.ref A.BS) (.ref A.O) = some false
  oNbs : PySem.W.kitOne K (.ref A.O) (.ref A.BS) = some false
  pNbs : PySem.W.kitOne K (.ref A.P) (.ref A.BS) = some false
  gi_MOST_SIZE : ∃ tk, mg "_MOST_SIZE" = some (.int 64 tk)
  c_Gr : Cls K A.Gr
  mk_Gr : Mk K A.Gr A.f_ginit
  ha_Gr : PySem.W.findIn K (.ref A.Gr) "__class__" = some (some (.builtin "object.__class__"))
  hm_Gr : PySem.W.mroIn K A.Gr (.type "object") = some true
  g_Grid : mg "Grid" = some (.ref A.Gr)
  F_ginit : FunD K "__init__" "Grid.__init__" (defArgs S_ginit) (defBody S_ginit) (defScope S_ginit) [.int 1] [] A.f_ginit A.d_ginit
  b_ginit : Binds K A.d_ginit ["self", "rows", "over"] []
  b1_ginit : ∃ ds, Vals [V.int 1] ds ∧ Binds K A.d_ginit ["self", "rows", "over"] ds
  na_Gr_rows : NoAttr K A.Gr "rows"
  na_Gr_over : NoAttr K A.Gr "over"
  na_Gr_height : NoAttr K A.Gr "height"
  na_Gr_width : NoAttr K A.Gr "width"
  tyG : PySem.W.typeIn K (.ref A.Gr) = some (.type "type")
  subG : ∀ t, t ∈ ["int", "str", "NoneType", "tuple", "list"] → PySem.W.subIn K (.type t) (.ref A.Gr) = some false ∧ PySem.W.subIn K (.ref A.Gr) (.type t) = some false
  crGr : ClX.CRead K A.Gr (.type "type")
  n_len : mg "len" = none
  n_abs : mg "abs" = none
  n_int : mg "int" = none
  n_bool : mg "bool" = none
  n_isinstance : mg "isinstance" = none
  n_range : mg "range" = none
  n_ValueError : mg "ValueError" = none
  n_list : mg "list" = none
  n_sum : mg "sum" = none
  n_zip : mg "zip" = none
  n_tuple : mg "tuple" = none
  n_all : mg "all" = none
  F_cbot : Fun K "common_bottom" "common_bottom" S_cbot A.f_cbot A.d_cbot
  b_cbot : Binds K A.d_cbot ["ratios"] []
  g_cbot : mg "common_bottom" = some (.ref A.f_cbot)
  F_oob : Fun K "__init__" "OutOfBounds.__init__" S_oob A.f_oob A.d_oob
  b_oob : Binds K A.d_oob ["self", "value"] []
  m_oob : Meth K A.O "__init__" A.f_oob
  F_bpl : Fun K "__init__" "BadPlace.__init__" S_bpl A.f_bpl A.d_bpl
  b_bpl : Binds K A.d_bpl ["self", "place"] []
  m_bpl : Meth K A.P "__init__" A.f_bpl
  F_dot : Fun K "dot" "dot" S_dot A.f_dot A.d_dot
  b_dot : Binds K A.d_dot ["left", "right"] []
  g_dot : mg "dot" = some (.ref A.f_dot)
  F_trows : Fun K "turned_rows" "turned_rows" S_trows A.f_trows A.d_trows
  b_trows : Binds K A.d_trows ["rows", "width"] []
  g_trows : mg "turned_rows" = some (.ref A.f_trows)
  F_cdiv : Fun K "common_divisor" "common_divisor" S_cdiv A.f_cdiv A.d_cdiv
  b_cdiv : Binds K A.d_cdiv ["row"] []
  g_cdiv : mg "common_divisor" = some (.ref A.f_cdiv)
  F_gof : Fun K "of" "Grid.of" S_gof A.f_gof A.d_gof
  b_gof : Binds K A.d_gof ["cls", "ratios"] []
  p_gof : ∃ p, ClX.CMet K A.Gr (.type "type") "of" p A.f_gof
  F_gunit : Fun K "unit" "Grid.unit" S_gunit A.f_gunit A.d_gunit
  b_gunit : Binds K A.d_gunit ["size"] []
  p_gunit : ∃ p, SMet K A.Gr (.type "type") "unit" p A.f_gunit
  F_geq : Fun K "__eq__" "Grid.__eq__" S_geq A.f_geq A.d_geq
  b_geq : Binds K A.d_geq ["self", "other"] []
  m_geq : Meth K A.Gr "__eq__" A.f_geq
  F_gget : Fun K "__getitem__" "Grid.__getitem__" S_gget A.f_gget A.d_gget
  b_gget : Binds K A.d_gget ["self", "at"] []
  m_gget : Meth K A.Gr "__getitem__" A.f_gget
  fi_gget : PySem.W.fnIn K A.f_gget = true
  F_gscaled : Fun K "scaled" "Grid.scaled" S_gscaled A.f_gscaled A.d_gscaled
  b_gscaled : Binds K A.d_gscaled ["self", "ratio"] []
  m_gscaled : Meth K A.Gr "scaled" A.f_gscaled
  F_gturned : Fun K "turned" "Grid.turned" S_gturned A.f_gturned A.d_gturned
  b_gturned : Binds K A.d_gturned ["self"] []
  m_gturned : Meth K A.Gr "turned" A.f_gturned
  F_gpart : Fun K "part" "Grid.part" S_gpart A.f_gpart A.d_gpart
  b_gpart : Binds K A.d_gpart ["self", "row_places", "column_places"] []
  m_gpart : Meth K A.Gr "part" A.f_gpart
  F_gform : Fun K "form" "Grid.form" S_gform A.f_gform A.d_gform
  b_gform : Binds K A.d_gform ["self", "left", "right"] []
  m_gform : Meth K A.Gr "form" A.f_gform
  F_gtrace : Fun K "trace" "Grid.trace" S_gtrace A.f_gtrace A.d_gtrace
  b_gtrace : Binds K A.d_gtrace ["self"] []
  m_gtrace : Meth K A.Gr "trace" A.f_gtrace
  F_cshape : Fun K "_check_shape" "_check_shape" S_cshape A.f_cshape A.d_cshape
  b_cshape : Binds K A.d_cshape ["rows"] []
  g_cshape : mg "_check_shape" = some (.ref A.f_cshape)
  F_cplaces : Fun K "_check_places" "_check_places" S_cplaces A.f_cplaces A.d_cplaces
  b_cplaces : Binds K A.d_cplaces ["places", "many"] []
  g_cplaces : mg "_check_places" = some (.ref A.f_cplaces)
  F_shared : Fun K "_shared_divisor" "_shared_divisor" S_shared A.f_shared A.d_shared
  b_shared : Binds K A.d_shared ["rows", "over"] []
  g_shared : mg "_shared_divisor" = some (.ref A.f_shared)
  F_start : Fun K "_law_start" "_law_start" S_start A.f_start A.d_start
  b_start : Binds K A.d_start ["script"] []
  g_start : mg "_law_start" = some (.ref A.f_start)
  F_digit : Fun K "_law_digit" "_law_digit" S_digit A.f_digit A.d_digit
  b_digit : Binds K A.d_digit ["pot", "many"] []
  g_digit : mg "_law_digit" = some (.ref A.f_digit)
  F_lcommon : Fun K "_law_common" "_law_common" S_lcommon A.f_lcommon A.d_lcommon
  b_lcommon : Binds K A.d_lcommon ["u", "v"] []
  g_lcommon : mg "_law_common" = some (.ref A.f_lcommon)
  F_number : Fun K "_law_number" "_law_number" S_number A.f_number A.d_number
  b_number : Binds K A.d_number ["pot", "many", "shift"] []
  g_number : mg "_law_number" = some (.ref A.f_number)
  F_cells : Fun K "_law_cells" "_law_cells" S_cells A.f_cells A.d_cells
  b_cells : Binds K A.d_cells ["pot", "height", "width"] []
  g_cells : mg "_law_cells" = some (.ref A.f_cells)
  F_wide : Fun K "_law_wide" "_law_wide" S_wide A.f_wide A.d_wide
  b_wide : Binds K A.d_wide ["rows"] []
  g_wide : mg "_law_wide" = some (.ref A.f_wide)
  F_copy : Fun K "_law_copy" "_law_copy" S_copy A.f_copy A.d_copy
  b_copy : Binds K A.d_copy ["rows"] []
  g_copy : mg "_law_copy" = some (.ref A.f_copy)
  F_whole : Fun K "_law_whole" "_law_whole" S_whole A.f_whole A.d_whole
  b_whole : Binds K A.d_whole ["told"] []
  g_whole : mg "_law_whole" = some (.ref A.f_whole)
  F_isratio : Fun K "_law_is_ratio" "_law_is_ratio" S_isratio A.f_isratio A.d_isratio
  b_isratio : Binds K A.d_isratio ["told", "top", "bottom"] []
  g_isratio : mg "_law_is_ratio" = some (.ref A.f_isratio)
  F_lis : Fun K "_law_is" "_law_is" S_lis A.f_lis A.d_lis
  b_lis : Binds K A.d_lis ["told", "rows", "over"] []
  g_lis : mg "_law_is" = some (.ref A.f_lis)
  F_badshape : Fun K "_law_bad_shape" "_law_bad_shape" S_badshape A.f_badshape A.d_badshape
  b_badshape : Binds K A.d_badshape ["way", "a", "first", "second"] []
  g_badshape : mg "_law_bad_shape" = some (.ref A.f_badshape)
  F_badover : Fun K "_law_bad_over" "_law_bad_over" S_badover A.f_badover A.d_badover
  b_badover : Binds K A.d_badover ["rows", "over"] []
  g_badover : mg "_law_bad_over" = some (.ref A.f_badover)
  F_noentry : Fun K "_law_no_entry" "_law_no_entry" S_noentry A.f_noentry A.d_noentry
  b_noentry : Binds K A.d_noentry ["a", "i", "j"] []
  g_noentry : mg "_law_no_entry" = some (.ref A.f_noentry)
  F_badplace : Fun K "_law_bad_place" "_law_bad_place" S_badplace A.f_badplace A.d_badplace
  b_badplace : Binds K A.d_badplace ["a", "up", "across", "place"] []
  g_badplace : mg "_law_bad_place" = some (.ref A.f_badplace)
  F_made : Fun K "_law_made" "_law_made" S_made A.f_made A.d_made
  b_made : Binds K A.d_made ["pot", "rows", "over"] []
  g_made : mg "_law_made" = some (.ref A.f_made)
  F_mixed : Fun K "_law_mixed" "_law_mixed" S_mixed A.f_mixed A.d_mixed
  b_mixed : Binds K A.d_mixed ["pot", "rows"] []
  g_mixed : mg "_law_mixed" = some (.ref A.f_mixed)
  F_entries : Fun K "_law_entries" "_law_entries" S_entries A.f_entries A.d_entries
  b_entries : Binds K A.d_entries ["a", "rows", "over"] []
  g_entries : mg "_law_entries" = some (.ref A.f_entries)
  F_places : Fun K "_law_places" "_law_places" S_places A.f_places A.d_places
  b_places : Binds K A.d_places ["pot", "size"] []
  g_places : mg "_law_places" = some (.ref A.f_places)
  F_outside : Fun K "_law_outside" "_law_outside" S_outside A.f_outside A.d_outside
  b_outside : Binds K A.d_outside ["pot", "size"] []
  g_outside : mg "_law_outside" = some (.ref A.f_outside)
  F_parts : Fun K "_law_parts" "_law_parts" S_parts A.f_parts A.d_parts
  b_parts : Binds K A.d_parts ["pot", "a", "rows", "over"] []
  g_parts : mg "_law_parts" = some (.ref A.f_parts)
  F_sums : Fun K "_law_sums" "_law_sums" S_sums A.f_sums A.d_sums
  b_sums : Binds K A.d_sums ["pot", "a", "rows", "over"] []
  g_sums : mg "_law_sums" = some (.ref A.f_sums)
  F_changed : Fun K "_law_changed" "_law_changed" S_changed A.f_changed A.d_changed
  b_changed : Binds K A.d_changed ["pot", "a", "rows", "over"] []
  g_changed : mg "_law_changed" = some (.ref A.f_changed)
  F_refused : Fun K "_law_refused" "_law_refused" S_refused A.f_refused A.d_refused
  b_refused : Binds K A.d_refused ["pot", "a", "rows"] []
  g_refused : mg "_law_refused" = some (.ref A.f_refused)
  F_units : Fun K "_law_units" "_law_units" S_units A.f_units A.d_units
  b_units : Binds K A.d_units ["pot", "a"] []
  g_units : mg "_law_units" = some (.ref A.f_units)
  F_law : Fun K "law" "law" S_law A.f_law A.d_law
  b_law : Binds K A.d_law ["script"] []
  g_law : mg "law" = some (.ref A.f_law)
section
variable {P : Program} {w : World} {K : PySem.W.Frag} {mg : Str → Option Value} {base : Heap} {A : Ad}
/-! ### Ratio.__init__: raises for a bottom 0, else lowest terms -/
def spInit (A : Ad) : Sp := fun vs H Q E => ∃ (x dx : Addr) (t b : Int), vs = [.ref x, .int t, .int b] ∧ H x = some (.ins A.C dx []) ∧ (b = 0 → E (.ref A.Z) none H) ∧
  (b ≠ 0 → Bd 8900 b ∧ ∀ H', RatAt A.C H' x (lo t b) → (∀ c o, H c = some o → c ≠ x → H' c = some o) → Q .non H')
theorem ok_init (T : Txt K mg A) : FnOk P w K mg base (L2.CX P w) 1 A.f_init A.d_init ["self", "top", "bottom"] (spInit A) := by
  refine T.F_init.ok sc_init (fun vs H Q E h => ?_) (fun cdv Ar outer s H vs Q E hr h => ?_)
  · obtain ⟨x, dx, t, b, rfl, _⟩ := h
    rfl
  · obtain ⟨x, dx, t, b, rfl, hx, k0, k1⟩ := h
    refine ⟨_, (pss_cons (ps_if (pt_cmpR op_eq (pv 2) pe_int (nomark _))
      (pss_one (ps_raise rfl (takes_of rfl rfl rfl rfl) (pmk_bare PySem.F.excBase_ValueError T.xZ T.g_Z T.kZ (raises_own T.bZ T.tZ) rfl))) pss_nil)
      (pss_cons (ps_set (i := 3) sc_init.nd rfl (Or.inl rfl) (pe_callBfun cr_gcd rfl T.g_gcd (pa_cons (pv 1) (pa_cons (pv 2) pa_nil))))
      (pss_cons (ps_if (pt_cmpR op_lt (pv 2) pe_int (nomark _))
      (pss_one (ps_set (i := 3) sc_init.nd rfl (Or.inl rfl) (pe_un un_neg (pv 3)))) pss_nil)
      (pss_cons (ps_fld (pv 0) (pe_op op_fdv (pv 1) (pv 3)) rfl)
      (pss_one (ps_fld (pv 0) (pe_op op_fdv (pv 2) (pv 3)) rfl)))))), ?_⟩
    refine ⟨_, rfl, rfl, _, rfl, ?_⟩
    by_cases hb : b = 0
    · refine ite2 (fun _ => k0 hb) (fun n => absurd (by rw [hb] <;> rfl) n)
    refine ite2 (fun z => absurd (V.int.inj (of_decide_eq_true z)) hb) (fun _ => ?_)
    obtain ⟨bb, k⟩ := k1 hb
    have g := gcd_pos (t := t) hb
    have gn : ((Nat.gcd t.natAbs b.natAbs : Nat) : Int) = (Int.gcd t b : Int) := rfl
    have gb : Bd 8900 (Int.gcd t b : Int) := by
      refine bb.abs ?_
      have := Nat.le_of_dvd (by omega : 0 < b.natAbs) (Nat.gcd_dvd_right t.natAbs b.natAbs)
      show ((Nat.gcd t.natAbs b.natAbs : Nat) : Int).natAbs ≤ _
      omega
    have lp := lo_prog (t := t) hb
    refine ⟨_, rfl, _, rfl, t, b, rfl, _, rfl, _, _, rfl, rfl, _, rfl, ?_⟩
    have fin : ∀ d : Int, d ≠ 0 → Bd 8900 d → lo t b = (t.fdiv d, b.fdiv d) → ∀ H2 : Hp, H2 = upd (upd H x (.ins A.C dx (putF "top" (.int (t.fdiv d)) []))) x (.ins A.C dx (putF "bottom" (.int (b.fdiv d)) (putF "top" (.int (t.fdiv d)) []))) → Q .non H2 := by
      intro d d0 db e H2 e2
      refine k H2 ⟨dx, ?_⟩ fun c o hc hn => ?_
      · rw [e2, upd_same, rf_put, e]
      · rw [e2, upd_ne hn, upd_ne hn]; exact hc
    refine ite2 (fun c => ?_) (fun c => ?_)
    · have c' : b < 0 := of_decide_eq_true c
      rw [if_pos c'] at lp
      refine ⟨_, rfl, _, rfl, _, rfl, _, rfl, _, _, rfl, rfl, gb.neg.fdv (by omega), _, rfl, x, A.C, dx, _, rfl, hx, T.cl, T.nT, (by show 0 < 1000; decide), ?_⟩
      refine ⟨_, rfl, _, rfl, _, _, rfl, rfl, gb.neg.fdv (by omega), _, rfl, x, A.C, dx, _, rfl, upd_same, T.cl, T.nB, (by show 1 < 1000; decide), ?_⟩
      exact fin _ (by omega) gb.neg lp _ rfl
    · have c' : ¬ b < 0 := fun z => c (decide_eq_true z)
      rw [if_neg c'] at lp
      refine ⟨_, rfl, _, rfl, _, _, rfl, rfl, gb.fdv (by omega), _, rfl, x, A.C, dx, _, rfl, hx, T.cl, T.nT, (by show 0 < 1000; decide), ?_⟩
      refine ⟨_, rfl, _, rfl, _, _, rfl, rfl, gb.fdv (by omega), _, rfl, x, A.C, dx, _, rfl, upd_same, T.cl, T.nB, (by show 1 < 1000; decide), ?_⟩
      exact fin _ (by omega) gb lp _ rfl
/-- Ratio(t, b) read: for b not 0 -/
theorem rd_make {t b : Int} {H : Hp} {Q : VK} {E : XK} (hb : b ≠ 0) (bb : Bd 8900 b) (k : ∀ x H', Ex H H' → H x = none → RatAt A.C H' x (lo t b) → Q (.ref x) H') :
    ∀ x dx, H x = none → H dx = none → dx ≠ x → spInit A [.ref x, .int t, .int b] (upd (upd H dx (.own x)) x (.ins A.C dx [])) (fun v H2 => v = .non ∧ Q (.ref x) H2) E :=
  fun x dx nx nd ne => ⟨x, dx, t, b, rfl, upd_same, fun z => absurd z hb, fun _ => ⟨bb, fun H' r kp => ⟨rfl, k x H' (Same.made nx nd kp) nx r⟩⟩⟩
theorem ok_start (T : Txt K mg A) : FnOk P w K mg base CX0 1 A.f_start A.d_start ["script"] (spStart K) := by
  refine T.F_start.ok sc_start (fun vs H Q E h => ?_) (fun cdv Ar outer s H vs Q E hr h => ?_)
  · obtain ⟨a, ns, rfl, _⟩ := h
    rfl
  · obtain ⟨a, ns, rfl, hS, hl, k⟩ := h
    refine ⟨_, (pss_one (ps_ret (pe_lst (pa_cons (pe_lc (own := [("cell", 1)]) (g := gName 1) (tt := tYes) rfl sc_start.nd (pi_list (pe_slice sl_list (pv 0) po_none (po_some pe_int))) (blkOk_by (own := [("cell", 1)]) (N := N_start) (sc := defScope S_start) (by decide +kernel)) (fun _ _ _ _ _ => pg_name (i := 1) sc_start.nd rfl (Or.inl rfl)) (fun _ _ _ _ _ => pts_nil) (fun _ _ _ _ _ => (pe_callB call_abs (by rfl) T.n_abs (by decide +kernel) (pa_cons (pv 1) pa_nil)))) (pa_cons pe_int (pa_cons pe_int pa_nil)))))), ?_⟩
    obtain ⟨ms, hms, hml⟩ : ∃ ms : List Int, cutV (ns.map V.int) none (some 63) = ms.map V.int ∧ ms.length ≤ 63 := by
      refine ⟨(ns.drop (HT.sIx (ns.map V.int).length 0 none)).take (HT.sIx (ns.map V.int).length (ns.map V.int).length (some 63) - HT.sIx (ns.map V.int).length 0 none), ?_, ?_⟩
      · unfold cutV
        rw [List.map_take, List.map_drop]
      · rw [List.length_take, List.length_drop]
        omega
    refine ⟨_, rfl, _, rfl, a, _, rfl, hS, fun p hp => ⟨p, rfl, ⟨_, SqL.of upd_same⟩, fun D hD => ?_⟩⟩
    rw [hms]
    have hpD : p ≠ D := fun e => by rw [← e, hms, upd_same] at hD; cases hD
    have hD0 : H D = none := by rw [hms, upd_ne hpD.symm] at hD; exact hD
    refine lc_list (K := K) (a := p) (xs := ms.map V.int) (fun i H' => (∃ cs : List Int, H' D = some (.lst (cs.map V.int)) ∧ cs.length = i ∧ (∀ z ∈ cs, 0 ≤ z)) ∧ H' p = some (.lst (ms.map V.int)) ∧ Ex H H')
      ⟨⟨[], upd_same, rfl, fun z hz => by cases hz⟩, ?_, ?_⟩ (fun i H' _ h => SqL.of h.2.1) ?_ ?_
    · rw [upd_ne hpD, upd_same]
    · exact fun c o e => by rw [upd_ne (ne_of_none e hD0), upd_ne (ne_of_none e hp)]; exact e
    · rintro i x H' hx ⟨⟨cs, hcs, hci, hc0⟩, hp', ex⟩
      obtain ⟨z, hz, rfl⟩ : ∃ z, ms[i]? = some z ∧ x = V.int z := by
        rw [List.getElem?_map] at hx
        cases e : ms[i]? with
        | none => rw [e] at hx; cases hx
        | some z => rw [e] at hx; exact ⟨z, rfl, (Option.some.inj hx).symm⟩
      have hi : i < ms.length := (List.getElem?_eq_some_iff.mp hz).1
      refine ⟨rfl, _, rfl, z, rfl, _, hcs, ?_, ⟨⟨cs ++ [if z < 0 then -z else z], ?_, ?_, ?_⟩, ?_, ?_⟩⟩
      · rw [List.length_map, hci, sizeLine_eq]; omega
      · rw [upd_same, List.map_append]; rfl
      · rw [List.length_append, hci]; rfl
      · intro y hy
        rcases List.mem_append.mp hy with h | h
        · exact hc0 y h
        · have : y = if z < 0 then -z else z := by simpa using h
          rw [this]
          split <;> omega
      · rw [upd_ne hpD]; exact hp'
      · exact fun c o e => by rw [upd_ne (ne_of_none e hD0)]; exact ex c o e
    · rintro H' ⟨⟨cs, hcs, hci, hc0⟩, hp', ex⟩
      refine ⟨(by show 3 ≤ sizeLine; exact sz3), fun q hq => ?_⟩
      have nqD : D ≠ q := ne_of_none hcs hq
      refine k q _ ⟨D, cs, 0, 0, nqD.symm, upd_same, by rw [upd_ne nqD]; exact hcs, ?_, by decide, by decide, hc0⟩ (ex.to hq) (ex.free hq)
      rw [List.length_map] at hci
      omega
/-! ### the law's digits -/
def spDigitL : Sp := fun vs H Q _ => ∃ (p l : Addr) (m : Int), vs = [.ref p, .int m] ∧ PotL H p l ∧ 0 < m ∧ Bd 300 m ∧
  ∀ d H', 0 ≤ d → d < m → PotL H' p l → Keep p H H' → Q (.int d) H'
theorem ok_digit (T : Txt K mg A) : FnOk P w K mg base CX0 1 A.f_digit A.d_digit ["pot", "many"] spDigitL := by
  refine T.F_digit.ok sc_digit (fun vs H Q E h => ?_) (fun cdv Ar outer s H vs Q E hr h => ?_)
  · obtain ⟨p, l, m, rfl, _⟩ := h
    rfl
  · obtain ⟨p, l, m, rfl, pot, m0, bm, k⟩ := h
    refine ⟨_, (C8.pss_cut (ps_if (PW.pt (pw_and (pt_cmpR op_eq (pe_ix ix_list (pv 0) pe_int (fun _ _ => rfl)) pe_int (nomark _)) (pw_and1 (pt_cmpR op_lt (pe_ix ix_list (pv 0) pe_int (fun _ _ => rfl)) (pe_callB call_len (by rfl) T.n_len PySem.boot_len (pa_cons (pe_ix ix_list (pv 0) pe_int (fun _ _ => rfl)) pa_nil)) (nomark _)))))
      (pss_cons (ps_asg (pe_ix ix_list (pe_ix ix_list (pv 0) pe_int (fun _ _ => rfl)) (pe_ix ix_list (pv 0) pe_int (fun _ _ => rfl)) (fun _ _ => rfl)) (pg_sub (pv 0) pe_int set_list))
      (pss_one (ps_asg (pe_op op_add (pe_ix ix_list (pv 0) pe_int (fun _ _ => rfl)) pe_int) (pg_sub (pv 0) pe_int set_list)))) pss_nil)
      (pss_cons (ps_set (i := 2) sc_digit.nd rfl (Or.inl rfl) (pe_op op_mod (pe_callTy call_int1 (by rfl) T.n_int (by decide +kernel) (pa_cons (pe_ix ix_list (pv 0) pe_int (fun _ _ => rfl)) pa_nil)) (pv 1)))
      (pss_cons (ps_asg (pe_op op_fdivW (pe_ix ix_list (pv 0) pe_int (fun _ _ => rfl)) (pv 1)) (pg_sub (pv 0) pe_int set_list))
      (pss_one (ps_ret (pv 2)))))), ?_⟩
    obtain ⟨cs, i, c, ne, h1, h2, hl, i0, c0, hc⟩ := id pot
    refine ⟨fun sl H' => sl = [some (.ref p), some (.int m), none] ∧ PotL H' p l ∧ Keep p H H', ?_, ?_⟩
    · refine ⟨_, rfl, _, _, _, _, rfl, rfl, SqL.of h1, rfl, rfl, _, rfl, ?_⟩
      refine ite2 (fun z => ?_) (fun z => iteF ⟨rfl, pot, Keep.refl⟩)
      refine ⟨_, rfl, _, _, _, _, rfl, rfl, SqL.of h1, rfl, _, rfl, _, _, _, _, rfl, rfl, SqL.of h1, rfl, _, _, rfl, .inl ⟨_, SqL.of h2, rfl⟩, _, _, rfl, rfl, _, rfl, ?_⟩
      refine ite2 (fun z2 => ?_) (fun z2 => ⟨rfl, pot, Keep.refl⟩)
      have hi : i < cs.length := by have := of_decide_eq_true z2; rw [List.length_map] at this; exact this
      obtain ⟨j, rfl⟩ : ∃ j : Nat, i = (j : Int) := ⟨i.toNat, by omega⟩
      have hj : j < cs.length := by omega
      have at_ : (cs.map V.int)[j]? = some (.int cs[j]) := by rw [List.getElem?_map, List.getElem?_eq_getElem hj]; rfl
      refine ⟨_, rfl, _, _, _, _, rfl, rfl, SqL.of h1, rfl, _, rfl, _, _, _, _, rfl, rfl, SqL.of h1, rfl, _, _, _, _, rfl, rfl, SqL.of h2, atI_nat at_, _, rfl, p, _, 2, 2, rfl, rfl, h1, rfl, ?_⟩
      refine ⟨_, rfl, _, _, _, _, rfl, rfl, SqL.of upd_same, rfl, _, _, rfl, rfl, _, rfl, p, _, 1, 1, rfl, rfl, upd_same, rfl, rfl, ?_, ?_⟩
      · refine ⟨cs, (j : Int) + 1, cs[j], ne, upd_same, ?_, hl, by omega, hc _ (List.getElem_mem hj), hc⟩
        rw [upd_ne ne.symm, upd_ne ne.symm]; exact h2
      · exact Keep.upd.trans Keep.upd
    · rintro sl H' ⟨rfl, pot', kp⟩
      obtain ⟨cs, i, c, ne, h1, h2, hl, i0, c0, hc⟩ := id pot'
      refine ⟨_, rfl, _, _, _, _, rfl, rfl, SqL.of h1, rfl, .inl ⟨_, rfl, _, rfl, _, _, rfl, rfl, m0, ?_⟩⟩
      refine ⟨_, rfl, _, _, _, _, rfl, rfl, SqL.of h1, rfl, _, rfl, _, _, rfl, rfl, bm.div m0, _, rfl, p, _, 2, 2, rfl, rfl, h1, rfl, _, rfl, ?_⟩
      refine k _ _ (Int.emod_nonneg _ (by omega)) (Int.emod_lt_of_pos _ m0) ⟨cs, i, c / m, ne, upd_same, ?_, hl, i0, Int.ediv_nonneg c0 (by omega), hc⟩ (kp.trans Keep.upd)
      rw [upd_ne ne.symm]; exact h2
def spWhole : Sp := fun vs H Q _ => ∃ (n : Int), vs = [.int n] ∧ Q (.bl true) H
theorem ok_whole (T : Txt K mg A) : FnOk P w K mg base CX0 1 A.f_whole A.d_whole ["told"] spWhole := by
  refine T.F_whole.ok sc_whole (fun vs H Q E h => ?_) (fun cdv Ar outer s H vs Q E hr h => ?_)
  · obtain ⟨n, rfl, _⟩ := h
    rfl
  · obtain ⟨n, rfl, k⟩ := h
    refine ⟨_, (pss_one (ps_ret (pe_and (pe_callB call_isi (by rfl) T.n_isinstance (by decide +kernel) (pa_cons (pv 0) (pa_cons (pe_bltn (v := .ty "int") rfl T.n_int (by decide +kernel) rfl) pa_nil))) (pe_one (pe_not (pe_callB call_isi (by rfl) T.n_isinstance (by decide +kernel) (pa_cons (pv 0) (pa_cons (pe_bltn (v := .ty "bool") rfl T.n_bool (by decide +kernel) rfl) pa_nil)))))))), ?_⟩
    have ii : TyX K H (.int n) (.type "int") := .base (.int n)
    refine ⟨_, rfl, _, .ty "int", _, _, true, rfl, .ty _, ii, kit_ty (by decide +kernel), _, rfl, ?_⟩
    exact ⟨_, rfl, _, .ty "bool", _, _, false, rfl, .ty _, ii, kit_ty (by decide +kernel), _, rfl, k⟩
theorem okH_whole (T : Txt K mg A) : FnH P w K mg base CX0 1 A.f_whole A.d_whole ["told"] spWhole := by
  refine fun_okH T.F_whole sc_whole (fun vs H Q E h => ?_) (fun cdv Ar outer s H vs Q E pp hr hc h => ?_)
  · obtain ⟨n, rfl, _⟩ := h
    rfl
  · obtain ⟨n, rfl, k⟩ := h
    refine ⟨_, (pss_one (ps_ret (pe_and (pe_callB call_isi (by rfl) T.n_isinstance (by decide +kernel) (pa_cons (pv 0) (pa_cons (pe_bltn (v := .ty "int") rfl T.n_int (by decide +kernel) rfl) pa_nil))) (pe_one (pe_not (pe_callB call_isi (by rfl) T.n_isinstance (by decide +kernel) (pa_cons (pv 0) (pa_cons (pe_bltn (v := .ty "bool") rfl T.n_bool (by decide +kernel) rfl) pa_nil)))))))), ?_⟩
    have ii : TyX K H (.int n) (.type "int") := .base (.int n)
    refine ⟨_, rfl, _, .ty "int", _, _, true, rfl, .ty _, ii, kit_ty (by decide +kernel), _, rfl, ?_⟩
    exact ⟨_, rfl, _, .ty "bool", _, _, false, rfl, .ty _, ii, kit_ty (by decide +kernel), _, rfl, k⟩
abbrev ab (z : Int) : Int := if z < 0 then -z else z
theorem ab_nn (z : Int) : 0 ≤ ab z := by unfold Fc.ab; split <;> omega
/-! ### the law's greatest common divisor -/
def spCommon : Sp := fun vs H Q _ => ∃ (u v : Nat), vs = [.int u, .int v] ∧ v < 2 ^ 1000 ∧ Q (.int (Nat.gcd u v : Nat)) H
theorem ok_lcommon (T : Txt K mg A) : FnOk P w K mg base CX0 1 A.f_lcommon A.d_lcommon ["u", "v"] spCommon := by
  refine T.F_lcommon.ok sc_lcommon (fun vs H Q E h => ?_) (fun cdv Ar outer s H vs Q E hr h => ?_)
  · obtain ⟨u, v, rfl, _⟩ := h
    rfl
  · obtain ⟨u, v, rfl, bv, k⟩ := h
    refine ⟨_, (pss_cons (ps_for PassesOwn.never rfl (pi_range1 rfl T.n_range (pa_cons pe_int pa_nil)) (pg_name (i := 2) sc_lcommon.nd rfl (Or.inl rfl))
      (pss_cons (ps_if (pt_cmpR op_eq (pv 1) pe_int (nomark _))
      (pss_one ps_break) pss_nil)
      (pss_cons (ps_set (i := 3) sc_lcommon.nd rfl (Or.inl rfl) (pe_op op_mod (pe_callTy call_int1 (by rfl) T.n_int (by decide +kernel) (pa_cons (pv 0) pa_nil)) (pv 1)))
      (pss_cons (ps_set (i := 0) sc_lcommon.nd rfl (Or.inl rfl) (pv 1))
      (pss_one (ps_set (i := 1) sc_lcommon.nd rfl (Or.inl rfl) (pv 3)))))))
      (pss_one (ps_ret (pv 0)))), ?_⟩
    refine ⟨1500, rfl, by decide, by decide, for_range (lo := 0) (n := 1500) (fun i sl H2 => ∃ (x y : Nat) (v1 v2 : Option V), sl = [some (.int (x : Int)), some (.int (y : Int)), v1, v2] ∧ H2 = H ∧ Lu (Nat.gcd u v) (2 ^ 1000) i x y) ?_ ?_ ?_⟩
    · exact ⟨u, v, none, none, rfl, rfl, Lu.start (by omega)⟩
    · rintro i sl H2 hi ⟨x, y, v1, v2, rfl, rfl, eu⟩
      refine ⟨_, rfl, rfl, _, rfl, ite2 (fun c => ?_) (fun c => ?_)⟩
      · have y0 : y = 0 := by have := V.int.inj (of_decide_eq_true c); omega
        subst y0
        have ex := eu.zero
        subst ex
        exact ⟨_, rfl, k⟩
      · have y0 : y ≠ 0 := fun z => c (by rw [z] <;> rfl)
        refine ⟨_, rfl, .inl ⟨_, rfl, _, rfl, _, _, rfl, rfl, (by show (0 : Int) < (y : Int); omega), _, rfl, _, rfl, y, x % y, some (.int (0 + (i : Int))), some (.int ((x : Int) % (y : Int))), ?_, rfl, eu.turn y0⟩⟩
        rw [Int.natCast_emod]
        rfl
    · rintro sl H2 ⟨x, y, v1, v2, rfl, rfl, eu⟩
      have y0 := eu.done (Nat.le_refl _)
      subst y0
      have ex := eu.zero
      subst ex
      exact ⟨_, rfl, k⟩
/-! ### the program's -/
def gcdL (ns : List Int) : Nat := ns.foldl (fun g n => Nat.gcd g n.natAbs) 0
def spCdiv (K : PySem.W.Frag) : Sp := fun vs H Q _ => ∃ (a : Addr) (ns : List Int), vs = [.ref a] ∧ SqL K H a (ns.map V.int) ∧ Q (.int (gcdL ns : Nat)) H
theorem gcdL_take (ns : List Int) (i : Nat) (n : Int) (h : ns[i]? = some n) : gcdL (ns.take (i + 1)) = Nat.gcd (gcdL (ns.take i)) n.natAbs := by
  unfold gcdL
  rw [List.take_add_one, h, List.foldl_append]
  rfl
theorem ok_cdiv (T : Txt K mg A) : FnOk P w K mg base CX0 1 A.f_cdiv A.d_cdiv ["row"] (spCdiv K) := by
  refine T.F_cdiv.ok sc_cdiv (fun vs H Q E h => ?_) (fun cdv Ar outer s H vs Q E hr h => ?_)
  · obtain ⟨a, ns, rfl, _⟩ := h
    rfl
  · obtain ⟨a, ns, rfl, hS, k⟩ := h
    refine ⟨_, (pss_cons (ps_set (i := 1) sc_cdiv.nd rfl (Or.inl rfl) pe_int)
      (pss_cons (ps_for PassesOwn.never rfl (pi_list (pv 0)) (pg_name (i := 2) sc_cdiv.nd rfl (Or.inl rfl))
      (pss_one (ps_set (i := 1) sc_cdiv.nd rfl (Or.inl rfl) (pe_callBfun cr_gcd rfl T.g_gcd (pa_cons (pv 1) (pa_cons (pv 2) pa_nil))))))
      (pss_one (ps_ret (pv 1))))), ?_⟩
    refine ⟨_, rfl, a, rfl, ⟨_, hS⟩, for_list (K := K) (a := a) (xs := ns.map V.int) (fun i sl H' => (∃ o, sl = [some (.ref a), some (.int (gcdL (ns.take i) : Nat)), o]) ∧ H' = H) ⟨⟨_, rfl⟩, rfl⟩ (fun i sl H' _ q => by rw [q.2]; exact hS) (fun i v sl H' hv q => ?_) (fun sl H' q => ?_)⟩
    · obtain ⟨⟨o, rfl⟩, rfl⟩ := q
      rw [List.getElem?_map] at hv
      obtain ⟨n, h1, rfl⟩ := Option.map_eq_some_iff.mp hv
      refine ⟨_, rfl, _, rfl, _, _, rfl, ⟨some (.int n), ?_⟩, rfl⟩
      rw [gcdL_take ns i n h1, Int.natAbs_natCast]
      rfl
    · obtain ⟨⟨o, rfl⟩, rfl⟩ := q
      rw [List.length_map, List.take_length]
      exact ⟨_, rfl, k⟩
end
end Fc
set_option Elab.async false
set_option linter.all false
set_option maxRecDepth 100000
set_option maxHeartbeats 4000000
set_option exponentiation.threshold 100000
namespace Fc
open PySem PySem.Spec PyProof.Rows L2 L2H
section
variable {P : Program} {w : World} {K : PySem.W.Frag} {mg : Str → Option Value} {base : Heap} {A : Ad}
/-! ### sums of products -/
def dotL (xs ys : List Int) : Int := (List.zipWith (· * ·) xs ys).sum
def spDot : Sp := fun vs H Q _ => ∃ (a b : Addr) (xs ys : List Int), vs = [.ref a, .ref b] ∧ xs.length = ys.length ∧ xs.length ≤ 100000 ∧
  ((H a = some (.lst (xs.map V.int)) ∧ H b = some (.lst (ys.map V.int))) ∨ (H a = some (.tup (xs.map V.int)) ∧ H b = some (.tup (ys.map V.int)))) ∧ (∀ x ∈ xs, Bd 1000 x) ∧ (∀ y ∈ ys, Bd 1000 y) ∧ ∀ H', Ex H H' → Q (.int (dotL xs ys)) H'
theorem zw_take (xs ys : List Int) (i : Nat) (x y : Int) (h1 : xs[i]? = some x) (h2 : ys[i]? = some y) : (List.zipWith (· * ·) xs ys).take (i + 1) = (List.zipWith (· * ·) xs ys).take i ++ [x * y] := by
  rw [List.take_add_one, List.getElem?_zipWith, h1, h2]
  rfl
theorem ok_dot (T : Txt K mg A) : FnOk P w K mg base CX0 1 A.f_dot A.d_dot ["left", "right"] spDot := by
  refine T.F_dot.ok sc_dot (fun vs H Q E h => ?_) (fun cdv Ar outer s H vs Q E hr h => ?_)
  · obtain ⟨a, b, xs, ys, rfl, _⟩ := h
    rfl
  · obtain ⟨a, b, xs, ys, rfl, el, lx, hab, bx, by_, k⟩ := h
    refine ⟨_, (pss_one (ps_ret (pe_callB (cr_sum rfl) (by rfl) T.n_sum (by decide +kernel) (pa_cons (pe_lc (own := [("x", 2), ("y", 3)]) (g := gTup K 2 (gCons (gName 2) (gCons (gName 3) gNil))) (tt := tYes) rfl sc_dot.nd (RZ.pi_zipA rfl T.n_zip (pa_cons (pv 0) (pa_cons (pv 1) pa_nil))) (blkOk_by (own := [("x", 2), ("y", 3)]) (N := N_dot) (sc := defScope S_dot) (by decide +kernel)) (fun _ _ _ _ _ => pg_tup rfl (pgs_cons (pg_name (i := 2) sc_dot.nd rfl (Or.inl rfl)) (pgs_cons (pg_name (i := 3) sc_dot.nd rfl (Or.inl rfl)) pgs_nil))) (fun _ _ _ _ _ => pts_nil) (fun _ _ _ _ _ => (pe_op op_mulW (pv 2) (pv 3)))) pa_nil)))), ?_⟩
    have el2 : (xs.map V.int).length = (ys.map V.int).length := by rw [List.length_map, List.length_map]; exact el
    let Pv : Addr → Nat → Hp → Prop := fun D i H' => H' D = some (.lst (((List.zipWith (· * ·) xs ys).take i).map V.int)) ∧ Ex H H'
    have fin : ∀ D H', Pv D xs.length H' → rSum K [.ref D] H' Q := by
      rintro D H' ⟨h1, ex⟩
      refine ⟨D, _, rfl, SqL.of h1, ?_⟩
      rw [List.take_of_length_le (by rw [List.length_zipWith]; omega)]
      exact k H' ex
    rcases hab with ⟨ha, hb⟩ | ⟨ha, hb⟩
    · refine ⟨_, rfl, _, rfl, a, b, _, _, rfl, .inl ⟨SqL.of ha, SqL.of hb, fun D hD => ?_⟩⟩
      refine it_zipL (K := K) el2 (Pv D) ⟨upd_same, Ex.new hD⟩ (fun i H' _ q => ⟨SqL.of (q.2 _ _ ha), SqL.of (q.2 _ _ hb)⟩) (fun i x y T H' hx hy q nT => ?_) (fun H' q => ?_)
      · rw [List.getElem?_map] at hx hy
        obtain ⟨u, hu, rfl⟩ := Option.map_eq_some_iff.mp hx
        obtain ⟨v, hv, rfl⟩ := Option.map_eq_some_iff.mp hy
        obtain ⟨h1, ex⟩ := q
        have nDT : D ≠ T := ne_of_none h1 nT
        refine ⟨T, _, rfl, SqT.of upd_same, rfl, _, _, rfl, _, _, rfl, rfl, rfl, _, rfl, _, rfl, _, _, rfl, rfl, Bd.w (bx u (List.mem_of_getElem? hu)) (by_ v (List.mem_of_getElem? hv)), _, by rw [upd_ne nDT]; exact h1, ?_, ?_, ?_⟩
        · rw [List.length_map, List.length_take, sizeLine_eq]; have : (List.zipWith (· * ·) xs ys).length ≤ xs.length := by rw [List.length_zipWith]; omega
          omega
        · rw [upd_same, zw_take xs ys i u v hu hv, List.map_append]; rfl
        · exact fun c o e => by
            rw [upd_ne (ne_of_none e hD)]
            exact (ex.trans (Ex.new nT)) c o e
      · rw [List.length_map] at q
        exact fin D H' q
    · refine ⟨_, rfl, _, rfl, a, b, _, _, rfl, .inr ⟨SqT.of ha, SqT.of hb, fun D hD => ?_⟩⟩
      refine it_zipT (K := K) el2 (Pv D) ⟨upd_same, Ex.new hD⟩ (fun i H' _ q => ⟨SqT.of (q.2 _ _ ha), SqT.of (q.2 _ _ hb)⟩) (fun i x y T H' hx hy q nT => ?_) (fun H' q => ?_)
      · rw [List.getElem?_map] at hx hy
        obtain ⟨u, hu, rfl⟩ := Option.map_eq_some_iff.mp hx
        obtain ⟨v, hv, rfl⟩ := Option.map_eq_some_iff.mp hy
        obtain ⟨h1, ex⟩ := q
        have nDT : D ≠ T := ne_of_none h1 nT
        refine ⟨T, _, rfl, SqT.of upd_same, rfl, _, _, rfl, _, _, rfl, rfl, rfl, _, rfl, _, rfl, _, _, rfl, rfl, Bd.w (bx u (List.mem_of_getElem? hu)) (by_ v (List.mem_of_getElem? hv)), _, by rw [upd_ne nDT]; exact h1, ?_, ?_, ?_⟩
        · rw [List.length_map, List.length_take, sizeLine_eq]; have : (List.zipWith (· * ·) xs ys).length ≤ xs.length := by rw [List.length_zipWith]; omega
          omega
        · rw [upd_same, zw_take xs ys i u v hu hv, List.map_append]; rfl
        · exact fun c o e => by
            rw [upd_ne (ne_of_none e hD)]
            exact (ex.trans (Ex.new nT)) c o e
      · rw [List.length_map] at q
        exact fin D H' q
end
end Fc
set_option Elab.async false
set_option linter.all false
set_option maxRecDepth 100000
set_option maxHeartbeats 4000000
set_option exponentiation.threshold 100000
namespace Fc
open PySem PySem.Spec PyProof.Rows L2 L2H
section
variable {P : Program} {w : World} {K : PySem.W.Frag} {mg : Str → Option Value} {base : Heap} {A : Ad}
/-! ### the common bottom -/
def lcmL (ns : List Nat) : Nat := ns.foldl Nat.lcm 1
theorem lcmL_take (ns : List Nat) (i n : Nat) (h : ns[i]? = some n) : lcmL (ns.take (i + 1)) = Nat.lcm (lcmL (ns.take i)) n := by
  unfold lcmL
  rw [List.take_add_one, h, List.foldl_append]
  rfl
theorem lcm_fold {N : Nat} : ∀ (ns : List Nat) (g : Nat), g ∣ N → (∀ n ∈ ns, n ∣ N) → ns.foldl Nat.lcm g ∣ N := by
  intro ns
  induction ns with
  | nil => intro g h _; exact h
  | cons a r ih => intro g h k; exact ih _ (Nat.lcm_dvd h (k a (by simp))) fun n hn => k n (by simp [hn])
theorem lcmL_dvd {N : Nat} {ns : List Nat} (h : ∀ n ∈ ns, n ∣ N) : lcmL ns ∣ N := lcm_fold ns 1 (Nat.one_dvd _) h
def spCbot (C : Addr) : Sp := fun vs H Q _ => ∃ (a : Addr) (as : List Addr) (ps : List (Int × Int)) (N : Nat), vs = [.ref a] ∧ H a = some (.lst (as.map V.ref)) ∧ as.length = ps.length ∧
  (∀ (i : Nat) x p, as[i]? = some x → ps[i]? = some p → RatAt C H x p ∧ 0 < p.2 ∧ p.2.natAbs ∣ N) ∧ 0 < N ∧ N < 2 ^ 64 ∧ Q (.int (lcmL (ps.map fun p => p.2.natAbs) : Nat)) H
theorem ok_cbot (T : Txt K mg A) : FnOk P w K mg base CX0 1 A.f_cbot A.d_cbot ["ratios"] (spCbot A.C) := by
  refine T.F_cbot.ok sc_cbot (fun vs H Q E h => ?_) (fun cdv Ar outer s H vs Q E hr h => ?_)
  · obtain ⟨a, as, ps, N, rfl, _⟩ := h
    rfl
  · obtain ⟨a, as, ps, N, rfl, ha, el, hp, N0, N1, k⟩ := h
    refine ⟨_, (pss_cons (ps_set (i := 1) sc_cbot.nd rfl (Or.inl rfl) pe_int)
      (pss_cons (ps_for PassesOwn.never rfl (pi_list (pv 0)) (pg_name (i := 2) sc_cbot.nd rfl (Or.inl rfl))
      (pss_one (ps_set (i := 1) sc_cbot.nd rfl (Or.inl rfl) (pe_callBfun cr_lcm rfl T.g_lcm (pa_cons (pv 1) (pa_cons (pe_fld (pv 2) rfl) pa_nil))))))
      (pss_one (ps_ret (pv 1))))), ?_⟩
    refine ⟨_, rfl, a, rfl, ⟨_, SqL.of ha⟩, for_list (K := K) (a := a) (xs := as.map V.ref) (fun i sl H' => (∃ o, sl = [some (.ref a), some (.int (lcmL ((ps.map fun p => p.2.natAbs).take i) : Nat)), o]) ∧ H' = H) ⟨⟨_, rfl⟩, rfl⟩ (fun i sl H' _ q => by rw [q.2]; exact SqL.of ha) (fun i v sl H' hv q => ?_) (fun sl H' q => ?_)⟩
    · obtain ⟨⟨o, rfl⟩, rfl⟩ := q
      rw [List.getElem?_map] at hv
      obtain ⟨x, h1, rfl⟩ := Option.map_eq_some_iff.mp hv
      have hi : i < ps.length := by have := (List.getElem?_eq_some_iff.mp h1).1; omega
      obtain ⟨⟨dx, hx⟩, b0, bd⟩ := hp i x _ h1 (List.getElem?_eq_getElem hi)
      have dv : lcmL ((ps.map fun p => p.2.natAbs).take i) ∣ N := lcmL_dvd fun n hn => by
        obtain ⟨p, hp1, rfl⟩ := List.mem_map.mp (List.mem_of_mem_take hn)
        obtain ⟨j, hj⟩ := List.mem_iff_getElem?.mp hp1
        have hj2 : j < as.length := by have := (List.getElem?_eq_some_iff.mp hj).1; omega
        exact (hp j _ p (List.getElem?_eq_getElem hj2) hj).2.2
      have le := Nat.le_of_dvd N0 dv
      have le2 := Nat.le_of_dvd N0 bd
      refine ⟨_, rfl, _, rfl, _, _, _, _, _, rfl, hx, T.cl, T.nB, rf_bot _, _, _, rfl, by rw [Int.natAbs_natCast]; omega, by omega, ⟨some (.ref x), ?_⟩, rfl⟩
      rw [lcmL_take _ i (ps[i].2.natAbs) (by rw [List.getElem?_map, List.getElem?_eq_getElem hi]; rfl), Int.natAbs_natCast]
      rfl
    · obtain ⟨⟨o, rfl⟩, rfl⟩ := q
      rw [List.length_map, el, List.take_of_length_le (by rw [List.length_map]; omega)]
      exact ⟨_, rfl, k⟩
/-! ### the law's numbers -/
theorem two_div {i : Int} : CDivW i 2 := (bd_of (by decide) : Bd 3 (2 : Int)).div (by decide)
def spNumber : Sp := fun vs H Q _ => ∃ (p l : Addr) (m s : Int), vs = [.ref p, .int m, .int s] ∧ PotL H p l ∧ 0 < m ∧ Bd 300 m ∧
  ∀ n H', -m ≤ n → n ≤ m → PotL H' p l → Keep p H H' → Q (.int n) H'
theorem ok_number (T : Txt K mg A) : FnOk P w K mg base CX0 2 A.f_number A.d_number ["pot", "many", "shift"] spNumber := by
  refine T.F_number.ok sc_number (fun vs H Q E h => ?_) (fun cdv Ar outer s H vs Q E hr h => ?_)
  · obtain ⟨p, l, m, t, rfl, _⟩ := h
    rfl
  · obtain ⟨p, l, m, t, rfl, pot, m0, bm, k⟩ := h
    refine ⟨_, (pss_one (ps_ret (pe_op op_sub (pe_op op_mod (pe_callTy call_int1 (by rfl) T.n_int (by decide +kernel) (pa_cons (pe_op op_add (pe_op op_add (pe_call (ok_digit T) (hr.mono (by decide)) rfl T.g_digit T.F_digit.kp T.b_digit .nil pass0 (pa_cons (pv 0) (pa_cons (pv 1) pa_nil))) (pv 2)) (pe_op op_fdivW (pv 1) pe_int)) pa_nil)) (pv 1)) (pe_op op_fdivW (pv 1) pe_int)))), ?_⟩
    refine ⟨_, rfl, _, rfl, p, l, m, rfl, pot, m0, bm, fun d H1 d0 d1 p1 k1 => ⟨_, rfl, _, _, rfl, rfl, _, rfl, _, _, rfl, rfl, two_div, _, _, rfl, rfl, .inl ⟨_, rfl, _, rfl, _, _, rfl, rfl, m0, _, rfl, _, _, rfl, rfl, two_div, _, _, rfl, rfl, k _ H1 ?_ ?_ p1 k1⟩⟩⟩
    · have := Int.emod_nonneg (d + t + m / 2) (show m ≠ 0 by omega)
      show -m ≤ (d + t + m / 2) % m - m / 2
      omega
    · have := Int.emod_lt_of_pos (d + t + m / 2) m0
      show (d + t + m / 2) % m - m / 2 ≤ m
      omega
/-! ### a Ratio looked over -/
def spIsRatio (C : Addr) : Sp := fun vs H Q _ => ∃ (a : Addr) (t b : Int), vs = [.ref a, .int t, .int b] ∧ RatAt C H a (lo t b) ∧ 0 < b ∧ Bd 900 t ∧ Bd 900 b ∧ Q (.bl true) H
theorem ok_isratio (T : Txt K mg A) : FnOk P w K mg base CX0 2 A.f_isratio A.d_isratio ["told", "top", "bottom"] (spIsRatio A.C) := by
  refine T.F_isratio.ok sc_isratio (fun vs H Q E h => ?_) (fun cdv Ar outer s H vs Q E hr h => ?_)
  · obtain ⟨a, t, b, rfl, _⟩ := h
    rfl
  · obtain ⟨a, t, b, rfl, ⟨dx, hx⟩, b0, bt, bb, k⟩ := h
    refine ⟨_, (pss_cons (ps_if (PW.pt (pw_or (pt_not (pt_val (pe_callB call_isi (by rfl) T.n_isinstance (by decide +kernel) (pa_cons (pv 0) (pa_cons (pe_glob (v := .ref A.C) rfl T.g_Ratio rfl) pa_nil))))) (pw_or (pt_not (pt_val (pe_call (ok_whole T) (hr.mono (by decide)) rfl T.g_whole T.F_whole.kp T.b_whole .nil pass0 (pa_cons (pe_fld (pv 0) rfl) pa_nil)))) (pw_or1 (pt_not (pt_val (pe_call (ok_whole T) (hr.mono (by decide)) rfl T.g_whole T.F_whole.kp T.b_whole .nil pass0 (pa_cons (pe_fld (pv 0) rfl) pa_nil))))))))
      (pss_one (ps_ret pe_bl)) pss_nil)
      (C8.pss_cut (ps_set (i := 3) sc_isratio.nd rfl (Or.inl rfl) (pe_call (ok_lcommon T) (hr.mono (by decide)) rfl T.g_lcommon T.F_lcommon.kp T.b_lcommon .nil pass0 (pa_cons (pe_callB call_abs (by rfl) T.n_abs (by decide +kernel) (pa_cons (pv 1) pa_nil)) (pa_cons (pv 2) pa_nil))))
      (pss_one (ps_ret (pe_and (pe_cmpR op_eq (pe_fld (pv 0) rfl) (pe_op op_fdivW (pv 1) (pv 3)) (nomark _)) (pe_one (pe_cmpR op_eq (pe_fld (pv 0) rfl) (pe_op op_fdivW (pv 2) (pv 3)) (nomark _)))))))), ?_⟩
    refine ⟨_, rfl, .ref a, .ref A.C, .ref A.C, .ref A.C, true, rfl, .own _, .base (.ins hx T.cl T.ha T.hn T.htk T.hm), kit_self, _, rfl, iteF ?_⟩
    refine ⟨_, rfl, _, _, _, _, _, rfl, hx, T.cl, T.nT, rf_top _, _, rfl, true, rfl, iteF ?_⟩
    refine ⟨_, rfl, _, _, _, _, _, rfl, hx, T.cl, T.nB, rf_bot _, _, rfl, true, rfl, iteF ?_⟩
    refine ⟨fun sl H' => sl = [some (.ref a), some (.int t), some (.int b), some (.int (Int.gcd t b : Nat))] ∧ H' = H, ?_, ?_⟩
    · refine ⟨_, rfl, t, rfl, _, rfl, (ab t).toNat, b.toNat, ?_, ?_, ?_, rfl⟩
      · have e1 : (((ab t).toNat : Nat) : Int) = ab t := by have := ab_nn t; omega
        have e2 : ((b.toNat : Nat) : Int) = b := by omega
        rw [e1, e2]
        rfl
      · have : b.natAbs < 2 ^ 900 := bb
        have : (2 : Nat) ^ 900 ≤ 2 ^ 1000 := Nat.pow_le_pow_right (by decide) (by decide)
        omega
      · have eg : Int.gcd t b = Nat.gcd (ab t).toNat b.toNat := by
          show Nat.gcd t.natAbs b.natAbs = _
          congr 1
          · unfold ab; split <;> omega
          · omega
        rw [eg]
        rfl
    rintro sl H' ⟨rfl, rfl⟩
    have fit : lo t b = (t / (Int.gcd t b : Int), b / (Int.gcd t b : Int)) := by
      unfold lo
      rw [if_neg (by omega)]
    have gp : 0 < Int.gcd t b := Int.gcd_pos_of_ne_zero_right t (by omega)
    have bg : Bd 900 (Int.gcd t b : Int) := by
      refine bb.abs ?_
      have := Nat.le_of_dvd (by omega : 0 < b.natAbs) (Nat.gcd_dvd_right t.natAbs b.natAbs)
      show ((Nat.gcd t.natAbs b.natAbs : Nat) : Int).natAbs ≤ _
      omega
    refine ⟨_, rfl, _, _, _, _, _, rfl, hx, T.cl, T.nT, rf_top _, _, rfl, _, rfl, _, _, rfl, rfl, bg.div (by omega), rfl, true, ?_, iteT ⟨_, rfl, _, _, _, _, _, rfl, hx, T.cl, T.nB, rf_bot _, _, rfl, _, rfl, _, _, rfl, rfl, bg.div (by omega), rfl, ?_⟩⟩
    · rw [fit, decide_eq_true rfl]
    · rw [fit, decide_eq_true rfl]; exact k
end
end Fc
set_option Elab.async false
set_option linter.all false
set_option maxRecDepth 100000
set_option maxHeartbeats 4000000
set_option exponentiation.threshold 100000
namespace Fc
open PySem PySem.Spec PyProof.Rows L2 L2H
section
variable {P : Program} {w : World} {K : PySem.W.Frag} {mg : Str → Option Value} {base : Heap} {A : Ad}

theorem RowsL.keep {H H' : Hp} {L p l : Addr} {m : List (List Int)} (h : RowsL H L m) (n : L ≠ p) (pot : PotL H p l) (k : Keep p H H') : RowsL H' L m := by
  obtain ⟨as, a, b, c⟩ := h
  obtain ⟨cs, i, d, ne, h1, _⟩ := pot
  refine ⟨as, k _ _ a n, b, fun j x r e1 e2 => k _ _ (c j x r e1 e2) fun e => ?_⟩
  have := c j x r e1 e2
  rw [e, h1] at this
  cases r with
  | nil => cases this
  | cons y r => cases this
theorem RowsL.add {H : Hp} {L D : Addr} {m : List (List Int)} {as : List Addr} {r : List Int} (h1 : H L = some (.lst (as.map V.ref))) (h2 : as.length = m.length)
    (h3 : ∀ (i : Nat) a r, as[i]? = some a → m[i]? = some r → H a = some (.lst (r.map V.int))) (hD : H D = some (.lst (r.map V.int))) (nL : ∀ a ∈ D :: as, a ≠ L) :
    RowsL (upd H L (.lst (as.map V.ref ++ [.ref D]))) L (m ++ [r]) := by
  refine ⟨as ++ [D], by rw [upd_same, List.map_append]; rfl, by rw [List.length_append, List.length_append, h2]; rfl, fun i a q e1 e2 => ?_⟩
  by_cases c : i < as.length
  · rw [List.getElem?_append_left c] at e1
    rw [List.getElem?_append_left (by omega)] at e2
    rw [upd_ne (nL a (by simp [List.mem_of_getElem? e1]))]
    exact h3 i a q e1 e2
  · have hi : i = as.length := by
      have := (List.getElem?_eq_some_iff.mp e1).1
      rw [List.length_append] at this
      simp at this
      omega
    subst hi
    rw [List.getElem?_append_right (Nat.le_refl _)] at e1
    rw [h2, List.getElem?_append_right (Nat.le_refl _)] at e2
    simp at e1 e2
    subst e1 e2
    rw [upd_ne (nL D (by simp))]
    exact hD
theorem mul_small {i j : Int} (h : i.natAbs < 2 ^ 4) (g : j.natAbs < 1000) : CMulW i j := Bd.w (n := 4) (m := 10) h (Nat.lt_trans g (by decide))
def CellsOk (m : List (List Int)) (h w : Nat) : Prop := m.length = h ∧ ∀ r ∈ m, r.length = w ∧ ∀ c ∈ r, Bd 31 c
theorem PotL.p {H : Hp} {p l a : Addr} (h : PotL H p l) (n : H a = none) : a ≠ p ∧ a ≠ l := by
  obtain ⟨cs, i, c, ne, h1, h2, _⟩ := h
  exact ⟨(fun e => by rw [e, h1] at n; cases n), (fun e => by rw [e, h2] at n; cases n)⟩
/-- a row of drawn numbers -/
theorem bd31 {m n : Int} (h : -m ≤ n) (g : n ≤ m) (b : m ≤ 2 * 10 ^ 9 + 1) : Bd 31 n := by
  show n.natAbs < 2 ^ 31
  have : (2 : Nat) ^ 31 = 2147483648 := by decide
  omega
def spCells : Sp := fun vs H Q _ => ∃ (p l : Addr) (h w : Nat), vs = [.ref p, .int (h : Int), .int (w : Int)] ∧ PotL H p l ∧ h ≤ 5 ∧ w ≤ 5 ∧
  ∀ T L m over H', H' T = some (.tup [.ref L, .int over]) → RowsL H' L m → CellsOk m h w → 0 < over → Bd 31 over → PotL H' p l → Keep p H H' → H T = none → H L = none → Q (.ref T) H'
theorem ok_cells (T : Txt K mg A) : FnOk P w K mg base CX0 3 A.f_cells A.d_cells ["pot", "height", "width"] spCells := by
  refine T.F_cells.ok sc_cells (fun vs H Q E h => ?_) (fun cdv Ar outer s H vs Q E hr h => ?_)
  · obtain ⟨p, l, h, w, rfl, _⟩ := h
    rfl
  · obtain ⟨p, l, h, w, rfl, pot, lh, lw, k⟩ := h
    refine ⟨_, (C8.pss_cut (ps_set (i := 3) sc_cells.nd rfl (Or.inl rfl) (pe_call (ok_digit T) (hr.mono (by decide)) rfl T.g_digit T.F_digit.kp T.b_digit .nil pass0 (pa_cons (pv 0) (pa_cons pe_int pa_nil))))
      (pss_cons (ps_set (i := 4) sc_cells.nd rfl (Or.inr rfl) pe_int)
      (C8.pss_cut (ps_if (pt_cmpR op_gt (pv 3) pe_int (nomark _))
      (pss_one (ps_set (i := 4) sc_cells.nd rfl (Or.inr rfl) pe_int)) pss_nil)
      (C8.pss_cut (ps_if (pt_cmpR op_eq (pv 3) pe_int (nomark _))
      (pss_one (ps_set (i := 4) sc_cells.nd rfl (Or.inr rfl) (pe_op op_add (pe_op op_mulW pe_int (pe_op op_pow pe_int pe_int)) pe_int))) pss_nil)
      (pss_cons (ps_set (i := 5) sc_cells.nd rfl (Or.inl rfl) (pe_lst pa_nil))
      (C8.pss_cut (ps_for PassesOwn.never rfl (pi_range1 rfl T.n_range (pa_cons (pv 1) pa_nil)) (pg_name (i := 6) sc_cells.nd rfl (Or.inl rfl))
      (pss_cons (ps_set (i := 7) sc_cells.nd rfl (Or.inr rfl) (pe_op op_add pe_int (pe_op op_mulW pe_int (pv 6))))
      (pss_cons (ps_setLc (i := 8) (own := [("j", 9)]) (g := gName 9) (tt := tYes) rfl sc_cells.nd rfl rfl (sw_true rfl rfl rfl (by decide +kernel)) (pi_range1 rfl T.n_range (pa_cons (pv 2) pa_nil)) (blkOk_by (own := [("j", 9)]) (N := N_cells) (sc := defScope S_cells) (by decide +kernel)) (fun _ _ _ _ _ => pg_name (i := 9) sc_cells.nd rfl (Or.inl rfl)) (fun _ _ _ _ _ => pts_nil) (fun _ _ _ _ _ => (pe_call (ok_number T) (hr.mono (by decide)) rfl T.g_number T.F_number.kp T.b_number .nil pass0 (pa_cons (pv 0) (pa_cons (pv 4) (pa_cons (pe_op op_add (pv 7) (pe_op op_mulW pe_int (pv 9))) pa_nil))))))
      (pss_one (ps_expr (pe_bm PySem.F.plainAttrs_list PySem.F.slot_list_append PySem.F.type_list_append mt_append (pv 5) (pa_cons (pv 8) pa_nil)))))))
      (C8.pss_cut (ps_if (pt_cmpR op_eq (pe_call (ok_digit T) (hr.mono (by decide)) rfl T.g_digit T.F_digit.kp T.b_digit .nil pass0 (pa_cons (pv 0) (pa_cons pe_int pa_nil))) pe_int (nomark _))
      (pss_one (ps_setLc (i := 5) (own := [("row", 8)]) (g := gName 8) (tt := tYes) rfl sc_cells.nd rfl rfl (sw_true rfl rfl rfl (by decide +kernel)) (pi_list (pv 5)) (blkOk_by (own := [("row", 8)]) (N := N_cells) (sc := defScope S_cells) (by decide +kernel)) (fun _ _ _ _ _ => pg_name (i := 8) sc_cells.nd rfl (Or.inl rfl)) (fun _ _ _ _ _ => pts_nil) (fun _ _ _ _ _ => (pe_lc (own := [("cell", 10)]) (g := gName 10) (wi := iList K (tVar 8)) (tt := tYes) rfl sc_cells.nd (pi_list (pv 8)) (blkOk_by (own := [("cell", 10)]) (N := N_cells) (by rfl)) (fun _ _ _ _ _ => pg_name (i := 10) sc_cells.nd rfl (Or.inl rfl)) (fun _ _ _ _ _ => pts_nil) (fun _ _ _ _ _ => pe_int))))) pss_nil)
      (C8.pss_cut (ps_if (pt_cmpR op_eq (pv 3) pe_int (nomark _))
      (pss_one (ps_ret (pe_tup (pa_cons (pv 5) (pa_cons (pe_op op_add pe_int (pe_call (ok_digit T) (hr.mono (by decide)) rfl T.g_digit T.F_digit.kp T.b_digit .nil pass0 (pa_cons (pv 0) (pa_cons (pe_op op_pow pe_int pe_int) pa_nil)))) pa_nil))))) pss_nil)
      (pss_one (ps_ret (pe_tup (pa_cons (pv 5) (pa_cons (pe_op op_sub pe_int (pe_call (ok_digit T) (hr.mono (by decide)) rfl T.g_digit T.F_digit.kp T.b_digit .nil pass0 (pa_cons (pv 0) (pa_cons pe_int pa_nil)))) pa_nil))))))))))))), ?_⟩
    refine ⟨fun sl H' => ∃ kd : Int, sl = [some (.ref p), some (.int (h : Int)), some (.int (w : Int)), some (.int kd), none, none, none, none, none, none, none] ∧ PotL H' p l ∧ Keep p H H', ?_, ?_⟩
    · exact ⟨_, rfl, p, l, 8, rfl, pot, by decide, bd_of (by decide), fun d H1 a b p1 k1 => ⟨d, rfl, p1, k1⟩⟩
    rintro sl H1 ⟨kd, rfl, p1, k1⟩
    refine ⟨fun sl H' => ∃ m : Int, sl = [some (.ref p), some (.int (h : Int)), some (.int (w : Int)), some (.int kd), some (.int m), none, none, none, none, none, none] ∧ 0 < m ∧ m ≤ 2 * 10 ^ 9 + 1 ∧ H' = H1, ?_, ?_⟩
    · refine ⟨_, rfl, _, _, rfl, rfl, _, rfl, ite2 (fun _ => ?_) (fun _ => ?_)⟩
      · exact ⟨199, rfl, by decide, by decide, rfl⟩
      · exact ⟨19, rfl, by decide, by decide, rfl⟩
    rintro sl H' ⟨m0, rfl, m1, m2, rfl⟩
    have b9 : Bd 30 ((10 : Int) ^ (9 : Int).toNat) := by show ((10 : Int) ^ 9).natAbs < 2 ^ 30; decide +kernel
    refine ⟨fun sl H2 => ∃ m : Int, sl = [some (.ref p), some (.int (h : Int)), some (.int (w : Int)), some (.int kd), some (.int m), none, none, none, none, none, none] ∧ 0 < m ∧ m ≤ 2 * 10 ^ 9 + 1 ∧ H2 = H', ?_, ?_⟩
    · refine ⟨_, rfl, rfl, _, rfl, ite2 (fun _ => ?_) (fun _ => ?_)⟩
      · exact ⟨_, _, rfl, rfl, cpow 10 9 (by decide) (by decide), _, _, rfl, rfl, bd_two.w b9, _, _, rfl, rfl, 2 * (10 : Int) ^ (9 : Int).toNat + 1, rfl, by decide +kernel, by decide +kernel, rfl⟩
      · exact ⟨m0, rfl, m1, m2, rfl⟩
    clear m1 m2
    rintro sl H2 ⟨m, rfl, m1, m2, rfl⟩
    have bm : Bd 300 m := by
      show m.natAbs < 2 ^ 300
      have : (2 : Nat) ^ 300 > 3000000000 := by decide +kernel
      omega
    refine ⟨(by show 0 ≤ sizeLine; exact Nat.zero_le _), fun L nL => ?_⟩
    refine ⟨fun sl H3 => ∃ ms o6 o7 o8, sl = [some (.ref p), some (.int (h : Int)), some (.int (w : Int)), some (.int kd), some (.int m), some (.ref L), o6, o7, o8, none, none] ∧ PotL H3 p l ∧ Keep p H2 H3 ∧ RowsL H3 L ms ∧ CellsOk ms h w, ?_, ?_⟩
    · obtain ⟨np, nl⟩ := p1.p nL
      refine ⟨_, rfl, (h : Int), rfl, by omega, by omega, for_range (lo := 0) (n := h) (fun i sl H3 => ∃ ms o6 o7 o8, sl = [some (.ref p), some (.int (h : Int)), some (.int (w : Int)), some (.int kd), some (.int m), some (.ref L), o6, o7, o8, none, none] ∧ PotL H3 p l ∧ Keep p H2 H3 ∧ RowsL H3 L ms ∧ CellsOk ms i w) ?_ ?_ ?_⟩
      · refine ⟨[], none, none, none, rfl, p1.ex (Ex.new nL), Keep.new nL, ⟨[], upd_same, rfl, fun i a r e => by simp at e⟩, rfl, fun r hr => by cases hr⟩
      · rintro i sl H3 hi ⟨ms, o6, o7, o8, rfl, p3, k3, ⟨as, hL, el, hrw⟩, cl, cw⟩
        have c7 : CMulW 7 (0 + (i : Int)) := mul_small (by decide) (by omega)
        refine ⟨_, rfl, _, _, rfl, rfl, c7, _, _, rfl, rfl, ?_⟩
        refine ⟨_, rfl, (w : Int), rfl, by omega, by omega, fun D hD => ?_⟩
        obtain ⟨dp, dl⟩ := p3.p hD
        have DL : D ≠ L := fun e => by rw [e, hL] at hD; cases hD
        refine it_rng (lo := 0) (n := w) (fun j H4 => ∃ cs : List Int, H4 D = some (.lst (cs.map V.int)) ∧ cs.length = j ∧ (∀ c ∈ cs, Bd 31 c) ∧ PotL H4 p l ∧ Keep p H3 H4) ⟨[], upd_same, rfl, fun c hc => (by cases hc), p3.ex (Ex.new hD), Keep.new hD⟩ (fun j H4 hj q => ?_) (fun H4 q => ?_)
        · obtain ⟨cs, hcs, lc, bc, p4, k4⟩ := q
          have c3 : CMulW 3 (0 + (j : Int)) := mul_small (by decide) (by omega)
          refine ⟨rfl, _, rfl, _, rfl, _, rfl, _, rfl, _, _, rfl, rfl, c3, _, _, rfl, rfl, p, l, m, _, rfl, p4, m1, bm, fun n H5 n1 n2 p5 k5 => ⟨_, k5 _ _ hcs dp, ?_, cs ++ [n], ?_, ?_, ?_, ?_, ?_⟩⟩
          · rw [List.length_map, sizeLine_eq]; omega
          · rw [upd_same, List.map_append]; rfl
          · rw [List.length_append, lc]; rfl
          · intro c hc
            rcases List.mem_append.mp hc with hc | hc
            · exact bc c hc
            · rw [List.mem_singleton.mp hc]; exact bd31 n1 n2 m2
          · exact p5.keep (D := D) Keep.upd dp dl
          · exact fun c o e ne => by rw [upd_ne (ne_of_none e hD)]; exact (k4.trans k5) c o e ne
        · obtain ⟨cs, hcs, lc, bc, p4, k4⟩ := q
          have hL4 := k4 _ _ hL np
          refine ⟨_, rfl, .inl ⟨rfl, _, SqL.of hL4⟩, _, rfl, L, _, _, rfl, rfl, hL4, ?_, ms ++ [cs], _, _, _, rfl, ?_, ?_, ?_, ?_, ?_⟩
          · rw [List.length_map, el, cl, sizeLine_eq]; omega
          · exact p4.keep (D := L) Keep.upd np nl
          · exact fun c o e ne => by rw [upd_ne (ne_of_none e nL)]; exact (k3.trans k4) c o e ne
          · refine RowsL.add hL4 el (fun i' a r e1 e2 => ?_) hcs fun a ha => ?_
            · refine k4 _ _ (hrw i' a r e1 e2) fun e => ?_
              obtain ⟨cs', i0, d0, ne0, h1, _⟩ := p3
              have := hrw i' a r e1 e2
              rw [e, h1] at this
              cases r with
              | nil => cases this
              | cons y r => cases this
            · rcases List.mem_cons.mp ha with ha | ha
              · rw [ha]; exact DL
              · intro e
                obtain ⟨j, hj⟩ := List.mem_iff_getElem?.mp ha
                have hjl := (List.getElem?_eq_some_iff.mp hj).1
                have := hrw j a _ hj (List.getElem?_eq_getElem (by omega))
                rw [e, hL] at this
                cases as with
                | nil => cases ha
                | cons y as =>
                  cases hq : ms[j]'(by omega) with
                  | nil => rw [hq] at this; cases this
                  | cons z r => rw [hq] at this; cases this
          · rw [List.length_append, cl]; rfl
          · intro r hr'
            rcases List.mem_append.mp hr' with hr' | hr'
            · exact cw r hr'
            · rw [List.mem_singleton.mp hr']; exact ⟨lc, bc⟩
      · rintro sl H3 ⟨ms, o6, o7, o8, rfl, p3, k3, rw_, ok⟩
        exact ⟨ms, o6, o7, o8, rfl, p3, k3, rw_, ok⟩
    rintro sl H3 ⟨ms, o6, o7, o8, rfl, p3, k3, rw3, ok3⟩
    have npL : L ≠ p := (p1.p nL).1
    have nHL : ∀ {D : Addr} {G : Hp}, Keep p H G → PotL G p l → G D = none → H D = none := fun {D G} kk pp n => by
      cases e : H D with
      | none => rfl
      | some o => exact absurd (kk D o e (pp.p n).1) (by rw [n]; intro z; cases z)
    refine ⟨fun sl H4 => ∃ L2 ms2 o6 o7 o8, sl = [some (.ref p), some (.int (h : Int)), some (.int (w : Int)), some (.int kd), some (.int m), some (.ref L2), o6, o7, o8, none, none] ∧ PotL H4 p l ∧ Keep p H H4 ∧ H L2 = none ∧ L2 ≠ p ∧ RowsL H4 L2 ms2 ∧ CellsOk ms2 h w, ?_, ?_⟩
    · refine ⟨_, rfl, p, l, 8, rfl, p3, by decide, bd_of (by decide), fun d H4 d0 d1 p4 k4 => ⟨rfl, _, rfl, ite2 (fun _ => ?_) (fun _ => ?_)⟩⟩
      · have rw4 := rw3.keep npL p3 k4
        obtain ⟨as, hL, el, hrw⟩ := rw4
        refine ⟨_, rfl, L, rfl, ⟨_, SqL.of hL⟩, fun D hD => ?_⟩
        refine it_lst (K := K) (a := L) (xs := as.map V.ref) (fun i H5 => ∃ bs : List Addr, H5 D = some (.lst (bs.map V.ref)) ∧ bs.length = i ∧ (∀ (j : Nat) b r, bs[j]? = some b → ms[j]? = some r → H5 b = some (.lst ((r.map fun _ => (0 : Int)).map V.int)) ∧ b ≠ D) ∧ Ex H4 H5)
          ⟨[], upd_same, rfl, fun j b r e => by simp at e, Ex.new hD⟩ (fun i H5 _ q => by obtain ⟨bs, _, _, _, ex⟩ := q; exact SqL.of (ex _ _ hL)) (fun i x H5 hx q => ?_) (fun H5 q => ?_)
        · obtain ⟨bs, hbs, lb, hb, ex⟩ := q
          rw [List.getElem?_map] at hx
          obtain ⟨a, ha, rfl⟩ := Option.map_eq_some_iff.mp hx
          have hi : i < ms.length := by have := (List.getElem?_eq_some_iff.mp ha).1; omega
          have hr5 := ex _ _ (hrw i a _ ha (List.getElem?_eq_getElem hi))
          refine ⟨rfl, _, rfl, a, rfl, ⟨_, SqL.of hr5⟩, fun D2 hD2 => ?_⟩
          have nDD : D ≠ D2 := ne_of_none hbs hD2
          refine it_lst (K := K) (a := a) (xs := ms[i].map V.int) (fun j H6 => H6 D2 = some (.lst ((List.replicate j (0 : Int)).map V.int)) ∧ Ex H5 H6) ⟨upd_same, Ex.new hD2⟩ (fun j H6 _ q => SqL.of (q.2 _ _ hr5)) (fun j x H6 hx q => ?_) (fun H6 q => ?_)
          · refine ⟨rfl, _, q.1, ?_, ?_, ?_⟩
            · have := (List.getElem?_eq_some_iff.mp hx).1
              rw [List.length_map] at this
              have := ok3.2 ms[i] (List.getElem_mem hi)
              rw [List.length_map, List.length_replicate, sizeLine_eq]; omega
            · rw [upd_same, List.replicate_succ', List.map_append]; rfl
            · exact fun c o e => by rw [upd_ne (ne_of_none e hD2)]; exact q.2 c o e
          · have hD6 := q.2 _ _ hbs
            refine ⟨_, hD6, ?_, bs ++ [D2], ?_, ?_, ?_, ?_⟩
            · have := ok3.1; rw [List.length_map, sizeLine_eq]; omega
            · rw [upd_same, List.map_append]; rfl
            · rw [List.length_append, lb]; rfl
            · intro j b r e1 e2
              by_cases c : j < bs.length
              · rw [List.getElem?_append_left c] at e1
                obtain ⟨z1, z2⟩ := hb j b r e1 e2
                exact ⟨by rw [upd_ne z2]; exact q.2 _ _ z1, z2⟩
              · have hj : j = bs.length := by
                  have := (List.getElem?_eq_some_iff.mp e1).1
                  rw [List.length_append] at this
                  simp at this
                  omega
                subst hj
                rw [List.getElem?_append_right (Nat.le_refl _)] at e1
                simp at e1
                subst e1
                subst lb
                rw [List.getElem?_eq_getElem hi] at e2
                cases e2
                refine ⟨?_, nDD.symm⟩
                rw [upd_ne nDD.symm, q.1, List.length_map]
                congr 3
                rw [List.map_const']
            · exact fun c o e => by rw [upd_ne (ne_of_none e hD)]; exact q.2 c o (ex c o e)
        · obtain ⟨bs, hbs, lb, hb, ex⟩ := q
          have KK : Keep p H H4 := (k1.trans k3).trans k4
          refine ⟨D, ms.map fun r => r.map fun _ => (0 : Int), _, _, _, rfl, p4.ex ex, KK.trans (Keep.of ex), nHL KK p4 hD, (p4.p hD).1, ⟨bs, hbs, ?_, ?_⟩, ?_, ?_⟩
          · rw [lb, List.length_map, List.length_map, el]
          · intro j b r e1 e2
            rw [List.getElem?_map] at e2
            obtain ⟨r0, h0, rfl⟩ := Option.map_eq_some_iff.mp e2
            exact (hb j b r0 e1 h0).1
          · rw [List.length_map]; exact ok3.1
          · intro r hr'
            obtain ⟨r0, h0, rfl⟩ := List.mem_map.mp hr'
            refine ⟨by rw [List.length_map]; exact (ok3.2 r0 h0).1, fun c hc => ?_⟩
            obtain ⟨_, _, rfl⟩ := List.mem_map.mp hc
            exact bd_of (by decide)
      · exact ⟨L, ms, _, _, _, rfl, p4, (k1.trans k3).trans k4, nHL k1 p1 nL, npL, rw3.keep npL p3 k4, ok3⟩
    rintro sl H4 ⟨L2, ms2, o6', o7', o8', rfl, p4, k4, nL2, np2, rw4, ok4⟩
    have fin : ∀ (over : Int) (H5 : Hp), 0 < over → Bd 31 over → PotL H5 p l → Keep p H4 H5 → ∀ T, H5 T = none → Q (.ref T) (upd H5 T (.tup [.ref L2, .int over])) := fun over H5 o0 bo p5 k5 T hT =>
      k T L2 ms2 over _ upd_same ((rw4.keep np2 p4 k5).ex (Ex.new hT)) ok4 o0 bo (p5.ex (Ex.new hT)) ((k4.trans k5).trans (Keep.new hT)) (nHL (k4.trans k5) p5 hT) nL2
    refine ⟨fun sl H5 => sl = [some (.ref p), some (.int (h : Int)), some (.int (w : Int)), some (.int kd), some (.int m), some (.ref L2), o6', o7', o8', none, none] ∧ H5 = H4, ?_, ?_⟩
    · refine ⟨_, rfl, rfl, _, rfl, ite2 (fun _ => ?_) (fun _ => ⟨rfl, rfl⟩)⟩
      refine ⟨_, rfl, _, rfl, _, _, rfl, rfl, cpow 10 9 (by decide) (by decide), p, l, _, rfl, p4, by decide +kernel, b9.mono (by decide), fun d H5 d0 d1 p5 k5 => ⟨_, _, rfl, rfl, (by show 2 ≤ sizeLine; exact sz2), fun T hT => fin (1 + d) H5 (by omega) ?_ p5 k5 T hT⟩⟩
      have d1' : d < 10 ^ 9 := d1
      show (1 + d).natAbs < 2 ^ 31
      have : (2 : Nat) ^ 31 = 2147483648 := by decide
      omega
    · rintro sl H5 ⟨rfl, rfl⟩
      refine ⟨_, rfl, _, rfl, p, l, 12, rfl, p4, by decide, bd_of (by decide), fun d H5 d0 d1 p5 k5 => ⟨_, _, rfl, rfl, (by show 2 ≤ sizeLine; exact sz2), fun T hT => fin (12 - d) H5 (by omega) ?_ p5 k5 T hT⟩⟩
      show (12 - d).natAbs < 2 ^ 31
      have : (2 : Nat) ^ 31 = 2147483648 := by decide
      omega
end
end Fc
set_option Elab.async false
set_option linter.all false
set_option maxRecDepth 100000
set_option maxHeartbeats 4000000
set_option exponentiation.threshold 100000
namespace Fc
open PySem PySem.Spec PyProof.Rows L2 L2H
section
variable {P : Program} {w : World} {K : PySem.W.Frag} {mg : Str → Option Value} {base : Heap} {A : Ad}
/-- a list of lists that are new beside H0, none of them twice -/
def RowsN (H0 H : Hp) (D : Addr) (m : List (List Int)) : Prop := ∃ bs : List Addr, H D = some (.lst (bs.map V.ref)) ∧ bs.length = m.length ∧
  (∀ (i : Nat) b r, bs[i]? = some b → m[i]? = some r → H b = some (.lst (r.map V.int))) ∧ (∀ b ∈ bs, H0 b = none) ∧ (D :: bs).Nodup
theorem RowsN.rows {H0 H : Hp} {D : Addr} {m : List (List Int)} (h : RowsN H0 H D m) : RowsL H D m := let ⟨bs, a, b, c, _⟩ := h; ⟨bs, a, b, c⟩
def spCopy : Sp := fun vs H Q _ => ∃ (a : Addr) (m : List (List Int)), vs = [.ref a] ∧ RowsL H a m ∧ m.length ≤ 1000 ∧ ∀ D H', Ex H H' → H D = none → RowsN H H' D m → Q (.ref D) H'
theorem ok_copy (T : Txt K mg A) : FnOk P w K mg base CX0 1 A.f_copy A.d_copy ["rows"] spCopy := by
  refine T.F_copy.ok sc_copy (fun vs H Q E h => ?_) (fun cdv Ar outer s H vs Q E hr h => ?_)
  · obtain ⟨a, m, rfl, _⟩ := h
    rfl
  · obtain ⟨a, m, rfl, ⟨as, ha, el, hrw⟩, lm, k⟩ := h
    refine ⟨_, (pss_one (ps_ret (pe_lc (own := [("row", 1)]) (g := gName 1) (tt := tYes) rfl sc_copy.nd (pi_list (pv 0)) (blkOk_by (own := [("row", 1)]) (N := N_copy) (sc := defScope S_copy) (by decide +kernel)) (fun _ _ _ _ _ => pg_name (i := 1) sc_copy.nd rfl (Or.inl rfl)) (fun _ _ _ _ _ => pts_nil) (fun _ _ _ _ _ => (pe_callTy (T := "list") (r := rListOf K) call_listK (by rfl) T.n_list (by decide +kernel) (pa_cons (pv 1) pa_nil)))))), ?_⟩
    refine ⟨_, rfl, a, rfl, ⟨_, SqL.of ha⟩, fun D hD => ?_⟩
    refine it_lst (K := K) (a := a) (xs := as.map V.ref) (fun i H' => ∃ bs : List Addr, H' D = some (.lst (bs.map V.ref)) ∧ bs.length = i ∧
      (∀ (j : Nat) b r, bs[j]? = some b → m[j]? = some r → H' b = some (.lst (r.map V.int))) ∧ (∀ b ∈ bs, H b = none ∧ ∃ o, H' b = some o) ∧ (D :: bs).Nodup ∧ Ex H H')
      ⟨[], upd_same, rfl, fun j b r e => by simp at e, fun b hb => (by cases hb), by simp, Ex.new hD⟩ (fun i H' _ q => by obtain ⟨bs, _, _, _, _, _, ex⟩ := q; exact SqL.of (ex _ _ ha)) (fun i x H' hx q => ?_) (fun H' q => ?_)
    · obtain ⟨bs, h1, h2, h3, h4, h5, ex⟩ := q
      rw [List.getElem?_map] at hx
      obtain ⟨b, hb, rfl⟩ := Option.map_eq_some_iff.mp hx
      have hi : i < m.length := by have := (List.getElem?_eq_some_iff.mp hb).1; omega
      have hrow := ex _ _ (hrw i b _ hb (List.getElem?_eq_getElem hi))
      refine ⟨rfl, _, rfl, b, _, rfl, .inl (SqL.of hrow), fun l nl => ?_⟩
      have lD : D ≠ l := ne_of_none h1 nl
      have lb : ∀ c ∈ bs, c ≠ l := fun c hc => by
        obtain ⟨_, o, ho⟩ := h4 c hc
        exact ne_of_none ho nl
      have Dbs : D ∉ bs := (List.nodup_cons.mp h5).1
      refine ⟨_, by rw [upd_ne lD]; exact h1, by rw [List.length_map, sizeLine_eq]; omega, bs ++ [l], ?_, ?_, ?_, ?_, ?_, ?_⟩
      · rw [upd_same, List.map_append]; rfl
      · rw [List.length_append, h2]; rfl
      · intro j c r e1 e2
        by_cases cj : j < bs.length
        · rw [List.getElem?_append_left cj] at e1
          have hc := List.mem_of_getElem? e1
          rw [upd_ne (fun e => Dbs (by rw [← e]; exact hc)), upd_ne (lb c hc)]
          exact h3 j c r e1 e2
        · have hj : j = bs.length := by
            have := (List.getElem?_eq_some_iff.mp e1).1
            rw [List.length_append] at this
            simp at this
            omega
          subst hj
          rw [List.getElem?_append_right (Nat.le_refl _)] at e1
          simp at e1
          subst e1
          subst h2
          rw [List.getElem?_eq_getElem hi] at e2
          cases e2
          rw [upd_ne lD.symm, upd_same]
      · intro c hc
        rcases List.mem_append.mp hc with hc | hc
        · obtain ⟨n0, o, ho⟩ := h4 c hc
          exact ⟨n0, o, by rw [upd_ne (fun e => Dbs (by rw [← e]; exact hc)), upd_ne (lb c hc)]; exact ho⟩
        · rw [List.mem_singleton.mp hc]
          exact ⟨ex.free nl, _, by rw [upd_ne lD.symm]; exact upd_same⟩
      · rw [← List.cons_append]
        refine List.nodup_append.mpr ⟨h5, by simp, fun x hx y hy => ?_⟩
        rw [List.mem_singleton.mp hy]
        rcases List.mem_cons.mp hx with hx | hx
        · rw [hx]; exact lD
        · exact lb x hx
      · exact fun c o e => by rw [upd_ne (ne_of_none e hD)]; exact (ex.trans (Ex.new nl)) c o e
    · obtain ⟨bs, h1, h2, h3, h4, h5, ex⟩ := q
      exact k D H' ex hD ⟨bs, h1, by rw [h2, List.length_map, el], h3, fun b hb => (h4 b hb).1, h5⟩
end
end Fc
set_option Elab.async false
set_option linter.all false
set_option maxRecDepth 100000
set_option maxHeartbeats 4000000
set_option exponentiation.threshold 100000
namespace Fc
open PySem PySem.Spec PyProof.Rows L2 L2H
section
variable {P : Program} {w : World} {K : PySem.W.Frag} {mg : Str → Option Value} {base : Heap} {A : Ad}
def spCShape (K : PySem.W.Frag) (A : Ad) : Sp := fun vs H Q E => ∃ (a : Addr) (xs : List V) (ns : List Nat), vs = [.ref a] ∧ LensV K H a xs ns ∧ ns.length ≤ 100000 ∧ (ShapeOk ns → Q .non H) ∧ (¬ ShapeOk ns → E (.ref A.BS) none H)
theorem ok_cshape (T : Txt K mg A) : FnOk P w K mg base (L2N.CX P w) 1 A.f_cshape A.d_cshape ["rows"] (spCShape K A) := by
  refine fun_okN T.F_cshape sc_cshape (fun vs H Q E h => ?_) (fun cdv Ar outer s H vs Q E hr h => ?_)
  · obtain ⟨a, xs, ns, rfl, _⟩ := h
    rfl
  · obtain ⟨a, xs, ns, rfl, ⟨hs, el, hrow⟩, ln, k, kb⟩ := h
    obtain ⟨tM, eM⟩ := T.gi_MOST_SIZE
    refine ⟨_, (C8.pss_cut (ps_if (pt_cmpR op_gt (pe_callB call_len (by rfl) T.n_len PySem.boot_len (pa_cons (pv 0) pa_nil)) (pe_glob (v := .int 64) rfl eM ⟨_, rfl⟩) (nomark _))
      (pss_one (L2N.ps_raise rfl (L2N.takes_of rfl rfl rfl rfl) (pmk_bareN PySem.F.excBase_ValueError T.x_BS T.g_BS T.k_BS (raises_own T.bs_BS T.t_BS) rfl))) pss_nil)
      (pss_one (ps_for (passes_of rfl) rfl (pi_seq (pv 0)) (pg_name (i := 1) sc_cshape.nd rfl (Or.inl rfl))
      (pss_one (ps_if (PW.pt (pw_or (pt_cmpR op_gt (pe_callB call_len (by rfl) T.n_len PySem.boot_len (pa_cons (pv 1) pa_nil)) (pe_glob (v := .int 64) rfl eM ⟨_, rfl⟩) (nomark _)) (pw_or1 (pt_cmpR op_ne (pe_callB call_len (by rfl) T.n_len PySem.boot_len (pa_cons (pv 1) pa_nil)) (pe_callB call_len (by rfl) T.n_len PySem.boot_len (pa_cons (pe_ix ix_seq (pv 0) pe_int (fun _ _ => rfl)) pa_nil)) (nomark _)))))
      (pss_one (L2N.ps_raise rfl (L2N.takes_of rfl rfl rfl rfl) (pmk_bareN PySem.F.excBase_ValueError T.x_BS T.g_BS T.k_BS (raises_own T.bs_BS T.t_BS) rfl))) pss_nil))))), ?_⟩
    refine ⟨fun sl H' => sl = [some (.ref a), none] ∧ H' = H ∧ ns.length ≤ 64, ?_, ?_⟩
    · refine ⟨_, rfl, _, _, rfl, lenv hs, _, _, rfl, rfl, _, rfl, ?_⟩
      by_cases c : ns.length ≤ 64
      · rw [decide_eq_false (by omega)]
        exact iteF ⟨rfl, rfl, c⟩
      · rw [decide_eq_true (by omega)]
        exact iteT (kb fun z => c z.1)
    rintro sl H' ⟨rfl, rfl, l64⟩
    rcases hs with hs | hs
    · refine .inl ⟨_, rfl, a, rfl, ⟨_, hs⟩, for_list (K := K) (a := a) (xs := xs) (fun i sl H2 => (∃ o, sl = [some (.ref a), o]) ∧ H2 = H' ∧ ∀ n ∈ ns.take i, n ≤ 64 ∧ ns.head? = some n) ⟨⟨_, rfl⟩, rfl, fun n hn => by simp at hn⟩ (fun i sl H2 _ q => by rw [q.2.1]; exact hs) (fun i v sl H2 hv q => ?_) (fun sl H2 q => ?_)⟩
      · obtain ⟨⟨o, rfl⟩, rfl, all⟩ := q
        have hi : i < ns.length := by have := (List.getElem?_eq_some_iff.mp hv).1; omega
        have hx0 : 0 < xs.length := by omega
        have hn0 : 0 < ns.length := by omega
        obtain ⟨b, ys, rfl, hb, lb⟩ := hrow i v _ hv (List.getElem?_eq_getElem hi)
        obtain ⟨b0, ys0, e0, hb0, lb0⟩ := hrow 0 _ _ (List.getElem?_eq_getElem hx0) (List.getElem?_eq_getElem hn0)
        have hh : ns.head? = some ns[0] := by rw [List.head?_eq_getElem?, List.getElem?_eq_getElem hn0]
        have at0 : xs[0]? = some (V.ref b0) := by rw [List.getElem?_eq_getElem hx0, e0]
        refine ⟨_, rfl, _, _, rfl, lenv hb, _, _, rfl, rfl, _, rfl, ?_⟩
        by_cases c1 : ys.length ≤ 64
        · rw [decide_eq_false (by omega)]
          refine iteF ⟨_, rfl, _, _, rfl, lenv hb, _, rfl, .inl ⟨_, _, _, _, rfl, rfl, hs, atI_nat at0, _, _, rfl, lenv hb0, rfl, _, rfl, ?_⟩⟩
          by_cases c2 : ys.length = ys0.length
          · rw [decide_eq_true (by rw [c2])]
            refine iteF ⟨⟨_, rfl⟩, rfl, fun n hn => ?_⟩
            rw [List.take_add_one, List.getElem?_eq_getElem hi] at hn
            rcases List.mem_append.mp hn with hn | hn
            · exact all n hn
            · have : n = ns[i] := by simpa using hn
              subst this
              exact ⟨by omega, by rw [hh, ← lb0, ← c2, lb]⟩
          · rw [decide_eq_false (fun z => c2 (by have := V.int.inj z; omega))]
            refine iteT (kb fun z => c2 ?_)
            have := (z.2 ns[i] (List.getElem_mem hi)).2
            rw [hh] at this
            have := Option.some.inj this
            omega
        · rw [decide_eq_true (by omega)]
          exact iteT (kb fun z => c1 (by have := (z.2 ns[i] (List.getElem_mem hi)).1; omega))
      · obtain ⟨⟨o, rfl⟩, rfl, all⟩ := q
        rw [el, List.take_length] at all
        exact k ⟨l64, all⟩
    · refine .inr ⟨_, rfl, a, rfl, ⟨_, hs⟩, for_tup (K := K) (a := a) (xs := xs) (fun i sl H2 => (∃ o, sl = [some (.ref a), o]) ∧ H2 = H' ∧ ∀ n ∈ ns.take i, n ≤ 64 ∧ ns.head? = some n) ⟨⟨_, rfl⟩, rfl, fun n hn => by simp at hn⟩ (fun i sl H2 _ q => by rw [q.2.1]; exact hs) (fun i v sl H2 hv q => ?_) (fun sl H2 q => ?_)⟩
      · obtain ⟨⟨o, rfl⟩, rfl, all⟩ := q
        have hi : i < ns.length := by have := (List.getElem?_eq_some_iff.mp hv).1; omega
        have hx0 : 0 < xs.length := by omega
        have hn0 : 0 < ns.length := by omega
        obtain ⟨b, ys, rfl, hb, lb⟩ := hrow i v _ hv (List.getElem?_eq_getElem hi)
        obtain ⟨b0, ys0, e0, hb0, lb0⟩ := hrow 0 _ _ (List.getElem?_eq_getElem hx0) (List.getElem?_eq_getElem hn0)
        have hh : ns.head? = some ns[0] := by rw [List.head?_eq_getElem?, List.getElem?_eq_getElem hn0]
        have at0 : xs[0]? = some (V.ref b0) := by rw [List.getElem?_eq_getElem hx0, e0]
        refine ⟨_, rfl, _, _, rfl, lenv hb, _, _, rfl, rfl, _, rfl, ?_⟩
        by_cases c1 : ys.length ≤ 64
        · rw [decide_eq_false (by omega)]
          refine iteF ⟨_, rfl, _, _, rfl, lenv hb, _, rfl, .inr (.inl ⟨_, _, _, _, rfl, rfl, hs, atI_nat at0, _, _, rfl, lenv hb0, rfl, _, rfl, ?_⟩)⟩
          by_cases c2 : ys.length = ys0.length
          · rw [decide_eq_true (by rw [c2])]
            refine iteF ⟨⟨_, rfl⟩, rfl, fun n hn => ?_⟩
            rw [List.take_add_one, List.getElem?_eq_getElem hi] at hn
            rcases List.mem_append.mp hn with hn | hn
            · exact all n hn
            · have : n = ns[i] := by simpa using hn
              subst this
              exact ⟨by omega, by rw [hh, ← lb0, ← c2, lb]⟩
          · rw [decide_eq_false (fun z => c2 (by have := V.int.inj z; omega))]
            refine iteT (kb fun z => c2 ?_)
            have := (z.2 ns[i] (List.getElem_mem hi)).2
            rw [hh] at this
            have := Option.some.inj this
            omega
        · rw [decide_eq_true (by omega)]
          exact iteT (kb fun z => c1 (by have := (z.2 ns[i] (List.getElem_mem hi)).1; omega))
      · obtain ⟨⟨o, rfl⟩, rfl, all⟩ := q
        rw [el, List.take_length] at all
        exact k ⟨l64, all⟩
end
end Fc
set_option Elab.async false
set_option linter.all false
set_option maxRecDepth 100000
set_option maxHeartbeats 4000000
set_option exponentiation.threshold 100000
namespace Fc
open PySem PySem.Spec PyProof.Rows L2 L2H
section
variable {P : Program} {w : World} {K : PySem.W.Frag} {mg : Str → Option Value} {base : Heap} {A : Ad}
/-- the greatest common divisor of a bottom and all numbers -/
def sharedG (m : List (List Int)) (g : Nat) : Nat := m.foldl (fun g r => gcdL ((g : Int) :: r)) g
theorem sharedG_take (m : List (List Int)) (g i : Nat) (r : List Int) (h : m[i]? = some r) : sharedG (m.take (i + 1)) g = gcdL (((sharedG (m.take i) g : Nat) : Int) :: r) := by
  unfold sharedG
  rw [List.take_add_one, h, List.foldl_append]
  rfl
def spShared (K : PySem.W.Frag) : Sp := fun vs H Q _ => ∃ (a : Addr) (xs : List V) (m : List (List Int)) (g : Nat), vs = [.ref a, .int (g : Int)] ∧ MatV K H a xs m ∧ (∀ r ∈ m, r.length ≤ 100000) ∧ ∀ H', Ex H H' → Q (.int (sharedG m g : Nat)) H'
theorem ok_shared (T : Txt K mg A) : FnOk P w K mg base CX0 2 A.f_shared A.d_shared ["rows", "over"] (spShared K) := by
  refine T.F_shared.ok sc_shared (fun vs H Q E h => ?_) (fun cdv Ar outer s H vs Q E hr h => ?_)
  · obtain ⟨a, xs, m, g, rfl, _⟩ := h
    rfl
  · obtain ⟨a, xs, m, g, rfl, ⟨hs, el, hrow⟩, lm, k⟩ := h
    refine ⟨_, (pss_cons (ps_set (i := 2) sc_shared.nd rfl (Or.inl rfl) (pv 1))
      (pss_cons (ps_for PassesOwn.never rfl (pi_seq (pv 0)) (pg_name (i := 3) sc_shared.nd rfl (Or.inl rfl))
      (pss_one (ps_set (i := 2) sc_shared.nd rfl (Or.inl rfl) (pe_call (ok_cdiv T) (hr.mono (by decide)) rfl T.g_cdiv T.F_cdiv.kp T.b_cdiv .nil pass0 (pa_cons (pe_lst (pa_cons (pv 2) (StX.pa_star (pv 3) pa_nil))) pa_nil)))))
      (pss_one (ps_ret (pv 2))))), ?_⟩
    refine ⟨_, rfl, ?_⟩
    rcases hs with hs | hs
    · refine .inl ⟨_, rfl, a, rfl, ⟨_, hs⟩, for_list (K := K) (a := a) (xs := xs) (fun i sl H2 => (∃ o, sl = [some (.ref a), some (.int (g : Int)), some (.int (sharedG (m.take i) g : Nat)), o]) ∧ Ex H H2) ⟨⟨_, rfl⟩, fun _ _ h => h⟩ (fun i sl H2 _ q => Fc.SqL.ex hs q.2) (fun i v sl H2 hv q => ?_) (fun sl H2 q => ?_)⟩
      · obtain ⟨⟨o, rfl⟩, ex⟩ := q
        have hi : i < m.length := by have := (List.getElem?_eq_some_iff.mp hv).1; omega
        obtain ⟨b, rfl, hb⟩ := hrow i v _ hv (List.getElem?_eq_getElem hi)
        have hb2 := hb.ex ex
        refine ⟨_, rfl, _, rfl, b, _, rfl, hb2.symm, ?_, fun L nL => ⟨L, ((sharedG (m.take i) g : Nat) : Int) :: m[i], rfl, SqL.of ?_, ⟨some (.ref b), ?_⟩, ex.trans (Ex.new nL)⟩⟩
        · have := lm m[i] (List.getElem_mem hi)
          rw [List.append_nil, List.length_cons, List.length_map, sizeLine_eq]; omega
        · rw [upd_same, List.append_nil]; rfl
        · rw [sharedG_take m g i m[i] (List.getElem?_eq_getElem hi)]
          rfl
      · obtain ⟨⟨o, rfl⟩, ex⟩ := q
        rw [el, List.take_length]
        exact ⟨_, rfl, k H2 ex⟩
    · refine .inr ⟨_, rfl, a, rfl, ⟨_, hs⟩, for_tup (K := K) (a := a) (xs := xs) (fun i sl H2 => (∃ o, sl = [some (.ref a), some (.int (g : Int)), some (.int (sharedG (m.take i) g : Nat)), o]) ∧ Ex H H2) ⟨⟨_, rfl⟩, fun _ _ h => h⟩ (fun i sl H2 _ q => Fc.SqT.ex hs q.2) (fun i v sl H2 hv q => ?_) (fun sl H2 q => ?_)⟩
      · obtain ⟨⟨o, rfl⟩, ex⟩ := q
        have hi : i < m.length := by have := (List.getElem?_eq_some_iff.mp hv).1; omega
        obtain ⟨b, rfl, hb⟩ := hrow i v _ hv (List.getElem?_eq_getElem hi)
        have hb2 := hb.ex ex
        refine ⟨_, rfl, _, rfl, b, _, rfl, hb2.symm, ?_, fun L nL => ⟨L, ((sharedG (m.take i) g : Nat) : Int) :: m[i], rfl, SqL.of ?_, ⟨some (.ref b), ?_⟩, ex.trans (Ex.new nL)⟩⟩
        · have := lm m[i] (List.getElem_mem hi)
          rw [List.append_nil, List.length_cons, List.length_map, sizeLine_eq]; omega
        · rw [upd_same, List.append_nil]; rfl
        · rw [sharedG_take m g i m[i] (List.getElem?_eq_getElem hi)]
          rfl
      · obtain ⟨⟨o, rfl⟩, ex⟩ := q
        rw [el, List.take_length]
        exact ⟨_, rfl, k H2 ex⟩
end
end Fc
set_option Elab.async false
set_option linter.all false
set_option maxRecDepth 100000
set_option maxHeartbeats 4000000
set_option exponentiation.threshold 100000
namespace Fc
open PySem PySem.Spec PyProof.Rows L2 L2H
section
variable {P : Program} {w : World} {K : PySem.W.Frag} {mg : Str → Option Value} {base : Heap} {A : Ad}
def wideOf (m : List (List Int)) : Nat := (m.head?.map List.length).getD 0
theorem RowsL.dp {K : PySem.W.Frag} {H : Hp} {L : Addr} {m : List (List Int)} (h : RowsL H L m) : Dp K H (.ref L) (PyData.list (m.map fun r => PyData.list (r.map PyData.int))) :=
  let ⟨as, a, b, c⟩ := h
  .lst (SqL.of a) (dpL as m b c)
def spWide : Sp := fun vs H Q _ => ∃ (a : Addr) (m : List (List Int)), vs = [.ref a] ∧ RowsL H a m ∧ (∀ r ∈ m, r.length ≤ 100000) ∧ ∀ H', Ex H H' → Q (.int (wideOf m : Nat)) H'
theorem ok_wide (T : Txt K mg A) : FnOk P w K mg base CX0 1 A.f_wide A.d_wide ["rows"] spWide := by
  refine T.F_wide.ok sc_wide (fun vs H Q E h => ?_) (fun cdv Ar outer s H vs Q E hr h => ?_)
  · obtain ⟨a, m, rfl, _⟩ := h
    rfl
  · obtain ⟨a, m, rfl, hm, lm, k⟩ := h
    refine ⟨_, (C8.pss_cut (ps_if (pt_cmpR (op_eqD hr.units) (pv 0) (pe_lst pa_nil) (nomark _))
      (pss_one (ps_ret pe_int)) pss_nil)
      (pss_one (ps_ret (pe_callB call_len (by rfl) T.n_len PySem.boot_len (pa_cons (pe_ix ix_seq (pv 0) pe_int (fun _ _ => rfl)) pa_nil))))), ?_⟩
    refine ⟨fun sl H' => sl = [some (.ref a)] ∧ Ex H H' ∧ m ≠ [], ?_, ?_⟩
    · refine ⟨_, rfl, (by show 0 ≤ sizeLine; exact Nat.zero_le _), fun L nL => ?_⟩
      have e1 : Ex H (upd H L (.lst [])) := Ex.new nL
      refine ⟨_, PyData.list [], (hm.ex e1).dp, .lst (SqL.of upd_same) .nil, shapedL m, by decide +kernel, _, rfl, ?_⟩
      cases m with
      | nil => exact iteT (k _ e1)
      | cons r m => exact iteF ⟨rfl, e1, by simp⟩
    rintro sl H' ⟨rfl, e, ne⟩
    obtain ⟨as, ha, el, hr'⟩ := hm.ex e
    cases m with
    | nil => exact absurd rfl ne
    | cons r m =>
      cases as with
      | nil => simp at el
      | cons b as =>
        have hb := hr' 0 b r rfl rfl
        refine ⟨_, rfl, .inl ⟨_, _, _, _, rfl, rfl, SqL.of ha, atI_nat (j := 0) rfl, _, _, rfl, .inl ⟨_, SqL.of hb, rfl⟩, ?_⟩⟩
        rw [List.length_map]
        exact k H' e
end
end Fc
set_option Elab.async false
set_option linter.all false
set_option maxRecDepth 100000
set_option maxHeartbeats 4000000
/-! x[i] by an own __getitem__, which may raise in a try. -/
namespace Fc
open PySem PySem.Spec PyProof.Rows L2
section
variable {X : Cx} {CX : CXT} {k : Nat} {C f : Addr} {fd : FuncData} {ps : List Str} {sp : Sp}
def tIxO (C : Addr) (sp : Sp) (E : L2.St → XK) (ta tb : TE) : TE := fun sl H Q => ta sl H fun x H1 => tb sl H1 fun y H2 => ∃ a dx fs, x = .ref a ∧ H2 a = some (.ins C dx fs) ∧ sp [.ref a, y] H2 Q (E sl)
theorem pe_ixO {a b : Expr} {pos : Pos} {E : L2.St → XK} {ta tb : TE} (hs : PySem.W.findIn X.K (.ref C) "__getitem__" = some (some (.ref f))) (hn : PySem.W.fnIn X.K f = true) (hf : PySem.W.isFn X.K (.ref f) = true)
    (F : FnOk X.prog X.w X.K X.mg X.base CX k f fd ps sp) (hr : Room (k + 1) X.A) (hb : Binds X.K fd ps []) (hx : ∀ sl, PassesAt CX X sl (E sl)) (ha : PE X a ta) (hbb : PE X b tb)
    (hsl : ∀ v i, subscripted b true v i = runValue (.builtin "lifetime.subscript" ⟨[v, i], []⟩) := by intro _ _; with_unfolding_all rfl) : PE X (.Subscript a b pos) (tIxO C sp E ta tb) := by
  refine ⟨fun pins s sl H Q I h => ?_⟩
  refine Subscript_ (binT ha hbb I h fun v u s2 x y H2 I2 rx ry q => ?_)
  obtain ⟨a, dx, fs, rfl, h1, q⟩ := q
  cases rx
  obtain ⟨ox, od, J⟩ := inst_at I2 h1
  obtain ⟨m, hF⟩ := I2.fr
  refine PySem.W.sub_K hF I2.ok.mod.kin J hs hn hf ?_ (hsl _ _)
  have e := I2.env0
  have e0 : Env0 X.prog X.w X.K X.mg X.base X.A.in1 X.stack s2 H2 := e.in1
  have r2 : Vals [V.ref a, y] [Value.ref a, u] := .cons rfl (.cons ry .nil)
  have hl := F.len _ _ _ _ q
  refine wpAny_call (codeAny_mono (F.run X.A.in1 X.stack s2 H2 ⟨[.ref a, u], []⟩ [.ref a, u] [.ref a, y] Q (E sl) hr.in1 e0 (by
    have := hb s2 [.ref a, u] I2.kIn (by simpa using hl)
    simpa using this) r2 q) fun r s' hq => ?_)
  cases r with
  | error e => exact hx sl pins H2 s2 e s' I2 hq
  | ok fl =>
    cases fl with
    | ret w => exact I2.after hq
    | next => exact False.elim hq
    | brk => exact False.elim hq
    | cont => exact False.elim hq
theorem pe_meth0S {m : Str} {o : Expr} {ta : TE} {apos pos : Pos} {pl : Sem Bool} {E : L2.St → XK} (ho : PE X o ta) (c : Cls X.K C) (hm : Meth X.K C m f)
    (F : FnOk X.prog X.w X.K X.mg X.base CX k f fd ps sp) (hr : Room k X.A) (hb : Binds X.K fd ps []) (hx : ∀ sl, PassesAt CX X sl (E sl))
    (ht : eval (.Call (.Attribute o m apos) [] [] pos) X.env = (do
      let v ← eval o X.env
      standAt apos.atName
      let (g, first) ← holding [v] (getMethod v m pl)
      callWith pos g first (backTo pos (starEach [] X.env)) (backToKw pos (keywordEach [] X.env))) := by rfl) :
    PE X (.Call (.Attribute o m apos) [] [] pos) (tMethS C m sp E ta tNil) := by
  refine ⟨fun pins s sl H Q I h => PySem.W.methodCall_KW (pl := pl) (thn (ho.run pins s sl H _ I h) fun u s1 hh => ?_) ht⟩
  obtain ⟨x, H1, I1, rx, a, dx, fs, ex, ea, l, q⟩ := hh
  subst ex
  cases rx
  refine getmeth_ok I1 ea c hm l ?_
  exact PySem.W.callWith_K0 (first := [.ref a]) I1.kIn hm.kp (run_fnS (us := [.ref a]) (vs := [.ref a]) F hr hb (hx sl) I1 (.cons rfl .nil) q)
def tSMethS (C : Addr) (sp : Sp) (E : L2.St → XK) (ta : TE) (t : TA) : TE := fun σ H Q => ta σ H fun x H1 => x = .ref C ∧ t σ H1 fun vs H2 => sp vs H2 Q (E σ)
theorem pe_smethS {o e : Expr} {es : List Expr} {m : Str} {apos pos : Pos} {pl : Sem Bool} {mc : Value} {p g : Addr} {E : L2.St → XK} {ta : TE} {t : TA} (he : PE X o ta) (r : ClX.CRead X.K C mc) (c : SMet X.K C mc m p g)
    (F : FnOk X.prog X.w X.K X.mg X.base CX k g fd ps sp) (hr : Room k X.A) (hb : Binds X.K fd ps []) (hx : ∀ sl, PassesAt CX X sl (E sl)) (ha : PA X (e :: es) t)
    (hst : starEach (e :: es) X.env = (false, eval e X.env) :: starEach es X.env := by rfl) (hpl : (backTo pos (starEach es X.env)).any (·.1) = false := by rfl)
    (ht : eval (.Call (.Attribute o m apos) (e :: es) [] pos) X.env = (do
      let ov ← eval o X.env
      standAt apos.atName
      let (f, first) ← holding [ov] (getMethod ov m pl)
      callWith pos f first (backTo pos (starEach (e :: es) X.env)) (backToKw pos (keywordEach [] X.env))) := by rfl) :
    PE X (.Call (.Attribute o m apos) (e :: es) [] pos) (tSMethS C sp E ta t) := by
  refine ⟨fun pins s σ H Q I h => ?_⟩
  refine PySem.W.methodCall_KW (pl := pl) (thn (he.run pins s σ H _ I h) fun u s1 ⟨x, H1, I1, rx, ex, q⟩ => ?_) ht
  subst ex
  obtain rfl : u = Value.ref C := rx
  refine getsm_ok I1 r c fun s2 I2 => ?_
  refine PySem.W.callWith_K (first := []) (h₀ := X.base) I2.ok.mod.kin c.kp ?_ hst hpl
  exact thn (ha.run pos pins s2 σ H1 _ I2 q) fun us s3 ⟨vs, H2, I3, rv, q2⟩ => ⟨I3.kIn, run_fnS F hr hb (hx σ) I3 rv q2⟩
end
def spErr1 (C : Addr) (f : Str) : Sp := fun vs H Q _ => ∃ (a : Addr) (v : V), vs = [.ref a, v] ∧ H a = some (exo a C none) ∧
  ∀ d H2, H d = none → d ≠ a → H2 a = some (exo a C (some d)) → H2 d = some (exd d [(f, v)]) → (∀ c o, H c = some o → c ≠ a → H2 c = some o) → Q .non H2
theorem rd_err1 {C : Addr} {f : Str} {v : V} {H : Hp} {Q : XK} {E : XK} (k : ∀ d H', Ex H H' → H' d = some (.xd [(f, v)]) → Q (.ref C) (some d) H') :
    ([v] : List V).length ≤ 1000 ∧ ∀ a, H a = none → spErr1 C f (.ref a :: ([v] ++ [])) (upd H a (exo a C none))
      (fun u H2 => u = .non ∧ ∃ (d : Addr) (fs : List (Str × V)), H2 a = some (exo a C (some d)) ∧ H2 d = some (exd d fs) ∧ H d = none ∧ Q (.ref C) (some d) (upd (del H2 a) d (.xd fs))) E := by
  refine ⟨(by show 1 ≤ 1000; decide), fun a na => ⟨a, v, rfl, upd_same, fun d H2 nd ne h1 h2 kp => ⟨rfl, d, _, h1, h2, ?_, ?_⟩⟩⟩
  · rw [upd_ne ne] at nd; exact nd
  · have hd : H d = none := by rw [upd_ne ne] at nd; exact nd
    refine k d _ (fun b o e => ?_) upd_same
    rw [upd_ne (ne_of_none e hd), del_ne (ne_of_none e na)]
    exact kp b o (by rw [upd_ne (ne_of_none e na)]; exact e) (ne_of_none e na)

theorem not_take {ns : List Str} {k : Nat} {n : Str} (nd : ns.Nodup) (h : ns[k]? = some n) : n ∉ ns.take k := by
  intro m
  obtain ⟨i, hi⟩ := List.mem_iff_getElem?.mp m
  rw [List.getElem?_take] at hi
  split at hi
  · have := nodup_ix nd hi h
    omega
  · cases hi
/-- a field stored behind the first k ones -/
theorem fput {ns : List Str} {k : Nat} {vs : List V} {n : Str} {v : V} (nd : ns.Nodup) (h : ns[k]? = some n) (l : (ns.take k).length = vs.length) : putF n v ((ns.take k).zip vs) = (ns.take (k + 1)).zip (vs ++ [v]) := by
  rw [put_new (not_take nd h) l, List.take_succ, h]
  rfl
/-- tuple(x), its reading named for use within a comprehension -/
def rTupOf (K : PySem.W.Frag) : List V → Hp → VK → Prop := fun xs H Q => ∃ p ys, xs = [.ref p] ∧ ((SqL K H p ys ∧ ∀ l, H l = none → Q (.ref l) (upd H l (.tup ys))) ∨ (SqT K H p ys ∧ Q (.ref p) H))
theorem call_tupK {X : Cx} : CallR X (.type "tuple") (rTupOf X.K) := call_tuple_of
theorem nf_self {K : PySem.W.Frag} {C : Addr} : PySem.W.notFirst K C (.ref C) = true := by
  unfold PySem.W.notFirst
  simp
theorem nf_ty {K : PySem.W.Frag} {C : Addr} {t : String} (h : PySem.W.subIn K (.type t) (.ref C) = some false) : PySem.W.notFirst K C (.type t) = true := by
  unfold PySem.W.notFirst
  rw [h]
  simp
theorem NL.put {H : Hp} {b : Addr} {xs : List V} {o : HO} (h : H b = some (.lst xs)) : NL H (upd H b o) := fun c ob hc n => by
  rw [upd_ne fun z => by subst z; rw [h] at hc; cases hc; exact n _ rfl]
  exact hc
theorem passE0 {X : Cx} : ∀ sl, PassesAt (L2N.CX X.prog X.w) X sl E0 := fun sl pins H s e s' I h => passLN pins sl H s e s' I h
/-- what stands but at these places stays -/
def St (N : List Addr) (H H' : Hp) : Prop := ∀ b o, H b = some o → b ∉ N → H' b = some o
theorem St.refl {N : List Addr} {H : Hp} : St N H H := fun _ _ h _ => h
theorem St.trans {N : List Addr} {H H1 H2 : Hp} (a : St N H H1) (b : St N H1 H2) : St N H H2 := fun c o h n => b c o (a c o h n) n
theorem St.of {N : List Addr} {H H' : Hp} (h : Ex H H') : St N H H' := fun c o e _ => h c o e
theorem St.kp {N : List Addr} {p : Addr} {H H' : Hp} (h : Keep p H H') (m : p ∈ N) : St N H H' := fun c o e n => h c o e fun z => n (by rw [z]; exact m)
theorem St.put {N : List Addr} {p : Addr} {H : Hp} {o : HO} (m : p ∈ N) : St N H (L2.upd H p o) := fun c oc e n => by rw [L2.upd_ne fun z => n (by rw [z]; exact m)]; exact e
end Fc
set_option Elab.async false
set_option linter.all false
set_option maxRecDepth 100000
set_option maxHeartbeats 4000000
set_option exponentiation.threshold 100000
namespace Fc
open PySem PySem.Spec PyProof.Rows L2 L2H
def GN : List Str := ["rows", "over", "height", "width"]
theorem GN_nd : GN.Nodup := by decide +kernel
/-- a Grid that shows the rows m over o -/
def GridAt (A : Ad) (H : Hp) (g : Addr) (m : List (List Int)) (o : Int) : Prop := ∃ dx R, H g = some (.ins A.Gr dx (GN.zip [.ref R, .int o, .int (m.length : Nat), .int (wideOf m : Nat)])) ∧ RowsT H R m
theorem GridAt.ex {A : Ad} {H H' : Hp} {g : Addr} {m : List (List Int)} {o : Int} (h : GridAt A H g m o) (e : Ex H H') : GridAt A H' g m o := let ⟨dx, R, a, b⟩ := h; ⟨dx, R, e _ _ a, b.ex e⟩
/-- lowest terms -/
def nG (m : List (List Int)) (o : Int) : Int := (sharedG m o.toNat : Nat)
def nR (m : List (List Int)) (o : Int) : List (List Int) := m.map fun r => r.map fun x => x.fdiv (nG m o)
def nO (m : List (List Int)) (o : Int) : Int := o.fdiv (nG m o)
theorem nR_len (m : List (List Int)) (o : Int) : (nR m o).length = m.length := List.length_map ..
theorem nR_wide (m : List (List Int)) (o : Int) : wideOf (nR m o) = wideOf m := by
  unfold wideOf nR
  cases m <;> simp
theorem gcdl_dvd (g : Nat) (r : List Int) : gcdL ((g : Int) :: r) ∣ g := by
  have : ∀ (l : List Int) (a : Nat), l.foldl (fun d n => Nat.gcd d n.natAbs) a ∣ a := by
    intro l
    induction l with
    | nil => intro a; exact Nat.dvd_refl _
    | cons x l ih => intro a; exact Nat.dvd_trans (ih _) (Nat.gcd_dvd_left _ _)
  have e : gcdL ((g : Int) :: r) = r.foldl (fun d n => Nat.gcd d n.natAbs) g := by
    unfold gcdL
    rw [List.foldl_cons, Int.natAbs_natCast, Nat.gcd_zero_left]
  rw [e]
  exact this r g
theorem sharedG_dvd (m : List (List Int)) (g : Nat) : sharedG m g ∣ g := by
  induction m generalizing g with
  | nil => exact Nat.dvd_refl _
  | cons r m ih => exact Nat.dvd_trans (ih _) (gcdl_dvd g r)
theorem nG_pos {m : List (List Int)} {o : Int} (h : 1 ≤ o) : 0 < nG m o := by
  unfold nG
  have := Nat.pos_of_dvd_of_pos (sharedG_dvd m o.toNat) (by omega)
  omega
theorem nG_bd {m : List (List Int)} {o : Int} {n : Nat} (h : 1 ≤ o) (b : Bd n o) : Bd n (nG m o) := by
  have := Nat.le_of_dvd (by omega) (sharedG_dvd m o.toNat)
  refine b.abs ?_
  unfold nG
  omega
section
variable {P : Program} {w : World} {K : PySem.W.Frag} {mg : Str → Option Value} {base : Heap} {A : Ad}
theorem ok_oob (T : Txt K mg A) : FnOk P w K mg base CX0 1 A.f_oob A.d_oob ["self", "value"] (spErr1 A.O "value") := by
  refine T.F_oob.ok sc_oob (fun vs H Q E h => ?_) (fun cdv Ar outer s H vs Q E hr h => ?_)
  · obtain ⟨a, v, rfl, _⟩ := h
    rfl
  · obtain ⟨a, v, rfl, ha, k⟩ := h
    refine ⟨_, (pss_one (ps_ost (pv 0) (pv 1))), ?_⟩
    refine ⟨_, rfl, _, rfl, a, A.O, rfl, T.o_O, T.n_O_value, .inl ⟨ha, fun d hd hn => ?_⟩⟩
    exact k d _ hd hn upd_same (by rw [upd_ne hn, upd_same]) fun c o e ne => by rw [upd_ne ne, upd_ne (ne_of_none e hd)]; exact e
/-! ### a Grid is made -/
def spGInit (K : PySem.W.Frag) (A : Ad) : Sp := fun vs H Q E => ∃ (x dx a : Addr) (xs : List V) (ns : List Nat) (o : Int), vs = [.ref x, .ref a, .int o] ∧ H x = some (.ins A.Gr dx []) ∧ LensV K H a xs ns ∧ ns.length ≤ 100000 ∧
  (¬ ShapeOk ns → E (.ref A.BS) none H) ∧ (ShapeOk ns → o < 1 → ∀ d H', Ex H H' → H' d = some (.xd [("value", .int o)]) → E (.ref A.O) (some d) H') ∧
  (ShapeOk ns → 1 ≤ o → Bd 8900 o ∧ ∃ m, ns = m.map List.length ∧ MatV K H a xs m ∧ ∀ H', Keep x H H' → GridAt A H' x (nR m o) (nO m o) → Q .non H')
theorem shape_len {m : List (List Int)} (h : ShapeOk (m.map List.length)) : m.length ≤ 64 ∧ ∀ r ∈ m, r.length ≤ 64 ∧ wideOf m = r.length := by
  refine ⟨by simpa using h.1, fun r hr => ?_⟩
  obtain ⟨h1, h2⟩ := h.2 r.length (List.mem_map_of_mem hr)
  refine ⟨h1, ?_⟩
  unfold wideOf
  rw [List.head?_map] at h2
  rw [h2]
  rfl
theorem ok_ginit (T : Txt K mg A) : FnOk P w K mg base (L2N.CX P w) 3 A.f_ginit A.d_ginit ["self", "rows", "over"] (spGInit K A) := by
  refine T.F_ginit.ok sc_ginit (fun vs H Q E h => ?_) (fun cdv Ar outer s H vs Q E hr h => ?_)
  · obtain ⟨x, dx, a, xs, ns, o, rfl, _⟩ := h
    rfl
  · obtain ⟨x, dx, a, xs, ns, o, rfl, hx, hl, ln, kb, ko, kg⟩ := h
    refine ⟨_, (C8.pss_cut (ps_expr (pe_call (ok_cshape T) (hr.mono (by decide)) rfl T.g_cshape T.F_cshape.kp T.b_cshape .nil (L2N.passes_call (L2N.takes_of rfl rfl rfl rfl) fun _ _ _ _ h => h) (pa_cons (pv 1) pa_nil)))
      (C8.pss_cut (ps_if (pt_cmpR op_lt (pv 2) pe_int (nomark _))
      (pss_one (L2N.ps_raise rfl (L2N.takes_of rfl rfl rfl rfl) (pmk_oexN T.o_O T.in_O T.ti_O (ok_oob T) (hr.mono (by decide)) T.b_oob passF rfl T.g_O (pa_cons (pv 2) pa_nil)))) pss_nil)
      (C8.pss_cut (ps_set (i := 3) sc_ginit.nd rfl (Or.inr rfl) (pe_call (ok_shared T) (hr.mono (by decide)) rfl T.g_shared T.F_shared.kp T.b_shared .nil pass0 (pa_cons (pv 1) (pa_cons (pv 2) pa_nil))))
      (C8.pss_cut (ps_fld (pv 0) (pe_callTy call_tuple_of (by rfl) T.n_tuple (by decide +kernel) (pa_cons (pe_lc (own := [("row", 5)]) (g := gName 5) (tt := tYes) rfl sc_ginit.nd (pi_seq (pv 1)) (blkOk_by (own := [("row", 5)]) (N := N_ginit) (sc := defScope S_ginit) (by decide +kernel)) (fun _ _ _ _ _ => pg_name (i := 5) sc_ginit.nd rfl (Or.inl rfl)) (fun _ _ _ _ _ => pts_nil) (fun _ _ _ _ _ => (pe_callTy (T := "tuple") (r := rTupOf K) call_tupK (by rfl) T.n_tuple (by decide +kernel) (pa_cons (pe_lc (own := [("number", 4)]) (g := gName 4) (wi := iSeq K (tVar 5)) (tt := tYes) rfl sc_ginit.nd (pi_seq (pv 5)) (blkOk_by (own := [("number", 4)]) (N := N_ginit) (by rfl)) (fun _ _ _ _ _ => pg_name (i := 4) sc_ginit.nd rfl (Or.inl rfl)) (fun _ _ _ _ _ => pts_nil) (fun _ _ _ _ _ => (pe_op op_fdv (pv 4) (pv 3)))) pa_nil)))) pa_nil)) rfl)
      (C8.pss_cut (ps_fld (pv 0) (pe_op op_fdv (pv 2) (pv 3)) rfl)
      (C8.pss_cut (ps_fld (pv 0) (pe_callB call_len (by rfl) T.n_len PySem.boot_len (pa_cons (pe_fld (pv 0) rfl) pa_nil)) rfl)
      (pss_one (ps_fld (pv 0) (pe_ifExp (pt_truth (pe_fld (pv 0) rfl) (by intro _; rfl)) (pe_callB call_len (by rfl) T.n_len PySem.boot_len (pa_cons (pe_ix ix_tup (pe_fld (pv 0) rfl) pe_int (fun _ _ => rfl)) pa_nil)) pe_int) rfl)))))))), ?_⟩
    refine ⟨fun sl H' => sl = [some (.ref x), some (.ref a), some (.int o), none, none, none] ∧ H' = H ∧ ShapeOk ns, ?_, ?_⟩
    · exact ⟨_, rfl, a, xs, ns, rfl, hl, ln, fun h => ⟨rfl, rfl, h⟩, kb⟩
    rintro sl H' ⟨rfl, rfl, sh⟩
    refine ⟨fun sl H2 => sl = [some (.ref x), some (.ref a), some (.int o), none, none, none] ∧ H2 = H' ∧ 1 ≤ o, ?_, ?_⟩
    · refine ⟨_, rfl, _, _, rfl, rfl, _, rfl, ?_⟩
      refine ite2 (fun c => ⟨_, rfl, rd_err1 (ko sh (of_decide_eq_true c))⟩) (fun c => ⟨rfl, rfl, by have := of_decide_eq_false (by simpa using c) (p := o < 1); omega⟩)
    rintro sl H2 ⟨rfl, rfl, o1⟩
    obtain ⟨bo, m, rfl, hm, k⟩ := kg sh o1
    obtain ⟨lm, lr⟩ := shape_len sh
    have eo : o = (o.toNat : Int) := by omega
    refine ⟨fun sl H3 => sl = [some (.ref x), some (.ref a), some (.int o), some (.int (nG m o)), none, none] ∧ Ex H2 H3, ?_, ?_⟩
    · exact ⟨_, rfl, _, rfl, a, xs, m, o.toNat, by rw [← eo]; rfl, hm, fun r hr => by have := (lr r hr).1; omega, fun H3 e => ⟨rfl, e⟩⟩
    rintro sl H3 ⟨rfl, e3⟩
    have gp := nG_pos (m := m) o1
    have gb := nG_bd (m := m) o1 bo
    have hm3 := hm.ex e3
    refine ⟨fun sl H4 => sl = [some (.ref x), some (.ref a), some (.int o), some (.int (nG m o)), none, none] ∧ Keep x H2 H4 ∧ ∃ R, H4 x = some (.ins A.Gr dx ((GN.take 1).zip [.ref R])) ∧ RowsT H4 R (nR m o) ∧ R ≠ x, ?_, ?_⟩
    · refine uFld (uCB (uCons (lcS (RowR .tup (nR m o)) (fun Q q => ⟨_, rfl, q⟩) hm3.1 (by rw [hm3.2.1]; omega) (fun i v H4 D hi ex4 hD Q4 kq => ?_) (fun D H4 vs hD ex4 h1 h2 h3 => ?_))))
      · have hi2 : i < m.length := by have := (List.getElem?_eq_some_iff.mp hi).1; have := hm3.2.1; omega
        obtain ⟨b, rfl, hb⟩ := (hm3.ex ex4).2.2 i v _ hi (List.getElem?_eq_getElem hi2)
        have l64 := (lr m[i] (List.getElem_mem hi2)).1
        refine ⟨rfl, uCB (uCons (lcInts (fun n => n.fdiv (nG m o)) (fun R => lcS R (fun Q q => ⟨_, rfl, q⟩) hb (by rw [List.length_map]; omega)) (fun n H5 _ e5 Q5 q => ⟨rfl, _, rfl, _, rfl, _, _, rfl, rfl, gb.fdv (by omega), q⟩) (fun D2 H5 n2 e5 hD2 => ?_)))⟩
        refine ⟨D2, _, rfl, .inl ⟨SqL.of hD2, fun R nR_ => ?_⟩⟩
        obtain ⟨oD, hoD⟩ := hD
        exact kq _ _ (e5.trans (Ex.new nR_)) (RowR.fix (r := m[i].map fun n => n.fdiv (nG m o)) (by unfold nR; rw [List.getElem?_map, List.getElem?_eq_getElem hi2]; rfl) upd_same (ne_of_none (e5 _ _ hoD) nR_).symm)
      · obtain ⟨as, rfl, la, ha⟩ := RowR.all (m := nR m o) (by rw [h2, hm3.2.1, nR_len]) h3
        refine ⟨D, _, rfl, .inl ⟨SqL.of h1, fun R nR_ => ?_⟩⟩
        have e5 : Ex H2 (upd H4 R (.tup (as.map V.ref))) := e3.trans (ex4.trans (Ex.new nR_))
        have xR : R ≠ x := (ne_of_none (e3.trans ex4 _ _ hx) nR_).symm
        refine ⟨_, rfl, x, A.Gr, dx, _, rfl, e5 _ _ hx, T.c_Gr, T.na_Gr_rows, (by show 0 < 1000; decide), rfl, fun b ob hb ne => by rw [upd_ne ne]; exact e5 _ _ hb, R, upd_same, ⟨as, by rw [upd_ne xR]; exact upd_same, la, fun i c r e1 e2 => ?_⟩, xR⟩
        have hc := ha i c r e1 e2
        have cx : c ≠ x := fun z => by
          subst z
          have := (e3.trans ex4) _ _ hx
          rw [this] at hc
          cases hc
        rw [upd_ne cx, upd_ne (ne_of_none hc nR_)]
        exact hc
    rintro sl H4 ⟨rfl, k4, R, h4, hR, nRx⟩
    have step : ∀ {H5 : Hp} {o' : HO}, Keep x H2 H5 → RowsT H5 R (nR m o) → (∃ ob, H5 x = some ob ∧ ∀ ys, ob ≠ .tup ys) → Keep x H2 (upd H5 x o') ∧ RowsT (upd H5 x o') R (nR m o) := by
      intro H5 o' k5 ⟨as, r1, r2, r3⟩ ⟨ob, hob, nt⟩
      refine ⟨fun b q hb ne => by rw [upd_ne ne]; exact k5 _ _ hb ne, as, by rw [upd_ne nRx]; exact r1, r2, fun i c r e1 e2 => ?_⟩
      have hc := r3 i c r e1 e2
      rw [upd_ne fun z => by subst z; rw [hob] at hc; cases hc; exact nt _ rfl]
      exact hc
    have nt : ∀ {fs : List (Str × V)} (ys : List V), HO.ins A.Gr dx fs ≠ .tup ys := fun ys z => by cases z
    refine ⟨fun sl H5 => sl = [some (.ref x), some (.ref a), some (.int o), some (.int (nG m o)), none, none] ∧ Keep x H2 H5 ∧ RowsT H5 R (nR m o) ∧ H5 x = some (.ins A.Gr dx ((GN.take 2).zip [.ref R, .int (nO m o)])), ?_, ?_⟩
    · refine ⟨_, rfl, _, rfl, _, _, rfl, rfl, gb.fdv (by omega), _, rfl, x, A.Gr, dx, _, rfl, h4, T.c_Gr, T.na_Gr_over, (by show 1 < 1000; decide), rfl, ?_⟩
      obtain ⟨s1, s2⟩ := step (o' := .ins A.Gr dx (putF "over" (.int (nO m o)) ((GN.take 1).zip [.ref R]))) k4 hR ⟨_, h4, nt⟩
      exact ⟨s1, s2, by rw [upd_same, fput GN_nd rfl rfl]; rfl⟩
    rintro sl H5 ⟨rfl, k5, hR5, h5⟩
    have dv := hR5.choose_spec
    refine ⟨fun sl H6 => sl = [some (.ref x), some (.ref a), some (.int o), some (.int (nG m o)), none, none] ∧ Keep x H2 H6 ∧ RowsT H6 R (nR m o) ∧ H6 x = some (.ins A.Gr dx ((GN.take 3).zip [.ref R, .int (nO m o), .int (m.length : Nat)])), ?_, ?_⟩
    · refine ⟨_, rfl, _, _, _, _, _, rfl, h5, T.c_Gr, T.na_Gr_rows, zip_get (i := 0) (by decide +kernel) rfl rfl, _, _, rfl, lenv (.inr (SqT.of dv.1)), _, rfl, x, A.Gr, dx, _, rfl, h5, T.c_Gr, T.na_Gr_height, (by show 2 < 1000; decide), rfl, ?_⟩
      rw [List.length_map, dv.2.1, nR_len]
      obtain ⟨s1, s2⟩ := step (o' := .ins A.Gr dx (putF "height" (.int (m.length : Nat)) ((GN.take 2).zip [.ref R, .int (nO m o)]))) k5 hR5 ⟨_, h5, nt⟩
      exact ⟨s1, s2, by rw [upd_same, fput GN_nd rfl rfl]; rfl⟩
    rintro sl H6 ⟨rfl, k6, hR6, h6⟩
    have fin : Q .non (upd H6 x (.ins A.Gr dx (putF "width" (.int (wideOf m : Nat)) ((GN.take 3).zip [.ref R, .int (nO m o), .int (m.length : Nat)])))) := by
      obtain ⟨s1, s2⟩ := step (o' := .ins A.Gr dx (putF "width" (.int (wideOf m : Nat)) ((GN.take 3).zip [.ref R, .int (nO m o), .int (m.length : Nat)]))) k6 hR6 ⟨_, h6, nt⟩
      refine k _ s1 ⟨dx, R, ?_, s2⟩
      rw [upd_same, fput GN_nd rfl rfl, nR_len, nR_wide]
      rfl
    obtain ⟨as, r1, r2, r3⟩ := hR6
    rw [nR_len] at r2
    refine ⟨_, rfl, _, _, _, _, _, rfl, h6, T.c_Gr, T.na_Gr_rows, zip_get (i := 0) (by decide +kernel) rfl rfl, _, .inr (.inl ⟨_, SqT.of r1, rfl⟩), ?_⟩
    cases m with
    | nil =>
      obtain rfl : as = [] := List.length_eq_zero_iff.mp r2
      exact iteF ⟨_, rfl, x, A.Gr, dx, _, rfl, h6, T.c_Gr, T.na_Gr_width, (by show 3 < 1000; decide), fin⟩
    | cons r0 m =>
      cases as with
      | nil => cases r2
      | cons c as =>
        have hc := r3 0 c (r0.map fun z => z.fdiv (nG (r0 :: m) o)) rfl rfl
        refine iteT ⟨_, rfl, _, _, _, _, _, rfl, h6, T.c_Gr, T.na_Gr_rows, zip_get (i := 0) (by decide +kernel) rfl rfl, _, _, _, _, rfl, rfl, SqT.of r1, atI_nat (j := 0) rfl, _, _, rfl, lenv (.inr (SqT.of hc)), _, rfl, x, A.Gr, dx, _, rfl, h6, T.c_Gr, T.na_Gr_width, (by show 3 < 1000; decide), ?_⟩
        rw [List.length_map, List.length_map]
        exact fin
end
end Fc
set_option Elab.async false
set_option linter.all false
set_option maxRecDepth 100000
set_option maxHeartbeats 4000000
set_option exponentiation.threshold 100000
namespace Fc
open PySem PySem.Spec PyProof.Rows L2 L2H
/-- rows of one length, few and short enough -/
structure Rect (m : List (List Int)) : Prop where
  l : m.length ≤ 64
  w : wideOf m ≤ 64
  r : ∀ r ∈ m, r.length = wideOf m
theorem Rect.sh {m : List (List Int)} (h : Rect m) : ShapeOk (m.map List.length) := by
  refine ⟨by rw [List.length_map]; exact h.l, fun n hn => ?_⟩
  obtain ⟨r, hr, rfl⟩ := List.mem_map.mp hn
  rw [h.r r hr]
  refine ⟨h.w, ?_⟩
  cases m with
  | nil => cases hr
  | cons a m => rw [List.map_cons, List.head?_cons]; rfl
theorem rd_grid {K : PySem.W.Frag} {A : Ad} {a : Addr} {o : Int} {m : List (List Int)} {H : Hp} {R : Addr → Hp → Prop} {E : XK} (hm : ∃ xs, MatV K H a xs m) (sh : Rect m) (o1 : 1 ≤ o) (bo : Bd 8900 o)
    (k : ∀ x H', Ex H H' → H x = none → GridAt A H' x (nR m o) (nO m o) → R x H') :
    ∀ x dx, H x = none → H dx = none → dx ≠ x → spGInit K A [.ref x, .ref a, .int o] (upd (upd H dx (.own x)) x (.ins A.Gr dx [])) (fun v H2 => v = .non ∧ R x H2) E := by
  intro x dx nx nd ne
  obtain ⟨xs, hm⟩ := hm
  have e : Ex H (upd (upd H dx (.own x)) x (.ins A.Gr dx [])) := fun b o e => by rw [upd_ne (ne_of_none e nx), upd_ne (ne_of_none e nd)]; exact e
  have hm2 := hm.ex e
  exact ⟨x, dx, a, xs, _, o, rfl, upd_same, hm2.lens, by have := sh.l; rw [List.length_map]; omega, fun n => absurd sh.sh n, fun _ c => absurd c (by omega), fun _ _ => ⟨bo, m, rfl, hm2, fun H' kp g => ⟨rfl, k x H' (Same.made nx nd kp) nx g⟩⟩⟩
section
variable {P : Program} {w : World} {K : PySem.W.Frag} {mg : Str → Option Value} {base : Heap} {A : Ad}
def spErrP (A : Ad) : Sp := fun vs H Q E => (∃ a v, vs = [.ref a, v] ∧ ((∃ n, v = .int n) ∨ ∃ t xs, v = .ref t ∧ H t = some (.tup xs))) ∧ spErr1 A.P "place" vs H Q E
theorem ok_bpl (T : Txt K mg A) : FnOk P w K mg base CX0 1 A.f_bpl A.d_bpl ["self", "place"] (spErrP A) := by
  refine T.F_bpl.ok sc_bpl (fun vs H Q E h => ?_) (fun cdv Ar outer s H vs Q E hr h => ?_)
  · obtain ⟨_, a, v, rfl, _⟩ := h
    rfl
  · obtain ⟨⟨a', v', e', cv⟩, a, v, rfl, ha, k⟩ := h
    cases e'
    refine ⟨_, (pss_one (ps_ost (pv 0) (pe_ifExp (pt_val (pe_callB call_isi (by rfl) T.n_isinstance (by decide +kernel) (pa_cons (pv 1) (pa_cons (pe_bltn (v := .ty "list") rfl T.n_list (by decide +kernel) rfl) pa_nil)))) (pe_callTy call_tuple_of (by rfl) T.n_tuple (by decide +kernel) (pa_cons (pv 1) pa_nil)) (pv 1)))), ?_⟩
    have fin : ∀ d : Addr, H d = none → d ≠ a' → Q .non (upd (upd H d (exd d [("place", v')])) a' (exo a' A.P (some d))) := fun d hd hn =>
      k d _ hd hn upd_same (by rw [upd_ne hn, upd_same]) fun c o e ne => by rw [upd_ne ne, upd_ne (ne_of_none e hd)]; exact e
    rcases cv with ⟨n, rfl⟩ | ⟨t, xs, rfl, ht⟩
    · exact ⟨_, rfl, _, .ty "list", _, _, false, rfl, .ty _, .base (.int n), kit_ty (by decide +kernel), _, rfl, iteF ⟨_, rfl, _, rfl, a', A.P, rfl, T.o_P, T.n_P_place, .inl ⟨ha, fin⟩⟩⟩
    · exact ⟨_, rfl, _, .ty "list", _, _, false, rfl, .ty _, .base (.tup ht), kit_ty (by decide +kernel), _, rfl, iteF ⟨_, rfl, _, rfl, a', A.P, rfl, T.o_P, T.n_P_place, .inl ⟨ha, fin⟩⟩⟩
theorem rd_errP {A : Ad} {v : V} {H : Hp} {Q : XK} {E : XK} (cv : (∃ n, v = .int n) ∨ ∃ t xs, v = .ref t ∧ H t = some (.tup xs)) (k : ∀ d H', Ex H H' → H' d = some (.xd [("place", v)]) → Q (.ref A.P) (some d) H') :
    ([v] : List V).length ≤ 1000 ∧ ∀ a, H a = none → spErrP A (.ref a :: ([v] ++ [])) (upd H a (exo a A.P none))
      (fun u H2 => u = .non ∧ ∃ (d : Addr) (fs : List (Str × V)), H2 a = some (exo a A.P (some d)) ∧ H2 d = some (exd d fs) ∧ H d = none ∧ Q (.ref A.P) (some d) (upd (del H2 a) d (.xd fs))) E := by
  obtain ⟨h1, h2⟩ := rd_err1 (C := A.P) (f := "place") (v := v) (E := E) k
  refine ⟨h1, fun a na => ⟨⟨a, v, rfl, ?_⟩, h2 a na⟩⟩
  rcases cv with ⟨n, rfl⟩ | ⟨t, xs, rfl, ht⟩
  · exact .inl ⟨n, rfl⟩
  · exact .inr ⟨t, xs, rfl, by rw [upd_ne (ne_of_none ht na)]; exact ht⟩
def spCPlaces (K : PySem.W.Frag) (A : Ad) : Sp := fun vs H Q E => ∃ (a : Addr) (ns : List Int) (n : Int), vs = [.ref a, .int n] ∧ SqV K H a (ns.map V.int) ∧ ((∀ x ∈ ns, 0 ≤ x ∧ x < n) → Q .non H) ∧
  (∀ x, ns.find? (fun x => !(decide (0 ≤ x) && decide (x < n))) = some x → ∀ d H', Ex H H' → H' d = some (.xd [("place", .int x)]) → E (.ref A.P) (some d) H')
theorem find_at {p : Int → Bool} {ns : List Int} {i : Nat} {x : Int} (hx : ns[i]? = some x) (hp : p x = true) (h : ∀ y ∈ ns.take i, p y = false) : ns.find? p = some x := by
  have hi := (List.getElem?_eq_some_iff.mp hx).1
  have e : ns = ns.take i ++ x :: ns.drop (i + 1) := by
    have e2 := List.getElem_cons_drop hi
    rw [(List.getElem?_eq_some_iff.mp hx).2] at e2
    rw [e2, List.take_append_drop]
  rw [e, List.find?_append]
  have n : (ns.take i).find? p = none := List.find?_eq_none.mpr fun y hy => by rw [h y hy]; decide
  rw [n, List.find?_cons, hp]
  rfl
theorem ok_cplaces (T : Txt K mg A) : FnOk P w K mg base (L2N.CX P w) 3 A.f_cplaces A.d_cplaces ["places", "many"] (spCPlaces K A) := by
  refine fun_okN T.F_cplaces sc_cplaces (fun vs H Q E h => ?_) (fun cdv Ar outer s H vs Q E hr h => ?_)
  · obtain ⟨a, ns, n, rfl, _⟩ := h
    rfl
  · obtain ⟨a, ns, n, rfl, hs, k, kb⟩ := h
    refine ⟨_, (pss_one (ps_for (passes_of rfl) rfl (pi_seq (pv 0)) (pg_name (i := 2) sc_cplaces.nd rfl (Or.inl rfl))
      (pss_one (ps_if (pt_not (pt_chain op_le op_lt pe_int (pv 2) (pv 1)))
      (pss_one (L2N.ps_raise rfl (L2N.takes_of rfl rfl rfl rfl) (pmk_oexN T.o_P T.in_P T.ti_P (ok_bpl T) (hr.mono (by decide)) T.b_bpl passF rfl T.g_P (pa_cons (pv 2) pa_nil)))) pss_nil)))), ?_⟩
    have inv : ∀ i x, ns[i]? = some x → (0 ≤ x ∧ x < n) → (∀ y ∈ ns.take i, (!(decide (0 ≤ y) && decide (y < n))) = false) → ∀ y ∈ ns.take (i + 1), (!(decide (0 ≤ y) && decide (y < n))) = false := by
      intro i x hx hc h y hy
      rw [List.take_add_one, hx] at hy
      rcases List.mem_append.mp hy with hy | hy
      · exact h y hy
      · have : y = x := by simpa using hy
        subst this
        simp [hc.1, hc.2]
    have fin : (∀ y ∈ ns.take ns.length, (!(decide (0 ≤ y) && decide (y < n))) = false) → Q .non H := fun h => k fun x hx => by
      have := h x (by rw [List.take_length]; exact hx)
      simpa using this
    refine forS (fun i sl H2 => (∃ o, sl = [some (.ref a), some (.int n), o]) ∧ H2 = H ∧ ∀ y ∈ ns.take i, (!(decide (0 ≤ y) && decide (y < n))) = false) (fun Q q => ⟨_, rfl, q⟩) hs ⟨⟨_, rfl⟩, rfl, fun y hy => by simp at hy⟩ (fun i sl H2 q => by rw [q.2.1]; exact fun _ _ h => h) (fun i v sl H2 hv q => ?_) (fun sl H2 q => ?_)
    · obtain ⟨⟨o, rfl⟩, rfl, h⟩ := q
      rw [List.getElem?_map] at hv
      obtain ⟨x, hx, rfl⟩ := Option.map_eq_some_iff.mp hv
      have bad : ¬ (0 ≤ x ∧ x < n) → ∀ d H', Ex H2 H' → H' d = some (.xd [("place", .int x)]) → E (.ref A.P) (some d) H' := fun c => kb x (find_at hx (by simp; omega) h)
      refine ⟨_, rfl, _, _, rfl, rfl, _, rfl, ?_⟩
      refine ite2 (fun c => ⟨_, rfl, _, _, rfl, rfl, _, rfl, ?_⟩) (fun c => ⟨_, rfl, iteT ⟨_, rfl, rd_errP (.inl ⟨x, rfl⟩) (bad fun z => c (decide_eq_true z.1))⟩⟩)
      have c0 := of_decide_eq_true c
      by_cases c1 : x < n
      · rw [decide_eq_true c1]
        exact iteF ⟨⟨_, rfl⟩, rfl, inv i x hx ⟨c0, c1⟩ h⟩
      · rw [decide_eq_false c1]
        exact iteT ⟨_, rfl, rd_errP (.inl ⟨x, rfl⟩) (bad fun z => c1 z.2)⟩
    · obtain ⟨⟨o, rfl⟩, rfl, h⟩ := q
      rw [List.length_map] at h
      exact fin h
/-! ### rows and columns exchanged -/
def colsOf (m : List (List Int)) (w : Nat) : List (List Int) := (List.range w).map fun j => m.map fun r => r.getD j 0
theorem colsOf_get {m : List (List Int)} {w j : Nat} (h : j < w) : (colsOf m w)[j]? = some (m.map fun r => r.getD j 0) := by
  unfold colsOf
  rw [List.getElem?_map, List.getElem?_range h]
  rfl
def spTrows (K : PySem.W.Frag) : Sp := fun vs H Q _ => ∃ (a : Addr) (m : List (List Int)) (w : Nat), vs = [.ref a, .int (w : Nat)] ∧ RowsT H a m ∧ m.length ≤ 64 ∧ w ≤ 64 ∧ (∀ r ∈ m, r.length = w) ∧ ∀ D H', Ex H H' → RowsL H' D (colsOf m w) → Q (.ref D) H'
theorem ok_trows (T : Txt K mg A) : FnOk P w K mg base CX0 1 A.f_trows A.d_trows ["rows", "width"] (spTrows K) := by
  refine T.F_trows.ok sc_trows (fun vs H Q E h => ?_) (fun cdv Ar outer s H vs Q E hr h => ?_)
  · obtain ⟨a, m, n, rfl, _⟩ := h
    rfl
  · obtain ⟨a, m, n, rfl, ⟨as, h1, h2, h3⟩, lm, ln, lr, k⟩ := h
    refine ⟨_, (pss_one (ps_ret (pe_lc (own := [("j", 3)]) (g := gName 3) (tt := tYes) rfl sc_trows.nd (pi_range1 rfl T.n_range (pa_cons (pv 1) pa_nil)) (blkOk_by (own := [("j", 3)]) (N := N_trows) (sc := defScope S_trows) (by decide +kernel)) (fun _ _ _ _ _ => pg_name (i := 3) sc_trows.nd rfl (Or.inr rfl)) (fun _ _ _ _ _ => pts_nil) (fun _ _ _ _ _ => (pe_lc (own := [("row", 2)]) (g := gName 2) (wi := iTup K (tVar 0)) (tt := tYes) rfl sc_trows.nd (pi_tup (pv 0)) (blkOk_by (own := [("row", 2)]) (N := N_trows) (by rfl)) (fun _ _ _ _ _ => pg_name (i := 2) sc_trows.nd rfl (Or.inl rfl)) (fun _ _ _ _ _ => pts_nil) (fun _ _ _ _ _ => (pe_ix (r := rIx K) ix_seq (pv 2) (pv 3) (fun _ _ => rfl)))))))), ?_⟩
    refine uRet (lcR (lo := 0) (n := n) (RowR .lst (colsOf m n)) (by omega) (fun P h => ⟨_, rfl, (n : Int), rfl, by omega, by omega, h⟩) (fun j H' D hj ex _ Q' kq => ?_) (fun D H2 vs hD ex e1 e2 e3 => ?_))
    · have hj0 : (0 : Int) + (j : Int) = (j : Int) := by omega
      rw [hj0]
      refine ⟨rfl, lcT (fun i v _ => ∀ r, m[i]? = some r → v = V.int (r.getD j 0)) (fun Q q => ⟨_, rfl, q⟩) (SqT.of (ex _ _ h1)) (by rw [List.length_map]; omega) (fun i v H2 D2 hv ex2 _ Q2 kq2 => ?_) (fun D2 H2 vs n2 ex2 e1 e2 e3 => ?_)⟩
      · rw [List.getElem?_map] at hv
        obtain ⟨b, hb, rfl⟩ := Option.map_eq_some_iff.mp hv
        have hi : i < m.length := by have := (List.getElem?_eq_some_iff.mp hb).1; omega
        have hr' := ex2 _ _ (ex _ _ (h3 i b _ hb (List.getElem?_eq_getElem hi)))
        have lj := lr m[i] (List.getElem_mem hi)
        have at_ : (m[i].map V.int)[j]? = some (V.int (m[i].getD j 0)) := by
          rw [List.getElem?_map, List.getD_eq_getElem?_getD, List.getElem?_eq_getElem (by omega)]; rfl
        refine ⟨rfl, _, rfl, _, rfl, .inr (.inl ⟨_, _, _, _, rfl, rfl, SqT.of hr', atI_nat at_, kq2 _ _ (fun _ _ h => h) fun H3 _ r er => ?_⟩)⟩
        rw [List.getElem?_eq_getElem hi] at er
        cases er
        rfl
      · rw [List.length_map, h2] at e2
        rw [vals_mapG (f := fun r => r.getD j 0) e2 fun i v r q1 q2 => e3 i v q1 r q2] at e1
        exact kq _ _ ex2 (RowR.fix (colsOf_get hj) e1 (fun z => by
          subst z
          obtain ⟨o, ho⟩ := ‹∃ o, H' D2 = some o›
          rw [ho] at n2
          cases n2))
    · obtain ⟨bs, rfl, lb, hb⟩ := RowR.all (m := colsOf m n) (by rw [e2]; unfold colsOf; rw [List.length_map, List.length_range]) e3
      exact k D H2 ex ⟨bs, e1, lb, hb⟩
theorem colsOf_rect {m : List (List Int)} {w : Nat} (l : m.length ≤ 64) (hw : w ≤ 64) : Rect (colsOf m w) := by
  have e : ∀ r ∈ colsOf m w, r.length = m.length := fun r hr => by
    unfold colsOf at hr
    obtain ⟨j, _, rfl⟩ := List.mem_map.mp hr
    rw [List.length_map]
  have ew : colsOf m w = [] ∨ wideOf (colsOf m w) = m.length := by
    unfold wideOf
    cases h : colsOf m w with
    | nil => exact .inl rfl
    | cons r t => exact .inr (by rw [List.head?_cons]; exact e r (by rw [h]; exact List.mem_cons_self))
  refine ⟨by unfold colsOf; rw [List.length_map, List.length_range]; exact hw, ?_, fun r hr => ?_⟩
  · rcases ew with h | h
    · rw [h]; show 0 ≤ 64; omega
    · omega
  · rcases ew with h | h
    · rw [h] at hr; cases hr
    · rw [h]; exact e r hr
end
end Fc
set_option Elab.async false
set_option linter.all false
set_option maxRecDepth 100000
set_option maxHeartbeats 4000000
set_option exponentiation.threshold 100000
namespace Fc
open PySem PySem.Spec PyProof.Rows L2 L2H
theorem Rect.map {m : List (List Int)} (h : Rect m) {f : List Int → List Int} (hf : ∀ r, (f r).length = r.length) : Rect (m.map f) := by
  have ew : wideOf (m.map f) = wideOf m := by
    unfold wideOf
    cases m with
    | nil => rfl
    | cons r m => simp [hf]
  refine ⟨by rw [List.length_map]; exact h.l, by rw [ew]; exact h.w, fun r hr => ?_⟩
  obtain ⟨q, hq, rfl⟩ := List.mem_map.mp hr
  rw [ew, hf]
  exact h.r q hq
def mulR (m : List (List Int)) (t : Int) : List (List Int) := m.map fun r => r.map fun x => x * t
section
variable {P : Program} {w : World} {K : PySem.W.Frag} {mg : Str → Option Value} {base : Heap} {A : Ad}
theorem int64 {n : Nat} (h : n ≤ 64) : n ≤ 100000 := by omega
def spScaled (A : Ad) : Sp := fun vs H Q _ => ∃ (g r : Addr) (m : List (List Int)) (o : Int) (p : Int × Int), vs = [.ref g, .ref r] ∧ GridAt A H g m o ∧ RatAt A.C H r p ∧ Rect m ∧ 1 ≤ o ∧ 1 ≤ p.2 ∧ Bd 1000 o ∧ Bd 1000 p.1 ∧ Bd 1000 p.2 ∧ (∀ r ∈ m, ∀ x ∈ r, Bd 1000 x) ∧
  ∀ x H', Ex H H' → GridAt A H' x (nR (mulR m p.1) (o * p.2)) (nO (mulR m p.1) (o * p.2)) → Q (.ref x) H'
theorem ok_gscaled (T : Txt K mg A) : FnOk P w K mg base CX0 5 A.f_gscaled A.d_gscaled ["self", "ratio"] (spScaled A) := by
  refine T.F_gscaled.ok sc_gscaled (fun vs H Q E h => ?_) (fun cdv Ar outer s H vs Q E hr h => ?_)
  · obtain ⟨g, r, m, o, p, rfl, _⟩ := h
    rfl
  · obtain ⟨g, r, m, o, p, rfl, ⟨dx, R, hg, as, h1, h2, h3⟩, ⟨dr, hr'⟩, rc, o1, p1, bo, bt, bb, bm, k⟩ := h
    refine ⟨_, (C8.pss_cut (ps_setLc (i := 2) (own := [("row", 4)]) (g := gName 4) (tt := tYes) rfl sc_gscaled.nd rfl rfl (sw_true rfl rfl rfl (by decide +kernel)) (pi_tup (pe_fldN K (pv 0))) (blkOk_by (own := [("row", 4)]) (N := N_gscaled) (sc := defScope S_gscaled) (by decide +kernel)) (fun _ _ _ _ _ => pg_name (i := 4) sc_gscaled.nd rfl (Or.inl rfl)) (fun _ _ _ _ _ => pts_nil) (fun _ _ _ _ _ => (pe_lc (own := [("number", 3)]) (g := gName 3) (wi := iTup K (tVar 4)) (tt := tYes) rfl sc_gscaled.nd (pi_tup (pv 4)) (blkOk_by (own := [("number", 3)]) (N := N_gscaled) (by rfl)) (fun _ _ _ _ _ => pg_name (i := 3) sc_gscaled.nd rfl (Or.inl rfl)) (fun _ _ _ _ _ => pts_nil) (fun _ _ _ _ _ => (pe_op op_mulW (pv 3) (pe_fldN K (pv 1)))))))
      (pss_one (ps_ret (pe_make T.mk_Gr (ok_ginit T) (hr.mono (by decide)) rfl T.g_Grid T.b_ginit .nil passLN (pa_cons (pv 2) (pa_cons (pe_op op_mulW (pe_fld (pv 0) rfl) (pe_fld (pv 1) rfl)) pa_nil)))))), ?_⟩
    refine ⟨fun sl H2 => ∃ D o1 o2, sl = [some (.ref g), some (.ref r), some (.ref D), o1, o2] ∧ Ex H H2 ∧ RowsL H2 D (mulR m p.1), ?_, ?_⟩
    · refine uAsg (lcT (RowR .lst (mulR m p.1)) (fun Q q => ⟨_, rfl, _, _, _, _, _, rfl, hg, T.c_Gr, T.na_Gr_rows, zip_get (i := 0) GN_nd rfl rfl, q⟩) (SqT.of h1) (by rw [List.length_map, h2]; exact int64 rc.l) (fun i v H2 D hv ex hD Q2 kq => ?_) (fun D H2 vs nD ex e1 e2 e3 => ?_))
      · rw [List.getElem?_map] at hv
        obtain ⟨b, hb, rfl⟩ := Option.map_eq_some_iff.mp hv
        have hi : i < m.length := by have := (List.getElem?_eq_some_iff.mp hb).1; omega
        have hrow := ex _ _ (h3 i b _ hb (List.getElem?_eq_getElem hi))
        refine ⟨rfl, lcInts (fun n => n * p.1) (fun R => lcT R (fun Q q => ⟨_, rfl, q⟩) (SqT.of hrow) (by rw [List.length_map, rc.r _ (List.getElem_mem hi)]; exact int64 rc.w)) (fun n H5 hn e5 Q5 q => ⟨rfl, _, rfl, _, rfl, _, _, _, _, _, rfl, (e5 _ _ (ex _ _ hr')), T.cl, T.nT, rf_top _, _, _, rfl, rfl, Bd.w (bm _ (List.getElem_mem hi) n hn) bt, q⟩) (fun D2 H5 n2 e5 hD2 => ?_)⟩
        refine kq _ _ e5 (RowR.fix (r := m[i].map fun n => n * p.1) (by unfold mulR; rw [List.getElem?_map, List.getElem?_eq_getElem hi]; rfl) hD2 ?_)
        obtain ⟨ob, hob⟩ := hD
        exact (ne_of_none hob n2).symm
      · obtain ⟨bs, rfl, lb, hb⟩ := RowR.all (m := mulR m p.1) (by rw [e2, List.length_map, h2]; unfold mulR; rw [List.length_map]) e3
        exact ⟨D, _, _, rfl, ex, bs, e1, lb, hb⟩
    rintro sl H2 ⟨D, o1, o2, rfl, ex, hD⟩
    have op : 1 ≤ o * p.2 := Int.mul_pos (by omega) (by omega)
    refine ⟨_, rfl, _, rfl, _, _, _, _, _, rfl, (ex _ _ hg), T.c_Gr, T.na_Gr_over, zip_get (i := 1) GN_nd rfl rfl, _, rfl, _, _, _, _, _, rfl, (ex _ _ hr'), T.cl, T.nB, rf_bot _, _, _, rfl, rfl, bo.w bb, rd_grid hD.matv (rc.map fun r => List.length_map ..) op ((bo.mul bb).mono (by decide)) fun x H3 e3 _ gx => k x H3 (ex.trans e3) gx⟩
def spTurned (A : Ad) : Sp := fun vs H Q _ => ∃ (g : Addr) (m : List (List Int)) (o : Int), vs = [.ref g] ∧ GridAt A H g m o ∧ Rect m ∧ 1 ≤ o ∧ Bd 1000 o ∧
  ∀ x H', Ex H H' → GridAt A H' x (nR (colsOf m (wideOf m)) o) (nO (colsOf m (wideOf m)) o) → Q (.ref x) H'
theorem ok_gturned (T : Txt K mg A) : FnOk P w K mg base CX0 5 A.f_gturned A.d_gturned ["self"] (spTurned A) := by
  refine T.F_gturned.ok sc_gturned (fun vs H Q E h => ?_) (fun cdv Ar outer s H vs Q E hr h => ?_)
  · obtain ⟨g, m, o, rfl, _⟩ := h
    rfl
  · obtain ⟨g, m, o, rfl, ⟨dx, R, hg, hR⟩, rc, o1, bo, k⟩ := h
    refine ⟨_, (pss_one (ps_ret (pe_make T.mk_Gr (ok_ginit T) (hr.mono (by decide)) rfl T.g_Grid T.b_ginit .nil passLN (pa_cons (pe_call (ok_trows T) (hr.mono (by decide)) rfl T.g_trows T.F_trows.kp T.b_trows .nil pass0 (pa_cons (pe_fld (pv 0) rfl) (pa_cons (pe_fld (pv 0) rfl) pa_nil))) (pa_cons (pe_fld (pv 0) rfl) pa_nil))))), ?_⟩
    refine ⟨_, rfl, _, _, _, _, _, rfl, hg, T.c_Gr, T.na_Gr_rows, zip_get (i := 0) GN_nd rfl rfl, _, rfl, _, _, _, _, _, rfl, hg, T.c_Gr, T.na_Gr_width, zip_get (i := 3) GN_nd rfl rfl, R, m, wideOf m, rfl, hR, rc.l, rc.w, rc.r, fun D H2 ex hD => ?_⟩
    exact ⟨_, rfl, _, _, _, _, _, rfl, (ex _ _ hg), T.c_Gr, T.na_Gr_over, zip_get (i := 1) GN_nd rfl rfl, rd_grid hD.matv (colsOf_rect rc.l rc.w) o1 (bo.mono (by decide)) fun x H3 e3 _ gx => k x H3 (ex.trans e3) gx⟩
/-! ### parts -/
abbrev outB (n : Int) (x : Int) : Bool := !(decide (0 ≤ x) && decide (x < n))
def partOf (m : List (List Int)) (up ac : List Int) : List (List Int) := up.map fun i => ac.map fun j => (m.getD i.toNat []).getD j.toNat 0
def spPart (K : PySem.W.Frag) (A : Ad) : Sp := fun vs H Q E => ∃ (g a b : Addr) (m : List (List Int)) (o : Int) (up ac : List Int), vs = [.ref g, .ref a, .ref b] ∧ GridAt A H g m o ∧ Rect m ∧ 1 ≤ o ∧ Bd 1000 o ∧ SqV K H a (up.map V.int) ∧ SqV K H b (ac.map V.int) ∧
  (∀ x, up.find? (outB m.length) = some x → ∀ d H', Ex H H' → H' d = some (.xd [("place", .int x)]) → E (.ref A.P) (some d) H') ∧
  ((∀ x ∈ up, 0 ≤ x ∧ x < m.length) → (∀ x, ac.find? (outB (wideOf m)) = some x → ∀ d H', Ex H H' → H' d = some (.xd [("place", .int x)]) → E (.ref A.P) (some d) H') ∧
    ((∀ x ∈ ac, 0 ≤ x ∧ x < wideOf m) → (64 < up.length ∨ 64 < ac.length → E (.ref A.BS) none H) ∧
      (up.length ≤ 64 → ac.length ≤ 64 → ∀ x H', Ex H H' → GridAt A H' x (nR (partOf m up ac) o) (nO (partOf m up ac) o) → Q (.ref x) H')))
theorem find_none {n : Int} {ns : List Int} : (∀ x ∈ ns, 0 ≤ x ∧ x < n) ∨ ∃ x, ns.find? (outB n) = some x := by
  cases h : ns.find? (outB n) with
  | some x => exact .inr ⟨x, rfl⟩
  | none =>
    refine .inl fun x hx => ?_
    have := List.find?_eq_none.mp h x hx
    simpa using this
theorem partOf_rect {m : List (List Int)} {up ac : List Int} (l1 : up.length ≤ 64) (l2 : ac.length ≤ 64) : Rect (partOf m up ac) := by
  have e : ∀ r ∈ partOf m up ac, r.length = ac.length := fun r hr => by
    unfold partOf at hr
    obtain ⟨j, _, rfl⟩ := List.mem_map.mp hr
    rw [List.length_map]
  cases up with
  | nil => exact ⟨by show 0 ≤ 64; omega, by show 0 ≤ 64; omega, fun r hr => by cases hr⟩
  | cons u up =>
    have ew : wideOf (partOf m (u :: up) ac) = ac.length := by show (ac.map _).length = _; rw [List.length_map]
    exact ⟨by unfold partOf; rw [List.length_map]; exact l1, by omega, fun r hr => by rw [ew]; exact e r hr⟩
theorem ok_gpart (T : Txt K mg A) : FnOk P w K mg base (L2N.CX P w) 5 A.f_gpart A.d_gpart ["self", "row_places", "column_places"] (spPart K A) := by
  refine fun_okN T.F_gpart sc_gpart (fun vs H Q E h => ?_) (fun cdv Ar outer s H vs Q E hr h => ?_)
  · obtain ⟨g, a, b, m, o, up, ac, rfl, _⟩ := h
    rfl
  · obtain ⟨g, a, b, m, o, up, ac, rfl, ⟨dx, R, hg, as, h1, h2, h3⟩, rc, o1, bo, ha, hb, kp, k1⟩ := h
    obtain ⟨tM, eM⟩ := T.gi_MOST_SIZE
    refine ⟨_, (C8.pss_cut (ps_expr (pe_call (ok_cplaces T) (hr.mono (by decide)) rfl T.g_cplaces T.F_cplaces.kp T.b_cplaces .nil (L2N.passes_call (L2N.takes_of rfl rfl rfl rfl) fun _ _ _ _ h => h) (pa_cons (pv 1) (pa_cons (pe_fld (pv 0) rfl) pa_nil))))
      (C8.pss_cut (ps_expr (pe_call (ok_cplaces T) (hr.mono (by decide)) rfl T.g_cplaces T.F_cplaces.kp T.b_cplaces .nil (L2N.passes_call (L2N.takes_of rfl rfl rfl rfl) fun _ _ _ _ h => h) (pa_cons (pv 2) (pa_cons (pe_fld (pv 0) rfl) pa_nil))))
      (C8.pss_cut (ps_if (PW.pt (pw_or (pt_cmpR op_gt (pe_callB call_len (by rfl) T.n_len PySem.boot_len (pa_cons (pv 1) pa_nil)) (pe_glob (v := .int 64) rfl eM ⟨_, rfl⟩) (nomark _)) (pw_or1 (pt_cmpR op_gt (pe_callB call_len (by rfl) T.n_len PySem.boot_len (pa_cons (pv 2) pa_nil)) (pe_glob (v := .int 64) rfl eM ⟨_, rfl⟩) (nomark _)))))
      (pss_one (L2N.ps_raise rfl (L2N.takes_of rfl rfl rfl rfl) (pmk_bareN PySem.F.excBase_ValueError T.x_BS T.g_BS T.k_BS (raises_own T.bs_BS T.t_BS) rfl))) pss_nil)
      (C8.pss_cut (ps_setLc (i := 3) (own := [("i", 5)]) (g := gName 5) (tt := tYes) rfl sc_gpart.nd rfl rfl (sw_true rfl rfl rfl (by decide +kernel)) (pi_seq (pv 1)) (blkOk_by (own := [("i", 5)]) (N := N_gpart) (sc := defScope S_gpart) (by decide +kernel)) (fun _ _ _ _ _ => pg_name (i := 5) sc_gpart.nd rfl (Or.inr rfl)) (fun _ _ _ _ _ => pts_nil) (fun _ _ _ _ _ => (pe_lc (own := [("j", 4)]) (g := gName 4) (wi := iSeq K (tVar 2)) (tt := tYes) rfl sc_gpart.nd (pi_seq (pv 2)) (blkOk_by (own := [("j", 4)]) (N := N_gpart) (by rfl)) (fun _ _ _ _ _ => pg_name (i := 4) sc_gpart.nd rfl (Or.inl rfl)) (fun _ _ _ _ _ => pts_nil) (fun _ _ _ _ _ => (pe_ix (r := rIxT K) ix_tup (pe_ix (r := rIxT K) ix_tup (pe_fldN K (pv 0)) (pv 5) (fun _ _ => rfl)) (pv 4) (fun _ _ => rfl))))))
      (pss_one (ps_ret (pe_make T.mk_Gr (ok_ginit T) (hr.mono (by decide)) rfl T.g_Grid T.b_ginit .nil passLN (pa_cons (pv 3) (pa_cons (pe_fld (pv 0) rfl) pa_nil))))))))), ?_⟩
    refine ⟨fun sl H2 => sl = [some (.ref g), some (.ref a), some (.ref b), none, none, none] ∧ H2 = H ∧ ∀ x ∈ up, 0 ≤ x ∧ x < m.length, ?_, ?_⟩
    · exact ⟨_, rfl, _, rfl, _, _, _, _, _, rfl, hg, T.c_Gr, T.na_Gr_height, zip_get (i := 2) GN_nd rfl rfl, a, up, (m.length : Int), rfl, ha, fun h => ⟨rfl, rfl, h⟩, kp⟩
    rintro sl H2 ⟨rfl, rfl, gu⟩
    obtain ⟨kc, k2⟩ := k1 gu
    refine ⟨fun sl H3 => sl = [some (.ref g), some (.ref a), some (.ref b), none, none, none] ∧ H3 = H2 ∧ ∀ x ∈ ac, 0 ≤ x ∧ x < wideOf m, ?_, ?_⟩
    · exact ⟨_, rfl, _, rfl, _, _, _, _, _, rfl, hg, T.c_Gr, T.na_Gr_width, zip_get (i := 3) GN_nd rfl rfl, b, ac, (wideOf m : Int), rfl, hb, fun h => ⟨rfl, rfl, h⟩, kc⟩
    rintro sl H3 ⟨rfl, rfl, gc⟩
    obtain ⟨ks, k⟩ := k2 gc
    refine ⟨fun sl H2 => sl = [some (.ref g), some (.ref a), some (.ref b), none, none, none] ∧ H2 = H3 ∧ up.length ≤ 64 ∧ ac.length ≤ 64, ?_, ?_⟩
    · refine ⟨_, rfl, _, _, rfl, lenv ha, _, _, rfl, rfl, _, rfl, ?_⟩
      rw [List.length_map]
      by_cases c1 : up.length ≤ 64
      · rw [decide_eq_false (by omega)]
        refine iteF ⟨_, rfl, _, _, rfl, lenv hb, _, _, rfl, rfl, _, rfl, ?_⟩
        rw [List.length_map]
        by_cases c2 : ac.length ≤ 64
        · rw [decide_eq_false (by omega)]
          exact iteF ⟨rfl, rfl, c1, c2⟩
        · rw [decide_eq_true (by omega)]
          exact iteT (ks (.inr (by omega)))
      · rw [decide_eq_true (by omega)]
        exact iteT (ks (.inl (by omega)))
    rintro sl H2 ⟨rfl, rfl, l1, l2⟩
    refine ⟨fun sl H3 => ∃ D o1 o2, sl = [some (.ref g), some (.ref a), some (.ref b), some (.ref D), o1, o2] ∧ Ex H2 H3 ∧ RowsL H3 D (partOf m up ac), ?_, ?_⟩
    · refine uAsg (lcS (RowR .lst (partOf m up ac)) (fun Q q => ⟨_, rfl, q⟩) ha (by rw [List.length_map]; exact int64 l1) (fun i v H3 D hv ex hD Q2 kq => ?_) (fun D H3 vs nD ex e1 e2 e3 => ?_))
      · rw [List.getElem?_map] at hv
        obtain ⟨u, hu, rfl⟩ := Option.map_eq_some_iff.mp hv
        obtain ⟨u0, u1⟩ := gu u (List.mem_of_getElem? hu)
        have hi : u.toNat < m.length := by omega
        have hi2 : u.toNat < as.length := by omega
        have hb2 : as[u.toNat]? = some as[u.toNat] := List.getElem?_eq_getElem hi2
        have hrow := h3 u.toNat _ _ hb2 (List.getElem?_eq_getElem hi)
        have at1 : atI (as.map V.ref) u = some (V.ref as[u.toNat]) := by
          have := atI_nat (xs := as.map V.ref) (j := u.toNat) (v := V.ref as[u.toNat]) (by rw [List.getElem?_map, hb2]; rfl)
          rwa [show ((u.toNat : Nat) : Int) = u by omega] at this
        refine ⟨rfl, lcInts (fun n => (m.getD u.toNat []).getD n.toNat 0) (fun R => lcS R (fun Q q => ⟨_, rfl, q⟩) (hb.ex ex) (by rw [List.length_map]; exact int64 l2)) (fun n H5 hn e5 Q5 q => ?_) (fun D2 H5 n2 e5 hD2 => ?_)⟩
        · obtain ⟨n0, n1⟩ := gc n hn
          have lw := rc.r _ (List.getElem_mem hi)
          have at2 : atI (m[u.toNat].map V.int) n = some (V.int ((m.getD u.toNat []).getD n.toNat 0)) := by
            have := atI_nat (xs := m[u.toNat].map V.int) (j := n.toNat) (v := V.int (m[u.toNat][n.toNat]'(by omega))) (by rw [List.getElem?_map, List.getElem?_eq_getElem (by omega)]; rfl)
            rw [show ((n.toNat : Nat) : Int) = n by omega] at this
            rw [this, List.getD_eq_getElem?_getD, List.getD_eq_getElem?_getD, List.getElem?_eq_getElem hi, Option.getD_some, List.getElem?_eq_getElem (by omega), Option.getD_some]
          refine ⟨rfl, _, rfl, _, _, _, _, _, rfl, (e5 _ _ (ex _ _ hg)), T.c_Gr, T.na_Gr_rows, zip_get (i := 0) GN_nd rfl rfl, _, rfl, _, _, _, _, rfl, rfl, SqT.of (e5 _ _ (ex _ _ h1)), at1, _, rfl, _, _, _, _, rfl, rfl, SqT.of (e5 _ _ (ex _ _ hrow)), at2, q⟩
        · refine kq _ _ e5 (RowR.fix (r := ac.map fun n => (m.getD u.toNat []).getD n.toNat 0) (by unfold partOf; rw [List.getElem?_map, hu]; rfl) hD2 ?_)
          obtain ⟨ob, hob⟩ := hD
          exact (ne_of_none hob n2).symm
      · obtain ⟨bs, rfl, lb, hb⟩ := RowR.all (m := partOf m up ac) (by rw [e2, List.length_map]; unfold partOf; rw [List.length_map]) e3
        exact ⟨D, _, _, rfl, ex, bs, e1, lb, hb⟩
    rintro sl H3 ⟨D, o1, o2, rfl, ex, hD⟩
    exact ⟨_, rfl, _, rfl, _, _, _, _, _, rfl, (ex _ _ hg), T.c_Gr, T.na_Gr_over, zip_get (i := 1) GN_nd rfl rfl, rd_grid hD.matv (partOf_rect l1 l2) ‹1 ≤ o› (bo.mono (by decide)) fun x H4 e4 _ gx => k l1 l2 x H4 (ex.trans e4) gx⟩
end
end Fc
set_option Elab.async false
set_option linter.all false
set_option maxRecDepth 100000
set_option maxHeartbeats 4000000
set_option exponentiation.threshold 100000
namespace Fc
open PySem PySem.Spec PyProof.Rows L2 L2H
theorem eqvI : ∀ r s : List Int, PyData.eqvAll (r.map PyData.int) (s.map PyData.int) = decide (r = s)
  | [], [] => by simp [PyData.eqvAll]
  | [], _ :: _ => by simp [PyData.eqvAll]
  | _ :: _, [] => by simp [PyData.eqvAll]
  | a :: r, b :: s => by
    have := eqvI r s
    have hb : (a == b) = decide (a = b) := rfl
    simp [PyData.eqvAll, PyData.eqv, this, Bool.decide_and, hb]
theorem eqvT : ∀ m n : List (List Int), PyData.eqvAll (m.map fun r => PyData.tuple (r.map PyData.int)) (n.map fun r => PyData.tuple (r.map PyData.int)) = decide (m = n)
  | [], [] => by simp [PyData.eqvAll]
  | [], _ :: _ => by simp [PyData.eqvAll]
  | _ :: _, [] => by simp [PyData.eqvAll]
  | a :: r, b :: s => by
    have := eqvT r s
    simp [PyData.eqvAll, PyData.eqv, eqvI, this, Bool.decide_and]
theorem eqvL : ∀ m n : List (List Int), PyData.eqvAll (m.map fun r => PyData.list (r.map PyData.int)) (n.map fun r => PyData.list (r.map PyData.int)) = decide (m = n)
  | [], [] => by simp [PyData.eqvAll]
  | [], _ :: _ => by simp [PyData.eqvAll]
  | _ :: _, [] => by simp [PyData.eqvAll]
  | a :: r, b :: s => by
    have := eqvL r s
    simp [PyData.eqvAll, PyData.eqv, eqvI, this, Bool.decide_and]
theorem eqv_rowsT (m n : List (List Int)) : PyData.eqv (PyData.tuple (m.map fun r => PyData.tuple (r.map PyData.int))) (PyData.tuple (n.map fun r => PyData.tuple (r.map PyData.int))) = decide (m = n) := by simp [PyData.eqv, eqvT]
theorem eqv_rowsL (m n : List (List Int)) : PyData.eqv (PyData.list (m.map fun r => PyData.list (r.map PyData.int))) (PyData.list (n.map fun r => PyData.list (r.map PyData.int))) = decide (m = n) := by simp [PyData.eqv, eqvL]
theorem dpTup {K : PySem.W.Frag} {H : Hp} : ∀ (as : List Addr) (m : List (List Int)), as.length = m.length → (∀ (i : Nat) a r, as[i]? = some a → m[i]? = some r → H a = some (.tup (r.map V.int))) →
    DpAll K H (as.map V.ref) (m.map fun r => PyData.tuple (r.map PyData.int))
  | [], [], _, _ => .nil
  | a :: as, r :: m, el, h => .cons (.tup (SqT.of (h 0 a r rfl rfl)) (dpI r)) (dpTup as m (by simpa using el) fun i b q e1 e2 => h (i + 1) b q (by simpa using e1) (by simpa using e2))
  | [], _ :: _, el, _ => by simp at el
  | _ :: _, [], el, _ => by simp at el
theorem RowsT.dp {K : PySem.W.Frag} {H : Hp} {L : Addr} {m : List (List Int)} (h : RowsT H L m) : Dp K H (.ref L) (PyData.tuple (m.map fun r => PyData.tuple (r.map PyData.int))) :=
  let ⟨as, a, b, c⟩ := h
  .tup (SqT.of a) (dpTup as m b c)
section
variable {P : Program} {w : World} {K : PySem.W.Frag} {mg : Str → Option Value} {base : Heap} {A : Ad}
def formL (m : List (List Int)) (l r : List Int) : Int := dotL l (m.map fun row => dotL row r)
def spForm (K : PySem.W.Frag) (A : Ad) : Sp := fun vs H Q E => ∃ (g a b : Addr) (m : List (List Int)) (o : Int) (l r : List Int), vs = [.ref g, .ref a, .ref b] ∧ GridAt A H g m o ∧ SqV K H a (l.map V.int) ∧ SqV K H b (r.map V.int) ∧
  (¬ (l.length = m.length ∧ r.length = wideOf m) → E (.ref A.BS) none H) ∧
  (l.length = m.length → r.length = wideOf m → Rect m ∧ 1 ≤ o ∧ Bd 1000 o ∧ H a = some (.lst (l.map V.int)) ∧ H b = some (.tup (r.map V.int)) ∧ (∀ x ∈ l, Bd 800 x) ∧ (∀ x ∈ r, Bd 450 x) ∧ (∀ row ∈ m, ∀ x ∈ row, Bd 450 x) ∧
    ∀ x H', Ex H H' → RatAt A.C H' x (lo (formL m l r) o) → Q (.ref x) H')
theorem bd_sum {n : Nat} : ∀ {l : List Int}, (∀ x ∈ l, Bd n x) → l.length ≤ 64 → Bd (n + 7) l.sum := by
  have h : ∀ {l : List Int}, (∀ x ∈ l, Bd n x) → l.sum.natAbs ≤ l.length * 2 ^ n := by
    intro l
    induction l with
    | nil => intro _; simp
    | cons a l ih =>
      intro h
      have h1 := ih fun x hx => h x (List.mem_cons_of_mem _ hx)
      have h2 : a.natAbs < 2 ^ n := h a List.mem_cons_self
      rw [List.sum_cons, List.length_cons, Nat.succ_mul]
      omega
  intro l hl l64
  have h1 := h hl
  have h2 : l.length * 2 ^ n ≤ 64 * 2 ^ n := Nat.mul_le_mul_right _ l64
  have h3 : 0 < 2 ^ n := Nat.pow_pos (by decide)
  show l.sum.natAbs < 2 ^ (n + 7)
  rw [Nat.pow_add]
  omega
theorem bd_dot {n k : Nat} {xs ys : List Int} (hx : ∀ x ∈ xs, Bd n x) (hy : ∀ y ∈ ys, Bd k y) (l : xs.length ≤ 64) : Bd (n + k + 7) (dotL xs ys) := by
  refine bd_sum (fun z hz => ?_) (by rw [List.length_zipWith]; omega)
  obtain ⟨i, hi⟩ := List.mem_iff_getElem?.mp hz
  rw [List.getElem?_zipWith] at hi
  split at hi
  · rename_i x y h1 h2
    cases hi
    exact (hx _ (List.mem_of_getElem? h1)).mul (hy _ (List.mem_of_getElem? h2))
  · cases hi
theorem ok_gform (T : Txt K mg A) : FnOk P w K mg base (L2N.CX P w) 5 A.f_gform A.d_gform ["self", "left", "right"] (spForm K A) := by
  refine fun_okN T.F_gform sc_gform (fun vs H Q E h => ?_) (fun cdv Ar outer s H vs Q E hr h => ?_)
  · obtain ⟨g, a, b, m, o, l, r, rfl, _⟩ := h
    rfl
  · obtain ⟨g, a, b, m, o, l, r, rfl, ⟨dx, R, hg, as, h1, h2, h3⟩, ha, hb, kb, k⟩ := h
    refine ⟨_, (pss_cons (ps_if (PW.pt (pw_or (pt_cmpR op_ne (pe_callB call_len (by rfl) T.n_len PySem.boot_len (pa_cons (pv 1) pa_nil)) (pe_fld (pv 0) rfl) (nomark _)) (pw_or1 (pt_cmpR op_ne (pe_callB call_len (by rfl) T.n_len PySem.boot_len (pa_cons (pv 2) pa_nil)) (pe_fld (pv 0) rfl) (nomark _)))))
      (pss_one (L2N.ps_raise rfl (L2N.takes_of rfl rfl rfl rfl) (pmk_bareN PySem.F.excBase_ValueError T.x_BS T.g_BS T.k_BS (raises_own T.bs_BS T.t_BS) rfl))) pss_nil)
      (pss_one (ps_ret (pe_make T.mkC (ok_init T) (hr.mono (by decide)) rfl T.g_Ratio T.b_init3 .nil passL (pa_cons (pe_call (ok_dot T) (hr.mono (by decide)) rfl T.g_dot T.F_dot.kp T.b_dot .nil pass0 (pa_cons (pv 1) (pa_cons (pe_lc (own := [("row", 3)]) (g := gName 3) (tt := tYes) rfl sc_gform.nd (pi_tup (pe_fldN K (pv 0))) (blkOk_by (own := [("row", 3)]) (N := N_gform) (sc := defScope S_gform) (by decide +kernel)) (fun _ _ _ _ _ => pg_name (i := 3) sc_gform.nd rfl (Or.inl rfl)) (fun _ _ _ _ _ => pts_nil) (fun _ _ _ _ _ => (pe_call (ok_dot T) (hr.mono (by decide)) rfl T.g_dot T.F_dot.kp T.b_dot .nil pass0 (pa_cons (pv 3) (pa_cons (pv 2) pa_nil))))) pa_nil))) (pa_cons (pe_fld (pv 0) rfl) pa_nil)))))), ?_⟩
    refine ⟨_, rfl, _, _, rfl, lenv ha, _, rfl, _, _, _, _, _, rfl, hg, T.c_Gr, T.na_Gr_height, zip_get (i := 2) GN_nd rfl rfl, rfl, _, rfl, ?_⟩
    rw [List.length_map]
    by_cases c1 : l.length = m.length
    · rw [decide_eq_true (by rw [c1])]
      refine iteF ⟨_, rfl, _, _, rfl, lenv hb, _, rfl, _, _, _, _, _, rfl, hg, T.c_Gr, T.na_Gr_width, zip_get (i := 3) GN_nd rfl rfl, rfl, _, rfl, ?_⟩
      rw [List.length_map]
      by_cases c2 : r.length = wideOf m
      · rw [decide_eq_true (by rw [c2])]
        obtain ⟨rc, o1, bo, hl, hr', bl, br, bm, k⟩ := k c1 c2
        refine iteF ⟨_, rfl, ?_⟩
        have bd : ∀ x ∈ m.map (fun row => dotL row r), Bd 907 x := fun x hx => by
          obtain ⟨row, hrow, rfl⟩ := List.mem_map.mp hx
          exact bd_dot (bm row hrow) br (by rw [rc.r row hrow]; exact rc.w)
        refine lcT (fun i v _ => ∀ row, m[i]? = some row → v = V.int (dotL row r)) (fun Q q => ⟨_, rfl, _, _, _, _, _, rfl, hg, T.c_Gr, T.na_Gr_rows, zip_get (i := 0) GN_nd rfl rfl, q⟩) (SqT.of h1) (by rw [List.length_map, h2]; exact int64 rc.l) (fun i v H2 D hv ex hD Q2 kq => ?_) (fun D H2 vs nD ex e1 e2 e3 => ?_)
        · rw [List.getElem?_map] at hv
          obtain ⟨b', hb', rfl⟩ := Option.map_eq_some_iff.mp hv
          have hi : i < m.length := by have := (List.getElem?_eq_some_iff.mp hb').1; omega
          have hrow := ex _ _ (h3 i b' _ hb' (List.getElem?_eq_getElem hi))
          have lr := rc.r _ (List.getElem_mem hi)
          refine ⟨rfl, _, rfl, _, rfl, b', b, m[i], r, rfl, by omega, by rw [lr]; exact int64 rc.w, .inr ⟨hrow, ex _ _ hr'⟩, fun x hx => (bm _ (List.getElem_mem hi) x hx).mono (by decide), fun x hx => (br x hx).mono (by decide), fun H3 e3 => kq _ _ e3 fun H4 _ row er => ?_⟩
          rw [List.getElem?_eq_getElem hi] at er
          cases er
          rfl
        · rw [List.length_map, h2] at e2
          rw [vals_mapG (f := fun row => dotL row r) e2 fun i v row q1 q2 => e3 i v q1 row q2] at e1
          refine ⟨a, D, l, m.map fun row => dotL row r, rfl, by rw [List.length_map]; exact c1, by rw [c1]; exact int64 rc.l, .inl ⟨ex _ _ hl, e1⟩, fun x hx => (bl x hx).mono (by decide), fun x hx => (bd x hx).mono (by decide), fun H3 e3 => ?_⟩
          exact ⟨_, rfl, _, _, _, _, _, rfl, (e3 _ _ (ex _ _ hg)), T.c_Gr, T.na_Gr_over, zip_get (i := 1) GN_nd rfl rfl, rd_make (by omega) (bo.mono (by decide)) fun x H4 e4 _ rx => k x H4 (ex.trans (e3.trans e4)) rx⟩
      · rw [decide_eq_false (fun z => c2 (by have := V.int.inj z; omega))]
        exact iteT (kb fun z => c2 z.2)
    · rw [decide_eq_false (fun z => c1 (by have := V.int.inj z; omega))]
      exact iteT (kb fun z => c1 z.1)
def trL (m : List (List Int)) : Int := ((List.range m.length).map fun k => (m.getD k []).getD k 0).sum
def spTrace (A : Ad) : Sp := fun vs H Q E => ∃ (g : Addr) (m : List (List Int)) (o : Int), vs = [.ref g] ∧ GridAt A H g m o ∧ (m.length ≠ wideOf m → E (.ref A.BS) none H) ∧
  (m.length = wideOf m → Rect m ∧ 1 ≤ o ∧ Bd 1000 o ∧ ∀ x H', Ex H H' → RatAt A.C H' x (lo (trL m) o) → Q (.ref x) H')
theorem ok_gtrace (T : Txt K mg A) : FnOk P w K mg base (L2N.CX P w) 5 A.f_gtrace A.d_gtrace ["self"] (spTrace A) := by
  refine fun_okN T.F_gtrace sc_gtrace (fun vs H Q E h => ?_) (fun cdv Ar outer s H vs Q E hr h => ?_)
  · obtain ⟨g, m, o, rfl, _⟩ := h
    rfl
  · obtain ⟨g, m, o, rfl, ⟨dx, R, hg, as, h1, h2, h3⟩, kb, k⟩ := h
    refine ⟨_, (pss_cons (ps_if (pt_cmpR op_ne (pe_fld (pv 0) rfl) (pe_fld (pv 0) rfl) (nomark _))
      (pss_one (L2N.ps_raise rfl (L2N.takes_of rfl rfl rfl rfl) (pmk_bareN PySem.F.excBase_ValueError T.x_BS T.g_BS T.k_BS (raises_own T.bs_BS T.t_BS) rfl))) pss_nil)
      (pss_one (ps_ret (pe_make T.mkC (ok_init T) (hr.mono (by decide)) rfl T.g_Ratio T.b_init3 .nil passL (pa_cons (pe_callB (cr_sum rfl) (by rfl) T.n_sum (by decide +kernel) (pa_cons (pe_lc (own := [("k", 1)]) (g := gName 1) (tt := tYes) rfl sc_gtrace.nd (pi_range1 rfl T.n_range (pa_cons (pe_fldN K (pv 0)) pa_nil)) (blkOk_by (own := [("k", 1)]) (N := N_gtrace) (sc := defScope S_gtrace) (by decide +kernel)) (fun _ _ _ _ _ => pg_name (i := 1) sc_gtrace.nd rfl (Or.inl rfl)) (fun _ _ _ _ _ => pts_nil) (fun _ _ _ _ _ => (pe_ix (r := rIxT K) ix_tup (pe_ix (r := rIxT K) ix_tup (pe_fldN K (pv 0)) (pv 1) (fun _ _ => rfl)) (pv 1) (fun _ _ => rfl)))) pa_nil)) (pa_cons (pe_fld (pv 0) rfl) pa_nil)))))), ?_⟩
    refine ⟨_, rfl, _, _, _, _, _, rfl, hg, T.c_Gr, T.na_Gr_height, zip_get (i := 2) GN_nd rfl rfl, _, rfl, _, _, _, _, _, rfl, hg, T.c_Gr, T.na_Gr_width, zip_get (i := 3) GN_nd rfl rfl, rfl, _, rfl, ?_⟩
    by_cases c : m.length = wideOf m
    · rw [decide_eq_true (by rw [c])]
      obtain ⟨rc, o1, bo, k⟩ := k c
      refine iteF ?_
      dsimp only [tNext]
      refine uRet (uMake (uCons (uCB (uCons (lcR (lo := 0) (n := m.length) (fun i v _ => v = V.int ((m.getD i []).getD i 0)) (int64 rc.l) (fun P h => ⟨_, rfl, _, _, _, _, _, rfl, hg, T.c_Gr, T.na_Gr_height, zip_get (i := 2) GN_nd rfl rfl, (m.length : Int), rfl, by have := rc.l; omega, by have := rc.l; omega, h⟩) (fun i H2 D hi ex hD Q2 kq => ?_) (fun D H2 vs nD ex e1 e2 e3 => ?_))))))
      · have hj0 : (0 : Int) + (i : Int) = (i : Int) := by omega
        rw [hj0]
        have hb2 : as[i]? = some (as[i]'(by omega)) := List.getElem?_eq_getElem (by omega)
        have hrow := ex _ _ (h3 i _ _ hb2 (List.getElem?_eq_getElem hi))
        have lw := rc.r _ (List.getElem_mem hi)
        have at1 := atI_nat (xs := as.map V.ref) (j := i) (v := V.ref (as[i]'(by omega))) (by rw [List.getElem?_map, hb2]; rfl)
        have at2 := atI_nat (xs := m[i].map V.int) (j := i) (v := V.int ((m.getD i []).getD i 0)) (by
          rw [List.getElem?_map, List.getElem?_eq_getElem (by omega), List.getD_eq_getElem?_getD, List.getD_eq_getElem?_getD, List.getElem?_eq_getElem hi, Option.getD_some, List.getElem?_eq_getElem (by omega)]; rfl)
        exact ⟨rfl, _, rfl, _, _, _, _, _, rfl, (ex _ _ hg), T.c_Gr, T.na_Gr_rows, zip_get (i := 0) GN_nd rfl rfl, _, rfl, _, _, _, _, rfl, rfl, SqT.of (ex _ _ h1), at1, _, rfl, _, _, _, _, rfl, rfl, SqT.of hrow, at2, kq _ _ (fun _ _ h => h) fun _ _ => rfl⟩
      · rw [vals_int (f := fun k => (m.getD k []).getD k 0) e2 fun i v q => e3 i v q] at e1
        refine ⟨D, _, rfl, SqL.of e1, ?_⟩
        exact ⟨_, rfl, _, _, _, _, _, rfl, (ex _ _ hg), T.c_Gr, T.na_Gr_over, zip_get (i := 1) GN_nd rfl rfl, rd_make (by omega) (bo.mono (by decide)) fun x H4 e4 _ rx => k x H4 (ex.trans e4) rx⟩
    · rw [decide_eq_false (fun z => c (by have := V.int.inj z; omega))]
      exact iteT (kb c)
def spGget (A : Ad) : Sp := fun vs H Q E => ∃ (g t : Addr) (m : List (List Int)) (o i j : Int), vs = [.ref g, .ref t] ∧ GridAt A H g m o ∧ H t = some (.tup [.int i, .int j]) ∧
  (¬ ((0 ≤ i ∧ i < m.length) ∧ 0 ≤ j ∧ j < wideOf m) → ∀ d t' H', Ex H H' → H' t' = some (.tup [.int i, .int j]) → H' d = some (.xd [("place", .ref t')]) → E (.ref A.P) (some d) H') ∧
  (0 ≤ i → i < m.length → 0 ≤ j → j < wideOf m → Rect m ∧ 1 ≤ o ∧ Bd 1000 o ∧ ∀ x H', Ex H H' → RatAt A.C H' x (lo ((m.getD i.toNat []).getD j.toNat 0) o) → Q (.ref x) H')
theorem ok_gget (T : Txt K mg A) : FnOk P w K mg base (L2N.CX P w) 5 A.f_gget A.d_gget ["self", "at"] (spGget A) := by
  refine fun_okN T.F_gget sc_gget (fun vs H Q E h => ?_) (fun cdv Ar outer s H vs Q E hr h => ?_)
  · obtain ⟨g, t, m, o, i, j, rfl, _⟩ := h
    rfl
  · obtain ⟨g, t, m, o, i, j, rfl, ⟨dx, R, hg, as, h1, h2, h3⟩, ht, kb, k⟩ := h
    refine ⟨_, (C8.pss_cut (ps_asg (pv 1) (pg_tup rfl (pgs_cons (pg_name (i := 2) sc_gget.nd rfl (Or.inl rfl)) (pgs_cons (pg_name (i := 3) sc_gget.nd rfl (Or.inl rfl)) pgs_nil))))
      (C8.pss_cut (ps_if (PW.pt (pw_or (pt_not (pt_chain op_le op_lt pe_int (pv 2) (pe_fld (pv 0) rfl))) (pw_or1 (pt_not (pt_chain op_le op_lt pe_int (pv 3) (pe_fld (pv 0) rfl))))))
      (pss_one (L2N.ps_raise rfl (L2N.takes_of rfl rfl rfl rfl) (pmk_oexN T.o_P T.in_P T.ti_P (ok_bpl T) (hr.mono (by decide)) T.b_bpl passF rfl T.g_P (pa_cons (pe_tup (pa_cons (pv 2) (pa_cons (pv 3) pa_nil))) pa_nil)))) pss_nil)
      (pss_one (ps_ret (pe_make T.mkC (ok_init T) (hr.mono (by decide)) rfl T.g_Ratio T.b_init3 .nil passL (pa_cons (pe_ix ix_tup (pe_ix ix_tup (pe_fld (pv 0) rfl) (pv 2) (fun _ _ => rfl)) (pv 3) (fun _ _ => rfl)) (pa_cons (pe_fld (pv 0) rfl) pa_nil))))))), ?_⟩
    refine ⟨fun sl H2 => sl = [some (.ref g), some (.ref t), some (.int i), some (.int j)] ∧ H2 = H, ?_, ?_⟩
    · exact ⟨_, rfl, t, _, rfl, SqT.of ht, rfl, _, _, rfl, _, _, rfl, rfl, rfl, rfl⟩
    rintro sl H2 ⟨rfl, rfl⟩
    refine ⟨fun sl H3 => sl = [some (.ref g), some (.ref t), some (.int i), some (.int j)] ∧ H3 = H2 ∧ (0 ≤ i ∧ i < m.length) ∧ 0 ≤ j ∧ j < wideOf m, ?_, ?_⟩
    · refine ⟨_, rfl, _, _, rfl, rfl, _, rfl, ite2 (fun c => ⟨_, rfl, _, _, _, _, _, rfl, hg, T.c_Gr, T.na_Gr_height, zip_get (i := 2) GN_nd rfl rfl, _, _, rfl, rfl, _, rfl, ?_⟩) (fun c => ⟨_, rfl, iteT ⟨_, rfl, _, rfl, (by show 2 ≤ sizeLine; rw [sizeLine_eq]; omega), fun t' nt => rd_errP (.inr ⟨t', _, rfl, upd_same⟩) fun d H' e hd => kb (fun z => c (decide_eq_true z.1.1)) d t' H' ((Ex.new nt).trans e) (e _ _ upd_same) hd⟩⟩)⟩
      have i0 : 0 ≤ i := of_decide_eq_true c
      by_cases c1 : i < m.length
      · rw [decide_eq_true c1]
        refine iteF ⟨_, rfl, _, _, rfl, rfl, _, rfl, ite2 (fun c => ⟨_, rfl, _, _, _, _, _, rfl, hg, T.c_Gr, T.na_Gr_width, zip_get (i := 3) GN_nd rfl rfl, _, _, rfl, rfl, _, rfl, ?_⟩) (fun c => ⟨_, rfl, iteT ⟨_, rfl, _, rfl, (by show 2 ≤ sizeLine; rw [sizeLine_eq]; omega), fun t' nt => rd_errP (.inr ⟨t', _, rfl, upd_same⟩) fun d H' e hd => kb (fun z => c (decide_eq_true z.2.1)) d t' H' ((Ex.new nt).trans e) (e _ _ upd_same) hd⟩⟩)⟩
        have j0 : 0 ≤ j := of_decide_eq_true c
        by_cases c2 : j < wideOf m
        · rw [decide_eq_true c2]
          exact iteF ⟨rfl, rfl, ⟨i0, c1⟩, j0, c2⟩
        · rw [decide_eq_false c2]
          exact iteT ⟨_, rfl, _, rfl, (by show 2 ≤ sizeLine; rw [sizeLine_eq]; omega), fun t' nt => rd_errP (.inr ⟨t', _, rfl, upd_same⟩) fun d H' e hd => kb (fun z => c2 z.2.2) d t' H' ((Ex.new nt).trans e) (e _ _ upd_same) hd⟩
      · rw [decide_eq_false c1]
        exact iteT ⟨_, rfl, _, rfl, (by show 2 ≤ sizeLine; rw [sizeLine_eq]; omega), fun t' nt => rd_errP (.inr ⟨t', _, rfl, upd_same⟩) fun d H' e hd => kb (fun z => c1 z.1.2) d t' H' ((Ex.new nt).trans e) (e _ _ upd_same) hd⟩
    rintro sl H3 ⟨rfl, rfl, ⟨i0, i1⟩, j0, j1⟩
    obtain ⟨rc, o1, bo, k⟩ := k i0 i1 j0 j1
    have hi : i.toNat < m.length := by omega
    have hb2 : as[i.toNat]? = some (as[i.toNat]'(by omega)) := List.getElem?_eq_getElem (by omega)
    have hrow := h3 i.toNat _ _ hb2 (List.getElem?_eq_getElem hi)
    have lw := rc.r _ (List.getElem_mem hi)
    have at1 := atI_nat (xs := as.map V.ref) (j := i.toNat) (v := V.ref (as[i.toNat]'(by omega))) (by rw [List.getElem?_map, hb2]; rfl)
    have at2 := atI_nat (xs := m[i.toNat].map V.int) (j := j.toNat) (v := V.int ((m.getD i.toNat []).getD j.toNat 0)) (by
          rw [List.getElem?_map, List.getElem?_eq_getElem (by omega), List.getD_eq_getElem?_getD, List.getD_eq_getElem?_getD, List.getElem?_eq_getElem hi, Option.getD_some, List.getElem?_eq_getElem (by omega)]; rfl)
    rw [show ((i.toNat : Nat) : Int) = i by omega] at at1
    rw [show ((j.toNat : Nat) : Int) = j by omega] at at2
    exact ⟨_, rfl, _, _, _, _, _, rfl, hg, T.c_Gr, T.na_Gr_rows, zip_get (i := 0) GN_nd rfl rfl, _, rfl, _, _, _, _, rfl, rfl, SqT.of h1, at1, _, rfl, _, _, _, _, rfl, rfl, SqT.of hrow, at2, _, rfl, _, _, _, _, _, rfl, hg, T.c_Gr, T.na_Gr_over, zip_get (i := 1) GN_nd rfl rfl, rd_make (by omega) (bo.mono (by decide)) fun x H4 e4 _ rx => k x H4 e4 rx⟩
def spGeq (K : PySem.W.Frag) (A : Ad) : Sp := fun vs H Q _ => ∃ (g : Addr) (v : V) (m : List (List Int)) (o : Int), vs = [.ref g, v] ∧ GridAt A H g m o ∧
  ((∃ (h : Addr) (n : List (List Int)) (u : Int), v = .ref h ∧ GridAt A H h n u ∧ Q (.bl (decide (m = n) && decide (o = u))) H) ∨ ((v = .non ∨ ∃ t xs, v = .ref t ∧ H t = some (.tup xs)) ∧ Q (.bl false) H))
theorem ok_geq (T : Txt K mg A) : FnOk P w K mg base CX0 2 A.f_geq A.d_geq ["self", "other"] (spGeq K A) := by
  refine T.F_geq.ok sc_geq (fun vs H Q E h => ?_) (fun cdv Ar outer s H vs Q E hr h => ?_)
  · obtain ⟨g, v, m, o, rfl, _⟩ := h
    rfl
  · obtain ⟨g, v, m, o, rfl, ⟨dx, R, hg, hR⟩, hv⟩ := h
    refine ⟨_, (pss_one (ps_ret (pe_and (pe_callB call_isi (by rfl) T.n_isinstance (by decide +kernel) (pa_cons (pv 1) (pa_cons (pe_glob (v := .ref A.Gr) rfl T.g_Grid rfl) pa_nil))) (pe_and (pe_cmpR (op_eqD hr.units) (pe_fld (pv 0) rfl) (pe_fld (pv 1) rfl) (nomark _)) (pe_one (pe_cmpR op_eq (pe_fld (pv 0) rfl) (pe_fld (pv 1) rfl) (nomark _))))))), ?_⟩
    rcases hv with ⟨h, n, u, rfl, ⟨dy, S, hh, hS⟩, q⟩ | ⟨hv, q⟩
    · refine ⟨_, rfl, .ref h, .ref A.Gr, .ref A.Gr, .ref A.Gr, true, rfl, .own _, .base (.ins hh T.c_Gr T.ha_Gr T.hn T.htk T.hm_Gr), kit_self, true, rfl, ?_⟩
      refine ⟨_, rfl, _, _, _, _, _, rfl, hg, T.c_Gr, T.na_Gr_rows, zip_get (i := 0) GN_nd rfl rfl, _, rfl, _, _, _, _, _, rfl, hh, T.c_Gr, T.na_Gr_rows, zip_get (i := 0) GN_nd rfl rfl, _, _, hR.dp, hS.dp, shapedT m, shapedT n, ?_⟩
      rw [eqv_rowsT]
      by_cases c : m = n
      · rw [decide_eq_true c] at q ⊢
        refine ⟨true, rfl, _, rfl, _, _, _, _, _, rfl, hg, T.c_Gr, T.na_Gr_over, zip_get (i := 1) GN_nd rfl rfl, _, rfl, _, _, _, _, _, rfl, hh, T.c_Gr, T.na_Gr_over, zip_get (i := 1) GN_nd rfl rfl, rfl, ?_⟩
        have : decide (V.int o = V.int u) = decide (o = u) := by by_cases e : o = u <;> simp [e]
        rw [this]
        simpa using q
      · rw [decide_eq_false c] at q ⊢
        exact ⟨false, rfl, by simpa using q⟩
    · rcases hv with rfl | ⟨t, xs, rfl, ht⟩
      · exact ⟨_, rfl, .non, .ref A.Gr, _, _, false, rfl, .own _, .base .non, (kit_ref T.c_Gr.hd T.tyG (T.subG "NoneType" (by simp)).1 (by intro z; cases z)), false, rfl, q⟩
      · exact ⟨_, rfl, .ref t, .ref A.Gr, _, _, false, rfl, .own _, .base (.tup ht), (kit_ref T.c_Gr.hd T.tyG (T.subG "tuple" (by simp)).1 (by intro z; cases z)), false, rfl, q⟩
end
end Fc
set_option Elab.async false
set_option linter.all false
set_option maxRecDepth 100000
set_option maxHeartbeats 4000000
set_option exponentiation.threshold 100000
namespace Fc
open PySem PySem.Spec PyProof.Rows L2 L2H
def unitM (n : Nat) : List (List Int) := (List.range n).map fun i => (List.range n).map fun j => if i = j then 1 else 0
theorem unit_get {n i : Nat} (h : i < n) : (unitM n)[i]? = some ((List.range n).map fun j => if i = j then 1 else 0) := by
  unfold unitM
  rw [List.getElem?_map, List.getElem?_range h]
  rfl
theorem rect_of {m : List (List Int)} {w : Nat} (l : m.length ≤ 64) (hw : w ≤ 64) (e : ∀ r ∈ m, r.length = w) : Rect m := by
  cases m with
  | nil => exact ⟨by show 0 ≤ 64; omega, by show 0 ≤ 64; omega, fun r hr => by cases hr⟩
  | cons u m =>
    have ew : wideOf (u :: m) = w := e u List.mem_cons_self
    exact ⟨l, by omega, fun r hr => by rw [ew]; exact e r hr⟩
theorem unit_rect {n : Nat} (h : n ≤ 64) : Rect (unitM n) := rect_of (w := n) (by unfold unitM; rw [List.length_map, List.length_range]; exact h) h fun r hr => by
  unfold unitM at hr
  obtain ⟨i, _, rfl⟩ := List.mem_map.mp hr
  rw [List.length_map, List.length_range]
/-- rows of Ratios -/
def RatRows (A : Ad) (H : Hp) (a : Addr) (rs : List (List (Int × Int))) : Prop := ∃ (as : List Addr) (css : List (List Addr)), H a = some (.lst (as.map V.ref)) ∧ as.length = rs.length ∧ css.length = rs.length ∧
  ∀ (i : Nat) b cs r, as[i]? = some b → css[i]? = some cs → rs[i]? = some r → H b = some (.lst (cs.map V.ref)) ∧ cs.length = r.length ∧ ∀ (j : Nat) c p, cs[j]? = some c → r[j]? = some p → RatAt A.C H c p
theorem RatRows.ex {A : Ad} {H H' : Hp} {a : Addr} {rs : List (List (Int × Int))} (h : RatRows A H a rs) (e : Ex H H') : RatRows A H' a rs := by
  obtain ⟨as, css, h1, h2, h3, h4⟩ := h
  refine ⟨as, css, e _ _ h1, h2, h3, fun i b cs r e1 e2 e3 => ?_⟩
  obtain ⟨q1, q2, q3⟩ := h4 i b cs r e1 e2 e3
  exact ⟨e _ _ q1, q2, fun j c p e3 e4 => (q3 j c p e3 e4).ex e⟩
theorem RatRows.lens {K : PySem.W.Frag} {A : Ad} {H : Hp} {a : Addr} {rs : List (List (Int × Int))} (h : RatRows A H a rs) : ∃ xs, LensV K H a xs (rs.map List.length) := by
  obtain ⟨as, css, h1, h2, h3, h4⟩ := h
  refine ⟨_, .inl (SqL.of h1), by rw [List.length_map, List.length_map, h2], fun i w n e1 e2 => ?_⟩
  rw [List.getElem?_map] at e1 e2
  obtain ⟨b, hb, rfl⟩ := Option.map_eq_some_iff.mp e1
  obtain ⟨r, hr, rfl⟩ := Option.map_eq_some_iff.mp e2
  have hi : i < css.length := by have := (List.getElem?_eq_some_iff.mp hr).1; omega
  obtain ⟨q1, q2, _⟩ := h4 i b _ r hb (List.getElem?_eq_getElem hi) hr
  exact ⟨b, _, rfl, .inl (SqL.of q1), by rw [List.length_map, q2]⟩
theorem flat_align {P : Addr → Int × Int → Prop} : ∀ (css : List (List Addr)) (rs : List (List (Int × Int))), css.length = rs.length →
    (∀ (i : Nat) cs r, css[i]? = some cs → rs[i]? = some r → cs.length = r.length ∧ ∀ (j : Nat) c p, cs[j]? = some c → r[j]? = some p → P c p) →
    css.flatten.length = rs.flatten.length ∧ ∀ (k : Nat) c p, css.flatten[k]? = some c → rs.flatten[k]? = some p → P c p
  | [], [], _, _ => ⟨rfl, fun k c p h => by simp at h⟩
  | cs :: css, r :: rs, el, h => by
    obtain ⟨l, hp⟩ := h 0 cs r rfl rfl
    obtain ⟨l2, hp2⟩ := flat_align css rs (by simpa using el) fun i c q e1 e2 => h (i + 1) c q (by simpa using e1) (by simpa using e2)
    refine ⟨by simp only [List.flatten_cons, List.length_append, l, l2], fun k c p e1 e2 => ?_⟩
    rw [List.flatten_cons] at e1 e2
    by_cases ck : k < cs.length
    · rw [List.getElem?_append_left ck] at e1
      rw [List.getElem?_append_left (by omega)] at e2
      exact hp k c p e1 e2
    · rw [List.getElem?_append_right (by omega)] at e1
      rw [List.getElem?_append_right (by omega), ← l] at e2
      exact hp2 _ c p e1 e2
  | [], _ :: _, el, _ => by simp at el
  | _ :: _, [], el, _ => by simp at el
theorem flat_len {α : Type} : ∀ (rs : List (List α)) (n : Nat), (∀ r ∈ rs, r.length ≤ n) → rs.flatten.length ≤ rs.length * n
  | [], _, _ => by simp
  | r :: rs, n, h => by
    have h1 := h r List.mem_cons_self
    have h2 := flat_len rs n fun q hq => h q (List.mem_cons_of_mem _ hq)
    rw [List.flatten_cons, List.length_append, List.length_cons, Nat.succ_mul]
    omega
def ofO (rs : List (List (Int × Int))) : Nat := lcmL (rs.flatten.map fun p => p.2.natAbs)
def ofM (rs : List (List (Int × Int))) : List (List Int) := rs.map fun r => r.map fun p => p.1 * ((ofO rs : Nat) : Int).fdiv p.2
section
variable {P : Program} {w : World} {K : PySem.W.Frag} {mg : Str → Option Value} {base : Heap} {A : Ad}
def spUnit (A : Ad) : Sp := fun vs H Q E => ∃ n : Int, vs = [.int n] ∧ (n < 0 ∨ 64 < n → E (.ref A.BS) none H) ∧ (0 ≤ n → n ≤ 64 → ∀ x H', Ex H H' → GridAt A H' x (nR (unitM n.toNat) 1) (nO (unitM n.toNat) 1) → Q (.ref x) H')
theorem ok_gunit (T : Txt K mg A) : FnOk P w K mg base (L2N.CX P w) 5 A.f_gunit A.d_gunit ["size"] (spUnit A) := by
  refine fun_okN T.F_gunit sc_gunit (fun vs H Q E h => ?_) (fun cdv Ar outer s H vs Q E hr h => ?_)
  · obtain ⟨n, rfl, _⟩ := h
    rfl
  · obtain ⟨n, rfl, kb, k⟩ := h
    obtain ⟨tM, eM⟩ := T.gi_MOST_SIZE
    obtain ⟨dg, vdg, bg1⟩ := T.b1_ginit
    refine ⟨_, (pss_cons (ps_if (PW.pt (pw_or (pt_cmpR op_lt (pv 0) pe_int (nomark _)) (pw_or1 (pt_cmpR op_gt (pv 0) (pe_glob (v := .int 64) rfl eM ⟨_, rfl⟩) (nomark _)))))
      (pss_one (L2N.ps_raise rfl (L2N.takes_of rfl rfl rfl rfl) (pmk_bareN PySem.F.excBase_ValueError T.x_BS T.g_BS T.k_BS (raises_own T.bs_BS T.t_BS) rfl))) pss_nil)
      (pss_one (ps_ret (pe_make T.mk_Gr (ok_ginit T) (hr.mono (by decide)) rfl T.g_Grid bg1 vdg passLN (pa_cons (pe_lc (own := [("i", 2)]) (g := gName 2) (tt := tYes) rfl sc_gunit.nd (pi_range1 rfl T.n_range (pa_cons (pv 0) pa_nil)) (blkOk_by (own := [("i", 2)]) (N := N_gunit) (sc := defScope S_gunit) (by decide +kernel)) (fun _ _ _ _ _ => pg_name (i := 2) sc_gunit.nd rfl (Or.inr rfl)) (fun _ _ _ _ _ => pts_nil) (fun _ _ _ _ _ => (pe_lc (own := [("j", 1)]) (g := gName 1) (tt := tYes) rfl sc_gunit.nd (pi_range1 rfl T.n_range (pa_cons (pv 0) pa_nil)) (blkOk_by (own := [("j", 1)]) (N := N_gunit) (by rfl)) (fun _ _ _ _ _ => pg_name (i := 1) sc_gunit.nd rfl (Or.inl rfl)) (fun _ _ _ _ _ => pts_nil) (fun _ _ _ _ _ => (pe_ifExp (pt_cmpR op_eq (pv 2) (pv 1) (nomark _)) pe_int pe_int))))) pa_nil))))), ?_⟩
    refine ⟨_, rfl, _, _, rfl, rfl, _, rfl, ?_⟩
    by_cases c1 : n < 0
    · rw [decide_eq_true c1]
      exact iteT (kb (.inl c1))
    rw [decide_eq_false c1]
    refine iteF ⟨_, rfl, _, _, rfl, rfl, _, rfl, ?_⟩
    by_cases c2 : 64 < n
    · rw [decide_eq_true (by omega)]
      exact iteT (kb (.inr c2))
    rw [decide_eq_false (by omega)]
    have n64 : n.toNat ≤ 64 := by omega
    refine iteF ?_
    dsimp only [tNext]
    refine uRet (uMake (uCons (lcR (lo := 0) (n := n.toNat) (RowR .lst (unitM n.toNat)) (int64 n64) (fun P h => ⟨_, rfl, n, rfl, by omega, by omega, by simpa using h⟩) (fun i H2 D hi ex hD Q2 kq => ?_) (fun D H2 vs nD ex e1 e2 e3 => ?_))))
    · have hj0 : (0 : Int) + (i : Int) = (i : Int) := by omega
      rw [hj0]
      refine ⟨rfl, lcR (lo := 0) (n := n.toNat) (fun j v _ => v = V.int (if i = j then 1 else 0)) (int64 n64) (fun P h => ⟨_, rfl, n, rfl, by omega, by omega, by simpa using h⟩) (fun j H3 D2 hj ex2 hD2 Q3 kq3 => ?_) (fun D2 H3 vs n2 ex2 e1 e2 e3 => ?_)⟩
      · have hj0 : (0 : Int) + (j : Int) = (j : Int) := by omega
        rw [hj0]
        refine ⟨rfl, _, rfl, _, rfl, rfl, _, rfl, ?_⟩
        by_cases c : i = j
        · rw [decide_eq_true (by rw [c])]
          exact iteT (kq3 _ _ (fun _ _ h => h) fun _ _ => by simp [c])
        · rw [decide_eq_false (fun z => c (by have := V.int.inj z; omega))]
          exact iteF (kq3 _ _ (fun _ _ h => h) fun _ _ => by simp [c])
      · rw [vals_int (f := fun j => if i = j then 1 else 0) e2 fun j v q => e3 j v q] at e1
        obtain ⟨ob, hob⟩ := hD
        exact kq _ _ ex2 (RowR.fix (unit_get hi) e1 (ne_of_none hob n2).symm)
    · obtain ⟨bs, rfl, lb, hb⟩ := RowR.all (m := unitM n.toNat) (by rw [e2]; unfold unitM; rw [List.length_map, List.length_range]) e3
      have hL : RowsL H2 D (unitM n.toNat) := ⟨bs, e1, lb, hb⟩
      exact rd_grid hL.matv (unit_rect n64) (by decide) (bd_of (by decide +kernel)) fun x H4 e4 _ gx => k (by omega) (by omega) x H4 (ex.trans e4) gx
def spOf (K : PySem.W.Frag) (A : Ad) : Sp := fun vs H Q E => ∃ (a : Addr) (xs : List V) (ns : List Nat), vs = [.ref A.Gr, .ref a] ∧ LensV K H a xs ns ∧ ns.length ≤ 100000 ∧ (¬ ShapeOk ns → E (.ref A.BS) none H) ∧
  (ShapeOk ns → ∃ (rs : List (List (Int × Int))) (N : Nat), ns = rs.map List.length ∧ RatRows A H a rs ∧ 0 < N ∧ N < 2 ^ 64 ∧ (∀ r ∈ rs, ∀ p ∈ r, 0 < p.2 ∧ p.2.natAbs ∣ N ∧ Bd 900 p.1) ∧
    ∀ x H', Ex H H' → GridAt A H' x (nR (ofM rs) (ofO rs : Nat)) (nO (ofM rs) (ofO rs : Nat)) → Q (.ref x) H')
theorem ok_gof (T : Txt K mg A) : FnOk P w K mg base (L2N.CX P w) 5 A.f_gof A.d_gof ["cls", "ratios"] (spOf K A) := by
  refine fun_okN T.F_gof sc_gof (fun vs H Q E h => ?_) (fun cdv Ar outer s H vs Q E hr h => ?_)
  · obtain ⟨a, xs, ns, rfl, _⟩ := h
    rfl
  · obtain ⟨a, xs, ns, rfl, hl, ln, kb, k⟩ := h
    refine ⟨_, (C8.pss_cut (ps_expr (pe_call (ok_cshape T) (hr.mono (by decide)) rfl T.g_cshape T.F_cshape.kp T.b_cshape .nil (L2N.passes_call (L2N.takes_of rfl rfl rfl rfl) fun _ _ _ _ h => h) (pa_cons (pv 1) pa_nil)))
      (C8.pss_cut (ps_set (i := 2) sc_gof.nd rfl (Or.inr rfl) (pe_call (ok_cbot T) (hr.mono (by decide)) rfl T.g_cbot T.F_cbot.kp T.b_cbot .nil pass0 (pa_cons (pe_lc2 (own := [("row", 3), ("ratio", 4)]) (vs1 := [4]) (g := gName 3) (g1 := gName 4) (wi1 := iList K (tVar 3)) (tt := tYes) (tt1 := tYes) rfl sc_gof.nd (pi_list (pv 1)) (blkOk_by (own := [("row", 3), ("ratio", 4)]) (N := N_gof) (sc := defScope S_gof) (by decide +kernel)) (by decide) (fun _ _ _ _ _ => pg_name (i := 3) sc_gof.nd rfl (Or.inl rfl)) (fun _ _ _ _ _ => pts_nil) (fun _ _ _ _ _ => (pi_list (pv 3))) (fun _ _ _ _ _ => pg_name (i := 4) sc_gof.nd rfl (Or.inl rfl)) (fun _ _ _ _ _ => pts_nil) (fun _ _ _ _ _ => (pv 4))) pa_nil)))
      (pss_one (ps_ret (pe_makeL (i := 0) rfl (Or.inl rfl) T.mk_Gr (ok_ginit T) (hr.mono (by decide)) T.b_ginit passLN (pa_cons (pe_lc (own := [("row", 3)]) (g := gName 3) (tt := tYes) rfl sc_gof.nd (pi_list (pv 1)) (blkOk_by (own := [("row", 3)]) (N := N_gof) (sc := defScope S_gof) (by decide +kernel)) (fun _ _ _ _ _ => pg_name (i := 3) sc_gof.nd rfl (Or.inl rfl)) (fun _ _ _ _ _ => pts_nil) (fun _ _ _ _ _ => (pe_lc (own := [("ratio", 4)]) (g := gName 4) (wi := iList K (tVar 3)) (tt := tYes) rfl sc_gof.nd (pi_list (pv 3)) (blkOk_by (own := [("ratio", 4)]) (N := N_gof) (by rfl)) (fun _ _ _ _ _ => pg_name (i := 4) sc_gof.nd rfl (Or.inl rfl)) (fun _ _ _ _ _ => pts_nil) (fun _ _ _ _ _ => (pe_op op_mulW (pe_fldN K (pv 4)) (pe_op op_fdv (pv 2) (pe_fldN K (pv 4)))))))) (pa_cons (pv 2) pa_nil))))))), ?_⟩
    refine ⟨fun sl H2 => sl = [some (.ref A.Gr), some (.ref a), none, none, none] ∧ H2 = H ∧ ShapeOk ns, ?_, ?_⟩
    · exact ⟨_, rfl, a, xs, ns, rfl, hl, ln, fun h => ⟨rfl, rfl, h⟩, kb⟩
    rintro sl H2 ⟨rfl, rfl, sh⟩
    obtain ⟨rs, N, rfl, hrs, N0, N1, hp, k⟩ := k sh
    obtain ⟨as, css, h1, h2, h3, h4⟩ := id hrs
    have l64 : rs.length ≤ 64 := by simpa using sh.1
    have r64 : ∀ r ∈ rs, r.length ≤ 64 := fun r hr => (sh.2 r.length (List.mem_map_of_mem hr)).1
    obtain ⟨fl, fp⟩ := flat_align (P := RatAt A.C H2) css rs h3 fun i cs r e1 e2 => by
      have hi : i < as.length := by have := (List.getElem?_eq_some_iff.mp e2).1; omega
      exact (h4 i _ cs r (List.getElem?_eq_getElem hi) e1 e2).2
    have fn := flat_len rs 64 r64
    have bl : 0 < ofO rs ∧ ofO rs < 2 ^ 64 := by
      have d : ofO rs ∣ N := lcmL_dvd fun n hn => by
        obtain ⟨p, hp1, rfl⟩ := List.mem_map.mp hn
        obtain ⟨r, hr, hpr⟩ := List.mem_flatten.mp hp1
        exact (hp r hr p hpr).2.1
      exact ⟨Nat.pos_of_dvd_of_pos d N0, Nat.lt_of_le_of_lt (Nat.le_of_dvd N0 d) N1⟩
    have ob : Bd 64 ((ofO rs : Nat) : Int) := by show ((ofO rs : Nat) : Int).natAbs < 2 ^ 64; rw [Int.natAbs_natCast]; exact bl.2
    refine ⟨fun sl H3 => (∃ o1 o2, sl = [some (.ref A.Gr), some (.ref a), some (.int (ofO rs : Nat)), o1, o2]) ∧ Ex H2 H3, ?_, ?_⟩
    · refine uAsg (uCall (uCons (lc2L as (css.map fun cs => cs.map V.ref) (fun Q q => ⟨_, rfl, q⟩) h1 (by rw [List.length_map, h2, h3]) (fun i b r e1 e2 => ?_) ?_ (fun b H' => ⟨_, fun P h => h, rfl, fun Q' q => ⟨_, rfl, q⟩, fun v H2 => ⟨_, fun P h => h, rfl, fun Q' q => ⟨_, rfl, q⟩⟩⟩) (fun D H3 nD ex e1 => ?_))))
      · rw [List.getElem?_map] at e2
        obtain ⟨cs, hc, rfl⟩ := Option.map_eq_some_iff.mp e2
        have hi : i < rs.length := by have := (List.getElem?_eq_some_iff.mp hc).1; omega
        exact (h4 i b cs _ e1 hc (List.getElem?_eq_getElem hi)).1
      · rw [← List.map_flatten, List.length_map, fl]; omega
      · rw [← List.map_flatten] at e1
        exact ⟨D, css.flatten, rs.flatten, N, rfl, e1, fl, fun k c p q1 q2 => ⟨(fp k c p q1 q2).ex ex, by
          obtain ⟨r, hr, hpr⟩ := List.mem_flatten.mp (List.mem_of_getElem? q2)
          exact ⟨(hp r hr p hpr).1, (hp r hr p hpr).2.1⟩⟩, N0, N1, ⟨_, _, rfl⟩, ex⟩
    rintro sl H3 ⟨⟨o1, o2, rfl⟩, ex3⟩
    have rect : Rect (ofM rs) := by
      have sh2 := sh
      cases rs with
      | nil => exact ⟨by show 0 ≤ 64; omega, by show 0 ≤ 64; omega, fun r hr => by cases hr⟩
      | cons r0 rs =>
        refine rect_of (w := r0.length) (by unfold ofM; rw [List.length_map]; exact l64) (r64 r0 List.mem_cons_self) fun r hr => ?_
        unfold ofM at hr
        obtain ⟨q, hq, rfl⟩ := List.mem_map.mp hr
        rw [List.length_map]
        have := (sh2.2 q.length (List.mem_map_of_mem hq)).2
        rw [List.map_cons, List.head?_cons] at this
        exact (Option.some.inj this).symm
    obtain ⟨as, css, h1, h2, h3, h4⟩ := hrs.ex ex3
    refine uRet ?_
    refine ⟨rfl, uCons (lcL (RowR .lst (ofM rs)) (fun Q q => ⟨_, rfl, q⟩) (SqL.of h1) (by rw [List.length_map, h2]; exact int64 l64) (fun i v H4 D hv ex hD Q2 kq => ?_) (fun D H4 vs nD ex e1 e2 e3 => ?_))⟩
    · rw [List.getElem?_map] at hv
      obtain ⟨b, hb, rfl⟩ := Option.map_eq_some_iff.mp hv
      have hi : i < rs.length := by have := (List.getElem?_eq_some_iff.mp hb).1; omega
      obtain ⟨q1, q2, q3⟩ := h4 i b _ _ hb (List.getElem?_eq_getElem (by omega)) (List.getElem?_eq_getElem hi)
      have lr := r64 _ (List.getElem_mem hi)
      refine ⟨rfl, lcL (fun j v _ => ∀ p, rs[i][j]? = some p → v = V.int (p.1 * ((ofO rs : Nat) : Int).fdiv p.2)) (fun Q q => ⟨_, rfl, q⟩) (SqL.of (ex _ _ q1)) (by rw [List.length_map]; omega) (fun j v H5 D2 hv ex2 hD2 Q3 kq3 => ?_) (fun D2 H5 vs n2 ex2 e1 e2 e3 => ?_)⟩
      · rw [List.getElem?_map] at hv
        obtain ⟨c, hc, rfl⟩ := Option.map_eq_some_iff.mp hv
        have hj : j < rs[i].length := by have := (List.getElem?_eq_some_iff.mp hc).1; omega
        obtain ⟨dc, hc2⟩ := ((q3 j c _ hc (List.getElem?_eq_getElem hj)).ex ex).ex ex2
        obtain ⟨p0, pd, pb⟩ := hp _ (List.getElem_mem hi) _ (List.getElem_mem hj)
        have p64 : Bd 64 (rs[i][j]).2 := Nat.lt_of_le_of_lt (Nat.le_of_dvd N0 pd) N1
        refine ⟨rfl, _, rfl, _, _, _, _, _, rfl, hc2, T.cl, T.nT, rf_top _, _, rfl, _, rfl, _, _, _, _, _, rfl, hc2, T.cl, T.nB, rf_bot _, _, _, rfl, rfl, p64.fdv (by omega), _, _, rfl, rfl, Bd.w pb (n := 900) (m := 64) ?_, kq3 _ _ (fun _ _ h => h) fun H6 _ p ep => ?_⟩
        · refine ob.abs ?_
          rw [Int.fdiv_eq_ediv_of_nonneg _ (by omega)]
          exact Int.natAbs_ediv_le_natAbs _ _
        · rw [List.getElem?_eq_getElem hj] at ep
          cases ep
          rfl
      · rw [List.length_map, q2] at e2
        rw [vals_mapG (f := fun p => p.1 * ((ofO rs : Nat) : Int).fdiv p.2) e2 fun j v p z1 z2 => e3 j v z1 p z2] at e1
        obtain ⟨obj, hob⟩ := hD
        exact kq _ _ ex2 (RowR.fix (by unfold ofM; rw [List.getElem?_map, List.getElem?_eq_getElem hi]; rfl) e1 (ne_of_none hob n2).symm)
    · obtain ⟨bs, rfl, lb, hb⟩ := RowR.all (m := ofM rs) (by rw [e2, List.length_map, h2]; unfold ofM; rw [List.length_map]) e3
      have hL : RowsL H4 D (ofM rs) := ⟨bs, e1, lb, hb⟩
      exact ⟨_, rfl, rd_grid hL.matv rect (by have := bl.1; omega) (ob.mono (by decide)) fun x H5 e5 _ gx => k x H5 (ex3.trans (ex.trans e5)) gx⟩
end
end Fc
set_option Elab.async false
set_option linter.all false
set_option maxRecDepth 100000
set_option maxHeartbeats 4000000
set_option exponentiation.threshold 100000
namespace Fc
open PySem PySem.Spec PyProof.Rows L2 L2H
theorem gcdL_pre (g : Nat) (r : List Int) (j : Nat) (x : Int) (h : r[j]? = some x) : gcdL ((g : Int) :: r.take (j + 1)) = Nat.gcd (gcdL ((g : Int) :: r.take j)) x.natAbs := by
  have := gcdL_take ((g : Int) :: r) (j + 1) x (by simpa using h)
  simpa using this
theorem gcdL_one (g : Nat) : gcdL [(g : Int)] = g := by
  unfold gcdL
  rw [List.foldl_cons, Int.natAbs_natCast, Nat.gcd_zero_left]
  rfl
theorem eqv_list_int (r s : List Int) : PyData.eqv (PyData.list (r.map PyData.int)) (PyData.list (s.map PyData.int)) = decide (r = s) := by simp [PyData.eqv, eqvI]
section
variable {P : Program} {w : World} {K : PySem.W.Frag} {mg : Str → Option Value} {base : Heap} {A : Ad}
def spLis (A : Ad) : Sp := fun vs H Q _ => ∃ (g a : Addr) (m : List (List Int)) (o : Int), vs = [.ref g, .ref a, .int o] ∧ GridAt A H g (nR m o) (nO m o) ∧ RowsL H a m ∧ Rect m ∧ 1 ≤ o ∧ Bd 900 o ∧ ∀ H', Ex H H' → Q (.bl true) H'
theorem ok_lis (T : Txt K mg A) : FnOk P w K mg base CX0 2 A.f_lis A.d_lis ["told", "rows", "over"] (spLis A) := by
  refine T.F_lis.ok sc_lis (fun vs H Q E h => ?_) (fun cdv Ar outer s H vs Q E hr h => ?_)
  · obtain ⟨g, a, m, o, rfl, _⟩ := h
    rfl
  · obtain ⟨g, a, m, o, rfl, ⟨dx, R, hg, hR⟩, hm, rc, o1, bo, k⟩ := h
    refine ⟨_, (C8.pss_cut (ps_if (PW.pt (pw_or (pt_not (pt_val (pe_callB call_isi (by rfl) T.n_isinstance (by decide +kernel) (pa_cons (pv 0) (pa_cons (pe_glob (v := .ref A.Gr) rfl T.g_Grid rfl) pa_nil))))) (pw_or1 (pt_not (pt_val (pe_callB call_isi (by rfl) T.n_isinstance (by decide +kernel) (pa_cons (pe_fld (pv 0) rfl) (pa_cons (pe_bltn (v := .ty "tuple") rfl T.n_tuple (by decide +kernel) rfl) pa_nil))))))))
      (pss_one (ps_ret pe_bl)) pss_nil)
      (C8.pss_cut (ps_set (i := 3) sc_lis.nd rfl (Or.inr rfl) (pv 2))
      (C8.pss_cut (ps_for PassesOwn.never rfl (pi_list (pv 1)) (pg_name (i := 4) sc_lis.nd rfl (Or.inl rfl))
      (pss_one (ps_for PassesOwn.never rfl (pi_list (pv 4)) (pg_name (i := 5) sc_lis.nd rfl (Or.inl rfl))
      (pss_one (ps_set (i := 3) sc_lis.nd rfl (Or.inr rfl) (pe_call (ok_lcommon T) (hr.mono (by decide)) rfl T.g_lcommon T.F_lcommon.kp T.b_lcommon .nil pass0 (pa_cons (pe_callB call_abs (by rfl) T.n_abs (by decide +kernel) (pa_cons (pv 5) pa_nil)) (pa_cons (pv 3) pa_nil))))))))
      (C8.pss_cut (ps_setLc (i := 6) (own := [("row", 4)]) (g := gName 4) (tt := tYes) rfl sc_lis.nd rfl rfl (sw_true rfl rfl rfl (by decide +kernel)) (pi_list (pv 1)) (blkOk_by (own := [("row", 4)]) (N := N_lis) (sc := defScope S_lis) (by decide +kernel)) (fun _ _ _ _ _ => pg_name (i := 4) sc_lis.nd rfl (Or.inl rfl)) (fun _ _ _ _ _ => pts_nil) (fun _ _ _ _ _ => (pe_callTy (T := "tuple") (r := rTupOf K) call_tupK (by rfl) T.n_tuple (by decide +kernel) (pa_cons (pe_lc (own := [("cell", 5)]) (g := gName 5) (wi := iList K (tVar 4)) (tt := tYes) rfl sc_lis.nd (pi_list (pv 4)) (blkOk_by (own := [("cell", 5)]) (N := N_lis) (by rfl)) (fun _ _ _ _ _ => pg_name (i := 5) sc_lis.nd rfl (Or.inl rfl)) (fun _ _ _ _ _ => pts_nil) (fun _ _ _ _ _ => (pe_op op_fdv (pv 5) (pv 3)))) pa_nil))))
      (C8.pss_cut (ps_if (pt_cmpR (op_neD hr.units) (pe_fld (pv 0) rfl) (pe_callTy call_tuple_of (by rfl) T.n_tuple (by decide +kernel) (pa_cons (pv 6) pa_nil)) (nomark _))
      (pss_one (ps_ret pe_bl)) pss_nil)
      (C8.pss_cut (ps_for PassesOwn.never rfl (pi_tup (pe_fld (pv 0) rfl)) (pg_name (i := 4) sc_lis.nd rfl (Or.inl rfl))
      (pss_one (ps_if (PW.pt (pw_or (pt_not (pt_val (pe_callB call_isi (by rfl) T.n_isinstance (by decide +kernel) (pa_cons (pv 4) (pa_cons (pe_bltn (v := .ty "tuple") rfl T.n_tuple (by decide +kernel) rfl) pa_nil))))) (pw_or1 (pt_not (pt_val (pe_callB (cr_all rfl) (by rfl) T.n_all (by decide +kernel) (pa_cons (pe_lc (own := [("cell", 5)]) (g := gName 5) (tt := tYes) rfl sc_lis.nd (pi_tup (pv 4)) (blkOk_by (own := [("cell", 5)]) (N := N_lis) (sc := defScope S_lis) (by decide +kernel)) (fun _ _ _ _ _ => pg_name (i := 5) sc_lis.nd rfl (Or.inl rfl)) (fun _ _ _ _ _ => pts_nil) (fun _ _ _ _ _ => (pe_call (ok_whole T) (hr.mono (by decide)) rfl T.g_whole T.F_whole.kp T.b_whole .nil pass0 (pa_cons (pv 5) pa_nil)))) pa_nil)))))))
      (pss_one (ps_ret pe_bl)) pss_nil)))
      (C8.pss_cut (ps_set (i := 7) sc_lis.nd rfl (Or.inl rfl) (pe_lst (pa_cons (pe_fld (pv 0) rfl) (pa_cons (pe_fld (pv 0) rfl) (pa_cons (pe_fld (pv 0) rfl) pa_nil)))))
      (C8.pss_cut (ps_if (pt_not (pt_val (pe_callB (cr_all rfl) (by rfl) T.n_all (by decide +kernel) (pa_cons (pe_lc (own := [("field", 8)]) (g := gName 8) (tt := tYes) rfl sc_lis.nd (pi_list (pv 7)) (blkOk_by (own := [("field", 8)]) (N := N_lis) (sc := defScope S_lis) (by decide +kernel)) (fun _ _ _ _ _ => pg_name (i := 8) sc_lis.nd rfl (Or.inl rfl)) (fun _ _ _ _ _ => pts_nil) (fun _ _ _ _ _ => (pe_call (ok_whole T) (hr.mono (by decide)) rfl T.g_whole T.F_whole.kp T.b_whole .nil pass0 (pa_cons (pv 8) pa_nil)))) pa_nil))))
      (pss_one (ps_ret pe_bl)) pss_nil)
      (pss_one (ps_ret (pe_cmpR (op_eqD hr.units) (pv 7) (pe_lst (pa_cons (pe_op op_fdv (pv 2) (pv 3)) (pa_cons (pe_callB call_len (by rfl) T.n_len PySem.boot_len (pa_cons (pv 1) pa_nil)) (pa_cons (pe_call (ok_wide T) (hr.mono (by decide)) rfl T.g_wide T.F_wide.kp T.b_wide .nil pass0 (pa_cons (pv 1) pa_nil)) pa_nil)))) (nomark _)))))))))))), ?_⟩
    obtain ⟨as, h1, h2, h3⟩ := id hm
    obtain ⟨bs, r1, r2, r3⟩ := id hR
    have gp := nG_pos (m := m) o1
    have gb := nG_bd (m := m) o1 bo
    have l64 := rc.l
    have eo : ((o.toNat : Nat) : Int) = o := by omega
    -- what is a Grid and its rows a tuple
    refine ⟨fun sl H2 => sl = [some (.ref g), some (.ref a), some (.int o), none, none, none, none, none, none] ∧ H2 = H, ?_, ?_⟩
    · refine ⟨_, rfl, .ref g, .ref A.Gr, .ref A.Gr, .ref A.Gr, true, rfl, .own _, .base (.ins hg T.c_Gr T.ha_Gr T.hn T.htk T.hm_Gr), kit_self, _, rfl, iteF ?_⟩
      exact ⟨_, rfl, _, _, _, _, _, rfl, hg, T.c_Gr, T.na_Gr_rows, zip_get (i := 0) GN_nd rfl rfl, _, .ty "tuple", _, _, true, rfl, .ty _, .base (.tup r1), kit_ty (by decide +kernel), _, rfl, iteF ⟨rfl, rfl⟩⟩
    rintro sl H2 ⟨rfl, rfl⟩
    refine ⟨fun sl H3 => sl = [some (.ref g), some (.ref a), some (.int o), some (.int o), none, none, none, none, none] ∧ H3 = H2, ⟨_, rfl, rfl, rfl⟩, ?_⟩
    rintro sl H3 ⟨rfl, rfl⟩
    -- the common divisor
    refine ⟨fun sl H4 => (∃ o1 o2 o3 o4 o5, sl = [some (.ref g), some (.ref a), some (.int o), some (.int (nG m o)), o1, o2, o3, o4, o5]) ∧ H4 = H3, ?_, ?_⟩
    · refine forL (xs := as.map V.ref) (fun i sl H4 => (∃ o1 o2 o3 o4 o5, sl = [some (.ref g), some (.ref a), some (.int o), some (.int (sharedG (m.take i) o.toNat : Nat)), o1, o2, o3, o4, o5]) ∧ H4 = H3) (fun Q q => ⟨_, rfl, q⟩) (SqL.of h1) ⟨⟨_, _, _, _, _, by rw [show ((sharedG (m.take 0) o.toNat : Nat) : Int) = o from eo]⟩, rfl⟩
        (fun i sl H4 q => by rw [q.2]; exact SqL.of h1) (fun i v sl H4 hv q => ?_) (fun sl H4 q => ?_)
      · obtain ⟨⟨p1, p2, p3, p4, p5, rfl⟩, rfl⟩ := q
        rw [List.getElem?_map] at hv
        obtain ⟨b, hb, rfl⟩ := Option.map_eq_some_iff.mp hv
        have hi : i < m.length := by have := (List.getElem?_eq_some_iff.mp hb).1; omega
        have hrow := h3 i b _ hb (List.getElem?_eq_getElem hi)
        have gd : ∀ l : List Int, gcdL (((sharedG (m.take i) o.toNat : Nat) : Int) :: l) < 2 ^ 1000 := fun l => by
          have d1 := Nat.dvd_trans (gcdl_dvd (sharedG (m.take i) o.toNat) l) (sharedG_dvd (m.take i) o.toNat)
          have d2 := Nat.le_of_dvd (by omega) d1
          have d3 : o.natAbs < 2 ^ 900 := bo
          have : (2 : Nat) ^ 900 ≤ 2 ^ 1000 := Nat.pow_le_pow_right (by decide) (by decide)
          omega
        refine forL (xs := m[i].map V.int) (fun j sl H5 => (∃ o1 o2 o3 o4, sl = [some (.ref g), some (.ref a), some (.int o), some (.int (gcdL (((sharedG (m.take i) o.toNat : Nat) : Int) :: m[i].take j) : Nat)), some (.ref b), o1, o2, o3, o4]) ∧ H5 = H4) (fun Q q => ⟨_, rfl, q⟩) (SqL.of hrow)
          ⟨⟨_, _, _, _, by rw [List.take_zero, gcdL_one]; rfl⟩, rfl⟩ (fun j sl H5 q => by rw [q.2]; exact SqL.of hrow) (fun j v sl H5 hv q => ?_) (fun sl H5 q => ?_)
        · obtain ⟨⟨p1, p2, p3, p4, rfl⟩, rfl⟩ := q
          rw [List.getElem?_map] at hv
          obtain ⟨x, hx, rfl⟩ := Option.map_eq_some_iff.mp hv
          refine ⟨_, rfl, x, rfl, _, rfl, (ab x).toNat, gcdL (((sharedG (m.take i) o.toNat : Nat) : Int) :: m[i].take j), ?_, gd _, ⟨some (.int x), p2, p3, p4, ?_⟩, rfl⟩
          · have e1 : (((ab x).toNat : Nat) : Int) = ab x := by have := ab_nn x; omega
            rw [e1]
            rfl
          · rw [gcdL_pre _ _ j x hx, Nat.gcd_comm]
            have e1 : x.natAbs = (ab x).toNat := by unfold ab; split <;> omega
            rw [e1]
            rfl
        · obtain ⟨⟨p1, p2, p3, p4, rfl⟩, rfl⟩ := q
          rw [List.length_map, List.take_length, ← sharedG_take m o.toNat i _ (List.getElem?_eq_getElem hi)]
          exact ⟨⟨_, _, _, _, _, rfl⟩, rfl⟩
      · obtain ⟨⟨p1, p2, p3, p4, p5, rfl⟩, rfl⟩ := q
        rw [List.length_map, h2, List.take_length]
        exact ⟨⟨_, _, _, _, _, rfl⟩, rfl⟩
    rintro sl H4 ⟨⟨p1, p2, p3, p4, p5, rfl⟩, rfl⟩
    -- the rows that are due
    refine ⟨fun sl H5 => (∃ (D : Addr) (cs : List Addr) (o1 o2 o4 o5 : Option V), sl = [some (.ref g), some (.ref a), some (.int o), some (.int (nG m o)), o1, o2, some (.ref D), o4, o5] ∧ H5 D = some (.lst (cs.map V.ref)) ∧ cs.length = (nR m o).length ∧ ∀ (i : Nat) c r, cs[i]? = some c → (nR m o)[i]? = some r → H5 c = some (.tup (r.map V.int))) ∧ Ex H4 H5, ?_, ?_⟩
    · refine uAsg (lcL (RowR .tup (nR m o)) (fun Q q => ⟨_, rfl, q⟩) (SqL.of h1) (by rw [List.length_map, h2]; exact int64 l64) (fun i v H5 D hv ex hD Q5 kq => ?_) (fun D H5 vs nD ex e1 e2 e3 => ?_))
      · rw [List.getElem?_map] at hv
        obtain ⟨b, hb, rfl⟩ := Option.map_eq_some_iff.mp hv
        have hi : i < m.length := by have := (List.getElem?_eq_some_iff.mp hb).1; omega
        have hrow := ex _ _ (h3 i b _ hb (List.getElem?_eq_getElem hi))
        refine ⟨rfl, uCB (uCons (lcInts (fun n => n.fdiv (nG m o)) (fun R => lcL R (fun Q q => ⟨_, rfl, q⟩) (SqL.of hrow) (by rw [List.length_map, rc.r _ (List.getElem_mem hi)]; exact int64 rc.w)) (fun n H6 _ e6 Q6 q => ⟨rfl, _, rfl, _, rfl, _, _, rfl, rfl, gb.fdv (by omega), q⟩) (fun D2 H6 n2 e6 hD2 => ?_)))⟩
        refine ⟨D2, _, rfl, .inl ⟨SqL.of hD2, fun R' nR' => ?_⟩⟩
        obtain ⟨ob, hob⟩ := hD
        exact kq _ _ (e6.trans (Ex.new nR')) (RowR.fix (r := m[i].map fun n => n.fdiv (nG m o)) (by unfold nR; rw [List.getElem?_map, List.getElem?_eq_getElem hi]; rfl) upd_same (ne_of_none (e6 _ _ hob) nR').symm)
      · obtain ⟨cs, rfl, lc, hc⟩ := RowR.all (m := nR m o) (by rw [e2, List.length_map, h2, nR_len]) e3
        exact ⟨⟨D, cs, _, _, _, _, rfl, e1, lc, hc⟩, ex⟩
    rintro sl H5 ⟨⟨D, cs, q1, q2, q4, q5, rfl, hD, lc, hc⟩, e5⟩
    refine ⟨fun sl H6 => (∃ o1 o2, sl = [some (.ref g), some (.ref a), some (.int o), some (.int (nG m o)), o1, o2, some (.ref D), q4, q5]) ∧ Ex H5 H6, ?_, ?_⟩
    · refine ⟨_, rfl, _, _, _, _, _, rfl, (e5 _ _ hg), T.c_Gr, T.na_Gr_rows, zip_get (i := 0) GN_nd rfl rfl, _, rfl, D, _, rfl, .inl ⟨SqL.of hD, fun R' nR' => ?_⟩⟩
      have e6 : Ex H5 (upd H5 R' (.tup (cs.map V.ref))) := Ex.new nR'
      have dT : RowsT (upd H5 R' (.tup (cs.map V.ref))) R' (nR m o) := ⟨cs, upd_same, lc, fun i c r z1 z2 => e6 _ _ (hc i c r z1 z2)⟩
      refine ⟨_, _, ((hR.ex e5).ex e6).dp, dT.dp, shapedT _, shapedT _, _, rfl, ?_⟩
      rw [eqv_rowsT, decide_eq_true rfl]
      exact iteF ⟨⟨_, _, rfl⟩, e6⟩
    rintro sl H6 ⟨⟨q1, q2, rfl⟩, e6⟩
    have E6 := e5.trans e6
    -- every row a tuple of whole numbers
    refine ⟨fun sl H7 => (∃ o1 o2, sl = [some (.ref g), some (.ref a), some (.int o), some (.int (nG m o)), o1, o2, some (.ref D), q4, q5]) ∧ Ex H6 H7, ?_, ?_⟩
    · refine forT (xs := bs.map V.ref) (fun i sl H7 => (∃ o1 o2, sl = [some (.ref g), some (.ref a), some (.int o), some (.int (nG m o)), o1, o2, some (.ref D), q4, q5]) ∧ Ex H6 H7) (fun Q q => ⟨_, rfl, _, _, _, _, _, rfl, (E6 _ _ hg), T.c_Gr, T.na_Gr_rows, zip_get (i := 0) GN_nd rfl rfl, q⟩) (SqT.of (E6 _ _ r1)) ⟨⟨_, _, rfl⟩, fun _ _ h => h⟩
        (fun i sl H7 q => SqT.of (q.2 _ _ (E6 _ _ r1))) (fun i v sl H7 hv q => ?_) (fun sl H7 q => q)
      obtain ⟨⟨z1, z2, rfl⟩, e7⟩ := q
      rw [List.getElem?_map] at hv
      obtain ⟨b, hb, rfl⟩ := Option.map_eq_some_iff.mp hv
      have hi : i < (nR m o).length := by have := (List.getElem?_eq_some_iff.mp hb).1; omega
      have hrow := e7 _ _ (E6 _ _ (r3 i b _ hb (List.getElem?_eq_getElem hi)))
      have lrow : (nR m o)[i].length ≤ 100000 := by
        have := (rc.map (f := fun r => r.map fun x => x.fdiv (nG m o)) fun r => List.length_map ..)
        have q1 := this.r (nR m o)[i] (List.getElem_mem hi)
        have q2 := this.w
        omega
      refine ⟨_, rfl, _, .ty "tuple", _, _, true, rfl, .ty _, .base (.tup hrow), kit_ty (by decide +kernel), _, rfl, iteF ?_⟩
      refine uNot (uB (uCB (uCons (lcT (fun i v _ => v = V.bl true) (fun Q q => ⟨_, rfl, q⟩) (SqT.of hrow) (by rw [List.length_map]; exact lrow) (fun j v H8 D2 hv ex hD2 Q8 kq => ?_) (fun D2 H8 vs n2 ex e1 e2 e3 => ?_)))))
      · rw [List.getElem?_map] at hv
        obtain ⟨x, hx, rfl⟩ := Option.map_eq_some_iff.mp hv
        exact ⟨rfl, _, rfl, x, rfl, kq _ _ (fun _ _ h => h) fun _ _ => rfl⟩
      · rw [vals_true fun i v q => e3 i v q] at e1
        refine ⟨D2, _, rfl, SqL.of e1, _, rfl, ?_⟩
        rw [all_true]
        exact iteF ⟨⟨_, _, rfl⟩, e7.trans ex⟩
    rintro sl H7 ⟨⟨z1, z2, rfl⟩, e7⟩
    have E7 := E6.trans e7
    refine ⟨fun sl H8 => (∃ F o1 o2 o3, sl = [some (.ref g), some (.ref a), some (.int o), some (.int (nG m o)), o1, o2, some (.ref D), some (.ref F), o3] ∧ H8 F = some (.lst [.int (nO m o), .int ((nR m o).length : Nat), .int (wideOf (nR m o) : Nat)])) ∧ Ex H7 H8, ?_, ?_⟩
    · exact ⟨_, rfl, _, _, _, _, _, rfl, (E7 _ _ hg), T.c_Gr, T.na_Gr_over, zip_get (i := 1) GN_nd rfl rfl, _, rfl, _, _, _, _, _, rfl, (E7 _ _ hg), T.c_Gr, T.na_Gr_height, zip_get (i := 2) GN_nd rfl rfl, _, rfl, _, _, _, _, _, rfl, (E7 _ _ hg), T.c_Gr, T.na_Gr_width, zip_get (i := 3) GN_nd rfl rfl, (by show 3 ≤ sizeLine; rw [sizeLine_eq]; omega), fun F nF => ⟨⟨F, _, _, _, rfl, upd_same⟩, Ex.new nF⟩⟩
    rintro sl H8 ⟨⟨F, y1, y2, y3, rfl, hF⟩, e8⟩
    refine ⟨fun sl H9 => (∃ o1 o2 o3, sl = [some (.ref g), some (.ref a), some (.int o), some (.int (nG m o)), o1, o2, some (.ref D), some (.ref F), o3]) ∧ Ex H8 H9, ?_, ?_⟩
    · refine uIf (uNot (uB (uCB (uCons (lcL (fun i v _ => v = V.bl true) (fun Q q => ⟨_, rfl, q⟩) (SqL.of hF) (by show 3 ≤ 100000; omega) (fun j v H9 D2 hv ex hD2 Q8 kq => ?_) (fun D2 H9 vs n2 ex e1 e2 e3 => ?_))))))
      · have : ∃ x, v = V.int x := by
          match j, hv with
          | 0, hv => exact ⟨_, (Option.some.inj hv).symm⟩
          | 1, hv => exact ⟨_, (Option.some.inj hv).symm⟩
          | 2, hv => exact ⟨_, (Option.some.inj hv).symm⟩
          | j + 3, hv => simp at hv
        obtain ⟨x, rfl⟩ := this
        exact ⟨rfl, _, rfl, x, rfl, kq _ _ (fun _ _ h => h) fun _ _ => rfl⟩
      · rw [vals_true fun i v q => e3 i v q] at e1
        refine ⟨D2, _, rfl, SqL.of e1, _, rfl, ?_⟩
        rw [all_true]
        exact iteF ⟨⟨_, _, _, rfl⟩, ex⟩
    rintro sl H9 ⟨⟨y1, y2, y3, rfl⟩, e9⟩
    have E9 : Ex H4 H9 := E7.trans (e8.trans e9)
    refine ⟨_, rfl, _, rfl, _, rfl, _, _, rfl, rfl, gb.fdv (by omega), _, rfl, _, _, rfl, lenv (.inl (SqL.of (E9 _ _ h1))), _, rfl, a, m, rfl, hm.ex E9, fun r hr => by rw [rc.r r hr]; exact int64 rc.w, fun H10 e10 => ?_⟩
    refine ⟨by show 3 ≤ sizeLine; rw [sizeLine_eq]; omega, fun L nL => ?_⟩
    have e11 := Ex.new (o := .lst [.int (nO m o), .int (m.length : Nat), .int (wideOf m : Nat)]) nL
    rw [List.length_map, h2]
    refine ⟨PyData.list ([nO m o, ((nR m o).length : Nat), (wideOf (nR m o) : Nat)].map PyData.int), PyData.list ([nO m o, (m.length : Nat), (wideOf m : Nat)].map PyData.int), .lst (SqL.of ((e9.trans (e10.trans e11)) _ _ hF)) (dpI [nO m o, ((nR m o).length : Nat), (wideOf (nR m o) : Nat)]), .lst (SqL.of upd_same) (dpI [nO m o, (m.length : Nat), (wideOf m : Nat)]), shapedI _, shapedI _, ?_⟩
    rw [eqv_list_int, nR_len, nR_wide, decide_eq_true rfl]
    exact k _ (E9.trans (e10.trans e11))
end
end Fc
set_option Elab.async false
set_option linter.all false
set_option maxRecDepth 100000
set_option maxHeartbeats 4000000
set_option exponentiation.threshold 100000
namespace Fc
open PySem PySem.Spec PyProof.Rows L2 L2H
theorem eqv_tup_int (r s : List Int) : PyData.eqv (PyData.tuple (r.map PyData.int)) (PyData.tuple (s.map PyData.int)) = decide (r = s) := by simp [PyData.eqv, eqvI]
section
variable {P : Program} {w : World} {K : PySem.W.Frag} {mg : Str → Option Value} {base : Heap} {A : Ad}
theorem xd1 {f : Str} {v : V} : ([(f, v)] : List (Str × V)).lookup f = some v := by simp [List.lookup]
def spBadover : Sp := fun vs H Q _ => ∃ (a : Addr) (m : List (List Int)) (o : Int), vs = [.ref a, .int o] ∧ RowsL H a m ∧ Rect m ∧ o < 1 ∧ ∀ H', Ex H H' → Q (.bl true) H'
theorem ok_badover (T : Txt K mg A) : FnOk P w K mg base CX0 5 A.f_badover A.d_badover ["rows", "over"] spBadover := by
  refine T.F_badover.ok sc_badover (fun vs H Q E h => ?_) (fun cdv Ar outer s H vs Q E hr h => ?_)
  · obtain ⟨a, m, o, rfl, _⟩ := h
    rfl
  · obtain ⟨a, m, o, rfl, hm, rc, o1, k⟩ := h
    refine ⟨_, (pss_cons (L2N.ps_try_as (i := 2) (tb := fun W => (tDrop (tMakeS A.Gr (spGInit K A) (WE W) (tCons (tVar 0) (tCons (tVar 1) tNil))))) (ts := fun a cls d => (tSeq (tIfS (tOr (tNot (tB (tCB (rIsX K cls d a) (tCons (tVar 2) (tCons (tC (.ref A.O)) tNil))))) (tOr (tNot (tB (tCB (rIsX K cls d a) (tCons (tVar 2) (tCons (tC (.ty "ValueError")) tNil))))) (tB (tCB (rIsX K cls d a) (tCons (tVar 2) (tCons (tC (.ref A.BS)) tNil)))))) (tRet (tC (.bl false))) tNext) (tRet (tAndV (tCallS (spWhole) (fun _ => E0) (tCons (tXf a cls d A.O "value" (tVar 2)) tNil)) (tOp rEq (tXf a cls d A.O "value" (tVar 2)) (tVar 1)))))) (Wout := fun _ _ _ _ => False) rfl rfl sc_badover.nd rfl rfl ⟨rfl, by decide, Or.inl T.g_CE⟩ takes0N (fun W pn xe tk _ => (pss_one (ps_expr (pe_makeS T.mk_Gr (ok_ginit T) (hr.mono (by decide)) rfl T.g_Grid T.b_ginit (fun sl => L2N.passAt tk sl) (pa_cons (pv 0) (pa_cons (pv 1) pa_nil)))))) (fun a oe cls d pn hz hf => (pss_cons (ps_if (PW.pt (pw_or (pt_not (pt_val (pe_callB (call_isX hz.zc hf) (by rfl) T.n_isinstance (by decide +kernel) (pa_cons (pv 2) (pa_cons (pe_glob (v := .ref A.O) rfl T.g_O rfl) pa_nil))))) (pw_or (pt_not (pt_val (pe_callB (call_isX hz.zc hf) (by rfl) T.n_isinstance (by decide +kernel) (pa_cons (pv 2) (pa_cons (pe_bltn (v := .ty "ValueError") rfl T.n_ValueError (by decide +kernel) rfl) pa_nil))))) (pw_or1 (pt_val (pe_callB (call_isX hz.zc hf) (by rfl) T.n_isinstance (by decide +kernel) (pa_cons (pv 2) (pa_cons (pe_glob (v := .ref A.BS) rfl T.g_BS rfl) pa_nil)))))))) (pss_one (ps_ret pe_bl)) pss_nil) (pss_one (ps_ret (pe_and (pe_callH (okH_whole T) (roomH_mark (hr.mono (by decide)) _) (hot_suite hz hf) rfl T.g_whole T.F_whole.kp T.b_whole passH (pa_cons (pe_xf T.xf_O T.n_O_value hz.zc hf (pv 2)) pa_nil)) (pe_one (pe_cmpR op_eq (pe_xf T.xf_O T.n_O_value hz.zc hf (pv 2)) (pv 1) (nomark _)))))))))
      (pss_one (ps_ret pe_bl))), ?_⟩
    refine ⟨_, rfl, _, rfl, ?_⟩
    intro x dx nx nd _
    have e : Ex H (upd (upd H dx (.own x)) x (.ins A.Gr dx [])) := fun b o e => by rw [upd_ne (ne_of_none e nx), upd_ne (ne_of_none e nd)]; exact e
    obtain ⟨xs, hm2⟩ := (hm.ex e).matv (K := K)
    refine ⟨x, dx, a, xs, _, o, rfl, upd_same, hm2.lens, by rw [List.length_map]; exact int64 rc.l, fun n => absurd rc.sh n, fun _ _ d H' ex hd => ⟨true, T.e_O, fun _ b nb => ?_, fun z => Bool.noConfusion z⟩, fun _ z => absurd z (by omega)⟩
    have nd3 : ∀ dd : Addr, some d = some dd → ∃ fs, H' dd = some (.xd fs) := fun dd e => by cases e; exact ⟨_, hd⟩
    refine ⟨_, rfl, A.O, .ref A.O, .ref A.O, true, rfl, T.X_O, nd3, rfl, fun u e => e, kit_self, _, rfl, iteF ?_⟩
    refine ⟨_, rfl, A.O, .ty "ValueError", _, true, rfl, T.X_O, nd3, rfl, fun u e => e, T.v_O, _, rfl, iteF ?_⟩
    refine ⟨_, rfl, A.O, .ref A.BS, _, false, rfl, T.X_O, nd3, rfl, fun u e => e, T.oNbs, _, rfl, iteF ?_⟩
    refine ⟨_, rfl, rfl, rfl, d, _, _, rfl, hd, xd1, o, rfl, true, rfl, iteT ⟨_, rfl, rfl, rfl, d, _, _, rfl, hd, xd1, _, rfl, rfl, ?_⟩⟩
    rw [decide_eq_true rfl]
    exact k H' (e.trans ex)
def spBadplace (K : PySem.W.Frag) (A : Ad) : Sp := fun vs H Q _ => ∃ (g a b : Addr) (m : List (List Int)) (o : Int) (up ac : List Int) (x : Int), vs = [.ref g, .ref a, .ref b, .int x] ∧ GridAt A H g m o ∧ Rect m ∧ 1 ≤ o ∧ Bd 1000 o ∧ SqV K H a (up.map V.int) ∧ SqV K H b (ac.map V.int) ∧
  (up.find? (outB m.length) = some x ∨ (∀ y ∈ up, 0 ≤ y ∧ y < m.length) ∧ ac.find? (outB (wideOf m)) = some x) ∧ ∀ H', Ex H H' → Q (.bl true) H'
theorem find_not {n : Int} {ns : List Int} {x : Int} (h : ns.find? (outB n) = some x) : ¬ ∀ y ∈ ns, 0 ≤ y ∧ y < n := fun z => by
  have h1 := List.find?_some h
  have h2 := z x (List.mem_of_find?_eq_some h)
  simp [outB, h2.1, h2.2] at h1
theorem ok_badplace (T : Txt K mg A) : FnOk P w K mg base CX0 7 A.f_badplace A.d_badplace ["a", "up", "across", "place"] (spBadplace K A) := by
  refine T.F_badplace.ok sc_badplace (fun vs H Q E h => ?_) (fun cdv Ar outer s H vs Q E hr h => ?_)
  · obtain ⟨g, a, b, m, o, up, ac, x, rfl, _⟩ := h
    rfl
  · obtain ⟨g, a, b, m, o, up, ac, x, rfl, hg, rc, o1, bo, ha, hb, hx, k⟩ := h
    refine ⟨_, (pss_cons (L2N.ps_try_as (i := 4) (tb := fun W => (tDrop (tMethS A.Gr "part" (spPart K A) (WE W) (tVar 0) (tCons (tVar 1) (tCons (tVar 2) tNil))))) (ts := fun a cls d => (tSeq (tIfS (tOr (tNot (tB (tCB (rIsX K cls d a) (tCons (tVar 4) (tCons (tC (.ref A.P)) tNil))))) (tOr (tNot (tB (tCB (rIsX K cls d a) (tCons (tVar 4) (tCons (tC (.ty "ValueError")) tNil))))) (tB (tCB (rIsX K cls d a) (tCons (tVar 4) (tCons (tC (.ref A.BS)) tNil)))))) (tRet (tC (.bl false))) tNext) (tRet (tAndV (tCallS (spWhole) (fun _ => E0) (tCons (tXf a cls d A.P "place" (tVar 4)) tNil)) (tOp rEq (tXf a cls d A.P "place" (tVar 4)) (tVar 3)))))) (Wout := fun _ _ _ _ => False) rfl rfl sc_badplace.nd rfl rfl ⟨rfl, by decide, Or.inl T.g_CE⟩ takes0N (fun W pn xe tk _ => (pss_one (ps_expr (pe_methS (pv 0) T.c_Gr T.m_gpart (ok_gpart T) (hr.mono (by decide)) T.b_gpart (fun sl => L2N.passAt tk sl) (pa_cons (pv 1) (pa_cons (pv 2) pa_nil)))))) (fun a oe cls d pn hz hf => (pss_cons (ps_if (PW.pt (pw_or (pt_not (pt_val (pe_callB (call_isX hz.zc hf) (by rfl) T.n_isinstance (by decide +kernel) (pa_cons (pv 4) (pa_cons (pe_glob (v := .ref A.P) rfl T.g_P rfl) pa_nil))))) (pw_or (pt_not (pt_val (pe_callB (call_isX hz.zc hf) (by rfl) T.n_isinstance (by decide +kernel) (pa_cons (pv 4) (pa_cons (pe_bltn (v := .ty "ValueError") rfl T.n_ValueError (by decide +kernel) rfl) pa_nil))))) (pw_or1 (pt_val (pe_callB (call_isX hz.zc hf) (by rfl) T.n_isinstance (by decide +kernel) (pa_cons (pv 4) (pa_cons (pe_glob (v := .ref A.BS) rfl T.g_BS rfl) pa_nil)))))))) (pss_one (ps_ret pe_bl)) pss_nil) (pss_one (ps_ret (pe_and (pe_callH (okH_whole T) (roomH_mark (hr.mono (by decide)) _) (hot_suite hz hf) rfl T.g_whole T.F_whole.kp T.b_whole passH (pa_cons (pe_xf T.xf_P T.n_P_place hz.zc hf (pv 4)) pa_nil)) (pe_one (pe_cmpR op_eq (pe_xf T.xf_P T.n_P_place hz.zc hf (pv 4)) (pv 3) (nomark _)))))))))
      (pss_one (ps_ret pe_bl))), ?_⟩
    obtain ⟨dx, R, hgi, _⟩ := id hg
    refine ⟨_, rfl, g, dx, _, rfl, hgi, zip_no (by decide +kernel), _, rfl, _, rfl, g, a, b, m, o, up, ac, rfl, hg, rc, o1, bo, ha, hb, fun y hy d H' ex hd => ?_, fun gu => ⟨fun y hy d H' ex hd => ?_, fun gc => ?_⟩⟩
    · obtain rfl : y = x := by
        rcases hx with hx | ⟨gu, _⟩
        · rw [hx] at hy; exact (Option.some.inj hy).symm
        · exact absurd gu (find_not hy)
      refine ⟨true, T.e_P, fun _ b nb => ?_, fun z => Bool.noConfusion z⟩
      have nd3 : ∀ dd : Addr, some d = some dd → ∃ fs, H' dd = some (.xd fs) := fun dd e => by cases e; exact ⟨_, hd⟩
      refine ⟨_, rfl, A.P, .ref A.P, .ref A.P, true, rfl, T.X_P, nd3, rfl, fun u e => e, kit_self, _, rfl, iteF ?_⟩
      refine ⟨_, rfl, A.P, .ty "ValueError", _, true, rfl, T.X_P, nd3, rfl, fun u e => e, T.v_P, _, rfl, iteF ?_⟩
      refine ⟨_, rfl, A.P, .ref A.BS, _, false, rfl, T.X_P, nd3, rfl, fun u e => e, T.pNbs, _, rfl, iteF ?_⟩
      refine ⟨_, rfl, rfl, rfl, d, _, _, rfl, hd, xd1, y, rfl, true, rfl, iteT ⟨_, rfl, rfl, rfl, d, _, _, rfl, hd, xd1, _, rfl, rfl, ?_⟩⟩
      rw [decide_eq_true rfl]
      exact k H' ex
    · obtain rfl : y = x := by
        rcases hx with hx | ⟨_, hx⟩
        · exact absurd gu (find_not hx)
        · rw [hx] at hy; exact (Option.some.inj hy).symm
      refine ⟨true, T.e_P, fun _ b nb => ?_, fun z => Bool.noConfusion z⟩
      have nd3 : ∀ dd : Addr, some d = some dd → ∃ fs, H' dd = some (.xd fs) := fun dd e => by cases e; exact ⟨_, hd⟩
      refine ⟨_, rfl, A.P, .ref A.P, .ref A.P, true, rfl, T.X_P, nd3, rfl, fun u e => e, kit_self, _, rfl, iteF ?_⟩
      refine ⟨_, rfl, A.P, .ty "ValueError", _, true, rfl, T.X_P, nd3, rfl, fun u e => e, T.v_P, _, rfl, iteF ?_⟩
      refine ⟨_, rfl, A.P, .ref A.BS, _, false, rfl, T.X_P, nd3, rfl, fun u e => e, T.pNbs, _, rfl, iteF ?_⟩
      refine ⟨_, rfl, rfl, rfl, d, _, _, rfl, hd, xd1, y, rfl, true, rfl, iteT ⟨_, rfl, rfl, rfl, d, _, _, rfl, hd, xd1, _, rfl, rfl, ?_⟩⟩
      rw [decide_eq_true rfl]
      exact k H' ex
    · rcases hx with hx | ⟨_, hx⟩
      · exact absurd gu (find_not hx)
      · exact absurd gc (find_not hx)
def spNoentry (A : Ad) : Sp := fun vs H Q _ => ∃ (g : Addr) (m : List (List Int)) (o i j : Int), vs = [.ref g, .int i, .int j] ∧ GridAt A H g m o ∧ ¬ ((0 ≤ i ∧ i < m.length) ∧ 0 ≤ j ∧ j < wideOf m) ∧ ∀ H', Ex H H' → Q (.bl true) H'
theorem ok_noentry (T : Txt K mg A) : FnOk P w K mg base CX0 7 A.f_noentry A.d_noentry ["a", "i", "j"] (spNoentry A) := by
  refine T.F_noentry.ok sc_noentry (fun vs H Q E h => ?_) (fun cdv Ar outer s H vs Q E hr h => ?_)
  · obtain ⟨g, m, o, i, j, rfl, _⟩ := h
    rfl
  · obtain ⟨g, m, o, i, j, rfl, hg, hx, k⟩ := h
    refine ⟨_, (pss_cons (L2N.ps_try_as (i := 4) (tb := fun W => (tAsg (tIxO A.Gr (spGget A) (WE W) (tVar 0) (tTup (tCons (tVar 1) (tCons (tVar 2) tNil)))) (gName 3))) (ts := fun a cls d => (tSeq (tIfS (tOr (tNot (tB (tCB (rIsX K cls d a) (tCons (tVar 4) (tCons (tC (.ref A.P)) tNil))))) (tOr (tNot (tB (tCB (rIsX K cls d a) (tCons (tVar 4) (tCons (tC (.ty "ValueError")) tNil))))) (tB (tCB (rIsX K cls d a) (tCons (tVar 4) (tCons (tC (.ref A.BS)) tNil)))))) (tRet (tC (.bl false))) tNext) (tRet (tAndV (tCB (rIsi K) (tCons (tXf a cls d A.P "place" (tVar 4)) (tCons (tC (.ty "tuple")) tNil))) (tOp (rEqD K) (tXf a cls d A.P "place" (tVar 4)) (tTup (tCons (tVar 1) (tCons (tVar 2) tNil)))))))) (Wout := fun _ _ _ _ => False) rfl rfl sc_noentry.nd rfl rfl ⟨rfl, by decide, Or.inl T.g_CE⟩ takes0N (fun W pn xe tk _ => (pss_one (ps_set (i := 3) sc_noentry.nd rfl (Or.inl rfl) (pe_ixO T.m_gget.at_ T.fi_gget T.m_gget.fn (ok_gget T) (hr.mono (by decide)) T.b_gget (fun sl => L2N.passAt tk sl) (pv 0) (pe_tup (pa_cons (pv 1) (pa_cons (pv 2) pa_nil))))))) (fun a oe cls d pn hz hf => (pss_cons (ps_if (PW.pt (pw_or (pt_not (pt_val (pe_callB (call_isX hz.zc hf) (by rfl) T.n_isinstance (by decide +kernel) (pa_cons (pv 4) (pa_cons (pe_glob (v := .ref A.P) rfl T.g_P rfl) pa_nil))))) (pw_or (pt_not (pt_val (pe_callB (call_isX hz.zc hf) (by rfl) T.n_isinstance (by decide +kernel) (pa_cons (pv 4) (pa_cons (pe_bltn (v := .ty "ValueError") rfl T.n_ValueError (by decide +kernel) rfl) pa_nil))))) (pw_or1 (pt_val (pe_callB (call_isX hz.zc hf) (by rfl) T.n_isinstance (by decide +kernel) (pa_cons (pv 4) (pa_cons (pe_glob (v := .ref A.BS) rfl T.g_BS rfl) pa_nil)))))))) (pss_one (ps_ret pe_bl)) pss_nil) (pss_one (ps_ret (pe_and (pe_callB call_isi (by rfl) T.n_isinstance (by decide +kernel) (pa_cons (pe_xf T.xf_P T.n_P_place hz.zc hf (pv 4)) (pa_cons (pe_bltn (v := .ty "tuple") rfl T.n_tuple (by decide +kernel) rfl) pa_nil))) (pe_one (pe_cmpR (op_eqD hr.units) (pe_xf T.xf_P T.n_P_place hz.zc hf (pv 4)) (pe_tup (pa_cons (pv 1) (pa_cons (pv 2) pa_nil))) (nomark _)))))))))
      (pss_one (ps_ret pe_bl))), ?_⟩
    obtain ⟨dx, R, hgi, _⟩ := id hg
    refine ⟨_, rfl, _, rfl, _, rfl, (by show 2 ≤ sizeLine; rw [sizeLine_eq]; omega), fun t nt => ?_⟩
    have e0 : Ex H (upd H t (.tup [.int i, .int j])) := Ex.new nt
    refine ⟨g, dx, _, rfl, e0 _ _ hgi, g, t, m, o, i, j, rfl, hg.ex e0, upd_same, fun _ d t' H' ex ht' hd => ?_, fun a b c d => absurd ⟨⟨a, b⟩, c, d⟩ hx⟩
    refine ⟨true, T.e_P, fun _ b nb => ?_, fun z => Bool.noConfusion z⟩
    have nd3 : ∀ dd : Addr, some d = some dd → ∃ fs, H' dd = some (.xd fs) := fun dd e => by cases e; exact ⟨_, hd⟩
    refine ⟨_, rfl, A.P, .ref A.P, .ref A.P, true, rfl, T.X_P, nd3, rfl, fun u e => e, kit_self, _, rfl, iteF ?_⟩
    refine ⟨_, rfl, A.P, .ty "ValueError", _, true, rfl, T.X_P, nd3, rfl, fun u e => e, T.v_P, _, rfl, iteF ?_⟩
    refine ⟨_, rfl, A.P, .ref A.BS, _, false, rfl, T.X_P, nd3, rfl, fun u e => e, T.pNbs, _, rfl, iteF ?_⟩
    refine ⟨_, rfl, rfl, rfl, d, _, _, rfl, hd, xd1, .ref t', .ty "tuple", _, _, true, rfl, .ty _, .base (.tup ht'), kit_ty (by decide +kernel), true, rfl, ?_⟩
    refine iteT ⟨_, rfl, rfl, rfl, d, _, _, rfl, hd, xd1, _, rfl, _, rfl, (by show 2 ≤ sizeLine; rw [sizeLine_eq]; omega), fun t2 n2 => ?_⟩
    have e2 := Ex.new (o := .tup [.int i, .int j]) n2
    refine ⟨PyData.tuple ([i, j].map PyData.int), PyData.tuple ([i, j].map PyData.int), .tup (SqT.of (e2 _ _ ht')) (dpI [i, j]), .tup (SqT.of upd_same) (dpI [i, j]), shapedIT _, shapedIT _, ?_⟩
    rw [eqv_tup_int, decide_eq_true rfl]
    exact k _ (e0.trans (ex.trans e2))
/-! ### refused shapes -/
def spBadshape (K : PySem.W.Frag) (A : Ad) : Sp := fun vs H Q _ => (∃ (way : Int) (va vb vc : V), vs = [.int way, va, vb, vc] ∧
  ((way = 0 ∧ ∃ (a : Addr) (xs : List V) (ns : List Nat) (o : Int), vb = .ref a ∧ vc = .int o ∧ LensV K H a xs ns ∧ ns.length ≤ 100000 ∧ ¬ ShapeOk ns) ∨ (way = 1 ∧ ∃ (a : Addr) (xs : List V) (ns : List Nat), vb = .ref a ∧ LensV K H a xs ns ∧ ns.length ≤ 100000 ∧ ¬ ShapeOk ns) ∨
   (way = 2 ∧ ∃ n : Int, vb = .int n ∧ (n < 0 ∨ 64 < n)) ∨
   (way = 3 ∧ ∃ (g a b : Addr) (m : List (List Int)) (o : Int) (up ac : List Int), va = .ref g ∧ vb = .ref a ∧ vc = .ref b ∧ GridAt A H g m o ∧ Rect m ∧ 1 ≤ o ∧ Bd 1000 o ∧ SqV K H a (up.map V.int) ∧ SqV K H b (ac.map V.int) ∧ (∀ y ∈ up, 0 ≤ y ∧ y < m.length) ∧ (∀ y ∈ ac, 0 ≤ y ∧ y < wideOf m) ∧ (64 < up.length ∨ 64 < ac.length)) ∨
   (way = 4 ∧ ∃ (g a b : Addr) (m : List (List Int)) (o : Int) (l r : List Int), va = .ref g ∧ vb = .ref a ∧ vc = .ref b ∧ GridAt A H g m o ∧ SqV K H a (l.map V.int) ∧ SqV K H b (r.map V.int) ∧ ¬ (l.length = m.length ∧ r.length = wideOf m)) ∨
   (way = 5 ∧ ∃ (g : Addr) (m : List (List Int)) (o : Int), va = .ref g ∧ GridAt A H g m o ∧ m.length ≠ wideOf m))) ∧ ∀ H', Ex H H' → Q (.bl true) H'
theorem stepF {w n : Int} {P Q : Prop} (h : w ≠ n) (q : Q) : if decide (V.int w = V.int n) = true then P else Q := by
  rw [decide_eq_false fun z => h (V.int.inj z)]
  exact q
theorem stepT {w n : Int} {P Q : Prop} (h : w = n) (q : P) : if decide (V.int w = V.int n) = true then P else Q := by
  rw [decide_eq_true (by rw [h])]
  exact q
theorem ok_badshape (T : Txt K mg A) : FnOk P w K mg base CX0 7 A.f_badshape A.d_badshape ["way", "a", "first", "second"] (spBadshape K A) := by
  have p_gof := T.p_gof
  have p_gunit := T.p_gunit
  refine T.F_badshape.ok sc_badshape (fun vs H Q E h => ?_) (fun cdv Ar outer s H vs Q E hr h => ?_)
  · obtain ⟨⟨n, va, vb, vc, rfl, _⟩, _⟩ := h
    rfl
  · obtain ⟨⟨n, va, vb, vc, rfl, hc⟩, k⟩ := h
    refine ⟨_, (pss_cons (L2N.ps_try_as (i := 4) (tb := fun W => (tSeq (tIfS (tTest (tOp rEq (tVar 0) (tC (.int 0)))) (tDrop (tMakeS A.Gr (spGInit K A) (WE W) (tCons (tVar 2) (tCons (tVar 3) tNil)))) tNext) (tSeq (tIfS (tTest (tOp rEq (tVar 0) (tC (.int 1)))) (tDrop (tCMethS A.Gr (spOf K A) (WE W) (tC (.ref A.Gr)) (tCons (tVar 2) tNil))) tNext) (tSeq (tIfS (tTest (tOp rEq (tVar 0) (tC (.int 2)))) (tDrop (tSMethS A.Gr (spUnit A) (WE W) (tC (.ref A.Gr)) (tCons (tVar 2) tNil))) tNext) (tSeq (tIfS (tTest (tOp rEq (tVar 0) (tC (.int 3)))) (tDrop (tMethS A.Gr "part" (spPart K A) (WE W) (tVar 1) (tCons (tVar 2) (tCons (tVar 3) tNil)))) tNext) (tSeq (tIfS (tTest (tOp rEq (tVar 0) (tC (.int 4)))) (tDrop (tMethS A.Gr "form" (spForm K A) (WE W) (tVar 1) (tCons (tVar 2) (tCons (tVar 3) tNil)))) tNext) (tIfS (tTest (tOp rEq (tVar 0) (tC (.int 5)))) (tDrop (tMethS A.Gr "trace" (spTrace A) (WE W) (tVar 1) tNil)) tNext))))))) (ts := fun a cls d => (tRet (tAndV (tCB (rIsX K cls d a) (tCons (tVar 4) (tCons (tC (.ref A.BS)) tNil))) (tAndV (tCB (rIsX K cls d a) (tCons (tVar 4) (tCons (tC (.ty "ValueError")) tNil))) (tNotV (tCB (rIsX K cls d a) (tCons (tVar 4) (tCons (tC (.ref A.O)) tNil)))))))) (Wout := fun _ _ _ _ => False) rfl rfl sc_badshape.nd rfl rfl ⟨rfl, by decide, Or.inl T.g_CE⟩ takes0N (fun W pn xe tk _ => (pss_cons (ps_if (pt_cmpR op_eq (pv 0) pe_int (nomark _)) (pss_one (ps_expr (pe_makeS T.mk_Gr (ok_ginit T) (hr.mono (by decide)) rfl T.g_Grid T.b_ginit (fun sl => L2N.passAt tk sl) (pa_cons (pv 2) (pa_cons (pv 3) pa_nil))))) pss_nil) (pss_cons (ps_if (pt_cmpR op_eq (pv 0) pe_int (nomark _)) (pss_one (ps_expr (pe_cmethS (pe_glob (v := .ref A.Gr) rfl T.g_Grid rfl) T.crGr p_gof.choose_spec (fnR_of (ok_gof T) T.b_gof) (hr.mono (by decide)) (fun sl => L2N.passAt tk sl) (pa_cons (pv 2) pa_nil)))) pss_nil) (pss_cons (ps_if (pt_cmpR op_eq (pv 0) pe_int (nomark _)) (pss_one (ps_expr (pe_smethS (pe_glob (v := .ref A.Gr) rfl T.g_Grid rfl) T.crGr p_gunit.choose_spec (ok_gunit T) (hr.mono (by decide)) T.b_gunit (fun sl => L2N.passAt tk sl) (pa_cons (pv 2) pa_nil)))) pss_nil) (pss_cons (ps_if (pt_cmpR op_eq (pv 0) pe_int (nomark _)) (pss_one (ps_expr (pe_methS (pv 1) T.c_Gr T.m_gpart (ok_gpart T) (hr.mono (by decide)) T.b_gpart (fun sl => L2N.passAt tk sl) (pa_cons (pv 2) (pa_cons (pv 3) pa_nil))))) pss_nil) (pss_cons (ps_if (pt_cmpR op_eq (pv 0) pe_int (nomark _)) (pss_one (ps_expr (pe_methS (pv 1) T.c_Gr T.m_gform (ok_gform T) (hr.mono (by decide)) T.b_gform (fun sl => L2N.passAt tk sl) (pa_cons (pv 2) (pa_cons (pv 3) pa_nil))))) pss_nil) (pss_one (ps_if (pt_cmpR op_eq (pv 0) pe_int (nomark _)) (pss_one (ps_expr (pe_meth0S (pv 1) T.c_Gr T.m_gtrace (ok_gtrace T) (hr.mono (by decide)) T.b_gtrace (fun sl => L2N.passAt tk sl)))) pss_nil)))))))) (fun a oe cls d pn hz hf => (pss_one (ps_ret (pe_and (pe_callB (call_isX hz.zc hf) (by rfl) T.n_isinstance (by decide +kernel) (pa_cons (pv 4) (pa_cons (pe_glob (v := .ref A.BS) rfl T.g_BS rfl) pa_nil))) (pe_and (pe_callB (call_isX hz.zc hf) (by rfl) T.n_isinstance (by decide +kernel) (pa_cons (pv 4) (pa_cons (pe_bltn (v := .ty "ValueError") rfl T.n_ValueError (by decide +kernel) rfl) pa_nil))) (pe_one (pe_not (pe_callB (call_isX hz.zc hf) (by rfl) T.n_isinstance (by decide +kernel) (pa_cons (pv 4) (pa_cons (pe_glob (v := .ref A.O) rfl T.g_O rfl) pa_nil)))))))))))
      (pss_one (ps_ret pe_bl))), ?_⟩
    rcases hc with ⟨rfl, a, xs, ns, o, rfl, rfl, hl, ln, bad⟩ | ⟨rfl, a, xs, ns, rfl, hl, ln, bad⟩ | ⟨rfl, n, rfl, bad⟩ | ⟨rfl, g, a, b, m, o, up, ac, rfl, rfl, rfl, hg, rc, o1, bo, ha, hb, gu, gc, bad⟩ | ⟨rfl, g, a, b, m, o, l, r, rfl, rfl, rfl, hg, ha, hb, bad⟩ | ⟨rfl, g, m, o, rfl, hg, bad⟩
    · refine ⟨_, rfl, rfl, _, rfl, stepT rfl ⟨_, rfl, _, rfl, ?_⟩⟩
      intro x dx nx nd _
      have e : Ex H (upd (upd H dx (.own x)) x (.ins A.Gr dx [])) := fun b o e => by rw [upd_ne (ne_of_none e nx), upd_ne (ne_of_none e nd)]; exact e
      refine ⟨x, dx, a, xs, ns, o, rfl, upd_same, hl.ex e, ln, fun _ => ?_, fun z => absurd z bad, fun z => absurd z bad⟩
      refine ⟨true, T.e_BS, fun _ c nc => ?_, fun z => Bool.noConfusion z⟩
      have nd3 : ∀ dd : Addr, (none : Option Addr) = some dd → ∃ fs, H dd = some (.xd fs) := fun dd e => by cases e
      refine ⟨_, rfl, A.BS, .ref A.BS, .ref A.BS, true, rfl, T.X_BS, (fun dd z => by cases z), rfl, fun u e => e, kit_self, true, rfl, ?_⟩
      refine ⟨_, rfl, A.BS, .ty "ValueError", _, true, rfl, T.X_BS, (fun dd z => by cases z), rfl, fun u e => e, T.v_BS, true, rfl, ?_⟩
      exact ⟨_, rfl, A.BS, .ref A.O, _, false, rfl, T.X_BS, (fun dd z => by cases z), rfl, fun u e => e, T.bsNo, false, rfl, k _ (e)⟩
    · refine ⟨_, rfl, rfl, _, rfl, stepF (by decide) ?_⟩
      refine ⟨_, rfl, rfl, _, rfl, stepT rfl ⟨rfl, _, rfl, a, xs, ns, rfl, hl, ln, fun _ => ?_, fun z => absurd z bad⟩⟩
      refine ⟨true, T.e_BS, fun _ c nc => ?_, fun z => Bool.noConfusion z⟩
      have nd3 : ∀ dd : Addr, (none : Option Addr) = some dd → ∃ fs, H dd = some (.xd fs) := fun dd e => by cases e
      refine ⟨_, rfl, A.BS, .ref A.BS, .ref A.BS, true, rfl, T.X_BS, (fun dd z => by cases z), rfl, fun u e => e, kit_self, true, rfl, ?_⟩
      refine ⟨_, rfl, A.BS, .ty "ValueError", _, true, rfl, T.X_BS, (fun dd z => by cases z), rfl, fun u e => e, T.v_BS, true, rfl, ?_⟩
      exact ⟨_, rfl, A.BS, .ref A.O, _, false, rfl, T.X_BS, (fun dd z => by cases z), rfl, fun u e => e, T.bsNo, false, rfl, k _ (fun _ _ h => h)⟩
    · refine ⟨_, rfl, rfl, _, rfl, stepF (by decide) ?_⟩
      refine ⟨_, rfl, rfl, _, rfl, stepF (by decide) ?_⟩
      refine ⟨_, rfl, rfl, _, rfl, stepT rfl ⟨rfl, _, rfl, n, rfl, fun _ => ?_, fun a b => absurd bad (by omega)⟩⟩
      refine ⟨true, T.e_BS, fun _ c nc => ?_, fun z => Bool.noConfusion z⟩
      have nd3 : ∀ dd : Addr, (none : Option Addr) = some dd → ∃ fs, H dd = some (.xd fs) := fun dd e => by cases e
      refine ⟨_, rfl, A.BS, .ref A.BS, .ref A.BS, true, rfl, T.X_BS, (fun dd z => by cases z), rfl, fun u e => e, kit_self, true, rfl, ?_⟩
      refine ⟨_, rfl, A.BS, .ty "ValueError", _, true, rfl, T.X_BS, (fun dd z => by cases z), rfl, fun u e => e, T.v_BS, true, rfl, ?_⟩
      exact ⟨_, rfl, A.BS, .ref A.O, _, false, rfl, T.X_BS, (fun dd z => by cases z), rfl, fun u e => e, T.bsNo, false, rfl, k _ (fun _ _ h => h)⟩
    · refine ⟨_, rfl, rfl, _, rfl, stepF (by decide) ?_⟩
      refine ⟨_, rfl, rfl, _, rfl, stepF (by decide) ?_⟩
      refine ⟨_, rfl, rfl, _, rfl, stepF (by decide) ?_⟩
      obtain ⟨dx, R, hgi, _⟩ := id hg
      refine ⟨_, rfl, rfl, _, rfl, stepT rfl ⟨_, rfl, g, dx, _, rfl, hgi, zip_no (by decide +kernel), _, rfl, _, rfl, g, a, b, m, o, up, ac, rfl, hg, rc, o1, bo, ha, hb, fun y hy => absurd gu (find_not hy), fun _ => ⟨fun y hy => absurd gc (find_not hy), fun _ => ⟨fun _ => ?_, fun a b => absurd bad (by omega)⟩⟩⟩⟩
      refine ⟨true, T.e_BS, fun _ c nc => ?_, fun z => Bool.noConfusion z⟩
      have nd3 : ∀ dd : Addr, (none : Option Addr) = some dd → ∃ fs, H dd = some (.xd fs) := fun dd e => by cases e
      refine ⟨_, rfl, A.BS, .ref A.BS, .ref A.BS, true, rfl, T.X_BS, (fun dd z => by cases z), rfl, fun u e => e, kit_self, true, rfl, ?_⟩
      refine ⟨_, rfl, A.BS, .ty "ValueError", _, true, rfl, T.X_BS, (fun dd z => by cases z), rfl, fun u e => e, T.v_BS, true, rfl, ?_⟩
      exact ⟨_, rfl, A.BS, .ref A.O, _, false, rfl, T.X_BS, (fun dd z => by cases z), rfl, fun u e => e, T.bsNo, false, rfl, k _ (fun _ _ h => h)⟩
    · refine ⟨_, rfl, rfl, _, rfl, stepF (by decide) ?_⟩
      refine ⟨_, rfl, rfl, _, rfl, stepF (by decide) ?_⟩
      refine ⟨_, rfl, rfl, _, rfl, stepF (by decide) ?_⟩
      refine ⟨_, rfl, rfl, _, rfl, stepF (by decide) ?_⟩
      obtain ⟨dx, R, hgi, _⟩ := id hg
      refine ⟨_, rfl, rfl, _, rfl, stepT rfl ⟨_, rfl, g, dx, _, rfl, hgi, zip_no (by decide +kernel), _, rfl, _, rfl, g, a, b, m, o, l, r, rfl, hg, ha, hb, fun _ => ?_, fun a b => absurd ⟨a, b⟩ bad⟩⟩
      refine ⟨true, T.e_BS, fun _ c nc => ?_, fun z => Bool.noConfusion z⟩
      have nd3 : ∀ dd : Addr, (none : Option Addr) = some dd → ∃ fs, H dd = some (.xd fs) := fun dd e => by cases e
      refine ⟨_, rfl, A.BS, .ref A.BS, .ref A.BS, true, rfl, T.X_BS, (fun dd z => by cases z), rfl, fun u e => e, kit_self, true, rfl, ?_⟩
      refine ⟨_, rfl, A.BS, .ty "ValueError", _, true, rfl, T.X_BS, (fun dd z => by cases z), rfl, fun u e => e, T.v_BS, true, rfl, ?_⟩
      exact ⟨_, rfl, A.BS, .ref A.O, _, false, rfl, T.X_BS, (fun dd z => by cases z), rfl, fun u e => e, T.bsNo, false, rfl, k _ (fun _ _ h => h)⟩
    · refine ⟨_, rfl, rfl, _, rfl, stepF (by decide) ?_⟩
      refine ⟨_, rfl, rfl, _, rfl, stepF (by decide) ?_⟩
      refine ⟨_, rfl, rfl, _, rfl, stepF (by decide) ?_⟩
      refine ⟨_, rfl, rfl, _, rfl, stepF (by decide) ?_⟩
      refine ⟨_, rfl, rfl, _, rfl, stepF (by decide) ?_⟩
      obtain ⟨dx, R, hgi, _⟩ := id hg
      refine ⟨_, rfl, rfl, _, rfl, stepT rfl ⟨_, rfl, g, dx, _, rfl, hgi, zip_no (by decide +kernel), g, m, o, rfl, hg, fun _ => ?_, fun a => absurd a bad⟩⟩
      refine ⟨true, T.e_BS, fun _ c nc => ?_, fun z => Bool.noConfusion z⟩
      have nd3 : ∀ dd : Addr, (none : Option Addr) = some dd → ∃ fs, H dd = some (.xd fs) := fun dd e => by cases e
      refine ⟨_, rfl, A.BS, .ref A.BS, .ref A.BS, true, rfl, T.X_BS, (fun dd z => by cases z), rfl, fun u e => e, kit_self, true, rfl, ?_⟩
      refine ⟨_, rfl, A.BS, .ty "ValueError", _, true, rfl, T.X_BS, (fun dd z => by cases z), rfl, fun u e => e, T.v_BS, true, rfl, ?_⟩
      exact ⟨_, rfl, A.BS, .ref A.O, _, false, rfl, T.X_BS, (fun dd z => by cases z), rfl, fun u e => e, T.bsNo, false, rfl, k _ (fun _ _ h => h)⟩
end
end Fc
set_option Elab.async false
set_option linter.all false
set_option maxRecDepth 100000
set_option maxHeartbeats 4000000
set_option exponentiation.threshold 100000
namespace Fc
open PySem PySem.Spec PyProof.Rows L2 L2H
/-! ### lowest terms of a table -/
theorem mulR_mulR (m : List (List Int)) (a b : Int) : mulR (mulR m a) b = mulR m (a * b) := by
  unfold mulR
  rw [List.map_map]
  refine List.map_congr_left fun r _ => ?_
  rw [Function.comp, List.map_map]
  exact List.map_congr_left fun x _ => Int.mul_assoc ..
theorem gcdl_mul (k : Nat) : ∀ (l : List Int) (a : Nat), (l.map fun x => x * (k : Int)).foldl (fun g n => Nat.gcd g n.natAbs) (a * k) = l.foldl (fun g n => Nat.gcd g n.natAbs) a * k
  | [], _ => rfl
  | x :: l, a => by
    rw [List.map_cons, List.foldl_cons, List.foldl_cons, Int.natAbs_mul, Int.natAbs_natCast, Nat.gcd_mul_right]
    exact gcdl_mul k l _
theorem gcdL_cons (g : Nat) (r : List Int) : gcdL ((g : Int) :: r) = r.foldl (fun d n => Nat.gcd d n.natAbs) g := by
  unfold gcdL
  rw [List.foldl_cons, Int.natAbs_natCast, Nat.gcd_zero_left]
theorem sharedG_mul (k : Nat) : ∀ (m : List (List Int)) (g : Nat), sharedG (mulR m (k : Int)) (g * k) = sharedG m g * k
  | [], _ => rfl
  | r :: m, g => by
    show sharedG (mulR m k) (gcdL (((g * k : Nat) : Int) :: r.map fun x => x * (k : Int))) = sharedG m (gcdL ((g : Int) :: r)) * k
    rw [gcdL_cons, gcdl_mul, ← gcdL_cons]
    exact sharedG_mul k m _
theorem fdiv_mul {x g u : Int} (hg : 0 < g) (hu : 0 < u) : (x * u).fdiv (g * u) = x.fdiv g := by
  rw [Int.fdiv_eq_ediv_of_nonneg _ (Int.le_of_lt (Int.mul_pos hg hu)), Int.fdiv_eq_ediv_of_nonneg _ (Int.le_of_lt hg)]
  exact Int.mul_ediv_mul_of_pos_left _ _ hu
theorem nG_cross {m n : List (List Int)} {o u : Int} (o1 : 1 ≤ o) (u1 : 1 ≤ u) (h : mulR m u = mulR n o) : nG m o * u = nG n u * o := by
  have e1 := sharedG_mul u.toNat m o.toNat
  have e2 := sharedG_mul o.toNat n u.toNat
  rw [show ((u.toNat : Nat) : Int) = u by omega, h] at e1
  rw [show ((o.toNat : Nat) : Int) = o by omega, Nat.mul_comm] at e2
  have e3 := e1.symm.trans e2
  unfold nG
  have e4 : ((sharedG m o.toNat * u.toNat : Nat) : Int) = ((sharedG n u.toNat * o.toNat : Nat) : Int) := by rw [e3]
  rw [Int.natCast_mul, Int.natCast_mul, show ((u.toNat : Nat) : Int) = u by omega, show ((o.toNat : Nat) : Int) = o by omega] at e4
  exact e4
theorem nR_via {m : List (List Int)} {o u : Int} (o1 : 1 ≤ o) (u1 : 1 ≤ u) : nR m o = (mulR m u).map fun r => r.map fun x => x.fdiv (nG m o * u) := by
  unfold nR mulR
  rw [List.map_map]
  refine List.map_congr_left fun r _ => ?_
  rw [Function.comp, List.map_map]
  exact List.map_congr_left fun x _ => (fdiv_mul (nG_pos o1) (by omega)).symm
theorem norm_eq {m n : List (List Int)} {o u : Int} (o1 : 1 ≤ o) (u1 : 1 ≤ u) (h : mulR m u = mulR n o) : nR m o = nR n u ∧ nO m o = nO n u := by
  have c := nG_cross o1 u1 h
  refine ⟨by rw [nR_via o1 u1, nR_via u1 o1, h, c], ?_⟩
  unfold nO
  rw [← fdiv_mul (nG_pos (m := m) o1) (show 0 < u by omega), ← fdiv_mul (nG_pos (m := n) u1) (show 0 < o by omega), c, Int.mul_comm]
theorem foldg_dvd : ∀ (l : List Int) (a : Nat), l.foldl (fun g n => Nat.gcd g n.natAbs) a ∣ a ∧ ∀ x ∈ l, l.foldl (fun g n => Nat.gcd g n.natAbs) a ∣ x.natAbs
  | [], a => ⟨Nat.dvd_refl _, fun x h => by cases h⟩
  | y :: l, a => by
    obtain ⟨h1, h2⟩ := foldg_dvd l (Nat.gcd a y.natAbs)
    refine ⟨Nat.dvd_trans h1 (Nat.gcd_dvd_left _ _), fun x hx => ?_⟩
    rcases List.mem_cons.mp hx with rfl | hx
    · exact Nat.dvd_trans h1 (Nat.gcd_dvd_right _ _)
    · exact h2 x hx
theorem sharedG_cell : ∀ (m : List (List Int)) (g : Nat), ∀ r ∈ m, ∀ x ∈ r, sharedG m g ∣ x.natAbs
  | [], _, r, h => by cases h
  | q :: m, g, r, h => fun x hx => by
    show sharedG m (gcdL ((g : Int) :: q)) ∣ _
    rcases List.mem_cons.mp h with rfl | h
    · refine Nat.dvd_trans (sharedG_dvd _ _) ?_
      rw [gcdL_cons]
      exact (foldg_dvd r g).2 x hx
    · exact sharedG_cell m _ r h x hx
theorem fdiv_back {x g : Int} (hg : 0 < g) (h : g.natAbs ∣ x.natAbs) : x.fdiv g * g = x := by
  rw [Int.fdiv_eq_ediv_of_nonneg _ (Int.le_of_lt hg)]
  exact Int.ediv_mul_cancel (Int.natAbs_dvd_natAbs.mp h)
theorem nG_abs (m : List (List Int)) (o : Int) : (nG m o).natAbs = sharedG m o.toNat := Int.natAbs_natCast _
theorem norm_back {m : List (List Int)} {o : Int} (o1 : 1 ≤ o) : m = mulR (nR m o) (nG m o) ∧ o = nO m o * nG m o := by
  constructor
  · unfold mulR nR
    rw [List.map_map]
    conv => lhs; rw [← List.map_id m]
    refine List.map_congr_left fun r hr => ?_
    rw [Function.comp, List.map_map, id]
    conv => lhs; rw [← List.map_id r]
    refine List.map_congr_left fun x hx => ?_
    exact (fdiv_back (nG_pos o1) (by rw [nG_abs]; exact sharedG_cell m _ r hr x hx)).symm
  · unfold nO
    refine (fdiv_back (nG_pos o1) ?_).symm
    rw [nG_abs]
    have := sharedG_dvd m o.toNat
    rwa [show o.natAbs = o.toNat by omega]
theorem nO_pos {m : List (List Int)} {o : Int} (o1 : 1 ≤ o) : 1 ≤ nO m o := by
  have h := (norm_back (m := m) o1).2
  have g := nG_pos (m := m) o1
  rcases Int.lt_or_le (nO m o) 1 with c | c
  · have : nO m o * nG m o ≤ 0 := Int.mul_nonpos_of_nonpos_of_nonneg (by omega) (by omega)
    omega
  · exact c
theorem norm_inj {m n : List (List Int)} {o : Int} (o1 : 1 ≤ o) (h1 : nR m o = nR n o) (h2 : nO m o = nO n o) : m = n := by
  obtain ⟨a1, a2⟩ := norm_back (m := m) o1
  obtain ⟨b1, b2⟩ := norm_back (m := n) o1
  have g : nG m o = nG n o := by
    refine Int.eq_of_mul_eq_mul_left (show nO m o ≠ 0 by have := nO_pos (m := m) o1; omega) ?_
    rw [← a2, h2, ← b2]
  rw [a1, b1, h1, g]
theorem norm_lin {m : List (List Int)} {o : Int} (o1 : 1 ≤ o) (f : List (List Int) → List (List Int)) (hf : ∀ n k, f (mulR n k) = mulR (f n) k) : nR (f (nR m o)) (nO m o) = nR (f m) o ∧ nO (f (nR m o)) (nO m o) = nO (f m) o := by
  obtain ⟨a1, a2⟩ := norm_back (m := m) o1
  refine norm_eq (nO_pos o1) o1 ?_
  have e1 : f m = mulR (f (nR m o)) (nG m o) := (congrArg f a1).trans (hf _ _)
  rw [e1, mulR_mulR, Int.mul_comm (nG m o), ← a2]
theorem norm_mul {m : List (List Int)} {o t b : Int} (o1 : 1 ≤ o) (b1 : 1 ≤ b) : nR (mulR (nR m o) t) (nO m o * b) = nR (mulR m t) (o * b) ∧ nO (mulR (nR m o) t) (nO m o * b) = nO (mulR m t) (o * b) := by
  obtain ⟨a1, a2⟩ := norm_back (m := m) o1
  have p1 : 1 ≤ nO m o * b := Int.mul_pos (nO_pos o1) (by omega)
  have p2 : 1 ≤ o * b := Int.mul_pos (by omega) (by omega)
  refine norm_eq p1 p2 ?_
  have e1 : mulR m t = mulR (nR m o) (nG m o * t) := (congrArg (fun z => mulR z t) a1).trans (mulR_mulR ..)
  rw [e1, mulR_mulR, mulR_mulR]
  congr 1
  generalize nO m o = x at a2 ⊢
  generalize nG m o = g at a2 ⊢
  rw [a2]
  grind
theorem norm_times {m : List (List Int)} {o t : Int} (o1 : 1 ≤ o) (t1 : 1 ≤ t) : nR (mulR m t) (o * t) = nR m o ∧ nO (mulR m t) (o * t) = nO m o := by
  refine norm_eq (Int.mul_pos (by omega) (by omega)) o1 ?_
  rw [mulR_mulR, Int.mul_comm]
/-! ### what grows with the table -/
theorem getD_mul (r : List Int) (k : Int) (j : Nat) : (r.map fun x => x * k).getD j 0 = r.getD j 0 * k := by
  rw [List.getD_eq_getElem?_getD, List.getD_eq_getElem?_getD, List.getElem?_map]
  cases r[j]? <;> simp
theorem getDD_mul (m : List (List Int)) (k : Int) (i j : Nat) : ((mulR m k).getD i []).getD j 0 = (m.getD i []).getD j 0 * k := by
  have e : (mulR m k).getD i [] = (m.getD i []).map fun x => x * k := by
    unfold mulR
    rw [List.getD_eq_getElem?_getD, List.getD_eq_getElem?_getD, List.getElem?_map]
    cases m[i]? <;> simp
  rw [e]
  exact getD_mul _ k j
theorem cols_mul (w : Nat) (n : List (List Int)) (k : Int) : colsOf (mulR n k) w = mulR (colsOf n w) k := by
  unfold colsOf mulR
  rw [List.map_map]
  refine List.map_congr_left fun j _ => ?_
  rw [Function.comp, List.map_map, List.map_map]
  exact List.map_congr_left fun r _ => getD_mul r k j
theorem part_mul (up ac : List Int) (n : List (List Int)) (k : Int) : partOf (mulR n k) up ac = mulR (partOf n up ac) k := by
  unfold partOf
  conv => rhs; unfold mulR
  rw [List.map_map]
  refine List.map_congr_left fun i _ => ?_
  rw [Function.comp, List.map_map]
  exact List.map_congr_left fun j _ => getDD_mul n k _ _
theorem sum_mul (k : Int) : ∀ l : List Int, (l.map fun x => x * k).sum = l.sum * k
  | [] => by simp
  | a :: l => by rw [List.map_cons, List.sum_cons, List.sum_cons, sum_mul k l, Int.add_mul]
theorem tr_mul (n : List (List Int)) (k : Int) : trL (mulR n k) = trL n * k := by
  unfold trL
  rw [← sum_mul, List.map_map, show (mulR n k).length = n.length from List.length_map ..]
  congr 1
  exact List.map_congr_left fun i _ => getDD_mul n k i i
theorem dot_mul (k : Int) : ∀ a b : List Int, dotL (a.map fun x => x * k) b = dotL a b * k
  | [], _ => by simp [dotL]
  | _ :: _, [] => by simp [dotL]
  | a :: l, b :: r => by
    have := dot_mul k l r
    unfold dotL at *
    rw [List.map_cons, List.zipWith_cons_cons, List.zipWith_cons_cons, List.sum_cons, List.sum_cons, this]
    grind
theorem dot_comm : ∀ a b : List Int, dotL a b = dotL b a
  | [], [] => rfl
  | [], _ :: _ => by simp [dotL]
  | _ :: _, [] => by simp [dotL]
  | a :: l, b :: r => by
    have := dot_comm l r
    unfold dotL at *
    rw [List.zipWith_cons_cons, List.zipWith_cons_cons, List.sum_cons, List.sum_cons, this, Int.mul_comm]
theorem form_mul (n : List (List Int)) (k : Int) (l r : List Int) : formL (mulR n k) l r = formL n l r * k := by
  unfold formL
  rw [dot_comm, dot_comm l, ← dot_mul]
  congr 1
  unfold mulR
  rw [List.map_map, List.map_map]
  exact List.map_congr_left fun x _ => dot_mul k x r
theorem lo_norm {m : List (List Int)} {o : Int} (o1 : 1 ≤ o) (f : List (List Int) → Int) (hf : ∀ n k, f (mulR n k) = f n * k) : lo (f (nR m o)) (nO m o) = lo (f m) o := by
  obtain ⟨a1, a2⟩ := norm_back (m := m) o1
  have g := nG_pos (m := m) o1
  have p := nO_pos (m := m) o1
  have e1 : f m = f (nR m o) * nG m o := (congrArg f a1).trans (hf _ _)
  have e2 := lo_mul (t := f (nR m o)) (b := nO m o) (k := nG m o) (by omega) (by omega)
  rw [← a2, ← e1] at e2
  exact e2.symm
/-! ### grids of Ratios -/
theorem of_norm {rs : List (List (Int × Int))} {m : List (List Int)} {o : Int} (o1 : 1 ≤ o) (p0 : ∀ r ∈ rs, ∀ p ∈ r, 0 < p.2) (el : rs.length = m.length)
    (h : ∀ (i : Nat) r q, rs[i]? = some r → m[i]? = some q → r.length = q.length ∧ ∀ (j : Nat) p x, r[j]? = some p → q[j]? = some x → p.1 * o = x * p.2) :
    nR (ofM rs) (ofO rs : Nat) = nR m o ∧ nO (ofM rs) (ofO rs : Nat) = nO m o := by
  have L1 : 0 < ofO rs := by
    unfold ofO lcmL
    have : ∀ (l : List Nat) (a : Nat), 0 < a → (∀ x ∈ l, 0 < x) → 0 < l.foldl Nat.lcm a := by
      intro l
      induction l with
      | nil => intro a h _; exact h
      | cons x l ih => intro a h k; exact ih _ (Nat.lcm_pos h (k x List.mem_cons_self)) fun y hy => k y (List.mem_cons_of_mem _ hy)
    refine this _ 1 (by decide) fun x hx => ?_
    obtain ⟨p, hp, rfl⟩ := List.mem_map.mp hx
    obtain ⟨r, hr, hpr⟩ := List.mem_flatten.mp hp
    have := p0 r hr p hpr
    omega
  have dv : ∀ r ∈ rs, ∀ p ∈ r, p.2.natAbs ∣ ofO rs := fun r hr p hp => by
    unfold ofO lcmL
    have : ∀ (l : List Nat) (a : Nat), a ∣ l.foldl Nat.lcm a ∧ ∀ x ∈ l, x ∣ l.foldl Nat.lcm a := by
      intro l
      induction l with
      | nil => intro a; exact ⟨Nat.dvd_refl _, fun x h => by cases h⟩
      | cons y l ih =>
        intro a
        obtain ⟨h1, h2⟩ := ih (Nat.lcm a y)
        refine ⟨Nat.dvd_trans (Nat.dvd_lcm_left _ _) h1, fun x hx => ?_⟩
        rcases List.mem_cons.mp hx with rfl | hx
        · exact Nat.dvd_trans (Nat.dvd_lcm_right _ _) h1
        · exact h2 x hx
    exact (this _ 1).2 _ (List.mem_map_of_mem (List.mem_flatten.mpr ⟨r, hr, hp⟩))
  refine norm_eq (by omega) o1 ?_
  unfold ofM mulR
  rw [List.map_map]
  refine List.ext_getElem? fun i => ?_
  rw [List.getElem?_map, List.getElem?_map]
  by_cases c : i < rs.length
  · have c2 : i < m.length := by omega
    obtain ⟨l, hx⟩ := h i _ _ (List.getElem?_eq_getElem c) (List.getElem?_eq_getElem c2)
    rw [List.getElem?_eq_getElem c, List.getElem?_eq_getElem c2, Option.map_some, Option.map_some]
    congr 1
    rw [Function.comp, List.map_map]
    refine List.ext_getElem? fun j => ?_
    rw [List.getElem?_map, List.getElem?_map]
    by_cases d : j < rs[i].length
    · have d2 : j < m[i].length := by omega
      have e := hx j _ _ (List.getElem?_eq_getElem d) (List.getElem?_eq_getElem d2)
      have q0 := p0 _ (List.getElem_mem c) _ (List.getElem_mem d)
      have qd := dv _ (List.getElem_mem c) _ (List.getElem_mem d)
      rw [List.getElem?_eq_getElem d, List.getElem?_eq_getElem d2, Option.map_some, Option.map_some]
      congr 1
      rw [Function.comp]
      have b := fdiv_back (x := ((ofO rs : Nat) : Int)) q0 (by rw [Int.natAbs_natCast]; exact qd)
      conv => rhs; rw [← b]
      grind
    · rw [List.getElem?_eq_none (by omega), List.getElem?_eq_none (by omega)]; rfl
  · rw [List.getElem?_eq_none (by omega), List.getElem?_eq_none (by omega)]; rfl
end Fc
set_option Elab.async false
set_option linter.all false
set_option maxRecDepth 100000
set_option maxHeartbeats 4000000
set_option exponentiation.threshold 100000
namespace Fc
open PySem PySem.Spec PyProof.Rows L2 L2H
theorem GridAt.nl {A : Ad} {H H' : Hp} {g : Addr} {m : List (List Int)} {o : Int} (h : GridAt A H g m o) (k : NL H H') : GridAt A H' g m o := let ⟨dx, R, a, b⟩ := h; ⟨dx, R, k.ins a, b.nl k⟩
theorem GridAt.kp {A : Ad} {H H' : Hp} {g p l : Addr} {m : List (List Int)} {o : Int} (h : GridAt A H g m o) (pot : PotL H p l) (k : Keep p H H') : GridAt A H' g m o := h.nl (pot.nl k)
theorem bd5 {n : Nat} (h : n ≤ 5) : Bd 300 (n : Int) := Nat.lt_of_le_of_lt (by rw [Int.natAbs_natCast]; exact h) (by decide +kernel : 5 < 2 ^ 300)
/-- what is free behind draws was free before -/
theorem free_kp {H H1 : Hp} {p l D : Addr} (pot : PotL H1 p l) (k : Keep p H H1) (n : H1 D = none) : H D = none := by
  cases e : H D with
  | none => rfl
  | some o =>
    by_cases c : D = p
    · exact absurd c (pot.ne n).1
    · have := k D o e c
      rw [n] at this
      cases this
theorem kp_new {H H1 : Hp} {p D : Addr} {o : HO} (k : Keep p H H1) (n : H1 D = none) : Keep p H (upd H1 D o) := k.trans (Keep.new n)
section
variable {P : Program} {w : World} {K : PySem.W.Frag} {mg : Str → Option Value} {base : Heap} {A : Ad}
def spOutside : Sp := fun vs H Q _ => ∃ (p l : Addr) (n : Int), vs = [.ref p, .int n] ∧ PotL H p l ∧ 0 ≤ n ∧ ∀ x H', (x < 0 ∨ n ≤ x) → PotL H' p l → Keep p H H' → Q (.int x) H'
theorem ok_outside (T : Txt K mg A) : FnOk P w K mg base CX0 2 A.f_outside A.d_outside ["pot", "size"] spOutside := by
  refine T.F_outside.ok sc_outside (fun vs H Q E h => ?_) (fun cdv Ar outer s H vs Q E hr h => ?_)
  · obtain ⟨p, l, n, rfl, _⟩ := h
    rfl
  · obtain ⟨p, l, n, rfl, pot, n0, k⟩ := h
    refine ⟨_, (pss_cons (ps_set (i := 2) sc_outside.nd rfl (Or.inl rfl) (pe_call (ok_digit T) (hr.mono (by decide)) rfl T.g_digit T.F_digit.kp T.b_digit .nil pass0 (pa_cons (pv 0) (pa_cons pe_int pa_nil))))
      (pss_cons (ps_if (pt_cmpR op_eq (pe_call (ok_digit T) (hr.mono (by decide)) rfl T.g_digit T.F_digit.kp T.b_digit .nil pass0 (pa_cons (pv 0) (pa_cons pe_int pa_nil))) pe_int (nomark _))
      (pss_one (ps_ret (pe_op op_sub (pe_un un_neg pe_int) (pv 2)))) pss_nil)
      (pss_one (ps_ret (pe_op op_add (pv 1) (pv 2)))))), ?_⟩
    refine ⟨_, rfl, p, l, 3, rfl, pot, by decide, bd_of (by decide +kernel), fun d H1 d0 d1 p1 k1 => ?_⟩
    refine ⟨_, rfl, p, l, 2, rfl, p1, by decide, bd_of (by decide +kernel), fun e H2 e0 e1 p2 k2 => ⟨rfl, _, rfl, ?_⟩⟩
    refine ite2 (fun _ => ⟨_, rfl, _, rfl, _, _, rfl, rfl, k _ H2 (.inl (by show -1 - d < 0; omega)) p2 (k1.trans k2)⟩) (fun _ => ⟨_, rfl, _, rfl, _, _, rfl, rfl, k _ H2 (.inr (by show n ≤ n + d; omega)) p2 (k1.trans k2)⟩)
theorem five {d : Int} {f : Int → Option V} (h0 : 0 ≤ d) (h1 : d < 5) (a b c e g : V) (z0 : f 0 = some a) (z1 : f 1 = some b) (z2 : f 2 = some c) (z3 : f 3 = some e) (z4 : f 4 = some g) : f d = some a ∨ f d = some b ∨ f d = some c ∨ f d = some e ∨ f d = some g := by
  have : d = 0 ∨ d = 1 ∨ d = 2 ∨ d = 3 ∨ d = 4 := by omega
  rcases this with rfl | rfl | rfl | rfl | rfl
  · exact .inl z0
  · exact .inr (.inl z1)
  · exact .inr (.inr (.inl z2))
  · exact .inr (.inr (.inr (.inl z3)))
  · exact .inr (.inr (.inr (.inr z4)))
theorem five_int {d : Int} (h0 : 0 ≤ d) (h1 : d < 5) {a b c e g : Nat} (la : a ≤ 5 ∧ b ≤ 5 ∧ c ≤ 5 ∧ e ≤ 5 ∧ g ≤ 5) : ∃ n : Nat, n ≤ 5 ∧ atI [V.int (a : Nat), V.int (b : Nat), V.int (c : Nat), V.int (e : Nat), V.int (g : Nat)] d = some (V.int (n : Nat)) := by
  rcases five h0 h1 (f := fun d => atI [V.int (a : Nat), V.int (b : Nat), V.int (c : Nat), V.int (e : Nat), V.int (g : Nat)] d) _ _ _ _ _ rfl rfl rfl rfl rfl with z | z | z | z | z
  · exact ⟨a, by omega, z⟩
  · exact ⟨b, by omega, z⟩
  · exact ⟨c, by omega, z⟩
  · exact ⟨e, by omega, z⟩
  · exact ⟨g, by omega, z⟩
def spPlaces : Sp := fun vs H Q _ => ∃ (p l : Addr) (n : Nat), vs = [.ref p, .int (n : Nat)] ∧ PotL H p l ∧ n ≤ 5 ∧ ∀ D H' (ns : List Int), H D = none → H' D = some (.lst (ns.map V.int)) → ns.length ≤ 5 → (∀ x ∈ ns, 0 ≤ x ∧ x < n) → PotL H' p l → Keep p H H' → Q (.ref D) H'
theorem ok_places (T : Txt K mg A) : FnOk P w K mg base CX0 2 A.f_places A.d_places ["pot", "size"] spPlaces := by
  refine T.F_places.ok sc_places (fun vs H Q E h => ?_) (fun cdv Ar outer s H vs Q E hr h => ?_)
  · obtain ⟨p, l, n, rfl, _⟩ := h
    rfl
  · obtain ⟨p, l, n, rfl, pot, n5, k⟩ := h
    refine ⟨_, (C8.pss_cut (ps_set (i := 2) sc_places.nd rfl (Or.inl rfl) (pe_ix ix_list (pe_lst (pa_cons pe_int (pa_cons pe_int (pa_cons pe_int (pa_cons pe_int (pa_cons pe_int pa_nil)))))) (pe_call (ok_digit T) (hr.mono (by decide)) rfl T.g_digit T.F_digit.kp T.b_digit .nil pass0 (pa_cons (pv 0) (pa_cons pe_int pa_nil))) (fun _ _ => rfl)))
      (pss_cons (ps_if (pt_cmpR op_eq (pv 1) pe_int (nomark _))
      (pss_one (ps_ret (pe_lst pa_nil))) pss_nil)
      (pss_one (ps_ret (pe_lc (own := [("k", 3)]) (g := gName 3) (tt := tYes) rfl sc_places.nd (pi_range1 rfl T.n_range (pa_cons (pv 2) pa_nil)) (blkOk_by (own := [("k", 3)]) (N := N_places) (sc := defScope S_places) (by decide +kernel)) (fun _ _ _ _ _ => pg_name (i := 3) sc_places.nd rfl (Or.inl rfl)) (fun _ _ _ _ _ => pts_nil) (fun _ _ _ _ _ => (pe_op op_mod (pe_callTy call_int1 (by rfl) T.n_int (by decide +kernel) (pa_cons (pe_op op_add (pe_call (ok_digit T) (hr.mono (by decide)) rfl T.g_digit T.F_digit.kp T.b_digit .nil pass0 (pa_cons (pv 0) (pa_cons (pv 1) pa_nil))) (pv 3)) pa_nil)) (pv 1)))))))), ?_⟩
    refine ⟨fun sl H1 => (∃ many : Nat, many ≤ 5 ∧ sl = [some (.ref p), some (.int (n : Nat)), some (.int (many : Nat)), none]) ∧ PotL H1 p l ∧ Keep p H H1, ?_, ?_⟩
    · refine ⟨(by show 5 ≤ sizeLine; rw [sizeLine_eq]; omega), fun L nL => ?_⟩
      have pe := pot.ex (Ex.new (o := .lst [.int (2 : Int), .int 3, .int 1, .int 5, .int 0]) nL)
      refine ⟨_, rfl, p, l, 5, rfl, pe, by decide, bd_of (by decide +kernel), fun d H1 d0 d1 p1 k1 => ?_⟩
      obtain ⟨v, v5, hv⟩ := five_int d0 d1 (a := 2) (b := 3) (c := 1) (e := 5) (g := 0) (by decide)
      exact ⟨L, _, d, _, rfl, rfl, SqL.of (k1 _ _ upd_same (pot.ne nL).1), hv, ⟨v, v5, rfl⟩, p1, (Keep.new nL).trans k1⟩
    rintro sl H1 ⟨⟨many, m5, rfl⟩, p1, k1⟩
    by_cases c : n = 0
    · subst c
      exact ⟨_, rfl, rfl, _, rfl, iteT ⟨(by show 0 ≤ sizeLine; exact Nat.zero_le _), fun D nD => k D _ [] (free_kp p1 k1 nD) upd_same (by decide) (fun x hx => by cases hx) (p1.ex (Ex.new nD)) (kp_new k1 nD)⟩⟩
    · refine ⟨_, rfl, rfl, _, rfl, stepF (by omega) ?_⟩
      dsimp only [tNext]
      refine uRet (lcRP (lo := 0) (n := many) (fun _ x => 0 ≤ x ∧ x < (n : Int)) (by omega) p1 (fun P h => ⟨_, rfl, (many : Int), rfl, by omega, by omega, by simpa using h⟩) (fun i H2 D hi p2 k2 hD Q2 kq => ?_) (fun D H2 xs nD hD lx hx p2 k2 => ?_))
      · refine ⟨rfl, _, rfl, _, rfl, p, l, (n : Int), rfl, p2, by omega, bd5 n5, fun d H3 d0 d1 p3 k3 => ⟨_, rfl, _, _, rfl, rfl, .inl ⟨_, rfl, _, rfl, _, _, rfl, rfl, by omega, kq _ H3 ⟨?_, ?_⟩ p3 k3⟩⟩⟩
        · exact Int.emod_nonneg _ (by omega)
        · exact Int.emod_lt_of_pos _ (by omega)
      · refine k D H2 xs (free_kp p1 k1 nD) hD (by omega) (fun x hx' => ?_) p2 (k1.trans k2)
        obtain ⟨i, hi⟩ := List.mem_iff_getElem?.mp hx'
        exact hx i x hi
end
end Fc
set_option Elab.async false
set_option linter.all false
set_option maxRecDepth 100000
set_option maxHeartbeats 4000000
set_option exponentiation.threshold 100000
namespace Fc
open PySem PySem.Spec PyProof.Rows L2 L2H
section
variable {K : PySem.W.Frag} {C : Addr} {wi : TI} {g : TG} {te : TE} {ws : List Nat} {σ : L2.St} {H : Hp} {Q : VK} {xs : List V}
/-- a row of new Ratios -/
theorem lcRatRow (ps : Nat → Int × Int) (hw : ∀ R, (∀ i x H' D, xs[i]? = some x → LcStep R H D i H' (LcBody g te ws σ x H')) → LcEnd R H xs.length Q → tLc wi g tYes te ws σ H Q)
    (hs : ∀ i x H', xs[i]? = some x → Ex H H' → ∀ Q' : VK, (∀ c H2, Ex H' H2 → H' c = none → RatAt C H2 c (ps i) → Q' (.ref c) H2) → LcBody g te ws σ x H' Q')
    (k : ∀ D H2 (cs : List Addr), H D = none → Ex H H2 → H2 D = some (.lst (cs.map V.ref)) → cs.length = xs.length → (∀ (j : Nat) c, cs[j]? = some c → H c = none ∧ RatAt C H2 c (ps j)) → Q (.ref D) H2) : tLc wi g tYes te ws σ H Q := by
  refine hw (fun i v H' => ∃ c, v = V.ref c ∧ H c = none ∧ RatAt C H' c (ps i)) (fun i x H' D hx ex hD Q' kq => hs i x H' hx ex Q' fun c H2 e n r => kq _ _ e fun H3 kp => ⟨c, rfl, ex.free n, ?_⟩) (fun D H2 vs nD ex e1 e2 e3 => ?_)
  · obtain ⟨dx, h⟩ := r
    obtain ⟨o, ho⟩ := hD
    exact ⟨dx, kp _ _ h (ne_of_none ho n).symm⟩
  · obtain ⟨cs, rfl⟩ := refs_of fun i v e => let ⟨c, q, _⟩ := e3 i v e; ⟨c, q⟩
    refine k D H2 cs nD ex e1 (by simpa using e2) fun j c hc => ?_
    obtain ⟨c', e, n, r⟩ := e3 j (.ref c) (by rw [List.getElem?_map, hc]; rfl)
    cases e
    exact ⟨n, r⟩
end
/-- rows of Ratios that are new -/
def RatRowsN (A : Ad) (H0 H : Hp) (a : Addr) (rs : List (List (Int × Int))) : Prop := ∃ (as : List Addr) (css : List (List Addr)), H a = some (.lst (as.map V.ref)) ∧ as.length = rs.length ∧ css.length = rs.length ∧
  ∀ (i : Nat) b cs r, as[i]? = some b → css[i]? = some cs → rs[i]? = some r → H0 b = none ∧ H b = some (.lst (cs.map V.ref)) ∧ cs.length = r.length ∧ ∀ (j : Nat) c p, cs[j]? = some c → r[j]? = some p → RatAt A.C H c p
theorem RatRowsN.rows {A : Ad} {H0 H : Hp} {a : Addr} {rs : List (List (Int × Int))} (h : RatRowsN A H0 H a rs) : RatRows A H a rs :=
  let ⟨as, css, a, b, c, d⟩ := h; ⟨as, css, a, b, c, fun i x cs r e1 e2 e3 => (d i x cs r e1 e2 e3).2⟩
section
variable {K : PySem.W.Frag} {A : Ad} {wi : TI} {g : TG} {te : TE} {ws : List Nat} {σ : L2.St} {H : Hp} {Q : VK} {xs : List V}
theorem lcRatRows (rs : List (List (Int × Int))) (el : xs.length = rs.length) (hw : ∀ R, (∀ i x H' D, xs[i]? = some x → LcStep R H D i H' (LcBody g te ws σ x H')) → LcEnd R H xs.length Q → tLc wi g tYes te ws σ H Q)
    (hs : ∀ (i : Nat) x (r : List (Int × Int)) H', xs[i]? = some x → rs[i]? = some r → Ex H H' → ∀ Q' : VK, (∀ b H2 (cs : List Addr), Ex H' H2 → H' b = none → H2 b = some (.lst (cs.map V.ref)) → cs.length = r.length →
      (∀ (j : Nat) c p, cs[j]? = some c → r[j]? = some p → H' c = none ∧ RatAt A.C H2 c p) → Q' (.ref b) H2) → LcBody g te ws σ x H' Q')
    (k : ∀ D H2, H D = none → Ex H H2 → RatRowsN A H H2 D rs → Q (.ref D) H2) : tLc wi g tYes te ws σ H Q := by
  let Pr : Hp → Nat → Addr → List Addr → Prop := fun H' i b cs => ∀ r : List (Int × Int), rs[i]? = some r → H b = none ∧ H' b = some (.lst (cs.map V.ref)) ∧ cs.length = r.length ∧ ∀ (j : Nat) c p, cs[j]? = some c → r[j]? = some p → RatAt A.C H' c p
  refine hw (fun i v H' => ∃ b cs, v = V.ref b ∧ Pr H' i b cs) (fun i x H' D hx ex hD Q' kq => ?_) (fun D H2 vs nD ex e1 e2 e3 => ?_)
  · have hi : i < rs.length := by have := (List.getElem?_eq_some_iff.mp hx).1; omega
    refine hs i x _ H' hx (List.getElem?_eq_getElem hi) ex Q' fun b H2 cs e n hb lc hr => kq _ _ e fun H3 kp => ⟨b, cs, rfl, fun r er => ?_⟩
    rw [List.getElem?_eq_getElem hi] at er
    cases er
    obtain ⟨o, ho⟩ := hD
    refine ⟨ex.free n, kp _ _ hb (ne_of_none ho n).symm, lc, fun j c p h1 h2 => ?_⟩
    obtain ⟨nc, dx, hc⟩ := hr j c p h1 h2
    exact ⟨dx, kp _ _ hc (ne_of_none ho nc).symm⟩
  · obtain ⟨as, css, rfl, lc, hp⟩ := pick_all (P := Pr H2) (n := 0) fun i v hv => by rw [Nat.zero_add]; exact e3 i v hv
    refine k D H2 nD ex ⟨as, css, e1, by rw [← el, ← e2, List.length_map], by rw [lc, ← el, ← e2, List.length_map], fun i b cs r h1 h2 h3 => ?_⟩
    have := hp i b cs h1 h2
    rw [Nat.zero_add] at this
    exact this r h3
/-- rows of whole numbers, new lists all -/
def RowsNw (H0 H : Hp) (D : Addr) (m : List (List Int)) : Prop := ∃ as : List Addr, H D = some (.lst (as.map V.ref)) ∧ as.length = m.length ∧ (∀ b ∈ as, H0 b = none) ∧ ∀ (i : Nat) a r, as[i]? = some a → m[i]? = some r → H a = some (.lst (r.map V.int))
theorem RowsNw.rows {H0 H : Hp} {D : Addr} {m : List (List Int)} (h : RowsNw H0 H D m) : RowsL H D m := let ⟨as, a, b, _, d⟩ := h; ⟨as, a, b, d⟩
end
section
variable {P : Program} {w : World} {K : PySem.W.Frag} {mg : Str → Option Value} {base : Heap} {A : Ad}
structure Tab (m : List (List Int)) (o : Int) : Prop where
  rc : Rect m
  l5 : m.length ≤ 5
  w5 : wideOf m ≤ 5
  b : ∀ r ∈ m, ∀ x ∈ r, Bd 31 x
  o1 : 1 ≤ o
  bo : Bd 31 o
theorem rd_mkR {A : Ad} {t b : Int} {H : Hp} {R : Addr → Hp → Prop} {E : XK} (hb : b ≠ 0) (bb : Bd 8900 b) (k : ∀ x H', Ex H H' → H x = none → RatAt A.C H' x (lo t b) → R x H') :
    ∀ x dx, H x = none → H dx = none → dx ≠ x → spInit A [.ref x, .int t, .int b] (upd (upd H dx (.own x)) x (.ins A.C dx [])) (fun v H2 => v = .non ∧ R x H2) E :=
  fun x dx nx nd ne => ⟨x, dx, t, b, rfl, upd_same, fun z => absurd z hb, fun _ => ⟨bb, fun H' r kp => ⟨rfl, k x H' (Same.made nx nd kp) nx r⟩⟩⟩
theorem rd_lis {T : Nat} {A : Ad} {g a : Addr} {m : List (List Int)} {o : Int} {H : Hp} {Q : VK} {E : XK} (hg : GridAt A H g (nR m o) (nO m o)) (hm : RowsL H a m) (rc : Rect m) (o1 : 1 ≤ o) (bo : Bd 900 o) (k : ∀ H', Ex H H' → Q (.bl true) H') :
    spLis A [.ref g, .ref a, .int o] H Q E := ⟨g, a, m, o, rfl, hg, hm, rc, o1, bo, k⟩
def spMade (A : Ad) : Sp := fun vs H Q _ => ∃ (p l a : Addr) (m : List (List Int)) (o : Int), vs = [.ref p, .ref a, .int o] ∧ PotL H p l ∧ RowsL H a m ∧ Tab m o ∧ ∀ H', PotL H' p l → Keep p H H' → Q (.bl true) H'
theorem ok_made (T : Txt K mg A) : FnOk P w K mg base CX0 7 A.f_made A.d_made ["pot", "rows", "over"] (spMade A) := by
  refine T.F_made.ok sc_made (fun vs H Q E h => ?_) (fun cdv Ar outer s H vs Q E hr h => ?_)
  · obtain ⟨p, l, a, m, o, rfl, _⟩ := h
    rfl
  · obtain ⟨p, l, a, m, o, rfl, pot, hm, tb, k⟩ := h
    obtain ⟨cm, cmo⟩ := T.p_gof
    obtain ⟨dg, vdg, bg1⟩ := T.b1_ginit
    obtain ⟨ds, vds, b2⟩ := T.b_init2
    refine ⟨_, (C8.pss_cut (ps_set (i := 3) sc_made.nd rfl (Or.inr rfl) (pe_op op_add pe_int (pe_call (ok_digit T) (hr.mono (by decide)) rfl T.g_digit T.F_digit.kp T.b_digit .nil pass0 (pa_cons (pv 0) (pa_cons pe_int pa_nil)))))
      (C8.pss_cut (ps_setLc (i := 4) (own := [("row", 6)]) (g := gName 6) (tt := tYes) rfl sc_made.nd rfl rfl (sw_true rfl rfl rfl (by decide +kernel)) (pi_list (pv 1)) (blkOk_by (own := [("row", 6)]) (N := N_made) (sc := defScope S_made) (by decide +kernel)) (fun _ _ _ _ _ => pg_name (i := 6) sc_made.nd rfl (Or.inl rfl)) (fun _ _ _ _ _ => pts_nil) (fun _ _ _ _ _ => (pe_lc (own := [("cell", 5)]) (g := gName 5) (wi := iList K (tVar 6)) (tt := tYes) rfl sc_made.nd (pi_list (pv 6)) (blkOk_by (own := [("cell", 5)]) (N := N_made) (by rfl)) (fun _ _ _ _ _ => pg_name (i := 5) sc_made.nd rfl (Or.inl rfl)) (fun _ _ _ _ _ => pts_nil) (fun _ _ _ _ _ => (pe_op op_mulW (pv 5) (pv 3))))))
      (C8.pss_cut (ps_set (i := 7) sc_made.nd rfl (Or.inl rfl) (pe_call (ok_copy T) (hr.mono (by decide)) rfl T.g_copy T.F_copy.kp T.b_copy .nil pass0 (pa_cons (pv 4) pa_nil)))
      (C8.pss_cut (ps_set (i := 8) sc_made.nd rfl (Or.inl rfl) (pe_make T.mk_Gr (ok_ginit T) (hr.mono (by decide)) rfl T.g_Grid T.b_ginit .nil passLN (pa_cons (pv 4) (pa_cons (pe_op op_mulW (pv 2) (pv 3)) pa_nil))))
      (C8.pss_cut (ps_if (PW.pt (pw_or (pt_cmpR (op_neD hr.units) (pv 4) (pv 7) (nomark _)) (pw_or1 (pt_not (pt_val (pe_call (ok_lis T) (hr.mono (by decide)) rfl T.g_lis T.F_lis.kp T.b_lis .nil pass0 (pa_cons (pv 8) (pa_cons (pv 1) (pa_cons (pv 2) pa_nil)))))))))
      (pss_one (ps_ret pe_bl)) pss_nil)
      (C8.pss_cut (ps_for PassesOwn.never rfl (pi_list (pv 4)) (pg_name (i := 6) sc_made.nd rfl (Or.inl rfl))
      (pss_one (ps_expr (pe_bm PySem.F.plainAttrs_list PySem.F.slot_list_append PySem.F.type_list_append mt_append (pv 6) (pa_cons pe_int pa_nil)))))
      (C8.pss_cut (ps_expr (pe_bm PySem.F.plainAttrs_list PySem.F.slot_list_append PySem.F.type_list_append mt_append (pv 4) (pa_cons (pe_lst (pa_cons pe_int pa_nil)) pa_nil)))
      (C8.pss_cut (ps_set (i := 9) sc_made.nd rfl (Or.inl rfl) (pe_callTy call_tuple_of (by rfl) T.n_tuple (by decide +kernel) (pa_cons (pe_lc (own := [("row", 6)]) (g := gName 6) (tt := tYes) rfl sc_made.nd (pi_list (pv 1)) (blkOk_by (own := [("row", 6)]) (N := N_made) (sc := defScope S_made) (by decide +kernel)) (fun _ _ _ _ _ => pg_name (i := 6) sc_made.nd rfl (Or.inl rfl)) (fun _ _ _ _ _ => pts_nil) (fun _ _ _ _ _ => (pe_callTy (T := "tuple") (r := rTupOf K) call_tupK (by rfl) T.n_tuple (by decide +kernel) (pa_cons (pv 6) pa_nil)))) pa_nil)))
      (C8.pss_cut (ps_if (PW.pt (pw_or (pt_not (pt_val (pe_call (ok_lis T) (hr.mono (by decide)) rfl T.g_lis T.F_lis.kp T.b_lis .nil pass0 (pa_cons (pv 8) (pa_cons (pv 1) (pa_cons (pv 2) pa_nil)))))) (pw_or1 (pt_not (pt_val (pe_call (ok_lis T) (hr.mono (by decide)) rfl T.g_lis T.F_lis.kp T.b_lis .nil pass0 (pa_cons (pe_make T.mk_Gr (ok_ginit T) (hr.mono (by decide)) rfl T.g_Grid T.b_ginit .nil passLN (pa_cons (pv 9) (pa_cons (pv 2) pa_nil))) (pa_cons (pv 1) (pa_cons (pv 2) pa_nil)))))))))
      (pss_one (ps_ret pe_bl)) pss_nil)
      (C8.pss_cut (ps_if (pt_not (pt_val (pe_call (ok_lis T) (hr.mono (by decide)) rfl T.g_lis T.F_lis.kp T.b_lis .nil pass0 (pa_cons (pe_make T.mk_Gr (ok_ginit T) (hr.mono (by decide)) rfl T.g_Grid bg1 vdg passLN (pa_cons (pv 1) pa_nil)) (pa_cons (pv 1) (pa_cons pe_int pa_nil))))))
      (pss_one (ps_ret pe_bl)) pss_nil)
      (C8.pss_cut (ps_setLc (i := 10) (own := [("row", 6)]) (g := gName 6) (tt := tYes) rfl sc_made.nd rfl rfl (sw_true rfl rfl rfl (by decide +kernel)) (pi_list (pv 1)) (blkOk_by (own := [("row", 6)]) (N := N_made) (sc := defScope S_made) (by decide +kernel)) (fun _ _ _ _ _ => pg_name (i := 6) sc_made.nd rfl (Or.inl rfl)) (fun _ _ _ _ _ => pts_nil) (fun _ _ _ _ _ => (pe_lc (own := [("cell", 5)]) (g := gName 5) (wi := iList K (tVar 6)) (tt := tYes) rfl sc_made.nd (pi_list (pv 6)) (blkOk_by (own := [("cell", 5)]) (N := N_made) (by rfl)) (fun _ _ _ _ _ => pg_name (i := 5) sc_made.nd rfl (Or.inl rfl)) (fun _ _ _ _ _ => pts_nil) (fun _ _ _ _ _ => (pe_make T.mkC (ok_init T) (hr.mono (by decide)) rfl T.g_Ratio T.b_init3 .nil passL (pa_cons (pv 5) (pa_cons (pv 2) pa_nil)))))))
      (C8.pss_cut (ps_set (i := 11) sc_made.nd rfl (Or.inl rfl) (ClX.pe_cmeth (pe_glob (v := .ref A.Gr) rfl T.g_Grid rfl) T.crGr cmo (fnR_of (ok_gof T) T.b_gof) (hr.mono (by decide)) passLN (pa_cons (pv 10) pa_nil)))
      (C8.pss_cut (ps_if (PW.pt (pw_or (pt_cmpR op_notBl (pe_cmpR (op_eqR T.subG T.m_geq.at_ T.m_geq.fn (ok_geq T) (hr.mono (by decide)) T.b_geq pass0) (pv 8) (pv 11) (nomark _)) pe_bl (nomark _)) (pw_or1 (pt_cmpR op_notBl (pe_cmpR (op_eqR T.subG T.m_geq.at_ T.m_geq.fn (ok_geq T) (hr.mono (by decide)) T.b_geq pass0) (pv 11) (pv 8) (nomark _)) pe_bl (nomark _)))))
      (pss_one (ps_ret pe_bl)) pss_nil)
      (C8.pss_cut (ps_for PassesOwn.never rfl (pi_list (pv 10)) (pg_name (i := 6) sc_made.nd rfl (Or.inl rfl))
      (pss_one (ps_expr (pe_bm PySem.F.plainAttrs_list PySem.F.slot_list_append PySem.F.type_list_append mt_append (pv 6) (pa_cons (pe_make T.mkC (ok_init T) (hr.mono (by decide)) rfl T.g_Ratio b2 vds passL (pa_cons pe_int pa_nil)) pa_nil)))))
      (pss_one (ps_ret (pe_call (ok_lis T) (hr.mono (by decide)) rfl T.g_lis T.F_lis.kp T.b_lis .nil pass0 (pa_cons (pv 11) (pa_cons (pv 1) (pa_cons (pv 2) pa_nil)))))))))))))))))))), ?_⟩
    have rc := tb.rc
    have o1 := tb.o1
    refine ⟨fun sl H1 => ∃ t : Int, 1 ≤ t ∧ t ≤ 6 ∧ sl = [some (.ref p), some (.ref a), some (.int o), some (.int t), none, none, none, none, none, none, none, none] ∧ PotL H1 p l ∧ Keep p H H1, ?_, ?_⟩
    · exact ⟨_, rfl, p, l, 6, rfl, pot, by decide, bd_of (by decide +kernel), fun d H1 d0 d1 p1 k1 => ⟨_, _, rfl, rfl, 1 + d, by omega, by omega, rfl, p1, k1⟩⟩
    rintro sl H1 ⟨t, t1, t6, rfl, p1, k1⟩
    have hm1 := hm.kp pot k1
    have bt : Bd 31 t := by unfold Bd; have : (64 : Nat) < 2 ^ 31 := by decide
                            omega
    have ot : 1 ≤ o * t := Int.mul_pos (by omega) (by omega)
    have bot : Bd 900 (o * t) := (tb.bo.mul bt).mono (by decide)
    have rct : Rect (mulR m t) := rc.map fun r => List.length_map ..
    obtain ⟨nt1, nt2⟩ := norm_times (m := m) o1 t1
    -- handed
    refine ⟨fun sl H2 => ∃ D o5 o6, sl = [some (.ref p), some (.ref a), some (.int o), some (.int t), some (.ref D), o5, o6, none, none, none, none, none] ∧ Ex H1 H2 ∧ H1 D = none ∧ RowsNw H1 H2 D (mulR m t), ?_, ?_⟩
    · obtain ⟨as, h1, h2, h3⟩ := id hm1
      refine uAsg (lcL (fun i v H' => RowR .lst (mulR m t) i v H' ∧ ∃ b, v = V.ref b ∧ H1 b = none) (fun Q q => ⟨_, rfl, q⟩) (SqL.of h1) (by rw [List.length_map, h2]; exact int64 rc.l) (fun i v H2 D hv ex hD Q2 kq => ?_) (fun D H2 vs nD ex e1 e2 e3 => ?_))
      · rw [List.getElem?_map] at hv
        obtain ⟨b, hb, rfl⟩ := Option.map_eq_some_iff.mp hv
        have hi : i < m.length := by have := (List.getElem?_eq_some_iff.mp hb).1; omega
        have hrow := ex _ _ (h3 i b _ hb (List.getElem?_eq_getElem hi))
        refine ⟨rfl, lcInts (fun n => n * t) (fun R => lcL R (fun Q q => ⟨_, rfl, q⟩) (SqL.of hrow) (by rw [List.length_map, rc.r _ (List.getElem_mem hi)]; exact int64 rc.w)) (fun n H5 hn e5 Q5 q => ⟨rfl, _, rfl, _, rfl, _, _, rfl, rfl, Bd.w (tb.b _ (List.getElem_mem hi) n hn) bt, q⟩) (fun D2 H5 n2 e5 hD2 => ?_)⟩
        obtain ⟨ob, hob⟩ := hD
        exact kq _ _ e5 fun H6 kp => ⟨RowR.fix (r := m[i].map fun n => n * t) (by unfold mulR; rw [List.getElem?_map, List.getElem?_eq_getElem hi]; rfl) hD2 (ne_of_none hob n2).symm H6 kp, D2, rfl, ex.free n2⟩
      · obtain ⟨bs, rfl, lb, hb⟩ := RowR.all (m := mulR m t) (by rw [e2, List.length_map, h2]; unfold mulR; rw [List.length_map]) fun i v q => (e3 i v q).1
        refine ⟨D, _, _, rfl, ex, nD, bs, e1, lb, fun b hb' => ?_, hb⟩
        obtain ⟨i, hi⟩ := List.mem_iff_getElem?.mp hb'
        obtain ⟨c, e, n⟩ := (e3 i (.ref b) (by rw [List.getElem?_map, hi]; rfl)).2
        cases e
        exact n
    rintro sl H2 ⟨D, o5, o6, rfl, e2, nD, as, hD, las, nas, has⟩
    have hh2 : RowsL H2 D (mulR m t) := ⟨as, hD, las, has⟩
    refine ⟨fun sl H3 => ∃ Kp, sl = [some (.ref p), some (.ref a), some (.int o), some (.int t), some (.ref D), o5, o6, some (.ref Kp), none, none, none, none] ∧ Ex H2 H3 ∧ RowsL H3 Kp (mulR m t), ?_, ?_⟩
    · exact ⟨_, rfl, D, mulR m t, rfl, hh2, by have := rct.l; omega, fun Kp H3 ex _ hn => ⟨Kp, rfl, ex, hn.rows⟩⟩
    rintro sl H3 ⟨Kp, rfl, e3, hk3⟩
    have hh3 := hh2.ex e3
    refine ⟨fun sl H4 => ∃ g, sl = [some (.ref p), some (.ref a), some (.int o), some (.int t), some (.ref D), o5, o6, some (.ref Kp), some (.ref g), none, none, none] ∧ Ex H3 H4 ∧ GridAt A H4 g (nR m o) (nO m o), ?_, ?_⟩
    · exact ⟨_, rfl, _, rfl, _, rfl, _, _, rfl, rfl, tb.bo.w bt, rd_grid hh3.matv rct ot (bot.mono (by decide)) fun g H4 ex _ gx => ⟨g, rfl, ex, by rw [← nt1, ← nt2]; exact gx⟩⟩
    rintro sl H4 ⟨g, rfl, e4, hg4⟩
    have E4 : Ex H1 H4 := e2.trans (e3.trans e4)
    refine ⟨fun sl H5 => sl = [some (.ref p), some (.ref a), some (.int o), some (.int t), some (.ref D), o5, o6, some (.ref Kp), some (.ref g), none, none, none] ∧ Ex H4 H5, ?_, ?_⟩
    · refine ⟨_, rfl, _, rfl, _, _, (hh3.ex e4).dp, (hk3.ex e4).dp, shapedL _, shapedL _, _, rfl, ?_⟩
      rw [eqv_rowsL, decide_eq_true rfl]
      exact iteF ⟨_, rfl, _, rfl, _, rfl, g, a, m, o, rfl, hg4, hm1.ex E4, rc, o1, tb.bo.mono (by decide), fun H5 ex => ⟨_, rfl, iteF ⟨rfl, ex⟩⟩⟩
    rintro sl H5 ⟨rfl, e5⟩
    have E5 := E4.trans e5
    have hD5 := (e3.trans (e4.trans e5)) _ _ hD
    have ned : ∀ b ∈ as, D ≠ b := fun b hb z => by
      obtain ⟨i, hi⟩ := List.mem_iff_getElem?.mp hb
      have hi2 : i < (mulR m t).length := by have := (List.getElem?_eq_some_iff.mp hi).1; omega
      have := has i b _ hi (List.getElem?_eq_getElem hi2)
      rw [← z, hD] at this
      cases as with
      | nil => cases hb
      | cons c cs =>
        match (mulR m t)[i], this with
        | [], this => cases this
        | _ :: _, this => cases this
    refine ⟨fun sl H6 => (∃ o6, sl = [some (.ref p), some (.ref a), some (.int o), some (.int t), some (.ref D), o5, o6, some (.ref Kp), some (.ref g), none, none, none]) ∧ Ex H1 H6 ∧ NL H5 H6 ∧ H6 D = some (.lst (as.map V.ref)), ?_, ?_⟩
    · refine forL (xs := as.map V.ref) (fun i sl H6 => (∃ o6, sl = [some (.ref p), some (.ref a), some (.int o), some (.int t), some (.ref D), o5, o6, some (.ref Kp), some (.ref g), none, none, none]) ∧ Ex H1 H6 ∧ NL H5 H6 ∧ H6 D = some (.lst (as.map V.ref)) ∧ ∀ b ∈ as, ∃ ys, H6 b = some (.lst ys) ∧ ys.length ≤ 100 + i)
        (fun Q q => ⟨_, rfl, q⟩) (SqL.of hD5) ⟨⟨_, rfl⟩, E5, NL.refl, hD5, fun b hb => ?_⟩ (fun i sl H6 q => SqL.of q.2.2.2.1) (fun i v sl H6 hv q => ?_) (fun sl H6 q => ⟨q.1, q.2.1, q.2.2.1, q.2.2.2.1⟩)
      · obtain ⟨i, hi⟩ := List.mem_iff_getElem?.mp hb
        have hi2 : i < (mulR m t).length := by have := (List.getElem?_eq_some_iff.mp hi).1; omega
        refine ⟨_, (e3.trans (e4.trans e5)) _ _ (has i b _ hi (List.getElem?_eq_getElem hi2)), ?_⟩
        rw [List.length_map, rct.r _ (List.getElem_mem hi2)]
        have := rct.w
        omega
      · obtain ⟨⟨q6, rfl⟩, ex, nl, hD6, hb6⟩ := q
        rw [List.getElem?_map] at hv
        obtain ⟨b, hb, rfl⟩ := Option.map_eq_some_iff.mp hv
        have hi : i < as.length := (List.getElem?_eq_some_iff.mp hb).1
        have l64 := rct.l
        have hba := List.mem_of_getElem? hb
        obtain ⟨ys, hys, lys⟩ := hb6 b hba
        refine ⟨_, rfl, .inl ⟨rfl, _, SqL.of hys⟩, b, ys, .int 7, rfl, rfl, hys, by rw [sizeLine_eq]; omega, ⟨_, rfl⟩, fun c oc hc => by rw [upd_ne (ne_of_none hc (nas b hba))]; exact ex _ _ hc, nl.trans (NL.put hys), by rw [upd_ne (ned b hba)]; exact hD6, fun c hc => ?_⟩
        by_cases cb : c = b
        · subst cb
          exact ⟨_, upd_same, by rw [List.length_append]; show ys.length + 1 ≤ _; omega⟩
        · obtain ⟨zs, hzs, lzs⟩ := hb6 c hc
          exact ⟨zs, by rw [upd_ne cb]; exact hzs, by omega⟩
    rintro sl H6 ⟨⟨q6, rfl⟩, E6, nl6, hD6⟩
    refine ⟨fun sl H7 => sl = [some (.ref p), some (.ref a), some (.int o), some (.int t), some (.ref D), o5, q6, some (.ref Kp), some (.ref g), none, none, none] ∧ Ex H1 H7 ∧ NL H5 H7, ?_, ?_⟩
    · refine ⟨_, rfl, .inl ⟨rfl, _, SqL.of hD6⟩, (by show 1 ≤ sizeLine; rw [sizeLine_eq]; omega), fun L nL => ?_⟩
      have e7 := Ex.new (o := .lst [.int (1 : Int)]) nL
      have l64 := rct.l
      refine ⟨D, _, _, rfl, rfl, e7 _ _ hD6, by rw [List.length_map, sizeLine_eq]; omega, rfl, fun c oc hc => by rw [upd_ne (ne_of_none hc nD)]; exact e7 _ _ (E6 _ _ hc), (nl6.trans (.of e7)).trans (NL.put (e7 _ _ hD6))⟩
    rintro sl H7 ⟨rfl, E7, nl7⟩
    have hm7 := hm1.ex E7
    have hg7 := (hg4.ex e5).nl nl7
    refine ⟨fun sl H8 => ∃ F o6, sl = [some (.ref p), some (.ref a), some (.int o), some (.int t), some (.ref D), o5, o6, some (.ref Kp), some (.ref g), some (.ref F), none, none] ∧ Ex H7 H8 ∧ RowsT H8 F m, ?_, ?_⟩
    · obtain ⟨as7, h1, h2, h3⟩ := id hm7
      refine uAsg (uCB (uCons (lcL (RowR .tup m) (fun Q q => ⟨_, rfl, q⟩) (SqL.of h1) (by rw [List.length_map, h2]; exact int64 rc.l) (fun i v H2 D hv ex hD Q2 kq => ?_) (fun D H2 vs nD ex e1 e2 e3 => ?_))))
      · rw [List.getElem?_map] at hv
        obtain ⟨b, hb, rfl⟩ := Option.map_eq_some_iff.mp hv
        have hi : i < m.length := by have := (List.getElem?_eq_some_iff.mp hb).1; omega
        have hrow := ex _ _ (h3 i b _ hb (List.getElem?_eq_getElem hi))
        refine ⟨rfl, _, rfl, b, _, rfl, .inl ⟨SqL.of hrow, fun R nR' => ?_⟩⟩
        obtain ⟨ob, hob⟩ := hD
        exact kq _ _ (Ex.new nR') (RowR.fix (List.getElem?_eq_getElem hi) upd_same (ne_of_none hob nR').symm)
      · obtain ⟨bs, rfl, lb, hb⟩ := RowR.all (m := m) (by rw [e2, List.length_map, h2]) e3
        refine ⟨D, _, rfl, .inl ⟨SqL.of e1, fun R nR' => ⟨R, _, rfl, ex.trans (Ex.new nR'), bs, upd_same, lb, fun i c r z1 z2 => Ex.new nR' _ _ (hb i c r z1 z2)⟩⟩⟩
    rintro sl H8 ⟨F, q7, rfl, e8, hF⟩
    have E8 := E7.trans e8
    refine ⟨fun sl H11 => sl = [some (.ref p), some (.ref a), some (.int o), some (.int t), some (.ref D), o5, q7, some (.ref Kp), some (.ref g), some (.ref F), none, none] ∧ Ex H8 H11, ?_, ?_⟩
    · refine ⟨_, rfl, _, rfl, _, rfl, g, a, m, o, rfl, hg7.ex e8, hm1.ex E8, rc, o1, tb.bo.mono (by decide), fun H9 e9 => ⟨_, rfl, iteF ?_⟩⟩
      refine ⟨_, rfl, _, rfl, rd_grid (hF.ex e9).matv rc o1 (tb.bo.mono (by decide)) fun g2 H10 e10 _ gx => ?_⟩
      exact ⟨_, rfl, _, rfl, g2, a, m, o, rfl, gx, (hm1.ex E8).ex (e9.trans e10), rc, o1, tb.bo.mono (by decide), fun H11 e11 => ⟨_, rfl, iteF ⟨rfl, e9.trans (e10.trans e11)⟩⟩⟩
    rintro sl H11 ⟨rfl, e11⟩
    have E11 := E8.trans e11
    refine ⟨fun sl H13 => sl = [some (.ref p), some (.ref a), some (.int o), some (.int t), some (.ref D), o5, q7, some (.ref Kp), some (.ref g), some (.ref F), none, none] ∧ Ex H11 H13, ?_, ?_⟩
    · refine ⟨_, rfl, rd_grid (hm1.ex E11).matv rc (by decide) (bd_of (by decide +kernel)) fun g2 H12 e12 _ gx => ?_⟩
      exact ⟨_, rfl, g2, a, m, 1, rfl, gx, (hm1.ex E11).ex e12, rc, by decide, bd_of (by decide +kernel), fun H13 e13 => ⟨_, rfl, iteF ⟨rfl, e12.trans e13⟩⟩⟩
    rintro sl H13 ⟨rfl, e13⟩
    have E13 := E11.trans e13
    let rs : List (List (Int × Int)) := m.map fun r => r.map fun x => lo x o
    have lrs : rs.length = m.length := List.length_map ..
    refine ⟨fun sl H14 => ∃ R o5 o6, sl = [some (.ref p), some (.ref a), some (.int o), some (.int t), some (.ref D), o5, o6, some (.ref Kp), some (.ref g), some (.ref F), some (.ref R), none] ∧ Ex H13 H14 ∧ RatRowsN A H13 H14 R rs, ?_, ?_⟩
    · obtain ⟨as7, h1, h2, h3⟩ := hm1.ex E13
      refine uAsg (lcRatRows rs (xs := as7.map V.ref) (by rw [List.length_map, h2, lrs]) (fun R => lcL R (fun Q q => ⟨_, rfl, q⟩) (SqL.of h1) (by rw [List.length_map, h2]; exact int64 rc.l)) (fun i v r H2 hv hr' ex Q2 kq => ?_) (fun R H14 nR' ex hR => ⟨R, _, _, rfl, ex, hR⟩))
      rw [List.getElem?_map] at hv hr'
      obtain ⟨b, hb, rfl⟩ := Option.map_eq_some_iff.mp hv
      obtain ⟨row, hrow0, rfl⟩ := Option.map_eq_some_iff.mp hr'
      have hrow := ex _ _ (h3 i b _ hb hrow0)
      refine ⟨rfl, lcRatRow (C := A.C) (xs := row.map V.int) (fun j => lo (row.getD j 0) o) (fun R => lcL R (fun Q q => ⟨_, rfl, q⟩) (SqL.of hrow) (by rw [List.length_map, rc.r _ (List.mem_of_getElem? hrow0)]; exact int64 rc.w)) (fun j x H5 hx e5 Q5 q => ?_) (fun D2 H5 cs n2 e5 hD2 lcs hcs => ?_)⟩
      · rw [List.getElem?_map] at hx
        obtain ⟨z, hz, rfl⟩ := Option.map_eq_some_iff.mp hx
        have ez : row.getD j 0 = z := by rw [List.getD_eq_getElem?_getD, hz]; rfl
        refine ⟨rfl, _, rfl, _, rfl, rd_mkR (by omega) (tb.bo.mono (by decide)) fun c H6 e6 nc hc => q c H6 e6 nc (by rw [ez]; exact hc)⟩
      · refine kq D2 H5 cs e5 n2 hD2 (by rw [lcs, List.length_map, List.length_map]) fun j c p hc hp => ?_
        rw [List.getElem?_map] at hp
        obtain ⟨z, hz, rfl⟩ := Option.map_eq_some_iff.mp hp
        have ez : row.getD j 0 = z := by rw [List.getD_eq_getElem?_getD, hz]; rfl
        have := hcs j c hc
        rwa [ez] at this
    rintro sl H14 ⟨R, q8, q9, rfl, e14, hR⟩
    have E14 := E13.trans e14
    have sh : ShapeOk (rs.map List.length) := by
      have : rs.map List.length = m.map List.length := by
        show (m.map _).map _ = _
        rw [List.map_map]
        exact List.map_congr_left fun r _ => List.length_map ..
      rw [this]
      exact rc.sh
    have rsp : ∀ r ∈ rs, ∀ q ∈ r, 0 < q.2 ∧ q.2.natAbs ∣ o.toNat ∧ Bd 900 q.1 := fun r hr q hq => by
      obtain ⟨row, hrow, rfl⟩ := List.mem_map.mp hr
      obtain ⟨x, hx, rfl⟩ := List.mem_map.mp hq
      refine ⟨lo_pos (by omega), ?_, ((tb.b row hrow x hx).abs (lo_top_le (by omega))).mono (by decide)⟩
      obtain ⟨kk, _, _, h2, _⟩ := lo_split (t := x) (b := o) (by omega)
      rw [show o.toNat = o.natAbs by omega]
      conv => rhs; rw [h2]
      rw [Int.natAbs_mul]
      exact Nat.dvd_mul_right _ _
    obtain ⟨on1, on2⟩ := of_norm (rs := rs) (m := m) o1 (fun r hr q hq => (rsp r hr q hq).1) lrs fun i r q h1 h2 => by
      rw [List.getElem?_map, h2] at h1
      cases h1
      refine ⟨List.length_map .., fun j z x h3 h4 => ?_⟩
      rw [List.getElem?_map, h4] at h3
      cases h3
      exact lo_cross (by omega)
    have bo2 : o.natAbs < 2 ^ 31 := tb.bo
    refine ⟨fun sl H15 => ∃ b, sl = [some (.ref p), some (.ref a), some (.int o), some (.int t), some (.ref D), q8, q9, some (.ref Kp), some (.ref g), some (.ref F), some (.ref R), some (.ref b)] ∧ Ex H14 H15 ∧ GridAt A H15 b (nR m o) (nO m o), ?_, ?_⟩
    · obtain ⟨xs, hl⟩ := hR.rows.lens (K := K)
      exact ⟨rfl, _, rfl, R, xs, _, rfl, hl, by rw [List.length_map, lrs]; exact int64 rc.l, fun z => absurd sh z, fun _ => ⟨rs, o.toNat, rfl, hR.rows, by omega, by omega, rsp, fun b H15 ex gx => ⟨b, rfl, ex, by rw [← on1, ← on2]; exact gx⟩⟩⟩
    rintro sl H15 ⟨b, rfl, e15, hb⟩
    have hg15 : GridAt A H15 g (nR m o) (nO m o) := hg7.ex (e8.trans (e11.trans (e13.trans (e14.trans e15))))
    refine ⟨fun sl H16 => sl = [some (.ref p), some (.ref a), some (.int o), some (.int t), some (.ref D), q8, q9, some (.ref Kp), some (.ref g), some (.ref F), some (.ref R), some (.ref b)] ∧ H16 = H15, ?_, ?_⟩
    · obtain ⟨dx, R1, i1, _⟩ := id hg15
      obtain ⟨dy, R2, i2, _⟩ := id hb
      have ty1 : TyX K H15 (.ref g) (.ref A.Gr) := .base (.ins i1 T.c_Gr T.ha_Gr T.hn T.htk T.hm_Gr)
      have ty2 : TyX K H15 (.ref b) (.ref A.Gr) := .base (.ins i2 T.c_Gr T.ha_Gr T.hn T.htk T.hm_Gr)
      have tt : (decide (nR m o = nR m o) && decide (nO m o = nO m o)) = true := by simp
      refine ⟨_, rfl, _, rfl, .inl ⟨g, dx, _, _, rfl, i1, ty2, nf_self, g, _, _, _, rfl, hg15, .inl ⟨b, _, _, rfl, hb, ?_⟩⟩⟩
      rw [tt]
      refine ⟨_, _, rfl, rfl, _, rfl, iteF ?_⟩
      refine ⟨_, rfl, _, rfl, .inl ⟨b, dy, _, _, rfl, i2, ty1, nf_self, b, _, _, _, rfl, hb, .inl ⟨g, _, _, rfl, hg15, ?_⟩⟩⟩
      rw [tt]
      exact ⟨_, _, rfl, rfl, _, rfl, iteF ⟨rfl, rfl⟩⟩
    rintro sl H16 ⟨rfl, rfl⟩
    obtain ⟨as2, css2, r1, r2, r3, r4⟩ := id hR
    have new2 : ∀ c ∈ as2, H13 c = none ∧ ∃ xs, H14 c = some (.lst xs) ∧ xs.length ≤ 5 := fun c hc => by
      obtain ⟨i, hi⟩ := List.mem_iff_getElem?.mp hc
      have hi2 := (List.getElem?_eq_some_iff.mp hi).1
      obtain ⟨z1, z2, z3, _⟩ := r4 i c _ _ hi (List.getElem?_eq_getElem (by omega)) (List.getElem?_eq_getElem (by omega))
      refine ⟨z1, _, z2, ?_⟩
      rw [List.length_map, z3]
      have hi3 : i < m.length := by omega
      have er : rs[i]'(by omega) = m[i].map fun x => lo x o := List.getElem_map ..
      rw [er, List.length_map, rc.r _ (List.getElem_mem hi3)]
      exact tb.w5
    have ned2 : ∀ c ∈ as2, R ≠ c := fun c hc z => by
      obtain ⟨i, hi⟩ := List.mem_iff_getElem?.mp hc
      have hi2 := (List.getElem?_eq_some_iff.mp hi).1
      obtain ⟨z1, z2, z3, z4⟩ := r4 i c _ _ hi (List.getElem?_eq_getElem (by omega)) (List.getElem?_eq_getElem (by omega))
      rw [← z, r1] at z2
      have z5 : as2 = css2[i]'(by omega) := by
        have := HO.lst.inj (Option.some.inj z2)
        exact List.map_inj_right (fun _ _ h => V.ref.inj h) |>.mp this
      cases as2 with
      | nil => cases hc
      | cons e es =>
        have hp := z4 0 e
        rw [← z5] at hp
        have l0 : 0 < (rs[i]'(by omega)).length := by rw [← z3, ← z5]; exact Nat.succ_pos _
        obtain ⟨dz, hz⟩ := hp _ rfl (List.getElem?_eq_getElem l0)
        obtain ⟨y1, y2, _⟩ := r4 0 e _ _ rfl (List.getElem?_eq_getElem (by omega)) (List.getElem?_eq_getElem (by omega))
        rw [y2] at hz
        cases hz
    have e15b := e15
    refine ⟨fun sl H17 => (∃ o6, sl = [some (.ref p), some (.ref a), some (.int o), some (.int t), some (.ref D), q8, o6, some (.ref Kp), some (.ref g), some (.ref F), some (.ref R), some (.ref b)]) ∧ Ex H13 H17 ∧ NL H16 H17, ?_, ?_⟩
    · refine forL (xs := as2.map V.ref) (fun i sl H17 => (∃ o6, sl = [some (.ref p), some (.ref a), some (.int o), some (.int t), some (.ref D), q8, o6, some (.ref Kp), some (.ref g), some (.ref F), some (.ref R), some (.ref b)]) ∧ Ex H13 H17 ∧ NL H16 H17 ∧ H17 R = some (.lst (as2.map V.ref)) ∧ ∀ c ∈ as2, ∃ ys, H17 c = some (.lst ys) ∧ ys.length ≤ 100 + i)
        (fun Q q => ⟨_, rfl, q⟩) (SqL.of (e15 _ _ r1)) ⟨⟨_, rfl⟩, e14.trans e15, NL.refl, e15 _ _ r1, fun c hc => ?_⟩ (fun i sl H6 q => SqL.of q.2.2.2.1) (fun i v sl H6 hv q => ?_) (fun sl H6 q => ⟨q.1, q.2.1, q.2.2.1⟩)
      · obtain ⟨_, xs, h1, h2⟩ := new2 c hc
        exact ⟨xs, e15 _ _ h1, by omega⟩
      · obtain ⟨⟨q6, rfl⟩, ex, nl, hR6, hb6⟩ := q
        rw [List.getElem?_map] at hv
        obtain ⟨c, hc, rfl⟩ := Option.map_eq_some_iff.mp hv
        have hi : i < as2.length := (List.getElem?_eq_some_iff.mp hc).1
        have l64 := rc.l
        have hca := List.mem_of_getElem? hc
        obtain ⟨ys, hys, lys⟩ := hb6 c hca
        have nn := (new2 c hca).1
        refine ⟨_, rfl, .inl ⟨rfl, _, SqL.of hys⟩, ?_⟩
        cases vds with
        | cons v1 v2 =>
        cases v2
        refine rd_mkR (by decide) (bd_of (by decide +kernel)) fun z H7 e7 _ hz => ?_
        refine ⟨c, ys, .ref z, rfl, rfl, e7 _ _ hys, by rw [sizeLine_eq]; omega, ⟨_, rfl⟩, fun d oc hc => by rw [upd_ne (ne_of_none hc nn)]; exact e7 _ _ (ex _ _ hc), (nl.trans (.of e7)).trans (NL.put (e7 _ _ hys)), by rw [upd_ne (ned2 c hca)]; exact e7 _ _ hR6, fun d hd => ?_⟩
        by_cases cb : d = c
        · subst cb
          exact ⟨_, upd_same, by rw [List.length_append]; show ys.length + 1 ≤ _; omega⟩
        · obtain ⟨zs, hzs, lzs⟩ := hb6 d hd
          exact ⟨zs, by rw [upd_ne cb]; exact e7 _ _ hzs, by omega⟩
    rintro sl H17 ⟨⟨q6, rfl⟩, e17, nl17⟩
    have E17 := E13.trans e17
    exact ⟨_, rfl, _, rfl, _, rfl, b, a, m, o, rfl, hb.nl nl17, hm1.ex E17, rc, o1, tb.bo.mono (by decide), fun H18 e18 => k H18 (p1.ex (E17.trans e18)) (k1.trans (Keep.of (E17.trans e18)))⟩
end
end Fc
set_option Elab.async false
set_option linter.all false
set_option maxRecDepth 100000
set_option maxHeartbeats 4000000
set_option exponentiation.threshold 100000
namespace Fc
open PySem PySem.Spec PyProof.Rows L2 L2H
def lowR (m lows : List (List Int)) : List (List (Int × Int)) := List.zipWith (fun r ls => List.zipWith (fun x y => lo x y) r ls) m lows
def dueR (m lows : List (List Int)) : List (List Int) := List.zipWith (fun r ls => List.zipWith (fun x y => x * (60 : Int).fdiv y) r ls) m lows
section
variable {P : Program} {w : World} {K : PySem.W.Frag} {mg : Str → Option Value} {base : Heap} {A : Ad}
def LowOk (r ls : List Int) : Prop := ls.length = r.length ∧ ∀ x ∈ ls, 1 ≤ x ∧ x ≤ 6
def RatRow (A : Ad) (H : Hp) (b : Addr) (r ls : List Int) : Prop := ∃ cs : List Addr, H b = some (.lst (cs.map V.ref)) ∧ cs.length = r.length ∧ ∀ (j : Nat) c x y, cs[j]? = some c → r[j]? = some x → ls[j]? = some y → RatAt A.C H c (lo x y)
structure MixInv (A : Ad) (p D E : Addr) (m : List (List Int)) (i : Nat) (H : Hp) : Prop where
  at_ : ∃ (as bs : List Addr) (lows : List (List Int)), H D = some (.lst (as.map V.ref)) ∧ H E = some (.lst (bs.map V.ref)) ∧ as.length = i ∧ bs.length = i ∧ lows.length = i ∧
    ∀ (k : Nat) a b ls r, as[k]? = some a → bs[k]? = some b → lows[k]? = some ls → m[k]? = some r → LowOk r ls ∧ ∀ H3, St [p, D, E] H H3 → RatRow A H3 a r ls ∧ H3 b = some (.lst ((List.zipWith (fun x y => x * (60 : Int).fdiv y) r ls).map V.int))
theorem MixInv.st {A : Ad} {p D E : Addr} {m : List (List Int)} {i : Nat} {H H' : Hp} (h : MixInv A p D E m i H) (e : St [p, D, E] H H') (eD : H' D = H D) (eE : H' E = H E) : MixInv A p D E m i H' := by
  obtain ⟨as, bs, lows, h1, h2, h3, h4, h5, h6⟩ := h.at_
  exact ⟨as, bs, lows, by rw [eD]; exact h1, by rw [eE]; exact h2, h3, h4, h5, fun k a b ls r q1 q2 q3 q4 => ⟨(h6 k a b ls r q1 q2 q3 q4).1, fun H3 e3 => (h6 k a b ls r q1 q2 q3 q4).2 H3 (e.trans e3)⟩⟩
theorem get_snoc {α : Type} {xs : List α} {x y : α} {k : Nat} (h : (xs ++ [x])[k]? = some y) : (k < xs.length ∧ xs[k]? = some y) ∨ (k = xs.length ∧ y = x) := by
  by_cases c : k < xs.length
  · rw [List.getElem?_append_left c] at h
    exact .inl ⟨c, h⟩
  · have hk : k = xs.length := by
      have := (List.getElem?_eq_some_iff.mp h).1
      rw [List.length_append] at this
      simp at this
      omega
    subst hk
    rw [List.getElem?_append_right (Nat.le_refl _)] at h
    simp at h
    exact .inr ⟨rfl, h.symm⟩
def spMixed (A : Ad) : Sp := fun vs H Q _ => ∃ (p l a : Addr) (m : List (List Int)) (o : Int), vs = [.ref p, .ref a] ∧ PotL H p l ∧ RowsL H a m ∧ Tab m o ∧ ∀ H', PotL H' p l → Keep p H H' → Q (.bl true) H'
theorem ok_mixed (T : Txt K mg A) : FnOk P w K mg base CX0 7 A.f_mixed A.d_mixed ["pot", "rows"] (spMixed A) := by
  refine T.F_mixed.ok sc_mixed (fun vs H Q E h => ?_) (fun cdv Ar outer s H vs Q E hr h => ?_)
  · obtain ⟨p, l, a, m, o, rfl, _⟩ := h
    rfl
  · obtain ⟨p, l, a, m, o, rfl, pot, hm, tb, k⟩ := h
    obtain ⟨cm, cmo⟩ := T.p_gof
    refine ⟨_, (C8.pss_cut (ps_set (i := 2) sc_mixed.nd rfl (Or.inl rfl) (pe_lst pa_nil))
      (C8.pss_cut (ps_set (i := 3) sc_mixed.nd rfl (Or.inl rfl) (pe_lst pa_nil))
      (C8.pss_cut (ps_for PassesOwn.never rfl (pi_range1 rfl T.n_range (pa_cons (pe_callB call_len (by rfl) T.n_len PySem.boot_len (pa_cons (pv 1) pa_nil)) pa_nil)) (pg_name (i := 4) sc_mixed.nd rfl (Or.inr rfl))
      (C8.pss_cut (ps_set (i := 5) sc_mixed.nd rfl (Or.inr rfl) (pe_ix ix_list (pv 1) (pv 4) (fun _ _ => rfl)))
      (C8.pss_cut (ps_set (i := 6) sc_mixed.nd rfl (Or.inr rfl) (pe_lc (own := [("j", 7)]) (g := gName 7) (tt := tYes) rfl sc_mixed.nd (pi_range1 rfl T.n_range (pa_cons (pe_callB call_len (by rfl) T.n_len PySem.boot_len (pa_cons (pv 5) pa_nil)) pa_nil)) (blkOk_by (own := [("j", 7)]) (N := N_mixed) (sc := defScope S_mixed) (by decide +kernel)) (fun _ _ _ _ _ => pg_name (i := 7) sc_mixed.nd rfl (Or.inl rfl)) (fun _ _ _ _ _ => pts_nil) (fun _ _ _ _ _ => (pe_op op_add pe_int (pe_op op_mod (pe_callTy call_int1 (by rfl) T.n_int (by decide +kernel) (pa_cons (pe_op op_add (pe_op op_add (pe_call (ok_digit T) (hr.mono (by decide)) rfl T.g_digit T.F_digit.kp T.b_digit .nil pass0 (pa_cons (pv 0) (pa_cons pe_int pa_nil))) (pv 4)) (pe_op op_mulW pe_int (pv 7))) pa_nil)) pe_int)))))
      (C8.pss_cut (ps_expr (pe_bm PySem.F.plainAttrs_list PySem.F.slot_list_append PySem.F.type_list_append mt_append (pv 2) (pa_cons (pe_lc (own := [("j", 7)]) (g := gName 7) (tt := tYes) rfl sc_mixed.nd (pi_range1 rfl T.n_range (pa_cons (pe_callB call_len (by rfl) T.n_len PySem.boot_len (pa_cons (pv 5) pa_nil)) pa_nil)) (blkOk_by (own := [("j", 7)]) (N := N_mixed) (sc := defScope S_mixed) (by decide +kernel)) (fun _ _ _ _ _ => pg_name (i := 7) sc_mixed.nd rfl (Or.inl rfl)) (fun _ _ _ _ _ => pts_nil) (fun _ _ _ _ _ => (pe_make T.mkC (ok_init T) (hr.mono (by decide)) rfl T.g_Ratio T.b_init3 .nil passL (pa_cons (pe_ix (r := rIxL K) ix_list (pv 5) (pv 7) (fun _ _ => rfl)) (pa_cons (pe_ix (r := rIxL K) ix_list (pv 6) (pv 7) (fun _ _ => rfl)) pa_nil))))) pa_nil)))
      (pss_one (ps_expr (pe_bm PySem.F.plainAttrs_list PySem.F.slot_list_append PySem.F.type_list_append mt_append (pv 3) (pa_cons (pe_lc (own := [("j", 7)]) (g := gName 7) (tt := tYes) rfl sc_mixed.nd (pi_range1 rfl T.n_range (pa_cons (pe_callB call_len (by rfl) T.n_len PySem.boot_len (pa_cons (pv 5) pa_nil)) pa_nil)) (blkOk_by (own := [("j", 7)]) (N := N_mixed) (sc := defScope S_mixed) (by decide +kernel)) (fun _ _ _ _ _ => pg_name (i := 7) sc_mixed.nd rfl (Or.inl rfl)) (fun _ _ _ _ _ => pts_nil) (fun _ _ _ _ _ => (pe_op op_mulW (pe_ix (r := rIxL K) ix_list (pv 5) (pv 7) (fun _ _ => rfl)) (pe_op op_fdv pe_int (pe_ix (r := rIxL K) ix_list (pv 6) (pv 7) (fun _ _ => rfl)))))) pa_nil))))))))
      (pss_one (ps_ret (pe_call (ok_lis T) (hr.mono (by decide)) rfl T.g_lis T.F_lis.kp T.b_lis .nil pass0 (pa_cons (ClX.pe_cmeth (pe_glob (v := .ref A.Gr) rfl T.g_Grid rfl) T.crGr cmo (fnR_of (ok_gof T) T.b_gof) (hr.mono (by decide)) passLN (pa_cons (pv 2) pa_nil)) (pa_cons (pv 3) (pa_cons pe_int pa_nil))))))))), ?_⟩
    have rc := tb.rc
    obtain ⟨as0, h1, h2, h3⟩ := id hm
    have a_ne := refs_ne pot h1
    refine ⟨fun sl H1 => ∃ D, sl = [some (.ref p), some (.ref a), some (.ref D), none, none, none, none, none] ∧ Ex H H1 ∧ H D = none ∧ H1 D = some (.lst []), ?_, ?_⟩
    · exact ⟨(by show 0 ≤ sizeLine; exact Nat.zero_le _), fun D nD => ⟨D, rfl, Ex.new nD, nD, upd_same⟩⟩
    rintro sl H1 ⟨D, rfl, e1, nD, hD⟩
    refine ⟨fun sl H2 => ∃ E', sl = [some (.ref p), some (.ref a), some (.ref D), some (.ref E'), none, none, none, none] ∧ Ex H1 H2 ∧ H1 E' = none ∧ H2 E' = some (.lst []), ?_, ?_⟩
    · exact ⟨(by show 0 ≤ sizeLine; exact Nat.zero_le _), fun D nD => ⟨D, rfl, Ex.new nD, nD, upd_same⟩⟩
    rintro sl H2 ⟨E', rfl, e2, nE, hE⟩
    have hD2 := e2 _ _ hD
    have DE : D ≠ E' := ne_of_none hD nE
    have nE0 : H E' = none := e1.free nE
    obtain ⟨dp, dl⟩ := pot.ne nD
    obtain ⟨ep, el⟩ := pot.ne nE0
    have E2 := e1.trans e2
    have outN : ∀ b o, H b = some o → b ≠ p → b ∉ [p, D, E'] := fun b o hb ne hm => by
      simp only [List.mem_cons, List.not_mem_nil, or_false] at hm
      rcases hm with z | z | z
      · exact ne z
      · subst z; rw [nD] at hb; cases hb
      · subst z; rw [nE0] at hb; cases hb
    refine ⟨fun sl H3 => (∃ o4 o5 o6 o7, sl = [some (.ref p), some (.ref a), some (.ref D), some (.ref E'), o4, o5, o6, o7]) ∧ PotL H3 p l ∧ Keep p H H3 ∧ MixInv A p D E' m m.length H3, ?_, ?_⟩
    · refine forR (lo := 0) (n := m.length) (fun i sl H3 => (∃ o4 o5 o6 o7, sl = [some (.ref p), some (.ref a), some (.ref D), some (.ref E'), o4, o5, o6, o7]) ∧ PotL H3 p l ∧ Keep p H H3 ∧ MixInv A p D E' m i H3)
        (fun P h => ⟨_, rfl, _, _, rfl, lenv (.inl (SqL.of (E2 _ _ h1))), (m.length : Int), by rw [List.length_map, h2], by omega, by have := rc.l; omega, by simpa using h⟩)
        ⟨⟨_, _, _, _, rfl⟩, pot.ex E2, Keep.of E2, ⟨[], [], [], hD2, hE, rfl, rfl, rfl, fun k a b ls r q => by simp at q⟩⟩ (fun i sl H3 hi q => ?_) (fun sl H3 q => q)
      obtain ⟨⟨o4, o5, o6, o7, rfl⟩, p3, k3, mi⟩ := q
      have hj0 : (0 : Int) + (i : Int) = (i : Int) := by omega
      rw [hj0]
      have ha3 : H3 a = some (.lst (as0.map V.ref)) := k3 _ _ h1 a_ne
      have hb0 : as0[i]? = some (as0[i]'(by omega)) := List.getElem?_eq_getElem (by omega)
      generalize hbb : as0[i]'(by omega) = b at hb0
      have hb := h3 i b _ hb0 (List.getElem?_eq_getElem hi)
      have b_ne := ints_ne pot hb
      have hb3 := k3 _ _ hb b_ne
      have lr5 : m[i].length ≤ 5 := by rw [rc.r _ (List.getElem_mem hi)]; exact tb.w5
      have at1 := atI_nat (xs := as0.map V.ref) (j := i) (v := V.ref b) (by rw [List.getElem?_map, hb0]; rfl)
      refine ⟨fun sl H4 => sl = [some (.ref p), some (.ref a), some (.ref D), some (.ref E'), some (.int (i : Int)), some (.ref b), o6, o7] ∧ H4 = H3, ?_, ?_⟩
      · exact ⟨_, rfl, _, rfl, _, _, _, _, rfl, rfl, SqL.of ha3, at1, rfl, rfl⟩
      rintro sl H4 ⟨rfl, rfl⟩
      refine ⟨fun sl H5 => (∃ Lw ls o7, sl = [some (.ref p), some (.ref a), some (.ref D), some (.ref E'), some (.int (i : Int)), some (.ref b), some (.ref Lw), o7] ∧ H5 Lw = some (.lst (ls.map V.int)) ∧ LowOk m[i] ls ∧ H4 Lw = none) ∧ PotL H5 p l ∧ Keep p H4 H5, ?_, ?_⟩
      · refine uAsg (lcRP (lo := 0) (n := m[i].length) (fun _ x => 1 ≤ x ∧ x ≤ 6) (by omega) p3 (fun P h => ⟨_, rfl, _, _, rfl, lenv (.inl (SqL.of hb3)), (m[i].length : Int), by rw [List.length_map], by omega, by omega, by simpa using h⟩) (fun j H5 D2 hj p5 k5 hD' Q2 kq => ?_) (fun Lw H5 ls nL hL lL hls p5 k5 => ?_))
        · have bj : Bd 31 ((0 : Int) + (j : Int)) := by
            have : (5 : Nat) < 2 ^ 31 := by decide
            unfold Bd
            omega
          refine ⟨rfl, _, rfl, p, l, 6, rfl, p5, by decide, bd_of (by decide +kernel), fun d H6 d0 d1 p6 k6 => ⟨_, rfl, _, _, rfl, rfl, _, rfl, _, _, rfl, rfl, (bd_of (by decide) : Bd 3 (2 : Int)).w bj, _, _, rfl, rfl, .inl ⟨_, rfl, _, _, rfl, rfl, (show (0 : Int) < 6 by decide), _, _, rfl, rfl, kq _ H6 ⟨?_, ?_⟩ p6 k6⟩⟩⟩
          · have := Int.emod_nonneg (d + i + 2 * (0 + (j : Int))) (show (6 : Int) ≠ 0 by decide)
            show 1 ≤ 1 + (d + i + 2 * (0 + (j : Int))) % 6
            omega
          · have := Int.emod_lt_of_pos (d + i + 2 * (0 + (j : Int))) (show (0 : Int) < 6 by decide)
            show 1 + (d + i + 2 * (0 + (j : Int))) % 6 ≤ 6
            omega
        · refine ⟨⟨Lw, ls, _, rfl, hL, ⟨lL, fun x hx => ?_⟩, nL⟩, p5, k5⟩
          obtain ⟨j, hj⟩ := List.mem_iff_getElem?.mp hx
          exact hls j x hj
      rintro sl H5 ⟨⟨Lw, ls, q7, rfl, hL, lok, nLw⟩, p5, k5⟩
      obtain ⟨as, bs, lows, g1, g2, g3, g4, g5, g6⟩ := mi.at_
      have gD := k5 _ _ g1 dp
      have gE := k5 _ _ g2 ep
      have hb5 := k5 _ _ hb3 b_ne
      obtain ⟨_, _, _, _, pp, _⟩ := id p5
      have outN5 : ∀ c, H5 c = none → c ∉ [p, D, E'] := fun c hc hm => by
        simp only [List.mem_cons, List.not_mem_nil, or_false] at hm
        rcases hm with z | z | z
        · exact (p5.ne hc).1 z
        · subst z; rw [gD] at hc; cases hc
        · subst z; rw [gE] at hc; cases hc
      have rng : ∀ {te : TE} {ws : List Nat} {σ : L2.St} {g : TG} {wi : TI} {HH : Hp} {QQ : VK} (R : Nat → V → Hp → Prop), (∀ P : It → Hp → Prop, P (Itr 0 m[i].length) HH → wi σ HH P) →
          (∀ (j : Nat) x H' D, ((List.range m[i].length).map fun j : Nat => V.int (0 + (j : Int)))[j]? = some x → LcStep R HH D j H' (LcBody g te ws σ x H')) → LcEnd R HH ((List.range m[i].length).map fun j : Nat => V.int (0 + (j : Int))).length QQ → tLc wi g tYes te ws σ HH QQ := by
        intro te ws σ g wi HH QQ R hw hs hd
        refine lcR (lo := 0) (n := m[i].length) R (by omega) hw (fun j H' D hj => hs j _ H' D (by rw [List.getElem?_map, List.getElem?_range hj]; rfl)) ?_
        rw [List.length_map, List.length_range] at hd
        exact hd
      have atr : ∀ j, j < m[i].length → atI (m[i].map V.int) (0 + (j : Int)) = some (V.int (m[i].getD j 0)) := fun j hj => by
        rw [Int.zero_add]
        refine atI_nat ?_
        rw [List.getElem?_map, List.getElem?_eq_getElem hj, List.getD_eq_getElem?_getD, List.getElem?_eq_getElem hj]
        rfl
      have atl : ∀ j, j < m[i].length → atI (ls.map V.int) (0 + (j : Int)) = some (V.int (ls.getD j 0)) ∧ 1 ≤ ls.getD j 0 ∧ ls.getD j 0 ≤ 6 := fun j hj => by
        have hj2 : j < ls.length := by rw [lok.1]; exact hj
        have e : ls.getD j 0 = ls[j] := by rw [List.getD_eq_getElem?_getD, List.getElem?_eq_getElem hj2]; rfl
        rw [Int.zero_add, e]
        refine ⟨atI_nat ?_, lok.2 _ (List.getElem_mem hj2)⟩
        rw [List.getElem?_map, List.getElem?_eq_getElem hj2]
        rfl
      refine ⟨fun sl H6 => (∃ b2 o7, sl = [some (.ref p), some (.ref a), some (.ref D), some (.ref E'), some (.int (i : Int)), some (.ref b), some (.ref Lw), o7] ∧ H6 D = some (.lst ((as ++ [b2]).map V.ref)) ∧ ∀ H', St [p, D, E'] H6 H' → RatRow A H' b2 m[i] ls) ∧ H6 E' = some (.lst (bs.map V.ref)) ∧ H6 Lw = some (.lst (ls.map V.int)) ∧ H6 b = some (.lst (m[i].map V.int)) ∧ PotL H6 p l ∧ Keep p H H6 ∧ St [p, D, E'] H5 H6, ?_, ?_⟩
      · refine ⟨_, rfl, .inl ⟨rfl, _, SqL.of gD⟩, uCons (lcRatRow (C := A.C) (xs := (List.range m[i].length).map fun j : Nat => V.int (0 + (j : Int))) (fun j => lo (m[i].getD j 0) (ls.getD j 0)) (fun R => rng R (fun P h => ⟨_, rfl, _, _, rfl, lenv (.inl (SqL.of hb5)), (m[i].length : Int), by rw [List.length_map], by omega, by omega, by simpa using h⟩)) (fun j x H7 hx e7 Q5 q => ?_) (fun D2 H7 cs n2 e7 hD2 lcs hcs => ?_))⟩
        · have hj : j < m[i].length := by have := (List.getElem?_eq_some_iff.mp hx).1; rwa [List.length_map, List.length_range] at this
          rw [List.getElem?_map, List.getElem?_range hj] at hx
          cases hx
          obtain ⟨a2, l1, l6⟩ := atl j hj
          have bl6 : Bd 8900 (ls.getD j 0) := Nat.lt_of_lt_of_le (show (ls.getD j 0).natAbs < 2 ^ 4 by have : (2 : Nat) ^ 4 = 16 := rfl; omega) (Nat.pow_le_pow_right (by decide) (by decide))
          exact ⟨rfl, _, rfl, _, rfl, _, _, _, _, rfl, rfl, SqL.of (e7 _ _ hb5), atr j hj, _, rfl, _, rfl, _, _, _, _, rfl, rfl, SqL.of (e7 _ _ hL), a2, rd_mkR (by omega) bl6 fun c H8 e8 nc hc => q c H8 e8 nc hc⟩
        · have lb : as.length ≤ 64 := by have := rc.l; omega
          have D2n := outN5 D2 n2
          refine ⟨D, _, _, rfl, rfl, e7 _ _ gD, by rw [List.length_map, sizeLine_eq]; omega, ⟨D2, _, rfl, by rw [upd_same, List.map_append]; rfl, fun H' st => ?_⟩, by rw [upd_ne DE.symm]; exact e7 _ _ gE, ?_, ?_, (p5.ex e7).keep (fun c oc hc ne => by rw [upd_ne ne]; exact hc) dp dl, kp_at ((k3.trans k5).trans (Keep.of e7)) nD, (St.of e7).trans (St.put (by simp))⟩
          · rw [List.length_map, List.length_range] at lcs
            refine ⟨cs, st _ _ (by rw [upd_ne (fun z => D2n (by simp [z]))]; exact hD2) D2n, lcs, fun j c x y q1 q2 q3 => ?_⟩
            obtain ⟨nc, dz, hz⟩ := hcs j c q1
            have cN := outN5 c nc
            have ex : m[i].getD j 0 = x := by rw [List.getD_eq_getElem?_getD, q2]; rfl
            have ey : ls.getD j 0 = y := by rw [List.getD_eq_getElem?_getD, q3]; rfl
            rw [ex, ey] at hz
            exact ⟨dz, st _ _ (by rw [upd_ne (fun z => cN (by simp [z]))]; exact hz) cN⟩
          · rw [upd_ne (ne_of_none g1 nLw).symm]
            exact e7 _ _ hL
          · rw [upd_ne (ne_of_none hb nD)]
            exact e7 _ _ hb5
      rintro sl H6 ⟨⟨b2, q7, rfl, gD6, rr⟩, gE6, hL6, hb6, p6, k6, st6⟩
      have Bn : bs.length ≤ 64 := by have := rc.l; omega
      have outN6 : ∀ c, H6 c = none → c ∉ [p, D, E'] := fun c hc hm => by
        simp only [List.mem_cons, List.not_mem_nil, or_false] at hm
        rcases hm with z | z | z
        · exact (p6.ne hc).1 z
        · subst z; rw [gD6] at hc; cases hc
        · subst z; rw [gE6] at hc; cases hc
      refine ⟨_, rfl, .inl ⟨rfl, _, SqL.of gE6⟩, uCons (lcR (lo := 0) (n := m[i].length) (fun j v _ => v = V.int (m[i].getD j 0 * (60 : Int).fdiv (ls.getD j 0))) (by omega) (fun P h => ⟨_, rfl, _, _, rfl, lenv (.inl (SqL.of hb6)), (m[i].length : Int), by rw [List.length_map], by omega, by omega, by simpa using h⟩) (fun j H7 D2 hj e7 hD' Q2 kq => ?_) (fun D2 H7 vs n2 e7 z1 z2 z3 => ?_))⟩
      · obtain ⟨a2, l1, l6⟩ := atl j hj
        have hj2 : m[i].getD j 0 = m[i][j] := by rw [List.getD_eq_getElem?_getD, List.getElem?_eq_getElem hj]; rfl
        have bx : Bd 31 (m[i].getD j 0) := by rw [hj2]; exact tb.b _ (List.getElem_mem hi) _ (List.getElem_mem hj)
        have bl6 : Bd 4 (ls.getD j 0) := show (ls.getD j 0).natAbs < 2 ^ 4 by have : (2 : Nat) ^ 4 = 16 := rfl; omega
        have b60 : Bd 7 ((60 : Int).fdiv (ls.getD j 0)) := by
          rw [Int.fdiv_eq_ediv_of_nonneg _ (by omega)]
          exact (bd_of (by decide) : Bd 7 (60 : Int)).abs (Int.natAbs_ediv_le_natAbs _ _)
        exact ⟨rfl, _, rfl, _, rfl, _, _, _, _, rfl, rfl, SqL.of (e7 _ _ hb6), atr j hj, _, rfl, _, rfl, _, _, _, _, rfl, rfl, SqL.of (e7 _ _ hL6), a2, _, _, rfl, rfl, bl6.fdv (by omega), _, _, rfl, rfl, bx.w b60, kq _ _ (fun _ _ h => h) fun _ _ => rfl⟩
      · rw [vals_int (f := fun j => m[i].getD j 0 * (60 : Int).fdiv (ls.getD j 0)) z2 fun j v q => z3 j v q] at z1
        have zz : (List.range m[i].length).map (fun j => m[i].getD j 0 * (60 : Int).fdiv (ls.getD j 0)) = List.zipWith (fun x y => x * (60 : Int).fdiv y) m[i] ls := by
          refine List.ext_getElem? fun j => ?_
          rw [List.getElem?_map, List.getElem?_zipWith]
          by_cases hj : j < m[i].length
          · have hj2 : j < ls.length := by rw [lok.1]; exact hj
            have e1 : m[i].getD j 0 = m[i][j] := by rw [List.getD_eq_getElem?_getD, List.getElem?_eq_getElem hj]; rfl
            have e2 : ls.getD j 0 = ls[j] := by rw [List.getD_eq_getElem?_getD, List.getElem?_eq_getElem hj2]; rfl
            rw [List.getElem?_range hj, List.getElem?_eq_getElem hj, List.getElem?_eq_getElem hj2]
            show some (m[i].getD j 0 * (60 : Int).fdiv (ls.getD j 0)) = some _
            rw [e1, e2]
          · rw [List.getElem?_eq_none (by rw [List.length_range]; omega), List.getElem?_eq_none (by omega)]
            rfl
        rw [zz] at z1
        have D2n := outN6 D2 n2
        have st8 : St [p, D, E'] H6 (upd H7 E' (.lst (bs.map V.ref ++ [.ref D2]))) := (St.of e7).trans (St.put (by simp))
        refine ⟨E', _, _, rfl, rfl, e7 _ _ gE6, by rw [List.length_map, sizeLine_eq]; omega, ⟨_, _, _, _, rfl⟩, (p6.ex e7).keep (fun c oc hc ne => by rw [upd_ne ne]; exact hc) ep el, kp_at (k6.trans (Keep.of e7)) nE0, ⟨as ++ [b2], bs ++ [D2], lows ++ [ls], by rw [upd_ne DE]; exact e7 _ _ gD6, by rw [upd_same, List.map_append]; rfl, by rw [List.length_append, g3]; rfl, by rw [List.length_append, g4]; rfl, by rw [List.length_append, g5]; rfl, fun kk a' b' ls' r' q1 q2 q3 q4 => ?_⟩⟩
        rcases get_snoc q1 with ⟨l1, q1⟩ | ⟨l1, rfl⟩
        · rcases get_snoc q2 with ⟨_, q2⟩ | ⟨z, _⟩
          · rcases get_snoc q3 with ⟨_, q3⟩ | ⟨z, _⟩
            · obtain ⟨y1, y2⟩ := g6 kk a' b' ls' r' q1 q2 q3 q4
              exact ⟨y1, fun H' e' => y2 H' ((((St.kp k5 (by simp)).trans st6).trans st8).trans e')⟩
            · omega
          · omega
        · rcases get_snoc q2 with ⟨z, _⟩ | ⟨_, rfl⟩
          · omega
          · rcases get_snoc q3 with ⟨z, _⟩ | ⟨_, rfl⟩
            · omega
            · rw [l1, g3, List.getElem?_eq_getElem hi] at q4
              cases q4
              exact ⟨lok, fun H' e' => ⟨rr H' (st8.trans e'), e' _ _ (by rw [upd_ne (fun z => D2n (by simp [z]))]; exact z1) D2n⟩⟩
    rintro sl H3 ⟨⟨o4, o5, o6, o7, rfl⟩, p3, k3, mi⟩
    obtain ⟨as, bs, lows, g1, g2, g3, g4, g5, g6⟩ := mi.at_
    have at6 : ∀ kk, kk < m.length → ∃ a b ls r, as[kk]? = some a ∧ bs[kk]? = some b ∧ lows[kk]? = some ls ∧ m[kk]? = some r := fun kk hk =>
      ⟨_, _, _, _, List.getElem?_eq_getElem (by omega), List.getElem?_eq_getElem (by omega), List.getElem?_eq_getElem (by omega), List.getElem?_eq_getElem hk⟩
    have lr : (lowR m lows).length = m.length := by unfold lowR; rw [List.length_zipWith]; omega
    have ld : (dueR m lows).length = m.length := by unfold dueR; rw [List.length_zipWith]; omega
    have gr : ∀ kk ls r, lows[kk]? = some ls → m[kk]? = some r → (lowR m lows)[kk]? = some (List.zipWith (fun x y => lo x y) r ls) ∧ (dueR m lows)[kk]? = some (List.zipWith (fun x y => x * (60 : Int).fdiv y) r ls) := fun kk ls r q1 q2 => by
      unfold lowR dueR
      rw [List.getElem?_zipWith, List.getElem?_zipWith, q1, q2]
      exact ⟨rfl, rfl⟩
    have hR : RatRows A H3 D (lowR m lows) := by
      obtain ⟨as', css, e, lc, hp⟩ := pick_all (vs := as.map V.ref) (n := 0) (P := fun i b cs => ∀ r ls, m[i]? = some r → lows[i]? = some ls → H3 b = some (.lst (cs.map V.ref)) ∧ cs.length = r.length ∧ ∀ (j : Nat) c x y, cs[j]? = some c → r[j]? = some x → ls[j]? = some y → RatAt A.C H3 c (lo x y)) fun i v hv => by
        rw [List.getElem?_map] at hv
        obtain ⟨b, hb, rfl⟩ := Option.map_eq_some_iff.mp hv
        have hi : i < m.length := by have := (List.getElem?_eq_some_iff.mp hb).1; omega
        obtain ⟨a', b', ls, r, q1, q2, q3, q4⟩ := at6 i hi
        rw [hb] at q1
        cases q1
        obtain ⟨cs, z1, z2, z3⟩ := ((g6 i b b' ls r hb q2 q3 q4).2 H3 St.refl).1
        refine ⟨b, cs, rfl, fun r' ls' y1 y2 => ?_⟩
        rw [Nat.zero_add] at y1 y2
        rw [q4] at y1
        rw [q3] at y2
        cases y1
        cases y2
        exact ⟨z1, z2, z3⟩
      have ea : as = as' := List.map_inj_right (fun _ _ h => V.ref.inj h) |>.mp e
      subst ea
      refine ⟨as, css, g1, by omega, by omega, fun i b cs r y1 y2 y3 => ?_⟩
      have hi : i < m.length := by have := (List.getElem?_eq_some_iff.mp y1).1; omega
      obtain ⟨a', b', ls, r', q1, q2, q3, q4⟩ := at6 i hi
      rw [(gr i ls r' q3 q4).1] at y3
      cases y3
      have lok := (g6 i a' b' ls r' q1 q2 q3 q4).1
      have := hp i b cs y1 y2 r' ls
      rw [Nat.zero_add] at this
      obtain ⟨z1, z2, z3⟩ := this q4 q3
      refine ⟨z1, by rw [z2, List.length_zipWith, lok.1, Nat.min_self], fun j c p' y4 y5 => ?_⟩
      rw [List.getElem?_zipWith] at y5
      split at y5
      · rename_i x y h1' h2'
        cases y5
        exact z3 j c x y y4 h1' h2'
      · cases y5
    have hE3 : RowsL H3 E' (dueR m lows) := by
      refine ⟨bs, g2, by omega, fun i b r y1 y2 => ?_⟩
      have hi : i < m.length := by have := (List.getElem?_eq_some_iff.mp y1).1; omega
      obtain ⟨a', b', ls, r', q1, q2, q3, q4⟩ := at6 i hi
      rw [y1] at q2
      cases q2
      rw [(gr i ls r' q3 q4).2] at y2
      cases y2
      exact ((g6 i a' b ls r' q1 y1 q3 q4).2 H3 St.refl).2
    have row : ∀ r, r ∈ lowR m lows → ∃ ls r', r = List.zipWith (fun x y => lo x y) r' ls ∧ LowOk r' ls ∧ r' ∈ m := fun r hr => by
      obtain ⟨i, hi⟩ := List.mem_iff_getElem?.mp hr
      have hi2 : i < m.length := by have := (List.getElem?_eq_some_iff.mp hi).1; omega
      obtain ⟨a', b', ls, r', q1, q2, q3, q4⟩ := at6 i hi2
      rw [(gr i ls r' q3 q4).1] at hi
      cases hi
      exact ⟨ls, r', rfl, (g6 i a' b' ls r' q1 q2 q3 q4).1, List.mem_of_getElem? q4⟩
    have six : ∀ y : Int, 1 ≤ y → y ≤ 6 → (60 : Int).fdiv y * y = 60 ∧ y.natAbs ∣ 60 := fun y y1 y6 => by
      have : y = 1 ∨ y = 2 ∨ y = 3 ∨ y = 4 ∨ y = 5 ∨ y = 6 := by omega
      rcases this with rfl | rfl | rfl | rfl | rfl | rfl <;> decide
    have rsp : ∀ r ∈ lowR m lows, ∀ q ∈ r, 0 < q.2 ∧ q.2.natAbs ∣ 60 ∧ Bd 900 q.1 := fun r hr q hq => by
      obtain ⟨ls, r', rfl, lok, hm'⟩ := row r hr
      obtain ⟨j, hj⟩ := List.mem_iff_getElem?.mp hq
      rw [List.getElem?_zipWith] at hj
      split at hj
      · rename_i x y h1' h2'
        cases hj
        obtain ⟨y1, y6⟩ := lok.2 y (List.mem_of_getElem? h2')
        refine ⟨lo_pos (by omega), ?_, ((tb.b r' hm' x (List.mem_of_getElem? h1')).abs (lo_top_le (by omega))).mono (by decide)⟩
        obtain ⟨kk, _, _, e2, _⟩ := lo_split (t := x) (b := y) (by omega)
        refine Nat.dvd_trans ?_ (six y y1 y6).2
        conv => rhs; rw [e2]
        rw [Int.natAbs_mul]
        exact Nat.dvd_mul_right _ _
      · cases hj
    obtain ⟨on1, on2⟩ := of_norm (rs := lowR m lows) (m := dueR m lows) (o := 60) (by decide) (fun r hr q hq => (rsp r hr q hq).1) (by omega) fun i r q y1 y2 => by
      have hi : i < m.length := by have := (List.getElem?_eq_some_iff.mp y1).1; omega
      obtain ⟨a', b', ls, r', q1, q2, q3, q4⟩ := at6 i hi
      have lok := (g6 i a' b' ls r' q1 q2 q3 q4).1
      rw [(gr i ls r' q3 q4).1] at y1
      rw [(gr i ls r' q3 q4).2] at y2
      cases y1
      cases y2
      refine ⟨by rw [List.length_zipWith, List.length_zipWith], fun j z x y3 y4 => ?_⟩
      rw [List.getElem?_zipWith] at y3 y4
      split at y3
      · rename_i u v h1' h2'
        rw [h1', h2'] at y4
        cases y3
        cases y4
        obtain ⟨v1, v6⟩ := lok.2 v (List.mem_of_getElem? h2')
        have c := lo_cross (t := u) (b := v) (by omega)
        have s6 := (six v v1 v6).1
        generalize (60 : Int).fdiv v = f at s6 ⊢
        rw [← s6]
        grind
      · cases y3
    have shm : (lowR m lows).map List.length = m.map List.length := by
      refine List.ext_getElem? fun i => ?_
      rw [List.getElem?_map, List.getElem?_map]
      by_cases hi : i < m.length
      · obtain ⟨a', b', ls, r', q1, q2, q3, q4⟩ := at6 i hi
        have lok := (g6 i a' b' ls r' q1 q2 q3 q4).1
        rw [(gr i ls r' q3 q4).1, q4]
        show some _ = some _
        rw [List.length_zipWith, lok.1, Nat.min_self]
      · rw [List.getElem?_eq_none (by omega), List.getElem?_eq_none (by omega)]; rfl
    have rcd : Rect (dueR m lows) := by
      refine rect_of (w := wideOf m) (by rw [ld]; exact rc.l) rc.w fun r hr => ?_
      obtain ⟨i, hi⟩ := List.mem_iff_getElem?.mp hr
      have hi2 : i < m.length := by have := (List.getElem?_eq_some_iff.mp hi).1; omega
      obtain ⟨a', b', ls, r', q1, q2, q3, q4⟩ := at6 i hi2
      have lok := (g6 i a' b' ls r' q1 q2 q3 q4).1
      rw [(gr i ls r' q3 q4).2] at hi
      cases hi
      rw [List.length_zipWith, lok.1, Nat.min_self, rc.r r' (List.mem_of_getElem? q4)]
    obtain ⟨xs, hl⟩ := hR.lens (K := K)
    refine ⟨rfl, _, rfl, D, xs, _, rfl, hl, by rw [shm, List.length_map]; exact int64 rc.l, fun z => absurd (by rw [shm]; exact rc.sh) z, fun _ => ⟨lowR m lows, 60, rfl, hR, by decide, by decide, rsp, fun b H4 e4 gx => ?_⟩⟩
    rw [on1, on2] at gx
    exact ⟨_, rfl, b, E', dueR m lows, 60, rfl, gx, hE3.ex e4, rcd, by decide, bd_of (by decide +kernel), fun H5 e5 => k H5 (p3.ex (e4.trans e5)) (k3.trans (Keep.of (e4.trans e5)))⟩
end
end Fc
set_option Elab.async false
set_option linter.all false
set_option maxRecDepth 100000
set_option maxHeartbeats 4000000
set_option exponentiation.threshold 100000
namespace Fc
open PySem PySem.Spec PyProof.Rows L2 L2H
theorem ixN_nat {n j : Nat} (h : j < n) : ixN n (j : Int) = some j := by
  have h2 := atI_nat (xs := List.range n) (j := j) (v := j) (List.getElem?_range h)
  unfold atI at h2
  rw [List.length_range] at h2
  cases e : ixN n (j : Int) with
  | none => rw [e] at h2; cases h2
  | some k =>
    rw [e] at h2
    have h3 : (List.range n)[k]? = some j := h2
    obtain ⟨h4, h5⟩ := List.getElem?_eq_some_iff.mp h3
    rw [List.getElem_range] at h5
    rw [h5]
/-- one entry greater by 1 -/
def bumpR (m : List (List Int)) (i j : Nat) : List (List Int) := m.set i ((m.getD i []).set j ((m.getD i []).getD j 0 + 1))
theorem bump_ne {m : List (List Int)} {i j : Nat} (hi : i < m.length) (hj : j < m[i].length) : m ≠ bumpR m i j := by
  intro e
  have e1 : (bumpR m i j)[i]? = some ((m.getD i []).set j ((m.getD i []).getD j 0 + 1)) := by unfold bumpR; rw [List.getElem?_set_self hi]
  have e0 : m.getD i [] = m[i] := by rw [List.getD_eq_getElem?_getD, List.getElem?_eq_getElem hi]; rfl
  rw [← e, List.getElem?_eq_getElem hi, e0] at e1
  have e2 := congrArg (fun r => r[j]?) (Option.some.inj e1)
  simp only [List.getElem?_set_self hj, List.getElem?_eq_getElem hj] at e2
  rw [List.getD_eq_getElem?_getD, List.getElem?_eq_getElem hj] at e2
  have := Option.some.inj e2
  rw [Option.getD_some] at this
  omega
theorem bump_rect {m : List (List Int)} {i j : Nat} (rc : Rect m) (hi : i < m.length) : Rect (bumpR m i j) := by
  refine rect_of (w := wideOf m) (by unfold bumpR; rw [List.length_set]; exact rc.l) rc.w fun r hr => ?_
  unfold bumpR at hr
  rcases List.mem_or_eq_of_mem_set hr with h | h
  · exact rc.r r h
  · rw [h, List.length_set, List.getD_eq_getElem?_getD, List.getElem?_eq_getElem hi]
    exact rc.r _ (List.getElem_mem hi)
section
variable {P : Program} {w : World} {K : PySem.W.Frag} {mg : Str → Option Value} {base : Heap} {A : Ad}
theorem tyG (T : Txt K mg A) {H : Hp} {a dx : Addr} {fs : List (Str × V)} (h : H a = some (.ins A.Gr dx fs)) : TyX K H (.ref a) (.ref A.Gr) := .base (.ins h T.c_Gr T.ha_Gr T.hn T.htk T.hm_Gr)
/-- == of two Grids -/
theorem rd_eqG (T : Txt K mg A) {g h : Addr} {m n : List (List Int)} {o u : Int} {H : Hp} {Q : VK} (hg : GridAt A H g m o) (hh : GridAt A H h n u) (q : Q (.bl (decide (m = n) && decide (o = u))) H) : rEqR K A.Gr (spGeq K A) E0 (.ref g) (.ref h) H Q := by
  obtain ⟨dx, R, i1, _⟩ := id hg
  obtain ⟨dy, S, i2, _⟩ := id hh
  exact .inl ⟨g, dx, _, _, rfl, i1, tyG T i2, nf_self, g, _, _, _, rfl, hg, .inl ⟨h, _, _, rfl, hh, q⟩⟩
theorem rd_neG (T : Txt K mg A) {g : Addr} {m : List (List Int)} {o : Int} {v : V} {H : Hp} {Q : VK} (hg : GridAt A H g m o) (hv : v = .non ∨ ∃ t xs, v = .ref t ∧ H t = some (.tup xs)) (q : Q (.bl false) H) : rEqR K A.Gr (spGeq K A) E0 (.ref g) v H Q := by
  obtain ⟨dx, R, i1, _⟩ := id hg
  rcases id hv with rfl | ⟨t, xs, rfl, ht⟩
  · exact .inl ⟨g, dx, _, _, rfl, i1, .base .non, nf_ty (T.subG "NoneType" (by simp)).1, g, _, _, _, rfl, hg, .inr ⟨hv, q⟩⟩
  · exact .inl ⟨g, dx, _, _, rfl, i1, .base (.tup ht), nf_ty (T.subG "tuple" (by simp)).1, g, _, _, _, rfl, hg, .inr ⟨hv, q⟩⟩
theorem Tab.rcn {m : List (List Int)} {o : Int} (tb : Tab m o) : Rect (nR m o) := tb.rc.map fun r => List.length_map ..
theorem Tab.bn {m : List (List Int)} {o : Int} (tb : Tab m o) : Bd 31 (nO m o) := by
  refine tb.bo.abs ?_
  unfold nO
  rw [Int.fdiv_eq_ediv_of_nonneg _ (Int.le_of_lt (nG_pos tb.o1))]
  exact Int.natAbs_ediv_le_natAbs _ _
def spEntries (A : Ad) : Sp := fun vs H Q _ => ∃ (g a : Addr) (m : List (List Int)) (o : Int), vs = [.ref g, .ref a, .int o] ∧ GridAt A H g (nR m o) (nO m o) ∧ RowsL H a m ∧ Tab m o ∧ ∀ H', Ex H H' → Q (.bl true) H'
theorem ok_entries (T : Txt K mg A) : FnOk P w K mg base CX0 8 A.f_entries A.d_entries ["a", "rows", "over"] (spEntries A) := by
  refine T.F_entries.ok sc_entries (fun vs H Q E h => ?_) (fun cdv Ar outer s H vs Q E hr h => ?_)
  · obtain ⟨g, a, m, o, rfl, _⟩ := h
    rfl
  · obtain ⟨g, a, m, o, rfl, hg, hm, tb, k⟩ := h
    refine ⟨_, (C8.pss_cut (ps_set (i := 3) sc_entries.nd rfl (Or.inl rfl) (pe_callB call_len (by rfl) T.n_len PySem.boot_len (pa_cons (pv 1) pa_nil)))
      (C8.pss_cut (ps_set (i := 4) sc_entries.nd rfl (Or.inl rfl) (pe_call (ok_wide T) (hr.mono (by decide)) rfl T.g_wide T.F_wide.kp T.b_wide .nil pass0 (pa_cons (pv 1) pa_nil)))
      (C8.pss_cut (ps_for PassesOwn.never rfl (pi_range1 rfl T.n_range (pa_cons (pv 3) pa_nil)) (pg_name (i := 5) sc_entries.nd rfl (Or.inl rfl))
      (pss_one (ps_for PassesOwn.never rfl (pi_range1 rfl T.n_range (pa_cons (pv 4) pa_nil)) (pg_name (i := 6) sc_entries.nd rfl (Or.inl rfl))
      (C8.pss_cut (ps_if (pt_not (pt_val (pe_call (ok_isratio T) (hr.mono (by decide)) rfl T.g_isratio T.F_isratio.kp T.b_isratio .nil pass0 (pa_cons (pe_ixO T.m_gget.at_ T.fi_gget T.m_gget.fn (ok_gget T) (hr.mono (by decide)) T.b_gget passE0 (pv 0) (pe_tup (pa_cons (pv 5) (pa_cons (pv 6) pa_nil)))) (pa_cons (pe_ix ix_list (pe_ix ix_list (pv 1) (pv 5) (fun _ _ => rfl)) (pv 6) (fun _ _ => rfl)) (pa_cons (pv 2) pa_nil))))))
      (pss_one (ps_ret pe_bl)) pss_nil)
      (C8.pss_cut (ps_set (i := 7) sc_entries.nd rfl (Or.inl rfl) (pe_call (ok_copy T) (hr.mono (by decide)) rfl T.g_copy T.F_copy.kp T.b_copy .nil pass0 (pa_cons (pv 1) pa_nil)))
      (C8.pss_cut (ps_asg (pe_op op_add (pe_ix ix_list (pe_ix ix_list (pv 7) (pv 5) (fun _ _ => rfl)) (pv 6) (fun _ _ => rfl)) pe_int) (pg_sub (pe_ix ix_list (pv 7) (pv 5) (fun _ _ => rfl)) (pv 6) set_list))
      (C8.pss_cut (ps_set (i := 8) sc_entries.nd rfl (Or.inl rfl) (pe_make T.mk_Gr (ok_ginit T) (hr.mono (by decide)) rfl T.g_Grid T.b_ginit .nil passLN (pa_cons (pv 7) (pa_cons (pv 2) pa_nil))))
      (pss_one (ps_if (PW.pt (pw_or (pt_cmpR op_notBl (pe_cmpR (op_eqR T.subG T.m_geq.at_ T.m_geq.fn (ok_geq T) (hr.mono (by decide)) T.b_geq pass0) (pv 0) (pv 8) (nomark _)) pe_bl (nomark _)) (pw_or1 (pt_cmpR op_notBl (pe_cmpR (op_eqR T.subG T.m_geq.at_ T.m_geq.fn (ok_geq T) (hr.mono (by decide)) T.b_geq pass0) (pv 8) (pv 0) (nomark _)) pe_bl (nomark _)))))
      (pss_one (ps_ret pe_bl)) pss_nil)))))))))
      (C8.pss_cut (ps_for PassesOwn.never rfl (pi_list (pe_lst (pa_cons (pe_fld (pv 0) rfl) (pa_cons (pe_tup (pa_cons (pe_fld (pv 0) rfl) (pa_cons (pe_fld (pv 0) rfl) pa_nil))) (pa_cons pe_non pa_nil))))) (pg_name (i := 7) sc_entries.nd rfl (Or.inl rfl))
      (pss_one (ps_if (pt_cmpR op_notBl (pe_cmpR (op_eqR T.subG T.m_geq.at_ T.m_geq.fn (ok_geq T) (hr.mono (by decide)) T.b_geq pass0) (pv 0) (pv 7) (nomark _)) pe_bl (nomark _))
      (pss_one (ps_ret pe_bl)) pss_nil)))
      (C8.pss_cut (ps_for PassesOwn.never rfl (pi_list (pe_lst (pa_cons (pe_tup (pa_cons (pe_un un_neg pe_int) (pa_cons pe_int pa_nil))) (pa_cons (pe_tup (pa_cons (pv 3) (pa_cons pe_int pa_nil))) (pa_cons (pe_tup (pa_cons pe_int (pa_cons (pe_un un_neg pe_int) pa_nil))) (pa_cons (pe_tup (pa_cons pe_int (pa_cons (pv 4) pa_nil))) (pa_cons (pe_tup (pa_cons (pe_op op_add (pv 3) pe_int) (pa_cons (pe_un un_neg pe_int) pa_nil))) pa_nil))))))) (pg_name (i := 9) sc_entries.nd rfl (Or.inl rfl))
      (pss_one (ps_if (pt_not (pt_val (pe_call (ok_noentry T) (hr.mono (by decide)) rfl T.g_noentry T.F_noentry.kp T.b_noentry .nil pass0 (pa_cons (pv 0) (pa_cons (pe_ix ix_tup (pv 9) pe_int (fun _ _ => rfl)) (pa_cons (pe_ix ix_tup (pv 9) pe_int (fun _ _ => rfl)) pa_nil))))))
      (pss_one (ps_ret pe_bl)) pss_nil)))
      (pss_one (ps_ret pe_bl))))))), ?_⟩
    have rc := tb.rc
    obtain ⟨as0, h1, h2, h3⟩ := id hm
    refine ⟨fun sl H1 => sl = [some (.ref g), some (.ref a), some (.int o), some (.int (m.length : Nat)), none, none, none, none, none, none] ∧ H1 = H, ?_, ?_⟩
    · refine ⟨_, rfl, _, _, rfl, lenv (.inl (SqL.of h1)), ?_⟩
      rw [List.length_map, h2]
      exact ⟨rfl, rfl⟩
    rintro sl H1 ⟨rfl, rfl⟩
    refine ⟨fun sl H2 => sl = [some (.ref g), some (.ref a), some (.int o), some (.int (m.length : Nat)), some (.int (wideOf m : Nat)), none, none, none, none, none] ∧ Ex H1 H2, ?_, ?_⟩
    · exact ⟨_, rfl, a, m, rfl, hm, fun r hr => by rw [rc.r r hr]; exact int64 rc.w, fun H2 e => ⟨rfl, e⟩⟩
    rintro sl H2 ⟨rfl, e2⟩
    refine ⟨fun sl H3 => (∃ o5 o6 o7 o8 o9, sl = [some (.ref g), some (.ref a), some (.int o), some (.int (m.length : Nat)), some (.int (wideOf m : Nat)), o5, o6, o7, o8, o9]) ∧ Ex H1 H3, ?_, ?_⟩
    · refine forR (lo := 0) (n := m.length) (fun i sl H3 => (∃ o5 o6 o7 o8 o9, sl = [some (.ref g), some (.ref a), some (.int o), some (.int (m.length : Nat)), some (.int (wideOf m : Nat)), o5, o6, o7, o8, o9]) ∧ Ex H1 H3)
        (fun P h => ⟨_, rfl, (m.length : Int), rfl, by omega, by have := rc.l; omega, by simpa using h⟩) ⟨⟨_, _, _, _, _, rfl⟩, e2⟩ (fun i sl H3 hi q => ?_) (fun sl H3 q => q)
      obtain ⟨⟨o5, o6, o7, o8, o9, rfl⟩, e3⟩ := q
      rw [show (0 : Int) + (i : Int) = (i : Int) by omega]
      refine forR (lo := 0) (n := wideOf m) (fun j sl H3 => (∃ o6 o7 o8 o9, sl = [some (.ref g), some (.ref a), some (.int o), some (.int (m.length : Nat)), some (.int (wideOf m : Nat)), some (.int (i : Int)), o6, o7, o8, o9]) ∧ Ex H1 H3)
        (fun P h => ⟨_, rfl, (wideOf m : Int), rfl, by omega, by have := rc.w; omega, by simpa using h⟩) ⟨⟨_, _, _, _, rfl⟩, e3⟩ (fun j sl H4 hj q => ?_) (fun sl H4 q => ⟨let ⟨⟨a, b, c, d, e⟩, _⟩ := q; ⟨_, a, b, c, d, e⟩, q.2⟩)
      obtain ⟨⟨p6, p7, p8, p9, rfl⟩, e4⟩ := q
      rw [show (0 : Int) + (j : Int) = (j : Int) by omega]
      have lw := rc.r _ (List.getElem_mem hi)
      have hj2 : j < m[i].length := by omega
      have hb0 : as0[i]? = some (as0[i]'(by omega)) := List.getElem?_eq_getElem (by omega)
      generalize hbb : as0[i]'(by omega) = b at hb0
      have hb := h3 i b _ hb0 (List.getElem?_eq_getElem hi)
      have at1 := atI_nat (xs := as0.map V.ref) (j := i) (v := V.ref b) (by rw [List.getElem?_map, hb0]; rfl)
      have ec : (m.getD i []).getD j 0 = m[i][j] := by
        have e0 : m.getD i [] = m[i] := by rw [List.getD_eq_getElem?_getD, List.getElem?_eq_getElem hi]; rfl
        rw [e0, List.getD_eq_getElem?_getD, List.getElem?_eq_getElem hj2]
        rfl
      have at2 := atI_nat (xs := m[i].map V.int) (j := j) (v := V.int ((m.getD i []).getD j 0)) (by rw [ec, List.getElem?_map, List.getElem?_eq_getElem hj2]; rfl)
      have bc : Bd 31 ((m.getD i []).getD j 0) := by rw [ec]; exact tb.b _ (List.getElem_mem hi) _ (List.getElem_mem hj2)
      obtain ⟨dx, R, hgi, _⟩ := id hg
      refine ⟨fun sl H5 => sl = [some (.ref g), some (.ref a), some (.int o), some (.int (m.length : Nat)), some (.int (wideOf m : Nat)), some (.int (i : Int)), some (.int (j : Int)), p7, p8, p9] ∧ Ex H4 H5, ?_, ?_⟩
      · refine ⟨_, rfl, _, rfl, _, rfl, (by show 2 ≤ sizeLine; rw [sizeLine_eq]; omega), fun t nt => ?_⟩
        have et := Ex.new (o := .tup [.int (i : Int), .int (j : Int)]) nt
        refine ⟨g, dx, _, rfl, et _ _ (e4 _ _ hgi), g, t, _, _, (i : Int), (j : Int), rfl, (hg.ex e4).ex et, upd_same, fun z => absurd ⟨⟨by omega, by rw [nR_len]; omega⟩, by omega, by rw [nR_wide]; omega⟩ z, fun _ _ _ _ => ⟨tb.rcn, nO_pos tb.o1, tb.bn.mono (by decide), fun x H5 e5 hx => ?_⟩⟩
        rw [show ((i : Nat) : Int).toNat = i by omega, show ((j : Nat) : Int).toNat = j by omega, lo_norm tb.o1 (fun n => (n.getD i []).getD j 0) (fun n k => getDD_mul n k i j)] at hx
        have E5 := e4.trans (et.trans e5)
        exact ⟨_, rfl, _, rfl, _, _, _, _, rfl, rfl, SqL.of (E5 _ _ h1), at1, _, rfl, _, _, _, _, rfl, rfl, SqL.of (E5 _ _ hb), at2, _, rfl, x, _, _, rfl, hx, by have := tb.o1; omega, bc.mono (by decide), tb.bo.mono (by decide), _, rfl, iteF ⟨rfl, et.trans e5⟩⟩
      rintro sl H5 ⟨rfl, e5⟩
      have E5 := e4.trans e5
      refine ⟨fun sl H6 => ∃ O, sl = [some (.ref g), some (.ref a), some (.int o), some (.int (m.length : Nat)), some (.int (wideOf m : Nat)), some (.int (i : Int)), some (.int (j : Int)), some (.ref O), p8, p9] ∧ Ex H5 H6 ∧ H5 O = none ∧ RowsN H5 H6 O m, ?_, ?_⟩
      · exact ⟨_, rfl, a, m, rfl, hm.ex E5, by have := rc.l; omega, fun O H6 e6 nOO rn => ⟨O, rfl, e6, nOO, rn⟩⟩
      rintro sl H6 ⟨O, rfl, e6, nOO, bs, g1, g2, g3, g4, g5⟩
      have E6 := E5.trans e6
      have hc0 : bs[i]? = some (bs[i]'(by omega)) := List.getElem?_eq_getElem (by omega)
      generalize hcc : bs[i]'(by omega) = c at hc0
      have hc := g3 i c _ hc0 (List.getElem?_eq_getElem hi)
      have cm : c ∈ bs := List.mem_of_getElem? hc0
      have Oc : O ≠ c := fun z => (List.nodup_cons.mp g5).1 (by rw [z]; exact cm)
      have at3 := atI_nat (xs := bs.map V.ref) (j := i) (v := V.ref c) (by rw [List.getElem?_map, hc0]; rfl)
      refine ⟨fun sl H7 => sl = [some (.ref g), some (.ref a), some (.int o), some (.int (m.length : Nat)), some (.int (wideOf m : Nat)), some (.int (i : Int)), some (.int (j : Int)), some (.ref O), p8, p9] ∧ Ex H5 H7 ∧ RowsL H7 O (bumpR m i j), ?_, ?_⟩
      · refine ⟨_, rfl, _, rfl, _, _, _, _, rfl, rfl, SqL.of g1, at3, _, rfl, _, _, _, _, rfl, rfl, SqL.of hc, at2, _, _, rfl, rfl, _, rfl, _, rfl, _, _, _, _, rfl, rfl, SqL.of g1, at3, _, rfl, c, _, (j : Int), j, rfl, rfl, hc, ixN_nat (by rw [List.length_map]; exact hj2), rfl, ?_, bs, ?_, ?_, ?_⟩
        · exact fun d od hd => by rw [upd_ne (ne_of_none hd (g4 c cm))]; exact e6 _ _ hd
        · rw [upd_ne Oc]; exact g1
        · unfold bumpR; rw [List.length_set]; exact g2
        · intro kk d r q1 q2
          unfold bumpR at q2
          by_cases ck : kk = i
          · subst ck
            rw [hc0] at q1
            cases q1
            rw [List.getElem?_set_self hi] at q2
            cases q2
            have e0 : m.getD kk [] = m[kk] := by rw [List.getD_eq_getElem?_getD, List.getElem?_eq_getElem hi]; rfl
            rw [upd_same, e0, List.map_set]
          · rw [List.getElem?_set_ne (Ne.symm ck)] at q2
            have hne : d ≠ c := fun z => ck (by
              subst z
              have := (List.getElem?_inj (by have := (List.getElem?_eq_some_iff.mp q1).1; exact this) (List.nodup_cons.mp g5).2).mp (q1.trans hc0.symm)
              exact this)
            rw [upd_ne hne]
            exact g3 kk d r q1 q2
      rintro sl H7 ⟨rfl, e7, hO⟩
      have E7 := E5.trans e7
      refine ⟨fun sl H8 => ∃ b, sl = [some (.ref g), some (.ref a), some (.int o), some (.int (m.length : Nat)), some (.int (wideOf m : Nat)), some (.int (i : Int)), some (.int (j : Int)), some (.ref O), some (.ref b), p9] ∧ Ex H7 H8 ∧ GridAt A H8 b (nR (bumpR m i j) o) (nO (bumpR m i j) o), ?_, ?_⟩
      · exact ⟨_, rfl, _, rfl, rd_grid hO.matv (bump_rect rc hi) tb.o1 (tb.bo.mono (by decide)) fun b H8 e8 _ gx => ⟨b, rfl, e8, gx⟩⟩
      rintro sl H8 ⟨b8, rfl, e8, gb⟩
      have hg8 := hg.ex (E7.trans e8)
      have ff : (decide (nR m o = nR (bumpR m i j) o) && decide (nO m o = nO (bumpR m i j) o)) = false := by
        by_cases z1 : nR m o = nR (bumpR m i j) o
        · by_cases z2 : nO m o = nO (bumpR m i j) o
          · exact absurd (norm_inj tb.o1 z1 z2) (bump_ne hi hj2)
          · simp [z2]
        · simp [z1]
      have ff2 : (decide (nR (bumpR m i j) o = nR m o) && decide (nO (bumpR m i j) o = nO m o)) = false := by
        rw [← ff]
        congr 1 <;> exact decide_eq_decide.mpr eq_comm
      refine ⟨_, rfl, _, rfl, rd_eqG T hg8 gb ?_⟩
      rw [ff]
      refine ⟨_, _, rfl, rfl, _, rfl, iteF ⟨_, rfl, _, rfl, rd_eqG T gb hg8 ?_⟩⟩
      rw [ff2]
      exact ⟨_, _, rfl, rfl, _, rfl, iteF ⟨⟨_, _, _, _, rfl⟩, E7.trans e8⟩⟩
    rintro sl H3 ⟨⟨o5, o6, o7, o8, o9, rfl⟩, e3⟩
    obtain ⟨dx, R, hgi, hR⟩ := id hg
    have hg3 := e3 _ _ hgi
    have gg3 := hg.ex e3
    refine ⟨fun sl H4 => (∃ o7, sl = [some (.ref g), some (.ref a), some (.int o), some (.int (m.length : Nat)), some (.int (wideOf m : Nat)), o5, o6, o7, o8, o9]) ∧ Ex H3 H4, ?_, ?_⟩
    · refine ⟨_, rfl, _, _, _, _, _, rfl, hg3, T.c_Gr, T.na_Gr_rows, zip_get (i := 0) GN_nd rfl rfl, _, rfl, _, _, _, _, _, rfl, hg3, T.c_Gr, T.na_Gr_rows, zip_get (i := 0) GN_nd rfl rfl, _, rfl, _, _, _, _, _, rfl, hg3, T.c_Gr, T.na_Gr_over, zip_get (i := 1) GN_nd rfl rfl, (by show 2 ≤ sizeLine; rw [sizeLine_eq]; omega), fun t nt => ⟨(by show 3 ≤ sizeLine; rw [sizeLine_eq]; omega), fun L nL => ⟨L, rfl, ⟨_, SqL.of upd_same⟩, ?_⟩⟩⟩
      have et := Ex.new (o := .tup [.ref R, .int (nO m o)]) nt
      have eL := Ex.new (o := .lst [.ref R, .ref t, .non]) nL
      refine for_list (K := K) (a := L) (xs := [.ref R, .ref t, .non]) (fun i sl H4 => (∃ o7, sl = [some (.ref g), some (.ref a), some (.int o), some (.int (m.length : Nat)), some (.int (wideOf m : Nat)), o5, o6, o7, o8, o9]) ∧ H4 = upd (upd H3 t (.tup [.ref R, .int (nO m o)])) L (.lst [.ref R, .ref t, .non]))
        ⟨⟨_, rfl⟩, rfl⟩ (fun i sl H4 _ q => by rw [q.2]; exact SqL.of upd_same) (fun i v sl H4 hv q => ?_) (fun sl H4 q => ⟨q.1, by rw [q.2]; exact et.trans eL⟩)
      obtain ⟨⟨q7, rfl⟩, rfl⟩ := q
      have hv2 : v = .non ∨ ∃ t' xs, v = .ref t' ∧ (upd (upd H3 t (.tup [.ref R, .int (nO m o)])) L (.lst [.ref R, .ref t, .non])) t' = some (.tup xs) := by
        obtain ⟨bs, r1, _⟩ := hR
        match i, hv with
        | 0, hv => cases hv; exact .inr ⟨R, _, rfl, eL _ _ (et _ _ (e3 _ _ r1))⟩
        | 1, hv => cases hv; exact .inr ⟨t, _, rfl, eL _ _ upd_same⟩
        | 2, hv => cases hv; exact .inl rfl
        | i + 3, hv => simp at hv
      refine ⟨_, rfl, _, rfl, rd_neG T ((gg3.ex et).ex eL) hv2 ⟨_, _, rfl, rfl, _, rfl, iteF ⟨⟨_, rfl⟩, rfl⟩⟩⟩
    rintro sl H4 ⟨⟨q7, rfl⟩, e4⟩
    have E4 := e3.trans e4
    refine ⟨fun sl H5 => Ex H4 H5, ?_, fun sl H5 e5 => k H5 (E4.trans e5)⟩
    refine ⟨_, rfl, (by show 2 ≤ sizeLine; rw [sizeLine_eq]; omega), fun t1 n1 => ⟨_, rfl, (by show 2 ≤ sizeLine; rw [sizeLine_eq]; omega), fun t2 n2 => ⟨_, rfl, (by show 2 ≤ sizeLine; rw [sizeLine_eq]; omega), fun t3 n3 => ⟨_, rfl, (by show 2 ≤ sizeLine; rw [sizeLine_eq]; omega), fun t4 n4 => ⟨_, rfl, _, _, rfl, rfl, _, rfl, (by show 2 ≤ sizeLine; rw [sizeLine_eq]; omega), fun t5 n5 => ⟨(by show 5 ≤ sizeLine; rw [sizeLine_eq]; omega), fun L nL => ⟨L, rfl, ⟨_, SqL.of upd_same⟩, ?_⟩⟩⟩⟩⟩⟩⟩
    have f2 := Ex.new (o := .tup [.int (m.length : Nat), .int 0]) n2
    have f3 := Ex.new (o := .tup [.int 0, .int (-1)]) n3
    have f4 := Ex.new (o := .tup [.int 0, .int (wideOf m : Nat)]) n4
    have f5 := Ex.new (o := .tup [.int ((m.length : Nat) + 2), .int (-3)]) n5
    have f1 := Ex.new (o := .tup [.int (-1), .int 0]) n1
    have fL := Ex.new (o := .lst [.ref t1, .ref t2, .ref t3, .ref t4, .ref t5]) nL
    have hl := (nR_len m o)
    have hw := (nR_wide m o)
    have all : ∀ (i : Nat) v, ([.ref t1, .ref t2, .ref t3, .ref t4, .ref t5] : List V)[i]? = some v → ∃ t x y, v = V.ref t ∧ (upd (upd (upd (upd (upd (upd H4 t1 (.tup [.int (-1), .int 0])) t2 (.tup [.int (m.length : Nat), .int 0])) t3 (.tup [.int 0, .int (-1)])) t4 (.tup [.int 0, .int (wideOf m : Nat)])) t5 (.tup [.int ((m.length : Nat) + 2), .int (-3)])) L (.lst [.ref t1, .ref t2, .ref t3, .ref t4, .ref t5])) t = some (.tup [.int x, .int y]) ∧ ¬ ((0 ≤ x ∧ x < ((nR m o).length : Nat)) ∧ 0 ≤ y ∧ y < (wideOf (nR m o) : Nat)) := by
      intro i v hv
      match i, hv with
      | 0, hv => cases hv; exact ⟨t1, -1, 0, rfl, fL _ _ (f5 _ _ (f4 _ _ (f3 _ _ (f2 _ _ upd_same)))), by omega⟩
      | 1, hv => cases hv; exact ⟨t2, (m.length : Nat), 0, rfl, fL _ _ (f5 _ _ (f4 _ _ (f3 _ _ upd_same))), by omega⟩
      | 2, hv => cases hv; exact ⟨t3, 0, -1, rfl, fL _ _ (f5 _ _ (f4 _ _ upd_same)), by omega⟩
      | 3, hv => cases hv; exact ⟨t4, 0, (wideOf m : Nat), rfl, fL _ _ (f5 _ _ upd_same), by omega⟩
      | 4, hv => cases hv; exact ⟨t5, (m.length : Nat) + 2, -3, rfl, fL _ _ upd_same, by omega⟩
      | i + 5, hv => simp at hv
    refine for_list (K := K) (a := L) (xs := [.ref t1, .ref t2, .ref t3, .ref t4, .ref t5]) (fun i sl H5 => (∃ o9, sl = [some (.ref g), some (.ref a), some (.int o), some (.int (m.length : Nat)), some (.int (wideOf m : Nat)), o5, o6, q7, o8, o9]) ∧ Ex (upd (upd (upd (upd (upd (upd H4 t1 (.tup [.int (-1), .int 0])) t2 (.tup [.int (m.length : Nat), .int 0])) t3 (.tup [.int 0, .int (-1)])) t4 (.tup [.int 0, .int (wideOf m : Nat)])) t5 (.tup [.int ((m.length : Nat) + 2), .int (-3)])) L (.lst [.ref t1, .ref t2, .ref t3, .ref t4, .ref t5])) H5)
      ⟨⟨_, rfl⟩, fun _ _ h => h⟩ (fun i sl H4 _ q => SqL.of (q.2 _ _ upd_same)) (fun i v sl H5 hv q => ?_) (fun sl H5 q => f1.trans (f2.trans (f3.trans (f4.trans (f5.trans (fL.trans q.2))))))
    obtain ⟨⟨q9, rfl⟩, e5⟩ := q
    obtain ⟨t, x, y, rfl, ht, bad⟩ := all i v hv
    have ht5 := e5 _ _ ht
    have E5 := e4.trans (f1.trans (f2.trans (f3.trans (f4.trans (f5.trans (fL.trans e5))))))
    exact ⟨_, rfl, _, rfl, _, _, _, _, rfl, rfl, SqT.of (ht5), rfl, _, rfl, _, _, _, _, rfl, rfl, SqT.of (ht5), rfl, g, _, _, x, y, rfl, gg3.ex E5, bad, fun H6 e6 => ⟨_, rfl, iteF ⟨⟨_, rfl⟩, e5.trans e6⟩⟩⟩
end
end Fc
set_option Elab.async false
set_option linter.all false
set_option maxRecDepth 100000
set_option maxHeartbeats 4000000
set_option exponentiation.threshold 100000
namespace Fc
open PySem PySem.Spec PyProof.Rows L2 L2H
theorem bdn {n : Nat} (h : n ≤ 100) : Bd 300 (n : Int) := Nat.lt_of_le_of_lt (by rw [Int.natAbs_natCast]; exact h) (by decide +kernel : 100 < 2 ^ 300)
theorem cut_to {xs : List V} {n : Nat} (h : n ≤ xs.length) : cutV xs none (some (n : Int)) = xs.take n := by
  unfold cutV
  have e1 : HT.sIx xs.length xs.length (some (n : Int)) = n := by
    show (if (n : Int) < 0 then ((n : Int) + (xs.length : Int)).toNat else min (n : Int).toNat xs.length) = n
    rw [if_neg (by omega)]; omega
  have e2 : HT.sIx xs.length 0 none = 0 := rfl
  rw [e1, e2, List.drop_zero, Nat.sub_zero]
theorem cut_from {xs : List V} {n : Nat} (h : n ≤ xs.length) : cutV xs (some (n : Int)) none = xs.drop n := by
  unfold cutV
  have e1 : HT.sIx xs.length 0 (some (n : Int)) = n := by
    show (if (n : Int) < 0 then ((n : Int) + (xs.length : Int)).toNat else min (n : Int).toNat xs.length) = n
    rw [if_neg (by omega)]; omega
  have e2 : HT.sIx xs.length xs.length none = xs.length := rfl
  rw [e1, e2, List.take_of_length_le (by rw [List.length_drop]; omega)]
theorem find_ins {n x : Int} {pre rest : List Int} (h : ∀ y ∈ pre, 0 ≤ y ∧ y < n) (hx : x < 0 ∨ n ≤ x) : (pre ++ x :: rest).find? (outB n) = some x := by
  rw [List.find?_append]
  have e : pre.find? (outB n) = none := List.find?_eq_none.mpr fun y hy => by
    have := h y hy
    simp [outB, this.1, this.2]
  have hb : outB n x = true := by
    simp only [outB, Bool.not_eq_true', Bool.and_eq_false_iff, decide_eq_false_iff_not]
    omega
  rw [e, List.find?_cons, hb]
  rfl
/-- the lists that stand beside draws -/
theorem kpI {H H' : Hp} {p l a : Addr} {ns : List Int} (h : H a = some (.lst (ns.map V.int))) (pot : PotL H p l) (k : Keep p H H') : H' a = some (.lst (ns.map V.int)) := k _ _ h (ints_ne pot h)
def insL (ns : List Int) (d : Nat) (x y : Int) : List Int := ns.take d ++ x :: (ns.drop d ++ [y])
theorem insL_eq (ns : List Int) (d : Nat) (x y : Int) : (ns.map V.int).take d ++ [V.int x] ++ (ns.map V.int).drop d ++ [V.int y] = (insL ns d x y).map V.int := by
  unfold insL
  simp [List.map_take, List.map_drop]
section
variable {P : Program} {w : World} {K : PySem.W.Frag} {mg : Str → Option Value} {base : Heap} {A : Ad}
/-- ns[:d] + [x] + ns[d:] + [y], read -/
theorem rd_ins {H : Hp} {a : Addr} {ns : List Int} {d : Nat} {x y : Int} {R : Addr → Hp → Prop} (ha : H a = some (.lst (ns.map V.int))) (hd : d ≤ ns.length) (l5 : ns.length ≤ 100)
    (k : ∀ q H', Ex H H' → H q = none → H' q = some (.lst ((insL ns d x y).map V.int)) → R q H') :
    ∀ q1, H q1 = none → (upd H q1 (.lst (cutV (ns.map V.int) none (some (d : Int))))) a = some (.lst (ns.map V.int)) := fun q1 n1 => by
  rw [upd_ne (ne_of_none ha n1)]; exact ha
def spParts (A : Ad) : Sp := fun vs H Q _ => ∃ (p l g a : Addr) (m : List (List Int)) (o : Int), vs = [.ref p, .ref g, .ref a, .int o] ∧ PotL H p l ∧ GridAt A H g (nR m o) (nO m o) ∧ RowsL H a m ∧ Tab m o ∧ ∀ H', PotL H' p l → Keep p H H' → Q (.bl true) H'
theorem ok_parts (T : Txt K mg A) : FnOk P w K mg base CX0 8 A.f_parts A.d_parts ["pot", "a", "rows", "over"] (spParts A) := by
  refine T.F_parts.ok sc_parts (fun vs H Q E h => ?_) (fun cdv Ar outer s H vs Q E hr h => ?_)
  · obtain ⟨p, l, g, a, m, o, rfl, _⟩ := h
    rfl
  · obtain ⟨p, l, g, a, m, o, rfl, pot, hg, hm, tb, k⟩ := h
    refine ⟨_, (C8.pss_cut (ps_set (i := 4) sc_parts.nd rfl (Or.inl rfl) (pe_callB call_len (by rfl) T.n_len PySem.boot_len (pa_cons (pv 2) pa_nil)))
      (C8.pss_cut (ps_set (i := 5) sc_parts.nd rfl (Or.inl rfl) (pe_call (ok_wide T) (hr.mono (by decide)) rfl T.g_wide T.F_wide.kp T.b_wide .nil pass0 (pa_cons (pv 2) pa_nil)))
      (C8.pss_cut (ps_set (i := 6) sc_parts.nd rfl (Or.inl rfl) (pe_call (ok_places T) (hr.mono (by decide)) rfl T.g_places T.F_places.kp T.b_places .nil pass0 (pa_cons (pv 0) (pa_cons (pv 4) pa_nil))))
      (C8.pss_cut (ps_set (i := 7) sc_parts.nd rfl (Or.inr rfl) (pe_call (ok_places T) (hr.mono (by decide)) rfl T.g_places T.F_places.kp T.b_places .nil pass0 (pa_cons (pv 0) (pa_cons (pv 5) pa_nil))))
      (C8.pss_cut (ps_setLc (i := 8) (own := [("i", 10)]) (g := gName 10) (tt := tYes) rfl sc_parts.nd rfl rfl (sw_true rfl rfl rfl (by decide +kernel)) (pi_list (pv 6)) (blkOk_by (own := [("i", 10)]) (N := N_parts) (sc := defScope S_parts) (by decide +kernel)) (fun _ _ _ _ _ => pg_name (i := 10) sc_parts.nd rfl (Or.inr rfl)) (fun _ _ _ _ _ => pts_nil) (fun _ _ _ _ _ => (pe_lc (own := [("j", 9)]) (g := gName 9) (wi := iList K (tVar 7)) (tt := tYes) rfl sc_parts.nd (pi_list (pv 7)) (blkOk_by (own := [("j", 9)]) (N := N_parts) (by rfl)) (fun _ _ _ _ _ => pg_name (i := 9) sc_parts.nd rfl (Or.inl rfl)) (fun _ _ _ _ _ => pts_nil) (fun _ _ _ _ _ => (pe_ix (r := rIxL K) ix_list (pe_ix (r := rIxL K) ix_list (pv 2) (pv 10) (fun _ _ => rfl)) (pv 9) (fun _ _ => rfl))))))
      (C8.pss_cut (ps_set (i := 11) sc_parts.nd rfl (Or.inl rfl) (pe_callTy call_list_of (by rfl) T.n_list (by decide +kernel) (pa_cons (pv 6) pa_nil)))
      (C8.pss_cut (ps_if (PW.pt (pw_or (pt_not (pt_val (pe_call (ok_lis T) (hr.mono (by decide)) rfl T.g_lis T.F_lis.kp T.b_lis .nil pass0 (pa_cons (pe_meth (pv 1) T.c_Gr T.m_gpart (ok_gpart T) (hr.mono (by decide)) T.b_gpart .nil passLN (pa_cons (pv 11) (pa_cons (pe_callTy call_tuple_of (by rfl) T.n_tuple (by decide +kernel) (pa_cons (pv 7) pa_nil)) pa_nil))) (pa_cons (pv 8) (pa_cons (pv 3) pa_nil)))))) (pw_or1 (pt_cmpR (op_neD hr.units) (pv 11) (pv 6) (nomark _)))))
      (pss_one (ps_ret pe_bl)) pss_nil)
      (C8.pss_cut (ps_set (i := 12) sc_parts.nd rfl (Or.inl rfl) (pe_call (ok_outside T) (hr.mono (by decide)) rfl T.g_outside T.F_outside.kp T.b_outside .nil pass0 (pa_cons (pv 0) (pa_cons (pv 4) pa_nil))))
      (C8.pss_cut (ps_set (i := 13) sc_parts.nd rfl (Or.inl rfl) (pe_call (ok_outside T) (hr.mono (by decide)) rfl T.g_outside T.F_outside.kp T.b_outside .nil pass0 (pa_cons (pv 0) (pa_cons (pv 5) pa_nil))))
      (C8.pss_cut (ps_set (i := 14) sc_parts.nd rfl (Or.inl rfl) (pe_call (ok_digit T) (hr.mono (by decide)) rfl T.g_digit T.F_digit.kp T.b_digit .nil pass0 (pa_cons (pv 0) (pa_cons (pe_op op_add (pe_callB call_len (by rfl) T.n_len PySem.boot_len (pa_cons (pv 6) pa_nil)) pe_int) pa_nil))))
      (C8.pss_cut (ps_set (i := 15) sc_parts.nd rfl (Or.inl rfl) (pe_op op_cat (pe_op op_cat (pe_op op_cat (pe_slice sl_list (pv 6) po_none (po_some (pv 14))) (pe_lst (pa_cons (pv 12) pa_nil))) (pe_slice sl_list (pv 6) (po_some (pv 14)) po_none)) (pe_lst (pa_cons (pe_op op_add (pv 4) pe_int) pa_nil))))
      (C8.pss_cut (ps_set (i := 14) sc_parts.nd rfl (Or.inl rfl) (pe_call (ok_digit T) (hr.mono (by decide)) rfl T.g_digit T.F_digit.kp T.b_digit .nil pass0 (pa_cons (pv 0) (pa_cons (pe_op op_add (pe_callB call_len (by rfl) T.n_len PySem.boot_len (pa_cons (pv 7) pa_nil)) pe_int) pa_nil))))
      (C8.pss_cut (ps_set (i := 16) sc_parts.nd rfl (Or.inl rfl) (pe_op op_cat (pe_op op_cat (pe_op op_cat (pe_slice sl_list (pv 7) po_none (po_some (pv 14))) (pe_lst (pa_cons (pv 13) pa_nil))) (pe_slice sl_list (pv 7) (po_some (pv 14)) po_none)) (pe_lst (pa_cons (pe_un un_neg pe_int) pa_nil))))
      (C8.pss_cut (ps_for PassesOwn.never rfl (pi_list (pe_lst (pa_cons (pv 7) (pa_cons (pv 16) pa_nil)))) (pg_name (i := 17) sc_parts.nd rfl (Or.inl rfl))
      (pss_one (ps_if (pt_not (pt_val (pe_call (ok_badplace T) (hr.mono (by decide)) rfl T.g_badplace T.F_badplace.kp T.b_badplace .nil pass0 (pa_cons (pv 1) (pa_cons (pv 15) (pa_cons (pv 17) (pa_cons (pv 12) pa_nil)))))))
      (pss_one (ps_ret pe_bl)) pss_nil)))
      (C8.pss_cut (ps_if (pt_not (pt_val (pe_call (ok_badplace T) (hr.mono (by decide)) rfl T.g_badplace T.F_badplace.kp T.b_badplace .nil pass0 (pa_cons (pv 1) (pa_cons (pv 6) (pa_cons (pv 16) (pa_cons (pv 13) pa_nil)))))))
      (pss_one (ps_ret pe_bl)) pss_nil)
      (C8.pss_cut (ps_if (pt_cmpR op_gt (pv 4) pe_int (nomark _))
      (C8.pss_cut (ps_setLc (i := 8) (own := [("k", 18)]) (g := gName 18) (tt := tYes) rfl sc_parts.nd rfl rfl (sw_true rfl rfl rfl (by decide +kernel)) (pi_range1 rfl T.n_range (pa_cons pe_int pa_nil)) (blkOk_by (own := [("k", 18)]) (N := N_parts) (sc := defScope S_parts) (by decide +kernel)) (fun _ _ _ _ _ => pg_name (i := 18) sc_parts.nd rfl (Or.inl rfl)) (fun _ _ _ _ _ => pts_nil) (fun _ _ _ _ _ => (pe_lc (own := [("j", 9)]) (g := gName 9) (wi := iList K (tVar 7)) (tt := tYes) rfl sc_parts.nd (pi_list (pv 7)) (blkOk_by (own := [("j", 9)]) (N := N_parts) (by rfl)) (fun _ _ _ _ _ => pg_name (i := 9) sc_parts.nd rfl (Or.inl rfl)) (fun _ _ _ _ _ => pts_nil) (fun _ _ _ _ _ => (pe_ix (r := rIxL K) ix_list (pe_ix (r := rIxL K) ix_list (pv 2) pe_int (fun _ _ => rfl)) (pv 9) (fun _ _ => rfl))))))
      (C8.pss_cut (ps_if (pt_not (pt_val (pe_call (ok_lis T) (hr.mono (by decide)) rfl T.g_lis T.F_lis.kp T.b_lis .nil pass0 (pa_cons (pe_meth (pv 1) T.c_Gr T.m_gpart (ok_gpart T) (hr.mono (by decide)) T.b_gpart .nil passLN (pa_cons (pe_op op_rep (pe_lst (pa_cons pe_int pa_nil)) pe_int) (pa_cons (pv 7) pa_nil))) (pa_cons (pv 8) (pa_cons (pv 3) pa_nil))))))
      (pss_one (ps_ret pe_bl)) pss_nil)
      (C8.pss_cut (ps_if (pt_not (pt_val (pe_call (ok_badshape T) (hr.mono (by decide)) rfl T.g_badshape T.F_badshape.kp T.b_badshape .nil pass0 (pa_cons pe_int (pa_cons (pv 1) (pa_cons (pe_op op_rep (pe_lst (pa_cons pe_int pa_nil)) pe_int) (pa_cons (pv 7) pa_nil)))))))
      (pss_one (ps_ret pe_bl)) pss_nil)
      (pss_one (ps_if (pt_not (pt_val (pe_call (ok_badplace T) (hr.mono (by decide)) rfl T.g_badplace T.F_badplace.kp T.b_badplace .nil pass0 (pa_cons (pv 1) (pa_cons (pe_op op_rep (pe_lst (pa_cons pe_int pa_nil)) pe_int) (pa_cons (pv 16) (pa_cons (pv 13) pa_nil)))))))
      (pss_one (ps_ret pe_bl)) pss_nil))))) pss_nil)
      (pss_cons (ps_if (pt_cmpR op_gt (pv 5) pe_int (nomark _))
      (C8.pss_cut (ps_set (i := 19) sc_parts.nd rfl (Or.inr rfl) (pe_op op_rep (pe_lst (pa_cons (pe_op op_sub (pv 5) pe_int) pa_nil)) pe_int))
      (C8.pss_cut (ps_setLc (i := 8) (own := [("i", 10)]) (g := gName 10) (tt := tYes) rfl sc_parts.nd rfl rfl (sw_true rfl rfl rfl (by decide +kernel)) (pi_list (pv 6)) (blkOk_by (own := [("i", 10)]) (N := N_parts) (sc := defScope S_parts) (by decide +kernel)) (fun _ _ _ _ _ => pg_name (i := 10) sc_parts.nd rfl (Or.inr rfl)) (fun _ _ _ _ _ => pts_nil) (fun _ _ _ _ _ => (pe_lc (own := [("j", 9)]) (g := gName 9) (wi := iList K (tVar 19)) (tt := tYes) rfl sc_parts.nd (pi_list (pv 19)) (blkOk_by (own := [("j", 9)]) (N := N_parts) (by rfl)) (fun _ _ _ _ _ => pg_name (i := 9) sc_parts.nd rfl (Or.inl rfl)) (fun _ _ _ _ _ => pts_nil) (fun _ _ _ _ _ => (pe_ix (r := rIxL K) ix_list (pe_ix (r := rIxL K) ix_list (pv 2) (pv 10) (fun _ _ => rfl)) (pv 9) (fun _ _ => rfl))))))
      (C8.pss_cut (ps_if (pt_not (pt_val (pe_call (ok_lis T) (hr.mono (by decide)) rfl T.g_lis T.F_lis.kp T.b_lis .nil pass0 (pa_cons (pe_meth (pv 1) T.c_Gr T.m_gpart (ok_gpart T) (hr.mono (by decide)) T.b_gpart .nil passLN (pa_cons (pv 6) (pa_cons (pv 19) pa_nil))) (pa_cons (pv 8) (pa_cons (pv 3) pa_nil))))))
      (pss_one (ps_ret pe_bl)) pss_nil)
      (pss_one (ps_ret (pe_call (ok_badshape T) (hr.mono (by decide)) rfl T.g_badshape T.F_badshape.kp T.b_badshape .nil pass0 (pa_cons pe_int (pa_cons (pv 1) (pa_cons (pv 6) (pa_cons (pe_op op_cat (pv 19) (pe_lst (pa_cons pe_int pa_nil))) pa_nil)))))))))) pss_nil)
      (pss_one (ps_ret pe_bl))))))))))))))))))), ?_⟩
    have rc := tb.rc
    have o1 := tb.o1
    have bo9 : Bd 900 o := tb.bo.mono (by decide)
    obtain ⟨as0, h1, h2, h3⟩ := id hm
    refine ⟨fun sl H1 => sl = [some (.ref p), some (.ref g), some (.ref a), some (.int o), some (.int (m.length : Nat)), none, none, none, none, none, none, none, none, none, none, none, none, none, none, none] ∧ H1 = H, ?_, ?_⟩
    · refine ⟨_, rfl, _, _, rfl, lenv (.inl (SqL.of h1)), ?_⟩
      rw [List.length_map, h2]
      exact ⟨rfl, rfl⟩
    rintro sl H1 ⟨rfl, rfl⟩
    refine ⟨fun sl H2 => sl = [some (.ref p), some (.ref g), some (.ref a), some (.int o), some (.int (m.length : Nat)), some (.int (wideOf m : Nat)), none, none, none, none, none, none, none, none, none, none, none, none, none, none] ∧ Ex H1 H2, ?_, ?_⟩
    · exact ⟨_, rfl, a, m, rfl, hm, fun r hr => by rw [rc.r r hr]; exact int64 rc.w, fun H2 e => ⟨rfl, e⟩⟩
    rintro sl H2 ⟨rfl, e2⟩
    have p2 := pot.ex e2
    refine ⟨fun sl H3 => ∃ (U : Addr) (up : List Int), sl = [some (.ref p), some (.ref g), some (.ref a), some (.int o), some (.int (m.length : Nat)), some (.int (wideOf m : Nat)), some (.ref U), none, none, none, none, none, none, none, none, none, none, none, none, none] ∧ H3 U = some (.lst (up.map V.int)) ∧ up.length ≤ 5 ∧ (∀ x ∈ up, 0 ≤ x ∧ x < (m.length : Nat)) ∧ PotL H3 p l ∧ Keep p H2 H3, ?_, ?_⟩
    · exact ⟨_, rfl, _, rfl, p, l, m.length, rfl, p2, tb.l5, fun D H3 ns nD hD l5 hn p3 k3 => ⟨D, ns, rfl, hD, l5, hn, p3, k3⟩⟩
    rintro sl H3 ⟨U, up, rfl, hU3, lu, gu, p3, k3⟩
    refine ⟨fun sl H4 => ∃ (C : Addr) (ac : List Int), sl = [some (.ref p), some (.ref g), some (.ref a), some (.int o), some (.int (m.length : Nat)), some (.int (wideOf m : Nat)), some (.ref U), some (.ref C), none, none, none, none, none, none, none, none, none, none, none, none] ∧ H4 C = some (.lst (ac.map V.int)) ∧ ac.length ≤ 5 ∧ (∀ x ∈ ac, 0 ≤ x ∧ x < (wideOf m : Nat)) ∧ PotL H4 p l ∧ Keep p H3 H4, ?_, ?_⟩
    · exact ⟨_, rfl, _, rfl, p, l, wideOf m, rfl, p3, tb.w5, fun D H4 ns nD hD l5 hn p4 k4 => ⟨D, ns, rfl, hD, l5, hn, p4, k4⟩⟩
    rintro sl H4 ⟨C, ac, rfl, hC, lc, gc, p4, k4⟩
    have hU := kpI hU3 p3 k4
    have K4 : Keep p H1 H4 := (Keep.of e2).trans (k3.trans k4)
    have g4 := hg.kp pot K4
    have m4 := hm.kp pot K4
    clear hU3
    have due : ∀ (u : Int) (H5 : Hp), Ex H4 H5 → 0 ≤ u → u < (m.length : Nat) → ∃ (b : Addr) (as : List Addr), H5 a = some (.lst (as.map V.ref)) ∧ atI (as.map V.ref) u = some (V.ref b) ∧ H5 b = some (.lst ((m.getD u.toNat []).map V.int)) ∧ ∀ n : Int, 0 ≤ n → n < (wideOf m : Nat) → atI ((m.getD u.toNat []).map V.int) n = some (V.int ((m.getD u.toNat []).getD n.toNat 0)) := by
      intro u H5 e5 u0 u1
      obtain ⟨as, r1, r2, r3⟩ := m4.ex e5
      have hi : u.toNat < m.length := by omega
      have hb : as[u.toNat]? = some (as[u.toNat]'(by omega)) := List.getElem?_eq_getElem (by omega)
      have e0 : m.getD u.toNat [] = m[u.toNat] := by rw [List.getD_eq_getElem?_getD, List.getElem?_eq_getElem hi]; rfl
      refine ⟨_, as, r1, ?_, by rw [e0]; exact r3 _ _ _ hb (List.getElem?_eq_getElem hi), fun n n0 n1 => ?_⟩
      · have := atI_nat (xs := as.map V.ref) (j := u.toNat) (v := V.ref (as[u.toNat]'(by omega))) (by rw [List.getElem?_map, hb]; rfl)
        rwa [show ((u.toNat : Nat) : Int) = u by omega] at this
      · have hj : n.toNat < m[u.toNat].length := by rw [rc.r _ (List.getElem_mem hi)]; omega
        have := atI_nat (xs := m[u.toNat].map V.int) (j := n.toNat) (v := V.int (m[u.toNat][n.toNat])) (by rw [List.getElem?_map, List.getElem?_eq_getElem hj]; rfl)
        rw [show ((n.toNat : Nat) : Int) = n by omega] at this
        rw [e0, this, List.getD_eq_getElem?_getD, List.getElem?_eq_getElem hj]
        rfl
    have isP : ∀ (ups acs : List Int), nR (partOf (nR m o) ups acs) (nO m o) = nR (partOf m ups acs) o ∧ nO (partOf (nR m o) ups acs) (nO m o) = nO (partOf m ups acs) o := fun ups acs => norm_lin o1 (fun n => partOf n ups acs) (part_mul ups acs)
    refine ⟨fun sl H5 => ∃ D q9 q10, sl = [some (.ref p), some (.ref g), some (.ref a), some (.int o), some (.int (m.length : Nat)), some (.int (wideOf m : Nat)), some (.ref U), some (.ref C), some (.ref D), q9, q10, none, none, none, none, none, none, none, none, none] ∧ Ex H4 H5 ∧ RowsL H5 D (partOf m up ac), ?_, ?_⟩
    · refine uAsg (lcL (RowR .lst (partOf m up ac)) (fun Q q => ⟨_, rfl, q⟩) (SqL.of hU) (by rw [List.length_map]; omega) (fun i v H5 D hv ex hD Q2 kq => ?_) (fun D H5 vs nD ex z1 z2 z3 => ?_))
      · rw [List.getElem?_map] at hv
        obtain ⟨u, hu, rfl⟩ := Option.map_eq_some_iff.mp hv
        obtain ⟨u0, u1⟩ := gu u (List.mem_of_getElem? hu)
        refine ⟨rfl, lcInts (fun n => (m.getD u.toNat []).getD n.toNat 0) (fun R => lcL R (fun Q q => ⟨_, rfl, q⟩) (SqL.of (ex _ _ hC)) (by rw [List.length_map]; omega)) (fun n H6 hn e6 Q6 q => ?_) (fun D2 H6 n2 e6 hD2 => ?_)⟩
        · obtain ⟨b, as, y1, y2, y3, y4⟩ := due u H6 (ex.trans e6) u0 u1
          obtain ⟨n0, n1⟩ := gc n hn
          exact ⟨rfl, _, rfl, _, rfl, _, _, _, _, rfl, rfl, SqL.of y1, y2, _, rfl, _, _, _, _, rfl, rfl, SqL.of y3, y4 n n0 n1, q⟩
        · obtain ⟨ob, hob⟩ := hD
          exact kq _ _ e6 (RowR.fix (r := ac.map fun n => (m.getD u.toNat []).getD n.toNat 0) (by unfold partOf; rw [List.getElem?_map, hu]; rfl) hD2 (ne_of_none hob n2).symm)
      · obtain ⟨bs, rfl, lb, hb⟩ := RowR.all (m := partOf m up ac) (by rw [z2, List.length_map]; unfold partOf; rw [List.length_map]) z3
        exact ⟨D, _, _, rfl, ex, bs, z1, lb, hb⟩
    rintro sl H5 ⟨D, q9, q10, rfl, e5, hD⟩
    refine ⟨fun sl H6 => ∃ F, sl = [some (.ref p), some (.ref g), some (.ref a), some (.int o), some (.int (m.length : Nat)), some (.int (wideOf m : Nat)), some (.ref U), some (.ref C), some (.ref D), q9, q10, some (.ref F), none, none, none, none, none, none, none, none] ∧ Ex H5 H6 ∧ H6 F = some (.lst (up.map V.int)), ?_, ?_⟩
    · exact ⟨_, rfl, U, _, rfl, .inl (SqL.of (e5 _ _ hU)), fun F nF => ⟨F, rfl, Ex.new nF, upd_same⟩⟩
    rintro sl H6 ⟨F, rfl, e6, hF⟩
    have E6 := e5.trans e6
    have part : ∀ (H7 : Hp) (x y : Addr) (ups acs : List Int) (Q : VK), Keep p H4 H7 → SqV K H7 x (ups.map V.int) → SqV K H7 y (acs.map V.int) → (∀ z ∈ ups, 0 ≤ z ∧ z < (m.length : Nat)) → (∀ z ∈ acs, 0 ≤ z ∧ z < (wideOf m : Nat)) → ups.length ≤ 64 → acs.length ≤ 64 →
        (∀ c H8, Ex H7 H8 → GridAt A H8 c (nR (partOf m ups acs) o) (nO (partOf m ups acs) o) → Q (.ref c) H8) → spPart K A [.ref g, .ref x, .ref y] H7 Q E0 := by
      intro H7 x y ups acs Q e7 hx hy gx gy lx ly kk
      refine ⟨g, x, y, _, _, ups, acs, rfl, g4.kp p4 e7, tb.rcn, nO_pos o1, tb.bn.mono (by decide), hx, hy, fun z hz => absurd (by rw [nR_len]; exact gx) (find_not hz), fun _ => ⟨fun z hz => absurd (by rw [nR_wide]; exact gy) (find_not hz), fun _ => ⟨fun z => absurd z (by omega), fun _ _ c H8 e8 hc => ?_⟩⟩⟩
      rw [(isP ups acs).1, (isP ups acs).2] at hc
      exact kk c H8 e8 hc
    obtain ⟨dx, R0, hgi, _⟩ := id g4
    have gi : ∀ H7, Keep p H4 H7 → H7 g = _ := fun H7 e7 => (p4.nl e7).ins hgi
    refine ⟨fun sl H7 => sl = [some (.ref p), some (.ref g), some (.ref a), some (.int o), some (.int (m.length : Nat)), some (.int (wideOf m : Nat)), some (.ref U), some (.ref C), some (.ref D), q9, q10, some (.ref F), none, none, none, none, none, none, none, none] ∧ Ex H6 H7, ?_, ?_⟩
    · refine ⟨_, rfl, g, dx, _, rfl, gi _ (.of E6), zip_no (by decide +kernel), _, rfl, _, rfl, C, _, rfl, .inl ⟨SqL.of (E6 _ _ hC), fun t nt => ?_⟩⟩
      have et := Ex.new (o := .tup (ac.map V.int)) nt
      dsimp only [tNil]
      refine part _ F t up ac _ (.of (E6.trans et)) (.inl (SqL.of (et _ _ hF))) (.inr (SqT.of upd_same)) gu gc (by omega) (by omega) fun c H7 e7 hc => ?_
      refine ⟨_, rfl, _, rfl, c, D, partOf m up ac, o, rfl, hc, hD.ex (e6.trans (et.trans e7)), partOf_rect (by omega) (by omega), o1, bo9, fun H8 e8 => ⟨_, rfl, iteF ?_⟩⟩
      have E8 := et.trans (e7.trans e8)
      refine ⟨_, rfl, _, rfl, _, _, .lst (SqL.of (E8 _ _ hF)) (dpI up), .lst (SqL.of (E8 _ _ (E6 _ _ hU))) (dpI up), shapedI up, shapedI up, _, rfl, ?_⟩
      rw [eqv_list_int, decide_eq_true rfl]
      exact iteF ⟨rfl, E8⟩
    rintro sl H7 ⟨rfl, e7⟩
    have E7 := E6.trans e7
    have p7 := p4.ex E7
    refine ⟨fun sl H8 => ∃ x1 : Int, sl = [some (.ref p), some (.ref g), some (.ref a), some (.int o), some (.int (m.length : Nat)), some (.int (wideOf m : Nat)), some (.ref U), some (.ref C), some (.ref D), q9, q10, some (.ref F), some (.int x1), none, none, none, none, none, none, none] ∧ (x1 < 0 ∨ (m.length : Nat) ≤ x1) ∧ PotL H8 p l ∧ Keep p H4 H8, ?_, ?_⟩
    · exact ⟨_, rfl, _, rfl, p, l, (m.length : Int), rfl, p7, by omega, fun x H8 hx p8 k8 => ⟨x, rfl, hx, p8, (Keep.of E7).trans k8⟩⟩
    rintro sl H8 ⟨x1, rfl, hx1, p8, k8⟩
    refine ⟨fun sl H9 => ∃ x2 : Int, sl = [some (.ref p), some (.ref g), some (.ref a), some (.int o), some (.int (m.length : Nat)), some (.int (wideOf m : Nat)), some (.ref U), some (.ref C), some (.ref D), q9, q10, some (.ref F), some (.int x1), some (.int x2), none, none, none, none, none, none] ∧ (x2 < 0 ∨ (wideOf m : Nat) ≤ x2) ∧ PotL H9 p l ∧ Keep p H4 H9, ?_, ?_⟩
    · exact ⟨_, rfl, _, rfl, p, l, (wideOf m : Int), rfl, p8, by omega, fun x H9 hx p9 k9 => ⟨x, rfl, hx, p9, k8.trans k9⟩⟩
    rintro sl H9 ⟨x2, rfl, hx2, p9, k9⟩
    have U9 := kpI hU p4 k9
    have C9 := kpI hC p4 k9
    refine ⟨fun sl H10 => ∃ d : Nat, d ≤ up.length ∧ sl = [some (.ref p), some (.ref g), some (.ref a), some (.int o), some (.int (m.length : Nat)), some (.int (wideOf m : Nat)), some (.ref U), some (.ref C), some (.ref D), q9, q10, some (.ref F), some (.int x1), some (.int x2), some (.int (d : Nat)), none, none, none, none, none] ∧ PotL H10 p l ∧ Keep p H9 H10, ?_, ?_⟩
    · refine ⟨_, rfl, _, rfl, _, _, rfl, lenv (.inl (SqL.of U9)), _, _, rfl, rfl, p, l, _, rfl, p9, (by show (0 : Int) < ((up.map V.int).length : Nat) + 1; omega), ?_, fun d H10 d0 d1 p10 k10 => ⟨d.toNat, ?_, ?_, p10, k10⟩⟩
      · rw [List.length_map]
        exact bdn (n := up.length + 1) (by omega)
      · have d2 : d < ((up.map V.int).length : Nat) + 1 := d1
        rw [List.length_map] at d2; omega
      · rw [show ((d.toNat : Nat) : Int) = d by omega]; rfl
    rintro sl H10 ⟨d, dl, rfl, p10, k10⟩
    have U10 := kpI U9 p9 k10
    have C10 := kpI C9 p9 k10
    refine ⟨fun sl H11 => ∃ V1, sl = [some (.ref p), some (.ref g), some (.ref a), some (.int o), some (.int (m.length : Nat)), some (.int (wideOf m : Nat)), some (.ref U), some (.ref C), some (.ref D), q9, q10, some (.ref F), some (.int x1), some (.int x2), some (.int (d : Nat)), some (.ref V1), none, none, none, none] ∧ Ex H10 H11 ∧ H11 V1 = some (.lst ((insL up d x1 ((m.length : Nat) + 9)).map V.int)), ?_, ?_⟩
    · have cl1 : (cutV (up.map V.int) none (some ((d : Nat) : Int))).length ≤ 5 := Nat.le_trans (cutV_length _ _ _) (by rw [List.length_map]; exact lu)
      have cl2 : (cutV (up.map V.int) (some ((d : Nat) : Int)) none).length ≤ 5 := Nat.le_trans (cutV_length _ _ _) (by rw [List.length_map]; exact lu)
      refine ⟨_, rfl, _, rfl, ((d : Nat) : Int), rfl, U, _, rfl, SqL.of U10, fun q1 n1 => ?_⟩
      have f1 := Ex.new (o := .lst (cutV (up.map V.int) none (some ((d : Nat) : Int)))) n1
      refine ⟨_, rfl, (by show 1 ≤ sizeLine; rw [sizeLine_eq]; omega), fun q2 n2 => ?_⟩
      have f2 := Ex.new (o := .lst [.int x1]) n2
      refine ⟨q1, q2, _, _, rfl, rfl, f2 _ _ upd_same, upd_same, by rw [sizeLine_eq]; show _ + 1 ≤ _; omega, fun q3 n3 => ?_⟩
      have f3 := Ex.new (o := .lst (cutV (up.map V.int) none (some ((d : Nat) : Int)) ++ [.int x1])) n3
      refine ⟨_, rfl, _, rfl, ((d : Nat) : Int), rfl, U, _, rfl, SqL.of (f3 _ _ (f2 _ _ (f1 _ _ U10))), fun q4 n4 => ?_⟩
      have f4 := Ex.new (o := .lst (cutV (up.map V.int) (some ((d : Nat) : Int)) none)) n4
      refine ⟨q3, q4, _, _, rfl, rfl, f4 _ _ upd_same, upd_same, by rw [List.length_append, sizeLine_eq]; show _ + 1 + _ ≤ _; omega, fun q5 n5 => ?_⟩
      have f5 := Ex.new (o := .lst (cutV (up.map V.int) none (some ((d : Nat) : Int)) ++ [.int x1] ++ cutV (up.map V.int) (some ((d : Nat) : Int)) none)) n5
      refine ⟨_, rfl, _, _, rfl, rfl, (by show 1 ≤ sizeLine; rw [sizeLine_eq]; omega), fun q6 n6 => ?_⟩
      have f6 := Ex.new (o := .lst [.int ((m.length : Nat) + 9)]) n6
      refine ⟨q5, q6, _, _, rfl, rfl, f6 _ _ upd_same, upd_same, by rw [List.length_append, List.length_append, sizeLine_eq]; show _ + 1 + _ + 1 ≤ _; omega, fun q7 n7 => ?_⟩
      have f7 := Ex.new (o := .lst (cutV (up.map V.int) none (some ((d : Nat) : Int)) ++ [.int x1] ++ cutV (up.map V.int) (some ((d : Nat) : Int)) none ++ [.int ((m.length : Nat) + 9)])) n7
      exact ⟨q7, rfl, f1.trans (f2.trans (f3.trans (f4.trans (f5.trans (f6.trans f7))))), by rw [upd_same, cut_to (by rw [List.length_map]; exact dl), cut_from (by rw [List.length_map]; exact dl), insL_eq]⟩
    rintro sl H11 ⟨V1, rfl, e11, hV1⟩
    have p11 := p10.ex e11
    have C11 := e11 _ _ C10
    refine ⟨fun sl H12 => ∃ d2 : Nat, d2 ≤ ac.length ∧ sl = [some (.ref p), some (.ref g), some (.ref a), some (.int o), some (.int (m.length : Nat)), some (.int (wideOf m : Nat)), some (.ref U), some (.ref C), some (.ref D), q9, q10, some (.ref F), some (.int x1), some (.int x2), some (.int (d2 : Nat)), some (.ref V1), none, none, none, none] ∧ PotL H12 p l ∧ Keep p H11 H12, ?_, ?_⟩
    · refine ⟨_, rfl, _, rfl, _, _, rfl, lenv (.inl (SqL.of C11)), _, _, rfl, rfl, p, l, _, rfl, p11, (by show (0 : Int) < ((ac.map V.int).length : Nat) + 1; omega), ?_, fun d H12 d0 d1 p12 k12 => ⟨d.toNat, ?_, ?_, p12, k12⟩⟩
      · rw [List.length_map]
        exact bdn (n := ac.length + 1) (by omega)
      · have d2 : d < ((ac.map V.int).length : Nat) + 1 := d1
        rw [List.length_map] at d2; omega
      · rw [show ((d.toNat : Nat) : Int) = d by omega]; rfl
    rintro sl H12 ⟨d2, dl2, rfl, p12, k12⟩
    have C12 := kpI C11 p11 k12
    have V12 := kpI hV1 p11 k12
    refine ⟨fun sl H13 => ∃ V2, sl = [some (.ref p), some (.ref g), some (.ref a), some (.int o), some (.int (m.length : Nat)), some (.int (wideOf m : Nat)), some (.ref U), some (.ref C), some (.ref D), q9, q10, some (.ref F), some (.int x1), some (.int x2), some (.int (d2 : Nat)), some (.ref V1), some (.ref V2), none, none, none] ∧ Ex H12 H13 ∧ H13 V2 = some (.lst ((insL ac d2 x2 (-9)).map V.int)), ?_, ?_⟩
    · have cl1 : (cutV (ac.map V.int) none (some ((d2 : Nat) : Int))).length ≤ 5 := Nat.le_trans (cutV_length _ _ _) (by rw [List.length_map]; exact lc)
      have cl2 : (cutV (ac.map V.int) (some ((d2 : Nat) : Int)) none).length ≤ 5 := Nat.le_trans (cutV_length _ _ _) (by rw [List.length_map]; exact lc)
      refine ⟨_, rfl, _, rfl, ((d2 : Nat) : Int), rfl, C, _, rfl, SqL.of C12, fun q1 n1 => ?_⟩
      have f1 := Ex.new (o := .lst (cutV (ac.map V.int) none (some ((d2 : Nat) : Int)))) n1
      refine ⟨_, rfl, (by show 1 ≤ sizeLine; rw [sizeLine_eq]; omega), fun q2 n2 => ?_⟩
      have f2 := Ex.new (o := .lst [.int x2]) n2
      refine ⟨q1, q2, _, _, rfl, rfl, f2 _ _ upd_same, upd_same, by rw [sizeLine_eq]; show _ + 1 ≤ _; omega, fun q3 n3 => ?_⟩
      have f3 := Ex.new (o := .lst (cutV (ac.map V.int) none (some ((d2 : Nat) : Int)) ++ [.int x2])) n3
      refine ⟨_, rfl, _, rfl, ((d2 : Nat) : Int), rfl, C, _, rfl, SqL.of (f3 _ _ (f2 _ _ (f1 _ _ C12))), fun q4 n4 => ?_⟩
      have f4 := Ex.new (o := .lst (cutV (ac.map V.int) (some ((d2 : Nat) : Int)) none)) n4
      refine ⟨q3, q4, _, _, rfl, rfl, f4 _ _ upd_same, upd_same, by rw [List.length_append, sizeLine_eq]; show _ + 1 + _ ≤ _; omega, fun q5 n5 => ?_⟩
      have f5 := Ex.new (o := .lst (cutV (ac.map V.int) none (some ((d2 : Nat) : Int)) ++ [.int x2] ++ cutV (ac.map V.int) (some ((d2 : Nat) : Int)) none)) n5
      refine ⟨_, rfl, (by show 1 ≤ sizeLine; rw [sizeLine_eq]; omega), fun q6 n6 => ?_⟩
      have f6 := Ex.new (o := .lst [.int (-9)]) n6
      refine ⟨q5, q6, _, _, rfl, rfl, f6 _ _ upd_same, upd_same, by rw [List.length_append, List.length_append, sizeLine_eq]; show _ + 1 + _ + 1 ≤ _; omega, fun q7 n7 => ?_⟩
      have f7 := Ex.new (o := .lst (cutV (ac.map V.int) none (some ((d2 : Nat) : Int)) ++ [.int x2] ++ cutV (ac.map V.int) (some ((d2 : Nat) : Int)) none ++ [.int (-9)])) n7
      exact ⟨q7, rfl, f1.trans (f2.trans (f3.trans (f4.trans (f5.trans (f6.trans f7))))), by rw [upd_same, cut_to (by rw [List.length_map]; exact dl2), cut_from (by rw [List.length_map]; exact dl2), insL_eq]⟩

    rintro sl H13 ⟨V2, rfl, e13, hV2⟩
    have K13 : Keep p H4 H13 := (k9.trans k10).trans ((Keep.of e11).trans (k12.trans (Keep.of e13)))
    have p13 := p12.ex e13
    have V13 := e13 _ _ V12
    have U13 := kpI hU p4 K13
    have C13 := kpI hC p4 K13
    have fx1 : (insL up d x1 ((m.length : Nat) + 9)).find? (outB ((nR m o).length : Nat)) = some x1 := find_ins (fun y hy => by rw [nR_len]; exact gu y (List.mem_of_mem_take hy)) (by rw [nR_len]; exact hx1)
    have fx2 : (insL ac d2 x2 (-9)).find? (outB (wideOf (nR m o) : Nat)) = some x2 := find_ins (fun y hy => by rw [nR_wide]; exact gc y (List.mem_of_mem_take hy)) (by rw [nR_wide]; exact hx2)
    have gu' : ∀ y ∈ up, 0 ≤ y ∧ y < ((nR m o).length : Nat) := by rw [nR_len]; exact gu
    have gc' : ∀ y ∈ ac, 0 ≤ y ∧ y < (wideOf (nR m o) : Nat) := by rw [nR_wide]; exact gc
    refine ⟨fun sl H14 => (∃ q17, sl = [some (.ref p), some (.ref g), some (.ref a), some (.int o), some (.int (m.length : Nat)), some (.int (wideOf m : Nat)), some (.ref U), some (.ref C), some (.ref D), q9, q10, some (.ref F), some (.int x1), some (.int x2), some (.int (d2 : Nat)), some (.ref V1), some (.ref V2), q17, none, none]) ∧ Ex H13 H14, ?_, ?_⟩
    · refine ⟨_, rfl, _, rfl, (by show 2 ≤ sizeLine; rw [sizeLine_eq]; omega), fun L nL => ⟨L, rfl, ⟨_, SqL.of upd_same⟩, ?_⟩⟩
      have eL := Ex.new (o := .lst [.ref C, .ref V2]) nL
      refine for_list (K := K) (a := L) (xs := [.ref C, .ref V2]) (fun i sl H14 => (∃ q17, sl = [some (.ref p), some (.ref g), some (.ref a), some (.int o), some (.int (m.length : Nat)), some (.int (wideOf m : Nat)), some (.ref U), some (.ref C), some (.ref D), q9, q10, some (.ref F), some (.int x1), some (.int x2), some (.int (d2 : Nat)), some (.ref V1), some (.ref V2), q17, none, none]) ∧ Ex (upd H13 L (.lst [.ref C, .ref V2])) H14) ⟨⟨_, rfl⟩, fun _ _ h => h⟩ (fun i sl H14 _ q => SqL.of (q.2 _ _ upd_same)) (fun i v sl H14 hv q => ?_) (fun sl H14 q => ⟨q.1, eL.trans q.2⟩)
      obtain ⟨⟨q17, rfl⟩, e14⟩ := q
      have E14 := eL.trans e14
      have hv2 : ∃ (c : Addr) (ns : List Int), v = V.ref c ∧ H14 c = some (.lst (ns.map V.int)) := by
        match i, hv with
        | 0, hv => cases hv; exact ⟨C, ac, rfl, E14 _ _ C13⟩
        | 1, hv => cases hv; exact ⟨V2, _, rfl, E14 _ _ hV2⟩
        | i + 2, hv => simp at hv
      obtain ⟨c, ns, rfl, hc⟩ := hv2
      exact ⟨_, rfl, _, rfl, _, rfl, _, rfl, g, V1, c, _, _, _, ns, x1, rfl, g4.kp p4 (K13.trans (.of E14)), tb.rcn, nO_pos o1, tb.bn.mono (by decide), .inl (SqL.of (E14 _ _ V13)), .inl (SqL.of hc), .inl fx1, fun H15 e15 => ⟨_, rfl, iteF ⟨⟨_, rfl⟩, e14.trans e15⟩⟩⟩
    rintro sl H14 ⟨⟨q17, rfl⟩, e14⟩
    refine ⟨fun sl H15 => sl = [some (.ref p), some (.ref g), some (.ref a), some (.int o), some (.int (m.length : Nat)), some (.int (wideOf m : Nat)), some (.ref U), some (.ref C), some (.ref D), q9, q10, some (.ref F), some (.int x1), some (.int x2), some (.int (d2 : Nat)), some (.ref V1), some (.ref V2), q17, none, none] ∧ Ex H13 H15, ?_, ?_⟩
    · exact ⟨_, rfl, _, rfl, _, rfl, _, rfl, g, U, V2, _, _, up, _, x2, rfl, g4.kp p4 (K13.trans (.of e14)), tb.rcn, nO_pos o1, tb.bn.mono (by decide), .inl (SqL.of (e14 _ _ U13)), .inl (SqL.of (e14 _ _ hV2)), .inr ⟨gu', fx2⟩, fun H15 e15 => ⟨_, rfl, iteF ⟨rfl, e14.trans e15⟩⟩⟩
    rintro sl H15 ⟨rfl, e15⟩
    have K15 := K13.trans (Keep.of e15)
    have p15 := p13.ex e15
    have U15 := e15 _ _ U13
    have C15 := e15 _ _ C13
    have V15 := e15 _ _ hV2
    have zeros : ∀ n : Nat, (List.replicate ((n : Int)).toNat [V.int 0]).flatten = (List.replicate n (0 : Int)).map V.int := fun n => by
      rw [show ((n : Int)).toNat = n by omega]
      induction n with
      | zero => rfl
      | succ n ih => rw [List.replicate_succ, List.flatten_cons, ih, List.replicate_succ]; rfl
    refine ⟨fun sl H16 => (∃ q8 q9 q10 q18 q19, sl = [some (.ref p), some (.ref g), some (.ref a), some (.int o), some (.int (m.length : Nat)), some (.int (wideOf m : Nat)), some (.ref U), some (.ref C), q8, q9, q10, some (.ref F), some (.int x1), some (.int x2), some (.int (d2 : Nat)), some (.ref V1), some (.ref V2), q17, q18, q19]) ∧ Ex H15 H16, ?_, ?_⟩
    · by_cases c0 : ¬ 0 < m.length
      · refine ⟨_, rfl, _, _, rfl, rfl, _, rfl, ?_⟩
        rw [decide_eq_false (by omega)]
        exact iteF ⟨⟨_, _, _, _, _, rfl⟩, fun _ _ h => h⟩
      have c : 0 < m.length := by omega
      refine ⟨_, rfl, _, _, rfl, rfl, _, rfl, ?_⟩
      rw [decide_eq_true (by omega)]
      refine iteT ?_
      have gz : ∀ n : Nat, ∀ y ∈ List.replicate n (0 : Int), 0 ≤ y ∧ y < (m.length : Nat) := fun n y hy => by
        rw [(List.mem_replicate.mp hy).2]
        omega
      refine ⟨fun sl H16 => (∃ D2 q9 q18, sl = [some (.ref p), some (.ref g), some (.ref a), some (.int o), some (.int (m.length : Nat)), some (.int (wideOf m : Nat)), some (.ref U), some (.ref C), some (.ref D2), q9, q10, some (.ref F), some (.int x1), some (.int x2), some (.int (d2 : Nat)), some (.ref V1), some (.ref V2), q17, q18, none] ∧ RowsL H16 D2 (partOf m (List.replicate 64 0) ac)) ∧ Ex H15 H16, ?_, ?_⟩
      · refine uAsg (lcR (lo := 0) (n := 64) (RowR .lst (partOf m (List.replicate 64 0) ac)) (by decide) (fun P h => ⟨(64 : Int), rfl, by decide, by decide, by simpa using h⟩) (fun i H16 D2 hi ex hD' Q2 kq => ?_) (fun D2 H16 vs nD ex z1 z2 z3 => ?_))
        · refine ⟨rfl, lcInts (fun n => (m.getD 0 []).getD n.toNat 0) (fun R => lcL R (fun Q q => ⟨_, rfl, q⟩) (SqL.of (ex _ _ C15)) (by rw [List.length_map]; omega)) (fun n H17 hn e17 Q7 q => ?_) (fun D3 H17 n3 e17 hD3 => ?_)⟩
          · obtain ⟨as, r1, r2, r3⟩ := (m4.kp p4 K15).ex (ex.trans e17)
            have hb : as[0]? = some (as[0]'(by omega)) := List.getElem?_eq_getElem (by omega)
            have hrow := r3 0 _ _ hb (List.getElem?_eq_getElem c)
            obtain ⟨n0, n1⟩ := gc n hn
            have hj : n.toNat < m[0].length := by rw [rc.r _ (List.getElem_mem c)]; omega
            have a1 := atI_nat (xs := as.map V.ref) (j := 0) (v := V.ref (as[0]'(by omega))) (by rw [List.getElem?_map, hb]; rfl)
            have e0 : m.getD 0 [] = m[0] := by rw [List.getD_eq_getElem?_getD, List.getElem?_eq_getElem c]; rfl
            have a2 := atI_nat (xs := m[0].map V.int) (j := n.toNat) (v := V.int ((m.getD 0 []).getD n.toNat 0)) (by rw [e0, List.getElem?_map, List.getElem?_eq_getElem hj, List.getD_eq_getElem?_getD, List.getElem?_eq_getElem hj]; rfl)
            rw [show ((n.toNat : Nat) : Int) = n by omega] at a2
            exact ⟨rfl, _, rfl, _, _, _, _, rfl, rfl, SqL.of r1, a1, _, rfl, _, _, _, _, rfl, rfl, SqL.of hrow, a2, q⟩
          · obtain ⟨ob, hob⟩ := hD'
            exact kq _ _ e17 (RowR.fix (r := ac.map fun n => (m.getD 0 []).getD n.toNat 0) (by unfold partOf; rw [List.getElem?_map, List.getElem?_replicate, if_pos hi]; rfl) hD3 (ne_of_none hob n3).symm)
        · obtain ⟨bs, rfl, lb, hb⟩ := RowR.all (m := partOf m (List.replicate 64 0) ac) (by rw [z2]; unfold partOf; rw [List.length_map, List.length_replicate]) z3
          exact ⟨⟨D2, _, _, rfl, bs, z1, lb, hb⟩, ex⟩
      rintro sl H16 ⟨⟨D2, q9', q18, rfl, hD2⟩, e16⟩
      have K16 := K15.trans (Keep.of e16)
      refine ⟨fun sl H17 => sl = [some (.ref p), some (.ref g), some (.ref a), some (.int o), some (.int (m.length : Nat)), some (.int (wideOf m : Nat)), some (.ref U), some (.ref C), some (.ref D2), q9', q10, some (.ref F), some (.int x1), some (.int x2), some (.int (d2 : Nat)), some (.ref V1), some (.ref V2), q17, q18, none] ∧ Ex H16 H17, ?_, ?_⟩
      · refine ⟨_, rfl, g, dx, _, rfl, gi _ K16, zip_no (by decide +kernel), (by show 1 ≤ sizeLine; rw [sizeLine_eq]; omega), fun z0 nz => ?_⟩
        have ez := Ex.new (o := .lst [.int (0 : Int)]) nz
        refine ⟨z0, 64, _, rfl, rfl, upd_same, by decide, by decide, by rw [sizeLine_eq]; decide, fun z1 nz1 => ?_⟩
        rw [show (64 : Int) = ((64 : Nat) : Int) from rfl, zeros 64]
        have ez1 := Ex.new (o := .lst ((List.replicate 64 (0 : Int)).map V.int)) nz1
        refine ⟨_, rfl, ?_⟩
        dsimp only [tNil]
        refine part _ z1 C (List.replicate 64 0) ac _ (K16.trans (.of (ez.trans ez1))) (.inl (SqL.of upd_same)) (.inl (SqL.of (ez1 _ _ (ez _ _ (e16 _ _ C15))))) (gz 64) gc (by rw [List.length_replicate]; omega) (by omega) fun c' H17 e17 hc => ?_
        exact ⟨_, rfl, _, rfl, c', D2, _, o, rfl, hc, hD2.ex (ez.trans (ez1.trans e17)), partOf_rect (by rw [List.length_replicate]; omega) (by omega), o1, bo9, fun H18 e18 => ⟨_, rfl, iteF ⟨rfl, ez.trans (ez1.trans (e17.trans e18))⟩⟩⟩
      rintro sl H17 ⟨rfl, e17⟩
      have K17 := K16.trans (Keep.of e17)
      refine ⟨fun sl H18 => sl = [some (.ref p), some (.ref g), some (.ref a), some (.int o), some (.int (m.length : Nat)), some (.int (wideOf m : Nat)), some (.ref U), some (.ref C), some (.ref D2), q9', q10, some (.ref F), some (.int x1), some (.int x2), some (.int (d2 : Nat)), some (.ref V1), some (.ref V2), q17, q18, none] ∧ Ex H17 H18, ?_, ?_⟩
      · refine ⟨_, rfl, (by show 1 ≤ sizeLine; rw [sizeLine_eq]; omega), fun z0 nz => ?_⟩
        have ez := Ex.new (o := .lst [.int (0 : Int)]) nz
        refine ⟨z0, 65, _, rfl, rfl, upd_same, by decide, by decide, by rw [sizeLine_eq]; decide, fun z1 nz1 => ?_⟩
        rw [show (65 : Int) = ((65 : Nat) : Int) from rfl, zeros 65]
        have ez1 := Ex.new (o := .lst ((List.replicate 65 (0 : Int)).map V.int)) nz1
        exact ⟨_, rfl, ⟨3, _, _, _, rfl, .inr (.inr (.inr (.inl ⟨rfl, g, z1, C, _, _, List.replicate 65 0, ac, rfl, rfl, rfl, g4.kp p4 (K17.trans (.of (ez.trans ez1))), tb.rcn, nO_pos o1, tb.bn.mono (by decide), .inl (SqL.of upd_same), .inl (SqL.of (ez1 _ _ (ez _ _ (e17 _ _ (e16 _ _ C15))))), (by rw [nR_len]; exact gz 65), gc', .inl (by rw [List.length_replicate]; omega)⟩)))⟩,
          fun H18 e18 => ⟨_, rfl, iteF ⟨rfl, ez.trans (ez1.trans e18)⟩⟩⟩
      rintro sl H18 ⟨rfl, e18⟩
      have K18 := K17.trans (Keep.of e18)
      refine ⟨_, rfl, (by show 1 ≤ sizeLine; rw [sizeLine_eq]; omega), fun z0 nz => ?_⟩
      have ez := Ex.new (o := .lst [.int (0 : Int)]) nz
      refine ⟨z0, 65, _, rfl, rfl, upd_same, by decide, by decide, by rw [sizeLine_eq]; decide, fun z1 nz1 => ?_⟩
      rw [show (65 : Int) = ((65 : Nat) : Int) from rfl, zeros 65]
      have ez1 := Ex.new (o := .lst ((List.replicate 65 (0 : Int)).map V.int)) nz1
      have E18 := e16.trans (e17.trans (e18.trans (ez.trans ez1)))
      exact ⟨_, rfl, _, rfl, g, z1, V2, _, _, List.replicate 65 0, _, x2, rfl, g4.kp p4 (K18.trans (.of (ez.trans ez1))), tb.rcn, nO_pos o1, tb.bn.mono (by decide), .inl (SqL.of upd_same), .inl (SqL.of (E18 _ _ V15)), .inr ⟨(by rw [nR_len]; exact gz 65), fx2⟩, fun H19 e19 => ⟨_, rfl, iteF ⟨⟨_, _, _, _, _, rfl⟩, E18.trans e19⟩⟩⟩
    rintro sl H16 ⟨⟨q8, q9', q10', q18, q19, rfl⟩, e16⟩
    have K16 := K15.trans (Keep.of e16)
    have p16 := p15.ex e16
    have U16 := e16 _ _ U15
    by_cases c0 : ¬ 0 < wideOf m
    · refine ⟨_, rfl, _, _, rfl, rfl, _, rfl, ?_⟩
      rw [decide_eq_false (by omega)]
      exact iteF (k H16 p16 (K4.trans K16))
    have c : 0 < wideOf m := by omega
    refine ⟨_, rfl, _, _, rfl, rfl, _, rfl, ?_⟩
    rw [decide_eq_true (by omega)]
    refine iteT ?_
    have lasts : ∀ n : Nat, (List.replicate ((n : Int)).toNat [V.int ((wideOf m : Nat) - 1)]).flatten = (List.replicate n (((wideOf m : Nat) : Int) - 1)).map V.int := fun n => by
      rw [show ((n : Int)).toNat = n by omega]
      induction n with
      | zero => rfl
      | succ n ih => rw [List.replicate_succ, List.flatten_cons, ih, List.replicate_succ]; rfl
    have gl : ∀ y ∈ List.replicate 64 (((wideOf m : Nat) : Int) - 1), 0 ≤ y ∧ y < (wideOf m : Nat) := fun y hy => by
      rw [(List.mem_replicate.mp hy).2]
      omega
    refine ⟨fun sl H17 => ∃ La, sl = [some (.ref p), some (.ref g), some (.ref a), some (.int o), some (.int (m.length : Nat)), some (.int (wideOf m : Nat)), some (.ref U), some (.ref C), q8, q9', q10', some (.ref F), some (.int x1), some (.int x2), some (.int (d2 : Nat)), some (.ref V1), some (.ref V2), q17, q18, some (.ref La)] ∧ H17 La = some (.lst ((List.replicate 64 (((wideOf m : Nat) : Int) - 1)).map V.int)) ∧ Ex H16 H17, ?_, ?_⟩
    · refine ⟨_, rfl, _, _, rfl, rfl, (by show 1 ≤ sizeLine; rw [sizeLine_eq]; omega), fun z0 nz => ?_⟩
      have ez := Ex.new (o := .lst [.int (((wideOf m : Nat) : Int) - 1)]) nz
      refine ⟨z0, 64, _, rfl, rfl, upd_same, by decide, by decide, by rw [sizeLine_eq]; show 1 * 64 ≤ _; decide, fun z1 nz1 => ?_⟩
      rw [show (64 : Int) = ((64 : Nat) : Int) from rfl, lasts 64]
      exact ⟨z1, rfl, upd_same, ez.trans (Ex.new nz1)⟩
    rintro sl H17 ⟨La, rfl, hLa, e17⟩
    have K17 := K16.trans (Keep.of e17)
    have U17 := e17 _ _ U16
    have m17 := m4.kp p4 K17
    refine ⟨fun sl H18 => (∃ D2 q9 q10, sl = [some (.ref p), some (.ref g), some (.ref a), some (.int o), some (.int (m.length : Nat)), some (.int (wideOf m : Nat)), some (.ref U), some (.ref C), some (.ref D2), q9, q10, some (.ref F), some (.int x1), some (.int x2), some (.int (d2 : Nat)), some (.ref V1), some (.ref V2), q17, q18, some (.ref La)] ∧ RowsL H18 D2 (partOf m up (List.replicate 64 (((wideOf m : Nat) : Int) - 1)))) ∧ Ex H17 H18, ?_, ?_⟩
    · refine uAsg (lcL (RowR .lst (partOf m up (List.replicate 64 (((wideOf m : Nat) : Int) - 1)))) (fun Q q => ⟨_, rfl, q⟩) (SqL.of U17) (by rw [List.length_map]; omega) (fun i v H18 D2 hv ex hD' Q2 kq => ?_) (fun D2 H18 vs nD ex z1 z2 z3 => ?_))
      · rw [List.getElem?_map] at hv
        obtain ⟨u, hu, rfl⟩ := Option.map_eq_some_iff.mp hv
        obtain ⟨u0, u1⟩ := gu u (List.mem_of_getElem? hu)
        refine ⟨rfl, lcInts (fun n => (m.getD u.toNat []).getD n.toNat 0) (fun R => lcL R (fun Q q => ⟨_, rfl, q⟩) (SqL.of (ex _ _ hLa)) (by rw [List.length_map, List.length_replicate]; omega)) (fun n H19 hn e19 Q7 q => ?_) (fun D3 H19 n3 e19 hD3 => ?_)⟩
        · obtain ⟨as, r1, r2, r3⟩ := (m17.ex ex).ex e19
          have hi : u.toNat < m.length := by omega
          have hb : as[u.toNat]? = some (as[u.toNat]'(by omega)) := List.getElem?_eq_getElem (by omega)
          have hrow := r3 u.toNat _ _ hb (List.getElem?_eq_getElem hi)
          obtain ⟨n0, n1⟩ := gl n hn
          have hj : n.toNat < m[u.toNat].length := by rw [rc.r _ (List.getElem_mem hi)]; omega
          have a1 := atI_nat (xs := as.map V.ref) (j := u.toNat) (v := V.ref (as[u.toNat]'(by omega))) (by rw [List.getElem?_map, hb]; rfl)
          have e0 : m.getD u.toNat [] = m[u.toNat] := by rw [List.getD_eq_getElem?_getD, List.getElem?_eq_getElem hi]; rfl
          have a2 := atI_nat (xs := m[u.toNat].map V.int) (j := n.toNat) (v := V.int ((m.getD u.toNat []).getD n.toNat 0)) (by rw [e0, List.getElem?_map, List.getElem?_eq_getElem hj, List.getD_eq_getElem?_getD, List.getElem?_eq_getElem hj]; rfl)
          rw [show ((n.toNat : Nat) : Int) = n by omega] at a2
          rw [show ((u.toNat : Nat) : Int) = u by omega] at a1
          exact ⟨rfl, _, rfl, _, rfl, _, _, _, _, rfl, rfl, SqL.of r1, a1, _, rfl, _, _, _, _, rfl, rfl, SqL.of hrow, a2, q⟩
        · obtain ⟨ob, hob⟩ := hD'
          exact kq _ _ e19 (RowR.fix (r := (List.replicate 64 (((wideOf m : Nat) : Int) - 1)).map fun n => (m.getD u.toNat []).getD n.toNat 0) (by unfold partOf; rw [List.getElem?_map, hu]; rfl) hD3 (ne_of_none hob n3).symm)
      · obtain ⟨bs, rfl, lb, hb⟩ := RowR.all (m := partOf m up (List.replicate 64 (((wideOf m : Nat) : Int) - 1))) (by rw [z2, List.length_map]; unfold partOf; rw [List.length_map]) z3
        exact ⟨⟨D2, _, _, rfl, bs, z1, lb, hb⟩, ex⟩
    rintro sl H18 ⟨⟨D2, q9, q10, rfl, hD2⟩, e18⟩
    have K18 := K17.trans (Keep.of e18)
    refine ⟨fun sl H19 => sl = [some (.ref p), some (.ref g), some (.ref a), some (.int o), some (.int (m.length : Nat)), some (.int (wideOf m : Nat)), some (.ref U), some (.ref C), some (.ref D2), q9, q10, some (.ref F), some (.int x1), some (.int x2), some (.int (d2 : Nat)), some (.ref V1), some (.ref V2), q17, q18, some (.ref La)] ∧ Ex H18 H19, ?_, ?_⟩
    · refine ⟨_, rfl, g, dx, _, rfl, gi _ K18, zip_no (by decide +kernel), _, rfl, _, rfl, ?_⟩
      dsimp only [tNil]
      refine part _ U La up (List.replicate 64 (((wideOf m : Nat) : Int) - 1)) _ K18 (.inl (SqL.of (e18 _ _ U17))) (.inl (SqL.of (e18 _ _ hLa))) gu gl (by omega) (by rw [List.length_replicate]; omega) fun c' H19 e19 hc => ?_
      exact ⟨_, rfl, _, rfl, c', D2, _, o, rfl, hc, hD2.ex e19, partOf_rect (by omega) (by rw [List.length_replicate]; omega), o1, bo9, fun H20 e20 => ⟨_, rfl, iteF ⟨rfl, e19.trans e20⟩⟩⟩
    rintro sl H19 ⟨rfl, e19⟩
    have K19 := K18.trans (Keep.of e19)
    refine ⟨_, rfl, _, rfl, _, rfl, (by show 1 ≤ sizeLine; rw [sizeLine_eq]; omega), fun z0 nz => ?_⟩
    have ez := Ex.new (o := .lst [.int (0 : Int)]) nz
    have E19 := e18.trans (e19.trans ez)
    refine ⟨La, z0, _, _, rfl, rfl, E19 _ _ hLa, upd_same, by rw [List.length_map, List.length_replicate, sizeLine_eq]; decide, fun z1 nz1 => ?_⟩
    have ez1 := Ex.new (o := .lst ((List.replicate 64 (((wideOf m : Nat) : Int) - 1)).map V.int ++ [.int 0])) nz1
    have K20 := K19.trans (Keep.of (ez.trans ez1))
    have gl' : ∀ y : Int, y ∈ List.replicate 64 (((wideOf m : Nat) : Int) - 1) ++ [0] → 0 ≤ y ∧ y < (wideOf (nR m o) : Nat) := fun y hy => by
      rw [nR_wide]
      rcases List.mem_append.mp hy with hy | hy
      · exact gl y hy
      · rw [List.mem_singleton.mp hy]; omega
    exact ⟨⟨3, _, _, _, rfl, .inr (.inr (.inr (.inl ⟨rfl, g, U, z1, _, _, up, List.replicate 64 (((wideOf m : Nat) : Int) - 1) ++ [0], rfl, rfl, rfl, g4.kp p4 K20, tb.rcn, nO_pos o1, tb.bn.mono (by decide), .inl (SqL.of (ez1 _ _ (E19 _ _ U17))), .inl (SqL.of (by rw [upd_same, List.map_append]; rfl)), gu', gl', .inr (by rw [List.length_append, List.length_replicate]; show 64 < 64 + 1; omega)⟩)))⟩,
      fun H21 e21 => k H21 (((p16.ex e17).ex E19).ex (ez1.trans e21)) (K4.trans (K20.trans (Keep.of e21)))⟩
end
end Fc
set_option Elab.async false
set_option linter.all false
set_option maxRecDepth 100000
set_option maxHeartbeats 4000000
set_option exponentiation.threshold 100000
namespace Fc
open PySem PySem.Spec PyProof.Rows L2 L2H
/-- a sum of products, its first n ones -/
def dotT (xs ys : List Int) (n : Nat) : Int := ((List.zipWith (· * ·) xs ys).take n).sum
theorem dotT_zero (xs ys : List Int) : dotT xs ys 0 = 0 := rfl
theorem dotT_succ {xs ys : List Int} {n : Nat} {x y : Int} (h1 : xs[n]? = some x) (h2 : ys[n]? = some y) : dotT xs ys (n + 1) = dotT xs ys n + x * y := by
  unfold dotT
  rw [zw_take xs ys n x y h1 h2, List.sum_append]
  simp
theorem dotT_all {xs ys : List Int} {n : Nat} (h : xs.length ≤ n) : dotT xs ys n = dotL xs ys := by
  unfold dotT dotL
  rw [List.take_of_length_le (by rw [List.length_zipWith]; omega)]
section
variable {P : Program} {w : World} {K : PySem.W.Frag} {mg : Str → Option Value} {base : Heap} {A : Ad}
theorem Tab.bcell {m : List (List Int)} {o : Int} (tb : Tab m o) : ∀ r ∈ nR m o, ∀ x ∈ r, Bd 31 x := fun r hr x hx => by
  unfold nR at hr
  obtain ⟨q, hq, rfl⟩ := List.mem_map.mp hr
  obtain ⟨y, hy, rfl⟩ := List.mem_map.mp hx
  refine (tb.b q hq y hy).abs ?_
  rw [Int.fdiv_eq_ediv_of_nonneg _ (Int.le_of_lt (nG_pos tb.o1))]
  exact Int.natAbs_ediv_le_natAbs _ _
structure LR (m : List (List Int)) (ls rs : List Int) : Prop where
  l : ls.length = m.length
  r : rs.length = wideOf m
  bl : ∀ x ∈ ls, Bd 31 x
  br : ∀ x ∈ rs, Bd 31 x
theorem ok_sums (T : Txt K mg A) : FnOk P w K mg base CX0 8 A.f_sums A.d_sums ["pot", "a", "rows", "over"] (spParts A) := by
  refine T.F_sums.ok sc_sums (fun vs H Q E h => ?_) (fun cdv Ar outer s H vs Q E hr h => ?_)
  · obtain ⟨p, l, g, a, m, o, rfl, _⟩ := h
    rfl
  · obtain ⟨p, l, g, a, m, o, rfl, pot, hg, hm, tb, k⟩ := h
    refine ⟨_, (C8.pss_cut (ps_set (i := 4) sc_sums.nd rfl (Or.inl rfl) (pe_callB call_len (by rfl) T.n_len PySem.boot_len (pa_cons (pv 2) pa_nil)))
      (C8.pss_cut (ps_set (i := 5) sc_sums.nd rfl (Or.inl rfl) (pe_call (ok_wide T) (hr.mono (by decide)) rfl T.g_wide T.F_wide.kp T.b_wide .nil pass0 (pa_cons (pv 2) pa_nil)))
      (C8.pss_cut (ps_set (i := 6) sc_sums.nd rfl (Or.inr rfl) pe_int)
      (C8.pss_cut (ps_if (pt_cmpR op_eq (pe_call (ok_digit T) (hr.mono (by decide)) rfl T.g_digit T.F_digit.kp T.b_digit .nil pass0 (pa_cons (pv 0) (pa_cons pe_int pa_nil))) pe_int (nomark _))
      (pss_one (ps_set (i := 6) sc_sums.nd rfl (Or.inr rfl) (pe_op op_add (pe_op op_mulW pe_int (pe_op op_pow pe_int pe_int)) pe_int))) pss_nil)
      (C8.pss_cut (ps_set (i := 7) sc_sums.nd rfl (Or.inl rfl) (pe_lst pa_nil))
      (C8.pss_cut (ps_set (i := 8) sc_sums.nd rfl (Or.inl rfl) (pe_lst pa_nil))
      (C8.pss_cut (ps_for PassesOwn.never rfl (pi_list (pe_lst (pa_cons pe_int (pa_cons pe_int pa_nil)))) (pg_name (i := 9) sc_sums.nd rfl (Or.inr rfl))
      (C8.pss_cut (ps_setLc (i := 7) (own := [("i", 10)]) (g := gName 10) (tt := tYes) rfl sc_sums.nd rfl rfl (sw_true rfl rfl rfl (by decide +kernel)) (pi_range1 rfl T.n_range (pa_cons (pv 4) pa_nil)) (blkOk_by (own := [("i", 10)]) (N := N_sums) (sc := defScope S_sums) (by decide +kernel)) (fun _ _ _ _ _ => pg_name (i := 10) sc_sums.nd rfl (Or.inl rfl)) (fun _ _ _ _ _ => pts_nil) (fun _ _ _ _ _ => (pe_call (ok_number T) (hr.mono (by decide)) rfl T.g_number T.F_number.kp T.b_number .nil pass0 (pa_cons (pv 0) (pa_cons (pv 6) (pa_cons (pe_op op_add (pv 9) (pe_op op_mulW pe_int (pv 10))) pa_nil))))))
      (C8.pss_cut (ps_setLc (i := 8) (own := [("j", 11)]) (g := gName 11) (tt := tYes) rfl sc_sums.nd rfl rfl (sw_true rfl rfl rfl (by decide +kernel)) (pi_range1 rfl T.n_range (pa_cons (pv 5) pa_nil)) (blkOk_by (own := [("j", 11)]) (N := N_sums) (sc := defScope S_sums) (by decide +kernel)) (fun _ _ _ _ _ => pg_name (i := 11) sc_sums.nd rfl (Or.inl rfl)) (fun _ _ _ _ _ => pts_nil) (fun _ _ _ _ _ => (pe_call (ok_number T) (hr.mono (by decide)) rfl T.g_number T.F_number.kp T.b_number .nil pass0 (pa_cons (pv 0) (pa_cons (pv 6) (pa_cons (pe_op op_add (pv 9) (pe_op op_mulW pe_int (pv 11))) pa_nil))))))
      (C8.pss_cut (ps_set (i := 12) sc_sums.nd rfl (Or.inl rfl) pe_int)
      (C8.pss_cut (ps_for PassesOwn.never rfl (pi_range1 rfl T.n_range (pa_cons (pv 4) pa_nil)) (pg_name (i := 10) sc_sums.nd rfl (Or.inl rfl))
      (pss_one (ps_for PassesOwn.never rfl (pi_range1 rfl T.n_range (pa_cons (pv 5) pa_nil)) (pg_name (i := 11) sc_sums.nd rfl (Or.inl rfl))
      (pss_one (ps_set (i := 12) sc_sums.nd rfl (Or.inl rfl) (pe_op op_add (pv 12) (pe_op op_mulW (pe_op op_mulW (pe_ix ix_list (pv 7) (pv 10) (fun _ _ => rfl)) (pe_ix ix_list (pe_ix ix_list (pv 2) (pv 10) (fun _ _ => rfl)) (pv 11) (fun _ _ => rfl))) (pe_ix ix_list (pv 8) (pv 11) (fun _ _ => rfl)))))))))
      (C8.pss_cut (ps_set (i := 13) sc_sums.nd rfl (Or.inl rfl) (pe_callTy call_list_of (by rfl) T.n_list (by decide +kernel) (pa_cons (pv 7) pa_nil)))
      (C8.pss_cut (ps_set (i := 14) sc_sums.nd rfl (Or.inl rfl) (pe_meth (pv 1) T.c_Gr T.m_gform (ok_gform T) (hr.mono (by decide)) T.b_gform .nil passLN (pa_cons (pv 13) (pa_cons (pe_callTy call_tuple_of (by rfl) T.n_tuple (by decide +kernel) (pa_cons (pv 8) pa_nil)) pa_nil))))
      (pss_one (ps_if (PW.pt (pw_or (pt_cmpR (op_neD hr.units) (pv 13) (pv 7) (nomark _)) (pw_or1 (pt_not (pt_val (pe_call (ok_isratio T) (hr.mono (by decide)) rfl T.g_isratio T.F_isratio.kp T.b_isratio .nil pass0 (pa_cons (pv 14) (pa_cons (pv 12) (pa_cons (pv 3) pa_nil)))))))))
      (pss_one (ps_ret pe_bl)) pss_nil)))))))))
      (C8.pss_cut (ps_for PassesOwn.never rfl (pi_list (pe_lst (pa_cons (pe_lst (pa_cons pe_int pa_nil)) (pa_cons (pe_lst (pa_cons pe_int (pa_cons pe_int pa_nil))) pa_nil)))) (pg_name (i := 15) sc_sums.nd rfl (Or.inl rfl))
      (pss_cons (ps_if (pt_not (pt_val (pe_call (ok_badshape T) (hr.mono (by decide)) rfl T.g_badshape T.F_badshape.kp T.b_badshape .nil pass0 (pa_cons pe_int (pa_cons (pv 1) (pa_cons (pe_op op_cat (pv 7) (pv 15)) (pa_cons (pv 8) pa_nil)))))))
      (pss_one (ps_ret pe_bl)) pss_nil)
      (pss_cons (ps_if (pt_not (pt_val (pe_call (ok_badshape T) (hr.mono (by decide)) rfl T.g_badshape T.F_badshape.kp T.b_badshape .nil pass0 (pa_cons pe_int (pa_cons (pv 1) (pa_cons (pv 7) (pa_cons (pe_op op_cat (pv 8) (pv 15)) pa_nil)))))))
      (pss_one (ps_ret pe_bl)) pss_nil)
      (pss_one (ps_if (pt_not (pt_val (pe_call (ok_badshape T) (hr.mono (by decide)) rfl T.g_badshape T.F_badshape.kp T.b_badshape .nil pass0 (pa_cons pe_int (pa_cons (pv 1) (pa_cons (pe_op op_cat (pv 7) (pv 15)) (pa_cons (pe_op op_cat (pv 8) (pv 15)) pa_nil)))))))
      (pss_one (ps_ret pe_bl)) pss_nil)))))
      (C8.pss_cut (ps_if (PW.pt (pw_and (pt_cmpR op_gt (pv 4) pe_int (nomark _)) (pw_and1 (pt_not (pt_val (pe_call (ok_badshape T) (hr.mono (by decide)) rfl T.g_badshape T.F_badshape.kp T.b_badshape .nil pass0 (pa_cons pe_int (pa_cons (pv 1) (pa_cons (pe_slice sl_list (pv 7) (po_some pe_int) po_none) (pa_cons (pv 8) pa_nil))))))))))
      (pss_one (ps_ret pe_bl)) pss_nil)
      (C8.pss_cut (ps_if (PW.pt (pw_and (pt_cmpR op_gt (pv 5) pe_int (nomark _)) (pw_and1 (pt_not (pt_val (pe_call (ok_badshape T) (hr.mono (by decide)) rfl T.g_badshape T.F_badshape.kp T.b_badshape .nil pass0 (pa_cons pe_int (pa_cons (pv 1) (pa_cons (pv 7) (pa_cons (pe_slice sl_list (pv 8) (po_some pe_int) po_none) pa_nil))))))))))
      (pss_one (ps_ret pe_bl)) pss_nil)
      (C8.pss_cut (ps_if (pt_cmpR op_ne (pv 4) (pv 5) (nomark _))
      (pss_one (ps_ret (pe_call (ok_badshape T) (hr.mono (by decide)) rfl T.g_badshape T.F_badshape.kp T.b_badshape .nil pass0 (pa_cons pe_int (pa_cons (pv 1) (pa_cons pe_int (pa_cons pe_int pa_nil))))))) pss_nil)
      (C8.pss_cut (ps_set (i := 12) sc_sums.nd rfl (Or.inl rfl) (pe_callB (cr_sum rfl) (by rfl) T.n_sum (by decide +kernel) (pa_cons (pe_lc (own := [("i", 10)]) (g := gName 10) (tt := tYes) rfl sc_sums.nd (pi_range1 rfl T.n_range (pa_cons (pv 4) pa_nil)) (blkOk_by (own := [("i", 10)]) (N := N_sums) (sc := defScope S_sums) (by decide +kernel)) (fun _ _ _ _ _ => pg_name (i := 10) sc_sums.nd rfl (Or.inl rfl)) (fun _ _ _ _ _ => pts_nil) (fun _ _ _ _ _ => (pe_ix (r := rIxL K) ix_list (pe_ix (r := rIxL K) ix_list (pv 2) (pv 10) (fun _ _ => rfl)) (pv 10) (fun _ _ => rfl)))) pa_nil)))
      (pss_one (ps_ret (pe_call (ok_isratio T) (hr.mono (by decide)) rfl T.g_isratio T.F_isratio.kp T.b_isratio .nil pass0 (pa_cons (pe_meth0 (pv 1) T.c_Gr T.m_gtrace (ok_gtrace T) (hr.mono (by decide)) T.b_gtrace .nil passLN) (pa_cons (pv 12) (pa_cons (pv 3) pa_nil)))))))))))))))))), ?_⟩
    have rc := tb.rc
    have o1 := tb.o1
    have bo9 : Bd 900 o := tb.bo.mono (by decide)
    obtain ⟨as0, h1, h2, h3⟩ := id hm
    have hl := nR_len m o
    have hw := nR_wide m o
    refine ⟨fun sl H1 => sl = [some (.ref p), some (.ref g), some (.ref a), some (.int o), some (.int (m.length : Nat)), none, none, none, none, none, none, none, none, none, none, none] ∧ H1 = H, ?_, ?_⟩
    · refine ⟨_, rfl, _, _, rfl, lenv (.inl (SqL.of h1)), ?_⟩
      rw [List.length_map, h2]
      exact ⟨rfl, rfl⟩
    rintro sl H1 ⟨rfl, rfl⟩
    refine ⟨fun sl H2 => sl = [some (.ref p), some (.ref g), some (.ref a), some (.int o), some (.int (m.length : Nat)), some (.int (wideOf m : Nat)), none, none, none, none, none, none, none, none, none, none] ∧ Ex H1 H2, ?_, ?_⟩
    · exact ⟨_, rfl, a, m, rfl, hm, fun r hr => by rw [rc.r r hr]; exact int64 rc.w, fun H2 e => ⟨rfl, e⟩⟩
    rintro sl H2 ⟨rfl, e2⟩
    have p2 := pot.ex e2
    have g2 := hg.ex e2
    have m2 := hm.ex e2
    obtain ⟨dx, R0, hgi, _⟩ := id g2
    have gi : ∀ H7, Keep p H2 H7 → H7 g = _ := fun H7 e7 => (p2.nl e7).ins hgi
    refine ⟨fun sl H3 => sl = [some (.ref p), some (.ref g), some (.ref a), some (.int o), some (.int (m.length : Nat)), some (.int (wideOf m : Nat)), some (.int 13), none, none, none, none, none, none, none, none, none] ∧ H3 = H2, ⟨rfl, rfl⟩, ?_⟩
    rintro sl H3 ⟨rfl, rfl⟩
    refine ⟨fun sl H4 => ∃ mn : Int, 0 < mn ∧ mn ≤ 2 * 10 ^ 9 + 1 ∧ sl = [some (.ref p), some (.ref g), some (.ref a), some (.int o), some (.int (m.length : Nat)), some (.int (wideOf m : Nat)), some (.int mn), none, none, none, none, none, none, none, none, none] ∧ PotL H4 p l ∧ Keep p H3 H4, ?_, ?_⟩
    · refine ⟨_, rfl, p, l, 8, rfl, p2, by decide, bd_of (by decide +kernel), fun d H4 d0 d1 p4 k4 => ⟨rfl, _, rfl, ?_⟩⟩
      have b9 : Bd 30 ((10 : Int) ^ (9 : Int).toNat) := by show ((10 : Int) ^ 9).natAbs < 2 ^ 30; decide +kernel
      refine ite2 (fun _ => ?_) (fun _ => ⟨13, by decide, by decide, rfl, p4, k4⟩)
      exact ⟨_, _, rfl, rfl, cpow 10 9 (by decide) (by decide), _, _, rfl, rfl, bd_two.w b9, _, _, rfl, rfl, 2 * (10 : Int) ^ (9 : Int).toNat + 1, by decide +kernel, by decide +kernel, rfl, p4, k4⟩
    rintro sl H4 ⟨mn, mn0, mn1, rfl, p4, k4⟩
    have bmn : Bd 300 mn := by
      show mn.natAbs < 2 ^ 300
      have : (2 : Nat) ^ 300 > 3000000000 := by decide +kernel
      omega
    refine ⟨fun sl H5 => ∃ L, sl = [some (.ref p), some (.ref g), some (.ref a), some (.int o), some (.int (m.length : Nat)), some (.int (wideOf m : Nat)), some (.int mn), some (.ref L), none, none, none, none, none, none, none, none] ∧ Ex H4 H5, ?_, ?_⟩
    · exact ⟨(by show 0 ≤ sizeLine; exact Nat.zero_le _), fun L nL => ⟨L, rfl, Ex.new nL⟩⟩
    rintro sl H5 ⟨L0, rfl, e5⟩
    refine ⟨fun sl H6 => ∃ R, sl = [some (.ref p), some (.ref g), some (.ref a), some (.int o), some (.int (m.length : Nat)), some (.int (wideOf m : Nat)), some (.int mn), some (.ref L0), some (.ref R), none, none, none, none, none, none, none] ∧ Ex H5 H6, ?_, ?_⟩
    · exact ⟨(by show 0 ≤ sizeLine; exact Nat.zero_le _), fun L nL => ⟨L, rfl, Ex.new nL⟩⟩
    rintro sl H6 ⟨R0', rfl, e6⟩
    have K6 : Keep p H3 H6 := k4.trans (Keep.of (e5.trans e6))
    have p6 := (p4.ex e5).ex e6
    have num : ∀ (sh : Int) (H7 : Hp) (Q : VK), PotL H7 p l → (∀ x H8, Bd 31 x → PotL H8 p l → Keep p H7 H8 → Q (.int x) H8) → spNumber [.ref p, .int mn, .int sh] H7 Q E0 := fun sh H7 Q p7 kk =>
      ⟨p, l, mn, sh, rfl, p7, mn0, bmn, fun n H8 n0 n1 p8 k8 => kk n H8 (bd31 n0 n1 mn1) p8 k8⟩
    refine ⟨fun sl H7 => (∃ (L R : Addr) (ls rs : List Int) (o9 o10 o11 o12 o13 o14 : Option V), sl = [some (.ref p), some (.ref g), some (.ref a), some (.int o), some (.int (m.length : Nat)), some (.int (wideOf m : Nat)), some (.int mn), some (.ref L), some (.ref R), o9, o10, o11, o12, o13, o14, none] ∧ H7 L = some (.lst (ls.map V.int)) ∧ H7 R = some (.lst (rs.map V.int)) ∧ LR m ls rs) ∧ PotL H7 p l ∧ Keep p H3 H7, ?_, ?_⟩
    · refine ⟨(by show 2 ≤ sizeLine; rw [sizeLine_eq]; omega), fun Sh nSh => ⟨Sh, rfl, ⟨_, SqL.of upd_same⟩, ?_⟩⟩
      have eS := Ex.new (o := .lst [.int 2, .int 6]) nSh
      have pS := p6.ex eS
      have Sp : Sh ≠ p := (p6.ne nSh).1
      refine for_list (K := K) (a := Sh) (xs := [.int 2, .int 6]) (fun i sl H7 => (∃ L R o9 o10 o11 o12 o13 o14, sl = [some (.ref p), some (.ref g), some (.ref a), some (.int o), some (.int (m.length : Nat)), some (.int (wideOf m : Nat)), some (.int mn), some (.ref L), some (.ref R), o9, o10, o11, o12, o13, o14, none] ∧ (0 < i → ∃ ls rs, H7 L = some (.lst (ls.map V.int)) ∧ H7 R = some (.lst (rs.map V.int)) ∧ LR m ls rs)) ∧ PotL H7 p l ∧ Keep p H3 H7 ∧ H7 Sh = some (.lst [.int 2, .int 6]))
        ⟨⟨L0, R0', _, _, _, _, _, _, rfl, fun z => absurd z (by decide)⟩, pS, K6.trans (Keep.of eS), upd_same⟩ (fun i sl H7 _ q => SqL.of q.2.2.2) (fun i v sl H7 hv q => ?_) (fun sl H7 q => (by
          obtain ⟨⟨La, Ra, o9, o10, o11, o12, o13, o14, rfl, h2'⟩, p7, k7, _⟩ := q
          obtain ⟨ls, rs, z1, z2, z3⟩ := h2' (by show 0 < 2; decide)
          exact ⟨⟨La, Ra, ls, rs, _, _, _, _, _, _, rfl, z1, z2, z3⟩, p7, k7⟩))
      obtain ⟨⟨La, Ra, o9, o10, o11, o12, o13, o14, rfl, _⟩, p7, k7, hS7⟩ := q
      have hv2 : ∃ sh : Int, v = V.int sh ∧ Bd 5 sh := by
        match i, hv with
        | 0, hv => cases hv; exact ⟨2, rfl, bd_of (by decide)⟩
        | 1, hv => cases hv; exact ⟨6, rfl, bd_of (by decide)⟩
        | i + 2, hv => simp at hv
      obtain ⟨sh, rfl, bsh⟩ := hv2
      refine ⟨fun sl H8 => (∃ (L : Addr) (ls : List Int) (o10 : Option V), sl = [some (.ref p), some (.ref g), some (.ref a), some (.int o), some (.int (m.length : Nat)), some (.int (wideOf m : Nat)), some (.int mn), some (.ref L), some (.ref Ra), some (.int sh), o10, o11, o12, o13, o14, none] ∧ H8 L = some (.lst (ls.map V.int)) ∧ ls.length = m.length ∧ ∀ x ∈ ls, Bd 31 x) ∧ PotL H8 p l ∧ Keep p H7 H8, ?_, ?_⟩
      · refine uAsg (lcRP (lo := 0) (n := m.length) (fun _ x => Bd 31 x) (by have := tb.l5; omega) p7 (fun P h => ⟨_, rfl, (m.length : Int), rfl, by omega, by have := tb.l5; omega, by simpa using h⟩) (fun j H8 D2 hj p8 k8 hD' Q2 kq => ?_) (fun D2 H8 xs nD hD2 lx hx p8 k8 => ?_))
        · have bj : Bd 31 ((0 : Int) + (j : Int)) := by
            have : (5 : Nat) < 2 ^ 31 := by decide
            have := tb.l5
            unfold Bd
            omega
          refine ⟨rfl, _, rfl, _, rfl, _, rfl, _, rfl, _, _, rfl, rfl, (bd_of (by decide) : Bd 4 (5 : Int)).w bj, _, _, rfl, rfl, ?_⟩
          exact num _ H8 _ p8 fun x H9 bx p9 k9 => kq x H9 bx p9 k9
        · refine ⟨⟨D2, xs, _, rfl, hD2, lx, fun x hx' => ?_⟩, p8, k8⟩
          obtain ⟨j, hj⟩ := List.mem_iff_getElem?.mp hx'
          exact hx j x hj
      rintro sl H8 ⟨⟨Lb, ls, q10, rfl, hL8, ll, bl⟩, p8, k8⟩
      refine ⟨fun sl H9 => (∃ (R : Addr) (rs : List Int) (o11 : Option V), sl = [some (.ref p), some (.ref g), some (.ref a), some (.int o), some (.int (m.length : Nat)), some (.int (wideOf m : Nat)), some (.int mn), some (.ref Lb), some (.ref R), some (.int sh), q10, o11, o12, o13, o14, none] ∧ H9 R = some (.lst (rs.map V.int)) ∧ rs.length = wideOf m ∧ ∀ x ∈ rs, Bd 31 x) ∧ PotL H9 p l ∧ Keep p H8 H9, ?_, ?_⟩
      · refine uAsg (lcRP (lo := 0) (n := wideOf m) (fun _ x => Bd 31 x) (by have := tb.w5; omega) p8 (fun P h => ⟨_, rfl, (wideOf m : Int), rfl, by omega, by have := tb.w5; omega, by simpa using h⟩) (fun j H9 D2 hj p9 k9 hD' Q2 kq => ?_) (fun D2 H9 xs nD hD2 lx hx p9 k9 => ?_))
        · have bj : Bd 31 ((0 : Int) + (j : Int)) := by
            have : (5 : Nat) < 2 ^ 31 := by decide
            have := tb.w5
            unfold Bd
            omega
          refine ⟨rfl, _, rfl, _, rfl, _, rfl, _, rfl, _, _, rfl, rfl, (bd_of (by decide) : Bd 4 (4 : Int)).w bj, _, _, rfl, rfl, ?_⟩
          exact num _ H9 _ p9 fun x H10 bx p10 k10 => kq x H10 bx p10 k10
        · refine ⟨⟨D2, xs, _, rfl, hD2, lx, fun x hx' => ?_⟩, p9, k9⟩
          obtain ⟨j, hj⟩ := List.mem_iff_getElem?.mp hx'
          exact hx j x hj
      rintro sl H9 ⟨⟨Rb, rs, q11, rfl, hR9, lr, br⟩, p9, k9⟩
      have hL9 := kpI hL8 p8 k9
      have K9 := k7.trans (k8.trans k9)
      have S9 := k9 _ _ (k8 _ _ hS7 Sp) Sp
      have m9 := m2.kp p2 K9
      obtain ⟨as9, r1, r2, r3⟩ := id m9
      refine ⟨fun sl H10 => sl = [some (.ref p), some (.ref g), some (.ref a), some (.int o), some (.int (m.length : Nat)), some (.int (wideOf m : Nat)), some (.int mn), some (.ref Lb), some (.ref Rb), some (.int sh), q10, q11, some (.int 0), o13, o14, none] ∧ H10 = H9, ⟨rfl, rfl⟩, ?_⟩
      rintro sl H10 ⟨rfl, rfl⟩
      refine ⟨fun sl H11 => (∃ o10 o11, sl = [some (.ref p), some (.ref g), some (.ref a), some (.int o), some (.int (m.length : Nat)), some (.int (wideOf m : Nat)), some (.int mn), some (.ref Lb), some (.ref Rb), some (.int sh), o10, o11, some (.int (formL m ls rs)), o13, o14, none]) ∧ H11 = H10, ?_, ?_⟩
      · refine forR (lo := 0) (n := m.length) (fun i sl H11 => (∃ o10 o11, sl = [some (.ref p), some (.ref g), some (.ref a), some (.int o), some (.int (m.length : Nat)), some (.int (wideOf m : Nat)), some (.int mn), some (.ref Lb), some (.ref Rb), some (.int sh), o10, o11, some (.int (dotT ls (m.map fun row => dotL row rs) i)), o13, o14, none]) ∧ H11 = H10)
          (fun P h => ⟨_, rfl, (m.length : Int), rfl, by omega, by have := rc.l; omega, by simpa using h⟩) ⟨⟨_, _, rfl⟩, rfl⟩ (fun i sl H11 hi q => ?_) (fun sl H11 q => ?_)
        · obtain ⟨⟨y10, y11, rfl⟩, rfl⟩ := q
          rw [show (0 : Int) + (i : Int) = (i : Int) by omega]
          have hbi : as9[i]? = some (as9[i]'(by omega)) := List.getElem?_eq_getElem (by omega)
          have hrow := r3 i _ _ hbi (List.getElem?_eq_getElem hi)
          have hli : ls[i]? = some (ls[i]'(by omega)) := List.getElem?_eq_getElem (by omega)
          have lw := rc.r _ (List.getElem_mem hi)
          have aL := atI_nat (xs := ls.map V.int) (j := i) (v := V.int (ls[i]'(by omega))) (by rw [List.getElem?_map, hli]; rfl)
          have aB := atI_nat (xs := as9.map V.ref) (j := i) (v := V.ref (as9[i]'(by omega))) (by rw [List.getElem?_map, hbi]; rfl)
          refine forR (lo := 0) (n := wideOf m) (fun j sl H12 => (∃ o11, sl = [some (.ref p), some (.ref g), some (.ref a), some (.int o), some (.int (m.length : Nat)), some (.int (wideOf m : Nat)), some (.int mn), some (.ref Lb), some (.ref Rb), some (.int sh), some (.int (i : Int)), o11, some (.int (dotT ls (m.map fun row => dotL row rs) i + (ls[i]'(by omega)) * dotT m[i] rs j)), o13, o14, none]) ∧ H12 = H11)
            (fun P h => ⟨_, rfl, (wideOf m : Int), rfl, by omega, by have := rc.w; omega, by simpa using h⟩) ⟨⟨_, by rw [dotT_zero, Int.mul_zero, Int.add_zero]; rfl⟩, rfl⟩ (fun j sl H12 hj q => ?_) (fun sl H12 q => ?_)
          · obtain ⟨⟨z11, rfl⟩, rfl⟩ := q
            rw [show (0 : Int) + (j : Int) = (j : Int) by omega]
            have hrj : rs[j]? = some (rs[j]'(by omega)) := List.getElem?_eq_getElem (by omega)
            have hmj : m[i][j]? = some (m[i][j]'(by omega)) := List.getElem?_eq_getElem (by omega)
            have aR := atI_nat (xs := rs.map V.int) (j := j) (v := V.int (rs[j]'(by omega))) (by rw [List.getElem?_map, hrj]; rfl)
            have aM := atI_nat (xs := m[i].map V.int) (j := j) (v := V.int (m[i][j]'(by omega))) (by rw [List.getElem?_map, hmj]; rfl)
            have b1 := bl _ (List.getElem_mem (show i < ls.length by omega))
            have b2 := tb.b _ (List.getElem_mem hi) _ (List.getElem_mem (show j < m[i].length by omega))
            have b3 := br _ (List.getElem_mem (show j < rs.length by omega))
            refine ⟨_, rfl, _, rfl, _, rfl, _, _, _, _, rfl, rfl, SqL.of hL9, aL, _, rfl, _, rfl, _, _, _, _, rfl, rfl, SqL.of r1, aB, _, rfl, _, _, _, _, rfl, rfl, SqL.of hrow, aM, _, _, rfl, rfl, b1.w b2, _, rfl, _, rfl, _, _, _, _, rfl, rfl, SqL.of hR9, aR, _, _, rfl, rfl, (b1.mul b2).w b3, _, _, rfl, rfl, ⟨some (.int (j : Int)), ?_⟩, rfl⟩
            rw [dotT_succ hmj hrj, Int.mul_add, ← Int.add_assoc, Int.mul_assoc]
            rfl
          · obtain ⟨⟨z11, rfl⟩, rfl⟩ := q
            rw [dotT_all (by omega : m[i].length ≤ wideOf m), ← dotT_succ hli (by rw [List.getElem?_map, List.getElem?_eq_getElem hi]; rfl)]
            exact ⟨⟨_, _, rfl⟩, rfl⟩
        · obtain ⟨⟨y10, y11, rfl⟩, rfl⟩ := q
          rw [dotT_all (by omega)]
          exact ⟨⟨_, _, rfl⟩, rfl⟩
      rintro sl H11 ⟨⟨y10, y11, rfl⟩, rfl⟩
      refine ⟨fun sl H12 => ∃ F, sl = [some (.ref p), some (.ref g), some (.ref a), some (.int o), some (.int (m.length : Nat)), some (.int (wideOf m : Nat)), some (.int mn), some (.ref Lb), some (.ref Rb), some (.int sh), y10, y11, some (.int (formL m ls rs)), some (.ref F), o14, none] ∧ Ex H11 H12 ∧ H12 F = some (.lst (ls.map V.int)), ?_, ?_⟩
      · exact ⟨_, rfl, Lb, _, rfl, .inl (SqL.of hL9), fun F nF => ⟨F, rfl, Ex.new nF, upd_same⟩⟩
      rintro sl H12 ⟨F, rfl, e12, hF⟩
      have K12 := K9.trans (Keep.of e12)
      refine ⟨fun sl H13 => ∃ To, sl = [some (.ref p), some (.ref g), some (.ref a), some (.int o), some (.int (m.length : Nat)), some (.int (wideOf m : Nat)), some (.int mn), some (.ref Lb), some (.ref Rb), some (.int sh), y10, y11, some (.int (formL m ls rs)), some (.ref F), some (.ref To), none] ∧ Ex H12 H13 ∧ RatAt A.C H13 To (lo (formL m ls rs) o), ?_, ?_⟩
      · refine ⟨_, rfl, g, dx, _, rfl, gi _ K12, zip_no (by decide +kernel), _, rfl, _, rfl, Rb, _, rfl, .inl ⟨SqL.of (e12 _ _ hR9), fun t nt => ?_⟩⟩
        have et := Ex.new (o := .tup (rs.map V.int)) nt
        refine ⟨g, F, t, nR m o, nO m o, ls, rs, rfl, (g2.kp p2 K12).ex et, .inl (SqL.of (et _ _ hF)), .inr (SqT.of upd_same), fun z => absurd ⟨by omega, by omega⟩ z, fun _ _ => ⟨tb.rcn, nO_pos o1, tb.bn.mono (by decide), et _ _ hF, upd_same, fun x hx => (bl x hx).mono (by decide), fun x hx => (br x hx).mono (by decide), fun r hr x hx => (tb.bcell r hr x hx).mono (by decide), fun x H13 e13 hx => ?_⟩⟩
        rw [lo_norm o1 (fun n => formL n ls rs) (fun n k => form_mul n k ls rs)] at hx
        exact ⟨x, rfl, et.trans e13, hx⟩
      rintro sl H13 ⟨To, rfl, e13, hTo⟩
      have bf : Bd 900 (formL m ls rs) := by
        refine (bd_dot (n := 31) (k := 69) bl (fun y hy => ?_) (by have := tb.l5; omega)).mono (by decide)
        obtain ⟨row, hrow, rfl⟩ := List.mem_map.mp hy
        exact bd_dot (tb.b row hrow) br (by rw [rc.r row hrow]; have := tb.w5; omega)
      refine ⟨_, rfl, _, rfl, _, _, .lst (SqL.of (e13 _ _ hF)) (dpI ls), .lst (SqL.of ((e12.trans e13) _ _ hL9)) (dpI ls), shapedI ls, shapedI ls, _, rfl, ?_⟩
      rw [eqv_list_int, decide_eq_true rfl]
      refine iteF ⟨_, rfl, _, rfl, _, rfl, To, _, _, rfl, hTo, by omega, bf, bo9, _, rfl, iteF ⟨⟨Lb, Rb, _, _, _, _, _, _, rfl, fun _ => ⟨ls, rs, (e12.trans e13) _ _ hL9, (e12.trans e13) _ _ hR9, ⟨ll, lr, bl, br⟩⟩⟩, (p9.ex e12).ex e13, K12.trans (Keep.of e13), (e12.trans e13) _ _ S9⟩⟩
    rintro sl H7 ⟨⟨La, Ra, ls, rs, o9, o10, o11, o12, o13, o14, rfl, hL, hR, lr⟩, p7, k7⟩
    have g7 := g2.kp p2 k7
    have m7 := m2.kp p2 k7
    have ll := lr.l
    have lrr := lr.r
    refine ⟨fun sl H8 => (∃ o15, sl = [some (.ref p), some (.ref g), some (.ref a), some (.int o), some (.int (m.length : Nat)), some (.int (wideOf m : Nat)), some (.int mn), some (.ref La), some (.ref Ra), o9, o10, o11, o12, o13, o14, o15]) ∧ Ex H7 H8, ?_, ?_⟩
    · refine ⟨(by show 1 ≤ sizeLine; rw [sizeLine_eq]; omega), fun q1 n1 => ⟨(by show 2 ≤ sizeLine; rw [sizeLine_eq]; omega), fun q2 n2 => ⟨(by show 2 ≤ sizeLine; rw [sizeLine_eq]; omega), fun W nW => ⟨W, rfl, ⟨_, SqL.of upd_same⟩, ?_⟩⟩⟩⟩
      have f1 := Ex.new (o := .lst [.int (1 : Int)]) n1
      have f2 := Ex.new (o := .lst [.int (0 : Int), .int 0]) n2
      have f3 := Ex.new (o := .lst [.ref q1, .ref q2]) nW
      refine for_list (K := K) (a := W) (xs := [.ref q1, .ref q2]) (fun i sl H8 => (∃ o15, sl = [some (.ref p), some (.ref g), some (.ref a), some (.int o), some (.int (m.length : Nat)), some (.int (wideOf m : Nat)), some (.int mn), some (.ref La), some (.ref Ra), o9, o10, o11, o12, o13, o14, o15]) ∧ Ex (upd (upd (upd H7 q1 (.lst [.int (1 : Int)])) q2 (.lst [.int (0 : Int), .int 0])) W (.lst [.ref q1, .ref q2])) H8)
        ⟨⟨_, rfl⟩, fun _ _ h => h⟩ (fun i sl H8 _ q => SqL.of (q.2 _ _ upd_same)) (fun i v sl H8 hv q => ?_) (fun sl H8 q => ⟨q.1, f1.trans (f2.trans (f3.trans q.2))⟩)
      obtain ⟨⟨y15, rfl⟩, e8⟩ := q
      have E8 := f1.trans (f2.trans (f3.trans e8))
      have hv2 : ∃ (q : Addr) (ns : List Int), v = V.ref q ∧ H8 q = some (.lst (ns.map V.int)) ∧ 0 < ns.length ∧ ns.length ≤ 2 := by
        match i, hv with
        | 0, hv => cases hv; exact ⟨q1, [1], rfl, (f2.trans (f3.trans e8)) _ _ upd_same, by decide, by decide⟩
        | 1, hv => cases hv; exact ⟨q2, [0, 0], rfl, (f3.trans e8) _ _ upd_same, by decide, by decide⟩
        | i + 2, hv => simp at hv
      obtain ⟨q, ns, rfl, hq, n0, n2'⟩ := hv2
      have l5 := tb.l5
      have w5 := tb.w5
      have cat : ∀ {xs : List Int}, xs.length ≤ 5 → (xs.map V.int).length + (ns.map V.int).length ≤ sizeLine := fun h => by rw [List.length_map, List.length_map, sizeLine_eq]; omega
      refine ⟨_, rfl, _, rfl, _, rfl, La, q, _, _, rfl, rfl, E8 _ _ hL, hq, cat (by omega), fun x1 y1 => ?_⟩
      have z1 := Ex.new (o := .lst (ls.map V.int ++ ns.map V.int)) y1
      refine ⟨_, rfl, ⟨⟨4, _, _, _, rfl, .inr (.inr (.inr (.inr (.inl ⟨rfl, g, x1, Ra, _, _, ls ++ ns, rs, rfl, rfl, rfl, g7.ex (E8.trans z1), .inl (SqL.of (by rw [upd_same, List.map_append])), .inl (SqL.of (z1 _ _ (E8 _ _ hR))), fun z => by have := z.1; rw [List.length_append] at this; omega⟩))))⟩, fun H9 e9 => ⟨_, rfl, iteF ?_⟩⟩⟩
      have E9 := z1.trans e9
      refine ⟨_, rfl, _, rfl, _, rfl, _, rfl, Ra, q, _, _, rfl, rfl, E9 _ _ (E8 _ _ hR), E9 _ _ hq, cat (by omega), fun x2 y2 => ?_⟩
      have z2 := Ex.new (o := .lst (rs.map V.int ++ ns.map V.int)) y2
      refine ⟨⟨4, _, _, _, rfl, .inr (.inr (.inr (.inr (.inl ⟨rfl, g, La, x2, _, _, ls, rs ++ ns, rfl, rfl, rfl, g7.ex (E8.trans (E9.trans z2)), .inl (SqL.of (z2 _ _ (E9 _ _ (E8 _ _ hL)))), .inl (SqL.of (by rw [upd_same, List.map_append])), fun z => by have := z.2; rw [List.length_append] at this; omega⟩))))⟩, fun H10 e10 => ⟨_, rfl, iteF ?_⟩⟩
      have E10 := E9.trans (z2.trans e10)
      refine ⟨_, rfl, _, rfl, _, rfl, La, q, _, _, rfl, rfl, E10 _ _ (E8 _ _ hL), E10 _ _ hq, cat (by omega), fun x3 y3 => ?_⟩
      have z3 := Ex.new (o := .lst (ls.map V.int ++ ns.map V.int)) y3
      refine ⟨_, rfl, _, rfl, Ra, q, _, _, rfl, rfl, z3 _ _ (E10 _ _ (E8 _ _ hR)), z3 _ _ (E10 _ _ hq), cat (by omega), fun x4 y4 => ?_⟩
      have z4 := Ex.new (o := .lst (rs.map V.int ++ ns.map V.int)) y4
      exact ⟨⟨4, _, _, _, rfl, .inr (.inr (.inr (.inr (.inl ⟨rfl, g, x3, x4, _, _, ls ++ ns, rs ++ ns, rfl, rfl, rfl, g7.ex (E8.trans (E10.trans (z3.trans z4))), .inl (SqL.of (by rw [z4 _ _ upd_same, List.map_append])), .inl (SqL.of (by rw [upd_same, List.map_append])), fun z => by have := z.1; rw [List.length_append] at this; omega⟩))))⟩, fun H11 e11 => ⟨_, rfl, iteF ⟨⟨_, rfl⟩, e8.trans (E10.trans (z3.trans (z4.trans e11)))⟩⟩⟩
    rintro sl H8 ⟨⟨o15, rfl⟩, e8⟩
    have hL8 := e8 _ _ hL
    have hR8 := e8 _ _ hR
    have g8 := g7.ex e8
    refine ⟨fun sl H9 => sl = [some (.ref p), some (.ref g), some (.ref a), some (.int o), some (.int (m.length : Nat)), some (.int (wideOf m : Nat)), some (.int mn), some (.ref La), some (.ref Ra), o9, o10, o11, o12, o13, o14, o15] ∧ Ex H8 H9, ?_, ?_⟩
    · by_cases c : 0 < m.length
      · refine ⟨_, rfl, _, _, rfl, rfl, _, rfl, ?_⟩
        rw [decide_eq_true (by omega)]
        refine iteT ⟨_, rfl, _, rfl, 1, rfl, La, _, rfl, SqL.of hL8, fun x1 y1 => ?_⟩
        have z1 := Ex.new (o := .lst (cutV (ls.map V.int) (some ((1 : Nat) : Int)) none)) y1
        have c1 : cutV (ls.map V.int) (some ((1 : Nat) : Int)) none = (ls.drop 1).map V.int := by rw [cut_from (by rw [List.length_map]; omega), List.map_drop]
        exact ⟨_, rfl, ⟨4, _, _, _, rfl, .inr (.inr (.inr (.inr (.inl ⟨rfl, g, x1, Ra, _, _, ls.drop 1, rs, rfl, rfl, rfl, g8.ex z1, .inl (SqL.of (by rw [← c1]; exact upd_same)), .inl (SqL.of (z1 _ _ hR8)), fun z => by have := z.1; rw [List.length_drop] at this; omega⟩))))⟩, fun H9 e9 => ⟨_, rfl, iteF ⟨rfl, z1.trans e9⟩⟩⟩
      · refine ⟨_, rfl, _, _, rfl, rfl, _, rfl, ?_⟩
        rw [decide_eq_false (by omega)]
        exact iteF ⟨rfl, fun _ _ h => h⟩
    rintro sl H9 ⟨rfl, e9⟩
    have E9 := e8.trans e9
    have hL9 := e9 _ _ hL8
    have hR9 := e9 _ _ hR8
    refine ⟨fun sl H10 => sl = [some (.ref p), some (.ref g), some (.ref a), some (.int o), some (.int (m.length : Nat)), some (.int (wideOf m : Nat)), some (.int mn), some (.ref La), some (.ref Ra), o9, o10, o11, o12, o13, o14, o15] ∧ Ex H9 H10, ?_, ?_⟩
    · by_cases c : 0 < wideOf m
      · refine ⟨_, rfl, _, _, rfl, rfl, _, rfl, ?_⟩
        rw [decide_eq_true (by omega)]
        refine iteT ⟨_, rfl, _, rfl, _, rfl, 1, rfl, Ra, _, rfl, SqL.of hR9, fun x1 y1 => ?_⟩
        have z1 := Ex.new (o := .lst (cutV (rs.map V.int) (some ((1 : Nat) : Int)) none)) y1
        have c1 : cutV (rs.map V.int) (some ((1 : Nat) : Int)) none = (rs.drop 1).map V.int := by rw [cut_from (by rw [List.length_map]; omega), List.map_drop]
        exact ⟨⟨4, _, _, _, rfl, .inr (.inr (.inr (.inr (.inl ⟨rfl, g, La, x1, _, _, ls, rs.drop 1, rfl, rfl, rfl, g7.ex (E9.trans z1), .inl (SqL.of (z1 _ _ hL9)), .inl (SqL.of (by rw [← c1]; exact upd_same)), fun z => by have := z.2; rw [List.length_drop] at this; omega⟩))))⟩, fun H9 e9 => ⟨_, rfl, iteF ⟨rfl, z1.trans e9⟩⟩⟩
      · refine ⟨_, rfl, _, _, rfl, rfl, _, rfl, ?_⟩
        rw [decide_eq_false (by omega)]
        exact iteF ⟨rfl, fun _ _ h => h⟩
    rintro sl H10 ⟨rfl, e10⟩
    have E10 := E9.trans e10
    have p10 := p7.ex E10
    have K10 := k7.trans (Keep.of E10)
    have Kf : ∀ H', Ex H10 H' → Keep p H1 H' := fun H' e => (Keep.of e2).trans (K10.trans (Keep.of e))
    refine ⟨fun sl H11 => sl = [some (.ref p), some (.ref g), some (.ref a), some (.int o), some (.int (m.length : Nat)), some (.int (wideOf m : Nat)), some (.int mn), some (.ref La), some (.ref Ra), o9, o10, o11, o12, o13, o14, o15] ∧ H11 = H10 ∧ m.length = wideOf m, ?_, ?_⟩
    · refine ⟨_, rfl, _, rfl, rfl, _, rfl, ?_⟩
      by_cases c : m.length = wideOf m
      · rw [decide_eq_true (by rw [c])]
        exact iteF ⟨rfl, rfl, c⟩
      · rw [decide_eq_false (fun z => c (by have := V.int.inj z; omega))]
        exact iteT ⟨_, rfl, ⟨5, _, _, _, rfl, .inr (.inr (.inr (.inr (.inr ⟨rfl, g, _, _, rfl, g7.ex E10, by omega⟩))))⟩, fun H11 e11 => k H11 (p10.ex e11) (Kf H11 e11)⟩
    rintro sl H11 ⟨rfl, rfl, hsq⟩
    have m11 := m2.kp p2 K10
    obtain ⟨as9, r1, r2, r3⟩ := id m11
    refine ⟨fun sl H12 => (∃ q10, sl = [some (.ref p), some (.ref g), some (.ref a), some (.int o), some (.int (m.length : Nat)), some (.int (wideOf m : Nat)), some (.int mn), some (.ref La), some (.ref Ra), o9, q10, o11, some (.int (trL m)), o13, o14, o15]) ∧ Ex H11 H12, ?_, ?_⟩
    · refine uAsg (uCB (uCons (lcR (lo := 0) (n := m.length) (fun i v _ => v = V.int ((m.getD i []).getD i 0)) (int64 rc.l) (fun P h => ⟨_, rfl, (m.length : Int), rfl, by have := rc.l; omega, by have := rc.l; omega, by simpa using h⟩) (fun i H12 D hi ex hD Q2 kq => ?_) (fun D H12 vs nD ex z1 z2 z3 => ?_))))
      · rw [show (0 : Int) + (i : Int) = (i : Int) by omega]
        have hb2 : as9[i]? = some (as9[i]'(by omega)) := List.getElem?_eq_getElem (by omega)
        have hrow := ex _ _ (r3 i _ _ hb2 (List.getElem?_eq_getElem hi))
        have lw := rc.r _ (List.getElem_mem hi)
        have at1 := atI_nat (xs := as9.map V.ref) (j := i) (v := V.ref (as9[i]'(by omega))) (by rw [List.getElem?_map, hb2]; rfl)
        have at2 := atI_nat (xs := m[i].map V.int) (j := i) (v := V.int ((m.getD i []).getD i 0)) (by
          rw [List.getElem?_map, List.getElem?_eq_getElem (by omega), List.getD_eq_getElem?_getD, List.getD_eq_getElem?_getD, List.getElem?_eq_getElem hi, Option.getD_some, List.getElem?_eq_getElem (by omega)]; rfl)
        exact ⟨rfl, _, rfl, _, rfl, _, _, _, _, rfl, rfl, SqL.of (ex _ _ r1), at1, _, rfl, _, _, _, _, rfl, rfl, SqL.of hrow, at2, kq _ _ (fun _ _ h => h) fun _ _ => rfl⟩
      · rw [vals_int (f := fun k => (m.getD k []).getD k 0) z2 fun i v q => z3 i v q] at z1
        exact ⟨D, _, rfl, SqL.of z1, ⟨_, rfl⟩, ex⟩
    rintro sl H12 ⟨⟨q10, rfl⟩, e12⟩
    have K12 := K10.trans (Keep.of e12)
    have bt : Bd 900 (trL m) := by
      refine (bd_sum (n := 31) (fun x hx => ?_) (by rw [List.length_map, List.length_range]; exact rc.l)).mono (by decide)
      obtain ⟨i, hi, rfl⟩ := List.mem_map.mp hx
      have hi2 := List.mem_range.mp hi
      have lw := rc.r _ (List.getElem_mem hi2)
      have e0 : (m.getD i []).getD i 0 = m[i][i]'(by omega) := by
        rw [List.getD_eq_getElem?_getD, List.getD_eq_getElem?_getD, List.getElem?_eq_getElem hi2, Option.getD_some, List.getElem?_eq_getElem (by omega)]; rfl
      rw [e0]
      exact tb.b _ (List.getElem_mem hi2) _ (List.getElem_mem _)
    refine ⟨_, rfl, g, dx, _, rfl, gi _ K12, zip_no (by decide +kernel), g, nR m o, nO m o, rfl, g2.kp p2 K12, fun z => absurd (by omega) z, fun _ => ⟨tb.rcn, nO_pos o1, tb.bn.mono (by decide), fun x H13 e13 hx => ?_⟩⟩
    rw [lo_norm o1 trL tr_mul] at hx
    exact ⟨_, rfl, _, rfl, x, _, _, rfl, hx, by omega, bt, bo9, k H13 ((p10.ex e12).ex e13) (Kf H13 (e12.trans e13))⟩
end
end Fc
set_option Elab.async false
set_option linter.all false
set_option maxRecDepth 100000
set_option maxHeartbeats 4000000
set_option exponentiation.threshold 100000
namespace Fc
open PySem PySem.Spec PyProof.Rows L2 L2H
section
variable {P : Program} {w : World} {K : PySem.W.Frag} {mg : Str → Option Value} {base : Heap} {A : Ad}
theorem ok_changed (T : Txt K mg A) : FnOk P w K mg base CX0 8 A.f_changed A.d_changed ["pot", "a", "rows", "over"] (spParts A) := by
  refine T.F_changed.ok sc_changed (fun vs H Q E h => ?_) (fun cdv Ar outer s H vs Q E hr h => ?_)
  · obtain ⟨p, l, g, a, m, o, rfl, _⟩ := h
    rfl
  · obtain ⟨p, l, g, a, m, o, rfl, pot, hg, hm, tb, k⟩ := h
    refine ⟨_, (C8.pss_cut (ps_set (i := 4) sc_changed.nd rfl (Or.inl rfl) (pe_lst pa_nil))
      (C8.pss_cut (ps_for PassesOwn.never rfl (pi_range1 rfl T.n_range (pa_cons (pe_call (ok_wide T) (hr.mono (by decide)) rfl T.g_wide T.F_wide.kp T.b_wide .nil pass0 (pa_cons (pv 2) pa_nil)) pa_nil)) (pg_name (i := 5) sc_changed.nd rfl (Or.inr rfl))
      (pss_one (ps_expr (pe_bm PySem.F.plainAttrs_list PySem.F.slot_list_append PySem.F.type_list_append mt_append (pv 4) (pa_cons (pe_lc (own := [("row", 6)]) (g := gName 6) (tt := tYes) rfl sc_changed.nd (pi_list (pv 2)) (blkOk_by (own := [("row", 6)]) (N := N_changed) (sc := defScope S_changed) (by decide +kernel)) (fun _ _ _ _ _ => pg_name (i := 6) sc_changed.nd rfl (Or.inl rfl)) (fun _ _ _ _ _ => pts_nil) (fun _ _ _ _ _ => (pe_ix (r := rIxL K) ix_list (pv 6) (pv 5) (fun _ _ => rfl)))) pa_nil)))))
      (C8.pss_cut (ps_if (pt_not (pt_val (pe_call (ok_lis T) (hr.mono (by decide)) rfl T.g_lis T.F_lis.kp T.b_lis .nil pass0 (pa_cons (pe_meth0 (pv 1) T.c_Gr T.m_gturned (ok_gturned T) (hr.mono (by decide)) T.b_gturned .nil pass0) (pa_cons (pv 4) (pa_cons (pv 3) pa_nil))))))
      (pss_one (ps_ret pe_bl)) pss_nil)
      (C8.pss_cut (ps_set (i := 7) sc_changed.nd rfl (Or.inr rfl) (pe_op op_sub pe_int (pe_call (ok_digit T) (hr.mono (by decide)) rfl T.g_digit T.F_digit.kp T.b_digit .nil pass0 (pa_cons (pv 0) (pa_cons pe_int pa_nil)))))
      (C8.pss_cut (ps_set (i := 8) sc_changed.nd rfl (Or.inl rfl) (pe_op op_add pe_int (pe_call (ok_digit T) (hr.mono (by decide)) rfl T.g_digit T.F_digit.kp T.b_digit .nil pass0 (pa_cons (pv 0) (pa_cons pe_int pa_nil)))))
      (C8.pss_cut (ps_setLc (i := 4) (own := [("row", 6)]) (g := gName 6) (tt := tYes) rfl sc_changed.nd rfl rfl (sw_true rfl rfl rfl (by decide +kernel)) (pi_list (pv 2)) (blkOk_by (own := [("row", 6)]) (N := N_changed) (sc := defScope S_changed) (by decide +kernel)) (fun _ _ _ _ _ => pg_name (i := 6) sc_changed.nd rfl (Or.inl rfl)) (fun _ _ _ _ _ => pts_nil) (fun _ _ _ _ _ => (pe_lc (own := [("cell", 9)]) (g := gName 9) (wi := iList K (tVar 6)) (tt := tYes) rfl sc_changed.nd (pi_list (pv 6)) (blkOk_by (own := [("cell", 9)]) (N := N_changed) (by rfl)) (fun _ _ _ _ _ => pg_name (i := 9) sc_changed.nd rfl (Or.inl rfl)) (fun _ _ _ _ _ => pts_nil) (fun _ _ _ _ _ => (pe_op op_mulW (pv 9) (pv 7))))))
      (pss_one (ps_ret (pe_call (ok_lis T) (hr.mono (by decide)) rfl T.g_lis T.F_lis.kp T.b_lis .nil pass0 (pa_cons (pe_meth (pv 1) T.c_Gr T.m_gscaled (ok_gscaled T) (hr.mono (by decide)) T.b_gscaled .nil pass0 (pa_cons (pe_make T.mkC (ok_init T) (hr.mono (by decide)) rfl T.g_Ratio T.b_init3 .nil passL (pa_cons (pv 7) (pa_cons (pv 8) pa_nil))) pa_nil)) (pa_cons (pv 4) (pa_cons (pe_op op_mulW (pv 3) (pv 8)) pa_nil)))))))))))), ?_⟩
    have rc := tb.rc
    have o1 := tb.o1
    have bo9 : Bd 900 o := tb.bo.mono (by decide)
    refine ⟨fun sl H1 => ∃ D, sl = [some (.ref p), some (.ref g), some (.ref a), some (.int o), some (.ref D), none, none, none, none, none] ∧ Ex H H1 ∧ H D = none ∧ H1 D = some (.lst []), ?_, ?_⟩
    · exact ⟨(by show 0 ≤ sizeLine; exact Nat.zero_le _), fun D nD => ⟨D, rfl, Ex.new nD, nD, upd_same⟩⟩
    rintro sl H1 ⟨D, rfl, e1, nD, hD⟩
    have m1 := hm.ex e1
    obtain ⟨as0, h1, h2, h3⟩ := id m1
    refine ⟨fun sl H2 => (∃ o5 o6, sl = [some (.ref p), some (.ref g), some (.ref a), some (.int o), some (.ref D), o5, o6, none, none, none]) ∧ Ex H H2 ∧ RowsL H2 D (colsOf m (wideOf m)), ?_, ?_⟩
    · refine ⟨_, rfl, a, m, rfl, m1, fun r hr => by rw [rc.r r hr]; exact int64 rc.w, fun H2 e2 => ⟨(wideOf m : Int), rfl, by omega, by have := rc.w; omega, ?_⟩⟩
      refine for_range (lo := 0) (n := wideOf m) (fun j sl H3 => (∃ o5 o6, sl = [some (.ref p), some (.ref g), some (.ref a), some (.int o), some (.ref D), o5, o6, none, none, none]) ∧ Ex H H3 ∧ ∃ bs : List Addr, H3 D = some (.lst (bs.map V.ref)) ∧ bs.length = j ∧ ∀ (kk : Nat) b, bs[kk]? = some b → b ≠ D ∧ H3 b = some (.lst ((m.map fun r => r.getD kk 0).map V.int)))
        ⟨⟨_, _, rfl⟩, e1.trans e2, [], e2 _ _ hD, rfl, fun kk b q => by simp at q⟩ (fun j sl H3 hj q => ?_) (fun sl H3 q => ?_)
      · obtain ⟨⟨o5, o6, rfl⟩, e3, bs, g1, g2, g3⟩ := q
        rw [show (0 : Int) + (j : Int) = (j : Int) by omega]
        obtain ⟨as3, r1, r2, r3⟩ := hm.ex e3
        refine ⟨_, rfl, .inl ⟨rfl, _, SqL.of g1⟩, uCons (lcL (fun i v _ => ∀ r, m[i]? = some r → v = V.int (r.getD j 0)) (fun Q q => ⟨_, rfl, q⟩) (SqL.of r1) (by rw [List.length_map, r2]; exact int64 rc.l) (fun i v H4 D2 hv ex hD2 Q2 kq => ?_) (fun D2 H4 vs n2 ex z1 z2 z3 => ?_))⟩
        · rw [List.getElem?_map] at hv
          obtain ⟨b, hb, rfl⟩ := Option.map_eq_some_iff.mp hv
          have hi : i < m.length := by have := (List.getElem?_eq_some_iff.mp hb).1; omega
          have hrow := ex _ _ (r3 i b _ hb (List.getElem?_eq_getElem hi))
          have lj := rc.r m[i] (List.getElem_mem hi)
          have at_ := atI_nat (xs := m[i].map V.int) (j := j) (v := V.int (m[i].getD j 0)) (by rw [List.getElem?_map, List.getD_eq_getElem?_getD, List.getElem?_eq_getElem (by omega)]; rfl)
          refine ⟨rfl, _, rfl, _, rfl, _, _, _, _, rfl, rfl, SqL.of hrow, at_, kq _ _ (fun _ _ h => h) fun H3 _ r er => ?_⟩
          rw [List.getElem?_eq_getElem hi] at er
          cases er
          rfl
        · rw [List.length_map, r2] at z2
          rw [vals_mapG (f := fun r => r.getD j 0) z2 fun i v r q1 q2 => z3 i v q1 r q2] at z1
          have w5 := tb.w5
          have D2D : D2 ≠ D := (ne_of_none g1 n2).symm
          refine ⟨D, _, _, rfl, rfl, ex _ _ g1, by rw [List.length_map, sizeLine_eq]; omega, ⟨_, _, rfl⟩, fun c oc hc => by rw [upd_ne (ne_of_none hc nD)]; exact ex _ _ (e3 _ _ hc), bs ++ [D2], by rw [upd_same, List.map_append]; rfl, by rw [List.length_append, g2]; rfl, fun kk b hb => ?_⟩
          rcases get_snoc hb with ⟨_, hb⟩ | ⟨lk, rfl⟩
          · obtain ⟨y1, y2⟩ := g3 kk b hb
            exact ⟨y1, by rw [upd_ne y1]; exact ex _ _ y2⟩
          · rw [lk, g2]
            exact ⟨D2D, by rw [upd_ne D2D]; exact z1⟩
      · obtain ⟨⟨o5, o6, rfl⟩, e3, bs, g1, g2, g3⟩ := q
        refine ⟨⟨_, _, rfl⟩, e3, bs, g1, by rw [g2]; unfold colsOf; rw [List.length_map, List.length_range], fun i b r q1 q2 => ?_⟩
        have hi : i < wideOf m := by have := (List.getElem?_eq_some_iff.mp q1).1; omega
        rw [colsOf_get hi] at q2
        cases q2
        exact (g3 i b q1).2
    rintro sl H2 ⟨⟨o5, o6, rfl⟩, e2, hD2⟩
    have hg2 := hg.ex e2
    obtain ⟨dx, R0, hgi, _⟩ := id hg2
    refine ⟨fun sl H3 => sl = [some (.ref p), some (.ref g), some (.ref a), some (.int o), some (.ref D), o5, o6, none, none, none] ∧ Ex H2 H3, ?_, ?_⟩
    · refine ⟨_, rfl, g, dx, _, rfl, hgi, zip_no (by decide +kernel), g, nR m o, nO m o, rfl, hg2, tb.rcn, nO_pos o1, tb.bn.mono (by decide), fun c H3 e3 hc => ?_⟩
      rw [nR_wide, (norm_lin o1 (fun n => colsOf n (wideOf m)) (fun n k => cols_mul (wideOf m) n k)).1, (norm_lin o1 (fun n => colsOf n (wideOf m)) (fun n k => cols_mul (wideOf m) n k)).2] at hc
      exact ⟨_, rfl, _, rfl, c, D, _, o, rfl, hc, hD2.ex e3, colsOf_rect rc.l rc.w, o1, bo9, fun H4 e4 => ⟨_, rfl, iteF ⟨rfl, e3.trans e4⟩⟩⟩
    rintro sl H3 ⟨rfl, e3⟩
    have E3 := e2.trans e3
    have p3 := pot.ex E3
    refine ⟨fun sl H4 => ∃ t : Int, -5 ≤ t ∧ t ≤ 5 ∧ sl = [some (.ref p), some (.ref g), some (.ref a), some (.int o), some (.ref D), o5, o6, some (.int t), none, none] ∧ PotL H4 p l ∧ Keep p H H4, ?_, ?_⟩
    · exact ⟨_, rfl, p, l, 11, rfl, p3, by decide, bd_of (by decide +kernel), fun d H4 d0 d1 p4 k4 => ⟨_, _, rfl, rfl, 5 - d, by omega, by omega, rfl, p4, (Keep.of E3).trans k4⟩⟩
    rintro sl H4 ⟨t, t0, t1, rfl, p4, k4⟩
    refine ⟨fun sl H5 => ∃ u : Int, 1 ≤ u ∧ u ≤ 6 ∧ sl = [some (.ref p), some (.ref g), some (.ref a), some (.int o), some (.ref D), o5, o6, some (.int t), some (.int u), none] ∧ PotL H5 p l ∧ Keep p H H5, ?_, ?_⟩
    · exact ⟨_, rfl, p, l, 6, rfl, p4, by decide, bd_of (by decide +kernel), fun d H5 d0 d1 p5 k5 => ⟨_, _, rfl, rfl, 1 + d, by omega, by omega, rfl, p5, k4.trans k5⟩⟩
    rintro sl H5 ⟨u, u0, u1, rfl, p5, k5⟩
    have hg5 := hg.kp pot k5
    have m5 := hm.kp pot k5
    have bt : Bd 31 t := by unfold Bd; have : (64 : Nat) < 2 ^ 31 := by decide
                            omega
    have bu : Bd 31 u := by unfold Bd; have : (64 : Nat) < 2 ^ 31 := by decide
                            omega
    refine ⟨fun sl H6 => ∃ D2 o5 o6 o9, sl = [some (.ref p), some (.ref g), some (.ref a), some (.int o), some (.ref D2), o5, o6, some (.int t), some (.int u), o9] ∧ Ex H5 H6 ∧ RowsL H6 D2 (mulR m t), ?_, ?_⟩
    · obtain ⟨as5, r1, r2, r3⟩ := id m5
      refine uAsg (lcL (RowR .lst (mulR m t)) (fun Q q => ⟨_, rfl, q⟩) (SqL.of r1) (by rw [List.length_map, r2]; exact int64 rc.l) (fun i v H6 D2 hv ex hD Q2 kq => ?_) (fun D2 H6 vs n2 ex z1 z2 z3 => ?_))
      · rw [List.getElem?_map] at hv
        obtain ⟨b, hb, rfl⟩ := Option.map_eq_some_iff.mp hv
        have hi : i < m.length := by have := (List.getElem?_eq_some_iff.mp hb).1; omega
        have hrow := ex _ _ (r3 i b _ hb (List.getElem?_eq_getElem hi))
        refine ⟨rfl, lcInts (fun n => n * t) (fun R => lcL R (fun Q q => ⟨_, rfl, q⟩) (SqL.of hrow) (by rw [List.length_map, rc.r _ (List.getElem_mem hi)]; exact int64 rc.w)) (fun n H7 hn e7 Q7 q => ⟨rfl, _, rfl, _, rfl, _, _, rfl, rfl, Bd.w (tb.b _ (List.getElem_mem hi) n hn) bt, q⟩) (fun D3 H7 n3 e7 hD3 => ?_)⟩
        obtain ⟨ob, hob⟩ := hD
        exact kq _ _ e7 (RowR.fix (r := m[i].map fun n => n * t) (by unfold mulR; rw [List.getElem?_map, List.getElem?_eq_getElem hi]; rfl) hD3 (ne_of_none hob n3).symm)
      · obtain ⟨bs, rfl, lb, hb⟩ := RowR.all (m := mulR m t) (by rw [z2, List.length_map, r2]; unfold mulR; rw [List.length_map]) z3
        exact ⟨D2, _, _, _, rfl, ex, bs, z1, lb, hb⟩
    rintro sl H6 ⟨D2, q5, q6, q9, rfl, e6, hD2'⟩
    have hg6 := hg5.ex e6
    obtain ⟨dy, R1, hgj, _⟩ := id hg6
    refine ⟨_, rfl, g, dy, _, rfl, hgj, zip_no (by decide +kernel), _, rfl, _, rfl, rd_mkR (by omega) (bu.mono (by decide)) fun x H7 e7 _ hx => ?_⟩
    have pb := lo_pos (t := t) (b := u) (by omega)
    refine ⟨g, x, nR m o, nO m o, lo t u, rfl, hg6.ex e7, hx, tb.rcn, nO_pos o1, by omega, tb.bn.mono (by decide), (bt.abs (lo_top_le (by omega))).mono (by decide), (bu.abs (lo_bot_le (by omega))).mono (by decide), fun r hr x hx => (tb.bcell r hr x hx).mono (by decide), fun c H8 e8 hc => ?_⟩
    rw [(norm_mul o1 (by omega)).1, (norm_mul o1 (by omega)).2] at hc
    have ou : 1 ≤ o * u := Int.mul_pos (by omega) (by omega)
    have ob : 1 ≤ o * (lo t u).2 := Int.mul_pos (by omega) (by omega)
    obtain ⟨y1, y2⟩ := norm_eq (m := mulR m (lo t u).1) (n := mulR m t) ob ou (by
      rw [mulR_mulR, mulR_mulR]
      congr 1
      have := lo_cross (t := t) (b := u) (by omega)
      grind)
    rw [y1, y2] at hc
    exact ⟨_, rfl, _, rfl, _, rfl, _, _, rfl, rfl, tb.bo.w bu, c, D2, _, _, rfl, hc, hD2'.ex (e7.trans e8), rc.map fun r => List.length_map .., ou, (tb.bo.mul bu).mono (by decide), fun H9 e9 => k H9 ((p5.ex e6).ex (e7.trans (e8.trans e9))) (k5.trans (Keep.of (e6.trans (e7.trans (e8.trans e9)))))⟩
def spUnits (A : Ad) : Sp := fun vs H Q _ => ∃ (p l g : Addr) (m : List (List Int)) (o : Int), vs = [.ref p, .ref g] ∧ PotL H p l ∧ GridAt A H g m o ∧ ∀ H', PotL H' p l → Keep p H H' → Q (.bl true) H'
theorem ok_units (T : Txt K mg A) : FnOk P w K mg base CX0 8 A.f_units A.d_units ["pot", "a"] (spUnits A) := by
  refine T.F_units.ok sc_units (fun vs H Q E h => ?_) (fun cdv Ar outer s H vs Q E hr h => ?_)
  · obtain ⟨p, l, g, m, o, rfl, _⟩ := h
    rfl
  · obtain ⟨p, l, g, m, o, rfl, pot, hg, k⟩ := h
    obtain ⟨sm, smu⟩ := T.p_gunit
    refine ⟨_, (C8.pss_cut (ps_set (i := 2) sc_units.nd rfl (Or.inr rfl) (pe_call (ok_digit T) (hr.mono (by decide)) rfl T.g_digit T.F_digit.kp T.b_digit .nil pass0 (pa_cons (pv 0) (pa_cons pe_int pa_nil))))
      (C8.pss_cut (ps_if (pt_cmpR op_eq (pe_call (ok_digit T) (hr.mono (by decide)) rfl T.g_digit T.F_digit.kp T.b_digit .nil pass0 (pa_cons (pv 0) (pa_cons pe_int pa_nil))) pe_int (nomark _))
      (pss_one (ps_set (i := 2) sc_units.nd rfl (Or.inr rfl) pe_int)) pss_nil)
      (C8.pss_cut (ps_setLc (i := 3) (own := [("i", 5)]) (g := gName 5) (tt := tYes) rfl sc_units.nd rfl rfl (sw_true rfl rfl rfl (by decide +kernel)) (pi_range1 rfl T.n_range (pa_cons (pv 2) pa_nil)) (blkOk_by (own := [("i", 5)]) (N := N_units) (sc := defScope S_units) (by decide +kernel)) (fun _ _ _ _ _ => pg_name (i := 5) sc_units.nd rfl (Or.inr rfl)) (fun _ _ _ _ _ => pts_nil) (fun _ _ _ _ _ => (pe_lc (own := [("j", 4)]) (g := gName 4) (tt := tYes) rfl sc_units.nd (pi_range1 rfl T.n_range (pa_cons (pv 2) pa_nil)) (blkOk_by (own := [("j", 4)]) (N := N_units) (by rfl)) (fun _ _ _ _ _ => pg_name (i := 4) sc_units.nd rfl (Or.inl rfl)) (fun _ _ _ _ _ => pts_nil) (fun _ _ _ _ _ => (pe_callTy call_int1 (by rfl) T.n_int (by decide +kernel) (pa_cons (pe_cmpR op_eq (pv 5) (pv 4) (nomark _)) pa_nil))))))
      (C8.pss_cut (ps_if (pt_not (pt_val (pe_call (ok_lis T) (hr.mono (by decide)) rfl T.g_lis T.F_lis.kp T.b_lis .nil pass0 (pa_cons (pe_smeth (pe_glob (v := .ref A.Gr) rfl T.g_Grid rfl) T.crGr smu (ok_gunit T) (hr.mono (by decide)) T.b_gunit passLN (pa_cons (pv 2) pa_nil)) (pa_cons (pv 3) (pa_cons pe_int pa_nil))))))
      (pss_one (ps_ret pe_bl)) pss_nil)
      (pss_cons (ps_for PassesOwn.never rfl (pi_list (pe_lst (pa_cons (pe_op op_sub (pe_un un_neg pe_int) (pv 2)) (pa_cons (pe_un un_neg pe_int) (pa_cons pe_int (pa_cons (pe_op op_add pe_int (pv 2)) pa_nil)))))) (pg_name (i := 2) sc_units.nd rfl (Or.inr rfl))
      (pss_one (ps_if (pt_not (pt_val (pe_call (ok_badshape T) (hr.mono (by decide)) rfl T.g_badshape T.F_badshape.kp T.b_badshape .nil pass0 (pa_cons pe_int (pa_cons (pv 1) (pa_cons (pv 2) (pa_cons pe_int pa_nil)))))))
      (pss_one (ps_ret pe_bl)) pss_nil)))
      (pss_one (ps_ret pe_bl))))))), ?_⟩
    refine ⟨fun sl H1 => ∃ n : Int, 0 ≤ n ∧ n ≤ 64 ∧ sl = [some (.ref p), some (.ref g), some (.int n), none, none, none] ∧ PotL H1 p l ∧ Keep p H H1, ?_, ?_⟩
    · exact ⟨_, rfl, p, l, 5, rfl, pot, by decide, bd_of (by decide +kernel), fun d H1 d0 d1 p1 k1 => ⟨d, d0, by omega, rfl, p1, k1⟩⟩
    rintro sl H1 ⟨n0, n00, n01, rfl, p1, k1⟩
    refine ⟨fun sl H2 => ∃ n : Nat, n ≤ 64 ∧ sl = [some (.ref p), some (.ref g), some (.int (n : Nat)), none, none, none] ∧ PotL H2 p l ∧ Keep p H H2, ?_, ?_⟩
    · refine ⟨_, rfl, p, l, 4, rfl, p1, by decide, bd_of (by decide +kernel), fun d H2 d0 d1 p2 k2 => ⟨rfl, _, rfl, ite2 (fun _ => ⟨64, by decide, rfl, p2, k1.trans k2⟩) (fun _ => ⟨n0.toNat, by omega, by rw [show ((n0.toNat : Nat) : Int) = n0 by omega], p2, k1.trans k2⟩)⟩⟩
    rintro sl H2 ⟨n, n64, rfl, p2, k2⟩
    have hg2 := hg.kp pot k2
    refine ⟨fun sl H3 => ∃ D o4 o5, sl = [some (.ref p), some (.ref g), some (.int (n : Nat)), some (.ref D), o4, o5] ∧ Ex H2 H3 ∧ RowsL H3 D (unitM n), ?_, ?_⟩
    · refine uAsg (lcR (lo := 0) (n := n) (RowR .lst (unitM n)) (int64 n64) (fun P h => ⟨_, rfl, (n : Int), rfl, by omega, by omega, by simpa using h⟩) (fun i H3 D hi ex hD Q2 kq => ?_) (fun D H3 vs nD ex e1 e2 e3 => ?_))
      · rw [show (0 : Int) + (i : Int) = (i : Int) by omega]
        refine ⟨rfl, lcR (lo := 0) (n := n) (fun j v _ => v = V.int (if i = j then 1 else 0)) (int64 n64) (fun P h => ⟨_, rfl, (n : Int), rfl, by omega, by omega, by simpa using h⟩) (fun j H4 D2 hj ex2 hD2 Q3 kq3 => ?_) (fun D2 H4 vs n2 ex2 e1 e2 e3 => ?_)⟩
        · rw [show (0 : Int) + (j : Int) = (j : Int) by omega]
          refine ⟨rfl, _, rfl, _, rfl, rfl, .inr ⟨_, rfl, kq3 _ _ (fun _ _ h => h) fun _ _ => ?_⟩⟩
          by_cases c : i = j
          · simp [c]
          · have : ¬ ((i : Int) = (j : Int)) := fun z => c (by omega)
            simp [c, this]
        · rw [vals_int (f := fun j => if i = j then 1 else 0) e2 fun j v q => e3 j v q] at e1
          obtain ⟨ob, hob⟩ := hD
          exact kq _ _ ex2 (RowR.fix (unit_get hi) e1 (ne_of_none hob n2).symm)
      · obtain ⟨bs, rfl, lb, hb⟩ := RowR.all (m := unitM n) (by rw [e2]; unfold unitM; rw [List.length_map, List.length_range]) e3
        exact ⟨D, _, _, rfl, ex, bs, e1, lb, hb⟩
    rintro sl H3 ⟨D, o4, o5, rfl, e3, hD⟩
    refine ⟨fun sl H4 => sl = [some (.ref p), some (.ref g), some (.int (n : Nat)), some (.ref D), o4, o5] ∧ Ex H3 H4, ?_, ?_⟩
    · refine ⟨rfl, _, rfl, (n : Int), rfl, fun z => absurd z (by omega), fun _ _ x H4 e4 hx => ?_⟩
      rw [show ((n : Int)).toNat = n by omega] at hx
      exact ⟨_, rfl, x, D, unitM n, 1, rfl, hx, hD.ex e4, unit_rect n64, by decide, bd_of (by decide +kernel), fun H5 e5 => ⟨_, rfl, iteF ⟨rfl, e4.trans e5⟩⟩⟩
    rintro sl H4 ⟨rfl, e4⟩
    have E4 := e3.trans e4
    have p4 := p2.ex E4
    refine ⟨_, rfl, _, rfl, _, _, rfl, rfl, _, rfl, _, rfl, _, _, rfl, rfl, (by show 4 ≤ sizeLine; rw [sizeLine_eq]; omega), fun L nL => ⟨L, rfl, ⟨_, SqL.of upd_same⟩, ?_⟩⟩
    have eL := Ex.new (o := .lst [.int (-1 - (n : Int)), .int (-1), .int 65, .int (65 + (n : Int))]) nL
    refine for_list (K := K) (a := L) (xs := [.int (-1 - (n : Int)), .int (-1), .int 65, .int (65 + (n : Int))]) (fun i sl H5 => (∃ o2, sl = [some (.ref p), some (.ref g), o2, some (.ref D), o4, o5]) ∧ Ex (upd H4 L (.lst [.int (-1 - (n : Int)), .int (-1), .int 65, .int (65 + (n : Int))])) H5)
      ⟨⟨_, rfl⟩, fun _ _ h => h⟩ (fun i sl H5 _ q => SqL.of (q.2 _ _ upd_same)) (fun i v sl H5 hv q => ?_) (fun sl H5 q => ?_)
    · obtain ⟨⟨o2, rfl⟩, e5⟩ := q
      have hv2 : ∃ x : Int, v = V.int x ∧ (x < 0 ∨ 64 < x) := by
        match i, hv with
        | 0, hv => cases hv; exact ⟨_, rfl, by omega⟩
        | 1, hv => cases hv; exact ⟨_, rfl, by omega⟩
        | 2, hv => cases hv; exact ⟨_, rfl, by omega⟩
        | 3, hv => cases hv; exact ⟨_, rfl, by omega⟩
        | i + 4, hv => simp at hv
      obtain ⟨x, rfl, hx⟩ := hv2
      exact ⟨_, rfl, _, rfl, ⟨2, _, _, _, rfl, .inr (.inr (.inl ⟨rfl, x, rfl, hx⟩))⟩, fun H6 e6 => ⟨_, rfl, iteF ⟨⟨_, rfl⟩, e5.trans e6⟩⟩⟩
    · exact k H5 (p4.ex (eL.trans q.2)) (k2.trans (Keep.of (E4.trans (eL.trans q.2))))
end
end Fc
set_option Elab.async false
set_option linter.all false
set_option maxRecDepth 100000
set_option maxHeartbeats 4000000
set_option exponentiation.threshold 100000
namespace Fc
open PySem PySem.Spec PyProof.Rows L2 L2H
theorem reps {α : Type} (f : α → V) (x : α) : ∀ n : Nat, (List.replicate ((n : Int)).toNat [f x]).flatten = (List.replicate n x).map f := fun n => by
  rw [show ((n : Int)).toNat = n by omega]
  induction n with
  | zero => rfl
  | succ n ih => rw [List.replicate_succ, List.flatten_cons, ih, List.replicate_succ]; rfl
/-- rows that are one list over and over -/
theorem rows_rep {H : Hp} {L q : Addr} {r : List Int} {n : Nat} (hL : H L = some (.lst ((List.replicate n q).map V.ref))) (hq : H q = some (.lst (r.map V.int))) : RowsL H L (List.replicate n r) := by
  refine ⟨_, hL, by rw [List.length_replicate, List.length_replicate], fun i a s h1 h2 => ?_⟩
  rw [List.getElem?_replicate] at h1 h2
  split at h1
  · rename_i c
    rw [if_pos c] at h2
    cases h1
    cases h2
    exact hq
  · cases h1
theorem not_shape {ns : List Nat} {a b : Nat} (ha : a ∈ ns) (hb : b ∈ ns) (ne : a ≠ b) : ¬ ShapeOk ns := fun z => by
  have h1 := (z.2 a ha).2
  rw [(z.2 b hb).2] at h1
  exact ne (Option.some.inj h1).symm
structure OddOk (H : Hp) (v : V) : Prop where
  ok : ∃ (q : Addr) (m : List (List Int)), v = .ref q ∧ RowsL H q m ∧ m.length ≤ 65 ∧ (∀ r ∈ m, r.length ≤ 65) ∧ ¬ ShapeOk (m.map List.length)
theorem OddOk.ex {H H' : Hp} {v : V} (h : OddOk H v) (e : Ex H H') : OddOk H' v := let ⟨q, m, a, b, c, d, f⟩ := h.ok; ⟨q, m, a, b.ex e, c, d, f⟩
theorem OddOk.kp {H H' : Hp} {v : V} {p l : Addr} (h : OddOk H v) (pot : PotL H p l) (e : Keep p H H') : OddOk H' v := let ⟨q, m, a, b, c, d, f⟩ := h.ok; ⟨q, m, a, b.kp pot e, c, d, f⟩
theorem rect_nil : Rect [] := ⟨by show 0 ≤ 64; omega, by show 0 ≤ 64; omega, fun r hr => by cases hr⟩
theorem rows_nil {H : Hp} {L : Addr} (h : H L = some (.lst [])) : RowsL H L [] := ⟨[], h, rfl, fun i a r h => by simp at h⟩
theorem rows_one {H : Hp} {L q : Addr} {r : List Int} (hL : H L = some (.lst [.ref q])) (hq : H q = some (.lst (r.map V.int))) : RowsL H L [r] := rows_rep (n := 1) hL hq
section
variable {P : Program} {w : World} {K : PySem.W.Frag} {mg : Str → Option Value} {base : Heap} {A : Ad}
def spRefused (A : Ad) : Sp := fun vs H Q _ => ∃ (p l g a : Addr) (m n : List (List Int)) (o u : Int), vs = [.ref p, .ref g, .ref a] ∧ PotL H p l ∧ GridAt A H g n u ∧ RowsL H a m ∧ Tab m o ∧ ∀ H', PotL H' p l → Keep p H H' → Q (.bl true) H'
theorem ok_refused (T : Txt K mg A) : FnOk P w K mg base CX0 8 A.f_refused A.d_refused ["pot", "a", "rows"] (spRefused A) := by
  refine T.F_refused.ok sc_refused (fun vs H Q E h => ?_) (fun cdv Ar outer s H vs Q E hr h => ?_)
  · obtain ⟨p, l, g, a, m, n, o, u, rfl, _⟩ := h
    rfl
  · obtain ⟨p, l, g, a, m, n, o, u, rfl, pot, hg, hm, tb, k⟩ := h
    obtain ⟨dg, vdg, bg1⟩ := T.b1_ginit
    obtain ⟨ds, vds, b2⟩ := T.b_init2
    refine ⟨_, (C8.pss_cut (ps_set (i := 3) sc_refused.nd rfl (Or.inl rfl) (pe_call (ok_wide T) (hr.mono (by decide)) rfl T.g_wide T.F_wide.kp T.b_wide .nil pass0 (pa_cons (pv 2) pa_nil)))
      (C8.pss_cut (ps_set (i := 4) sc_refused.nd rfl (Or.inl rfl) (pe_call (ok_digit T) (hr.mono (by decide)) rfl T.g_digit T.F_digit.kp T.b_digit .nil pass0 (pa_cons (pv 0) (pa_cons (pe_op op_add (pe_callB call_len (by rfl) T.n_len PySem.boot_len (pa_cons (pv 2) pa_nil)) pe_int) pa_nil))))
      (C8.pss_cut (ps_set (i := 5) sc_refused.nd rfl (Or.inl rfl) (pe_op op_cat (pe_op op_cat (pe_op op_cat (pe_slice sl_list (pv 2) po_none (po_some (pv 4))) (pe_lst (pa_cons (pe_op op_rep (pe_lst (pa_cons pe_int pa_nil)) (pe_op op_add (pv 3) pe_int)) pa_nil))) (pe_slice sl_list (pv 2) (po_some (pv 4)) po_none)) (pe_lst (pa_cons (pe_op op_rep (pe_lst (pa_cons pe_int pa_nil)) (pv 3)) pa_nil))))
      (C8.pss_cut (ps_set (i := 6) sc_refused.nd rfl (Or.inl rfl) (pe_un un_neg (pe_call (ok_digit T) (hr.mono (by decide)) rfl T.g_digit T.F_digit.kp T.b_digit .nil pass0 (pa_cons (pv 0) (pa_cons pe_int pa_nil)))))
      (C8.pss_cut (ps_for PassesOwn.never rfl (pi_list (pe_lst (pa_cons (pv 5) (pa_cons (pe_op op_rep (pe_lst (pa_cons (pe_lst (pa_cons pe_int pa_nil)) pa_nil)) pe_int) (pa_cons (pe_lst (pa_cons (pe_op op_rep (pe_lst (pa_cons pe_int pa_nil)) pe_int) pa_nil)) (pa_cons (pe_op op_rep (pe_lst (pa_cons (pe_lst pa_nil) pa_nil)) pe_int) pa_nil)))))) (pg_name (i := 7) sc_refused.nd rfl (Or.inl rfl))
      (C8.pss_cut (ps_if (PW.pt (pw_or (pt_not (pt_val (pe_call (ok_badshape T) (hr.mono (by decide)) rfl T.g_badshape T.F_badshape.kp T.b_badshape .nil pass0 (pa_cons pe_int (pa_cons (pv 1) (pa_cons (pv 7) (pa_cons pe_int pa_nil))))))) (pw_or1 (pt_not (pt_val (pe_call (ok_badshape T) (hr.mono (by decide)) rfl T.g_badshape T.F_badshape.kp T.b_badshape .nil pass0 (pa_cons pe_int (pa_cons (pv 1) (pa_cons (pv 7) (pa_cons (pv 6) pa_nil))))))))))
      (pss_one (ps_ret pe_bl)) pss_nil)
      (C8.pss_cut (ps_setLc (i := 8) (own := [("row", 10)]) (g := gName 10) (tt := tYes) rfl sc_refused.nd rfl rfl (sw_true rfl rfl rfl (by decide +kernel)) (pi_list (pv 7)) (blkOk_by (own := [("row", 10)]) (N := N_refused) (sc := defScope S_refused) (by decide +kernel)) (fun _ _ _ _ _ => pg_name (i := 10) sc_refused.nd rfl (Or.inl rfl)) (fun _ _ _ _ _ => pts_nil) (fun _ _ _ _ _ => (pe_lc (own := [("cell", 9)]) (g := gName 9) (wi := iList K (tVar 10)) (tt := tYes) rfl sc_refused.nd (pi_list (pv 10)) (blkOk_by (own := [("cell", 9)]) (N := N_refused) (by rfl)) (fun _ _ _ _ _ => pg_name (i := 9) sc_refused.nd rfl (Or.inl rfl)) (fun _ _ _ _ _ => pts_nil) (fun _ _ _ _ _ => (pe_make T.mkC (ok_init T) (hr.mono (by decide)) rfl T.g_Ratio b2 vds passL (pa_cons (pv 9) pa_nil))))))
      (pss_one (ps_if (pt_not (pt_val (pe_call (ok_badshape T) (hr.mono (by decide)) rfl T.g_badshape T.F_badshape.kp T.b_badshape .nil pass0 (pa_cons pe_int (pa_cons (pv 1) (pa_cons (pv 8) (pa_cons pe_int pa_nil)))))))
      (pss_one (ps_ret pe_bl)) pss_nil)))))
      (C8.pss_cut (ps_if (PW.pt (pw_or (pt_not (pt_val (pe_call (ok_badover T) (hr.mono (by decide)) rfl T.g_badover T.F_badover.kp T.b_badover .nil pass0 (pa_cons (pv 2) (pa_cons (pv 6) pa_nil))))) (pw_or1 (pt_not (pt_val (pe_call (ok_badover T) (hr.mono (by decide)) rfl T.g_badover T.F_badover.kp T.b_badover .nil pass0 (pa_cons (pe_lst pa_nil) (pa_cons (pv 6) pa_nil))))))))
      (pss_one (ps_ret pe_bl)) pss_nil)
      (C8.pss_cut (ps_if (PW.pt (pw_or (pt_not (pt_val (pe_call (ok_badover T) (hr.mono (by decide)) rfl T.g_badover T.F_badover.kp T.b_badover .nil pass0 (pa_cons (pv 2) (pa_cons pe_int pa_nil))))) (pw_or1 (pt_not (pt_val (pe_call (ok_badover T) (hr.mono (by decide)) rfl T.g_badover T.F_badover.kp T.b_badover .nil pass0 (pa_cons (pv 2) (pa_cons (pe_un un_neg pe_int) pa_nil))))))))
      (pss_one (ps_ret pe_bl)) pss_nil)
      (pss_one (ps_ret (pe_and (pe_call (ok_lis T) (hr.mono (by decide)) rfl T.g_lis T.F_lis.kp T.b_lis .nil pass0 (pa_cons (pe_make T.mk_Gr (ok_ginit T) (hr.mono (by decide)) rfl T.g_Grid bg1 vdg passLN (pa_cons (pe_op op_rep (pe_lst (pa_cons (pe_lst (pa_cons pe_int pa_nil)) pa_nil)) pe_int) pa_nil)) (pa_cons (pe_op op_rep (pe_lst (pa_cons (pe_lst (pa_cons pe_int pa_nil)) pa_nil)) pe_int) (pa_cons pe_int pa_nil)))) (pe_one (pe_call (ok_lis T) (hr.mono (by decide)) rfl T.g_lis T.F_lis.kp T.b_lis .nil pass0 (pa_cons (pe_make T.mk_Gr (ok_ginit T) (hr.mono (by decide)) rfl T.g_Grid T.b_ginit .nil passLN (pa_cons (pe_lst (pa_cons (pe_op op_rep (pe_lst (pa_cons pe_int pa_nil)) pe_int) pa_nil)) (pa_cons pe_int pa_nil))) (pa_cons (pe_lst (pa_cons (pe_op op_rep (pe_lst (pa_cons pe_int pa_nil)) pe_int) pa_nil)) (pa_cons pe_int pa_nil))))))))))))))), ?_⟩
    have rc := tb.rc
    have l5 := tb.l5
    have w5 := tb.w5
    refine ⟨fun sl H1 => sl = [some (.ref p), some (.ref g), some (.ref a), some (.int (wideOf m : Nat)), none, none, none, none, none, none, none] ∧ Ex H H1, ?_, ?_⟩
    · exact ⟨_, rfl, a, m, rfl, hm, fun r hr => by rw [rc.r r hr]; exact int64 rc.w, fun H2 e => ⟨rfl, e⟩⟩
    rintro sl H1 ⟨rfl, e1⟩
    have m1 := hm.ex e1
    obtain ⟨as1, h1, h2, h3⟩ := id m1
    refine ⟨fun sl H2 => ∃ d : Nat, d ≤ m.length ∧ sl = [some (.ref p), some (.ref g), some (.ref a), some (.int (wideOf m : Nat)), some (.int (d : Nat)), none, none, none, none, none, none] ∧ PotL H2 p l ∧ Keep p H H2, ?_, ?_⟩
    · refine ⟨_, rfl, _, rfl, _, _, rfl, lenv (.inl (SqL.of h1)), _, _, rfl, rfl, p, l, _, rfl, pot.ex e1, (by show (0 : Int) < ((as1.map V.ref).length : Nat) + 1; omega), ?_, fun d H2 d0 d1 p2 k2 => ⟨d.toNat, ?_, ?_, p2, (Keep.of e1).trans k2⟩⟩
      · rw [List.length_map, h2]
        exact bdn (n := m.length + 1) (by omega)
      · have d2 : d < ((as1.map V.ref).length : Nat) + 1 := d1
        rw [List.length_map, h2] at d2; omega
      · rw [show ((d.toNat : Nat) : Int) = d by omega]; rfl
    rintro sl H2 ⟨d, dl, rfl, p2, k2⟩
    have m2 := hm.kp pot k2
    obtain ⟨as, r1, r2, r3⟩ := id m2
    refine ⟨fun sl H3 => ∃ O, sl = [some (.ref p), some (.ref g), some (.ref a), some (.int (wideOf m : Nat)), some (.int (d : Nat)), some (.ref O), none, none, none, none, none] ∧ Ex H2 H3 ∧ OddOk H3 (.ref O), ?_, ?_⟩
    · have cl1 : (cutV (as.map V.ref) none (some (d : Int))).length ≤ 5 := Nat.le_trans (cutV_length _ _ _) (by rw [List.length_map]; omega)
      have cl2 : (cutV (as.map V.ref) (some (d : Int)) none).length ≤ 5 := Nat.le_trans (cutV_length _ _ _) (by rw [List.length_map]; omega)
      refine ⟨_, rfl, _, rfl, (d : Int), rfl, a, _, rfl, SqL.of r1, fun q1 n1 => ?_⟩
      have f1 := Ex.new (o := .lst (cutV (as.map V.ref) none (some (d : Int)))) n1
      refine ⟨(by show 1 ≤ sizeLine; rw [sizeLine_eq]; omega), fun q2 n2 => ?_⟩
      have f2 := Ex.new (o := .lst [.int (1 : Int)]) n2
      refine ⟨_, rfl, _, _, rfl, rfl, q2, ((wideOf m + 1 : Nat) : Int), _, rfl, (by rw [Int.natCast_add]; rfl), upd_same, by omega, by omega, by rw [sizeLine_eq]; show 1 * _ ≤ _; omega, fun q3 n3 => ?_⟩
      rw [reps V.int 1 (wideOf m + 1)]
      have f3 := Ex.new (o := .lst ((List.replicate (wideOf m + 1) (1 : Int)).map V.int)) n3
      refine ⟨(by show 1 ≤ sizeLine; rw [sizeLine_eq]; omega), fun q4 n4 => ?_⟩
      have f4 := Ex.new (o := .lst [.ref q3]) n4
      refine ⟨q1, q4, _, _, rfl, rfl, f4 _ _ (f3 _ _ (f2 _ _ upd_same)), upd_same, by rw [sizeLine_eq]; show _ + 1 ≤ _; omega, fun q5 n5 => ?_⟩
      have f5 := Ex.new (o := .lst (cutV (as.map V.ref) none (some (d : Int)) ++ [.ref q3])) n5
      refine ⟨_, rfl, _, rfl, (d : Int), rfl, a, _, rfl, SqL.of ((f1.trans (f2.trans (f3.trans (f4.trans f5)))) _ _ r1), fun q6 n6 => ?_⟩
      have f6 := Ex.new (o := .lst (cutV (as.map V.ref) (some (d : Int)) none)) n6
      refine ⟨q5, q6, _, _, rfl, rfl, f6 _ _ upd_same, upd_same, by rw [List.length_append, sizeLine_eq]; show _ + 1 + _ ≤ _; omega, fun q7 n7 => ?_⟩
      have f7 := Ex.new (o := .lst (cutV (as.map V.ref) none (some (d : Int)) ++ [.ref q3] ++ cutV (as.map V.ref) (some (d : Int)) none)) n7
      refine ⟨(by show 1 ≤ sizeLine; rw [sizeLine_eq]; omega), fun q8 n8 => ?_⟩
      have f8 := Ex.new (o := .lst [.int (1 : Int)]) n8
      refine ⟨_, rfl, q8, (wideOf m : Int), _, rfl, rfl, upd_same, by omega, by omega, by rw [sizeLine_eq]; show 1 * _ ≤ _; omega, fun q9 n9 => ?_⟩
      rw [reps V.int 1 (wideOf m)]
      have f9 := Ex.new (o := .lst ((List.replicate (wideOf m) (1 : Int)).map V.int)) n9
      refine ⟨(by show 1 ≤ sizeLine; rw [sizeLine_eq]; omega), fun q10 n10 => ?_⟩
      have f10 := Ex.new (o := .lst [.ref q9]) n10
      refine ⟨q7, q10, _, _, rfl, rfl, f10 _ _ (f9 _ _ (f8 _ _ upd_same)), upd_same, by rw [List.length_append, List.length_append, sizeLine_eq]; show _ + 1 + _ + 1 ≤ _; omega, fun q11 n11 => ?_⟩
      have f11 := Ex.new (o := .lst (cutV (as.map V.ref) none (some (d : Int)) ++ [.ref q3] ++ cutV (as.map V.ref) (some (d : Int)) none ++ [.ref q9])) n11
      have g3 := f4.trans (f5.trans (f6.trans (f7.trans (f8.trans (f9.trans (f10.trans f11))))))
      have g0 := f1.trans (f2.trans (f3.trans g3))
      refine ⟨q11, rfl, g0, q11, m.take d ++ [List.replicate (wideOf m + 1) 1] ++ m.drop d ++ [List.replicate (wideOf m) 1], rfl, ⟨as.take d ++ [q3] ++ as.drop d ++ [q9], ?_, ?_, ?_⟩, ?_, ?_, ?_⟩
      · rw [upd_same, cut_to (by rw [List.length_map]; omega), cut_from (by rw [List.length_map]; omega)]
        simp [List.map_take, List.map_drop]
      · simp only [List.length_append, List.length_take, List.length_drop, List.length_cons, List.length_nil]; omega
      · intro i b r q q'
        have ed : (as.take d).length = (m.take d).length := by rw [List.length_take, List.length_take]; omega
        rcases get_snoc q with ⟨lt, q⟩ | ⟨li, rfl⟩
        · have lt' : i < (m.take d ++ [List.replicate (wideOf m + 1) 1] ++ m.drop d).length := by
            simp only [List.length_append, List.length_take, List.length_drop, List.length_cons, List.length_nil] at lt ⊢; omega
          rw [List.getElem?_append_left lt'] at q'
          by_cases c1 : i < d
          · rw [List.getElem?_append_left (by simp only [List.length_append, List.length_take, List.length_cons, List.length_nil]; omega), List.getElem?_append_left (by rw [List.length_take]; omega), List.getElem?_take_of_lt c1] at q q'
            exact g0 _ _ (r3 i b r q q')
          · by_cases c2 : i = d
            · subst c2
              rw [List.getElem?_append_left (by simp only [List.length_append, List.length_take, List.length_cons, List.length_nil]; omega), List.getElem?_append_right (by rw [List.length_take]; omega)] at q q'
              have e0 : i - (as.take i).length = 0 := by rw [List.length_take]; omega
              have e0' : i - (m.take i).length = 0 := by rw [List.length_take]; omega
              rw [e0] at q
              rw [e0'] at q'
              cases q
              cases q'
              exact g3 _ _ upd_same
            · rw [List.getElem?_append_right (by simp only [List.length_append, List.length_take, List.length_cons, List.length_nil]; omega), List.getElem?_drop] at q q'
              have ea : d + (i - (as.take d ++ [q3]).length) = i - 1 := by simp only [List.length_append, List.length_take, List.length_cons, List.length_nil]; omega
              have em : d + (i - (m.take d ++ [List.replicate (wideOf m + 1) (1 : Int)]).length) = i - 1 := by simp only [List.length_append, List.length_take, List.length_cons, List.length_nil]; omega
              rw [ea] at q
              rw [em] at q'
              exact g0 _ _ (r3 (i - 1) b r q q')
        · have el : i = (m.take d ++ [List.replicate (wideOf m + 1) 1] ++ m.drop d).length := by
            simp only [List.length_append, List.length_take, List.length_drop, List.length_cons, List.length_nil] at li ⊢; omega
          rw [el, List.getElem?_append_right (Nat.le_refl _)] at q'
          simp at q'
          subst q'
          exact (f10.trans f11) _ _ upd_same
      · simp only [List.length_append, List.length_take, List.length_drop, List.length_cons, List.length_nil]; omega
      · intro r hr
        simp only [List.mem_append, List.mem_singleton] at hr
        rcases hr with ((hr | hr) | hr) | hr
        · rw [rc.r r (List.mem_of_mem_take hr)]; omega
        · rw [hr, List.length_replicate]; omega
        · rw [rc.r r (List.mem_of_mem_drop hr)]; omega
        · rw [hr, List.length_replicate]; omega
      · refine not_shape (a := wideOf m + 1) (b := wideOf m) ?_ ?_ (by omega)
        · simp
        · simp
    rintro sl H3 ⟨O, rfl, e3, hO⟩
    have p3 := p2.ex e3
    refine ⟨fun sl H4 => ∃ ov : Int, ov < 1 ∧ sl = [some (.ref p), some (.ref g), some (.ref a), some (.int (wideOf m : Nat)), some (.int (d : Nat)), some (.ref O), some (.int ov), none, none, none, none] ∧ PotL H4 p l ∧ Keep p H3 H4, ?_, ?_⟩
    · exact ⟨_, rfl, p, l, 100, rfl, p3, by decide, bd_of (by decide +kernel), fun d H4 d0 d1 p4 k4 => ⟨_, rfl, -d, by omega, rfl, p4, k4⟩⟩
    rintro sl H4 ⟨ov, ov1, rfl, p4, k4⟩
    have hO4 := hO.kp p3 k4
    have K4 : Keep p H H4 := k2.trans ((Keep.of e3).trans k4)
    have m4 := hm.kp pot K4
    have g4 := hg.kp pot K4
    refine ⟨fun sl H5 => (∃ o7 o8 o9 o10, sl = [some (.ref p), some (.ref g), some (.ref a), some (.int (wideOf m : Nat)), some (.int (d : Nat)), some (.ref O), some (.int ov), o7, o8, o9, o10]) ∧ Ex H4 H5, ?_, ?_⟩
    · refine ⟨_, rfl, (by show 1 ≤ sizeLine; rw [sizeLine_eq]; omega), fun q1 n1 => ?_⟩
      have f1 := Ex.new (o := .lst [.int (2 : Int)]) n1
      refine ⟨(by show 1 ≤ sizeLine; rw [sizeLine_eq]; omega), fun q2 n2 => ?_⟩
      have f2 := Ex.new (o := .lst [.ref q1]) n2
      refine ⟨q2, ((65 : Nat) : Int), _, rfl, rfl, upd_same, by decide, by decide, by rw [sizeLine_eq]; show 1 * _ ≤ _; decide, fun q3 n3 => ?_⟩
      rw [reps V.ref q1 65]
      have f3 := Ex.new (o := .lst ((List.replicate 65 q1).map V.ref)) n3
      refine ⟨(by show 1 ≤ sizeLine; rw [sizeLine_eq]; omega), fun q4 n4 => ?_⟩
      have f4 := Ex.new (o := .lst [.int (2 : Int)]) n4
      refine ⟨q4, ((65 : Nat) : Int), _, rfl, rfl, upd_same, by decide, by decide, by rw [sizeLine_eq]; show 1 * _ ≤ _; decide, fun q5 n5 => ?_⟩
      rw [reps V.int 2 65]
      have f5 := Ex.new (o := .lst ((List.replicate 65 (2 : Int)).map V.int)) n5
      refine ⟨(by show 1 ≤ sizeLine; rw [sizeLine_eq]; omega), fun q6 n6 => ?_⟩
      have f6 := Ex.new (o := .lst [.ref q5]) n6
      refine ⟨(by show 0 ≤ sizeLine; exact Nat.zero_le _), fun q7 n7 => ?_⟩
      have f7 := Ex.new (o := .lst []) n7
      refine ⟨(by show 1 ≤ sizeLine; rw [sizeLine_eq]; omega), fun q8 n8 => ?_⟩
      have f8 := Ex.new (o := .lst [.ref q7]) n8
      refine ⟨q8, ((65 : Nat) : Int), _, rfl, rfl, upd_same, by decide, by decide, by rw [sizeLine_eq]; show 1 * _ ≤ _; decide, fun q9 n9 => ?_⟩
      rw [reps V.ref q7 65]
      have f9 := Ex.new (o := .lst ((List.replicate 65 q7).map V.ref)) n9
      refine ⟨(by show 4 ≤ sizeLine; rw [sizeLine_eq]; omega), fun L nL => ⟨L, rfl, ⟨_, SqL.of upd_same⟩, ?_⟩⟩
      have fL := Ex.new (o := .lst [.ref O, .ref q3, .ref q6, .ref q9]) nL
      have t9 := f9.trans fL
      have t6 := f7.trans (f8.trans t9)
      have t3 := f4.trans (f5.trans (f6.trans t6))
      have t0 := f1.trans (f2.trans (f3.trans t3))
      refine for_list (K := K) (a := L) (xs := [.ref O, .ref q3, .ref q6, .ref q9]) (fun i sl H5 => (∃ o7 o8 o9 o10, sl = [some (.ref p), some (.ref g), some (.ref a), some (.int (wideOf m : Nat)), some (.int (d : Nat)), some (.ref O), some (.int ov), o7, o8, o9, o10]) ∧ Ex H4 H5 ∧ H5 L = some (.lst [.ref O, .ref q3, .ref q6, .ref q9]) ∧ ∀ (i : Nat) v, ([.ref O, .ref q3, .ref q6, .ref q9] : List V)[i]? = some v → OddOk H5 v)
        ⟨⟨_, _, _, _, rfl⟩, t0, upd_same, fun i v hv => ?_⟩ (fun i sl H5 _ q => SqL.of q.2.2.1) (fun i v sl H5 hv q => ?_) (fun sl H5 q => ⟨q.1, q.2.1⟩)
      · match i, hv with
        | 0, hv => cases hv; exact hO4.ex t0
        | 1, hv =>
          cases hv
          exact ⟨q3, List.replicate 65 [2], rfl, (rows_rep (n := 65) upd_same (f3 _ _ (f2 _ _ upd_same))).ex t3, by rw [List.length_replicate]; omega, fun r hr => by rw [(List.mem_replicate.mp hr).2]; decide, fun z => absurd z.1 (by rw [List.length_map, List.length_replicate]; omega)⟩
        | 2, hv =>
          cases hv
          exact ⟨q6, [List.replicate 65 2], rfl, (rows_one upd_same (f6 _ _ upd_same)).ex t6, by decide, fun r hr => by rw [List.mem_singleton.mp hr, List.length_replicate]; omega, fun z => absurd (z.2 65 (by simp)).1 (by omega)⟩
        | 3, hv =>
          cases hv
          exact ⟨q9, List.replicate 65 [], rfl, (rows_rep (n := 65) (r := []) upd_same (f9 _ _ (f8 _ _ upd_same))).ex fL, by rw [List.length_replicate]; omega, fun r hr => by rw [(List.mem_replicate.mp hr).2]; decide, fun z => absurd z.1 (by rw [List.length_map, List.length_replicate]; omega)⟩
        | i + 4, hv => simp at hv
      obtain ⟨⟨o7, o8, o9, o10, rfl⟩, e5, hL5, all5⟩ := q
      obtain ⟨q, mm, rfl, hq, lm, lr, bad⟩ := (all5 i v hv).ok
      have g5 := g4.ex e5
      refine ⟨fun sl H6 => sl = [some (.ref p), some (.ref g), some (.ref a), some (.int (wideOf m : Nat)), some (.int (d : Nat)), some (.ref O), some (.int ov), some (.ref q), o8, o9, o10] ∧ Ex H5 H6, ?_, ?_⟩
      · obtain ⟨xs, hx⟩ := hq.matv (K := K)
        refine ⟨_, rfl, _, rfl, ⟨0, _, _, _, rfl, .inl ⟨rfl, q, xs, _, 1, rfl, rfl, hx.lens, by rw [List.length_map]; omega, bad⟩⟩, fun H6 e6 => ⟨_, rfl, iteF ?_⟩⟩
        exact ⟨_, rfl, _, rfl, _, rfl, ⟨0, _, _, _, rfl, .inl ⟨rfl, q, xs, _, ov, rfl, rfl, (hx.ex e6).lens, by rw [List.length_map]; omega, bad⟩⟩, fun H7 e7 => ⟨_, rfl, iteF ⟨rfl, e6.trans e7⟩⟩⟩
      rintro sl H6 ⟨rfl, e6⟩
      have hq6 := hq.ex e6
      have lrs : (mm.map fun r => r.map fun x => lo x 1).map List.length = mm.map List.length := by
        rw [List.map_map]
        exact List.map_congr_left fun r _ => List.length_map ..
      refine ⟨fun sl H7 => (∃ R o9 o10, sl = [some (.ref p), some (.ref g), some (.ref a), some (.int (wideOf m : Nat)), some (.int (d : Nat)), some (.ref O), some (.int ov), some (.ref q), some (.ref R), o9, o10] ∧ RatRowsN A H6 H7 R (mm.map fun r => r.map fun x => lo x 1)) ∧ Ex H6 H7, ?_, ?_⟩
      · obtain ⟨as7, y1, y2, y3⟩ := id hq6
        refine uAsg (lcRatRows (mm.map fun r => r.map fun x => lo x 1) (xs := as7.map V.ref) (by rw [List.length_map, List.length_map, y2]) (fun R => lcL R (fun Q q => ⟨_, rfl, q⟩) (SqL.of y1) (by rw [List.length_map, y2]; omega)) (fun i v r H7 hv hr' ex Q2 kq => ?_) (fun R H7 nR' ex hR => ⟨⟨R, _, _, rfl, hR⟩, ex⟩))
        rw [List.getElem?_map] at hv hr'
        obtain ⟨b, hb, rfl⟩ := Option.map_eq_some_iff.mp hv
        obtain ⟨row, hrow0, rfl⟩ := Option.map_eq_some_iff.mp hr'
        have hrow := ex _ _ (y3 i b _ hb hrow0)
        refine ⟨rfl, lcRatRow (C := A.C) (xs := row.map V.int) (fun j => lo (row.getD j 0) 1) (fun R => lcL R (fun Q q => ⟨_, rfl, q⟩) (SqL.of hrow) (by rw [List.length_map]; have := lr row (List.mem_of_getElem? hrow0); omega)) (fun j x H8 hx e8 Q5 q => ?_) (fun D2 H8 cs n2 e8 hD2 lcs hcs => ?_)⟩
        · rw [List.getElem?_map] at hx
          obtain ⟨z, hz, rfl⟩ := Option.map_eq_some_iff.mp hx
          have ez : row.getD j 0 = z := by rw [List.getD_eq_getElem?_getD, hz]; rfl
          refine ⟨rfl, _, rfl, rd_mkR (by decide) (bd_of (by decide +kernel)) fun c H9 e9 nc hc => q c H9 e9 nc (by rw [ez]; exact hc)⟩
        · refine kq D2 H8 cs e8 n2 hD2 (by rw [lcs, List.length_map, List.length_map]) fun j c p hc hp => ?_
          rw [List.getElem?_map] at hp
          obtain ⟨z, hz, rfl⟩ := Option.map_eq_some_iff.mp hp
          have ez : row.getD j 0 = z := by rw [List.getD_eq_getElem?_getD, hz]; rfl
          have := hcs j c hc
          rwa [ez] at this
      rintro sl H7 ⟨⟨R, q9', q10', rfl, hR⟩, e7⟩
      obtain ⟨xs, hx⟩ := hR.rows.lens (K := K)
      rw [lrs] at hx
      exact ⟨_, rfl, _, rfl, ⟨1, _, _, _, rfl, .inr (.inl ⟨rfl, R, xs, _, rfl, hx, by rw [List.length_map]; omega, bad⟩)⟩, fun H8 e8 => ⟨_, rfl, iteF ⟨⟨_, _, _, _, rfl⟩, e5.trans (e6.trans (e7.trans e8)), (e6.trans (e7.trans e8)) _ _ hL5, fun i v hv => (all5 i v hv).ex (e6.trans (e7.trans e8))⟩⟩⟩
    rintro sl H5 ⟨⟨o7, o8, o9, o10, rfl⟩, e5⟩
    have m5 := m4.ex e5
    refine ⟨fun sl H6 => sl = [some (.ref p), some (.ref g), some (.ref a), some (.int (wideOf m : Nat)), some (.int (d : Nat)), some (.ref O), some (.int ov), o7, o8, o9, o10] ∧ Ex H5 H6, ?_, ?_⟩
    · refine ⟨_, rfl, _, rfl, a, m, ov, rfl, m5, rc, ov1, fun H6 e6 => ⟨_, rfl, iteF ⟨(by show 0 ≤ sizeLine; exact Nat.zero_le _), fun L nL => ?_⟩⟩⟩
      exact ⟨_, rfl, L, [], ov, rfl, rows_nil upd_same, rect_nil, ov1, fun H7 e7 => ⟨_, rfl, iteF ⟨rfl, e6.trans ((Ex.new nL).trans e7)⟩⟩⟩
    rintro sl H6 ⟨rfl, e6⟩
    have m6 := m5.ex e6
    refine ⟨fun sl H7 => sl = [some (.ref p), some (.ref g), some (.ref a), some (.int (wideOf m : Nat)), some (.int (d : Nat)), some (.ref O), some (.int ov), o7, o8, o9, o10] ∧ Ex H6 H7, ?_, ?_⟩
    · exact ⟨_, rfl, a, m, 0, rfl, m6, rc, by decide, fun H7 e7 => ⟨_, rfl, iteF ⟨_, rfl, _, rfl, a, m, -1, rfl, m6.ex e7, rc, by decide, fun H8 e8 => ⟨_, rfl, iteF ⟨rfl, e7.trans e8⟩⟩⟩⟩⟩
    rintro sl H7 ⟨rfl, e7⟩
    have E7 := e5.trans (e6.trans e7)
    -- what is large enough
    refine ⟨(by show 1 ≤ sizeLine; rw [sizeLine_eq]; omega), fun q1 n1 => ?_⟩
    have f1 := Ex.new (o := .lst [.int (2 : Int)]) n1
    refine ⟨(by show 1 ≤ sizeLine; rw [sizeLine_eq]; omega), fun q2 n2 => ?_⟩
    have f2 := Ex.new (o := .lst [.ref q1]) n2
    refine ⟨q2, ((64 : Nat) : Int), _, rfl, rfl, upd_same, by decide, by decide, by rw [sizeLine_eq]; show 1 * _ ≤ _; decide, fun q3 n3 => ?_⟩
    rw [reps V.ref q1 64]
    have f3 := Ex.new (o := .lst ((List.replicate 64 q1).map V.ref)) n3
    have rc1 : Rect (List.replicate 64 [2]) := rect_of (w := 1) (by rw [List.length_replicate]; omega) (by omega) fun r hr => by rw [(List.mem_replicate.mp hr).2]; rfl
    have rows1 := rows_rep (n := 64) (r := [2]) upd_same (f3 _ _ (f2 _ _ upd_same))
    cases vdg with
    | cons v1 v2 =>
    cases v2
    refine rd_grid rows1.matv rc1 (by decide) (bd_of (by decide +kernel)) fun x1 H8 e8 _ hx1 => ?_
    refine ⟨(by show 1 ≤ sizeLine; rw [sizeLine_eq]; omega), fun q4 n4 => ?_⟩
    have f4 := Ex.new (o := .lst [.int (2 : Int)]) n4
    refine ⟨(by show 1 ≤ sizeLine; rw [sizeLine_eq]; omega), fun q5 n5 => ?_⟩
    have f5 := Ex.new (o := .lst [.ref q4]) n5
    refine ⟨q5, ((64 : Nat) : Int), _, rfl, rfl, upd_same, by decide, by decide, by rw [sizeLine_eq]; show 1 * _ ≤ _; decide, fun q6 n6 => ?_⟩
    rw [reps V.ref q4 64]
    have f6 := Ex.new (o := .lst ((List.replicate 64 q4).map V.ref)) n6
    have rows2 := rows_rep (n := 64) (r := [2]) upd_same (f6 _ _ (f5 _ _ upd_same))
    refine ⟨x1, q6, List.replicate 64 [2], 1, rfl, hx1.ex (f4.trans (f5.trans f6)), rows2, rc1, by decide, bd_of (by decide +kernel), fun H9 e9 => ⟨true, rfl, ?_⟩⟩
    refine iteT ⟨(by show 1 ≤ sizeLine; rw [sizeLine_eq]; omega), fun q7 n7 => ?_⟩
    have f7 := Ex.new (o := .lst [.int (2 : Int)]) n7
    refine ⟨q7, ((64 : Nat) : Int), _, rfl, rfl, upd_same, by decide, by decide, by rw [sizeLine_eq]; show 1 * _ ≤ _; decide, fun q8 n8 => ?_⟩
    rw [reps V.int 2 64]
    have f8 := Ex.new (o := .lst ((List.replicate 64 (2 : Int)).map V.int)) n8
    refine ⟨(by show 1 ≤ sizeLine; rw [sizeLine_eq]; omega), fun q9 n9 => ?_⟩
    have f9 := Ex.new (o := .lst [.ref q8]) n9
    have rc3 : Rect [List.replicate 64 (2 : Int)] := rect_of (w := 64) (by decide) (by omega) fun r hr => by rw [List.mem_singleton.mp hr, List.length_replicate]
    have rc4 : Rect [List.replicate 64 (1 : Int)] := rect_of (w := 64) (by decide) (by omega) fun r hr => by rw [List.mem_singleton.mp hr, List.length_replicate]
    refine rd_grid (rows_one upd_same (f9 _ _ upd_same)).matv rc3 (by decide) (bd_of (by decide +kernel)) fun x2 H10 e10 _ hx2 => ?_
    obtain ⟨y1, y2⟩ := norm_eq (m := [List.replicate 64 (2 : Int)]) (n := [List.replicate 64 (1 : Int)]) (o := 2) (u := 1) (by decide) (by decide) (by decide +kernel)
    rw [y1, y2] at hx2
    refine ⟨(by show 1 ≤ sizeLine; rw [sizeLine_eq]; omega), fun q10 n10 => ?_⟩
    have f10 := Ex.new (o := .lst [.int (1 : Int)]) n10
    refine ⟨q10, ((64 : Nat) : Int), _, rfl, rfl, upd_same, by decide, by decide, by rw [sizeLine_eq]; show 1 * _ ≤ _; decide, fun q11 n11 => ?_⟩
    rw [reps V.int 1 64]
    have f11 := Ex.new (o := .lst ((List.replicate 64 (1 : Int)).map V.int)) n11
    refine ⟨(by show 1 ≤ sizeLine; rw [sizeLine_eq]; omega), fun q12 n12 => ?_⟩
    have f12 := Ex.new (o := .lst [.ref q11]) n12
    refine ⟨x2, q12, [List.replicate 64 1], 1, rfl, hx2.ex (f10.trans (f11.trans f12)), rows_one upd_same (f12 _ _ upd_same), rc4, by decide, bd_of (by decide +kernel), fun H11 e11 => ?_⟩
    have EE := E7.trans (f1.trans (f2.trans (f3.trans (e8.trans (f4.trans (f5.trans (f6.trans (e9.trans (f7.trans (f8.trans (f9.trans (e10.trans (f10.trans (f11.trans (f12.trans e11)))))))))))))))
    exact k H11 (p4.ex EE) (K4.trans (Keep.of EE))
end
end Fc
set_option Elab.async false
set_option linter.all false
set_option maxRecDepth 100000
set_option maxHeartbeats 4000000
set_option exponentiation.threshold 100000
namespace Fc
open PySem PySem.Spec PyProof.Rows L2 L2H
section
variable {P : Program} {w : World} {K : PySem.W.Frag} {mg : Str → Option Value} {base : Heap} {A : Ad}
theorem tab_of {m : List (List Int)} {h w : Nat} {o : Int} (c : CellsOk m h w) (h5 : h ≤ 5) (w5 : w ≤ 5) (o0 : 0 < o) (bo : Bd 31 o) : Tab m o := by
  obtain ⟨c1, c2⟩ := c
  have rc : Rect m := rect_of (w := w) (by omega) (by omega) fun r hr => (c2 r hr).1
  refine ⟨rc, by omega, ?_, fun r hr => (c2 r hr).2, by omega, bo⟩
  cases m with
  | nil => show 0 ≤ 5; omega
  | cons r m => rw [show wideOf (r :: m) = r.length from rfl, (c2 r List.mem_cons_self).1]; exact w5
theorem ok_law (T : Txt K mg A) : FnOk P w K mg base CX0 9 A.f_law A.d_law ["script"] (spLaw K) := by
  refine T.F_law.ok sc_law (fun vs H Q E h => ?_) (fun cdv Ar outer s H vs Q E hr h => ?_)
  · obtain ⟨a, ns, rfl, _⟩ := h
    rfl
  · obtain ⟨a0, ns, rfl, hS, hl, k⟩ := h
    refine ⟨_, (C8.pss_cut (ps_set (i := 1) sc_law.nd rfl (Or.inl rfl) (pe_call (ok_start T) (hr.mono (by decide)) rfl T.g_start T.F_start.kp T.b_start .nil pass0 (pa_cons (pv 0) pa_nil)))
      (C8.pss_cut (ps_set (i := 2) sc_law.nd rfl (Or.inl rfl) (pe_ix ix_list (pe_lst (pa_cons pe_int (pa_cons pe_int (pa_cons pe_int (pa_cons pe_int (pa_cons pe_int pa_nil)))))) (pe_call (ok_digit T) (hr.mono (by decide)) rfl T.g_digit T.F_digit.kp T.b_digit .nil pass0 (pa_cons (pv 1) (pa_cons pe_int pa_nil))) (fun _ _ => rfl)))
      (C8.pss_cut (ps_set (i := 3) sc_law.nd rfl (Or.inl rfl) (pe_ix ix_list (pe_lst (pa_cons pe_int (pa_cons pe_int (pa_cons pe_int (pa_cons pe_int (pa_cons pe_int pa_nil)))))) (pe_call (ok_digit T) (hr.mono (by decide)) rfl T.g_digit T.F_digit.kp T.b_digit .nil pass0 (pa_cons (pv 1) (pa_cons pe_int pa_nil))) (fun _ _ => rfl)))
      (C8.pss_cut (ps_set (i := 4) sc_law.nd rfl (Or.inl rfl) (pe_call (ok_cells T) (hr.mono (by decide)) rfl T.g_cells T.F_cells.kp T.b_cells .nil pass0 (pa_cons (pv 1) (pa_cons (pv 2) (pa_cons (pv 3) pa_nil)))))
      (C8.pss_cut (ps_set (i := 5) sc_law.nd rfl (Or.inl rfl) (pe_ix ix_tup (pv 4) pe_int (fun _ _ => rfl)))
      (C8.pss_cut (ps_set (i := 6) sc_law.nd rfl (Or.inl rfl) (pe_ix ix_tup (pv 4) pe_int (fun _ _ => rfl)))
      (C8.pss_cut (ps_if (pt_not (pt_val (pe_call (ok_made T) (hr.mono (by decide)) rfl T.g_made T.F_made.kp T.b_made .nil pass0 (pa_cons (pv 1) (pa_cons (pv 5) (pa_cons (pv 6) pa_nil))))))
      (pss_one (ps_ret pe_bl)) pss_nil)
      (C8.pss_cut (ps_set (i := 7) sc_law.nd rfl (Or.inl rfl) (pe_make T.mk_Gr (ok_ginit T) (hr.mono (by decide)) rfl T.g_Grid T.b_ginit .nil passLN (pa_cons (pv 5) (pa_cons (pv 6) pa_nil))))
      (C8.pss_cut (ps_if (PW.pt (pw_or (pt_not (pt_val (pe_call (ok_entries T) (hr.mono (by decide)) rfl T.g_entries T.F_entries.kp T.b_entries .nil pass0 (pa_cons (pv 7) (pa_cons (pv 5) (pa_cons (pv 6) pa_nil)))))) (pw_or1 (pt_not (pt_val (pe_call (ok_mixed T) (hr.mono (by decide)) rfl T.g_mixed T.F_mixed.kp T.b_mixed .nil pass0 (pa_cons (pv 1) (pa_cons (pv 5) pa_nil))))))))
      (pss_one (ps_ret pe_bl)) pss_nil)
      (C8.pss_cut (ps_if (pt_not (pt_val (pe_call (ok_parts T) (hr.mono (by decide)) rfl T.g_parts T.F_parts.kp T.b_parts .nil pass0 (pa_cons (pv 1) (pa_cons (pv 7) (pa_cons (pv 5) (pa_cons (pv 6) pa_nil)))))))
      (pss_one (ps_ret pe_bl)) pss_nil)
      (C8.pss_cut (ps_if (pt_not (pt_val (pe_call (ok_sums T) (hr.mono (by decide)) rfl T.g_sums T.F_sums.kp T.b_sums .nil pass0 (pa_cons (pv 1) (pa_cons (pv 7) (pa_cons (pv 5) (pa_cons (pv 6) pa_nil)))))))
      (pss_one (ps_ret pe_bl)) pss_nil)
      (C8.pss_cut (ps_if (PW.pt (pw_or (pt_not (pt_val (pe_call (ok_changed T) (hr.mono (by decide)) rfl T.g_changed T.F_changed.kp T.b_changed .nil pass0 (pa_cons (pv 1) (pa_cons (pv 7) (pa_cons (pv 5) (pa_cons (pv 6) pa_nil))))))) (pw_or1 (pt_not (pt_val (pe_call (ok_refused T) (hr.mono (by decide)) rfl T.g_refused T.F_refused.kp T.b_refused .nil pass0 (pa_cons (pv 1) (pa_cons (pv 7) (pa_cons (pv 5) pa_nil)))))))))
      (pss_one (ps_ret pe_bl)) pss_nil)
      (pss_one (ps_ret (pe_and (pe_call (ok_units T) (hr.mono (by decide)) rfl T.g_units T.F_units.kp T.b_units .nil pass0 (pa_cons (pv 1) (pa_cons (pv 7) pa_nil))) (pe_one (pe_call (ok_lis T) (hr.mono (by decide)) rfl T.g_lis T.F_lis.kp T.b_lis .nil pass0 (pa_cons (pv 7) (pa_cons (pv 5) (pa_cons (pv 6) pa_nil)))))))))))))))))))), ?_⟩
    refine ⟨fun sl H1 => ∃ p l, sl = [some (.ref a0), some (.ref p), none, none, none, none, none, none] ∧ PotL H1 p l, ?_, ?_⟩
    · exact ⟨_, rfl, a0, ns, rfl, hS, hl, fun p H' pt _ _ => (by obtain ⟨l, cs, i, c, z⟩ := pt; exact ⟨p, l, rfl, cs, i, c, z⟩)⟩
    rintro sl H1 ⟨p, l, rfl, p1⟩
    refine ⟨fun sl H2 => ∃ h : Nat, h ≤ 5 ∧ sl = [some (.ref a0), some (.ref p), some (.int (h : Nat)), none, none, none, none, none] ∧ PotL H2 p l, ?_, ?_⟩
    · refine ⟨(by show 5 ≤ sizeLine; rw [sizeLine_eq]; omega), fun L nL => ?_⟩
      have pe := p1.ex (Ex.new (o := .lst [.int (2 : Int), .int 3, .int 1, .int 4, .int 0]) nL)
      refine ⟨_, rfl, p, l, 5, rfl, pe, by decide, bd_of (by decide +kernel), fun d H2 d0 d1 p2 k2 => ?_⟩
      obtain ⟨v, v5, hv⟩ := five_int d0 d1 (a := 2) (b := 3) (c := 1) (e := 4) (g := 0) (by decide)
      exact ⟨L, _, d, _, rfl, rfl, SqL.of (k2 _ _ upd_same (p1.ne nL).1), hv, v, v5, rfl, p2⟩
    rintro sl H2 ⟨h, h5, rfl, p2⟩
    refine ⟨fun sl H3 => ∃ w : Nat, w ≤ 5 ∧ sl = [some (.ref a0), some (.ref p), some (.int (h : Nat)), some (.int (w : Nat)), none, none, none, none] ∧ PotL H3 p l, ?_, ?_⟩
    · refine ⟨(by show 5 ≤ sizeLine; rw [sizeLine_eq]; omega), fun L nL => ?_⟩
      have pe := p2.ex (Ex.new (o := .lst [.int (2 : Int), .int 3, .int 1, .int 4, .int 0]) nL)
      refine ⟨_, rfl, p, l, 5, rfl, pe, by decide, bd_of (by decide +kernel), fun d H3 d0 d1 p3 k3 => ?_⟩
      obtain ⟨v, v5, hv⟩ := five_int d0 d1 (a := 2) (b := 3) (c := 1) (e := 4) (g := 0) (by decide)
      exact ⟨L, _, d, _, rfl, rfl, SqL.of (k3 _ _ upd_same (p2.ne nL).1), hv, v, v5, rfl, p3⟩
    rintro sl H3 ⟨wd, w5, rfl, p3⟩
    refine ⟨fun sl H4 => ∃ Tt L m o, sl = [some (.ref a0), some (.ref p), some (.int (h : Nat)), some (.int (wd : Nat)), some (.ref Tt), none, none, none] ∧ H4 Tt = some (.tup [.ref L, .int o]) ∧ RowsL H4 L m ∧ Tab m o ∧ PotL H4 p l, ?_, ?_⟩
    · exact ⟨_, rfl, _, rfl, _, rfl, p, l, h, wd, rfl, p3, h5, w5, fun Tt L m o H4 hT hL cc o0 bo p4 k4 nT nL => ⟨Tt, L, m, o, rfl, hT, hL, tab_of cc h5 w5 o0 bo, p4⟩⟩
    rintro sl H4 ⟨Tt, L, m, o, rfl, hT, hL, tb, p4⟩
    refine ⟨fun sl H5 => sl = [some (.ref a0), some (.ref p), some (.int (h : Nat)), some (.int (wd : Nat)), some (.ref Tt), some (.ref L), none, none] ∧ H5 = H4, ?_, ?_⟩
    · exact ⟨_, rfl, _, _, _, _, rfl, rfl, SqT.of (hT), rfl, rfl, rfl⟩
    rintro sl H5 ⟨rfl, rfl⟩
    refine ⟨fun sl H6 => sl = [some (.ref a0), some (.ref p), some (.int (h : Nat)), some (.int (wd : Nat)), some (.ref Tt), some (.ref L), some (.int o), none] ∧ H6 = H5, ?_, ?_⟩
    · exact ⟨_, rfl, _, _, _, _, rfl, rfl, SqT.of (hT), rfl, rfl, rfl⟩
    rintro sl H6 ⟨rfl, rfl⟩
    refine ⟨fun sl H7 => sl = [some (.ref a0), some (.ref p), some (.int (h : Nat)), some (.int (wd : Nat)), some (.ref Tt), some (.ref L), some (.int o), none] ∧ PotL H7 p l ∧ RowsL H7 L m, ?_, ?_⟩
    · exact ⟨_, rfl, _, rfl, _, rfl, p, l, L, m, o, rfl, p4, hL, tb, fun H7 p7 k7 => ⟨_, rfl, iteF ⟨rfl, p7, hL.kp p4 k7⟩⟩⟩
    rintro sl H7 ⟨rfl, p7, m7⟩
    refine ⟨fun sl H8 => ∃ g, sl = [some (.ref a0), some (.ref p), some (.int (h : Nat)), some (.int (wd : Nat)), some (.ref Tt), some (.ref L), some (.int o), some (.ref g)] ∧ PotL H8 p l ∧ RowsL H8 L m ∧ GridAt A H8 g (nR m o) (nO m o), ?_, ?_⟩
    · exact ⟨_, rfl, _, rfl, rd_grid m7.matv tb.rc tb.o1 (tb.bo.mono (by decide)) fun g H8 e8 _ hg => ⟨g, rfl, p7.ex e8, m7.ex e8, hg⟩⟩
    rintro sl H8 ⟨g, rfl, p8, m8, g8⟩
    refine ⟨fun sl H9 => sl = [some (.ref a0), some (.ref p), some (.int (h : Nat)), some (.int (wd : Nat)), some (.ref Tt), some (.ref L), some (.int o), some (.ref g)] ∧ PotL H9 p l ∧ RowsL H9 L m ∧ GridAt A H9 g (nR m o) (nO m o), ?_, ?_⟩
    · refine ⟨_, rfl, _, rfl, _, rfl, g, L, m, o, rfl, g8, m8, tb, fun H9 e9 => ⟨_, rfl, iteF ?_⟩⟩
      exact ⟨_, rfl, _, rfl, p, l, L, m, o, rfl, p8.ex e9, m8.ex e9, tb, fun H10 p10 k10 => ⟨_, rfl, iteF ⟨rfl, p10, (m8.ex e9).kp (p8.ex e9) k10, (g8.ex e9).kp (p8.ex e9) k10⟩⟩⟩
    rintro sl H9 ⟨rfl, p9, m9, g9⟩
    refine ⟨fun sl H9 => sl = [some (.ref a0), some (.ref p), some (.int (h : Nat)), some (.int (wd : Nat)), some (.ref Tt), some (.ref L), some (.int o), some (.ref g)] ∧ PotL H9 p l ∧ RowsL H9 L m ∧ GridAt A H9 g (nR m o) (nO m o), ?_, ?_⟩
    · exact ⟨_, rfl, _, rfl, _, rfl, _, rfl, p, l, g, L, m, o, rfl, p9, g9, m9, tb, fun H10 p10 k10 => ⟨_, rfl, iteF ⟨rfl, p10, m9.kp p9 k10, g9.kp p9 k10⟩⟩⟩
    rintro sl H10 ⟨rfl, p10, m10, g10⟩
    refine ⟨fun sl H9 => sl = [some (.ref a0), some (.ref p), some (.int (h : Nat)), some (.int (wd : Nat)), some (.ref Tt), some (.ref L), some (.int o), some (.ref g)] ∧ PotL H9 p l ∧ RowsL H9 L m ∧ GridAt A H9 g (nR m o) (nO m o), ?_, ?_⟩
    · exact ⟨_, rfl, _, rfl, _, rfl, _, rfl, p, l, g, L, m, o, rfl, p10, g10, m10, tb, fun H11 p11 k11 => ⟨_, rfl, iteF ⟨rfl, p11, m10.kp p10 k11, g10.kp p10 k11⟩⟩⟩
    rintro sl H11 ⟨rfl, p11, m11, g11⟩
    refine ⟨fun sl H9 => sl = [some (.ref a0), some (.ref p), some (.int (h : Nat)), some (.int (wd : Nat)), some (.ref Tt), some (.ref L), some (.int o), some (.ref g)] ∧ PotL H9 p l ∧ RowsL H9 L m ∧ GridAt A H9 g (nR m o) (nO m o), ?_, ?_⟩
    · refine ⟨_, rfl, _, rfl, _, rfl, _, rfl, p, l, g, L, m, o, rfl, p11, g11, m11, tb, fun H12 p12 k12 => ⟨_, rfl, iteF ?_⟩⟩
      exact ⟨_, rfl, _, rfl, _, rfl, p, l, g, L, m, nR m o, o, nO m o, rfl, p12, g11.kp p11 k12, m11.kp p11 k12, tb, fun H13 p13 k13 => ⟨_, rfl, iteF ⟨rfl, p13, (m11.kp p11 k12).kp p12 k13, (g11.kp p11 k12).kp p12 k13⟩⟩⟩
    rintro sl H12 ⟨rfl, p12, m12, g12⟩
    refine ⟨_, rfl, _, rfl, p, l, g, _, _, rfl, p12, g12, fun H13 p13 k13 => ⟨true, rfl, ?_⟩⟩
    exact iteT ⟨_, rfl, _, rfl, _, rfl, g, L, m, o, rfl, g12.kp p12 k13, m12.kp p12 k13, tb.rc, tb.o1, tb.bo.mono (by decide), fun H14 e14 => k H14⟩
end
end Fc
set_option Elab.async false
set_option linter.all false
set_option maxRecDepth 100000
set_option maxHeartbeats 4000000
namespace Fc
open PySem PySem.Spec PyProof.Rows L2 L2H
theorem all_mk {l : PySem.W.OpenLaw} {w : World} {K : PySem.W.Frag} {h : Heap} {mg : Str → Option Value} {fa : Addr} (X : K.In h) (G : h.Ns mainGlobals mg) (hfa : mg "law" = some (.ref fa))
    {f_cbot : Addr} {oc_cbot kV_cbot dc_cbot pm_cbot cd_cbot ct_cbot : Value} {od_cbot an_cbot : Option Addr} {sl_cbot : Array (Option Value)}
    {f_oob : Addr} {oc_oob kV_oob dc_oob pm_oob cd_oob ct_oob : Value} {od_oob an_oob : Option Addr} {sl_oob : Array (Option Value)}
    {f_bpl : Addr} {oc_bpl kV_bpl dc_bpl pm_bpl cd_bpl ct_bpl : Value} {od_bpl an_bpl : Option Addr} {sl_bpl : Array (Option Value)}
    {f_dot : Addr} {oc_dot kV_dot dc_dot pm_dot cd_dot ct_dot : Value} {od_dot an_dot : Option Addr} {sl_dot : Array (Option Value)}
    {f_trows : Addr} {oc_trows kV_trows dc_trows pm_trows cd_trows ct_trows : Value} {od_trows an_trows : Option Addr} {sl_trows : Array (Option Value)}
    {f_cdiv : Addr} {oc_cdiv kV_cdiv dc_cdiv pm_cdiv cd_cdiv ct_cdiv : Value} {od_cdiv an_cdiv : Option Addr} {sl_cdiv : Array (Option Value)}
    {f_gof : Addr} {oc_gof kV_gof dc_gof pm_gof cd_gof ct_gof : Value} {od_gof an_gof : Option Addr} {sl_gof : Array (Option Value)}
    {p_gof : Addr} {rest_gof : List Value}
    {f_gunit : Addr} {oc_gunit kV_gunit dc_gunit pm_gunit cd_gunit ct_gunit : Value} {od_gunit an_gunit : Option Addr} {sl_gunit : Array (Option Value)}
    {p_gunit : Addr} {rest_gunit : List Value}
    {f_geq : Addr} {oc_geq kV_geq dc_geq pm_geq cd_geq ct_geq : Value} {od_geq an_geq : Option Addr} {sl_geq : Array (Option Value)}
    {f_gget : Addr} {oc_gget kV_gget dc_gget pm_gget cd_gget ct_gget : Value} {od_gget an_gget : Option Addr} {sl_gget : Array (Option Value)}
    {f_gscaled : Addr} {oc_gscaled kV_gscaled dc_gscaled pm_gscaled cd_gscaled ct_gscaled : Value} {od_gscaled an_gscaled : Option Addr} {sl_gscaled : Array (Option Value)}
    {f_gturned : Addr} {oc_gturned kV_gturned dc_gturned pm_gturned cd_gturned ct_gturned : Value} {od_gturned an_gturned : Option Addr} {sl_gturned : Array (Option Value)}
    {f_gpart : Addr} {oc_gpart kV_gpart dc_gpart pm_gpart cd_gpart ct_gpart : Value} {od_gpart an_gpart : Option Addr} {sl_gpart : Array (Option Value)}
    {f_gform : Addr} {oc_gform kV_gform dc_gform pm_gform cd_gform ct_gform : Value} {od_gform an_gform : Option Addr} {sl_gform : Array (Option Value)}
    {f_gtrace : Addr} {oc_gtrace kV_gtrace dc_gtrace pm_gtrace cd_gtrace ct_gtrace : Value} {od_gtrace an_gtrace : Option Addr} {sl_gtrace : Array (Option Value)}
    {f_cshape : Addr} {oc_cshape kV_cshape dc_cshape pm_cshape cd_cshape ct_cshape : Value} {od_cshape an_cshape : Option Addr} {sl_cshape : Array (Option Value)}
    {f_cplaces : Addr} {oc_cplaces kV_cplaces dc_cplaces pm_cplaces cd_cplaces ct_cplaces : Value} {od_cplaces an_cplaces : Option Addr} {sl_cplaces : Array (Option Value)}
    {f_shared : Addr} {oc_shared kV_shared dc_shared pm_shared cd_shared ct_shared : Value} {od_shared an_shared : Option Addr} {sl_shared : Array (Option Value)}
    {f_start : Addr} {oc_start kV_start dc_start pm_start cd_start ct_start : Value} {od_start an_start : Option Addr} {sl_start : Array (Option Value)}
    {f_digit : Addr} {oc_digit kV_digit dc_digit pm_digit cd_digit ct_digit : Value} {od_digit an_digit : Option Addr} {sl_digit : Array (Option Value)}
    {f_lcommon : Addr} {oc_lcommon kV_lcommon dc_lcommon pm_lcommon cd_lcommon ct_lcommon : Value} {od_lcommon an_lcommon : Option Addr} {sl_lcommon : Array (Option Value)}
    {f_number : Addr} {oc_number kV_number dc_number pm_number cd_number ct_number : Value} {od_number an_number : Option Addr} {sl_number : Array (Option Value)}
    {f_cells : Addr} {oc_cells kV_cells dc_cells pm_cells cd_cells ct_cells : Value} {od_cells an_cells : Option Addr} {sl_cells : Array (Option Value)}
    {f_wide : Addr} {oc_wide kV_wide dc_wide pm_wide cd_wide ct_wide : Value} {od_wide an_wide : Option Addr} {sl_wide : Array (Option Value)}
    {f_copy : Addr} {oc_copy kV_copy dc_copy pm_copy cd_copy ct_copy : Value} {od_copy an_copy : Option Addr} {sl_copy : Array (Option Value)}
    {f_whole : Addr} {oc_whole kV_whole dc_whole pm_whole cd_whole ct_whole : Value} {od_whole an_whole : Option Addr} {sl_whole : Array (Option Value)}
    {f_isratio : Addr} {oc_isratio kV_isratio dc_isratio pm_isratio cd_isratio ct_isratio : Value} {od_isratio an_isratio : Option Addr} {sl_isratio : Array (Option Value)}
    {f_lis : Addr} {oc_lis kV_lis dc_lis pm_lis cd_lis ct_lis : Value} {od_lis an_lis : Option Addr} {sl_lis : Array (Option Value)}
    {f_badshape : Addr} {oc_badshape kV_badshape dc_badshape pm_badshape cd_badshape ct_badshape : Value} {od_badshape an_badshape : Option Addr} {sl_badshape : Array (Option Value)}
    {f_badover : Addr} {oc_badover kV_badover dc_badover pm_badover cd_badover ct_badover : Value} {od_badover an_badover : Option Addr} {sl_badover : Array (Option Value)}
    {f_noentry : Addr} {oc_noentry kV_noentry dc_noentry pm_noentry cd_noentry ct_noentry : Value} {od_noentry an_noentry : Option Addr} {sl_noentry : Array (Option Value)}
    {f_badplace : Addr} {oc_badplace kV_badplace dc_badplace pm_badplace cd_badplace ct_badplace : Value} {od_badplace an_badplace : Option Addr} {sl_badplace : Array (Option Value)}
    {f_made : Addr} {oc_made kV_made dc_made pm_made cd_made ct_made : Value} {od_made an_made : Option Addr} {sl_made : Array (Option Value)}
    {f_mixed : Addr} {oc_mixed kV_mixed dc_mixed pm_mixed cd_mixed ct_mixed : Value} {od_mixed an_mixed : Option Addr} {sl_mixed : Array (Option Value)}
    {f_entries : Addr} {oc_entries kV_entries dc_entries pm_entries cd_entries ct_entries : Value} {od_entries an_entries : Option Addr} {sl_entries : Array (Option Value)}
    {f_places : Addr} {oc_places kV_places dc_places pm_places cd_places ct_places : Value} {od_places an_places : Option Addr} {sl_places : Array (Option Value)}
    {f_outside : Addr} {oc_outside kV_outside dc_outside pm_outside cd_outside ct_outside : Value} {od_outside an_outside : Option Addr} {sl_outside : Array (Option Value)}
    {f_parts : Addr} {oc_parts kV_parts dc_parts pm_parts cd_parts ct_parts : Value} {od_parts an_parts : Option Addr} {sl_parts : Array (Option Value)}
    {f_sums : Addr} {oc_sums kV_sums dc_sums pm_sums cd_sums ct_sums : Value} {od_sums an_sums : Option Addr} {sl_sums : Array (Option Value)}
    {f_changed : Addr} {oc_changed kV_changed dc_changed pm_changed cd_changed ct_changed : Value} {od_changed an_changed : Option Addr} {sl_changed : Array (Option Value)}
    {f_refused : Addr} {oc_refused kV_refused dc_refused pm_refused cd_refused ct_refused : Value} {od_refused an_refused : Option Addr} {sl_refused : Array (Option Value)}
    {f_units : Addr} {oc_units kV_units dc_units pm_units cd_units ct_units : Value} {od_units an_units : Option Addr} {sl_units : Array (Option Value)}
    {f_law : Addr} {oc_law kV_law dc_law pm_law cd_law ct_law : Value} {od_law an_law : Option Addr} {sl_law : Array (Option Value)}
    {C f_init T_init : Addr} {oc_init kV_init dc_init pm_init cd_init ct_init : Value} {od_init an_init : Option Addr} {sl_init : Array (Option Value)} {oT : Value} {dT : Option Addr} {tT : Tok} {nT' : Nat} {sT : Array (Option Value)}
    {Z : Addr}
    {CE : Addr}
    {BS : Addr}
    {O : Addr} {nm_O q_O : Str} {N_O : Addr} {bs1_O : List Value} {sn_O : List Str} {sub_O : List Value} {ab_O : Bool} {col_O : Option Bool} {dd_O : Option Addr} {m0_O m1_O m2_O m3_O m5_O : Option Value} {bm_O : List Value}
    {P : Addr} {nm_P q_P : Str} {N_P : Addr} {bs1_P : List Value} {sn_P : List Str} {sub_P : List Value} {ab_P : Bool} {col_P : Option Bool} {dd_P : Option Addr} {m0_P m1_P m2_P m3_P m5_P : Option Value} {bm_P : List Value}
    {tk_MOST_SIZE : Tok}
    {Gr f_ginit T_ginit : Addr} {oc_ginit kV_ginit dc_ginit pm_ginit cd_ginit ct_ginit : Value} {od_ginit an_ginit : Option Addr} {sl_ginit : Array (Option Value)} {oT_ginit : Value} {dT_ginit : Option Addr} {tT_ginit : Tok} {nT_ginit : Nat} {sT_ginit : Array (Option Value)}
    (hn : PySem.W.specialIn K (.builtin "object.__class__") "__get__" = some (some (.builtin "getset_descriptor.__get__")))
    (htk : PySem.W.takesIn K (.builtin "object.__class__") = some true)
    (aC : PySem.W.nsIn K mainGlobals "Ratio" = some (some (.ref C)))
    (pgC : PySem.W.plainGet K C Str.empty = true)
    (hdC : PySem.W.hasDictIn K C = true)
    (poC : PySem.W.plainOver K C = true)
    (saC : PySem.W.findIn K (.ref C) "__setattr__" = some (some (.builtin "object.__setattr__")))
    (mkC : PySem.W.makesIn K C = true)
    (kcC : PySem.W.keepIn K (.ref C) = true)
    (a_init : PySem.W.findIn K (.ref C) "__init__" = some (some (.ref f_init)))
    (i_init : PySem.W.isFn K (.ref f_init) = true)
    (l_init : K.lookup f_init = some ⟨oc_init, od_init, .func (PySem.W.fnOf "__init__" "Ratio.__init__" (defArgs S_init) (defBody S_init) (defScope S_init) (.ref T_init) kV_init dc_init pm_init an_init cd_init ct_init), sl_init⟩)
    (lT : K.lookup T_init = some ⟨oT, dT, .seq #[Value.int 1 tT] nT', sT⟩)
    (c_init : PySem.W.codeIn K cd_init "Ratio.__init__" = true)
    (k_init : PySem.W.keepIn K (.ref f_init) = true)
    (nT : PySem.W.findIn K (.ref C) "top" = some none)
    (nB : PySem.W.findIn K (.ref C) "bottom" = some none)
    (ha : PySem.W.findIn K (.ref C) "__class__" = some (some (.builtin "object.__class__")))
    (hm : PySem.W.mroIn K C (.type "object") = some true)
    (gg : PySem.W.nsIn K mainGlobals "gcd" = some (some (.builtin "math.gcd")))
    (aZ : PySem.W.nsIn K mainGlobals "ZeroBottom" = some (some (.ref Z)))
    (xZ : PySem.W.excIn K Z [.type "ValueError", .type "Exception", .type "BaseException", .type "object"] "ValueError.__new__" = true)
    (kZ : PySem.W.keepIn K (.ref Z) = true)
    (bZ : PySem.W.subIn K (.ref Z) (.type "BaseException") = some true)
    (tZ : PySem.W.typeIn K (.ref Z) = some (.type "type"))
    (aCE : PySem.W.nsIn K mainGlobals "CarryError" = some (some (.ref CE)))
    (CEd : PySem.W.hasDictIn K CE = true)
    (CEb : PySem.W.subIn K (.ref CE) (.type "BaseException") = some true)
    (CEt : PySem.W.typeIn K (.ref CE) = some (.type "type"))
    (glcm : PySem.W.nsIn K mainGlobals "lcm" = some (some (.builtin "math.lcm")))
    (a_BS : PySem.W.nsIn K mainGlobals "BadShape" = some (some (.ref BS)))
    (x_BS : PySem.W.excIn K BS [.type "ValueError", .type "Exception", .type "BaseException", .type "object"] "ValueError.__new__" = true)
    (k_BS : PySem.W.keepIn K (.ref BS) = true)
    (bs_BS : PySem.W.subIn K (.ref BS) (.type "BaseException") = some true)
    (t_BS : PySem.W.typeIn K (.ref BS) = some (.type "type"))
    (e_BS : PySem.W.subIn K (.ref BS) (.ref CE) = some true)
    (g0_BS : PySem.W.findIn K (.ref BS) "__getattribute__" = some (some (.builtin "BaseException.__getattribute__")))
    (g1_BS : PySem.W.findIn K (.ref BS) "__getattr__" = some none)
    (d_BS : PySem.W.hasDictIn K BS = true)
    (cl_BS : PySem.W.findIn K (.ref BS) "__class__" = some (some (.builtin "object.__class__")))
    (m_BS : PySem.W.mroIn K BS (.type "object") = some true)
    (v_BS : PySem.W.subIn K (.ref BS) (.type "ValueError") = some true)
    (a_O : PySem.W.nsIn K mainGlobals "OutOfBounds" = some (some (.ref O)))
    (c_O : K.lookup O = some (excClassObj nm_O q_O O N_O bs1_O bm_O true sn_O sub_O ab_O col_O dd_O m0_O m1_O m2_O m3_O m5_O "ValueError.__new__"))
    (r_O : PySem.HandSPX.refsVE bm_O = true)
    (sa_O : PySem.W.findIn K (.ref O) "__setattr__" = some (some (.builtin "object.__setattr__")))
    (k_O : PySem.W.keepIn K (.ref O) = true)
    (bs_O : PySem.W.subIn K (.ref O) (.type "BaseException") = some true)
    (t_O : PySem.W.typeIn K (.ref O) = some (.type "type"))
    (e_O : PySem.W.subIn K (.ref O) (.ref CE) = some true)
    (g0_O : PySem.W.findIn K (.ref O) "__getattribute__" = some (some (.builtin "BaseException.__getattribute__")))
    (g1_O : PySem.W.findIn K (.ref O) "__getattr__" = some none)
    (d_O : PySem.W.hasDictIn K O = true)
    (cl_O : PySem.W.findIn K (.ref O) "__class__" = some (some (.builtin "object.__class__")))
    (m_O : PySem.W.mroIn K O (.type "object") = some true)
    (v_O : PySem.W.subIn K (.ref O) (.type "ValueError") = some true)
    (n_O_value : PySem.W.findIn K (.ref O) "value" = some none)
    (a_P : PySem.W.nsIn K mainGlobals "BadPlace" = some (some (.ref P)))
    (c_P : K.lookup P = some (excClassObj nm_P q_P P N_P bs1_P bm_P true sn_P sub_P ab_P col_P dd_P m0_P m1_P m2_P m3_P m5_P "ValueError.__new__"))
    (r_P : PySem.HandSPX.refsVE bm_P = true)
    (sa_P : PySem.W.findIn K (.ref P) "__setattr__" = some (some (.builtin "object.__setattr__")))
    (k_P : PySem.W.keepIn K (.ref P) = true)
    (bs_P : PySem.W.subIn K (.ref P) (.type "BaseException") = some true)
    (t_P : PySem.W.typeIn K (.ref P) = some (.type "type"))
    (e_P : PySem.W.subIn K (.ref P) (.ref CE) = some true)
    (g0_P : PySem.W.findIn K (.ref P) "__getattribute__" = some (some (.builtin "BaseException.__getattribute__")))
    (g1_P : PySem.W.findIn K (.ref P) "__getattr__" = some none)
    (d_P : PySem.W.hasDictIn K P = true)
    (cl_P : PySem.W.findIn K (.ref P) "__class__" = some (some (.builtin "object.__class__")))
    (m_P : PySem.W.mroIn K P (.type "object") = some true)
    (v_P : PySem.W.subIn K (.ref P) (.type "ValueError") = some true)
    (n_P_place : PySem.W.findIn K (.ref P) "place" = some none)
    (s_bsNo : PySem.W.subIn K (.ref BS) (.ref O) = some false)
    (n_bsNo : BS ≠ O)
    (s_oNbs : PySem.W.subIn K (.ref O) (.ref BS) = some false)
    (n_oNbs : O ≠ BS)
    (s_pNbs : PySem.W.subIn K (.ref P) (.ref BS) = some false)
    (n_pNbs : P ≠ BS)
    (gi_MOST_SIZE : PySem.W.nsIn K mainGlobals "_MOST_SIZE" = some (some (.int 64 tk_MOST_SIZE)))
    (a_Gr : PySem.W.nsIn K mainGlobals "Grid" = some (some (.ref Gr)))
    (pgGr : PySem.W.plainGet K Gr Str.empty = true)
    (hdGr : PySem.W.hasDictIn K Gr = true)
    (poGr : PySem.W.plainOver K Gr = true)
    (saGr : PySem.W.findIn K (.ref Gr) "__setattr__" = some (some (.builtin "object.__setattr__")))
    (mkGr : PySem.W.makesIn K Gr = true)
    (kcGr : PySem.W.keepIn K (.ref Gr) = true)
    (ha_Gr : PySem.W.findIn K (.ref Gr) "__class__" = some (some (.builtin "object.__class__")))
    (hm_Gr : PySem.W.mroIn K Gr (.type "object") = some true)
    (na_Gr_rows : PySem.W.findIn K (.ref Gr) "rows" = some none)
    (na_Gr_over : PySem.W.findIn K (.ref Gr) "over" = some none)
    (na_Gr_height : PySem.W.findIn K (.ref Gr) "height" = some none)
    (na_Gr_width : PySem.W.findIn K (.ref Gr) "width" = some none)
    (a_ginit : PySem.W.findIn K (.ref Gr) "__init__" = some (some (.ref f_ginit)))
    (i_ginit : PySem.W.isFn K (.ref f_ginit) = true)
    (l_ginit : K.lookup f_ginit = some ⟨oc_ginit, od_ginit, .func (PySem.W.fnOf "__init__" "Grid.__init__" (defArgs S_ginit) (defBody S_ginit) (defScope S_ginit) (.ref T_ginit) kV_ginit dc_ginit pm_ginit an_ginit cd_ginit ct_ginit), sl_ginit⟩)
    (lT_ginit : K.lookup T_ginit = some ⟨oT_ginit, dT_ginit, .seq #[Value.int 1 tT_ginit] nT_ginit, sT_ginit⟩)
    (c_ginit : PySem.W.codeIn K cd_ginit "Grid.__init__" = true)
    (k_ginit : PySem.W.keepIn K (.ref f_ginit) = true)
    (tyG : PySem.W.typeIn K (.ref Gr) = some (.type "type"))
    (s0aG : PySem.W.subIn K (.type "int") (.ref Gr) = some false)
    (s0bG : PySem.W.subIn K (.ref Gr) (.type "int") = some false)
    (s1aG : PySem.W.subIn K (.type "str") (.ref Gr) = some false)
    (s1bG : PySem.W.subIn K (.ref Gr) (.type "str") = some false)
    (s2aG : PySem.W.subIn K (.type "NoneType") (.ref Gr) = some false)
    (s2bG : PySem.W.subIn K (.ref Gr) (.type "NoneType") = some false)
    (s3aG : PySem.W.subIn K (.type "tuple") (.ref Gr) = some false)
    (s3bG : PySem.W.subIn K (.ref Gr) (.type "tuple") = some false)
    (s4aG : PySem.W.subIn K (.type "list") (.ref Gr) = some false)
    (s4bG : PySem.W.subIn K (.ref Gr) (.type "list") = some false)
    (rdGr : PySem.W.readsIn K Gr (.type "type") = true)
    (gaGr : PySem.W.specialIn K (.ref Gr) "__getattribute__" = some (some (.builtin "type.__getattribute__")))
    (z_len : PySem.W.nsIn K mainGlobals "len" = some none)
    (z_abs : PySem.W.nsIn K mainGlobals "abs" = some none)
    (z_int : PySem.W.nsIn K mainGlobals "int" = some none)
    (z_bool : PySem.W.nsIn K mainGlobals "bool" = some none)
    (z_isinstance : PySem.W.nsIn K mainGlobals "isinstance" = some none)
    (z_range : PySem.W.nsIn K mainGlobals "range" = some none)
    (z_ValueError : PySem.W.nsIn K mainGlobals "ValueError" = some none)
    (z_list : PySem.W.nsIn K mainGlobals "list" = some none)
    (z_sum : PySem.W.nsIn K mainGlobals "sum" = some none)
    (z_zip : PySem.W.nsIn K mainGlobals "zip" = some none)
    (z_tuple : PySem.W.nsIn K mainGlobals "tuple" = some none)
    (z_all : PySem.W.nsIn K mainGlobals "all" = some none)
    (a_cbot : PySem.W.nsIn K mainGlobals "common_bottom" = some (some (.ref f_cbot)))
    (l_cbot : K.lookup f_cbot = some ⟨oc_cbot, od_cbot, .func (PySem.W.fnOf "common_bottom" "common_bottom" (defArgs S_cbot) (defBody S_cbot) (defScope S_cbot) .none kV_cbot dc_cbot pm_cbot an_cbot cd_cbot ct_cbot), sl_cbot⟩)
    (c_cbot : PySem.W.codeIn K cd_cbot "common_bottom" = true)
    (k_cbot : PySem.W.keepIn K (.ref f_cbot) = true)
    (a_oob : PySem.W.findIn K (.ref O) "__init__" = some (some (.ref f_oob)))
    (i_oob : PySem.W.isFn K (.ref f_oob) = true)
    (l_oob : K.lookup f_oob = some ⟨oc_oob, od_oob, .func (PySem.W.fnOf "__init__" "OutOfBounds.__init__" (defArgs S_oob) (defBody S_oob) (defScope S_oob) .none kV_oob dc_oob pm_oob an_oob cd_oob ct_oob), sl_oob⟩)
    (c_oob : PySem.W.codeIn K cd_oob "OutOfBounds.__init__" = true)
    (k_oob : PySem.W.keepIn K (.ref f_oob) = true)
    (a_bpl : PySem.W.findIn K (.ref P) "__init__" = some (some (.ref f_bpl)))
    (i_bpl : PySem.W.isFn K (.ref f_bpl) = true)
    (l_bpl : K.lookup f_bpl = some ⟨oc_bpl, od_bpl, .func (PySem.W.fnOf "__init__" "BadPlace.__init__" (defArgs S_bpl) (defBody S_bpl) (defScope S_bpl) .none kV_bpl dc_bpl pm_bpl an_bpl cd_bpl ct_bpl), sl_bpl⟩)
    (c_bpl : PySem.W.codeIn K cd_bpl "BadPlace.__init__" = true)
    (k_bpl : PySem.W.keepIn K (.ref f_bpl) = true)
    (a_dot : PySem.W.nsIn K mainGlobals "dot" = some (some (.ref f_dot)))
    (l_dot : K.lookup f_dot = some ⟨oc_dot, od_dot, .func (PySem.W.fnOf "dot" "dot" (defArgs S_dot) (defBody S_dot) (defScope S_dot) .none kV_dot dc_dot pm_dot an_dot cd_dot ct_dot), sl_dot⟩)
    (c_dot : PySem.W.codeIn K cd_dot "dot" = true)
    (k_dot : PySem.W.keepIn K (.ref f_dot) = true)
    (a_trows : PySem.W.nsIn K mainGlobals "turned_rows" = some (some (.ref f_trows)))
    (l_trows : K.lookup f_trows = some ⟨oc_trows, od_trows, .func (PySem.W.fnOf "turned_rows" "turned_rows" (defArgs S_trows) (defBody S_trows) (defScope S_trows) .none kV_trows dc_trows pm_trows an_trows cd_trows ct_trows), sl_trows⟩)
    (c_trows : PySem.W.codeIn K cd_trows "turned_rows" = true)
    (k_trows : PySem.W.keepIn K (.ref f_trows) = true)
    (a_cdiv : PySem.W.nsIn K mainGlobals "common_divisor" = some (some (.ref f_cdiv)))
    (l_cdiv : K.lookup f_cdiv = some ⟨oc_cdiv, od_cdiv, .func (PySem.W.fnOf "common_divisor" "common_divisor" (defArgs S_cdiv) (defBody S_cdiv) (defScope S_cdiv) .none kV_cdiv dc_cdiv pm_cdiv an_cdiv cd_cdiv ct_cdiv), sl_cdiv⟩)
    (c_cdiv : PySem.W.codeIn K cd_cdiv "common_divisor" = true)
    (k_cdiv : PySem.W.keepIn K (.ref f_cdiv) = true)
    (a_gof : PySem.W.findCls K (.ref Gr) (.type "type") "of" = some (.get (.builtin "classmethod.__get__") (.ref p_gof) .none (.ref Gr)))
    (i_gof : PySem.W.recIn K p_gof "classmethod" = some (.ref f_gof :: rest_gof))
    (fi_gof : PySem.W.fnIn K f_gof = true)
    (l_gof : K.lookup f_gof = some ⟨oc_gof, od_gof, .func (PySem.W.fnOf "of" "Grid.of" (defArgs S_gof) (defBody S_gof) (defScope S_gof) .none kV_gof dc_gof pm_gof an_gof cd_gof ct_gof), sl_gof⟩)
    (c_gof : PySem.W.codeIn K cd_gof "Grid.of" = true)
    (k_gof : PySem.W.keepIn K (.ref f_gof) = true)
    (a_gunit : PySem.W.findCls K (.ref Gr) (.type "type") "unit" = some (.get (.builtin "staticmethod.__get__") (.ref p_gunit) .none (.ref Gr)))
    (i_gunit : PySem.W.recIn K p_gunit "staticmethod" = some (.ref f_gunit :: rest_gunit))
    (l_gunit : K.lookup f_gunit = some ⟨oc_gunit, od_gunit, .func (PySem.W.fnOf "unit" "Grid.unit" (defArgs S_gunit) (defBody S_gunit) (defScope S_gunit) .none kV_gunit dc_gunit pm_gunit an_gunit cd_gunit ct_gunit), sl_gunit⟩)
    (c_gunit : PySem.W.codeIn K cd_gunit "Grid.unit" = true)
    (k_gunit : PySem.W.keepIn K (.ref f_gunit) = true)
    (a_geq : PySem.W.findIn K (.ref Gr) "__eq__" = some (some (.ref f_geq)))
    (i_geq : PySem.W.isFn K (.ref f_geq) = true)
    (l_geq : K.lookup f_geq = some ⟨oc_geq, od_geq, .func (PySem.W.fnOf "__eq__" "Grid.__eq__" (defArgs S_geq) (defBody S_geq) (defScope S_geq) .none kV_geq dc_geq pm_geq an_geq cd_geq ct_geq), sl_geq⟩)
    (c_geq : PySem.W.codeIn K cd_geq "Grid.__eq__" = true)
    (k_geq : PySem.W.keepIn K (.ref f_geq) = true)
    (a_gget : PySem.W.findIn K (.ref Gr) "__getitem__" = some (some (.ref f_gget)))
    (i_gget : PySem.W.isFn K (.ref f_gget) = true)
    (l_gget : K.lookup f_gget = some ⟨oc_gget, od_gget, .func (PySem.W.fnOf "__getitem__" "Grid.__getitem__" (defArgs S_gget) (defBody S_gget) (defScope S_gget) .none kV_gget dc_gget pm_gget an_gget cd_gget ct_gget), sl_gget⟩)
    (c_gget : PySem.W.codeIn K cd_gget "Grid.__getitem__" = true)
    (k_gget : PySem.W.keepIn K (.ref f_gget) = true)
    (fi_gget : PySem.W.fnIn K f_gget = true)
    (a_gscaled : PySem.W.findIn K (.ref Gr) "scaled" = some (some (.ref f_gscaled)))
    (i_gscaled : PySem.W.isFn K (.ref f_gscaled) = true)
    (l_gscaled : K.lookup f_gscaled = some ⟨oc_gscaled, od_gscaled, .func (PySem.W.fnOf "scaled" "Grid.scaled" (defArgs S_gscaled) (defBody S_gscaled) (defScope S_gscaled) .none kV_gscaled dc_gscaled pm_gscaled an_gscaled cd_gscaled ct_gscaled), sl_gscaled⟩)
    (c_gscaled : PySem.W.codeIn K cd_gscaled "Grid.scaled" = true)
    (k_gscaled : PySem.W.keepIn K (.ref f_gscaled) = true)
    (a_gturned : PySem.W.findIn K (.ref Gr) "turned" = some (some (.ref f_gturned)))
    (i_gturned : PySem.W.isFn K (.ref f_gturned) = true)
    (l_gturned : K.lookup f_gturned = some ⟨oc_gturned, od_gturned, .func (PySem.W.fnOf "turned" "Grid.turned" (defArgs S_gturned) (defBody S_gturned) (defScope S_gturned) .none kV_gturned dc_gturned pm_gturned an_gturned cd_gturned ct_gturned), sl_gturned⟩)
    (c_gturned : PySem.W.codeIn K cd_gturned "Grid.turned" = true)
    (k_gturned : PySem.W.keepIn K (.ref f_gturned) = true)
    (a_gpart : PySem.W.findIn K (.ref Gr) "part" = some (some (.ref f_gpart)))
    (i_gpart : PySem.W.isFn K (.ref f_gpart) = true)
    (l_gpart : K.lookup f_gpart = some ⟨oc_gpart, od_gpart, .func (PySem.W.fnOf "part" "Grid.part" (defArgs S_gpart) (defBody S_gpart) (defScope S_gpart) .none kV_gpart dc_gpart pm_gpart an_gpart cd_gpart ct_gpart), sl_gpart⟩)
    (c_gpart : PySem.W.codeIn K cd_gpart "Grid.part" = true)
    (k_gpart : PySem.W.keepIn K (.ref f_gpart) = true)
    (a_gform : PySem.W.findIn K (.ref Gr) "form" = some (some (.ref f_gform)))
    (i_gform : PySem.W.isFn K (.ref f_gform) = true)
    (l_gform : K.lookup f_gform = some ⟨oc_gform, od_gform, .func (PySem.W.fnOf "form" "Grid.form" (defArgs S_gform) (defBody S_gform) (defScope S_gform) .none kV_gform dc_gform pm_gform an_gform cd_gform ct_gform), sl_gform⟩)
    (c_gform : PySem.W.codeIn K cd_gform "Grid.form" = true)
    (k_gform : PySem.W.keepIn K (.ref f_gform) = true)
    (a_gtrace : PySem.W.findIn K (.ref Gr) "trace" = some (some (.ref f_gtrace)))
    (i_gtrace : PySem.W.isFn K (.ref f_gtrace) = true)
    (l_gtrace : K.lookup f_gtrace = some ⟨oc_gtrace, od_gtrace, .func (PySem.W.fnOf "trace" "Grid.trace" (defArgs S_gtrace) (defBody S_gtrace) (defScope S_gtrace) .none kV_gtrace dc_gtrace pm_gtrace an_gtrace cd_gtrace ct_gtrace), sl_gtrace⟩)
    (c_gtrace : PySem.W.codeIn K cd_gtrace "Grid.trace" = true)
    (k_gtrace : PySem.W.keepIn K (.ref f_gtrace) = true)
    (a_cshape : PySem.W.nsIn K mainGlobals "_check_shape" = some (some (.ref f_cshape)))
    (l_cshape : K.lookup f_cshape = some ⟨oc_cshape, od_cshape, .func (PySem.W.fnOf "_check_shape" "_check_shape" (defArgs S_cshape) (defBody S_cshape) (defScope S_cshape) .none kV_cshape dc_cshape pm_cshape an_cshape cd_cshape ct_cshape), sl_cshape⟩)
    (c_cshape : PySem.W.codeIn K cd_cshape "_check_shape" = true)
    (k_cshape : PySem.W.keepIn K (.ref f_cshape) = true)
    (a_cplaces : PySem.W.nsIn K mainGlobals "_check_places" = some (some (.ref f_cplaces)))
    (l_cplaces : K.lookup f_cplaces = some ⟨oc_cplaces, od_cplaces, .func (PySem.W.fnOf "_check_places" "_check_places" (defArgs S_cplaces) (defBody S_cplaces) (defScope S_cplaces) .none kV_cplaces dc_cplaces pm_cplaces an_cplaces cd_cplaces ct_cplaces), sl_cplaces⟩)
    (c_cplaces : PySem.W.codeIn K cd_cplaces "_check_places" = true)
    (k_cplaces : PySem.W.keepIn K (.ref f_cplaces) = true)
    (a_shared : PySem.W.nsIn K mainGlobals "_shared_divisor" = some (some (.ref f_shared)))
    (l_shared : K.lookup f_shared = some ⟨oc_shared, od_shared, .func (PySem.W.fnOf "_shared_divisor" "_shared_divisor" (defArgs S_shared) (defBody S_shared) (defScope S_shared) .none kV_shared dc_shared pm_shared an_shared cd_shared ct_shared), sl_shared⟩)
    (c_shared : PySem.W.codeIn K cd_shared "_shared_divisor" = true)
    (k_shared : PySem.W.keepIn K (.ref f_shared) = true)
    (a_start : PySem.W.nsIn K mainGlobals "_law_start" = some (some (.ref f_start)))
    (l_start : K.lookup f_start = some ⟨oc_start, od_start, .func (PySem.W.fnOf "_law_start" "_law_start" (defArgs S_start) (defBody S_start) (defScope S_start) .none kV_start dc_start pm_start an_start cd_start ct_start), sl_start⟩)
    (c_start : PySem.W.codeIn K cd_start "_law_start" = true)
    (k_start : PySem.W.keepIn K (.ref f_start) = true)
    (a_digit : PySem.W.nsIn K mainGlobals "_law_digit" = some (some (.ref f_digit)))
    (l_digit : K.lookup f_digit = some ⟨oc_digit, od_digit, .func (PySem.W.fnOf "_law_digit" "_law_digit" (defArgs S_digit) (defBody S_digit) (defScope S_digit) .none kV_digit dc_digit pm_digit an_digit cd_digit ct_digit), sl_digit⟩)
    (c_digit : PySem.W.codeIn K cd_digit "_law_digit" = true)
    (k_digit : PySem.W.keepIn K (.ref f_digit) = true)
    (a_lcommon : PySem.W.nsIn K mainGlobals "_law_common" = some (some (.ref f_lcommon)))
    (l_lcommon : K.lookup f_lcommon = some ⟨oc_lcommon, od_lcommon, .func (PySem.W.fnOf "_law_common" "_law_common" (defArgs S_lcommon) (defBody S_lcommon) (defScope S_lcommon) .none kV_lcommon dc_lcommon pm_lcommon an_lcommon cd_lcommon ct_lcommon), sl_lcommon⟩)
    (c_lcommon : PySem.W.codeIn K cd_lcommon "_law_common" = true)
    (k_lcommon : PySem.W.keepIn K (.ref f_lcommon) = true)
    (a_number : PySem.W.nsIn K mainGlobals "_law_number" = some (some (.ref f_number)))
    (l_number : K.lookup f_number = some ⟨oc_number, od_number, .func (PySem.W.fnOf "_law_number" "_law_number" (defArgs S_number) (defBody S_number) (defScope S_number) .none kV_number dc_number pm_number an_number cd_number ct_number), sl_number⟩)
    (c_number : PySem.W.codeIn K cd_number "_law_number" = true)
    (k_number : PySem.W.keepIn K (.ref f_number) = true)
    (a_cells : PySem.W.nsIn K mainGlobals "_law_cells" = some (some (.ref f_cells)))
    (l_cells : K.lookup f_cells = some ⟨oc_cells, od_cells, .func (PySem.W.fnOf "_law_cells" "_law_cells" (defArgs S_cells) (defBody S_cells) (defScope S_cells) .none kV_cells dc_cells pm_cells an_cells cd_cells ct_cells), sl_cells⟩)
    (c_cells : PySem.W.codeIn K cd_cells "_law_cells" = true)
    (k_cells : PySem.W.keepIn K (.ref f_cells) = true)
    (a_wide : PySem.W.nsIn K mainGlobals "_law_wide" = some (some (.ref f_wide)))
    (l_wide : K.lookup f_wide = some ⟨oc_wide, od_wide, .func (PySem.W.fnOf "_law_wide" "_law_wide" (defArgs S_wide) (defBody S_wide) (defScope S_wide) .none kV_wide dc_wide pm_wide an_wide cd_wide ct_wide), sl_wide⟩)
    (c_wide : PySem.W.codeIn K cd_wide "_law_wide" = true)
    (k_wide : PySem.W.keepIn K (.ref f_wide) = true)
    (a_copy : PySem.W.nsIn K mainGlobals "_law_copy" = some (some (.ref f_copy)))
    (l_copy : K.lookup f_copy = some ⟨oc_copy, od_copy, .func (PySem.W.fnOf "_law_copy" "_law_copy" (defArgs S_copy) (defBody S_copy) (defScope S_copy) .none kV_copy dc_copy pm_copy an_copy cd_copy ct_copy), sl_copy⟩)
    (c_copy : PySem.W.codeIn K cd_copy "_law_copy" = true)
    (k_copy : PySem.W.keepIn K (.ref f_copy) = true)
    (a_whole : PySem.W.nsIn K mainGlobals "_law_whole" = some (some (.ref f_whole)))
    (l_whole : K.lookup f_whole = some ⟨oc_whole, od_whole, .func (PySem.W.fnOf "_law_whole" "_law_whole" (defArgs S_whole) (defBody S_whole) (defScope S_whole) .none kV_whole dc_whole pm_whole an_whole cd_whole ct_whole), sl_whole⟩)
    (c_whole : PySem.W.codeIn K cd_whole "_law_whole" = true)
    (k_whole : PySem.W.keepIn K (.ref f_whole) = true)
    (a_isratio : PySem.W.nsIn K mainGlobals "_law_is_ratio" = some (some (.ref f_isratio)))
    (l_isratio : K.lookup f_isratio = some ⟨oc_isratio, od_isratio, .func (PySem.W.fnOf "_law_is_ratio" "_law_is_ratio" (defArgs S_isratio) (defBody S_isratio) (defScope S_isratio) .none kV_isratio dc_isratio pm_isratio an_isratio cd_isratio ct_isratio), sl_isratio⟩)
    (c_isratio : PySem.W.codeIn K cd_isratio "_law_is_ratio" = true)
    (k_isratio : PySem.W.keepIn K (.ref f_isratio) = true)
    (a_lis : PySem.W.nsIn K mainGlobals "_law_is" = some (some (.ref f_lis)))
    (l_lis : K.lookup f_lis = some ⟨oc_lis, od_lis, .func (PySem.W.fnOf "_law_is" "_law_is" (defArgs S_lis) (defBody S_lis) (defScope S_lis) .none kV_lis dc_lis pm_lis an_lis cd_lis ct_lis), sl_lis⟩)
    (c_lis : PySem.W.codeIn K cd_lis "_law_is" = true)
    (k_lis : PySem.W.keepIn K (.ref f_lis) = true)
    (a_badshape : PySem.W.nsIn K mainGlobals "_law_bad_shape" = some (some (.ref f_badshape)))
    (l_badshape : K.lookup f_badshape = some ⟨oc_badshape, od_badshape, .func (PySem.W.fnOf "_law_bad_shape" "_law_bad_shape" (defArgs S_badshape) (defBody S_badshape) (defScope S_badshape) .none kV_badshape dc_badshape pm_badshape an_badshape cd_badshape ct_badshape), sl_badshape⟩)
    (c_badshape : PySem.W.codeIn K cd_badshape "_law_bad_shape" = true)
    (k_badshape : PySem.W.keepIn K (.ref f_badshape) = true)
    (a_badover : PySem.W.nsIn K mainGlobals "_law_bad_over" = some (some (.ref f_badover)))
    (l_badover : K.lookup f_badover = some ⟨oc_badover, od_badover, .func (PySem.W.fnOf "_law_bad_over" "_law_bad_over" (defArgs S_badover) (defBody S_badover) (defScope S_badover) .none kV_badover dc_badover pm_badover an_badover cd_badover ct_badover), sl_badover⟩)
    (c_badover : PySem.W.codeIn K cd_badover "_law_bad_over" = true)
    (k_badover : PySem.W.keepIn K (.ref f_badover) = true)
    (a_noentry : PySem.W.nsIn K mainGlobals "_law_no_entry" = some (some (.ref f_noentry)))
    (l_noentry : K.lookup f_noentry = some ⟨oc_noentry, od_noentry, .func (PySem.W.fnOf "_law_no_entry" "_law_no_entry" (defArgs S_noentry) (defBody S_noentry) (defScope S_noentry) .none kV_noentry dc_noentry pm_noentry an_noentry cd_noentry ct_noentry), sl_noentry⟩)
    (c_noentry : PySem.W.codeIn K cd_noentry "_law_no_entry" = true)
    (k_noentry : PySem.W.keepIn K (.ref f_noentry) = true)
    (a_badplace : PySem.W.nsIn K mainGlobals "_law_bad_place" = some (some (.ref f_badplace)))
    (l_badplace : K.lookup f_badplace = some ⟨oc_badplace, od_badplace, .func (PySem.W.fnOf "_law_bad_place" "_law_bad_place" (defArgs S_badplace) (defBody S_badplace) (defScope S_badplace) .none kV_badplace dc_badplace pm_badplace an_badplace cd_badplace ct_badplace), sl_badplace⟩)
    (c_badplace : PySem.W.codeIn K cd_badplace "_law_bad_place" = true)
    (k_badplace : PySem.W.keepIn K (.ref f_badplace) = true)
    (a_made : PySem.W.nsIn K mainGlobals "_law_made" = some (some (.ref f_made)))
    (l_made : K.lookup f_made = some ⟨oc_made, od_made, .func (PySem.W.fnOf "_law_made" "_law_made" (defArgs S_made) (defBody S_made) (defScope S_made) .none kV_made dc_made pm_made an_made cd_made ct_made), sl_made⟩)
    (c_made : PySem.W.codeIn K cd_made "_law_made" = true)
    (k_made : PySem.W.keepIn K (.ref f_made) = true)
    (a_mixed : PySem.W.nsIn K mainGlobals "_law_mixed" = some (some (.ref f_mixed)))
    (l_mixed : K.lookup f_mixed = some ⟨oc_mixed, od_mixed, .func (PySem.W.fnOf "_law_mixed" "_law_mixed" (defArgs S_mixed) (defBody S_mixed) (defScope S_mixed) .none kV_mixed dc_mixed pm_mixed an_mixed cd_mixed ct_mixed), sl_mixed⟩)
    (c_mixed : PySem.W.codeIn K cd_mixed "_law_mixed" = true)
    (k_mixed : PySem.W.keepIn K (.ref f_mixed) = true)
    (a_entries : PySem.W.nsIn K mainGlobals "_law_entries" = some (some (.ref f_entries)))
    (l_entries : K.lookup f_entries = some ⟨oc_entries, od_entries, .func (PySem.W.fnOf "_law_entries" "_law_entries" (defArgs S_entries) (defBody S_entries) (defScope S_entries) .none kV_entries dc_entries pm_entries an_entries cd_entries ct_entries), sl_entries⟩)
    (c_entries : PySem.W.codeIn K cd_entries "_law_entries" = true)
    (k_entries : PySem.W.keepIn K (.ref f_entries) = true)
    (a_places : PySem.W.nsIn K mainGlobals "_law_places" = some (some (.ref f_places)))
    (l_places : K.lookup f_places = some ⟨oc_places, od_places, .func (PySem.W.fnOf "_law_places" "_law_places" (defArgs S_places) (defBody S_places) (defScope S_places) .none kV_places dc_places pm_places an_places cd_places ct_places), sl_places⟩)
    (c_places : PySem.W.codeIn K cd_places "_law_places" = true)
    (k_places : PySem.W.keepIn K (.ref f_places) = true)
    (a_outside : PySem.W.nsIn K mainGlobals "_law_outside" = some (some (.ref f_outside)))
    (l_outside : K.lookup f_outside = some ⟨oc_outside, od_outside, .func (PySem.W.fnOf "_law_outside" "_law_outside" (defArgs S_outside) (defBody S_outside) (defScope S_outside) .none kV_outside dc_outside pm_outside an_outside cd_outside ct_outside), sl_outside⟩)
    (c_outside : PySem.W.codeIn K cd_outside "_law_outside" = true)
    (k_outside : PySem.W.keepIn K (.ref f_outside) = true)
    (a_parts : PySem.W.nsIn K mainGlobals "_law_parts" = some (some (.ref f_parts)))
    (l_parts : K.lookup f_parts = some ⟨oc_parts, od_parts, .func (PySem.W.fnOf "_law_parts" "_law_parts" (defArgs S_parts) (defBody S_parts) (defScope S_parts) .none kV_parts dc_parts pm_parts an_parts cd_parts ct_parts), sl_parts⟩)
    (c_parts : PySem.W.codeIn K cd_parts "_law_parts" = true)
    (k_parts : PySem.W.keepIn K (.ref f_parts) = true)
    (a_sums : PySem.W.nsIn K mainGlobals "_law_sums" = some (some (.ref f_sums)))
    (l_sums : K.lookup f_sums = some ⟨oc_sums, od_sums, .func (PySem.W.fnOf "_law_sums" "_law_sums" (defArgs S_sums) (defBody S_sums) (defScope S_sums) .none kV_sums dc_sums pm_sums an_sums cd_sums ct_sums), sl_sums⟩)
    (c_sums : PySem.W.codeIn K cd_sums "_law_sums" = true)
    (k_sums : PySem.W.keepIn K (.ref f_sums) = true)
    (a_changed : PySem.W.nsIn K mainGlobals "_law_changed" = some (some (.ref f_changed)))
    (l_changed : K.lookup f_changed = some ⟨oc_changed, od_changed, .func (PySem.W.fnOf "_law_changed" "_law_changed" (defArgs S_changed) (defBody S_changed) (defScope S_changed) .none kV_changed dc_changed pm_changed an_changed cd_changed ct_changed), sl_changed⟩)
    (c_changed : PySem.W.codeIn K cd_changed "_law_changed" = true)
    (k_changed : PySem.W.keepIn K (.ref f_changed) = true)
    (a_refused : PySem.W.nsIn K mainGlobals "_law_refused" = some (some (.ref f_refused)))
    (l_refused : K.lookup f_refused = some ⟨oc_refused, od_refused, .func (PySem.W.fnOf "_law_refused" "_law_refused" (defArgs S_refused) (defBody S_refused) (defScope S_refused) .none kV_refused dc_refused pm_refused an_refused cd_refused ct_refused), sl_refused⟩)
    (c_refused : PySem.W.codeIn K cd_refused "_law_refused" = true)
    (k_refused : PySem.W.keepIn K (.ref f_refused) = true)
    (a_units : PySem.W.nsIn K mainGlobals "_law_units" = some (some (.ref f_units)))
    (l_units : K.lookup f_units = some ⟨oc_units, od_units, .func (PySem.W.fnOf "_law_units" "_law_units" (defArgs S_units) (defBody S_units) (defScope S_units) .none kV_units dc_units pm_units an_units cd_units ct_units), sl_units⟩)
    (c_units : PySem.W.codeIn K cd_units "_law_units" = true)
    (k_units : PySem.W.keepIn K (.ref f_units) = true)
    (a_law : PySem.W.nsIn K mainGlobals "law" = some (some (.ref f_law)))
    (l_law : K.lookup f_law = some ⟨oc_law, od_law, .func (PySem.W.fnOf "law" "law" (defArgs S_law) (defBody S_law) (defScope S_law) .none kV_law dc_law pm_law an_law cd_law ct_law), sl_law⟩)
    (c_law : PySem.W.codeIn K cd_law "law" = true)
    (k_law : PySem.W.keepIn K (.ref f_law) = true) :
    ∃ fd : FuncData, (∀ (s : Shared) (v : Value), BindsTo s fd ⟨[v], []⟩ [("script", v)]) ∧ ∀ base : Heap, K.In base → base.Ns mainGlobals mg → FnOk l.prog w K mg base CX0 9 fa fd ["script"] (spLaw K) := by
  have e := hfa.symm.trans (PySem.W.mg_of X G a_law)
  cases e
  have F_cbot := fun_mk (st := S_cbot) l_cbot c_cbot k_cbot
  have b_cbot := F_cbot.binds (ps := ["ratios"]) fun _ _ _ _ _ _ us hl => match us, hl with | [_], _ => rfl
  have F_oob := fun_mk (st := S_oob) l_oob c_oob k_oob
  have b_oob := F_oob.binds (ps := ["self", "value"]) fun _ _ _ _ _ _ us hl => match us, hl with | [_, _], _ => rfl
  have F_bpl := fun_mk (st := S_bpl) l_bpl c_bpl k_bpl
  have b_bpl := F_bpl.binds (ps := ["self", "place"]) fun _ _ _ _ _ _ us hl => match us, hl with | [_, _], _ => rfl
  have F_dot := fun_mk (st := S_dot) l_dot c_dot k_dot
  have b_dot := F_dot.binds (ps := ["left", "right"]) fun _ _ _ _ _ _ us hl => match us, hl with | [_, _], _ => rfl
  have F_trows := fun_mk (st := S_trows) l_trows c_trows k_trows
  have b_trows := F_trows.binds (ps := ["rows", "width"]) fun _ _ _ _ _ _ us hl => match us, hl with | [_, _], _ => rfl
  have F_cdiv := fun_mk (st := S_cdiv) l_cdiv c_cdiv k_cdiv
  have b_cdiv := F_cdiv.binds (ps := ["row"]) fun _ _ _ _ _ _ us hl => match us, hl with | [_], _ => rfl
  have F_gof := fun_mk (st := S_gof) l_gof c_gof k_gof
  have b_gof := F_gof.binds (ps := ["cls", "ratios"]) fun _ _ _ _ _ _ us hl => match us, hl with | [_, _], _ => rfl
  have F_gunit := fun_mk (st := S_gunit) l_gunit c_gunit k_gunit
  have b_gunit := F_gunit.binds (ps := ["size"]) fun _ _ _ _ _ _ us hl => match us, hl with | [_], _ => rfl
  have F_geq := fun_mk (st := S_geq) l_geq c_geq k_geq
  have b_geq := F_geq.binds (ps := ["self", "other"]) fun _ _ _ _ _ _ us hl => match us, hl with | [_, _], _ => rfl
  have F_gget := fun_mk (st := S_gget) l_gget c_gget k_gget
  have b_gget := F_gget.binds (ps := ["self", "at"]) fun _ _ _ _ _ _ us hl => match us, hl with | [_, _], _ => rfl
  have F_gscaled := fun_mk (st := S_gscaled) l_gscaled c_gscaled k_gscaled
  have b_gscaled := F_gscaled.binds (ps := ["self", "ratio"]) fun _ _ _ _ _ _ us hl => match us, hl with | [_, _], _ => rfl
  have F_gturned := fun_mk (st := S_gturned) l_gturned c_gturned k_gturned
  have b_gturned := F_gturned.binds (ps := ["self"]) fun _ _ _ _ _ _ us hl => match us, hl with | [_], _ => rfl
  have F_gpart := fun_mk (st := S_gpart) l_gpart c_gpart k_gpart
  have b_gpart := F_gpart.binds (ps := ["self", "row_places", "column_places"]) fun _ _ _ _ _ _ us hl => match us, hl with | [_, _, _], _ => rfl
  have F_gform := fun_mk (st := S_gform) l_gform c_gform k_gform
  have b_gform := F_gform.binds (ps := ["self", "left", "right"]) fun _ _ _ _ _ _ us hl => match us, hl with | [_, _, _], _ => rfl
  have F_gtrace := fun_mk (st := S_gtrace) l_gtrace c_gtrace k_gtrace
  have b_gtrace := F_gtrace.binds (ps := ["self"]) fun _ _ _ _ _ _ us hl => match us, hl with | [_], _ => rfl
  have F_cshape := fun_mk (st := S_cshape) l_cshape c_cshape k_cshape
  have b_cshape := F_cshape.binds (ps := ["rows"]) fun _ _ _ _ _ _ us hl => match us, hl with | [_], _ => rfl
  have F_cplaces := fun_mk (st := S_cplaces) l_cplaces c_cplaces k_cplaces
  have b_cplaces := F_cplaces.binds (ps := ["places", "many"]) fun _ _ _ _ _ _ us hl => match us, hl with | [_, _], _ => rfl
  have F_shared := fun_mk (st := S_shared) l_shared c_shared k_shared
  have b_shared := F_shared.binds (ps := ["rows", "over"]) fun _ _ _ _ _ _ us hl => match us, hl with | [_, _], _ => rfl
  have F_start := fun_mk (st := S_start) l_start c_start k_start
  have b_start := F_start.binds (ps := ["script"]) fun _ _ _ _ _ _ us hl => match us, hl with | [_], _ => rfl
  have F_digit := fun_mk (st := S_digit) l_digit c_digit k_digit
  have b_digit := F_digit.binds (ps := ["pot", "many"]) fun _ _ _ _ _ _ us hl => match us, hl with | [_, _], _ => rfl
  have F_lcommon := fun_mk (st := S_lcommon) l_lcommon c_lcommon k_lcommon
  have b_lcommon := F_lcommon.binds (ps := ["u", "v"]) fun _ _ _ _ _ _ us hl => match us, hl with | [_, _], _ => rfl
  have F_number := fun_mk (st := S_number) l_number c_number k_number
  have b_number := F_number.binds (ps := ["pot", "many", "shift"]) fun _ _ _ _ _ _ us hl => match us, hl with | [_, _, _], _ => rfl
  have F_cells := fun_mk (st := S_cells) l_cells c_cells k_cells
  have b_cells := F_cells.binds (ps := ["pot", "height", "width"]) fun _ _ _ _ _ _ us hl => match us, hl with | [_, _, _], _ => rfl
  have F_wide := fun_mk (st := S_wide) l_wide c_wide k_wide
  have b_wide := F_wide.binds (ps := ["rows"]) fun _ _ _ _ _ _ us hl => match us, hl with | [_], _ => rfl
  have F_copy := fun_mk (st := S_copy) l_copy c_copy k_copy
  have b_copy := F_copy.binds (ps := ["rows"]) fun _ _ _ _ _ _ us hl => match us, hl with | [_], _ => rfl
  have F_whole := fun_mk (st := S_whole) l_whole c_whole k_whole
  have b_whole := F_whole.binds (ps := ["told"]) fun _ _ _ _ _ _ us hl => match us, hl with | [_], _ => rfl
  have F_isratio := fun_mk (st := S_isratio) l_isratio c_isratio k_isratio
  have b_isratio := F_isratio.binds (ps := ["told", "top", "bottom"]) fun _ _ _ _ _ _ us hl => match us, hl with | [_, _, _], _ => rfl
  have F_lis := fun_mk (st := S_lis) l_lis c_lis k_lis
  have b_lis := F_lis.binds (ps := ["told", "rows", "over"]) fun _ _ _ _ _ _ us hl => match us, hl with | [_, _, _], _ => rfl
  have F_badshape := fun_mk (st := S_badshape) l_badshape c_badshape k_badshape
  have b_badshape := F_badshape.binds (ps := ["way", "a", "first", "second"]) fun _ _ _ _ _ _ us hl => match us, hl with | [_, _, _, _], _ => rfl
  have F_badover := fun_mk (st := S_badover) l_badover c_badover k_badover
  have b_badover := F_badover.binds (ps := ["rows", "over"]) fun _ _ _ _ _ _ us hl => match us, hl with | [_, _], _ => rfl
  have F_noentry := fun_mk (st := S_noentry) l_noentry c_noentry k_noentry
  have b_noentry := F_noentry.binds (ps := ["a", "i", "j"]) fun _ _ _ _ _ _ us hl => match us, hl with | [_, _, _], _ => rfl
  have F_badplace := fun_mk (st := S_badplace) l_badplace c_badplace k_badplace
  have b_badplace := F_badplace.binds (ps := ["a", "up", "across", "place"]) fun _ _ _ _ _ _ us hl => match us, hl with | [_, _, _, _], _ => rfl
  have F_made := fun_mk (st := S_made) l_made c_made k_made
  have b_made := F_made.binds (ps := ["pot", "rows", "over"]) fun _ _ _ _ _ _ us hl => match us, hl with | [_, _, _], _ => rfl
  have F_mixed := fun_mk (st := S_mixed) l_mixed c_mixed k_mixed
  have b_mixed := F_mixed.binds (ps := ["pot", "rows"]) fun _ _ _ _ _ _ us hl => match us, hl with | [_, _], _ => rfl
  have F_entries := fun_mk (st := S_entries) l_entries c_entries k_entries
  have b_entries := F_entries.binds (ps := ["a", "rows", "over"]) fun _ _ _ _ _ _ us hl => match us, hl with | [_, _, _], _ => rfl
  have F_places := fun_mk (st := S_places) l_places c_places k_places
  have b_places := F_places.binds (ps := ["pot", "size"]) fun _ _ _ _ _ _ us hl => match us, hl with | [_, _], _ => rfl
  have F_outside := fun_mk (st := S_outside) l_outside c_outside k_outside
  have b_outside := F_outside.binds (ps := ["pot", "size"]) fun _ _ _ _ _ _ us hl => match us, hl with | [_, _], _ => rfl
  have F_parts := fun_mk (st := S_parts) l_parts c_parts k_parts
  have b_parts := F_parts.binds (ps := ["pot", "a", "rows", "over"]) fun _ _ _ _ _ _ us hl => match us, hl with | [_, _, _, _], _ => rfl
  have F_sums := fun_mk (st := S_sums) l_sums c_sums k_sums
  have b_sums := F_sums.binds (ps := ["pot", "a", "rows", "over"]) fun _ _ _ _ _ _ us hl => match us, hl with | [_, _, _, _], _ => rfl
  have F_changed := fun_mk (st := S_changed) l_changed c_changed k_changed
  have b_changed := F_changed.binds (ps := ["pot", "a", "rows", "over"]) fun _ _ _ _ _ _ us hl => match us, hl with | [_, _, _, _], _ => rfl
  have F_refused := fun_mk (st := S_refused) l_refused c_refused k_refused
  have b_refused := F_refused.binds (ps := ["pot", "a", "rows"]) fun _ _ _ _ _ _ us hl => match us, hl with | [_, _, _], _ => rfl
  have F_units := fun_mk (st := S_units) l_units c_units k_units
  have b_units := F_units.binds (ps := ["pot", "a"]) fun _ _ _ _ _ _ us hl => match us, hl with | [_, _], _ => rfl
  have F_law := fun_mk (st := S_law) l_law c_law k_law
  have b_law := F_law.binds (ps := ["script"]) fun _ _ _ _ _ _ us hl => match us, hl with | [_], _ => rfl
  have F_init : FunD K "__init__" "Ratio.__init__" (defArgs S_init) (defBody S_init) (defScope S_init) [.int 1] [] f_init (PySem.W.fnOf "__init__" "Ratio.__init__" (defArgs S_init) (defBody S_init) (defScope S_init) (.ref T_init) kV_init dc_init pm_init an_init cd_init ct_init) :=
    ⟨⟨_, _, _, _, _, _, _, _, _, _, rfl, l_init, c_init, .inr ⟨(by intro z; cases z), T_init, _, [Value.int 1 tT], _, rfl, lT, rfl, .cons ⟨_, rfl⟩ .nil⟩, .inl rfl⟩, k_init⟩
  have b3 : ∃ ds, Vals (([V.int 1] : List V).drop 1) ds ∧ Binds K (PySem.W.fnOf "__init__" "Ratio.__init__" (defArgs S_init) (defBody S_init) (defScope S_init) (.ref T_init) kV_init dc_init pm_init an_init cd_init ct_init) ["self", "top", "bottom"] ds :=
    F_init.binds1 3 1 (by intro z; cases z) rfl fun T kV doc pm an cdv ct us its h1 h2 => match us, its, h1, h2 with | [_, _, _], [_], _, _ => ⟨_, rfl, rfl⟩
  have b2 : ∃ ds, Vals (([V.int 1] : List V).drop 0) ds ∧ Binds K (PySem.W.fnOf "__init__" "Ratio.__init__" (defArgs S_init) (defBody S_init) (defScope S_init) (.ref T_init) kV_init dc_init pm_init an_init cd_init ct_init) ["self", "top", "bottom"] ds :=
    F_init.binds1 2 0 (by intro z; cases z) rfl fun T kV doc pm an cdv ct us its h1 h2 => match us, its, h1, h2 with | [_, _], [_], _, _ => ⟨_, rfl, rfl⟩
  have b3' : Binds K (PySem.W.fnOf "__init__" "Ratio.__init__" (defArgs S_init) (defBody S_init) (defScope S_init) (.ref T_init) kV_init dc_init pm_init an_init cd_init ct_init) ["self", "top", "bottom"] [] := by
    obtain ⟨ds, v, b⟩ := b3
    cases v
    exact b
  have F_ginit : FunD K "__init__" "Grid.__init__" (defArgs S_ginit) (defBody S_ginit) (defScope S_ginit) [.int 1] [] f_ginit (PySem.W.fnOf "__init__" "Grid.__init__" (defArgs S_ginit) (defBody S_ginit) (defScope S_ginit) (.ref T_ginit) kV_ginit dc_ginit pm_ginit an_ginit cd_ginit ct_ginit) :=
    ⟨⟨_, _, _, _, _, _, _, _, _, _, rfl, l_ginit, c_ginit, .inr ⟨(by intro z; cases z), T_ginit, _, [Value.int 1 tT_ginit], _, rfl, lT_ginit, rfl, .cons ⟨_, rfl⟩ .nil⟩, .inl rfl⟩, k_ginit⟩
  have b3_ginit : ∃ ds, Vals (([V.int 1] : List V).drop 1) ds ∧ Binds K (PySem.W.fnOf "__init__" "Grid.__init__" (defArgs S_ginit) (defBody S_ginit) (defScope S_ginit) (.ref T_ginit) kV_ginit dc_ginit pm_ginit an_ginit cd_ginit ct_ginit) ["self", "rows", "over"] ds :=
    F_ginit.binds1 3 1 (by intro z; cases z) rfl fun T kV doc pm an cdv ct us its h1 h2 => match us, its, h1, h2 with | [_, _, _], [_], _, _ => ⟨_, rfl, rfl⟩
  have b2_ginit : ∃ ds, Vals (([V.int 1] : List V).drop 0) ds ∧ Binds K (PySem.W.fnOf "__init__" "Grid.__init__" (defArgs S_ginit) (defBody S_ginit) (defScope S_ginit) (.ref T_ginit) kV_ginit dc_ginit pm_ginit an_ginit cd_ginit ct_ginit) ["self", "rows", "over"] ds :=
    F_ginit.binds1 2 0 (by intro z; cases z) rfl fun T kV doc pm an cdv ct us its h1 h2 => match us, its, h1, h2 with | [_, _], [_], _, _ => ⟨_, rfl, rfl⟩
  have b4_ginit : Binds K (PySem.W.fnOf "__init__" "Grid.__init__" (defArgs S_ginit) (defBody S_ginit) (defScope S_ginit) (.ref T_ginit) kV_ginit dc_ginit pm_ginit an_ginit cd_ginit ct_ginit) ["self", "rows", "over"] [] := by
    obtain ⟨ds, v, b⟩ := b3_ginit
    cases v
    exact b
  let A : Ad := { C := C, f_init := f_init, d_init := PySem.W.fnOf "__init__" "Ratio.__init__" (defArgs S_init) (defBody S_init) (defScope S_init) (.ref T_init) kV_init dc_init pm_init an_init cd_init ct_init, Z := Z, CE := CE, BS := BS, O := O, P := P, Gr := Gr, f_ginit := f_ginit, d_ginit := PySem.W.fnOf "__init__" "Grid.__init__" (defArgs S_ginit) (defBody S_ginit) (defScope S_ginit) (.ref T_ginit) kV_ginit dc_ginit pm_ginit an_ginit cd_ginit ct_ginit, f_cbot := f_cbot, d_cbot := PySem.W.fnOf "common_bottom" "common_bottom" (defArgs S_cbot) (defBody S_cbot) (defScope S_cbot) .none kV_cbot dc_cbot pm_cbot an_cbot cd_cbot ct_cbot, f_oob := f_oob, d_oob := PySem.W.fnOf "__init__" "OutOfBounds.__init__" (defArgs S_oob) (defBody S_oob) (defScope S_oob) .none kV_oob dc_oob pm_oob an_oob cd_oob ct_oob, f_bpl := f_bpl, d_bpl := PySem.W.fnOf "__init__" "BadPlace.__init__" (defArgs S_bpl) (defBody S_bpl) (defScope S_bpl) .none kV_bpl dc_bpl pm_bpl an_bpl cd_bpl ct_bpl, f_dot := f_dot, d_dot := PySem.W.fnOf "dot" "dot" (defArgs S_dot) (defBody S_dot) (defScope S_dot) .none kV_dot dc_dot pm_dot an_dot cd_dot ct_dot, f_trows := f_trows, d_trows := PySem.W.fnOf "turned_rows" "turned_rows" (defArgs S_trows) (defBody S_trows) (defScope S_trows) .none kV_trows dc_trows pm_trows an_trows cd_trows ct_trows, f_cdiv := f_cdiv, d_cdiv := PySem.W.fnOf "common_divisor" "common_divisor" (defArgs S_cdiv) (defBody S_cdiv) (defScope S_cdiv) .none kV_cdiv dc_cdiv pm_cdiv an_cdiv cd_cdiv ct_cdiv, f_gof := f_gof, d_gof := PySem.W.fnOf "of" "Grid.of" (defArgs S_gof) (defBody S_gof) (defScope S_gof) .none kV_gof dc_gof pm_gof an_gof cd_gof ct_gof, f_gunit := f_gunit, d_gunit := PySem.W.fnOf "unit" "Grid.unit" (defArgs S_gunit) (defBody S_gunit) (defScope S_gunit) .none kV_gunit dc_gunit pm_gunit an_gunit cd_gunit ct_gunit, f_geq := f_geq, d_geq := PySem.W.fnOf "__eq__" "Grid.__eq__" (defArgs S_geq) (defBody S_geq) (defScope S_geq) .none kV_geq dc_geq pm_geq an_geq cd_geq ct_geq, f_gget := f_gget, d_gget := PySem.W.fnOf "__getitem__" "Grid.__getitem__" (defArgs S_gget) (defBody S_gget) (defScope S_gget) .none kV_gget dc_gget pm_gget an_gget cd_gget ct_gget, f_gscaled := f_gscaled, d_gscaled := PySem.W.fnOf "scaled" "Grid.scaled" (defArgs S_gscaled) (defBody S_gscaled) (defScope S_gscaled) .none kV_gscaled dc_gscaled pm_gscaled an_gscaled cd_gscaled ct_gscaled, f_gturned := f_gturned, d_gturned := PySem.W.fnOf "turned" "Grid.turned" (defArgs S_gturned) (defBody S_gturned) (defScope S_gturned) .none kV_gturned dc_gturned pm_gturned an_gturned cd_gturned ct_gturned, f_gpart := f_gpart, d_gpart := PySem.W.fnOf "part" "Grid.part" (defArgs S_gpart) (defBody S_gpart) (defScope S_gpart) .none kV_gpart dc_gpart pm_gpart an_gpart cd_gpart ct_gpart, f_gform := f_gform, d_gform := PySem.W.fnOf "form" "Grid.form" (defArgs S_gform) (defBody S_gform) (defScope S_gform) .none kV_gform dc_gform pm_gform an_gform cd_gform ct_gform, f_gtrace := f_gtrace, d_gtrace := PySem.W.fnOf "trace" "Grid.trace" (defArgs S_gtrace) (defBody S_gtrace) (defScope S_gtrace) .none kV_gtrace dc_gtrace pm_gtrace an_gtrace cd_gtrace ct_gtrace, f_cshape := f_cshape, d_cshape := PySem.W.fnOf "_check_shape" "_check_shape" (defArgs S_cshape) (defBody S_cshape) (defScope S_cshape) .none kV_cshape dc_cshape pm_cshape an_cshape cd_cshape ct_cshape, f_cplaces := f_cplaces, d_cplaces := PySem.W.fnOf "_check_places" "_check_places" (defArgs S_cplaces) (defBody S_cplaces) (defScope S_cplaces) .none kV_cplaces dc_cplaces pm_cplaces an_cplaces cd_cplaces ct_cplaces, f_shared := f_shared, d_shared := PySem.W.fnOf "_shared_divisor" "_shared_divisor" (defArgs S_shared) (defBody S_shared) (defScope S_shared) .none kV_shared dc_shared pm_shared an_shared cd_shared ct_shared, f_start := f_start, d_start := PySem.W.fnOf "_law_start" "_law_start" (defArgs S_start) (defBody S_start) (defScope S_start) .none kV_start dc_start pm_start an_start cd_start ct_start, f_digit := f_digit, d_digit := PySem.W.fnOf "_law_digit" "_law_digit" (defArgs S_digit) (defBody S_digit) (defScope S_digit) .none kV_digit dc_digit pm_digit an_digit cd_digit ct_digit, f_lcommon := f_lcommon, d_lcommon := PySem.W.fnOf "_law_common" "_law_common" (defArgs S_lcommon) (defBody S_lcommon) (defScope S_lcommon) .none kV_lcommon dc_lcommon pm_lcommon an_lcommon cd_lcommon ct_lcommon, f_number := f_number, d_number := PySem.W.fnOf "_law_number" "_law_number" (defArgs S_number) (defBody S_number) (defScope S_number) .none kV_number dc_number pm_number an_number cd_number ct_number, f_cells := f_cells, d_cells := PySem.W.fnOf "_law_cells" "_law_cells" (defArgs S_cells) (defBody S_cells) (defScope S_cells) .none kV_cells dc_cells pm_cells an_cells cd_cells ct_cells, f_wide := f_wide, d_wide := PySem.W.fnOf "_law_wide" "_law_wide" (defArgs S_wide) (defBody S_wide) (defScope S_wide) .none kV_wide dc_wide pm_wide an_wide cd_wide ct_wide, f_copy := f_copy, d_copy := PySem.W.fnOf "_law_copy" "_law_copy" (defArgs S_copy) (defBody S_copy) (defScope S_copy) .none kV_copy dc_copy pm_copy an_copy cd_copy ct_copy, f_whole := f_whole, d_whole := PySem.W.fnOf "_law_whole" "_law_whole" (defArgs S_whole) (defBody S_whole) (defScope S_whole) .none kV_whole dc_whole pm_whole an_whole cd_whole ct_whole, f_isratio := f_isratio, d_isratio := PySem.W.fnOf "_law_is_ratio" "_law_is_ratio" (defArgs S_isratio) (defBody S_isratio) (defScope S_isratio) .none kV_isratio dc_isratio pm_isratio an_isratio cd_isratio ct_isratio, f_lis := f_lis, d_lis := PySem.W.fnOf "_law_is" "_law_is" (defArgs S_lis) (defBody S_lis) (defScope S_lis) .none kV_lis dc_lis pm_lis an_lis cd_lis ct_lis, f_badshape := f_badshape, d_badshape := PySem.W.fnOf "_law_bad_shape" "_law_bad_shape" (defArgs S_badshape) (defBody S_badshape) (defScope S_badshape) .none kV_badshape dc_badshape pm_badshape an_badshape cd_badshape ct_badshape, f_badover := f_badover, d_badover := PySem.W.fnOf "_law_bad_over" "_law_bad_over" (defArgs S_badover) (defBody S_badover) (defScope S_badover) .none kV_badover dc_badover pm_badover an_badover cd_badover ct_badover, f_noentry := f_noentry, d_noentry := PySem.W.fnOf "_law_no_entry" "_law_no_entry" (defArgs S_noentry) (defBody S_noentry) (defScope S_noentry) .none kV_noentry dc_noentry pm_noentry an_noentry cd_noentry ct_noentry, f_badplace := f_badplace, d_badplace := PySem.W.fnOf "_law_bad_place" "_law_bad_place" (defArgs S_badplace) (defBody S_badplace) (defScope S_badplace) .none kV_badplace dc_badplace pm_badplace an_badplace cd_badplace ct_badplace, f_made := f_made, d_made := PySem.W.fnOf "_law_made" "_law_made" (defArgs S_made) (defBody S_made) (defScope S_made) .none kV_made dc_made pm_made an_made cd_made ct_made, f_mixed := f_mixed, d_mixed := PySem.W.fnOf "_law_mixed" "_law_mixed" (defArgs S_mixed) (defBody S_mixed) (defScope S_mixed) .none kV_mixed dc_mixed pm_mixed an_mixed cd_mixed ct_mixed, f_entries := f_entries, d_entries := PySem.W.fnOf "_law_entries" "_law_entries" (defArgs S_entries) (defBody S_entries) (defScope S_entries) .none kV_entries dc_entries pm_entries an_entries cd_entries ct_entries, f_places := f_places, d_places := PySem.W.fnOf "_law_places" "_law_places" (defArgs S_places) (defBody S_places) (defScope S_places) .none kV_places dc_places pm_places an_places cd_places ct_places, f_outside := f_outside, d_outside := PySem.W.fnOf "_law_outside" "_law_outside" (defArgs S_outside) (defBody S_outside) (defScope S_outside) .none kV_outside dc_outside pm_outside an_outside cd_outside ct_outside, f_parts := f_parts, d_parts := PySem.W.fnOf "_law_parts" "_law_parts" (defArgs S_parts) (defBody S_parts) (defScope S_parts) .none kV_parts dc_parts pm_parts an_parts cd_parts ct_parts, f_sums := f_sums, d_sums := PySem.W.fnOf "_law_sums" "_law_sums" (defArgs S_sums) (defBody S_sums) (defScope S_sums) .none kV_sums dc_sums pm_sums an_sums cd_sums ct_sums, f_changed := f_changed, d_changed := PySem.W.fnOf "_law_changed" "_law_changed" (defArgs S_changed) (defBody S_changed) (defScope S_changed) .none kV_changed dc_changed pm_changed an_changed cd_changed ct_changed, f_refused := f_refused, d_refused := PySem.W.fnOf "_law_refused" "_law_refused" (defArgs S_refused) (defBody S_refused) (defScope S_refused) .none kV_refused dc_refused pm_refused an_refused cd_refused ct_refused, f_units := f_units, d_units := PySem.W.fnOf "_law_units" "_law_units" (defArgs S_units) (defBody S_units) (defScope S_units) .none kV_units dc_units pm_units an_units cd_units ct_units, f_law := fa, d_law := PySem.W.fnOf "law" "law" (defArgs S_law) (defBody S_law) (defScope S_law) .none kV_law dc_law pm_law an_law cd_law ct_law }
  have T : Txt K mg A := {
    hn := hn,
    htk := htk,
    cl := ⟨pgC, hdC, poC, saC⟩,
    nT := nT,
    nB := nB,
    mkC := ⟨mkC, a_init, i_init, kcC⟩,
    ha := ha,
    hm := hm,
    F_init := F_init,
    b_init3 := b3',
    b_init2 := b2,
    g_Ratio := PySem.W.mg_of X G aC,
    g_gcd := PySem.W.mg_of X G gg,
    g_Z := PySem.W.mg_of X G aZ,
    xZ := xZ,
    kZ := kZ,
    bZ := bZ,
    tZ := tZ,
    g_CE := PySem.W.mg_of X G aCE,
    g_lcm := PySem.W.mg_of X G glcm,
    g_BS := PySem.W.mg_of X G a_BS,
    x_BS := x_BS,
    k_BS := k_BS,
    bs_BS := bs_BS,
    t_BS := t_BS,
    e_BS := PySem.W.exm_ref CEb CEd CEt e_BS,
    X_BS := ⟨g0_BS, g1_BS, bs_BS, d_BS, cl_BS, hn, htk, m_BS⟩,
    v_BS := kit_typ (by decide +kernel) v_BS,
    g_O := PySem.W.mg_of X G a_O,
    o_O := ⟨⟨nm_O, q_O, N_O, bs1_O, bm_O, sn_O, sub_O, ab_O, col_O, dd_O, m0_O, m1_O, m2_O, m3_O, m5_O, c_O, r_O⟩, sa_O, bs_O, t_O, k_O⟩,
    in_O := a_oob,
    ti_O := beq_iff_eq.mp i_oob,
    xf_O := ⟨g0_O, g1_O, bs_O, d_O⟩,
    e_O := PySem.W.exm_ref CEb CEd CEt e_O,
    X_O := ⟨g0_O, g1_O, bs_O, d_O, cl_O, hn, htk, m_O⟩,
    v_O := kit_typ (by decide +kernel) v_O,
    n_O_value := n_O_value,
    g_P := PySem.W.mg_of X G a_P,
    o_P := ⟨⟨nm_P, q_P, N_P, bs1_P, bm_P, sn_P, sub_P, ab_P, col_P, dd_P, m0_P, m1_P, m2_P, m3_P, m5_P, c_P, r_P⟩, sa_P, bs_P, t_P, k_P⟩,
    in_P := a_bpl,
    ti_P := beq_iff_eq.mp i_bpl,
    xf_P := ⟨g0_P, g1_P, bs_P, d_P⟩,
    e_P := PySem.W.exm_ref CEb CEd CEt e_P,
    X_P := ⟨g0_P, g1_P, bs_P, d_P, cl_P, hn, htk, m_P⟩,
    v_P := kit_typ (by decide +kernel) v_P,
    n_P_place := n_P_place,
    bsNo := kit_ref d_O t_O s_bsNo (fun z => n_bsNo (Value.ref.inj z)),
    oNbs := kit_ref d_BS t_BS s_oNbs (fun z => n_oNbs (Value.ref.inj z)),
    pNbs := kit_ref d_BS t_BS s_pNbs (fun z => n_pNbs (Value.ref.inj z)),
    gi_MOST_SIZE := ⟨tk_MOST_SIZE, PySem.W.mg_of X G gi_MOST_SIZE⟩,
    c_Gr := ⟨pgGr, hdGr, poGr, saGr⟩,
    mk_Gr := ⟨mkGr, a_ginit, i_ginit, kcGr⟩,
    ha_Gr := ha_Gr,
    hm_Gr := hm_Gr,
    g_Grid := PySem.W.mg_of X G a_Gr,
    F_ginit := F_ginit,
    b_ginit := b4_ginit,
    b1_ginit := b2_ginit,
    na_Gr_rows := na_Gr_rows,
    na_Gr_over := na_Gr_over,
    na_Gr_height := na_Gr_height,
    na_Gr_width := na_Gr_width,
    tyG := tyG,
    subG := fun t ht => by (simp only [List.mem_cons, List.not_mem_nil, or_false] at ht; rcases ht with rfl | rfl | rfl | rfl | rfl <;> first | exact ⟨s0aG, s0bG⟩ | exact ⟨s1aG, s1bG⟩ | exact ⟨s2aG, s2bG⟩ | exact ⟨s3aG, s3bG⟩ | exact ⟨s4aG, s4bG⟩),
    crGr := ⟨rdGr, gaGr⟩,
    n_len := PySem.W.mg_none_of X G z_len,
    n_abs := PySem.W.mg_none_of X G z_abs,
    n_int := PySem.W.mg_none_of X G z_int,
    n_bool := PySem.W.mg_none_of X G z_bool,
    n_isinstance := PySem.W.mg_none_of X G z_isinstance,
    n_range := PySem.W.mg_none_of X G z_range,
    n_ValueError := PySem.W.mg_none_of X G z_ValueError,
    n_list := PySem.W.mg_none_of X G z_list,
    n_sum := PySem.W.mg_none_of X G z_sum,
    n_zip := PySem.W.mg_none_of X G z_zip,
    n_tuple := PySem.W.mg_none_of X G z_tuple,
    n_all := PySem.W.mg_none_of X G z_all,
    F_cbot := F_cbot, b_cbot := b_cbot,
    g_cbot := PySem.W.mg_of X G a_cbot,
    F_oob := F_oob, b_oob := b_oob,
    m_oob := ⟨a_oob, i_oob, k_oob⟩,
    F_bpl := F_bpl, b_bpl := b_bpl,
    m_bpl := ⟨a_bpl, i_bpl, k_bpl⟩,
    F_dot := F_dot, b_dot := b_dot,
    g_dot := PySem.W.mg_of X G a_dot,
    F_trows := F_trows, b_trows := b_trows,
    g_trows := PySem.W.mg_of X G a_trows,
    F_cdiv := F_cdiv, b_cdiv := b_cdiv,
    g_cdiv := PySem.W.mg_of X G a_cdiv,
    F_gof := F_gof, b_gof := b_gof,
    p_gof := ⟨_, a_gof, ⟨_, i_gof⟩, fi_gof⟩,
    F_gunit := F_gunit, b_gunit := b_gunit,
    p_gunit := ⟨_, a_gunit, ⟨_, i_gunit⟩, k_gunit⟩,
    F_geq := F_geq, b_geq := b_geq,
    m_geq := ⟨a_geq, i_geq, k_geq⟩,
    F_gget := F_gget, b_gget := b_gget,
    m_gget := ⟨a_gget, i_gget, k_gget⟩,
    fi_gget := fi_gget,
    F_gscaled := F_gscaled, b_gscaled := b_gscaled,
    m_gscaled := ⟨a_gscaled, i_gscaled, k_gscaled⟩,
    F_gturned := F_gturned, b_gturned := b_gturned,
    m_gturned := ⟨a_gturned, i_gturned, k_gturned⟩,
    F_gpart := F_gpart, b_gpart := b_gpart,
    m_gpart := ⟨a_gpart, i_gpart, k_gpart⟩,
    F_gform := F_gform, b_gform := b_gform,
    m_gform := ⟨a_gform, i_gform, k_gform⟩,
    F_gtrace := F_gtrace, b_gtrace := b_gtrace,
    m_gtrace := ⟨a_gtrace, i_gtrace, k_gtrace⟩,
    F_cshape := F_cshape, b_cshape := b_cshape,
    g_cshape := PySem.W.mg_of X G a_cshape,
    F_cplaces := F_cplaces, b_cplaces := b_cplaces,
    g_cplaces := PySem.W.mg_of X G a_cplaces,
    F_shared := F_shared, b_shared := b_shared,
    g_shared := PySem.W.mg_of X G a_shared,
    F_start := F_start, b_start := b_start,
    g_start := PySem.W.mg_of X G a_start,
    F_digit := F_digit, b_digit := b_digit,
    g_digit := PySem.W.mg_of X G a_digit,
    F_lcommon := F_lcommon, b_lcommon := b_lcommon,
    g_lcommon := PySem.W.mg_of X G a_lcommon,
    F_number := F_number, b_number := b_number,
    g_number := PySem.W.mg_of X G a_number,
    F_cells := F_cells, b_cells := b_cells,
    g_cells := PySem.W.mg_of X G a_cells,
    F_wide := F_wide, b_wide := b_wide,
    g_wide := PySem.W.mg_of X G a_wide,
    F_copy := F_copy, b_copy := b_copy,
    g_copy := PySem.W.mg_of X G a_copy,
    F_whole := F_whole, b_whole := b_whole,
    g_whole := PySem.W.mg_of X G a_whole,
    F_isratio := F_isratio, b_isratio := b_isratio,
    g_isratio := PySem.W.mg_of X G a_isratio,
    F_lis := F_lis, b_lis := b_lis,
    g_lis := PySem.W.mg_of X G a_lis,
    F_badshape := F_badshape, b_badshape := b_badshape,
    g_badshape := PySem.W.mg_of X G a_badshape,
    F_badover := F_badover, b_badover := b_badover,
    g_badover := PySem.W.mg_of X G a_badover,
    F_noentry := F_noentry, b_noentry := b_noentry,
    g_noentry := PySem.W.mg_of X G a_noentry,
    F_badplace := F_badplace, b_badplace := b_badplace,
    g_badplace := PySem.W.mg_of X G a_badplace,
    F_made := F_made, b_made := b_made,
    g_made := PySem.W.mg_of X G a_made,
    F_mixed := F_mixed, b_mixed := b_mixed,
    g_mixed := PySem.W.mg_of X G a_mixed,
    F_entries := F_entries, b_entries := b_entries,
    g_entries := PySem.W.mg_of X G a_entries,
    F_places := F_places, b_places := b_places,
    g_places := PySem.W.mg_of X G a_places,
    F_outside := F_outside, b_outside := b_outside,
    g_outside := PySem.W.mg_of X G a_outside,
    F_parts := F_parts, b_parts := b_parts,
    g_parts := PySem.W.mg_of X G a_parts,
    F_sums := F_sums, b_sums := b_sums,
    g_sums := PySem.W.mg_of X G a_sums,
    F_changed := F_changed, b_changed := b_changed,
    g_changed := PySem.W.mg_of X G a_changed,
    F_refused := F_refused, b_refused := b_refused,
    g_refused := PySem.W.mg_of X G a_refused,
    F_units := F_units, b_units := b_units,
    g_units := PySem.W.mg_of X G a_units,
    F_law := F_law, b_law := b_law,
    g_law := PySem.W.mg_of X G a_law }
  exact ⟨_, fun s v => .of_eq rfl, fun base _ _ => ok_law (P := l.prog) (w := w) (base := base) T⟩
theorem walk {l : PySem.W.OpenLaw} {q : Program} {loose : List Str} {XP : (Str → Option Value) → Heap → Prop} {YP : World → Heap → Prop} {d : DefRec} {K : Params → PySem.W.Frag} (hn : l.most = some 63) (hdf : d.params.defaults = [])
    (hY : ∀ (w : World) (h : Heap), YP w h → (K w.params).In h)
    (F : ∀ (w : World) (mg : Str → Option Value) (fa : Addr) (h : Heap), (K w.params).In h → h.Ns mainGlobals mg → mg d.name = some (.ref fa) →
      ∃ fd : FuncData, (∀ (s : Shared) (u : Value), BindsTo s fd ⟨[u], []⟩ [("script", u)]) ∧ ∀ base : Heap, (K w.params).In base → base.Ns mainGlobals mg → FnOk l.prog w (K w.params) mg base CX0 9 fa fd ["script"] (spLaw (K w.params))) :
    PySem.W.WalkO q loose XP YP l.row.toRowW d [] (fun f vs => PySem.call f vs) :=
  L2.walk_of (n := 63) (k := 9) (x := "script") (CX := fun _ => CX0) (sp := fun w => spLaw (K w.params)) hn (by decide) hdf ⟨rfl, by decide, by decide⟩ hY F
    (fun _ _ a ns hl _ hS => ⟨a, ns, rfl, hS, hl, fun _ => rfl⟩) fun _ _ _ _ _ z => z
end Fc
open PySem PySem.W PyProof.Rows
set_option maxRecDepth 100000 in
set_option maxHeartbeats 0 in
theorem PySem.Challenge.cw_fewcarry_k07_grid_form_holds : PySem.Challenge.rw_fewcarry_k07_grid_form.Holds := by
  w_on; o_law; k_head; (case hw => w_witness2)
  k_fill
  refine Fc.walk (l := PySem.Challenge.rw_fewcarry_k07_grid_form) rfl rfl (fun w h Y => PySem.W.kIn_of Y) ?F
  case F =>
    intro w mg fa h KX G hmg
    refine' Fc.all_mk KX G hmg ?hn ?htk ?aC ?pgC ?hdC ?poC ?saC ?mkC ?kcC ?a_init ?i_init ?l_init ?lT ?c_init ?k_init ?nT ?nB ?ha ?hm ?gg ?aZ ?xZ ?kZ ?bZ ?tZ ?aCE ?CEd ?CEb ?CEt ?glcm ?a_BS ?x_BS ?k_BS ?bs_BS ?t_BS ?e_BS ?g0_BS ?g1_BS ?d_BS ?cl_BS ?m_BS ?v_BS ?a_O ?c_O ?r_O ?sa_O ?k_O ?bs_O ?t_O ?e_O ?g0_O ?g1_O ?d_O ?cl_O ?m_O ?v_O ?n_O_value ?a_P ?c_P ?r_P ?sa_P ?k_P ?bs_P ?t_P ?e_P ?g0_P ?g1_P ?d_P ?cl_P ?m_P ?v_P ?n_P_place ?s_bsNo ?n_bsNo ?s_oNbs ?n_oNbs ?s_pNbs ?n_pNbs ?gi_MOST_SIZE ?a_Gr ?pgGr ?hdGr ?poGr ?saGr ?mkGr ?kcGr ?ha_Gr ?hm_Gr ?na_Gr_rows ?na_Gr_over ?na_Gr_height ?na_Gr_width ?a_ginit ?i_ginit ?l_ginit ?lT_ginit ?c_ginit ?k_ginit ?tyG ?s0aG ?s0bG ?s1aG ?s1bG ?s2aG ?s2bG ?s3aG ?s3bG ?s4aG ?s4bG ?rdGr ?gaGr ?z_len ?z_abs ?z_int ?z_bool ?z_isinstance ?z_range ?z_ValueError ?z_list ?z_sum ?z_zip ?z_tuple ?z_all ?a_cbot ?l_cbot ?c_cbot ?k_cbot ?a_oob ?i_oob ?l_oob ?c_oob ?k_oob ?a_bpl ?i_bpl ?l_bpl ?c_bpl ?k_bpl ?a_dot ?l_dot ?c_dot ?k_dot ?a_trows ?l_trows ?c_trows ?k_trows ?a_cdiv ?l_cdiv ?c_cdiv ?k_cdiv ?a_gof ?i_gof ?fi_gof ?l_gof ?c_gof ?k_gof ?a_gunit ?i_gunit ?l_gunit ?c_gunit ?k_gunit ?a_geq ?i_geq ?l_geq ?c_geq ?k_geq ?a_gget ?i_gget ?l_gget ?c_gget ?k_gget ?fi_gget ?a_gscaled ?i_gscaled ?l_gscaled ?c_gscaled ?k_gscaled ?a_gturned ?i_gturned ?l_gturned ?c_gturned ?k_gturned ?a_gpart ?i_gpart ?l_gpart ?c_gpart ?k_gpart ?a_gform ?i_gform ?l_gform ?c_gform ?k_gform ?a_gtrace ?i_gtrace ?l_gtrace ?c_gtrace ?k_gtrace ?a_cshape ?l_cshape ?c_cshape ?k_cshape ?a_cplaces ?l_cplaces ?c_cplaces ?k_cplaces ?a_shared ?l_shared ?c_shared ?k_shared ?a_start ?l_start ?c_start ?k_start ?a_digit ?l_digit ?c_digit ?k_digit ?a_lcommon ?l_lcommon ?c_lcommon ?k_lcommon ?a_number ?l_number ?c_number ?k_number ?a_cells ?l_cells ?c_cells ?k_cells ?a_wide ?l_wide ?c_wide ?k_wide ?a_copy ?l_copy ?c_copy ?k_copy ?a_whole ?l_whole ?c_whole ?k_whole ?a_isratio ?l_isratio ?c_isratio ?k_isratio ?a_lis ?l_lis ?c_lis ?k_lis ?a_badshape ?l_badshape ?c_badshape ?k_badshape ?a_badover ?l_badover ?c_badover ?k_badover ?a_noentry ?l_noentry ?c_noentry ?k_noentry ?a_badplace ?l_badplace ?c_badplace ?k_badplace ?a_made ?l_made ?c_made ?k_made ?a_mixed ?l_mixed ?c_mixed ?k_mixed ?a_entries ?l_entries ?c_entries ?k_entries ?a_places ?l_places ?c_places ?k_places ?a_outside ?l_outside ?c_outside ?k_outside ?a_parts ?l_parts ?c_parts ?k_parts ?a_sums ?l_sums ?c_sums ?k_sums ?a_changed ?l_changed ?c_changed ?k_changed ?a_refused ?l_refused ?c_refused ?k_refused ?a_units ?l_units ?c_units ?k_units ?a_law ?l_law ?c_law ?k_law
    (case hn => k_is)
    (case htk => k_is)
    (case aC => k_is)
    (case pgC => k_is)
    (case hdC => k_is)
    (case poC => k_is)
    (case saC => k_is)
    (case mkC => k_is)
    (case kcC => k_is)
    (case a_init => k_is)
    (case i_init => k_is)
    (case l_init => k_is)
    (case lT => k_is)
    (case c_init => k_is)
    (case k_init => k_is)
    (case nT => k_is)
    (case nB => k_is)
    (case ha => k_is)
    (case hm => k_is)
    (case gg => k_is)
    (case aZ => k_is)
    (case xZ => k_exc)
    (case kZ => k_is)
    (case bZ => k_is)
    (case tZ => k_is)
    (case aCE => k_is)
    (case CEd => k_is)
    (case CEb => k_is)
    (case CEt => k_is)
    (case glcm => k_is)
    (case a_BS => k_is)
    (case x_BS => k_exc)
    (case k_BS => k_is)
    (case bs_BS => k_is)
    (case t_BS => k_is)
    (case e_BS => k_is)
    (case g0_BS => k_is)
    (case g1_BS => k_is)
    (case d_BS => k_is)
    (case cl_BS => k_is)
    (case m_BS => k_is)
    (case v_BS => k_is)
    (case a_O => k_is)
    (case c_O => k_is)
    (case r_O => decide +kernel)
    (case sa_O => k_is)
    (case k_O => k_is)
    (case bs_O => k_is)
    (case t_O => k_is)
    (case e_O => k_is)
    (case g0_O => k_is)
    (case g1_O => k_is)
    (case d_O => k_is)
    (case cl_O => k_is)
    (case m_O => k_is)
    (case v_O => k_is)
    (case n_O_value => k_is)
    (case a_P => k_is)
    (case c_P => k_is)
    (case r_P => decide +kernel)
    (case sa_P => k_is)
    (case k_P => k_is)
    (case bs_P => k_is)
    (case t_P => k_is)
    (case e_P => k_is)
    (case g0_P => k_is)
    (case g1_P => k_is)
    (case d_P => k_is)
    (case cl_P => k_is)
    (case m_P => k_is)
    (case v_P => k_is)
    (case n_P_place => k_is)
    (case s_bsNo => k_is)
    (case n_bsNo => decide)
    (case s_oNbs => k_is)
    (case n_oNbs => decide)
    (case s_pNbs => k_is)
    (case n_pNbs => decide)
    (case gi_MOST_SIZE => k_is)
    (case a_Gr => k_is)
    (case pgGr => k_is)
    (case hdGr => k_is)
    (case poGr => k_is)
    (case saGr => k_is)
    (case mkGr => k_is)
    (case kcGr => k_is)
    (case ha_Gr => k_is)
    (case hm_Gr => k_is)
    (case na_Gr_rows => k_is)
    (case na_Gr_over => k_is)
    (case na_Gr_height => k_is)
    (case na_Gr_width => k_is)
    (case a_ginit => k_is)
    (case i_ginit => k_is)
    (case l_ginit => k_is)
    (case lT_ginit => k_is)
    (case c_ginit => k_is)
    (case k_ginit => k_is)
    (case tyG => k_is)
    (case s0aG => k_is)
    (case s0bG => k_is)
    (case s1aG => k_is)
    (case s1bG => k_is)
    (case s2aG => k_is)
    (case s2bG => k_is)
    (case s3aG => k_is)
    (case s3bG => k_is)
    (case s4aG => k_is)
    (case s4bG => k_is)
    (case rdGr => k_is)
    (case gaGr => k_is)
    (case z_len => k_is)
    (case z_abs => k_is)
    (case z_int => k_is)
    (case z_bool => k_is)
    (case z_isinstance => k_is)
    (case z_range => k_is)
    (case z_ValueError => k_is)
    (case z_list => k_is)
    (case z_sum => k_is)
    (case z_zip => k_is)
    (case z_tuple => k_is)
    (case z_all => k_is)
    (case a_cbot => k_is)
    (case l_cbot => k_is)
    (case c_cbot => k_is)
    (case k_cbot => k_is)
    (case a_oob => k_is)
    (case i_oob => k_is)
    (case l_oob => k_is)
    (case c_oob => k_is)
    (case k_oob => k_is)
    (case a_bpl => k_is)
    (case i_bpl => k_is)
    (case l_bpl => k_is)
    (case c_bpl => k_is)
    (case k_bpl => k_is)
    (case a_dot => k_is)
    (case l_dot => k_is)
    (case c_dot => k_is)
    (case k_dot => k_is)
    (case a_trows => k_is)
    (case l_trows => k_is)
    (case c_trows => k_is)
    (case k_trows => k_is)
    (case a_cdiv => k_is)
    (case l_cdiv => k_is)
    (case c_cdiv => k_is)
    (case k_cdiv => k_is)
    (case a_gof => k_is)
    (case i_gof => k_is)
    (case fi_gof => k_is)
    (case l_gof => k_is)
    (case c_gof => k_is)
    (case k_gof => k_is)
    (case a_gunit => k_is)
    (case i_gunit => k_is)
    (case l_gunit => k_is)
    (case c_gunit => k_is)
    (case k_gunit => k_is)
    (case a_geq => k_is)
    (case i_geq => k_is)
    (case l_geq => k_is)
    (case c_geq => k_is)
    (case k_geq => k_is)
    (case a_gget => k_is)
    (case i_gget => k_is)
    (case l_gget => k_is)
    (case c_gget => k_is)
    (case k_gget => k_is)
    (case fi_gget => k_is)
    (case a_gscaled => k_is)
    (case i_gscaled => k_is)
    (case l_gscaled => k_is)
    (case c_gscaled => k_is)
    (case k_gscaled => k_is)
    (case a_gturned => k_is)
    (case i_gturned => k_is)
    (case l_gturned => k_is)
    (case c_gturned => k_is)
    (case k_gturned => k_is)
    (case a_gpart => k_is)
    (case i_gpart => k_is)
    (case l_gpart => k_is)
    (case c_gpart => k_is)
    (case k_gpart => k_is)
    (case a_gform => k_is)
    (case i_gform => k_is)
    (case l_gform => k_is)
    (case c_gform => k_is)
    (case k_gform => k_is)
    (case a_gtrace => k_is)
    (case i_gtrace => k_is)
    (case l_gtrace => k_is)
    (case c_gtrace => k_is)
    (case k_gtrace => k_is)
    (case a_cshape => k_is)
    (case l_cshape => k_is)
    (case c_cshape => k_is)
    (case k_cshape => k_is)
    (case a_cplaces => k_is)
    (case l_cplaces => k_is)
    (case c_cplaces => k_is)
    (case k_cplaces => k_is)
    (case a_shared => k_is)
    (case l_shared => k_is)
    (case c_shared => k_is)
    (case k_shared => k_is)
    (case a_start => k_is)
    (case l_start => k_is)
    (case c_start => k_is)
    (case k_start => k_is)
    (case a_digit => k_is)
    (case l_digit => k_is)
    (case c_digit => k_is)
    (case k_digit => k_is)
    (case a_lcommon => k_is)
    (case l_lcommon => k_is)
    (case c_lcommon => k_is)
    (case k_lcommon => k_is)
    (case a_number => k_is)
    (case l_number => k_is)
    (case c_number => k_is)
    (case k_number => k_is)
    (case a_cells => k_is)
    (case l_cells => k_is)
    (case c_cells => k_is)
    (case k_cells => k_is)
    (case a_wide => k_is)
    (case l_wide => k_is)
    (case c_wide => k_is)
    (case k_wide => k_is)
    (case a_copy => k_is)
    (case l_copy => k_is)
    (case c_copy => k_is)
    (case k_copy => k_is)
    (case a_whole => k_is)
    (case l_whole => k_is)
    (case c_whole => k_is)
    (case k_whole => k_is)
    (case a_isratio => k_is)
    (case l_isratio => k_is)
    (case c_isratio => k_is)
    (case k_isratio => k_is)
    (case a_lis => k_is)
    (case l_lis => k_is)
    (case c_lis => k_is)
    (case k_lis => k_is)
    (case a_badshape => k_is)
    (case l_badshape => k_is)
    (case c_badshape => k_is)
    (case k_badshape => k_is)
    (case a_badover => k_is)
    (case l_badover => k_is)
    (case c_badover => k_is)
    (case k_badover => k_is)
    (case a_noentry => k_is)
    (case l_noentry => k_is)
    (case c_noentry => k_is)
    (case k_noentry => k_is)
    (case a_badplace => k_is)
    (case l_badplace => k_is)
    (case c_badplace => k_is)
    (case k_badplace => k_is)
    (case a_made => k_is)
    (case l_made => k_is)
    (case c_made => k_is)
    (case k_made => k_is)
    (case a_mixed => k_is)
    (case l_mixed => k_is)
    (case c_mixed => k_is)
    (case k_mixed => k_is)
    (case a_entries => k_is)
    (case l_entries => k_is)
    (case c_entries => k_is)
    (case k_entries => k_is)
    (case a_places => k_is)
    (case l_places => k_is)
    (case c_places => k_is)
    (case k_places => k_is)
    (case a_outside => k_is)
    (case l_outside => k_is)
    (case c_outside => k_is)
    (case k_outside => k_is)
    (case a_parts => k_is)
    (case l_parts => k_is)
    (case c_parts => k_is)
    (case k_parts => k_is)
    (case a_sums => k_is)
    (case l_sums => k_is)
    (case c_sums => k_is)
    (case k_sums => k_is)
    (case a_changed => k_is)
    (case l_changed => k_is)
    (case c_changed => k_is)
    (case k_changed => k_is)
    (case a_refused => k_is)
    (case l_refused => k_is)
    (case c_refused => k_is)
    (case k_refused => k_is)
    (case a_units => k_is)
    (case l_units => k_is)
    (case c_units => k_is)
    (case k_units => k_is)
    (case a_law => k_is)
    (case l_law => k_is)
    (case c_law => k_is)
    (case k_law => k_is)
#print axioms PySem.Challenge.cw_fewcarry_k07_grid_form_holds
