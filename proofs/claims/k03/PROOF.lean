import PyProof.Rows.All
import Wide.All
import OpenK.AllK
import Wide.FinOn
import HandS.ForExc
import HandS.Comp
import HandS.Wide
import HandS.Gcd
import HandS.ExcInit
import HandS.ExcIs
import HandS.ExcField
import HandS.IsInst
import HandS.OwnEq
import HandS.Small
import HandS.Flow
import HandS.Codes
import KE.KOpsOwn
import HandS.Style
import HandS.Defaults
import HandS.ClsMeth
import HandS.FStr
import HandS.ExcInitHot
import HandS.SetFor
import HandS.WideBits
import KE.IntBitsLaws
import HandS.Text
import HandS.Call
import HandS.StrMore
import HandS.Strs
import PyProof.Rows.StrOr
import PyProof.Rows.Digits
import KE.KIntText
import HandS.CallLocal
import PyProof.Rows.StrMul
import PySem.Challenge.RW_fewcarry_k03_fraction_text
set_option Elab.async false
set_option linter.all false
set_option maxRecDepth 100000
set_option maxHeartbeats 4000000
/-! Rules of mine over the hand layer: operators that an own class defines, abs by an own method, floor division by any divisor,
an own error without arguments, isinstance of a caught error that has fields, a new instance or a method's call that may raise in a try. -/
namespace Fc
open PySem PySem.Spec PyProof.Rows L2

section
variable {X : Cx} {pins : List (Addr × Obj)} {sl : L2.St} {H : Hp} {s : Shared}

/-- a value of ours is never the mark NotImplemented -/
theorem cmpBack {Q : VK} {u : Value} {s' : Shared} (h : EP X pins sl Q u s') : PySem.W.CmpBack (EP X pins sl Q) u s' := by
  obtain ⟨v, H', I, r, q⟩ := id h
  cases v with
  | non => cases r; exact h
  | bl b => cases r; exact h
  | int i => obtain ⟨t, e⟩ := r; cases e; exact h
  | str y => obtain ⟨t, e⟩ := r; cases e; exact h
  | byt y => obtain ⟨t, e⟩ := r; cases e; exact h
  | flt y => obtain ⟨t, e⟩ := r; cases e; exact h
  | ref a => cases r; exact h
  | ty n => cases r; exact h

/-- what is known of an instance, as the library's rules ask it -/
theorem inst_at {a C dx : Addr} {fs : List (Str × V)} (I : Inv X pins sl H s) (e : H a = some (.ins C dx fs)) : ∃ ox od, PySem.W.InstAt s.heap a ox C od := by
  obtain ⟨mA, J, _⟩ := ins_get I.hok e
  obtain ⟨od, J, _⟩ := J.look
  exact ⟨_, _, J⟩
end

/-! ### x op y for two instances of one class -/
section
variable {X : Cx} {CX : CXT} {k : Nat} {C f : Addr} {fd : FuncData} {ps : List Str} {sp : Sp} {E : XK}
def rOwn (C : Addr) (sp : Sp) (E : XK) : R2 := fun x y H Q => ∃ a b dx dy fs gs, x = .ref a ∧ y = .ref b ∧
  H a = some (.ins C dx fs) ∧ H b = some (.ins C dy gs) ∧ sp [.ref a, .ref b] H Q E
theorem op_own {op : Operator} (hc : PySem.W.selfFirst X.K C = true) (hs : PySem.W.findIn X.K (.ref C) (PySem.dunder op.info.2) = some (some (.ref f)))
    (hf : PySem.W.isFn X.K (.ref f) = true) (F : FnOk X.prog X.w X.K X.mg X.base CX k f fd ps sp) (hr : Room k X.A) (hb : Binds X.K fd ps []) (hx : Passes CX X E) :
    OpR X (binaryOp op) (rOwn C sp E) := by
  intro pins s sl H x y u v Q I rx ry h
  obtain ⟨a, b, dx, dy, fs, gs, rfl, rfl, ha, hb', q⟩ := h
  cases rx
  cases ry
  obtain ⟨ox, od, J⟩ := inst_at I ha
  obtain ⟨oy, oe, J'⟩ := inst_at I hb'
  obtain ⟨m, hF⟩ := I.fr
  exact PySem.W.binop_K hF I.ok.mod.kin J J'.type hc hs hf
    (thn (run_fn (vs := [.ref a, .ref b]) (us := [.ref a, .ref b]) F hr hb .nil hx I (.cons rfl (.cons rfl .nil)) q) fun _ _ z => cmpBack z)

/-- x op n for an instance and a whole number -/
def rOwnI (C : Addr) (sp : Sp) (E : XK) : R2 := fun x y H Q => ∃ a dx fs n, x = .ref a ∧ y = .int n ∧ H a = some (.ins C dx fs) ∧ sp [.ref a, .int n] H Q E
theorem op_ownI {op : Operator} {fo ro rc : Option Value} (hc : PySem.W.selfFirst X.K C = true) (hs : PySem.W.findIn X.K (.ref C) (PySem.dunder op.info.2) = some (some (.ref f)))
    (hf : PySem.W.isFn X.K (.ref f) = true) (h0 : PySem.W.findIn X.K (.ref C) (dunderR op.info.2) = some rc) (hp : rc = none ∨ ∃ g : Addr, rc = some (.ref g))
    (h1 : PySem.W.findIn X.K (.type "int") (PySem.dunder op.info.2) = some fo) (h2 : PySem.W.findIn X.K (.type "int") (dunderR op.info.2) = some ro)
    (hsub : PySem.W.subIn X.K (.type "int") (.ref C) = some false)
    (F : FnOk X.prog X.w X.K X.mg X.base CX k f fd ps sp) (hr : Room k X.A) (hb : Binds X.K fd ps []) (hx : Passes CX X E) :
    OpR X (binaryOp op) (rOwnI C sp E) := by
  intro pins s sl H x y u v Q I rx ry h
  obtain ⟨a, dx, fs, n, rfl, rfl, ha, q⟩ := h
  cases rx
  obtain ⟨t, rfl⟩ := ry
  obtain ⟨ox, od, J⟩ := inst_at I ha
  obtain ⟨m, hF⟩ := I.fr
  exact PySem.W.ksp_binT (T := "int") hF I.ok.mod.kin J rfl hc hs hf h0 hp h1 h2 hsub
    (thn (run_fn (vs := [.ref a, .int n]) (us := [.ref a, .int n t]) F hr hb .nil hx I (.cons rfl (.cons ⟨t, rfl⟩ .nil)) q) fun _ _ z => cmpBack z)

/-- -x -/
def rOwnU (C : Addr) (sp : Sp) (E : XK) : V → Hp → VK → Prop := fun x H Q => ∃ a dx fs, x = .ref a ∧ H a = some (.ins C dx fs) ∧ sp [.ref a] H Q E
theorem un_own (hs : PySem.W.findIn X.K (.ref C) "__neg__" = some (some (.ref f))) (hf : PySem.W.isFn X.K (.ref f) = true)
    (F : FnOk X.prog X.w X.K X.mg X.base CX k f fd ps sp) (hr : Room k X.A) (hb : Binds X.K fd ps []) (hx : Passes CX X E) :
    UnR X (unaryOp .USub) (rOwnU C sp E) := by
  intro pins s sl H x u Q I rx h
  obtain ⟨a, dx, fs, rfl, ha, q⟩ := h
  cases rx
  obtain ⟨ox, od, J⟩ := inst_at I ha
  obtain ⟨m, hF⟩ := I.fr
  exact PySem.W.ksp_neg hF I.ok.mod.kin J hs hf (run_fn (vs := [.ref a]) (us := [.ref a]) F hr hb .nil hx I (.cons rfl .nil) q)

/-- abs(x) by an own __abs__ -/
def rOwnAbs (C : Addr) (sp : Sp) (E : XK) : List V → Hp → VK → Prop := fun xs H Q => ∃ a dx fs, xs = [.ref a] ∧ H a = some (.ins C dx fs) ∧ sp [.ref a] H Q E
/-- a call of a built-in function that runs nothing else before its own body: the code that runs within it has one unit more -/
theorem call_own_abs (hs : PySem.W.findIn X.K (.ref C) "__abs__" = some (some (.ref f))) (hf : PySem.W.isFn X.K (.ref f) = true)
    (F : FnOk X.prog X.w X.K X.mg X.base CX k f fd ps sp) (hr : Room (k + 1) X.A) (hb : Binds X.K fd ps []) (hx : Passes CX X E) :
    CallR X (.builtin "abs") (rOwnAbs C sp E) := by
  intro pins s sl H xs us Q I r h
  obtain ⟨a, dx, fs, rfl, ha, q⟩ := h
  obtain ⟨u, rfl, ru⟩ := vals1 r
  cases ru
  obtain ⟨ox, od, J⟩ := inst_at I ha
  have e := I.env0
  have e0 : Env0 X.prog X.w X.K X.mg X.base X.A.in1 X.stack s H := e.in1
  have r2 : Vals [V.ref a] [Value.ref a] := .cons rfl .nil
  have hl := F.len _ _ _ _ q
  refine Calls.call_function_entry kind_abs plain_abs entry_abs (args_abs _) ?_
  unfold Builtin.«abs»
  refine wpAny_bind (m := oneArg "abs" _) (wpAny_pure ?_)
  refine wpAny_bind (PySem.W.special_fn I.kIn J hs (beq_iff_eq.mp hf) ?_)
  refine wpAny_call (codeAny_mono (F.run X.A.in1 X.stack s H ⟨[.ref a], []⟩ [.ref a] [.ref a] Q E hr.in1 e0 (by
    have := hb s [.ref a] I.kIn (by simpa using hl)
    simpa using this) r2 q) fun r s' hq => ?_)
  cases r with
  | error e => exact hx pins sl H s e s' I hq
  | ok fl =>
    cases fl with
    | ret w => exact wpAny_pure ⟨_, rfl, I.after hq⟩
    | next => exact False.elim hq
    | brk => exact False.elim hq
    | cont => exact False.elim hq
end

/-! ### // by any divisor but 0, below 2 ^ 9000 -/
def CFdv (_ j : Int) : Prop := j ≠ 0 ∧ j.natAbs.log2 < 9000
theorem op_fdv {X : Cx} : OpR X (binaryOp .FloorDiv) (rI CFdv fun i j => .int (i.fdiv j)) :=
  opI fun i j _ _ _ _ _ hc q => floordiv_int hc.1 q (.inl (PyProof.noPylong_of_log2 hc.2))

/-! ### an own error made without arguments -/
theorem pmk_bare {X : Cx} {C : Addr} {bmB : List Value} {B newId initId : String} {x : Str} {p pos : Pos} (F : ExcBaseFacts B newId initId bmB) (q : PySem.W.excIn X.K C bmB newId = true)
    (gC : X.mg x = some (.ref C)) (kC : PySem.W.keepIn X.K (.ref C) = true) (r : Raises X (.ref C)) (hg : Gl X x) (hdb : (x == ("__debug__" : Str)) = false := by decide) :
    PMk X (.Call (.Name x p) [] [] pos) (fun _ H Q => Q (.ref C) none H) := by
  intro pins s sl H Q I h
  refine wpAny_Call_Name_kw (ld_glob I hg gC ?_ hdb)
  refine PySem.W.callWith_K0 I.kIn kC ?_
  obtain ⟨bm, N, nm, qn, bs, hdct, sn, sub, ab, col, dd, k0, k1, k2, k3, k5, mN, hC, hN, hni, T⟩ := exc_obj I.kIn q
  exact wpAny_call_exc_subT F T hC hN hni (fun h' e hm => mk_of I hm r h (I.hok.gone hm.new)) (Nat.zero_le _)
end Fc
set_option Elab.async false
set_option linter.all false
set_option maxRecDepth 100000
set_option maxHeartbeats 4000000
/-! More rules of mine: a new instance or a method's call whose error an except clause takes; isinstance of a caught error with fields. -/
namespace Fc
open PySem PySem.Spec PyProof.Rows L2

section
variable {X : Cx} {CX : CXT} {k : Nat} {C f : Addr} {fd : FuncData} {ps : List Str} {sp : Sp} {E : L2.St → XK}
/-- C(..), where what is raised is wished for at the slots -/
def tMakeS (C : Addr) (sp : Sp) (E : L2.St → XK) (t : TA) : TE := fun sl H Q => t sl H fun vs H1 => ∀ x dx, H1 x = none → H1 dx = none → dx ≠ x →
  sp (.ref x :: vs) (upd (upd H1 dx (.own x)) x (.ins C dx [])) (fun v H2 => v = .non ∧ Q (.ref x) H2) (E sl)
theorem run_makeS {pins : List (Addr × Obj)} {sl : L2.St} {H : Hp} {s : Shared} {Q : VK} {us : List Value} {vs : List V} (M : Mk X.K C f)
    (F : FnOk X.prog X.w X.K X.mg X.base CX k f fd ps sp) (hr : Room (k + 1) X.A) (hb : Binds X.K fd ps []) (hx : PassesAt CX X sl (E sl))
    (I : Inv X pins sl H s) (r : Vals vs us)
    (h : ∀ x dx, H x = none → H dx = none → dx ≠ x → sp (.ref x :: vs) (upd (upd H dx (.own x)) x (.ins C dx [])) (fun v H2 => v = .non ∧ Q (.ref x) H2) (E sl)) :
    wpAny (model X.prog X.w) X.A (call (.ref C) us) (EP X pins sl Q) X.xe s := by
  have fr : ∀ j, H (s.heap.objs.size + j) = none := fun j => I.hok.fresh (Nat.le_add_right _ _)
  have hq := h (s.heap.objs.size + 1) s.heap.objs.size (fr 1) (fr 0) (Nat.ne_of_lt (Nat.lt_succ_self _))
  have I2 := Inv.made (C := C) I
  have r2 : Vals (V.ref (s.heap.objs.size + 1) :: vs) (Value.ref (s.heap.objs.size + 1) :: us) := .cons rfl r
  have hl : (Value.ref (s.heap.objs.size + 1) :: us).length = ps.length := r2.length.symm.trans (F.len _ _ _ _ hq)
  have bd := hb { s with heap := (s.heap.push PySem.W.emptyDict).push (PySem.W.instObj C s.heap.objs.size) } (Value.ref (s.heap.objs.size + 1) :: us) I2.kIn (by rw [List.append_nil]; exact hl)
  rw [List.append_nil] at bd
  have run := F.run _ X.stack _ _ ⟨Value.ref (s.heap.objs.size + 1) :: us, []⟩ (Value.ref (s.heap.objs.size + 1) :: us) _ _ (E sl) (hr.make C us []) (I2.env0.make C us []) bd r2 hq
  refine wpAny_call (make_map (f := f) I.kIn M.makes M.init (beq_iff_eq.mp M.fn) (codeAny_mono run fun r s' hq' => ?_))
  cases r with
  | error e => exact hx pins _ _ e s' I2 hq'
  | ok fl =>
    cases fl with
    | ret u =>
      obtain ⟨v, H', I3, rv, ev, q3⟩ := I2.after hq'
      subst ev
      exact ⟨rv, ⟨V.ref (s.heap.objs.size + 1), H', I3, rfl, q3⟩⟩
    | next => exact False.elim hq'
    | brk => exact False.elim hq'
    | cont => exact False.elim hq'
theorem pe_makeS {x : Str} {p pos : Pos} {e : Expr} {es : List Expr} {t : TA} (M : Mk X.K C f) (F : FnOk X.prog X.w X.K X.mg X.base CX k f fd ps sp) (hr : Room (k + 1) X.A)
    (hg : Gl X x) (hm : X.mg x = some (.ref C)) (hb : Binds X.K fd ps []) (hx : ∀ sl, PassesAt CX X sl (E sl)) (ha : PA X (e :: es) t)
    (hdb : (x == ("__debug__" : Str)) = false := by decide) (he : starEach (e :: es) X.env = (false, eval e X.env) :: starEach es X.env := by rfl)
    (hpl : (backTo pos (starEach es X.env)).any (·.1) = false := by rfl) : PE X (.Call (.Name x p) (e :: es) [] pos) (tMakeS C sp E t) :=
  ⟨fun pins s sl H Q I h => wpAny_Call_Name_kw (ld_glob I hg hm (PySem.W.callWith_K (h₀ := X.base) I.ok.mod.kin M.kp
    (thn (ha.run pos pins s sl H _ I h) fun us s1 ⟨vs, H1, I1, r, q⟩ => ⟨I1.kIn, run_makeS M F hr hb (hx sl) I1 r q⟩) he hpl) hdb)⟩

/-- o.m(..), where what is raised is wished for at the slots -/
def tMethS (C : Addr) (m : Str) (sp : Sp) (E : L2.St → XK) (ta : TE) (t : TA) : TE := fun sl H Q => ta sl H fun x H1 => ∃ a dx fs, x = .ref a ∧
  H1 a = some (.ins C dx fs) ∧ fs.lookup m = none ∧ t sl H1 fun vs H2 => sp (x :: vs) H2 Q (E sl)
theorem pe_methS {m : Str} {o e : Expr} {es : List Expr} {ta : TE} {t : TA} {apos pos : Pos} {pl : Sem Bool} (ho : PE X o ta) (c : Cls X.K C) (hm : Meth X.K C m f)
    (F : FnOk X.prog X.w X.K X.mg X.base CX k f fd ps sp) (hr : Room k X.A) (hb : Binds X.K fd ps []) (hx : ∀ sl, PassesAt CX X sl (E sl)) (ha : PA X (e :: es) t)
    (hst : starEach (e :: es) X.env = (false, eval e X.env) :: starEach es X.env := by rfl) (hpl : (backTo pos (starEach es X.env)).any (·.1) = false := by rfl)
    (ht : eval (.Call (.Attribute o m apos) (e :: es) [] pos) X.env = (do
      let v ← eval o X.env
      standAt apos.atName
      let (g, first) ← holding [v] (getMethod v m pl)
      callWith pos g first (backTo pos (starEach (e :: es) X.env)) (backToKw pos (keywordEach [] X.env))) := by rfl) :
    PE X (.Call (.Attribute o m apos) (e :: es) [] pos) (tMethS C m sp E ta t) := by
  refine ⟨fun pins s sl H Q I h => PySem.W.methodCall_KW (pl := pl) (thn (ho.run pins s sl H _ I h) fun u s1 hh => ?_) ht⟩
  obtain ⟨x, H1, I1, rx, a, dx, fs, ex, ea, l, q⟩ := hh
  subst ex
  cases rx
  refine getmeth_ok I1 ea c hm l (PySem.W.callWith_K (first := [.ref a]) (h₀ := X.base) I.ok.mod.kin hm.kp ?_ hst hpl)
  exact thn (ha.run pos pins s1 sl H1 _ I1 q) fun us s2 ⟨vs, H2, I2, r, q2⟩ => ⟨I2.kIn, run_fnS (us := .ref a :: us) (vs := .ref a :: vs) F hr hb (hx sl) I2 (.cons rfl r) q2⟩
end

/-! ### isinstance of a caught error, with or without a dict of its own -/
section
open PySem.W PySem.Calls
variable {prog : Program} {w : World} {A : Around} {E : Value → Shared → Prop} {s : Shared} {K : Frag} {x D : Addr} {ox : Obj} {od : Option Obj}
theorem find_data {name : Str} {a g : Value} (hc : (clsIn K D).isSome = true) (ha : findIn K (.ref D) name = some (some a)) (hg : specialIn K a "__get__" = some (some g))
    (ht : takesIn K a = some true) : findObj K D od name = some (.bind g a) := by
  obtain ⟨cd, e⟩ := Option.isSome_iff_exists.mp hc
  unfold findObj
  rw [e, Option.bind_some, ha, Option.bind_some]
  simp [hg, ht]
theorem err_class {Q : Option Value → Shared → Prop} (T : ExcC K D) (X : K.In s.heap) (I : InstAt s.heap x ox D od) (h : Q (some (.ref D)) { s with toks := s.toks + 1 }) :
    wpAny (model prog w) A (getAttr? (.ref x) "__class__") Q E s := by
  have hf : findObj K D od "__class__" = some (.bind (.builtin "getset_descriptor.__get__") (.builtin "object.__class__")) :=
    find_data (by obtain ⟨cd, hc, _⟩ := any_some T.hd; rw [hc]; rfl) T.ha T.hn T.ht
  obtain ⟨hp, g, d, t, os⟩ := s
  have L0 := I.type (M := model prog w)
  have L1 := looks_findIn (M := model prog w) X T.hg
  have L2 := looks_findIn (M := model prog w) X T.hk
  have L3 := looks_find (M := model prog w) X I hf
  have sub : Looks (model prog w) hp (isInstance (.ref x) (.type "BaseException")) true := L0.andThen (looks_subIn X T.hs)
  have z0 : (false && onTheHeap (Value.builtin "BaseException.__getattribute__")) = false := rfl
  have z2 : (Value.builtin "BaseException.__getattribute__" == Value.builtin "object.__getattribute__") = false := by decide +kernel
  have z1 : (onTheHeap (Value.ref D) && Value.builtin "BaseException.__getattribute__" == Value.builtin "object.__getattribute__") = false := by rw [z2]; rfl
  unfold getAttr? getAttrBy? getAttrBy
  refine wpAny_bind (wpAny_mkText (wpAny_bind (wpAny_attempt (wpAny_holding (wpAny_bind (L0.at (wpAny_bind (L1.at ?_))))))))
  show wpAny _ _ (if (onTheHeap (Value.ref D) && Value.builtin "BaseException.__getattribute__" == Value.builtin "object.__getattribute__") = true then _ else _) _ _ _
  rw [z1, if_neg Bool.false_ne_true]
  unfold getAttrByItsOwn hookBefore
  refine wpAny_bind ?_
  rw [if_pos (show onTheHeap (Value.ref D) = true from rfl)]
  refine L2.at (wpAny_bind (wpAny_attempt (wpAny_holding ?_)))
  unfold callGetattribute
  rw [z0, if_neg Bool.false_ne_true]
  unfold boundAndCalled
  rw [PySem.F.excAttr_ValueError.ga.bind (.ref x)]
  refine wpAny_bind (wpAny_pure ?_)
  show wpAny _ _ (call (.builtin "BaseException.__getattribute__") [.ref x, .str "__class__" t]) _ _ _
  refine wpAny_call (codeAny_call_builtin PySem.F.excAttr_ValueError.ga.plain PySem.F.entry_bexc_ga ?_)
  refine @check_slot (model prog w) _ _ ⟨hp, g, d, t + 1, os⟩ "BaseException.__getattribute__" "BaseException" "__getattribute__" (.ref x)
    [.str "__class__" t] [] _ (by decide +kernel) (by decide +kernel) sub (PySem.F.args_bexc_ga (.ref x) (.str "__class__" t)) ?_
  unfold Builtin.«object.__getattribute__»
  refine wpAny_bind (wpAny_of_eq (a := ((Value.ref x : Value), [Value.str "__class__" t])) (by first | rfl | (simp only [slotArgs]; rfl)) ?_)
  refine wpAny_bind (wpAny_pure (wpAny_bind (L0.at (wpAny_bind (L3.at ?_)))))
  show wpAny _ _ (holding [Value.builtin "object.__class__"] (call (.builtin "getset_descriptor.__get__") [.builtin "object.__class__", .ref x, .ref D]) >>= ret) _ _ _
  refine wpAny_bind (wpAny_holding (wpAny_call (class_get (s := ⟨hp, g, d, t + 1, os⟩) (ox := ox) (od := od) X I T.hm (wpAny_pure ?_))))
  show wpAny _ _ (handedOut (.ref D)) _ _ _
  rw [handedOut_of (v := .ref D) rfl]
  first
    | exact wpAny_pure (wpAny_pure h)
    | exact wpAny_pure h
    | exact wpAny_pure (wpAny_bind (wpAny_pure (wpAny_pure h)))
theorem kit_err (T : ExcC K D) : KitX K (.ref x) (.ref D) (fun h => InstAt h x ox D od) where
  ty := fun _ _ _ I => I.type
  it := fun _ _ X _ => by
    obtain ⟨cd, e, _⟩ := any_some T.hd
    unfold clsIn at e
    split at e
    · rename_i z
      exact fun A' Q' E' s' k q => by
        unfold isType loadHead
        exact wpAny_bind (wpAny_loadPart (k _ _ (X _ _ z)) (wpAny_pure q))
    · cases e
  ne := fun h tp dd its n sl X htp => (handS_kitx_exc (x := x) (ox := ox) T.hg T.hk T.hs T.hd T.ha T.hn T.ht T.hm).ne h tp dd its n sl X htp
  ca := fun X I k => err_class T X I k
end
/-- isinstance(e, c), e the error that the suite holds; its own dict, where it has one, is tracked -/
def rIsX (K : PySem.W.Frag) (cls : Value) (d : Option Addr) (a : Addr) : List V → Hp → VK → Prop := fun xs H Q => ∃ (D : Addr) (c : V) (cv : Value) (b : Bool),
  cls = .ref D ∧ ExcC K D ∧ (∀ dd, d = some dd → ∃ fs, H dd = some (.xd fs)) ∧ xs = [.ref a, c] ∧ (∀ u, RelV c u → u = cv) ∧ PySem.W.kitOne K (.ref D) cv = some b ∧ Q (.bl b) H
theorem call_isX {X : Cx} {a : Addr} {cls : Value} {d : Option Addr} {oe : Obj} {pn : List (Addr × Obj)} (hz : Zc cls d oe) (hf : ∃ vs, oe.data = .fields vs) :
    CallR (X.suite a ((a, oe) :: pn)) (.builtin "isinstance") (rIsX X.K cls d a) := by
  intro pins s sl H xs us Q I r h
  obtain ⟨D, c, cv, b, rfl, T, hd, rfl, hcv, e, q⟩ := h
  obtain ⟨u1, u2, rfl, r1, r2⟩ := vals2 r
  cases r1
  have ec := hcv _ r2
  subst ec
  obtain ⟨hget, _⟩ := I.pin (a, oe) (List.mem_append.mpr (.inl List.mem_cons_self))
  obtain ⟨vs, hv⟩ := hf
  have fin : ∀ tk, EP (X.suite a ((a, oe) :: pn)) pins sl Q (.bool b) { s with toks := tk } := fun tk => ⟨.bl b, H, I.tok tk, rfl, q⟩
  cases d with
  | none =>
    have J : PySem.W.InstAt s.heap a oe D none := ⟨hget, hz.1, by unfold PySem.W.notCls; rw [hv] <;> rfl, by rw [hz.2]; exact True.intro⟩
    exact PySem.W.kia_one (kit_err T) I.kIn J e (fun z => nomatch z) fin
  | some dd =>
    obtain ⟨fs, hx⟩ := hd dd rfl
    obtain ⟨mA, hns, _⟩ := (show ObjOk X.prog X.w H s.heap dd (.xd fs) from I.hok dd _ hx)
    obtain ⟨od, ho, _⟩ := lookIn_ns hns
    have J : PySem.W.InstAt s.heap a oe D (some od) := ⟨hget, hz.1, by unfold PySem.W.notCls; rw [hv] <;> rfl, by rw [hz.2]; exact ho⟩
    exact PySem.W.kia_one (kit_err T) I.kIn J e (fun z => nomatch z) fin
end Fc
set_option Elab.async false
set_option linter.all false
set_option maxRecDepth 100000
set_option maxHeartbeats 4000000
/-! == of an own instance with other kinds, both ways round. -/
namespace Fc
open PySem PySem.Spec PyProof.Rows L2
open AutoSeq1 (wpAny_loadPart')
section
open PySem.W
variable {prog : Program} {w : World} {A : Around} {E : Value → Shared → Prop} {s : Shared} {K : Frag} {x C f : Addr} {ox : Obj} {od : Option Obj}
/-- other == x: other's own == declines, then x's is asked -/
theorem rc_back {b : Value} {T id : String} {Q : Value → Shared → Prop} (hu : A.units < cLine) (hT : s.TypeIs b T) (slot : Slot T (cmpInfo .Eq).2.1 id) (X : K.In s.heap) (I : InstAt s.heap x ox C od)
    (hsub : subIn K (.ref C) (.type T) = some false) (hs : findIn K (.ref C) "__eq__" = some (some (.ref f))) (hf : isFn K (.ref f) = true)
    (decl : ∀ Q' : Value → Shared → Prop, Q' .notImplemented s → wpAny (model prog w) A (call (.builtin id) [b, .ref x]) Q' E s)
    (h : wpAny (model prog w) A (call (.ref f) [.ref x, b]) (PySem.W.CmpBack Q) E s) : wpAny (model prog w) A (richCompare .Eq b (.ref x)) Q E s := by
  have one : wpAny (model prog w) A (tryCompare (.ref x) (cmpInfo .Eq).2.2 b) (fun r s' => ∃ v, r = some v ∧ Q v s') E s := by
    unfold tryCompare
    refine wpAny_bind (ifBound_K X I hs hf (wpAny_mono h (fun v s' hv => ?_) fun _ _ e => e))
    cases v <;> first | exact hv.elim | exact wpAny_pure ⟨_, rfl, hv⟩
  rcases hi : cmpInfo CmpOp.Eq with ⟨sym, g, r⟩
  rw [hi] at slot one
  have hne : (Value.type T != Value.ref C) = true := by simp
  simp only [richCompare, hi, hT.oneThing_none]
  try with_reducible refine wpAny_holding ?_
  refine wpAny_bind (wpAny_cRoomFor_or (.inr hu) ?_)
  refine wpAny_bind (wpAny_typeOf hT (wpAny_bind (I.type.here ?_)))
  simp only [hne, if_true]
  refine wpAny_bind ((looks_subIn X hsub).here ?_)
  simp only [Bool.false_eq_true, if_false, Bool.not_false, if_true]
  refine wpAny_bind (m := tryCompare b _ (.ref x)) (wpAny_tryCompare_declines hT slot (decl _ ⟨rfl, ?_⟩))
  refine wpAny_bind (m := tryCompare (.ref x) _ b) (wpAny_mono one (fun r' s' hr => ?_) fun _ _ e => e)
  obtain ⟨v, rfl, q⟩ := hr
  exact wpAny_pure q
/-- the built-in kinds decline -/
theorem decl_int {i : Int} {t : Tok} {Q : Value → Shared → Prop} (hx : s.heap.get? x = some ox) (hd : ∀ v, ox.data ≠ .prim v) (hq : Q .notImplemented s) :
    wpAny (model prog w) A (call (.builtin "int.__eq__") [.int i t, .ref x]) Q E s := by
  refine GQ.call_here F.slot_int_eq (typeIs_int s i t) F.entry_int_eq (F.args_int_eq_2 _ _) ?_
  obtain ⟨oc, od, da, sl⟩ := ox
  obtain ⟨hp, g, d, tk, os⟩ := s
  cases da
  case prim v => exact absurd rfl (hd v)
  all_goals (wp_walk using wpAny_loadPart' hx)
  all_goals exact hq
theorem decl_str {i : Str} {t : Tok} {Q : Value → Shared → Prop} (hx : s.heap.get? x = some ox) (hd : ∀ v, ox.data ≠ .prim v) (hq : Q .notImplemented s) :
    wpAny (model prog w) A (call (.builtin "str.__eq__") [.str i t, .ref x]) Q E s := by
  refine GQ.call_here F.slot_str_eq (typeIs_str s i t) F.entry_str_eq (F.args_str_eq_2 _ _) ?_
  obtain ⟨oc, od, da, sl⟩ := ox
  obtain ⟨hp, g, d, tk, os⟩ := s
  cases da
  case prim v => exact absurd rfl (hd v)
  all_goals (wp_walk using wpAny_loadPart' hx)
  all_goals exact hq
theorem decl_none {Q : Value → Shared → Prop} (hq : Q .notImplemented s) :
    wpAny (model prog w) A (call (.builtin "NoneType.__eq__") [.none, .ref x]) Q E s := by
  refine GQ.call_here F.slot_NoneType_eq rfl F.entry_NoneType_eq (F.args_NoneType_eq_2 _ _) ?_
  obtain ⟨hp, g, d, tk, os⟩ := s
  wp_walk
  exact hq
theorem decl_tup {l : Addr} {Q : Value → Shared → Prop} (hT : s.TypeIs (.ref l) "tuple") (X : K.In s.heap) (I : InstAt s.heap x ox C od) (hsub : subIn K (.ref C) (.type "tuple") = some false) (hq : Q .notImplemented s) :
    wpAny (model prog w) A (call (.builtin "tuple.__eq__") [.ref l, .ref x]) Q E s := by
  refine GQ.call_here F.slot_tuple_eq hT F.entry_tuple_eq (F.args_tuple_eq_2 _ _) ?_
  have L0 : Looks (model prog w) s.heap (isInstance (.ref x) (.type "tuple")) false := (I.type (M := model prog w)).andThen (looks_subIn X hsub)
  obtain ⟨hp, g, d, tk, os⟩ := s
  wp_walk using L0.at
  exact hq
theorem decl_lst {l : Addr} {Q : Value → Shared → Prop} (hT : s.TypeIs (.ref l) "list") (X : K.In s.heap) (I : InstAt s.heap x ox C od) (hsub : subIn K (.ref C) (.type "list") = some false) (hq : Q .notImplemented s) :
    wpAny (model prog w) A (call (.builtin "list.__eq__") [.ref l, .ref x]) Q E s := by
  refine GQ.call_here F.slot_list_eq hT F.entry_list_eq (F.args_list_eq_2 _ _) ?_
  have L0 : Looks (model prog w) s.heap (isInstance (.ref x) (.type "list")) false := (I.type (M := model prog w)).andThen (looks_subIn X hsub)
  obtain ⟨hp, g, d, tk, os⟩ := s
  wp_walk using L0.at
  exact hq
end

/-- values of built-in kinds whose own == declines -/
inductive BK (H : Hp) : V → String → Prop where
  | int (i : Int) : BK H (.int i) "int"
  | str (x : Str) : BK H (.str x) "str"
  | non : BK H .non "NoneType"
  | tup {a : Addr} {xs : List V} (h : H a = some (.tup xs)) : BK H (.ref a) "tuple"
  | lst {a : Addr} {xs : List V} (h : H a = some (.lst xs)) : BK H (.ref a) "list"
theorem BK.ty {K : PySem.W.Frag} {H : Hp} {x : V} {t : String} (b : BK H x t) : TyX K H x (.type t) := by
  cases b with
  | int i => exact .base (.int i)
  | str x => exact .base (.str x)
  | non => exact .base .non
  | tup h => exact .base (.tup h)
  | lst h => exact .base (.lst h)
theorem BK.mem {H : Hp} {x : V} {t : String} (b : BK H x t) : t ∈ ["int", "str", "NoneType", "tuple", "list"] := by
  cases b <;> decide
/-- ==, where one of the two at least is an instance of the class at C -/
def rEqR (K : PySem.W.Frag) (C : Addr) (sp : Sp) (E : XK) : R2 := fun x y H Q =>
  (∃ a dx fs t, x = .ref a ∧ H a = some (.ins C dx fs) ∧ TyX K H y t ∧ PySem.W.notFirst K C t = true ∧ sp [.ref a, y] H Q E) ∨
  (∃ a dx fs t, y = .ref a ∧ H a = some (.ins C dx fs) ∧ BK H x t ∧ sp [.ref a, x] H Q E)
theorem op_eqR {X : Cx} {CX : CXT} {k : Nat} {C f : Addr} {fd : FuncData} {ps : List Str} {sp : Sp} {E : XK}
    (sub : ∀ t, t ∈ ["int", "str", "NoneType", "tuple", "list"] → PySem.W.subIn X.K (.type t) (.ref C) = some false ∧ PySem.W.subIn X.K (.ref C) (.type t) = some false)
    (hs : PySem.W.findIn X.K (.ref C) "__eq__" = some (some (.ref f))) (hf : PySem.W.isFn X.K (.ref f) = true)
    (F : FnOk X.prog X.w X.K X.mg X.base CX k f fd ps sp) (hr : Room k X.A) (hb : Binds X.K fd ps []) (hx : Passes CX X E) :
    OpR X (compareOp .Eq) (rEqR X.K C sp E) := by
  intro pins s sl H x y u v Q I rx ry h
  show wpAny (model X.prog X.w) X.A (richCompare .Eq u v) (EP X pins sl Q) X.xe s
  rcases h with ⟨a, dx, fs, t, rfl, ha, ty, nf, q⟩ | ⟨a, dx, fs, t, rfl, ha, bk, q⟩
  · cases rx
    obtain ⟨ox, od, J⟩ := inst_at I ha
    obtain ⟨m, hF⟩ := I.fr
    obtain ⟨PP, Z, p, _⟩ := kit_of I ry ty
    exact PySem.W.cmp_K (op := .Eq) hr.units0 hF I.ok.mod.kin J (Z.ty _ _ I.kIn p) nf hs hf
      (thn (run_fn (vs := [.ref a, y]) (us := [.ref a, v]) F hr hb .nil hx I (.cons rfl (.cons ry .nil)) q) fun _ _ z => cmpBack z)
  · cases ry
    obtain ⟨mA, O, _⟩ := ins_get I.hok ha
    obtain ⟨od, J, _⟩ := O.look
    have own := thn (run_fn (vs := [.ref a, x]) (us := [.ref a, u]) F hr hb .nil hx I (.cons rfl (.cons rx .nil)) q) fun _ _ z => cmpBack z
    have s2 := (sub t bk.mem).2
    cases bk with
    | int i =>
      obtain ⟨tk, rfl⟩ := rx
      exact rc_back hr.units0 (typeIs_int s i tk) PySem.F.slot_int_eq I.kIn J s2 hs hf (fun Q' hq => decl_int O.obj (fun w z => by cases z) hq) own
    | str i =>
      obtain ⟨tk, rfl⟩ := rx
      exact rc_back hr.units0 (typeIs_str s i tk) PySem.F.slot_str_eq I.kIn J s2 hs hf (fun Q' hq => decl_str O.obj (fun w z => by cases z) hq) own
    | non =>
      cases rx
      exact rc_back hr.units0 rfl PySem.F.slot_NoneType_eq I.kIn J s2 hs hf (fun Q' hq => decl_none hq) own
    | @tup l xs hl =>
      cases rx
      obtain ⟨_, its, _, o, h1, h2, _⟩ := (show ObjOk X.prog X.w H s.heap l (.tup xs) from I.hok l _ hl)
      have hT : s.TypeIs (.ref l) "tuple" := ⟨o, h1, h2⟩
      exact rc_back hr.units0 hT PySem.F.slot_tuple_eq I.kIn J s2 hs hf (fun Q' hq => decl_tup hT I.kIn J s2 hq) own
    | @lst l xs hl =>
      cases rx
      obtain ⟨_, its, n, _, h1⟩ := (show ObjOk X.prog X.w H s.heap l (.lst xs) from I.hok l _ hl)
      have hT : s.TypeIs (.ref l) "list" := ⟨_, h1, rfl⟩
      exact rc_back hr.units0 hT PySem.F.slot_list_eq I.kIn J s2 hs hf (fun Q' hq => decl_lst hT I.kIn J s2 hq) own
end Fc
set_option Elab.async false
set_option maxHeartbeats 4000000
/-! Plain mathematics: lowest terms, Euclid's steps. -/
namespace Fc

/-- top and bottom in lowest terms, the bottom above 0 -/
def lo (t b : Int) : Int × Int := if b < 0 then (-t / (Int.gcd t b : Int), -b / (Int.gcd t b : Int)) else (t / (Int.gcd t b : Int), b / (Int.gcd t b : Int))

theorem gcd_pos {t b : Int} (h : b ≠ 0) : (0 : Int) < (Int.gcd t b : Int) := by
  have : 0 < Int.gcd t b := Int.gcd_pos_of_ne_zero_right t h
  omega
theorem fdv_neg (a g : Int) (hg : 0 < g) : a.fdiv (-g) = -a / g := by
  have e : a.fdiv (-g) = (- -a).fdiv (-g) := by rw [Int.neg_neg]
  rw [e, Int.neg_fdiv_neg, Int.fdiv_eq_ediv_of_nonneg _ (by omega)]
/-- as the program reckons it: both by the divisor with the bottom's sign -/
theorem lo_prog {t b : Int} (h : b ≠ 0) : lo t b =
    (t.fdiv (if b < 0 then -(Int.gcd t b : Int) else (Int.gcd t b : Int)), b.fdiv (if b < 0 then -(Int.gcd t b : Int) else (Int.gcd t b : Int))) := by
  have g := gcd_pos (t := t) h
  unfold lo
  by_cases c : b < 0
  · simp only [if_pos c, fdv_neg _ _ g]
  · simp only [if_neg c, Int.fdiv_eq_ediv_of_nonneg _ (Int.le_of_lt g)]

/-- the two facts that say it all: what is divided is the common divisor -/
theorem lo_split {t b : Int} (h : b ≠ 0) : ∃ k : Int, k ≠ 0 ∧ t = (lo t b).1 * k ∧ b = (lo t b).2 * k ∧ 0 < (lo t b).2 ∧ Int.gcd (lo t b).1 (lo t b).2 = 1 ∧ k.natAbs = Int.gcd t b := by
  have g := gcd_pos (t := t) h
  have d1 : (Int.gcd t b : Int) ∣ t := Int.gcd_dvd_left _ _
  have d2 : (Int.gcd t b : Int) ∣ b := Int.gcd_dvd_right _ _
  obtain ⟨x, hx⟩ := d1
  obtain ⟨y, hy⟩ := d2
  have e1 : t / (Int.gcd t b : Int) = x := by
    exact Int.ediv_eq_of_eq_mul_right (by omega) hx
  have e2 : b / (Int.gcd t b : Int) = y := by
    exact Int.ediv_eq_of_eq_mul_right (by omega) hy
  have e3 : -t / (Int.gcd t b : Int) = -x := by
    have : -t = (Int.gcd t b : Int) * (-x) := by rw [Int.mul_neg, ← hx]
    rw [this]
    exact Int.mul_ediv_cancel_left _ (by omega)
  have e4 : -b / (Int.gcd t b : Int) = -y := by
    have : -b = (Int.gcd t b : Int) * (-y) := by rw [Int.mul_neg, ← hy]
    rw [this]
    exact Int.mul_ediv_cancel_left _ (by omega)
  have cop : Int.gcd x y = 1 := by
    have z : Int.gcd t b = (Int.gcd t b) * Int.gcd x y := by
      have q : Int.gcd ((Int.gcd t b : Int) * x) ((Int.gcd t b : Int) * y) = (Int.gcd t b : Int).natAbs * Int.gcd x y := Int.gcd_mul_left ..
      rw [← hx, ← hy] at q
      simpa using q
    have gp : 0 < Int.gcd t b := by omega
    have : Int.gcd t b * 1 = Int.gcd t b * Int.gcd x y := by omega
    exact (Nat.eq_of_mul_eq_mul_left gp this).symm
  have ypos : b < 0 → y < 0 := fun c => by
    rcases Int.lt_trichotomy y 0 with q | q | q
    · exact q
    · subst q; omega
    · have := Int.mul_pos g q; omega
  have ypos' : ¬ b < 0 → 0 < y := fun c => by
    rcases Int.lt_trichotomy y 0 with q | q | q
    · have := Int.mul_neg_of_pos_of_neg g q; omega
    · subst q; omega
    · exact q
  by_cases c : b < 0
  · refine ⟨-(Int.gcd t b : Int), by omega, ?_, ?_, ?_, ?_, by omega⟩
    · unfold lo; rw [if_pos c, e3, Int.neg_mul_neg, Int.mul_comm]; exact hx
    · unfold lo; rw [if_pos c, e4, Int.neg_mul_neg, Int.mul_comm]; exact hy
    · unfold lo; rw [if_pos c, e4]; have := ypos c; show 0 < -y; omega
    · unfold lo; rw [if_pos c, e3, e4]; show Int.gcd (-x) (-y) = 1; rw [Int.neg_gcd, Int.gcd_neg]; exact cop
  · refine ⟨(Int.gcd t b : Int), by omega, ?_, ?_, ?_, ?_, by omega⟩
    · unfold lo; rw [if_neg c, e1, Int.mul_comm]; exact hx
    · unfold lo; rw [if_neg c, e2, Int.mul_comm]; exact hy
    · unfold lo; rw [if_neg c, e2]; exact ypos' c
    · unfold lo; rw [if_neg c, e1, e2]; exact cop
theorem lo_pos {t b : Int} (h : b ≠ 0) : 0 < (lo t b).2 := let ⟨_, _, _, _, p, _⟩ := lo_split (t := t) h; p
theorem lo_cop {t b : Int} (h : b ≠ 0) : Int.gcd (lo t b).1 (lo t b).2 = 1 := let ⟨_, _, _, _, _, p, _⟩ := lo_split (t := t) h; p
theorem lo_cross {t b : Int} (h : b ≠ 0) : (lo t b).1 * b = t * (lo t b).2 := by
  obtain ⟨k, _, e1, e2, _⟩ := lo_split (t := t) h
  have : (lo t b).1 * ((lo t b).2 * k) = (lo t b).1 * k * (lo t b).2 := by ac_rfl
  rw [← e1, ← e2] at this
  exact this

theorem dvd_cop {a b d : Int} (h : Int.gcd a b = 1) (e : b ∣ a * d) : b ∣ d := by
  have c : Nat.Coprime b.natAbs a.natAbs := by
    have : Nat.gcd a.natAbs b.natAbs = 1 := h
    rwa [Nat.gcd_comm] at this
  have q := Int.natAbs_dvd_natAbs.mpr e
  rw [Int.natAbs_mul] at q
  exact Int.natAbs_dvd_natAbs.mp (c.dvd_of_dvd_mul_left q)
/-- lowest terms are one pair -/
theorem low_one {a b c d : Int} (hb : 0 < b) (hd : 0 < d) (h1 : Int.gcd a b = 1) (h2 : Int.gcd c d = 1) (e : a * d = c * b) : a = c ∧ b = d := by
  have d1 : b ∣ d := by
    have : b ∣ a * d := by rw [e]; exact Int.dvd_mul_left _ _
    exact dvd_cop h1 this
  have d2 : d ∣ b := by
    have : d ∣ c * b := by rw [← e]; exact Int.dvd_mul_left _ _
    exact dvd_cop h2 this
  have eq : b = d := Int.le_antisymm (Int.le_of_dvd hd d1) (Int.le_of_dvd hb d2)
  subst eq
  exact ⟨Int.eq_of_mul_eq_mul_right (by omega) e, rfl⟩
theorem lo_eq {t b u d : Int} (hb : b ≠ 0) (hd : d ≠ 0) (e : t * d = u * b) : lo t b = lo u d := by
  obtain ⟨k, k0, e1, e2, p, cp, _⟩ := lo_split (t := t) hb
  obtain ⟨m, m0, e3, e4, q, cq, _⟩ := lo_split (t := u) hd
  have z : (lo t b).1 * (lo u d).2 = (lo u d).1 * (lo t b).2 := by
    have : ((lo t b).1 * (lo u d).2) * (k * m) = ((lo u d).1 * (lo t b).2) * (k * m) := by
      have l : ((lo t b).1 * (lo u d).2) * (k * m) = ((lo t b).1 * k) * ((lo u d).2 * m) := by ac_rfl
      have r : ((lo u d).1 * (lo t b).2) * (k * m) = ((lo u d).1 * m) * ((lo t b).2 * k) := by ac_rfl
      rw [l, r, ← e1, ← e2, ← e3, ← e4]
      exact e
    exact Int.eq_of_mul_eq_mul_right (Int.mul_ne_zero k0 m0) this
  obtain ⟨h1, h2⟩ := low_one p q cp cq z
  exact Prod.ext h1 h2
theorem lo_mul {t b k : Int} (hb : b ≠ 0) (hk : k ≠ 0) : lo (t * k) (b * k) = lo t b :=
  lo_eq (Int.mul_ne_zero hb hk) hb (by ac_rfl)
theorem lo_self {t b : Int} (hb : 0 < b) (h : Int.gcd t b = 1) : lo t b = (t, b) := by
  unfold lo
  rw [if_neg (by omega), h]
  simp
theorem lo_one (t : Int) : lo t 1 = (t, 1) := lo_self (by decide) (by simp)
theorem lo_zero {b : Int} (hb : b ≠ 0) : lo 0 b = (0, 1) := by
  have := lo_eq (t := 0) (u := 0) (d := 1) hb (by decide) (by simp)
  rw [this, lo_one]
theorem lo_self2 {t b : Int} (hb : b ≠ 0) : lo (lo t b).1 (lo t b).2 = lo t b := lo_self (lo_pos hb) (lo_cop hb)
theorem natAbs_le_mul {a k : Int} (hk : k ≠ 0) : a.natAbs ≤ (a * k).natAbs := by
  rw [Int.natAbs_mul]
  have : 1 ≤ k.natAbs := by omega
  exact Nat.le_mul_of_pos_right _ this
theorem lo_top_le {t b : Int} (h : b ≠ 0) : (lo t b).1.natAbs ≤ t.natAbs := by
  obtain ⟨k, k0, e1, _⟩ := lo_split (t := t) h
  conv => rhs; rw [e1]
  exact natAbs_le_mul k0
theorem lo_bot_le {t b : Int} (h : b ≠ 0) : (lo t b).2.natAbs ≤ b.natAbs := by
  obtain ⟨k, k0, _, e2, _⟩ := lo_split (t := t) h
  conv => rhs; rw [e2]
  exact natAbs_le_mul k0

/-! ### Euclid, step by step, as the law does it -/
structure Eu (g i a b : Nat) : Prop where
  gcd : Nat.gcd a b = g
  even : i % 2 = 0 → b < 2 ^ (750 - i / 2)
  odd : i % 2 = 1 → b < a ∧ a < 2 ^ (750 - i / 2)
theorem Eu.turn {g i a b : Nat} (h : Eu g i a b) (hb : b ≠ 0) (hi : i < 1500) : Eu g (i + 1) b (a % b) := by
  have lt : a % b < b := Nat.mod_lt _ (by omega)
  refine ⟨?_, fun e => ?_, fun o => ?_⟩
  · have := h.gcd
    rw [Nat.gcd_comm, ← Nat.gcd_rec, Nat.gcd_comm]
    exact this
  · have o : i % 2 = 1 := by omega
    obtain ⟨h1, h2⟩ := h.odd o
    have ex : 750 - i / 2 = (750 - (i + 1) / 2) + 1 := by omega
    rw [ex, Nat.pow_succ] at h2
    have hd := Nat.div_add_mod a b
    have q1 : 1 ≤ a / b := (Nat.one_le_div_iff (by omega)).mpr (by omega)
    have q2 : b * 1 ≤ b * (a / b) := Nat.mul_le_mul_left b q1
    omega
  · have e : i % 2 = 0 := by omega
    have := h.even e
    refine ⟨lt, ?_⟩
    have ex : (i + 1) / 2 = i / 2 := by omega
    rw [ex]
    exact this
theorem Eu.done {g a b : Nat} (h : Eu g 1500 a b) : b = 0 := by
  have := h.even (by decide)
  simpa using this
theorem Eu.zero {g i a : Nat} (h : Eu g i a 0) : a = g := by
  have := h.gcd
  simpa using this
theorem Eu.start {a b : Nat} (h : b < 2 ^ 750) : Eu (Nat.gcd a b) 0 a b := ⟨rfl, fun _ => by simpa using h, fun e => by omega⟩

theorem pow_cop {a b : Int} (n : Nat) (h : Int.gcd a b = 1) : Int.gcd (a ^ n) (b ^ n) = 1 := by
  have : Nat.Coprime (a.natAbs ^ n) (b.natAbs ^ n) := Nat.Coprime.pow n n h
  show Nat.gcd (a ^ n).natAbs (b ^ n).natAbs = 1
  rw [Int.natAbs_pow, Int.natAbs_pow]
  exact this
end Fc
set_option Elab.async false
set_option linter.all false
set_option maxRecDepth 100000
set_option maxHeartbeats 4000000
set_option exponentiation.threshold 100000
/-! What does not hang on a law: sizes, heaps, Ratios and pairs on the heap, the pot, promises. -/
namespace Fc
open PySem PySem.Spec PyProof.Rows L2
/-! ### sizes -/
/-- below 2 ^ n in size -/
def Bd (n : Nat) (i : Int) : Prop := i.natAbs < 2 ^ n
theorem Bd.mono {n m : Nat} {i : Int} (h : Bd n i) (l : n ≤ m) : Bd m i := Nat.lt_of_lt_of_le h (Nat.pow_le_pow_right (by decide) l)
theorem Bd.mul {n m : Nat} {i j : Int} (h : Bd n i) (g : Bd m j) : Bd (n + m) (i * j) := wide_lt h g
theorem Bd.add {n : Nat} {i j : Int} (h : Bd n i) (g : Bd n j) : Bd (n + 1) (i + j) := by
  unfold Bd at *
  rw [Nat.pow_succ]
  omega
theorem Bd.sub {n : Nat} {i j : Int} (h : Bd n i) (g : Bd n j) : Bd (n + 1) (i - j) := by
  unfold Bd at *
  rw [Nat.pow_succ]
  omega
theorem Bd.neg {n : Nat} {i : Int} (h : Bd n i) : Bd n (-i) := by
  unfold Bd at *
  omega
theorem Bd.abs {n : Nat} {i j : Int} (h : Bd n i) (e : j.natAbs ≤ i.natAbs) : Bd n j := Nat.lt_of_le_of_lt e h
theorem Bd.w {n m : Nat} {i j : Int} (h : Bd n i) (g : Bd m j) (a : 0 < n := by decide) (b : 0 < m := by decide) (l : n + m ≤ 1000000 := by decide) : CMulW i j := wide_mul h g a b l
theorem Bd.fdv {n : Nat} {i j : Int} (h : Bd n j) (a : j ≠ 0) (b : 0 < n := by decide) (l : n ≤ 9000 := by decide) : CFdv i j := ⟨a, Nat.lt_of_lt_of_le (PySem.Flt.log2_lt_of b h) l⟩
theorem Bd.div {n : Nat} {i j : Int} (h : Bd n j) (a : 0 < j) (b : 0 < n := by decide) (l : n ≤ 9000 := by decide) : CDivW i j := wide_div a h b l

/-! ### heaps -/
abbrev Ex (H H' : Hp) : Prop := Same H H'
theorem Ex.new {H : Hp} {p : Addr} {o : HO} (h : H p = none) : Ex H (upd H p o) := fun a u e => by rw [upd_ne (ne_of_none e h)]; exact e
theorem Ex.to {H H1 : Hp} {p : Addr} {o : HO} (x : Ex H H1) (h : H1 p = none) : Ex H (upd H1 p o) := x.trans (Ex.new h)
/-- all but what stands at p is as it was -/
def Keep (p : Addr) (H H' : Hp) : Prop := ∀ b o, H b = some o → b ≠ p → H' b = some o
theorem Keep.refl {p : Addr} {H : Hp} : Keep p H H := fun _ _ h _ => h
theorem Keep.trans {p : Addr} {H H1 H2 : Hp} (a : Keep p H H1) (b : Keep p H1 H2) : Keep p H H2 := fun c o h n => b c o (a c o h n) n
theorem Keep.of {p : Addr} {H H' : Hp} (h : Ex H H') : Keep p H H' := fun c o e _ => h c o e
theorem Keep.upd {p : Addr} {H : Hp} {o : HO} : Keep p H (upd H p o) := fun c u e n => by rw [upd_ne n]; exact e
theorem Keep.new {p q : Addr} {H : Hp} {o : HO} (h : H q = none) : Keep p H (L2.upd H q o) := Keep.of (Ex.new h)

/-- the fields of a Ratio -/
def rf (p : Int × Int) : List (Str × V) := [("top", .int p.1), ("bottom", .int p.2)]
theorem ne_tb : ¬ (("top" : Str) = "bottom") := by decide +kernel
theorem rf_put (t b : Int) : putF "bottom" (.int b) (putF "top" (.int t) []) = rf (t, b) := by
  show (if ("top" : Str) = "bottom" then _ else (("top" : Str), V.int t) :: putF "bottom" (.int b) []) = rf (t, b)
  rw [if_neg ne_tb]
  rfl
theorem rf_top (p : Int × Int) : (rf p).lookup ("top" : Str) = some (.int p.1) := by simp [rf, List.lookup]
theorem rf_bot (p : Int × Int) : (rf p).lookup ("bottom" : Str) = some (.int p.2) := by
  have : (("bottom" : Str) == "top") = false := by decide +kernel
  simp [rf, List.lookup, this]
theorem rf_no (p : Int × Int) {m : Str} (h : (m == "top") = false) (h2 : (m == "bottom") = false) : (rf p).lookup m = none := by
  simp [rf, List.lookup, h, h2]
/-- a Ratio with the fields p stands at a -/
def RatAt (C : Addr) (H : Hp) (a : Addr) (p : Int × Int) : Prop := ∃ dx, H a = some (.ins C dx (rf p))
theorem RatAt.ex {C : Addr} {H H' : Hp} {a : Addr} {p : Int × Int} (r : RatAt C H a p) (e : Ex H H') : RatAt C H' a p := let ⟨dx, h⟩ := r; ⟨dx, e _ _ h⟩
/-- a pair of whole numbers stands at a -/
def Pr (H : Hp) (a : Addr) (p : Int × Int) : Prop := H a = some (.tup [.int p.1, .int p.2])
theorem Pr.ex {H H' : Hp} {a : Addr} {p : Int × Int} (r : Pr H a p) (e : Ex H H') : Pr H' a p := e _ _ r
/-- a fair pair: the bottom above 0, both of at most n digits in base 2 -/
structure Sm (n : Nat) (p : Int × Int) : Prop where
  t : Bd n p.1
  b : Bd n p.2
  pos : 0 < p.2
theorem Sm.mono {n m : Nat} {p : Int × Int} (h : Sm n p) (l : n ≤ m) : Sm m p := ⟨h.t.mono l, h.b.mono l, h.pos⟩
theorem Sm.lo {n : Nat} {t b : Int} (ht : Bd n t) (hb : Bd n b) (h : b ≠ 0) : Sm n (lo t b) := ⟨ht.abs (lo_top_le h), hb.abs (lo_bot_le h), lo_pos h⟩
theorem pos_ne {b : Int} (h : 0 < b) : b ≠ 0 := by omega

theorem passF {X : Cx} {E : XK} : Passes CX0 X E := fun _ _ _ _ _ _ _ h => h.elim
theorem Sm.ne {n : Nat} {p : Int × Int} (h : Sm n p) : p.2 ≠ 0 := pos_ne h.pos
theorem Sm.nn {n m : Nat} {p q : Int × Int} (h : Sm n p) (g : Sm m q) : p.2 * q.2 ≠ 0 := Int.mul_ne_zero h.ne g.ne
theorem Bd.pow {m : Nat} {a : Int} (h : Bd m a) : ∀ i : Nat, Bd (m * i + 1) (a ^ i)
  | 0 => by unfold Bd; rw [Int.pow_zero, Nat.mul_zero]; decide
  | i + 1 => by
    rw [Int.pow_succ]
    exact ((Bd.pow h i).mul h).mono (by rw [Nat.mul_succ]; omega)
/-- the pot: a list of the cells, the place, and what is left of the cell -/
def PotAt (H : Hp) (p : Addr) : Prop := ∃ (l : Addr) (cs : List Int) (i c : Int), p ≠ l ∧ H p = some (.lst [.ref l, .int i, .int c]) ∧ H l = some (.lst (cs.map V.int)) ∧
  cs.length ≤ 63 ∧ 0 ≤ i ∧ 0 ≤ c ∧ ∀ z ∈ cs, 0 ≤ z
theorem PotAt.ex {H H' : Hp} {p : Addr} (h : PotAt H p) (e : Ex H H') : PotAt H' p := by
  obtain ⟨l, cs, i, c, ne, h1, h2, r⟩ := h
  exact ⟨l, cs, i, c, ne, e _ _ h1, e _ _ h2, r⟩
theorem PotAt.ne {H : Hp} {p t : Addr} (h : PotAt H p) (n : H t = none) : t ≠ p := fun e => by
  obtain ⟨l, cs, i, c, ne, h1, h2, r⟩ := h
  rw [e, h1] at n
  cases n
theorem Keep.free {p t : Addr} {H H' : Hp} (k : Keep p H H') (h : PotAt H' p) (n : H' t = none) : H t = none := by
  cases q : H t with
  | none => rfl
  | some o =>
    rw [k t o q (h.ne n)] at n
    cases n
theorem Pr.ne {H : Hp} {p t : Addr} {q : Int × Int} (r : Pr H t q) (h : PotAt H p) : t ≠ p := by
  obtain ⟨l, cs, i, c, ne, h1, h2, _⟩ := h
  exact ne_of r h1 (by intro z; cases z)
theorem Pr.keep {H H' : Hp} {p t : Addr} {q : Int × Int} (r : Pr H t q) (h : PotAt H p) (k : Keep p H H') : Pr H' t q := k t _ r (r.ne h)
theorem sz3 : 3 ≤ sizeLine := by rw [sizeLine_eq]; decide
theorem sz2 : 2 ≤ sizeLine := by rw [sizeLine_eq]; decide
def spStart (K : PySem.W.Frag) : Sp := fun vs H Q _ => ∃ (a : Addr) (ns : List Int), vs = [.ref a] ∧ SqL K H a (ns.map V.int) ∧ ns.length ≤ 63 ∧
  ∀ p H', PotAt H' p → Ex H H' → H p = none → Q (.ref p) H'
/-- a digit of the pot: all that is said of it is that it is below many -/
def spDigit : Sp := fun vs H Q _ => ∃ (p : Addr) (m : Int), vs = [.ref p, .int m] ∧ PotAt H p ∧ 0 < m ∧ Bd 300 m ∧
  ∀ d H', 0 ≤ d → d < m → PotAt H' p → Keep p H H' → Q (.int d) H'
/-- a drawn fraction -/
def spFraction : Sp := fun vs H Q _ => ∃ (p : Addr), vs = [.ref p] ∧ PotAt H p ∧ ∀ t q H', Pr H' t q → H t = none → Sm 220 q → PotAt H' p → Keep p H H' → Q (.ref t) H'
theorem bd_ten : Bd 210 ((10 : Int) ^ (60 : Int).toNat) := by show ((10 : Int) ^ 60).natAbs < 2 ^ 210; decide +kernel
theorem ten_pos : (0 : Int) < (10 : Int) ^ (60 : Int).toNat := by decide +kernel
theorem bd_twel : Bd 60 ((10 : Int) ^ (12 : Int).toNat) := by show ((10 : Int) ^ 12).natAbs < 2 ^ 60; decide +kernel
theorem twel_pos : (0 : Int) < (10 : Int) ^ (12 : Int).toNat := by decide +kernel
theorem bd_two : Bd 2 (2 : Int) := by show (2 : Int).natAbs < 2 ^ 2; decide
theorem bd_of {n : Nat} {i : Int} (h : i.natAbs < 2 ^ n) : Bd n i := h
theorem bd_le {n : Nat} {i j : Int} (h : Bd n j) (a : -j ≤ i) (b : i ≤ j) : Bd n i := by
  unfold Bd at *
  omega
theorem cpow (i : Int) (j : Nat) (h : i.natAbs < 2 ^ 64) (l : j ≤ 1000000) : CPow i (j : Int) := ⟨by omega, by omega, h⟩
def spHanded : Sp := fun vs H Q _ => ∃ (p t : Addr) (q : Int × Int), vs = [.ref p, .ref t] ∧ PotAt H p ∧ Pr H t q ∧ Sm 300 q ∧
  ∀ u k H', k ≠ 0 → Bd 3 k → Pr H' u (q.1 * k, q.2 * k) → H u = none → PotAt H' p → Keep p H H' → Q (.ref u) H'
theorem kit_self {K : PySem.W.Frag} {a : Addr} : PySem.W.kitOne K (.ref a) (.ref a) = some true := by
  unfold PySem.W.kitOne
  rw [if_pos (by simp)]
/-- lowest terms of at most 220 digits in base 2 -/
structure Lw (p : Int × Int) : Prop where
  s : Sm 220 p
  c : Int.gcd p.1 p.2 = 1
theorem Lw.s4 {p : Int × Int} (h : Lw p) : Sm 4000 p := h.s.mono (by decide)
theorem Lw.of {q : Int × Int} (h : Sm 220 q) : Lw (lo q.1 q.2) := ⟨Sm.lo h.t h.b h.ne, lo_cop h.ne⟩
theorem lo_k {q : Int × Int} (h : Sm 300 q) {k : Int} (k0 : k ≠ 0) : lo (q.1 * k) (q.2 * k) = lo q.1 q.2 := lo_mul h.ne k0
theorem bd_k {q : Int × Int} (h : Sm 300 q) {k : Int} (bk : Bd 3 k) : Bd 8900 (q.2 * k) := (h.b.mul bk).mono (by decide)
def spLaw (K : PySem.W.Frag) : Sp := fun vs H Q _ => ∃ (a : Addr) (ns : List Int), vs = [.ref a] ∧ SqL K H a (ns.map V.int) ∧ ns.length ≤ 63 ∧ ∀ H', Q (.bl true) H'
theorem kit_ref {K : PySem.W.Frag} {t : Value} {D : Addr} {b : Bool} (hd : PySem.W.hasDictIn K D = true) (ht : PySem.W.typeIn K (.ref D) = some (.type "type")) (hs : PySem.W.subIn K t (.ref D) = some b) (ne : t ≠ .ref D) : PySem.W.kitOne K t (.ref D) = some b := by
  obtain ⟨cd, hc, _⟩ := PySem.W.any_some hd
  have e2 : ((PySem.W.clsIn K D).isSome && PySem.W.typeIn K (.ref D) == some (.type "type")) = true := by rw [hc, ht] <;> rfl
  unfold PySem.W.kitOne
  rw [if_neg (fun z => ne (beq_iff_eq.mp z))]
  show (if ((PySem.W.clsIn K D).isSome && PySem.W.typeIn K (.ref D) == some (.type "type")) = true then PySem.W.subIn K t (.ref D) else none) = some b
  rw [if_pos e2]
  exact hs
theorem kit_typ {K : PySem.W.Frag} {D : Addr} {S : String} {b : Bool} (hm : PySem.W.kitMeta S = true) (hs : PySem.W.subIn K (.ref D) (.type S) = some b) : PySem.W.kitOne K (.ref D) (.type S) = some b := by
  unfold PySem.W.kitOne
  rw [if_neg (fun z => by cases beq_iff_eq.mp z)]
  show (if PySem.W.kitMeta S = true then PySem.W.subIn K (.ref D) (.type S) else none) = some b
  rw [if_pos hm]
  exact hs
end Fc
set_option Elab.async false
set_option linter.all false
set_option maxRecDepth 100000
set_option maxHeartbeats 4000000
/-! Fractions as rational numbers; what the ends of spans do under the five operations and the quotient. -/
namespace Fc
/-- what a pair is worth -/
def vl (p : Int × Int) : Rat := (p.1 : Rat) / (p.2 : Rat)
theorem cast_pos {b : Int} (h : 0 < b) : (0 : Rat) < (b : Rat) := Rat.intCast_pos.mpr h
theorem cast_ne {b : Int} (h : b ≠ 0) : (b : Rat) ≠ 0 := fun z => h (Rat.intCast_inj.mp (by rw [z] <;> rfl))
theorem vl_mul {p : Int × Int} (h : p.2 ≠ 0) : vl p * (p.2 : Rat) = (p.1 : Rat) := by
  have := cast_ne h
  unfold vl
  grind
theorem vl_le {p q : Int × Int} (hp : 0 < p.2) (hq : 0 < q.2) : vl p ≤ vl q ↔ p.1 * q.2 ≤ q.1 * p.2 := by
  have a := cast_pos hp
  have b := cast_pos hq
  have e1 := vl_mul (p := p) (by omega)
  have e2 := vl_mul (p := q) (by omega)
  rw [← Rat.intCast_le_intCast, Rat.intCast_mul, Rat.intCast_mul, ← e1, ← e2]
  constructor
  · intro h
    have := Rat.mul_le_mul_of_nonneg_left h (c := (p.2 : Rat) * (q.2 : Rat)) (Rat.mul_nonneg (by grind) (by grind))
    grind
  · intro h
    rcases (Rat.le_total (a := vl p) (b := vl q)) with z | z
    · exact z
    · have m := Rat.mul_le_mul_of_nonneg_left z (c := (p.2 : Rat) * (q.2 : Rat)) (Rat.mul_nonneg (by grind) (by grind))
      have e : (vl p - vl q) * ((p.2 : Rat) * (q.2 : Rat)) = 0 := by grind
      have n : 0 < (p.2 : Rat) * (q.2 : Rat) := Rat.mul_pos a b
      have : vl p - vl q = 0 := (Rat.mul_eq_zero.mp e).resolve_right (by grind)
      grind
theorem vl_lt {p q : Int × Int} (hp : 0 < p.2) (hq : 0 < q.2) : vl p < vl q ↔ p.1 * q.2 < q.1 * p.2 := by
  have := vl_le hq hp
  constructor
  · intro h
    have : ¬ (q.1 * p.2 ≤ p.1 * q.2) := fun z => by have := this.mpr z; grind
    omega
  · intro h
    have : ¬ (vl q ≤ vl p) := fun z => by have := this.mp z; omega
    grind
theorem vl_eq {p q : Int × Int} (hp : 0 < p.2) (hq : 0 < q.2) (h : vl p = vl q) : p.1 * q.2 = q.1 * p.2 := by
  have a := (vl_le hp hq).mp (by grind)
  have b := (vl_le hq hp).mp (by grind)
  omega
theorem vl_lo {t b : Int} (h : b ≠ 0) : vl (lo t b) = (t : Rat) / (b : Rat) := by
  obtain ⟨k, k0, e1, e2, p, _⟩ := lo_split (t := t) h
  have a := cast_ne k0
  have c := cast_pos p
  have f1 : (t : Rat) = ((lo t b).1 : Rat) * (k : Rat) := by rw [← Rat.intCast_mul, ← e1]
  have f2 : (b : Rat) = ((lo t b).2 : Rat) * (k : Rat) := by rw [← Rat.intCast_mul, ← e2]
  unfold vl
  rw [f1, f2]
  grind
/-! ### ranges -/
theorem mul_hi {a b c d x y : Rat} (h1 : a ≤ x) (h2 : x ≤ b) (h3 : c ≤ y) (h4 : y ≤ d) : x * y ≤ a * c ∨ x * y ≤ a * d ∨ x * y ≤ b * c ∨ x * y ≤ b * d := by
  rcases (Rat.le_total (a := 0) (b := y)) with hy | hy
  · have p1 : 0 ≤ (b - x) * y := Rat.mul_nonneg (by grind) hy
    rcases (Rat.le_total (a := 0) (b := b)) with hb | hb
    · have p2 : 0 ≤ b * (d - y) := Rat.mul_nonneg hb (by grind)
      right; right; right; grind
    · have p2 : 0 ≤ (-b) * (y - c) := Rat.mul_nonneg (by grind) (by grind)
      right; right; left; grind
  · have p1 : 0 ≤ (x - a) * (-y) := Rat.mul_nonneg (by grind) (by grind)
    rcases (Rat.le_total (a := 0) (b := a)) with ha | ha
    · have p2 : 0 ≤ a * (d - y) := Rat.mul_nonneg ha (by grind)
      right; left; grind
    · have p2 : 0 ≤ (-a) * (y - c) := Rat.mul_nonneg (by grind) (by grind)
      left; grind
theorem mul_lw {a b c d x y : Rat} (h1 : a ≤ x) (h2 : x ≤ b) (h3 : c ≤ y) (h4 : y ≤ d) : a * c ≤ x * y ∨ a * d ≤ x * y ∨ b * c ≤ x * y ∨ b * d ≤ x * y := by
  have := mul_hi (a := -b) (b := -a) (x := -x) (by grind) (by grind) h3 h4
  grind
theorem inv_anti {c d y : Rat} (h : 0 < c ∨ d < 0) (h3 : c ≤ y) (h4 : y ≤ d) : d⁻¹ ≤ y⁻¹ ∧ y⁻¹ ≤ c⁻¹ := by
  have one : ∀ u v : Rat, u ≤ v → (0 < u ∨ v < 0) → v⁻¹ ≤ u⁻¹ := by
    intro u v huv hs
    have hu : u ≠ 0 := by grind
    have hv : v ≠ 0 := by grind
    have eu := Rat.mul_inv_cancel u hu
    have ev := Rat.mul_inv_cancel v hv
    have sq : 0 ≤ (u * v) * ((v - u) * ((u⁻¹ * u⁻¹) * (v⁻¹ * v⁻¹))) := by
      have q1 : 0 ≤ u * v := by
        rcases hs with hs | hs
        · exact Rat.mul_nonneg (by grind) (by grind)
        · have := Rat.mul_nonneg (a := -u) (b := -v) (by grind) (by grind)
          grind
      have n1 : 0 ≤ u⁻¹ * u⁻¹ := by
        rcases (Rat.le_total (a := 0) (b := u⁻¹)) with z | z
        · exact Rat.mul_nonneg z z
        · have := Rat.mul_nonneg (a := -u⁻¹) (b := -u⁻¹) (by grind) (by grind)
          grind
      have n2 : 0 ≤ v⁻¹ * v⁻¹ := by
        rcases (Rat.le_total (a := 0) (b := v⁻¹)) with z | z
        · exact Rat.mul_nonneg z z
        · have := Rat.mul_nonneg (a := -v⁻¹) (b := -v⁻¹) (by grind) (by grind)
          grind
      exact Rat.mul_nonneg q1 (Rat.mul_nonneg (by grind) (Rat.mul_nonneg n1 n2))
    have e : (u * v) * ((v - u) * ((u⁻¹ * u⁻¹) * (v⁻¹ * v⁻¹))) = u⁻¹ - v⁻¹ := by grind
    grind
  exact ⟨one y d h4 (by grind), one c y h3 (by grind)⟩
/-- the law's six operations -/
def ow (op : Nat) (x y : Rat) : Rat := if op = 0 then x + y else if op = 1 then x - y else if op = 2 then x * y else if op = 3 then (if y < x then y else x) else if op = 4 then (if x < y then y else x) else x / y
/-- what is the least and the greatest of the four corners -/
structure Lst (op : Nat) (a b c d L : Rat) : Prop where
  at_ : L = ow op a c ∨ L = ow op a d ∨ L = ow op b c ∨ L = ow op b d
  h0 : L ≤ ow op a c
  h1 : L ≤ ow op a d
  h2 : L ≤ ow op b c
  h3 : L ≤ ow op b d
structure Grt (op : Nat) (a b c d L : Rat) : Prop where
  at_ : L = ow op a c ∨ L = ow op a d ∨ L = ow op b c ∨ L = ow op b d
  h0 : ow op a c ≤ L
  h1 : ow op a d ≤ L
  h2 : ow op b c ≤ L
  h3 : ow op b d ≤ L
theorem Lst.one {op : Nat} {a b c d L M : Rat} (x : Lst op a b c d L) (y : Lst op a b c d M) : L = M := by
  obtain ⟨x0, x1, x2, x3, x4⟩ := x
  obtain ⟨y0, y1, y2, y3, y4⟩ := y
  refine Rat.le_antisymm ?_ ?_
  · rcases y0 with e | e | e | e <;> rw [e] <;> assumption
  · rcases x0 with e | e | e | e <;> rw [e] <;> assumption
theorem Grt.one {op : Nat} {a b c d L M : Rat} (x : Grt op a b c d L) (y : Grt op a b c d M) : L = M := by
  obtain ⟨x0, x1, x2, x3, x4⟩ := x
  obtain ⟨y0, y1, y2, y3, y4⟩ := y
  refine Rat.le_antisymm ?_ ?_
  · rcases x0 with e | e | e | e <;> rw [e] <;> assumption
  · rcases y0 with e | e | e | e <;> rw [e] <;> assumption
theorem ow_in {op : Nat} {a b c d x y L U : Rat} (h5 : 5 ≤ op → 0 < c ∨ d < 0) (h1 : a ≤ x) (h2 : x ≤ b) (h3 : c ≤ y) (h4 : y ≤ d) (l : Lst op a b c d L) (g : Grt op a b c d U) : L ≤ ow op x y ∧ ow op x y ≤ U := by
  obtain ⟨_, l0, l1, l2, l3⟩ := l
  obtain ⟨_, g0, g1, g2, g3⟩ := g
  unfold ow at *
  by_cases o0 : op = 0
  · simp only [o0, if_true] at *; grind
  by_cases o1 : op = 1
  · simp only [o1, if_true] at *; simp at *; grind
  by_cases o2 : op = 2
  · subst o2
    simp at *
    have p := mul_hi h1 h2 h3 h4
    have q := mul_lw h1 h2 h3 h4
    constructor <;> grind
  by_cases o3 : op = 3
  · subst o3
    simp at *
    constructor <;> grind
  by_cases o4 : op = 4
  · subst o4
    simp at *
    constructor <;> grind
  · simp only [if_neg o0, if_neg o1, if_neg o2, if_neg o3, if_neg o4, Rat.div_def] at *
    obtain ⟨i1, i2⟩ := inv_anti (h5 (by omega)) h3 h4
    have p := mul_hi h1 h2 i1 i2
    have q := mul_lw h1 h2 i1 i2
    constructor <;> grind
theorem ends0 {a b c d : Rat} (h : a ≤ b) (g : c ≤ d) : Lst 0 a b c d (a + c) ∧ Grt 0 a b c d (b + d) := by
  constructor <;> constructor <;> (unfold ow; simp) <;> grind
theorem ends1 {a b c d : Rat} (h : a ≤ b) (g : c ≤ d) : Lst 1 a b c d (a - d) ∧ Grt 1 a b c d (b - c) := by
  constructor <;> constructor <;> (unfold ow; simp) <;> grind
theorem ends3 {a b c d : Rat} (h : a ≤ b) (g : c ≤ d) : Lst 3 a b c d (if a ≤ c then a else c) ∧ Grt 3 a b c d (if b ≤ d then b else d) := by
  constructor <;> constructor <;> (unfold ow; simp) <;> grind
theorem ends4 {a b c d : Rat} (h : a ≤ b) (g : c ≤ d) : Lst 4 a b c d (if c ≤ a then a else c) ∧ Grt 4 a b c d (if d ≤ b then b else d) := by
  constructor <;> constructor <;> (unfold ow; simp) <;> grind
end Fc
set_option Elab.async false
set_option linter.all false
set_option maxRecDepth 100000
set_option maxHeartbeats 4000000
/-! x in y, where y is an instance of an own class that says what is in it. -/
namespace Fc
open PySem PySem.Spec PyProof.Rows L2
section
open PySem.W
variable {M : Model} {A : Around} {E : Value → Shared → Prop} {s : Shared} {K : Frag} {c C f : Addr} {ox : Obj} {od : Option Obj}
theorem in_K {x : Value} {Q : Bool → Shared → Prop} (X : K.In s.heap) (I : InstAt s.heap c ox C od) (hs : findIn K (.ref C) "__contains__" = some (some (.ref f))) (hf : isFn K (.ref f) = true)
    (h : wpAny M A (call (.ref f) [.ref c, x]) (fun r s' => wpAny M A (truthy r) Q E s') E s) : wpAny M A (contains (.ref c) x) Q E s := by
  unfold contains
  refine wpAny_holding ?_
  have e0 : stdlibNamesSay? (.ref c) x = none := rfl
  simp only [e0, callSpecialUnlessNone?, specialOf]
  refine wpAny_bind (wpAny_bind (I.type.here ((looks_findIn X hs).here ?_)))
  show wpAny M A (if (some (Value.ref f) == some Value.none) = true then _ else _) Q E s
  rw [if_neg (by simp)]
  refine wpAny_bind (wpAny_bind (wpAny_bind (I.type.here ((looks_findIn X hs).here ?_))))
  refine wpAny_holding (wpAny_bind ((bind_fn X _ (beq_iff_eq.mp hf)).here ?_))
  show wpAny M A (if (Value.ref f == Value.none) = true then _ else _) _ E s
  rw [if_neg (by simp)]
  exact wpAny_bind (wpAny_mono h (fun v s' z => wpAny_pure z) fun _ _ z => z)
end
/-- x in y -/
def rIn (C : Addr) (sp : Sp) (E : XK) : R2 := fun x y H Q => ∃ a dx fs, y = .ref a ∧ H a = some (.ins C dx fs) ∧ sp [.ref a, x] H (fun v H' => ∃ b, v = .bl b ∧ Q (.bl b) H') E
theorem op_in {X : Cx} {CX : CXT} {k : Nat} {C f : Addr} {fd : FuncData} {ps : List Str} {sp : Sp} {E : XK}
    (hs : PySem.W.findIn X.K (.ref C) "__contains__" = some (some (.ref f))) (hf : PySem.W.isFn X.K (.ref f) = true)
    (F : FnOk X.prog X.w X.K X.mg X.base CX k f fd ps sp) (hr : Room k X.A) (hb : Binds X.K fd ps []) (hx : Passes CX X E) :
    OpR X (compareOp .In) (rIn C sp E) := by
  intro pins s sl H x y u v Q I rx ry h
  obtain ⟨a, dx, fs, rfl, ha, q⟩ := h
  cases ry
  obtain ⟨ox, od, J⟩ := inst_at I ha
  show wpAny (model X.prog X.w) X.A (do return .bool (← contains (.ref a) u)) (EP X pins sl Q) X.xe s
  refine wpAny_bind (in_K I.kIn J hs hf (thn (run_fn (vs := [.ref a, x]) (us := [.ref a, u]) F hr hb .nil hx I (.cons rfl (.cons rx .nil)) q) fun w s' z => ?_))
  obtain ⟨z', H', I', rz, b, rfl, qz⟩ := z
  cases rz
  exact wpAny_pure (wpAny_pure ⟨.bl b, H', I', rfl, qz⟩)
end Fc
set_option Elab.async false
set_option linter.all false
set_option maxRecDepth 100000
set_option maxHeartbeats 4000000
/-! Ratios, pairs and spans on the heap by what they are worth. -/
namespace Fc
open PySem PySem.Spec PyProof.Rows L2
theorem div_is {t b r : Rat} (h : b ≠ 0) (e : r * b = t) : t / b = r := by grind
theorem cast_mul (a b : Int) : ((a * b : Int) : Rat) = (a : Rat) * (b : Rat) := Rat.intCast_mul a b
theorem cast_add (a b : Int) : ((a + b : Int) : Rat) = (a : Rat) + (b : Rat) := Rat.intCast_add a b
theorem cast_sub (a b : Int) : ((a - b : Int) : Rat) = (a : Rat) - (b : Rat) := Rat.intCast_sub a b
theorem cast_neg (a : Int) : ((-a : Int) : Rat) = -(a : Rat) := Rat.intCast_neg a
theorem v_add {p q : Int × Int} (hp : p.2 ≠ 0) (hq : q.2 ≠ 0) : ((p.1 * q.2 + q.1 * p.2 : Int) : Rat) / ((p.2 * q.2 : Int) : Rat) = vl p + vl q := by
  have e1 := vl_mul hp
  have e2 := vl_mul hq
  refine div_is (cast_ne (Int.mul_ne_zero hp hq)) ?_
  rw [cast_mul, cast_add, cast_mul, cast_mul, ← e1, ← e2]
  grind
theorem v_sub {p q : Int × Int} (hp : p.2 ≠ 0) (hq : q.2 ≠ 0) : ((p.1 * q.2 - q.1 * p.2 : Int) : Rat) / ((p.2 * q.2 : Int) : Rat) = vl p - vl q := by
  have e1 := vl_mul hp
  have e2 := vl_mul hq
  refine div_is (cast_ne (Int.mul_ne_zero hp hq)) ?_
  rw [cast_mul, cast_sub, cast_mul, cast_mul, ← e1, ← e2]
  grind
theorem v_mul {p q : Int × Int} (hp : p.2 ≠ 0) (hq : q.2 ≠ 0) : ((p.1 * q.1 : Int) : Rat) / ((p.2 * q.2 : Int) : Rat) = vl p * vl q := by
  have e1 := vl_mul hp
  have e2 := vl_mul hq
  refine div_is (cast_ne (Int.mul_ne_zero hp hq)) ?_
  rw [cast_mul, cast_mul, ← e1, ← e2]
  grind
theorem v_neg {p : Int × Int} (hp : p.2 ≠ 0) : ((-p.1 : Int) : Rat) / (p.2 : Rat) = -vl p := by
  have e1 := vl_mul hp
  refine div_is (cast_ne hp) ?_
  rw [cast_neg, ← e1]
  grind
theorem v_zero {q : Int × Int} (hq : q.2 ≠ 0) : vl q = 0 ↔ q.1 = 0 := by
  have e2 := vl_mul hq
  have := cast_ne hq
  constructor
  · intro h
    rw [h] at e2
    exact Rat.intCast_inj.mp (by rw [← e2]; grind)
  · intro h
    unfold vl
    rw [h]
    grind
theorem v_div {p q : Int × Int} (hp : p.2 ≠ 0) (hq : q.2 ≠ 0) (h0 : q.1 ≠ 0) : ((p.1 * q.2 : Int) : Rat) / ((p.2 * q.1 : Int) : Rat) = vl p / vl q := by
  have e1 := vl_mul hp
  have e2 := vl_mul hq
  have n : vl q ≠ 0 := fun z => h0 ((v_zero hq).mp z)
  refine div_is (cast_ne (Int.mul_ne_zero hp h0)) ?_
  rw [cast_mul, cast_mul, ← e1, ← e2]
  grind
theorem v_pos {q : Int × Int} (hq : 0 < q.2) : 0 < vl q ↔ 0 < q.1 := by
  have := vl_lt (p := ((0, 1) : Int × Int)) (q := q) (by decide) hq
  have z : vl ((0, 1) : Int × Int) = 0 := (v_zero (by decide)).mpr rfl
  rw [z] at this
  rw [this]
  show (0 : Int) * q.2 < q.1 * 1 ↔ _
  rw [Int.zero_mul, Int.mul_one]
theorem v_nn {q : Int × Int} (hq : 0 < q.2) : 0 ≤ vl q ↔ 0 ≤ q.1 := by
  have := vl_le (p := ((0, 1) : Int × Int)) (q := q) (by decide) hq
  have z : vl ((0, 1) : Int × Int) = 0 := (v_zero (by decide)).mpr rfl
  rw [z] at this
  rw [this]
  show (0 : Int) * q.2 ≤ q.1 * 1 ↔ _
  rw [Int.zero_mul, Int.mul_one]
theorem v_np {q : Int × Int} (hq : 0 < q.2) : vl q ≤ 0 ↔ q.1 ≤ 0 := by
  have := vl_le (p := q) (q := ((0, 1) : Int × Int)) hq (by decide)
  have z : vl ((0, 1) : Int × Int) = 0 := (v_zero (by decide)).mpr rfl
  rw [z] at this
  rw [this]
  show q.1 * 1 ≤ (0 : Int) * q.2 ↔ _
  rw [Int.zero_mul, Int.mul_one]
/-- a Ratio in lowest terms, worth r -/
def RatV (C : Addr) (H : Hp) (n : Nat) (a : Addr) (r : Rat) : Prop := ∃ p, RatAt C H a p ∧ Sm n p ∧ Int.gcd p.1 p.2 = 1 ∧ vl p = r
theorem RatV.ex {C : Addr} {H H' : Hp} {n : Nat} {a : Addr} {r : Rat} (h : RatV C H n a r) (e : Ex H H') : RatV C H' n a r := let ⟨p, x, y⟩ := h; ⟨p, x.ex e, y⟩
theorem RatV.mono {C : Addr} {H : Hp} {n m : Nat} {a : Addr} {r : Rat} (h : RatV C H n a r) (l : n ≤ m) : RatV C H m a r := let ⟨p, x, y, z⟩ := h; ⟨p, x, y.mono l, z⟩
theorem RatV.lo {C : Addr} {H : Hp} {n : Nat} {a : Addr} {t b : Int} (h : RatAt C H a (lo t b)) (ht : Bd n t) (hb : Bd n b) (n0 : b ≠ 0) {r : Rat} (e : (t : Rat) / (b : Rat) = r) : RatV C H n a r :=
  ⟨_, h, Sm.lo ht hb n0, lo_cop n0, (vl_lo n0).trans e⟩
/-- a pair of whole numbers worth r -/
def PrV (H : Hp) (n : Nat) (a : Addr) (r : Rat) : Prop := ∃ p, Pr H a p ∧ Sm n p ∧ vl p = r
theorem PrV.ex {H H' : Hp} {n : Nat} {a : Addr} {r : Rat} (h : PrV H n a r) (e : Ex H H') : PrV H' n a r := let ⟨p, x, y⟩ := h; ⟨p, x.ex e, y⟩
theorem PrV.mono {H : Hp} {n m : Nat} {a : Addr} {r : Rat} (h : PrV H n a r) (l : n ≤ m) : PrV H m a r := let ⟨p, x, y, z⟩ := h; ⟨p, x, y.mono l, z⟩
theorem PrV.keep {H H' : Hp} {n : Nat} {p t : Addr} {r : Rat} (h : PrV H n t r) (pt : PotAt H p) (k : Keep p H H') : PrV H' n t r := let ⟨q, x, y⟩ := h; ⟨q, x.keep pt k, y⟩
/-- the same worth, and lowest terms: the same fraction -/
theorem low_is {n m : Nat} {t p : Int × Int} (ht : Sm n t) (hc : Int.gcd t.1 t.2 = 1) (hp : Sm m p) (e : vl t = vl p) : t = lo p.1 p.2 := by
  have h := lo_eq ht.ne hp.ne (vl_eq ht.pos hp.pos e)
  exact (lo_self ht.pos hc).symm.trans h
/-- -1, 0 or 1 -/
def cmpR (x y : Rat) : Int := if x < y then -1 else if y < x then 1 else 0
theorem cmpR_pos {x y : Rat} : 0 < cmpR x y ↔ y < x := by
  unfold cmpR
  split
  · constructor
    · omega
    · intro h; grind
  · split <;> simp_all
theorem cmpR_np {x y : Rat} : cmpR x y ≤ 0 ↔ x ≤ y := by
  have := cmpR_pos (x := x) (y := y)
  constructor
  · intro h
    have : ¬ y < x := fun z => by have := this.mpr z; omega
    grind
  · intro h
    have : ¬ 0 < cmpR x y := fun z => by have := this.mp z; grind
    omega
theorem cmpR_nn {x y : Rat} : 0 ≤ cmpR x y ↔ y ≤ x := by
  unfold cmpR
  split
  · constructor
    · intro h; omega
    · intro h; grind
  · split
    · constructor
      · intro h; grind
      · intro h; omega
    · constructor
      · intro h; grind
      · intro h; omega
/-- the fields of a Span -/
def sf (l h : Addr) : List (Str × V) := [("low", .ref l), ("high", .ref h)]
theorem ne_lh : ¬ (("low" : Str) = "high") := by decide +kernel
theorem sf_put (l h : Addr) : putF "high" (.ref h) (putF "low" (.ref l) []) = sf l h := by
  show (if ("low" : Str) = "high" then _ else (("low" : Str), V.ref l) :: putF "high" (.ref h) []) = sf l h
  rw [if_neg ne_lh]
  rfl
theorem sf_low (l h : Addr) : (sf l h).lookup ("low" : Str) = some (.ref l) := by simp [sf, List.lookup]
theorem sf_high (l h : Addr) : (sf l h).lookup ("high" : Str) = some (.ref h) := by
  have : (("high" : Str) == "low") = false := by decide +kernel
  simp [sf, List.lookup, this]
theorem sf_no (l h : Addr) {m : Str} (h1 : (m == "low") = false) (h2 : (m == "high") = false) : (sf l h).lookup m = none := by
  simp [sf, List.lookup, h1, h2]
/-- a Span from x to y -/
def SpV (S C : Addr) (H : Hp) (n : Nat) (s : Addr) (x y : Rat) : Prop := ∃ dx l h, H s = some (.ins S dx (sf l h)) ∧ RatV C H n l x ∧ RatV C H n h y
theorem SpV.ex {S C : Addr} {H H' : Hp} {n : Nat} {s : Addr} {x y : Rat} (r : SpV S C H n s x y) (e : Ex H H') : SpV S C H' n s x y := let ⟨dx, l, h, a, b, c⟩ := r; ⟨dx, l, h, e _ _ a, b.ex e, c.ex e⟩
theorem SpV.mono {S C : Addr} {H : Hp} {n m : Nat} {s : Addr} {x y : Rat} (r : SpV S C H n s x y) (e : n ≤ m) : SpV S C H m s x y := let ⟨dx, l, h, a, b, c⟩ := r; ⟨dx, l, h, a, b.mono e, c.mono e⟩
/-- a loop over a tuple, whatever its turn asks -/
theorem it_tup {K : PySem.W.Frag} {a : Addr} {xs : List V} {B : (Hp → Prop) → V → Hp → Prop} {H0 : Hp} {Qd : Hp → Prop} (Pv : Nat → Hp → Prop) (h0 : Pv 0 H0) (hl : ∀ i H, i ≤ xs.length → Pv i H → SqT K H a xs)
    (hs : ∀ i x H, xs[i]? = some x → Pv i H → B (Pv (i + 1)) x H) (hd : ∀ H, Pv xs.length H → Qd H) :
    ∃ W : Nat → Nat → Hp → Prop, (∃ m, W 0 m H0) ∧ ∀ i m H, W i m H →
      ((Itt K a).stop i H ∧ Qd H) ∨ ((Itt K a).go i H ∧ ∃ Nx : Hp → Prop, (∀ H', Nx H' → ∃ m', m' < m ∧ W (i + 1) m' H') ∧ ∀ x H', (Itt K a).yld i H x H' → B Nx x H') := by
  refine ⟨fun i m H => m = xs.length - i ∧ i ≤ xs.length ∧ Pv i H, ⟨xs.length, by simp, Nat.zero_le _, h0⟩, ?_⟩
  rintro i m H ⟨rfl, hi, p⟩
  have q := hl i H hi p
  by_cases hlt : i < xs.length
  · refine .inr ⟨⟨xs, xs[i], q, by simp [hlt]⟩, Pv (i + 1), fun H' p' => ⟨xs.length - (i + 1), by omega, rfl, hlt, p'⟩, fun x H' y => ?_⟩
    obtain ⟨e, y⟩ := y
    subst e
    exact hs i x _ (y xs q) p
  · have e : i = xs.length := by omega
    subst e
    exact .inl ⟨⟨xs, q, Nat.le_refl _⟩, hd H p⟩
/-- the Ratios at these addresses are worth these -/
def Fit (C : Addr) (H : Hp) : List Addr → List Rat → Prop
  | [], [] => True
  | a :: as, r :: rs => RatV C H 2001 a r ∧ Fit C H as rs
  | _, _ => False
theorem Fit.len {C : Addr} {H : Hp} : ∀ {as : List Addr} {rs : List Rat}, Fit C H as rs → as.length = rs.length
  | [], [], _ => rfl
  | _ :: _, _ :: _, h => congrArg (· + 1) (Fit.len h.2)
  | [], _ :: _, h => h.elim
  | _ :: _, [], h => h.elim
theorem Fit.app {C : Addr} {H : Hp} {y : Addr} {r : Rat} (hy : RatV C H 2001 y r) : ∀ {as : List Addr} {rs : List Rat}, Fit C H as rs → Fit C H (as ++ [y]) (rs ++ [r])
  | [], [], _ => ⟨hy, trivial⟩
  | _ :: _, _ :: _, h => ⟨h.1, Fit.app hy h.2⟩
  | [], _ :: _, h => h.elim
  | _ :: _, [], h => h.elim
theorem RatV.keep {C D : Addr} {H H' : Hp} {n : Nat} {a : Addr} {r : Rat} {xs : List V} (h : RatV C H n a r) (hD : H D = some (.lst xs)) (k : Keep D H H') : RatV C H' n a r := by
  obtain ⟨p, ⟨dx, z⟩, y⟩ := h
  refine ⟨p, ⟨dx, k _ _ z ?_⟩, y⟩
  intro e
  rw [e, hD] at z
  cases z
theorem Fit.keep {C D : Addr} {H H' : Hp} {xs : List V} (hD : H D = some (.lst xs)) (k : Keep D H H') : ∀ {as : List Addr} {rs : List Rat}, Fit C H as rs → Fit C H' as rs
  | [], [], _ => trivial
  | _ :: _, _ :: _, h => ⟨h.1.keep hD k, Fit.keep hD k h.2⟩
  | [], _ :: _, h => h.elim
  | _ :: _, [], h => h.elim
theorem Fit.ex {C : Addr} {H H' : Hp} (k : Ex H H') : ∀ {as : List Addr} {rs : List Rat}, Fit C H as rs → Fit C H' as rs
  | [], [], _ => trivial
  | _ :: _, _ :: _, h => ⟨h.1.ex k, Fit.ex k h.2⟩
  | [], _ :: _, h => h.elim
  | _ :: _, [], h => h.elim
def Els (C : Addr) (H : Hp) (D : Addr) (rs : List Rat) : Prop := ∃ ys : List Addr, H D = some (.lst (ys.map V.ref)) ∧ Fit C H ys rs
theorem Keep.exn {D : Addr} {H H' : Hp} (k : Keep D H H') (n : H D = none) : Ex H H' := fun b o e => k b o e (ne_of_none e n)
/-- one more of them -/
theorem Els.app {C D : Addr} {H H1 : Hp} {rs : List Rat} {y : Addr} {r : Rat} (h : Els C H D rs) (e : Ex H H1) (hy : RatV C H1 2001 y r) (l : rs.length < 4) :
    ∃ acc, H1 D = some (.lst acc) ∧ acc.length < sizeLine ∧ Els C (upd H1 D (.lst (acc ++ [.ref y]))) D (rs ++ [r]) := by
  obtain ⟨ys, h1, h2⟩ := h
  refine ⟨ys.map V.ref, e _ _ h1, ?_, ys ++ [y], ?_, ?_⟩
  · rw [List.length_map, h2.len, sizeLine_eq]
    omega
  · rw [upd_same, List.map_append]
    rfl
  · exact ((h2.ex e).app hy).keep (e _ _ h1) Keep.upd
/-- [e for x in (a, b) for y in (c, d)] -/
theorem lc22 {K : PySem.W.Frag} {C : Addr} {s o : V} {wi wi1 : TI} {te : TE} {f : Rat → Rat → Rat} {G : Rat → Prop} {H : Hp} {Q : VK} {a b c d : Addr} {ra rb rc rd : Rat}
    (ha : RatV C H 1000 a ra) (hb : RatV C H 1000 b rb) (hc : RatV C H 1000 c rc) (hd : RatV C H 1000 d rd) (gc : G rc) (gd : G rd)
    (hw : ∀ R, (∀ t H', Ex H H' → H' t = some (.tup [.ref a, .ref b]) → R (Itt K t) H') → wi [some s, some o, none, none] H R)
    (hw1 : ∀ u H2 R, Ex H H2 → (∀ t H', Ex H2 H' → H' t = some (.tup [.ref c, .ref d]) → R (Itt K t) H') → wi1 [some s, some o, some u, none] H2 R)
    (ht : ∀ u v ru rv H2 R, RatV C H2 1000 u ru → RatV C H2 1000 v rv → G rv → (∀ y H', Ex H2 H' → H2 y = none → RatV C H' 2001 y (f ru rv) → R (.ref y) H') → te [some s, some o, some (.ref u), some (.ref v)] H2 R)
    (k : ∀ L H' ys, Ex H H' → H' L = some (.lst (ys.map V.ref)) → Fit C H' ys [f ra rc, f ra rd, f rb rc, f rb rd] → Q (.ref L) H') :
    tLc2 wi (gName 2) tYes wi1 (gName 3) tYes te [2, 3] [3] [some s, some o, none, none] H Q := by
  refine hw _ fun t H1 e1 h1 => ?_
  intro D hD
  have tD : t ≠ D := ne_of_none h1 hD
  refine it_tup (xs := [.ref a, .ref b]) (fun i H' => Keep D H1 H' ∧ Els C H' D (([f ra rc, f ra rd, f rb rc, f rb rd] : List Rat).take (2 * i))) ⟨Keep.upd, [], upd_same, trivial⟩ (fun i H' _ p => SqT.of (p.1 _ _ h1 tD)) (fun i x H' hx p => ?_) (fun H' p => ?_)
  · obtain ⟨kp, els⟩ := p
    obtain ⟨u, ru, rfl, hu, i2, e2⟩ : ∃ u ru, x = V.ref u ∧ RatV C H 1000 u ru ∧ i < 2 ∧ ([f ra rc, f ra rd, f rb rc, f rb rd] : List Rat).take (2 * i + 1) = ([f ra rc, f ra rd, f rb rc, f rb rd] : List Rat).take (2 * i) ++ [f ru rc] ∧
        ([f ra rc, f ra rd, f rb rc, f rb rd] : List Rat).take (2 * (i + 1)) = ([f ra rc, f ra rd, f rb rc, f rb rd] : List Rat).take (2 * i + 1) ++ [f ru rd] := by
      match i, hx with
      | 0, z => cases z; exact ⟨a, ra, rfl, ha, by decide, rfl, rfl⟩
      | 1, z => cases z; exact ⟨b, rb, rfl, hb, by decide, rfl, rfl⟩
      | n + 2, z => simp at z
    refine ⟨rfl, hw1 _ _ _ (e1.trans (kp.exn hD)) fun t2 H4 e4 h4 => ?_⟩
    obtain ⟨ys, hy1, hy2⟩ := els
    have t2D : t2 ≠ D := ne_of h4 (e4 _ _ hy1) (by intro z; cases z)
    refine it_tup (xs := [.ref c, .ref d]) (fun j H' => Keep D H4 H' ∧ Els C H' D (([f ra rc, f ra rd, f rb rc, f rb rd] : List Rat).take (2 * i + j))) ⟨Keep.refl, ys, e4 _ _ hy1, hy2.ex e4⟩ (fun j H' _ p => SqT.of (p.1 _ _ h4 t2D)) (fun j x H5 hx p => ?_) (fun H5 p => ?_)
    · obtain ⟨kp5, els5⟩ := p
      have kk : Keep D H1 H5 := (kp.trans (Keep.of e4)).trans kp5
      have E5 : Ex H H5 := e1.trans (kk.exn hD)
      obtain ⟨v, rv, rfl, hv, gv, j2, ej⟩ : ∃ v rv, x = V.ref v ∧ RatV C H 1000 v rv ∧ G rv ∧ j < 2 ∧ ([f ra rc, f ra rd, f rb rc, f rb rd] : List Rat).take (2 * i + (j + 1)) = ([f ra rc, f ra rd, f rb rc, f rb rd] : List Rat).take (2 * i + j) ++ [f ru rv] := by
        match j, hx with
        | 0, z => cases z; exact ⟨c, rc, rfl, hc, gc, by decide, e2.1⟩
        | 1, z => cases z; exact ⟨d, rd, rfl, hd, gd, by decide, e2.2⟩
        | n + 2, z => simp at z
      refine ⟨rfl, ht u v ru rv H5 _ (hu.ex E5) (hv.ex E5) gv fun y H6 e6 ny ry => ?_⟩
      obtain ⟨acc, q1, q2, q3⟩ := els5.app e6 ry (by rw [List.length_take]; show min (2 * i + j) 4 < 4; omega)
      refine ⟨acc, q1, q2, (kp5.trans (Keep.of e6)).trans Keep.upd, ?_⟩
      rw [ej]
      exact q3
    · exact ⟨(kp.trans (Keep.of e4)).trans p.1, p.2⟩
  · obtain ⟨kp, ys, h3, h4⟩ := p
    exact k D H' ys (e1.trans (kp.exn hD)) h3 h4
end Fc
set_option Elab.async false
set_option linter.all false
set_option maxRecDepth 100000
set_option maxHeartbeats 4000000
set_option exponentiation.threshold 100000
/-! Euclid with Lamé's bound: 1500 steps do for a bottom below 2 ^ 1000. -/
namespace Fc
/-- two Fibonacci numbers in a row -/
def fib2 : Nat → Nat × Nat
  | 0 => (0, 1)
  | n + 1 => ((fib2 n).2, (fib2 n).1 + (fib2 n).2)
structure Lu (g N i a b : Nat) : Prop where
  gcd : Nat.gcd a b = g
  first : i = 0 → b ≤ N
  next : i ≠ 0 → b < a ∧ (fib2 i).1 * a + (fib2 (i - 1)).1 * b ≤ N
theorem Lu.start {a b N : Nat} (h : b ≤ N) : Lu (Nat.gcd a b) N 0 a b := ⟨rfl, fun _ => h, fun z => absurd rfl z⟩
theorem fib_step (n : Nat) : (fib2 (n + 2)).1 = (fib2 (n + 1)).1 + (fib2 n).1 := by
  show (fib2 n).1 + (fib2 n).2 = (fib2 n).2 + (fib2 n).1
  omega
theorem Lu.turn {g N i a b : Nat} (h : Lu g N i a b) (hb : b ≠ 0) : Lu g N (i + 1) b (a % b) := by
  have lt : a % b < b := Nat.mod_lt _ (by omega)
  refine ⟨?_, fun e => by omega, fun _ => ⟨lt, ?_⟩⟩
  · have := h.gcd
    rw [Nat.gcd_comm, ← Nat.gcd_rec, Nat.gcd_comm]
    exact this
  · rcases Nat.eq_zero_or_pos i with z | z
    · subst z
      have := h.first rfl
      show 1 * b + 0 * (a % b) ≤ N
      omega
    · obtain ⟨h1, h2⟩ := h.next (by omega)
      obtain ⟨j, rfl⟩ : ∃ j, i = j + 1 := ⟨i - 1, by omega⟩
      have hd := Nat.div_add_mod a b
      have q1 : 1 ≤ a / b := (Nat.one_le_div_iff (by omega)).mpr (by omega)
      have q2 : b * 1 ≤ b * (a / b) := Nat.mul_le_mul_left b q1
      have q3 : b + a % b ≤ a := by omega
      have q4 := Nat.mul_le_mul_left (fib2 (j + 1)).1 q3
      rw [Nat.mul_add] at q4
      show (fib2 (j + 2)).1 * b + (fib2 (j + 1)).1 * (a % b) ≤ N
      rw [fib_step, Nat.add_mul]
      have h2' : (fib2 (j + 1)).1 * a + (fib2 j).1 * b ≤ N := h2
      omega
/-- .. reckoned with two numbers -/
def fibL : Nat → Nat → Nat → Nat
  | 0, a, _ => a
  | n + 1, a, b => fibL n b (a + b)
theorem fibL_is (n : Nat) : ∀ k, fibL n (fib2 k).1 (fib2 k).2 = (fib2 (n + k)).1 := by
  induction n with
  | zero => intro k; rw [Nat.zero_add]; rfl
  | succ n ih =>
    intro k
    show fibL n (fib2 k).2 ((fib2 k).1 + (fib2 k).2) = _
    have := ih (k + 1)
    rw [show n + 1 + k = n + (k + 1) by omega]
    exact this
theorem fib_big : 2 ^ 1000 < (fib2 1500).1 := by
  have e : (fib2 1500).1 = fibL 1500 0 1 := (fibL_is 1500 0).symm
  rw [e]
  decide +kernel
theorem Lu.done {g N a b : Nat} (h : Lu g N 1500 a b) (hN : N ≤ 2 ^ 1000) : b = 0 := by
  obtain ⟨h1, h2⟩ := h.next (by decide)
  have := fib_big
  have q := Nat.mul_le_mul_left (fib2 1500).1 (show 1 ≤ a by omega)
  omega
theorem Lu.zero {g N i a : Nat} (h : Lu g N i a 0) : a = g := by
  have := h.gcd
  simpa using this
end Fc
set_option Elab.async false
set_option linter.all false
set_option maxRecDepth 100000
set_option maxHeartbeats 4000000
/-! More rules of mine: an own operator that raises in a try, a static method called off its class. -/
namespace Fc
open PySem PySem.Spec PyProof.Rows L2
section
variable {X : Cx} {CX : CXT} {k : Nat} {C f : Addr} {fd : FuncData} {ps : List Str} {sp : Sp}
def tOwnS (C : Addr) (sp : Sp) (E : L2.St → XK) (ta tb : TE) : TE := fun sl H Q => ta sl H fun x H1 => tb sl H1 fun y H2 => ∃ a b dx dy fs gs, x = .ref a ∧ y = .ref b ∧
  H2 a = some (.ins C dx fs) ∧ H2 b = some (.ins C dy gs) ∧ sp [.ref a, .ref b] H2 Q (E sl)
theorem pe_opS {op : Operator} {E : L2.St → XK} {a b : Expr} {ta tb : TE} {pos : Pos} (hc : PySem.W.selfFirst X.K C = true) (hs : PySem.W.findIn X.K (.ref C) (PySem.dunder op.info.2) = some (some (.ref f)))
    (hf : PySem.W.isFn X.K (.ref f) = true) (F : FnOk X.prog X.w X.K X.mg X.base CX k f fd ps sp) (hr : Room k X.A) (hb : Binds X.K fd ps []) (hx : ∀ sl, PassesAt CX X sl (E sl)) (ha : PE X a ta) (hbb : PE X b tb) :
    PE X (.BinOp a op b pos) (tOwnS C sp E ta tb) := by
  refine ⟨fun pins s sl H Q I h => ?_⟩
  refine wpAny_BinOp (binT ha hbb I h fun v u s2 x y H2 I2 rx ry q => ?_)
  obtain ⟨a, b, dx, dy, fs, gs, rfl, rfl, h1, h2, q⟩ := q
  cases rx
  cases ry
  obtain ⟨ox, od, J⟩ := inst_at I2 h1
  obtain ⟨oy, oe, J'⟩ := inst_at I2 h2
  obtain ⟨m, hF⟩ := I2.fr
  exact PySem.W.binop_K hF I2.ok.mod.kin J J'.type hc hs hf
    (thn (run_fnS (vs := [.ref a, .ref b]) (us := [.ref a, .ref b]) F hr hb (hx sl) I2 (.cons rfl (.cons rfl .nil)) q) fun _ _ z => cmpBack z)
/-! ### C.m(..), a static method -/
structure SMet (K : PySem.W.Frag) (C : Addr) (mc : Value) (m : Str) (p g : Addr) : Prop where
  at_ : PySem.W.findCls K (.ref C) mc m = some (.get (.builtin "staticmethod.__get__") (.ref p) .none (.ref C))
  rc : ∃ rest, PySem.W.recIn K p "staticmethod" = some (.ref g :: rest)
  kp : PySem.W.keepIn K (.ref g) = true
theorem getsm_ok {pins : List (Addr × Obj)} {σ : L2.St} {H : Hp} {s : Shared} {A : Around} {E : Value → Shared → Prop} {mc : Value} {m : Str} {p g : Addr} {pl : Sem Bool} {Q : Value × List Value → Shared → Prop} (I : Inv X pins σ H s)
    (r : ClX.CRead X.K C mc) (c : SMet X.K C mc m p g) (h : ∀ s', Inv X pins σ H s' → Q (.ref g, []) s') : wpAny (model X.prog X.w) A (getMethod (.ref C) m pl) Q E s := by
  obtain ⟨rest, hp⟩ := c.rc
  refine PySem.W.method_cls I.kIn r.ga ?_
  refine PySem.W.cls_bind I.kIn r.rd c.at_ ?_
  exact wpAny_call (PySem.W.sm_get (s := { s with toks := s.toks + 1 }) I.kIn hp (PySem.W.handed_on rfl (h _ (I.tok _))))
def tSMeth (C : Addr) (sp : Sp) (E : XK) (ta : TE) (t : TA) : TE := fun σ H Q => ta σ H fun x H1 => x = .ref C ∧ t σ H1 fun vs H2 => sp vs H2 Q E
theorem pe_smeth {o e : Expr} {es : List Expr} {m : Str} {apos pos : Pos} {pl : Sem Bool} {mc : Value} {p g : Addr} {E : XK} {ta : TE} {t : TA} (he : PE X o ta) (r : ClX.CRead X.K C mc) (c : SMet X.K C mc m p g)
    (F : FnOk X.prog X.w X.K X.mg X.base CX k g fd ps sp) (hr : Room k X.A) (hb : Binds X.K fd ps []) (hx : Passes CX X E) (ha : PA X (e :: es) t)
    (hst : starEach (e :: es) X.env = (false, eval e X.env) :: starEach es X.env := by rfl) (hpl : (backTo pos (starEach es X.env)).any (·.1) = false := by rfl)
    (ht : eval (.Call (.Attribute o m apos) (e :: es) [] pos) X.env = (do
      let ov ← eval o X.env
      standAt apos.atName
      let (f, first) ← holding [ov] (getMethod ov m pl)
      callWith pos f first (backTo pos (starEach (e :: es) X.env)) (backToKw pos (keywordEach [] X.env))) := by rfl) :
    PE X (.Call (.Attribute o m apos) (e :: es) [] pos) (tSMeth C sp E ta t) := by
  refine ⟨fun pins s σ H Q I h => ?_⟩
  refine PySem.W.methodCall_KW (pl := pl) (thn (he.run pins s σ H _ I h) fun u s1 ⟨x, H1, I1, rx, ex, q⟩ => ?_) ht
  subst ex
  obtain rfl : u = Value.ref C := rx
  refine getsm_ok I1 r c fun s2 I2 => ?_
  refine PySem.W.callWith_K (first := []) (h₀ := X.base) I2.ok.mod.kin c.kp ?_ hst hpl
  exact thn (ha.run pos pins s2 σ H1 _ I2 q) fun us s3 ⟨vs, H2, I3, rv, q2⟩ => ⟨I3.kIn, run_fn F hr hb .nil hx I3 rv (by rw [List.append_nil]; exact q2)⟩
end
end Fc
namespace Fc
open PySem PySem.Spec PyProof.Rows L2
/-- one of two readings -/
def rOr (r1 r2 : R2) : R2 := fun x y H Q => r1 x y H Q ∨ r2 x y H Q
theorem op_or {X : Cx} {f : Value → Value → Sem Value} {r1 r2 : R2} (h1 : OpR X f r1) (h2 : OpR X f r2) : OpR X f (rOr r1 r2) := fun pins s sl H x y u v Q I rx ry h => by
  rcases h with h | h
  · exact h1 pins s sl H x y u v Q I rx ry h
  · exact h2 pins s sl H x y u v Q I rx ry h
end Fc
set_option Elab.async false
set_option linter.all false
set_option maxRecDepth 100000
set_option maxHeartbeats 4000000
/-! What a fraction and a span are written as. -/
namespace Fc
open PySem PySem.Spec PyProof.Rows L2
/-- a whole number written -/
def itx (i : Int) : Str := Str.ofString (toString i)
theorem itx_len {i : Int} (h : i.natAbs.log2 < 1920) : (itx i).length ≤ 1921 := int_text_len_1921 h
/-- a fraction written -/
def rtx (p : Int × Int) : Str := if p.2 = 1 then itx p.1 else itx p.1 ++ "/" ++ itx p.2
theorem rtx_len {p : Int × Int} (h : p.1.natAbs.log2 < 1920) (g : p.2.natAbs.log2 < 1920) : (rtx p).length ≤ 4000 := by
  have a := itx_len h
  have b := itx_len g
  unfold rtx
  split
  · omega
  · rw [Str.length_append, Str.length_append]
    have : ("/" : Str).length = 1 := rfl
    omega
theorem Bd.lg {n : Nat} {i : Int} (h : Bd n i) (p : 0 < n := by decide) (l : n ≤ 1920 := by decide) : i.natAbs.log2 < 1920 := Nat.lt_of_lt_of_le (PySem.Flt.log2_lt_of p h) l
end Fc
set_option Elab.async false
set_option linter.all false
set_option maxRecDepth 100000
set_option maxHeartbeats 4000000
/-! An own error with an own __init__, raised where nothing is handled, with its context told; defs that are called within an except suite. -/
namespace Fc
open PySem PySem.Spec PyProof.Rows L2 L2H
section
variable {X : Cx} {CX : CXT} {k : Nat} {C fI : Addr} {fd : FuncData} {ps : List Str} {sp : Sp} {x : Str} {p pos : Pos} {e : Expr} {es : List Expr} {ta : TA}
/-- the new exception as the own __init__ finds it -/
theorem fresh_exc {pins : List (Addr × Obj)} {sl : L2.St} {H : Hp} {hp : Heap} {g : Array GenState} {dr : Drawn} {tk : Nat} {os : OsState} (I : Inv X pins sl H ⟨hp, g, dr, tk, os⟩) (us : List Value) :
    let h2 := (hp.push (PySem.W.kdv_tup us)).push (PySem.HandSPX.excO C hp.objs.size)
    (∀ b o, hp.get? b = some o → h2.get? b = some o) ∧ Inv X pins sl (upd H (hp.objs.size + 1) (exo (hp.objs.size + 1) C none)) ⟨h2, g, dr, tk, os⟩ := by
  have kp : ∀ b o, hp.get? b = some o → ((hp.push (PySem.W.kdv_tup us)).push (PySem.HandSPX.excO C hp.objs.size)).get? b = some o :=
    fun b o z => Heap.get?_push_of_some _ (Heap.get?_push_of_some _ z)
  have at_ : ((hp.push (PySem.W.kdv_tup us)).push (PySem.HandSPX.excO C hp.objs.size)).get? (hp.objs.size + 1) = some (PySem.HandSPX.excO C hp.objs.size) := by
    heap_get
  exact ⟨kp, I.laid (t' := tk) (a := hp.objs.size + 1) (o := exo (hp.objs.size + 1) C none) kp (Nat.le_succ _) (exo_ok at_)⟩
theorem pmk_oexN (T : OexC X.K C) (iC : PySem.W.findIn X.K (.ref C) "__init__" = some (some (.ref fI))) (tI : PySem.W.typeIn X.K (.ref fI) = some (.type "function")) (G : FnOk X.prog X.w X.K X.mg X.base CX k fI fd ps sp) (room : Room (k + 1) X.A)
    (bnd : Binds X.K fd ps []) (px : Passes CX X (fun _ _ _ => False)) (gl : Gl X x) (at_ : X.mg x = some (.ref C)) (args : PA X (e :: es) ta) (nd : (x == ("__debug__" : Str)) = false := by decide)
    (st : starEach (e :: es) X.env = (false, eval e X.env) :: starEach es X.env := by rfl) (pl : (backTo pos (starEach es X.env)).any (·.1) = false := by rfl) : L2N.PMk X (.Call (.Name x p) (e :: es) [] pos) (tMkO C sp [] ta) := fun pins s0 sl H0 Qx I0 want => by
  obtain ⟨_, _, _, _, bm, _, _, _, _, _, _, _, _, _, _, cls, ve⟩ := T.cls
  refine wpAny_Call_Name_kw (ld_glob I0 gl at_ (PySem.W.callWith_K (h₀ := X.base) I0.ok.mod.kin T.kC (thn (args.run pos pins s0 sl H0 _ I0 want) fun us s1 got => ?_) st pl) nd)
  obtain ⟨vs, H1, I1, rel, many, go⟩ := got
  refine ⟨I1.kIn, ?_⟩
  obtain ⟨hp, g, dr, tk, os⟩ := s1
  obtain ⟨kp, I2⟩ := fresh_exc (C := C) I1 us
  have go' := go (hp.objs.size + 1) (I1.hok.fresh (Nat.le_succ _))
  rw [List.append_nil] at go'
  have rel2 : Vals (V.ref (hp.objs.size + 1) :: vs) (Value.ref (hp.objs.size + 1) :: us) := .cons rfl rel
  have len2 : (Value.ref (hp.objs.size + 1) :: us ++ []).length = ps.length := by
    rw [List.append_nil, ← rel2.length]
    exact G.len _ _ _ _ go'
  have few : us.length ≤ sizeLine := by
    have := Paired.length rel
    rw [sizeLine_eq]
    omega
  have bd := bnd _ (Value.ref (hp.objs.size + 1) :: us) I2.kIn len2
  rw [List.append_nil] at bd
  have run := G.run _ X.stack _ _ ⟨Value.ref (hp.objs.size + 1) :: us, []⟩ (Value.ref (hp.objs.size + 1) :: us) _ _ (fun _ _ _ => False) (room.make C us []) (I2.env0.make C us []) bd rel2 go'
  refine wpAny_call (PySem.HandSPX.call_own F.excBase_ValueError (fun Y => PySem.HandSPX.refsVE_contains Y bm ve) (I1.kIn _ _ cls) (PySem.W.looks_findIn I1.kIn iC) (fun self => PySem.W.bind_fn I1.kIn self tI) few (codeAny_mono run fun r s' out => ?_))
  match r, out with
  | .error er, out => exact px pins sl _ _ er s' I2 out
  | .ok (.ret u), ⟨v, H2, os2, bare2, un2, hok2, rv, ev, d, fs, ea, ed, hd1, q2⟩ =>
    subst ev
    obtain ⟨h2, g2, d2, t2, os'⟩ := s'
    obtain ⟨t0, Gh, J, kG, ge, hoe, na⟩ := mk_end0 (d2 := d2) (t2 := t2) I1 (Nat.le_succ _) kp un2 hok2 os2 bare2 ea ed hd1
    exact ⟨rv, hp.objs.size + 1, _, _, ⟨Gh, g2, d2, t2, os'⟩, _, .ref C, some d, rfl, J, kG, ge, hoe, ⟨rfl, rfl, fun vs hv => by cases hv; rfl⟩, rfl, rfl, na, rfl, bare2, raises_own T.exC T.tyC, q2⟩
  | .ok .next, out => exact out.elim
  | .ok .brk, out => exact out.elim
  | .ok .cont, out => exact out.elim
end
theorem passLN {X : Cx} : Passes (L2N.CX X.prog X.w) X E0 := fun _ _ _ _ _ _ _ h => by
  rcases h with ⟨_, _, _, _, _, _, _, _, _, _, _, _, z⟩
  exact False.elim z
theorem takes0N {X : Cx} : L2N.Takes X (fun _ _ _ _ => False) := fun _ _ h => by
  rcases h with ⟨_, _, _, _, _, _, _, _, _, _, _, _, _, _, _, _, z⟩
  exact False.elim z
section
variable {P : Program} {w : World} {K : PySem.W.Frag} {mg : Str → Option Value} {base : Heap} {x qual : Str} {st : Stmt} {f : Addr} {fd : FuncData} {N ps : List Str} {k : Nat} {sp : Sp}
/-- a def that raises, the context of what it raises told -/
theorem fun_okN (D : Fun K x qual st f fd) (S : FnScope N ps (defScope st)) (len : ∀ vs H Q E, sp vs H Q E → vs.length = ps.length)
    (body : ∀ (cdv : Value) (A : Around) (outer : List Env) (s : Shared) (H : Hp) (vs : List V) (Q : VK) (E : XK), Room k (A.deeper (envOfC qual (defScope st) s.heap.objs.size f cdv)) → sp vs H Q E →
      ∃ t, PSs (cxOf (L2N.CX P w) P w K mg base N qual (defScope st) f cdv A outer s H E) (defBody st) t ∧ t { nx := fun _ H' => Q .non H', rt := Q } (L2.start N vs) H) : FnOk P w K mg base (L2N.CX P w) (k + 1) f fd ps sp := by
  obtain ⟨_, _, _, _, _, _, cdv, _, _, rfl, lk, cd⟩ := D.ex
  exact fn_of lk cd S len fun A outer s H vs Q E room q => body cdv A outer s H vs Q E room q
/-- a def that is called within an except suite -/
theorem fun_okH (D : Fun K x qual st f fd) (S : FnScope N ps (defScope st)) (len : ∀ vs H Q E, sp vs H Q E → vs.length = ps.length)
    (body : ∀ (cdv : Value) (A : Around) (outer : List Env) (s : Shared) (H : Hp) (vs : List V) (Q : VK) (E : XK) (p : Addr × Obj), RoomH k (A.deeper (envOfC qual (defScope st) s.heap.objs.size f cdv)) →
      HotC (cxH CX0 P w K mg base N qual (defScope st) f cdv A outer s H E p) → sp vs H Q E →
      ∃ t, PSs (cxH CX0 P w K mg base N qual (defScope st) f cdv A outer s H E p) (defBody st) t ∧ t { nx := fun _ H' => Q .non H', rt := Q } (L2.start N vs) H) : FnH P w K mg base CX0 (k + 1) f fd ps sp := by
  obtain ⟨_, _, _, _, _, _, cdv, _, _, rfl, lk, cd⟩ := D.ex
  exact fn_ofH lk cd S len fun A outer s H vs Q E p hot room q => body cdv A outer s H vs Q E p room ⟨p, ⟨hot.1, hot.2⟩, List.mem_cons_self⟩ q
end
theorem _root_.L2H.RoomH.u64 {k : Nat} {A : Around} (r : RoomH k A) : A.units + 64 < cLine := by
  have := r.un
  omega
theorem passH {X : Cx} : ∀ sl, PassesAt CX0 X sl E0 := fun _ _ _ _ _ _ _ h => h.elim
/-- the suite of a caught error whose context is None -/
theorem hot_suite {X : Cx} {a : Addr} {oe : Obj} {pn : List (Addr × Obj)} {cls : Value} {d : Option Addr} (hz : L2N.Zn cls d oe) (hf : ∃ vs, oe.data = .fields vs) : HotC (X.suite a ((a, oe) :: pn)) := by
  obtain ⟨vs, h⟩ := hf
  exact ⟨(a, oe), ⟨rfl, vs, h, hz.2.2 vs h⟩, List.mem_cons_self⟩
end Fc
set_option Elab.async false
set_option linter.all false
set_option maxRecDepth 100000
set_option maxHeartbeats 4000000
set_option exponentiation.threshold 100000
/-! Instances with many fields; what is no list stays; list.count of truth values; Euclid within the bits of its divisor. -/
namespace Fc
open PySem PySem.Spec PyProof.Rows L2
/-! ### fields by names -/
theorem zip_get {ns : List Str} {vs : List V} {i : Nat} {n : Str} {v : V} (nd : ns.Nodup) (hn : ns[i]? = some n) (hv : vs[i]? = some v) : (ns.zip vs).lookup n = some v := by
  induction ns generalizing vs i with
  | nil => cases hn
  | cons m ns ih =>
    obtain ⟨nm, nd'⟩ := List.nodup_cons.mp nd
    cases vs with
    | nil => cases hv
    | cons w vs =>
      cases i with
      | zero =>
        cases hn
        cases hv
        simp [List.lookup]
      | succ i =>
        have hn' : ns[i]? = some n := by simpa using hn
        have hv' : vs[i]? = some v := by simpa using hv
        have ne : (n == m) = false := by
          rw [beq_eq_false_iff_ne]
          intro e
          subst e
          exact nm (List.mem_of_getElem? hn')
        show (match n == m with | true => some w | false => List.lookup n (ns.zip vs)) = some v
        rw [ne]
        exact ih nd' hn' hv'
theorem zip_no {ns : List Str} {vs : List V} {n : Str} (h : n ∉ ns) : (ns.zip vs).lookup n = none := by
  induction ns generalizing vs with
  | nil => rfl
  | cons m ns ih =>
    cases vs with
    | nil => rfl
    | cons w vs =>
      have ne : (n == m) = false := by
        rw [beq_eq_false_iff_ne]
        intro e
        exact h (by rw [e]; exact List.mem_cons_self)
      show (match n == m with | true => some w | false => List.lookup n (ns.zip vs)) = none
      rw [ne]
      exact ih (fun z => h (List.mem_cons_of_mem _ z))
theorem put_new {ns : List Str} {vs : List V} {n : Str} {v : V} (h : n ∉ ns) (l : ns.length = vs.length) : putF n v (ns.zip vs) = (ns ++ [n]).zip (vs ++ [v]) := by
  induction ns generalizing vs with
  | nil =>
    cases vs with
    | nil => rfl
    | cons w vs => cases l
  | cons m ns ih =>
    cases vs with
    | nil => cases l
    | cons w vs =>
      have ne : ¬ (m = n) := fun e => h (by rw [e]; exact List.mem_cons_self)
      show (if m = n then _ else (m, w) :: putF n v (ns.zip vs)) = _
      rw [if_neg ne, ih (fun z => h (List.mem_cons_of_mem _ z)) (by simpa using l)]
      rfl
theorem put_old {ns : List Str} {vs : List V} {i : Nat} {n : Str} {v w : V} (nd : ns.Nodup) (hn : ns[i]? = some n) (hv : vs[i]? = some w) : putF n v (ns.zip vs) = ns.zip (vs.set i v) := by
  induction ns generalizing vs i with
  | nil => cases hn
  | cons m ns ih =>
    obtain ⟨nm, nd'⟩ := List.nodup_cons.mp nd
    cases vs with
    | nil => cases hv
    | cons u vs =>
      cases i with
      | zero =>
        cases hn
        show (if n = n then (n, v) :: ns.zip vs else _) = _
        rw [if_pos rfl]
        rfl
      | succ i =>
        have hn' : ns[i]? = some n := by simpa using hn
        have hv' : vs[i]? = some w := by simpa using hv
        have ne : ¬ (m = n) := by
          intro e
          subst e
          exact nm (List.mem_of_getElem? hn')
        show (if m = n then _ else (m, u) :: putF n v (ns.zip vs)) = _
        rw [if_neg ne, ih nd' hn' hv']
        rfl
/-! ### what is no list stays -/
def NL (H H' : Hp) : Prop := ∀ b o, H b = some o → (∀ xs, o ≠ .lst xs) → H' b = some o
theorem NL.refl {H : Hp} : NL H H := fun _ _ h _ => h
theorem NL.of {H H' : Hp} (h : Ex H H') : NL H H' := fun b o e _ => h b o e
theorem NL.trans {H H1 H2 : Hp} (a : NL H H1) (b : NL H1 H2) : NL H H2 := fun c o h n => b c o (a c o h n) n
theorem NL.keep {p : Addr} {H H' : Hp} {xs : List V} (hp : H p = some (.lst xs)) (k : Keep p H H') : NL H H' := fun c o h n => k c o h fun e => by
  subst e
  rw [hp] at h
  cases h
  exact n _ rfl
theorem NL.tup {H H' : Hp} {a : Addr} {xs : List V} (k : NL H H') (h : H a = some (.tup xs)) : H' a = some (.tup xs) := k _ _ h fun _ z => by cases z
theorem NL.ins {H H' : Hp} {a C dx : Addr} {fs : List (Str × V)} (k : NL H H') (h : H a = some (.ins C dx fs)) : H' a = some (.ins C dx fs) := k _ _ h fun _ z => by cases z
theorem RatAt.nl {C : Addr} {H H' : Hp} {a : Addr} {p : Int × Int} (r : RatAt C H a p) (k : NL H H') : RatAt C H' a p := let ⟨dx, h⟩ := r; ⟨dx, k.ins h⟩
theorem RatV.nl {C : Addr} {H H' : Hp} {n : Nat} {a : Addr} {r : Rat} (h : RatV C H n a r) (k : NL H H') : RatV C H' n a r := let ⟨p, x, y⟩ := h; ⟨p, x.nl k, y⟩
theorem Pr.nl {H H' : Hp} {a : Addr} {p : Int × Int} (r : Pr H a p) (k : NL H H') : Pr H' a p := k.tup r
theorem PrV.nl {H H' : Hp} {n : Nat} {a : Addr} {r : Rat} (h : PrV H n a r) (k : NL H H') : PrV H' n a r := let ⟨p, x, y⟩ := h; ⟨p, x.nl k, y⟩
/-! ### a pot whose two lists are known -/
def PotL (H : Hp) (p l : Addr) : Prop := ∃ (cs : List Int) (i c : Int), p ≠ l ∧ H p = some (.lst [.ref l, .int i, .int c]) ∧ H l = some (.lst (cs.map V.int)) ∧ cs.length ≤ 63 ∧ 0 ≤ i ∧ 0 ≤ c ∧ ∀ z ∈ cs, 0 ≤ z
theorem PotL.ex {H H' : Hp} {p l : Addr} (h : PotL H p l) (e : Ex H H') : PotL H' p l := by
  obtain ⟨cs, i, c, ne, h1, h2, r⟩ := h
  exact ⟨cs, i, c, ne, e _ _ h1, e _ _ h2, r⟩
theorem PotL.keep {H H' : Hp} {p l D : Addr} (h : PotL H p l) (k : Keep D H H') (n1 : D ≠ p) (n2 : D ≠ l) : PotL H' p l := by
  obtain ⟨cs, i, c, ne, h1, h2, r⟩ := h
  exact ⟨cs, i, c, ne, k _ _ h1 n1.symm, k _ _ h2 n2.symm, r⟩
theorem PotL.nl {H H' : Hp} {p l : Addr} (h : PotL H p l) (k : Keep p H H') : NL H H' := by
  obtain ⟨cs, i, c, ne, h1, h2, r⟩ := h
  exact .keep h1 k
/-! ### list.count of truth values -/
def isB (b : Bool) (v : Value) : Bool := match v with
  | .bool c => c == b
  | _ => false
theorem bools_of {bs : List Bool} : ∀ {us : List Value}, Vals (bs.map V.bl) us → us = bs.map Value.bool := by
  induction bs with
  | nil => intro us h; cases h; rfl
  | cons b bs ih =>
    intro us h
    cases h with
    | cons h t =>
      cases h
      rw [ih t]
      rfl
def rCntB (K : PySem.W.Frag) : V → List V → Hp → VK → Prop := fun x xs H Q => ∃ (p : Addr) (bs : List Bool) (k : Bool), x = .ref p ∧ xs = [.bl k] ∧ SqL K H p (bs.map V.bl) ∧ Q (.int (bs.count k : Nat)) H
theorem mt_bcount {X : Cx} : MtR X "list.count" (rCntB X.K) := by
  intro pins s sl H x xs v us Q I rx rxs h
  obtain ⟨p, bs, k, rfl, rfl, hs, q⟩ := h
  cases rx
  obtain ⟨u, rfl, ru⟩ := rxs.one
  cases ru
  obtain ⟨its, rv, ⟨⟨cls, dd, data, slt⟩, n, ho, hc, hdn, hd⟩, hlen⟩ := I.list hs
  simp only at hc hd
  subst hc hd
  have hi := bools_of rv
  refine call_meets PySem.F.slot_list_count ⟨_, ho, rfl⟩ PySem.F.entry_list_count (PySem.F.args_list_count_2 _ _) (SeqAt.list_countAt p its.toArray n dd slt (.bool k) (isB k)) ⟨ho, fun y hy => ?_, ?_⟩
  · have hm : y ∈ its := by simpa using hy
    rw [hi] at hm
    obtain ⟨b, _, rfl⟩ := List.mem_map.mp hm
    exact SeqAt.EqAt.bool_bool b k
  · have ec : its.toArray.toList.countP (isB k) = bs.count k := by
      rw [List.toList_toArray, hi, List.countP_map]
      rfl
    refine ⟨.int (bs.count k : Nat), H, I.tok _, ⟨s.toks, ?_⟩, q⟩
    show Value.int ((its.toArray.toList.countP (isB k) : Nat) : Int) s.toks = Value.int ((bs.count k : Nat) : Int) s.toks
    rw [ec]
/-! ### Euclid within twice the bits of the lesser number -/
structure EuN (N g i a b : Nat) : Prop where
  gcd : Nat.gcd a b = g
  even : i % 2 = 0 → b < 2 ^ (N - i / 2)
  odd : i % 2 = 1 → b < a ∧ a < 2 ^ (N - i / 2)
theorem EuN.turn {N g i a b : Nat} (h : EuN N g i a b) (hb : b ≠ 0) : EuN N g (i + 1) b (a % b) := by
  have lt : a % b < b := Nat.mod_lt _ (by omega)
  refine ⟨?_, fun e => ?_, fun o => ?_⟩
  · have := h.gcd
    rw [Nat.gcd_comm, ← Nat.gcd_rec, Nat.gcd_comm]
    exact this
  · obtain ⟨h1, h2⟩ := h.odd (by omega)
    have pos : N - i / 2 ≠ 0 := fun z => by rw [z] at h2; omega
    have ex : N - i / 2 = (N - (i + 1) / 2) + 1 := by omega
    rw [ex, Nat.pow_succ] at h2
    have hd := Nat.div_add_mod a b
    have q1 : 1 ≤ a / b := (Nat.one_le_div_iff (by omega)).mpr (by omega)
    have q2 : b * 1 ≤ b * (a / b) := Nat.mul_le_mul_left b q1
    omega
  · have := h.even (by omega)
    refine ⟨lt, ?_⟩
    have ex : (i + 1) / 2 = i / 2 := by omega
    rw [ex]
    exact this
theorem EuN.done {N g a b : Nat} (h : EuN N g (2 * N + 2) a b) : b = 0 := by
  have := h.even (by omega)
  have e : N - (2 * N + 2) / 2 = 0 := by omega
  rw [e] at this
  simpa using this
theorem EuN.zero {N g i a : Nat} (h : EuN N g i a 0) : a = g := by
  have := h.gcd
  simpa using this
theorem EuN.start {N a b : Nat} (h : b < 2 ^ N) : EuN N (Nat.gcd a b) 0 a b := ⟨rfl, fun _ => by simpa using h, fun e => by omega⟩
theorem bits_lt (x : Int) : x.natAbs < 2 ^ (Builtin.Int.intBits x) := intBits_le_iff.mp (Nat.le_refl _)
end Fc
set_option Elab.async false
set_option linter.all false
set_option maxRecDepth 100000
set_option maxHeartbeats 4000000
set_option exponentiation.threshold 100000
/-! str(int), f-strings of ints and int(text) for up to 4300 digits, where the interpreter's statics hold no limit of the program's own. -/
namespace Fc
open PySem PySem.Spec PyProof.Rows L2

theorem noDig {X : Cx} {pins : List (Addr × Obj)} {sl : L2.St} {H : Hp} {s : Shared} (I : Inv X pins sl H s)
    (h : PySem.W.nsIn X.K cStatics "sys.int_max_str_digits" = some none) : s.heap.NoDigits := by
  obtain ⟨mc, a, _⟩ := I.nolimit
  exact ⟨mc, a, PySem.W.ns_none_of I.kIn a h⟩

theorem call_strB {X : Cx} (hd : X.A.handled = none) (nd : PySem.W.nsIn X.K cStatics "sys.int_max_str_digits" = some none) :
    CallR X (.type "str") fun xs H Q => ∃ i : Int, xs = [.int i] ∧ i.natAbs < 10 ^ 4300 ∧ Q (.str (Str.ofString (toString i))) H := by
  intro pins s sl H xs us Q I r h
  obtain ⟨i, rfl, hl, q⟩ := h
  obtain ⟨u, rfl, t, rfl⟩ := vals1 r
  refine str_of_int_or hd (noDig I nd) (fun _ => ⟨.str _, _, I.tok _, ⟨_, rfl⟩, q⟩) (fun h => absurd h (by omega))

def tFmtB : TE → TE := fun te sl H Q => te sl H fun x H1 => ∃ i : Int, x = .int i ∧ i.natAbs < 10 ^ 4300 ∧ Q (.str (Str.ofString (toString i))) H1
theorem pe_fmtB {X : Cx} {e : Expr} {te : TE} {pos : Pos} (hd : X.A.handled = none) (nd : PySem.W.nsIn X.K cStatics "sys.int_max_str_digits" = some none) (he : PE X e te) :
    PE X (e.FormattedValue (-1) none pos) (tFmtB te) := by
  refine ⟨fun pins s sl H Q I h => ?_⟩
  refine wpAny_FormattedValue_plain (thn (he.run pins s sl H _ I h) fun v s1 hv => ?_)
  obtain ⟨x, H1, I1, r1, i, rfl, hl, q⟩ := hv
  obtain ⟨t, rfl⟩ := r1
  exact formatField_int hd (noDig I1 nd) (fun _ => ⟨.str _, _, I1.tok _, ⟨_, rfl⟩, q⟩) (fun h => absurd h (by omega))

theorem wp_maxDigits {M : Model} {A : Around} {E : Value → Shared → Prop} {s : Shared} {Q : Nat → Shared → Prop} (hd : s.heap.NoDigits) (h : Q 4300 s) :
    wpAny M A Builtin.intMaxStrDigits Q E s := by
  obtain ⟨mc, hn, hz⟩ := hd
  unfold Builtin.intMaxStrDigits
  refine wpAny_bind (wpAny_nsGet hn ?_)
  rw [hz]
  exact wpAny_pure h

theorem wp_textB {M : Model} {A : Around} {E : Value → Shared → Prop} {s : Shared} {Q : Value → Shared → Prop} {v : Value} {x : Str} {n : Int}
    (hd : s.heap.NoDigits) (hl : x.length ≤ 4300) (hn : intText? x = some n) (h : Q (.int n s.toks) { s with toks := s.toks + 1 }) :
    wpAny M A ((int_private% "intFromText") v (numTextOf x) 10) Q E s := by
  by_cases c : (numSeenOf x).length ≤ 640
  · rcases read0 x c with ⟨m, h1, h2, h3⟩ | ⟨h1, _⟩
    · rw [hn] at h1
      cases h1
      exact PySem.W.KIN.wp_text c h3 h2 h
    · rw [hn] at h1
      cases h1
  · rcases read4300 x (by have : sizeLine = 16777216 := by decide
                          omega) with ⟨m, h1, h2, h3⟩ | ⟨h1, _⟩
    · rw [hn] at h1
      cases h1
      refine wpAny_ite_false (decide_eq_false c) (wpAny_bind (wp_maxDigits hd ?_))
      show wpAny M A (match (int_private% "readNumeral") 4300 10 (numSeenOf x) with | _ => _) Q E s
      rw [h3]
      exact wpAny_ite_true (decide_eq_true h2) (wpAny_mkInt' h)
    · rw [hn] at h1
      cases h1

theorem wp_newB {M : Model} {A : Around} {E : Value → Shared → Prop} {s : Shared} {Q : Value → Shared → Prop} {x : Str} {u : Tok} {n : Int}
    (hd : s.heap.NoDigits) (hl : x.length ≤ 4300) (hn : intText? x = some n) (h : Q (.int n s.toks) { s with toks := s.toks + 1 }) :
    wpAny M A (Builtin.«int.__new__» { pos := [.type "int", .str x u] }) (fun fin s' => ∃ v, fin = .done (.ret v) ∧ Q v s') E s := by
  obtain ⟨hp, g, d, tk, os⟩ := s
  have f1 := PySem.F.conv_sub_int
  have f2 := PySem.F.madeHere_int
  have f3 := PySem.W.KIN.str_int
  have f4 := PySem.W.KIN.str_idx
  have f5 := PySem.W.KIN.str_trunc
  refine wpAny_bind (wpAny_pure (wpAny_ite_false rfl (wpAny_bind (wpAny_of_eq f1 (wpAny_ite_false rfl (wpAny_bind (wpAny_of_eq f2 (wpAny_ite_false rfl (wpAny_ite_false rfl (wpAny_bind ?_))))))))))
  refine wpAny_pure (wpAny_bind (wpAny_bind (wpAny_bind (wpAny_specialOf_val rfl f3 (wpAny_pure (wpAny_bind (wpAny_specialOf_val rfl f4 (wpAny_ite_false rfl (wpAny_bind (wpAny_specialOf_val rfl f5 (wpAny_bind (wpAny_bind ?_)))))))))))) 
  refine wpAny_pure (wpAny_pure (wp_textB hd hl hn (wpAny_ite_true rfl (wpAny_pure ⟨_, rfl, h⟩))))

theorem call_intB {X : Cx} (nd : PySem.W.nsIn X.K cStatics "sys.int_max_str_digits" = some none) :
    CallR X (.type "int") fun xs H Q => ∃ (a : Str) (n : Int), xs = [.str a] ∧ intText? a = some n ∧ a.length ≤ 4300 ∧ Q (.int n) H := by
  intro pins s sl H xs us Q I r h
  obtain ⟨a, n, rfl, hn, hl, q⟩ := h
  obtain ⟨u, rfl, t, rfl⟩ := vals1 r
  refine call_int_1 (S := fun A R s => s.heap.NoDigits ∧ R (.ok (.ret (.int n s.toks))) { s with toks := s.toks + 1 }) (fun prog w A R s h => ?_) ⟨noDig I nd, rfl, ?_⟩
  · refine thn (wp_newB h.1 hl hn h.2 (Q := fun v s' => R (.ok (.ret v)) s')) fun fin s1 hv => ?_
    obtain ⟨v, rfl, q⟩ := hv
    exact q
  · exact ⟨.int _, _, I.tok _, ⟨_, rfl⟩, q⟩
end Fc
set_option Elab.async false
set_option linter.all false
set_option maxRecDepth 100000
set_option maxHeartbeats 4000000
/-! Written forms of whole numbers and fractions, as lists of codes. -/
namespace Fc
open PySem PySem.Spec PyProof.Rows L2 TL

theorem numL_head {n : Nat} (h : 1 ≤ n) : ∃ c r, numL n = c :: r ∧ 49 ≤ c ∧ c ≤ 57 := by
  induction n using Nat.strongRecOn with
  | _ n ih =>
    by_cases c : n < 10
    · exact ⟨48 + n, [], numL_lt c, by omega, by omega⟩
    · obtain ⟨d, r, e, d1, d2⟩ := ih (n / 10) (by omega) (by omega)
      exact ⟨d, r ++ [48 + n % 10], by rw [numL_step (by omega), e]; rfl, d1, d2⟩
theorem numL_zero : numL 0 = [48] := numL_lt (by omega)
theorem numL_dig {n c : Nat} (h : c ∈ numL n) : 48 ≤ c ∧ c ≤ 57 := numL_digits n c h

theorem digitsVal_snoc (l : List Nat) (c : Nat) : NumText.digitsVal (l ++ [c]) = NumText.digitsVal l * 10 + (c - 48) := by
  unfold NumText.digitsVal
  rw [List.foldl_append]
  rfl
/-- digits that do not begin with 0 are the number's own -/
theorem numL_back : ∀ (n : Nat) (l : List Nat), l.length = n → NumText.AllDigits l → (∃ c r, l = c :: r ∧ 49 ≤ c) → numL (NumText.digitsVal l) = l ∧ 1 ≤ NumText.digitsVal l := by
  intro n
  induction n with
  | zero => intro l hl _ ⟨c, r, e, _⟩; rw [e] at hl; cases hl
  | succ n ih =>
    intro l hl hd ⟨c, r, e, hc⟩
    by_cases z : r = []
    · subst z; subst e
      have := hd c (by simp)
      have v : NumText.digitsVal [c] = c - 48 := by show 0 * 10 + (c - 48) = _; omega
      rw [v, numL_lt (by omega)]
      exact ⟨by congr 1; omega, by omega⟩
    · obtain ⟨m, d, hm⟩ : ∃ m d, l = m ++ [d] := by
        have hne : l ≠ [] := by rw [e]; intro z; cases z
        exact ⟨l.dropLast, l.getLast hne, (List.dropLast_concat_getLast hne).symm⟩
      have hm2 : ∃ r', m = c :: r' := by
        cases m with
        | nil => rw [hm] at e; simp at e; exact absurd e.2 z
        | cons a m' => rw [hm] at e; simp at e; exact ⟨m', by rw [e.1]⟩
      obtain ⟨r', hm3⟩ := hm2
      obtain ⟨h1, h2⟩ := ih m (by rw [hm, List.length_append] at hl; simpa using hl) (fun x hx => hd x (by rw [hm]; simp [hx])) ⟨c, r', hm3, hc⟩
      have dd := hd d (by rw [hm]; simp)
      rw [hm, digitsVal_snoc, numL_step (by omega)]
      refine ⟨?_, by omega⟩
      rw [show (NumText.digitsVal m * 10 + (d - 48)) / 10 = NumText.digitsVal m by omega, h1]
      congr 2; omega
theorem digitsVal_lt : ∀ (n : Nat) (l : List Nat), l.length = n → NumText.AllDigits l → NumText.digitsVal l < 10 ^ n := by
  intro n
  induction n with
  | zero => intro l hl _; rw [List.length_eq_zero_iff.mp hl]; decide
  | succ n ih =>
    intro l hl h
    have hne : l ≠ [] := by intro z; rw [z] at hl; cases hl
    have hm := (List.dropLast_concat_getLast hne).symm
    have := ih l.dropLast (by rw [List.length_dropLast]; omega) fun x hx => h x (List.dropLast_subset _ hx)
    have := h (l.getLast hne) (List.getLast_mem hne)
    rw [hm, digitsVal_snoc, Nat.pow_succ]
    omega

def itL (i : Int) : List Nat := if i < 0 then 45 :: numL i.natAbs else numL i.natAbs
theorem tl_itx (i : Int) : tl (itx i) = itL i := by
  unfold itx itL
  cases i with
  | ofNat n => rw [if_neg (show ¬ Int.ofNat n < 0 from Int.not_lt.mpr (Int.natCast_nonneg n))]; exact tl_num n
  | negSucc n =>
    rw [if_pos (Int.negSucc_lt_zero n)]
    have : (toString (Int.negSucc n) : String) = "-" ++ toString ((n + 1 : Nat) : Int) := rfl
    rw [this, tl_ofString, String.toList_append, List.map_append, ← tl_ofString, ← tl_ofString, tl_num]
    rfl
theorem itL_nat {i : Int} (h : 0 ≤ i) : itL i = numL i.natAbs := if_neg (by omega)
theorem itL_neg {i : Int} (h : i < 0) : itL i = 45 :: numL i.natAbs := if_pos h
theorem itL_ne (i : Int) : itL i ≠ [] := by
  unfold itL
  split
  · intro z; cases z
  · exact numL_ne _
theorem itL_mem {i : Int} {c : Nat} (h : c ∈ itL i) : c = 45 ∨ (48 ≤ c ∧ c ≤ 57) := by
  unfold itL at h
  split at h
  · rcases List.mem_cons.mp h with h | h
    · exact .inl h
    · exact .inr (numL_dig h)
  · exact .inr (numL_dig h)
theorem itL_tail {i : Int} {c : Nat} {r : List Nat} (h : itL i = c :: r) : 45 ∉ r := by
  intro m
  by_cases s : i < 0
  · rw [itL_neg s] at h
    cases h
    have := numL_dig m
    omega
  · rw [itL_nat (by omega)] at h
    have := numL_dig (n := i.natAbs) (c := 45) (by rw [h]; simp [m])
    omega
theorem itL_slash (i : Int) : 47 ∉ itL i := fun h => by rcases itL_mem h with h | h <;> omega
theorem itL_inj {i j : Int} (h : itL i = itL j) : i = j := by
  by_cases a : i < 0 <;> by_cases b : j < 0
  · rw [itL_neg a, itL_neg b] at h
    have := numL_inj (List.cons.inj h).2
    omega
  · rw [itL_neg a, itL_nat (by omega)] at h
    have := numL_dig (n := j.natAbs) (c := 45) (by rw [← h]; simp)
    omega
  · rw [itL_neg b, itL_nat (by omega)] at h
    have := numL_dig (n := i.natAbs) (c := 45) (by rw [h]; simp)
    omega
  · rw [itL_nat (by omega), itL_nat (by omega)] at h
    have := numL_inj h
    omega
theorem itL_lead {i : Int} {r : List Nat} (h : itL i = 48 :: r) : r = [] := by
  by_cases a : i < 0
  · rw [itL_neg a] at h; cases h
  · rw [itL_nat (by omega)] at h
    by_cases z : i.natAbs = 0
    · rw [z, numL_zero] at h; cases h; rfl
    · obtain ⟨c, r', e, h1, _⟩ := numL_head (n := i.natAbs) (by omega)
      rw [e] at h; cases h; omega
theorem itL_minus {i : Int} {r : List Nat} (h : itL i = 45 :: r) : ∃ c r', r = c :: r' ∧ 49 ≤ c := by
  by_cases a : i < 0
  · rw [itL_neg a] at h; cases h
    obtain ⟨c, r', e, h1, _⟩ := numL_head (n := i.natAbs) (by omega)
    exact ⟨c, r', e, h1⟩
  · rw [itL_nat (by omega)] at h
    have := numL_dig (n := i.natAbs) (c := 45) (by rw [h]; simp)
    omega
theorem itL_len {i : Int} {k : Nat} (h : i.natAbs < 10 ^ k) (k0 : 0 < k) : (itL i).length ≤ k + 1 := by
  have := numL_len k0 h
  unfold itL
  split
  · rw [List.length_cons]; omega
  · omega
/-- int(text) of what str wrote -/
theorem int_itx {i : Int} (h : (itL i).length ≤ 4300) : intText? (itx i) = some i := by
  by_cases a : i < 0
  · have e := tl_itx i
    rw [itL_neg a] at e
    have := intText_neg (x := itx i) e (numL_digits _) (numL_ne _) (by rw [len_tl, tl_itx]; exact h)
    rw [this, numL_val]
    congr 1; omega
  · have e := tl_itx i
    rw [itL_nat (by omega)] at e
    have := intText_digits (x := itx i) (by show NumText.AllDigits (tl (itx i)); rw [e]; exact numL_digits _) (by show tl (itx i) ≠ []; rw [e]; exact numL_ne _) (by rw [len_tl, tl_itx]; exact h)
    rw [this]
    show some ((NumText.digitsVal (tl (itx i)) : Nat) : Int) = _
    rw [e, numL_val]
    congr 1; omega

/-- a fraction in lowest terms -/
def Wl (p : Int × Int) : Prop := 0 < p.2 ∧ Int.gcd p.1 p.2 = 1
def rtL (p : Int × Int) : List Nat := if p.2 = 1 then itL p.1 else itL p.1 ++ 47 :: itL p.2
theorem tl_slash : tl ("/" : Str) = [47] := by rfl
theorem tl_rtx (p : Int × Int) : tl (rtx p) = rtL p := by
  unfold rtx rtL
  split
  · exact tl_itx _
  · rw [tl_append, tl_append, tl_itx, tl_itx, tl_slash, List.append_assoc]; rfl
theorem rtL_one {p : Int × Int} (h : p.2 = 1) : rtL p = itL p.1 := if_pos h
theorem rtL_two {p : Int × Int} (h : p.2 ≠ 1) : rtL p = itL p.1 ++ 47 :: itL p.2 := if_neg h
theorem itL_head (i : Int) : ∃ c r, itL i = c :: r ∧ c ≠ 47 := by
  cases e : itL i with
  | nil => exact absurd e (itL_ne i)
  | cons c r => exact ⟨c, r, rfl, fun z => itL_slash i (by rw [e, z]; simp)⟩
theorem rtL_head (p : Int × Int) : ∃ c r, rtL p = c :: r ∧ c ≠ 47 := by
  obtain ⟨c, r, e, h⟩ := itL_head p.1
  by_cases d : p.2 = 1
  · exact ⟨c, r, by rw [rtL_one d, e], h⟩
  · exact ⟨c, r ++ 47 :: itL p.2, by rw [rtL_two d, e]; rfl, h⟩
/-- L1 -/
theorem rtL_mem {p : Int × Int} {c : Nat} (h : c ∈ rtL p) : c = 45 ∨ (47 ≤ c ∧ c ≤ 57) := by
  by_cases d : p.2 = 1
  · rw [rtL_one d] at h
    rcases itL_mem h with h | h
    · exact .inl h
    · exact .inr (by omega)
  · rw [rtL_two d] at h
    rcases List.mem_append.mp h with h | h
    · rcases itL_mem h with h | h
      · exact .inl h
      · exact .inr (by omega)
    · rcases List.mem_cons.mp h with h | h
      · exact .inr (by omega)
      · rcases itL_mem h with h | h
        · exact .inl h
        · exact .inr (by omega)
/-- L2 -/
theorem rtL_tail {p : Int × Int} (hp : Wl p) {c : Nat} {r : List Nat} (h : rtL p = c :: r) : 45 ∉ r := by
  obtain ⟨d, s, e, _⟩ := itL_head p.1
  by_cases o : p.2 = 1
  · rw [rtL_one o] at h
    exact itL_tail h
  · rw [rtL_two o, e] at h
    cases h
    intro m
    rcases List.mem_append.mp m with m | m
    · exact itL_tail e m
    · rcases List.mem_cons.mp m with m | m
      · cases m
      · rw [itL_nat (by have := hp.1; omega)] at m
        have := numL_dig m
        omega
theorem itL_count (i : Int) : (itL i).count 47 = 0 := List.count_eq_zero.mpr (itL_slash i)
/-- L3 -/
theorem rtL_count (p : Int × Int) : (rtL p).count 47 ≤ 1 := by
  by_cases o : p.2 = 1
  · rw [rtL_one o, itL_count]; omega
  · rw [rtL_two o, List.count_append, List.count_cons, itL_count, itL_count]
    simp
/-- L5 -/
theorem rtL_lead {p : Int × Int} {r : List Nat} (h : rtL p = 48 :: r) : r = [] ∨ ∃ s, r = 47 :: s := by
  by_cases o : p.2 = 1
  · rw [rtL_one o] at h
    exact .inl (itL_lead h)
  · rw [rtL_two o] at h
    obtain ⟨d, s, e, _⟩ := itL_head p.1
    rw [e] at h
    cases h
    rw [itL_lead e]
    exact .inr ⟨_, rfl⟩
theorem rtL_minus {p : Int × Int} {r : List Nat} (h : rtL p = 45 :: r) : ∃ c s, r = c :: s ∧ 49 ≤ c := by
  by_cases o : p.2 = 1
  · rw [rtL_one o] at h
    exact itL_minus h
  · rw [rtL_two o] at h
    obtain ⟨d, s, e, _⟩ := itL_head p.1
    rw [e] at h
    cases h
    obtain ⟨c, t, e2, h2⟩ := itL_minus e
    exact ⟨c, t ++ 47 :: itL p.2, by rw [e2]; rfl, h2⟩
/-- L6 -/
theorem split_one {a b c d : List Nat} (ha : 47 ∉ a) (hc : 47 ∉ c) (h : a ++ 47 :: b = c ++ 47 :: d) : a = c ∧ b = d := by
  induction a generalizing c with
  | nil =>
    cases c with
    | nil => exact ⟨rfl, (List.cons.inj h).2⟩
    | cons x c => exact absurd (by rw [← (List.cons.inj h).1]; simp) hc
  | cons y a ih =>
    cases c with
    | nil => exact absurd (by rw [(List.cons.inj h).1]; simp) ha
    | cons x c =>
      obtain ⟨h1, h2⟩ := List.cons.inj h
      obtain ⟨h3, h4⟩ := ih (fun z => ha (by simp [z])) (fun z => hc (by simp [z])) h2
      exact ⟨by rw [h1, h3], h4⟩
theorem rtL_split {p : Int × Int} {a b : List Nat} (ha : 47 ∉ a) (h : rtL p = a ++ 47 :: b) : a = itL p.1 ∧ b = itL p.2 ∧ p.2 ≠ 1 := by
  by_cases o : p.2 = 1
  · rw [rtL_one o] at h
    exact absurd (by rw [h]; simp) (itL_slash p.1)
  · rw [rtL_two o] at h
    obtain ⟨h1, h2⟩ := split_one (itL_slash _) ha h
    exact ⟨h1.symm, h2.symm, o⟩
theorem rtL_inj {p q : Int × Int} (h : rtL p = rtL q) : p = q := by
  by_cases o : p.2 = 1
  · by_cases o2 : q.2 = 1
    · rw [rtL_one o, rtL_one o2] at h
      exact Prod.ext (itL_inj h) (by rw [o, o2])
    · rw [rtL_one o, rtL_two o2] at h
      exact absurd (by rw [h]; simp) (itL_slash p.1)
  · rw [rtL_two o] at h
    obtain ⟨h1, h2, _⟩ := rtL_split (itL_slash _) h.symm
    exact Prod.ext (itL_inj h1) (itL_inj h2)

/-- no written form -/
def NotW (l : List Nat) : Prop := ∀ p, Wl p → rtL p ≠ l
theorem nw_nil : NotW [] := fun p _ h => by obtain ⟨c, r, e, _⟩ := rtL_head p; rw [e] at h; cases h
theorem nw_mem {l : List Nat} {c : Nat} (h : c ∈ l) (n : ¬ (c = 45 ∨ (47 ≤ c ∧ c ≤ 57))) : NotW l := fun p _ e => n (rtL_mem (p := p) (by rw [e]; exact h))
theorem nw_tail {c : Nat} {r : List Nat} (h : 45 ∈ r) : NotW (c :: r) := fun p hp e => rtL_tail hp e h
theorem nw_tail2 {a b : List Nat} (ha : a ≠ []) (h : 45 ∈ b) : NotW (a ++ b) := by
  cases a with
  | nil => exact absurd rfl ha
  | cons x a => exact nw_tail (List.mem_append.mpr (.inr h))
theorem nw_count {l : List Nat} (h : 2 ≤ l.count 47) : NotW l := fun p _ e => by have := rtL_count p; rw [e] at this; omega
theorem nw_slash (r : List Nat) : NotW (47 :: r) := fun p _ e => by obtain ⟨c, s, e2, h⟩ := rtL_head p; rw [e] at e2; cases e2; exact h rfl
theorem nw_minus1 : NotW [45] := fun p _ e => by obtain ⟨c, s, e2, _⟩ := rtL_minus e; cases e2
theorem nw_minus2 {c : Nat} (h : c < 49) (r : List Nat) : NotW (45 :: c :: r) := fun p _ e => by obtain ⟨d, s, e2, _⟩ := rtL_minus e; cases e2; omega
theorem nw_lead {c : Nat} (h : c ≠ 47) (r : List Nat) : NotW (48 :: c :: r) := fun p _ e => by
  rcases rtL_lead e with z | ⟨s, z⟩
  · cases z
  · cases z; exact h rfl
theorem nw_zero (p : Int × Int) : NotW (48 :: rtL p) := by
  obtain ⟨c, r, e, h⟩ := rtL_head p
  rw [e]
  exact nw_lead h r
theorem nw_below {i : Int} {b : List Nat} (h : ∀ n : Int, 0 < n → n ≠ 1 → itL n ≠ b) : NotW (itL i ++ 47 :: b) := fun p hp e => by
  obtain ⟨_, h2, h3⟩ := rtL_split (itL_slash _) e
  exact h p.2 hp.1 h3 h2.symm
theorem pos_head {n : Int} (h : 0 < n) : ∃ c r, itL n = c :: r ∧ 49 ≤ c := by
  rw [itL_nat (by omega)]
  obtain ⟨c, r, e, h, _⟩ := numL_head (n := n.natAbs) (by omega)
  exact ⟨c, r, e, h⟩
theorem nw_below0 (i : Int) : NotW (itL i ++ [47]) := nw_below fun n _ _ h => itL_ne n h
theorem nw_below1 (i : Int) : NotW (itL i ++ [47, 49]) := nw_below fun n h0 h1 h => h1 (itL_inj (j := 1) h)
theorem nw_belowz (i : Int) (r : List Nat) : NotW (itL i ++ 47 :: 48 :: r) := nw_below fun n h0 h1 h => by
  obtain ⟨c, s, e, h2⟩ := pos_head h0
  rw [e] at h
  cases h
  omega
theorem nw_times {p : Int × Int} {t : Int} (ht : 2 ≤ t) : NotW (itL (p.1 * t) ++ 47 :: itL (p.2 * t)) := fun q hq e => by
  obtain ⟨h1, h2, _⟩ := rtL_split (itL_slash _) e
  have e1 := itL_inj h1
  have e2 := itL_inj h2
  have g := hq.2
  rw [← e1, ← e2, Int.gcd_mul_right] at g
  have := Nat.eq_one_of_mul_eq_one_left g
  omega
/-- the digits of a text that repeats one -/
theorem rep_own {c : Nat} (h : 49 ≤ c) (g : c ≤ 57) (k : Nat) : numL (NumText.digitsVal (List.replicate (k + 1) c)) = List.replicate (k + 1) c ∧ 1 ≤ NumText.digitsVal (List.replicate (k + 1) c) :=
  numL_back (k + 1) _ (by simp) (fun x hx => by have := List.eq_of_mem_replicate hx; omega) ⟨c, _, rfl, h⟩
end Fc
set_option Elab.async false
set_option linter.all false
set_option maxRecDepth 100000
set_option maxHeartbeats 4000000
set_option exponentiation.threshold 100000
/-! A text times a number, a classmethod's call and the call of a local name that holds a class. -/
namespace Fc
open PySem PySem.Spec PyProof.Rows L2 TL

theorem fnR_of {P : Program} {w : World} {K : PySem.W.Frag} {mg : Str → Option Value} {base : Heap} {CX : CXT} {k : Nat} {f : Addr} {fd : FuncData} {ps : List Str} {sp : Sp}
    (F : FnOk P w K mg base CX k f fd ps sp) (hb : Binds K fd ps []) : FnR P w K mg base CX k f sp := by
  intro A outer s H us vs Q E hr h0 r q
  have hl : us.length = ps.length := r.length.symm.trans (F.len _ _ _ _ q)
  have kin : K.In s.heap := fun a o e => (h0.bs a o (h0.mod.kin a o e)).1
  have bd := hb s us kin (by rw [List.append_nil]; exact hl)
  rw [List.append_nil] at bd
  exact F.run A outer s H ⟨us, []⟩ us vs Q E hr h0 bd r q

section
variable {X : Cx} {CX : CXT} {k : Nat} {C f : Addr} {fd : FuncData} {ps : List Str} {sp : Sp} {E : XK}
/-- x(..), where the local name x holds a class -/
theorem pe_makeL {x : Str} {i : Nat} {p pos : Pos} {e : Expr} {es : List Expr} {t : TA} (hN : X.N[i]? = some x) (hv : Vis X.env.scope x) (M : Mk X.K C f) (F : FnOk X.prog X.w X.K X.mg X.base CX k f fd ps sp) (hr : Room (k + 1) X.A)
    (hb : Binds X.K fd ps []) (hx : Passes CX X E) (ha : PA X (e :: es) t)
    (hdb : (x == ("__debug__" : Str)) = false := by decide) (hcd : (x == ("__classdict__" : Str)) = false := by decide) (he : starEach (e :: es) X.env = (false, eval e X.env) :: starEach es X.env := by rfl)
    (hpl : (backTo pos (starEach es X.env)).any (·.1) = false := by rfl) : PE X (.Call (.Name x p) (e :: es) [] pos) (fun sl H Q => sl[i]? = some (some (.ref C)) ∧ tMakeS C sp (fun _ => E) t sl H Q) := by
  refine ⟨fun pins s sl H Q I ⟨hs, h⟩ => wpAny_Call_Name_kw (thn ((pe_var hN hv hdb hcd).run pins s sl H (fun v H1 => v = V.ref C ∧ H1 = H) I ⟨.ref C, hs, rfl, rfl⟩) fun u s1 ⟨v, H1, I1, r1, q1, q2⟩ => ?_)⟩
  subst q1; subst q2
  cases r1
  exact PySem.W.callWith_K (h₀ := X.base) I.ok.mod.kin M.kp (thn (ha.run pos pins s1 sl _ _ I1 h) fun us s2 ⟨vs, H2, I2, r, q⟩ => ⟨I2.kIn, run_makeS M F hr hb (E := fun _ => E) (fun pins => hx pins sl) I2 r q⟩) he hpl
end

section
variable {X : Cx} {CX : CXT} {k : Nat} {C p g : Addr} {mc : Value} {sp : Sp} {E : L2.St → XK}
theorem run_fnRS {pins : List (Addr × Obj)} {sl : L2.St} {H : Hp} {s : Shared} {Q : VK} {us : List Value} {vs : List V} {Ee : XK}
    (F : FnR X.prog X.w X.K X.mg X.base CX k g sp) (hr : Room k X.A) (hx : PassesAt CX X sl Ee) (I : Inv X pins sl H s) (r : Vals vs us) (q : sp vs H Q Ee) :
    codeAny (model X.prog X.w) X.A (.call (.ref g) ⟨us, []⟩) (fun r s' => match r with | .ok (.ret v) => EP X pins sl Q v s' | .ok _ => False | .error e => X.xe e s') s := by
  refine codeAny_mono (F X.A X.stack s H us vs Q Ee hr I.env0 r q) fun r s' hq => ?_
  cases r with
  | error e => exact hx pins _ _ e s' I hq
  | ok fl =>
    cases fl with
    | ret u => exact I.after hq
    | next => exact False.elim hq
    | brk => exact False.elim hq
    | cont => exact False.elim hq
/-- C.m(..), m a classmethod, where what is raised is wished for at the slots -/
def tCMethS (C : Addr) (sp : Sp) (E : L2.St → XK) (ta : TE) (t : TA) : TE := fun sl H Q => ta sl H fun x H1 => x = .ref C ∧ t sl H1 fun vs H2 => sp (.ref C :: vs) H2 Q (E sl)
theorem pe_cmethS {m : Str} {o e : Expr} {es : List Expr} {ta : TE} {t : TA} {apos pos : Pos} {pl : Sem Bool} (he : PE X o ta) (r : ClX.CRead X.K C mc) (c : ClX.CMet X.K C mc m p g)
    (F : FnR X.prog X.w X.K X.mg X.base CX k g sp) (hr : Room k X.A) (hx : ∀ sl, PassesAt CX X sl (E sl)) (ha : PA X (e :: es) t)
    (hst : starEach (e :: es) X.env = (false, eval e X.env) :: starEach es X.env := by rfl) (hpl : (backTo pos (starEach es X.env)).any (·.1) = false := by rfl)
    (ht : eval (.Call (.Attribute o m apos) (e :: es) [] pos) X.env = (do
      let v ← eval o X.env
      standAt apos.atName
      let (g, first) ← holding [v] (getMethod v m pl)
      callWith pos g first (backTo pos (starEach (e :: es) X.env)) (backToKw pos (keywordEach [] X.env))) := by rfl) :
    PE X (.Call (.Attribute o m apos) (e :: es) [] pos) (tCMethS C sp E ta t) := by
  refine ⟨fun pins s sl H Q I h => PySem.W.methodCall_KW (pl := pl) (thn (he.run pins s sl H _ I h) fun u s1 hh => ?_) ht⟩
  obtain ⟨x, H1, I1, rx, ex, q⟩ := hh
  subst ex
  cases rx
  refine ClX.getmethcm_ok I1 r c fun s2 I2 => ClX.callwith_cm I2 (ClX.base_none I1 (Nat.le_refl s1.heap.objs.size)) c.fi ?_ hst hpl
  refine thn (ha.run pos _ s2 sl H1 _ I2 q) fun us s3 hh => ?_
  obtain ⟨vs, H2, I3, rv, q2⟩ := hh
  refine ⟨⟨ClX.pin_at I3, I3.kIn⟩, ?_⟩
  exact thn (wpAny_call (PySem.W.method_call (ClX.pin_at I3) (run_fnRS (vs := .ref C :: vs) F hr (hx sl) I3 (.cons rfl rv) q2))) fun x s' y => ClX.unpinE y
end

theorem op_mulS {X : Cx} : OpR X (binaryOp Operator.Mult) fun x y H Q => ∃ (z : Str) (n : Int), x = .str z ∧ y = .int n ∧ z.length ≤ 1000 ∧ 0 ≤ n ∧ n ≤ 10000 ∧ Q (.str (Txt.mul z n)) H := by
  intro pins s sl H x y v u Q I rx ry h
  obtain ⟨z, n, rfl, rfl, hl, n0, n1, q⟩ := h
  obtain ⟨t, rfl⟩ := rx
  obtain ⟨t', rfl⟩ := ry
  exact PySem.SB.mul (mulOk_of 1000 10000 hl (by omega) (by omega) (by omega) (by omega)) fun t' tk => ⟨.str _, H, I.tok _, ⟨_, rfl⟩, q⟩
theorem foldl_app (c : Array Nat) (k : Nat) (acc : Array Nat) : (List.foldl (fun x y => x ++ y) acc (List.replicate k c)).toList = acc.toList ++ (List.replicate k c.toList).flatten := by
  induction k generalizing acc with
  | zero => simp
  | succ k ih => rw [List.replicate_succ, List.foldl_cons, ih, List.replicate_succ, List.flatten_cons, Array.toList_append, List.append_assoc]
theorem tl_mul {z : Str} {n : Nat} (h : 1 ≤ n) : tl (Txt.mul z n) = (List.replicate n (tl z)).flatten := by
  unfold Txt.mul
  rw [if_neg (by omega)]
  split
  · rename_i c
    simp only [Bool.or_eq_true, beq_iff_eq] at c
    rcases c with c | c
    · have : n = 1 := by omega
      subst this
      simp
    · have : tl z = [] := (len0_tl z).mp c
      rw [this]
      clear c h
      induction n with
      | zero => rfl
      | succ n ih => rw [List.replicate_succ, List.flatten_cons, List.nil_append]; exact ih
  · refine (foldl_app z.cps (n : Int).toNat #[]).trans ?_
    simp
theorem tl_mul1 {z : Str} {c n : Nat} (h : 1 ≤ n) (e : tl z = [c]) : tl (Txt.mul z n) = List.replicate n c := by
  rw [tl_mul h, e]
  clear h
  induction n with
  | zero => rfl
  | succ n ih => rw [List.replicate_succ, List.flatten_cons, ih]; rfl

theorem tl_cut (z : Str) (lo hi : Option Int) : tl (cutS z lo hi) = (List.take (HT.sIx z.length z.length hi - HT.sIx z.length 0 lo) (List.drop (HT.sIx z.length 0 lo) (tl z))) := rfl
theorem tl_to {z : Str} {n : Nat} (h : n ≤ z.length) : tl (cutS z none (some n)) = (tl z).take n := by
  rw [tl_cut]
  have : HT.sIx z.length z.length (some (n : Int)) = n := by
    show (if (n : Int) < 0 then ((n : Int) + (z.length : Int)).toNat else min (n : Int).toNat z.length) = n
    rw [if_neg (by omega)]; omega
  rw [this]
  rfl
theorem tl_from {z : Str} {n : Nat} (h : n ≤ z.length) : tl (cutS z (some n) none) = (tl z).drop n := by
  rw [tl_cut]
  have : HT.sIx z.length 0 (some (n : Int)) = n := by
    show (if (n : Int) < 0 then ((n : Int) + (z.length : Int)).toNat else min (n : Int).toNat z.length) = n
    rw [if_neg (by omega)]; omega
  rw [this]
  show List.take (z.length - n) _ = _
  rw [List.take_of_length_le]
  rw [List.length_drop, ← len_tl]
  omega


theorem isDig128 : ∀ c : Nat, c < 128 → Unicode.isDigit c = (decide (48 ≤ c) && decide (c ≤ 57)) := by decide +kernel
theorem digits_iff (z : Str) : (Txt.isascii z && Txt.isdigit z) = true ↔ (NumText.AllDigits (tl z) ∧ tl z ≠ []) := by
  obtain ⟨⟨l⟩⟩ := z
  show ((Array.all ⟨l⟩ fun x => decide (x < 128)) && (decide ((⟨l⟩ : Array Nat).size > 0) && Array.all ⟨l⟩ Unicode.isDigit)) = true ↔ (NumText.AllDigits l ∧ l ≠ [])
  rw [List.all_toArray, List.all_toArray]
  simp only [Bool.and_eq_true, List.all_eq_true, decide_eq_true_eq, List.size_toArray]
  constructor
  · rintro ⟨h1, h2, h3⟩
    refine ⟨fun c hc => ?_, fun z => by rw [z] at h2; exact absurd h2 (by decide)⟩
    have := h3 c hc
    rw [isDig128 c (h1 c hc)] at this
    simpa using this
  · rintro ⟨h1, h2⟩
    refine ⟨fun c hc => by have := h1 c hc; omega, ?_, fun c hc => ?_⟩
    · cases l with
      | nil => exact absurd rfl h2
      | cons a b => simp
    · have := h1 c hc
      rw [isDig128 c (by omega)]
      simpa using this
theorem rmp (z : Str) : Txt.removeprefix z "-" = if (tl z).head? = some 45 then SX.S (tl z).tail else z := by
  rw [PySem.StrLaws.removeprefix_eq]
  obtain ⟨⟨l⟩⟩ := z
  show (if (decide (0 + 1 ≤ (⟨l⟩ : Array Nat).size) && ((⟨l⟩ : Array Nat).extract 0 (0 + 1) == #[45])) = true then _ else _) = _
  cases l with
  | nil => rfl
  | cons c r =>
    show (if (decide (0 + 1 ≤ (c :: r).length) && _) = true then _ else _) = (if some c = some 45 then _ else _)
    by_cases h : c = 45
    · subst h
      rw [if_pos (by simp), if_pos rfl]
      show Str.mk (List.take ((45 :: r).length - 1) r).toArray = _
      rw [List.take_of_length_le (by simp)]
      rfl
    · rw [if_neg (by simp [h]), if_neg (by simp [h])]
theorem rmp_neg {z : Str} {r : List Nat} (h : tl z = 45 :: r) : tl (Txt.removeprefix z "-") = r := by rw [rmp, h]; rfl
theorem rmp_other {z : Str} (h : ∀ r, tl z ≠ 45 :: r) : Txt.removeprefix z "-" = z := by
  rw [rmp, if_neg]
  intro e
  cases c : tl z with
  | nil => rw [c] at e; cases e
  | cons a r => rw [c] at e; simp at e; exact h r (by rw [c, e])
/-- the digits behind the minus of a written number -/
theorem rmp_itx (i : Int) : tl (Txt.removeprefix (itx i) "-") = numL i.natAbs := by
  by_cases a : i < 0
  · exact rmp_neg (by rw [tl_itx, itL_neg a])
  · rw [rmp_other fun r e => ?_, tl_itx, itL_nat (by omega)]
    rw [tl_itx, itL_nat (by omega)] at e
    have := numL_dig (n := i.natAbs) (c := 45) (by rw [e]; simp)
    omega
/-- a text of digits, with or without a minus, is read by int -/
theorem int_any {z : Str} (h : NumText.AllDigits (tl (Txt.removeprefix z "-")) ∧ tl (Txt.removeprefix z "-") ≠ []) (hl : z.length ≤ 2000) : ∃ m : Int, intText? z = some m ∧ m.natAbs < 10 ^ 2000 := by
  have lt : ∀ l : List Nat, NumText.AllDigits l → l.length ≤ 2000 → NumText.digitsVal l < 10 ^ 2000 := fun l a b => Nat.lt_of_lt_of_le (digitsVal_lt _ l rfl a) (Nat.pow_le_pow_right (by decide) b)
  by_cases c : ∃ r, tl z = 45 :: r
  · obtain ⟨r, e⟩ := c
    rw [rmp_neg e] at h
    refine ⟨_, intText_neg (x := z) e h.1 h.2 (by omega), ?_⟩
    rw [Int.natAbs_neg, Int.natAbs_natCast]
    refine lt r h.1 ?_
    rw [len_tl, e, List.length_cons] at hl
    omega
  · rw [rmp_other fun r e => c ⟨r, e⟩] at h
    refine ⟨_, intText_digits (x := z) h.1 h.2 (by omega), ?_⟩
    rw [Int.natAbs_natCast]
    refine lt _ h.1 ?_
    rw [len_tl] at hl
    exact hl
theorem int_pos {z : Str} (h : NumText.AllDigits (tl z) ∧ tl z ≠ []) (hl : z.length ≤ 2000) : ∃ m : Int, intText? z = some m ∧ m.natAbs < 10 ^ 2000 ∧ 0 ≤ m := by
  refine ⟨_, intText_digits (x := z) h.1 h.2 (by omega), ?_, by omega⟩
  rw [Int.natAbs_natCast]
  refine Nat.lt_of_lt_of_le (digitsVal_lt _ _ rfl h.1) (Nat.pow_le_pow_right (by decide) ?_)
  show (tl z).length ≤ 2000
  rw [← len_tl]; exact hl
theorem ten2000 : 10 ^ 2000 < 2 ^ 6700 := by decide +kernel
theorem bd2000 {m : Int} (h : m.natAbs < 10 ^ 2000) : Bd 6700 m := Nat.lt_trans h ten2000
theorem pow4300 {n k : Nat} (h : n < 10 ^ k) (g : k ≤ 4300 := by decide) : n < 10 ^ 4300 := Nat.lt_of_lt_of_le h (Nat.pow_le_pow_right (by decide) g)
theorem bd4300 {m : Int} (h : Bd 8900 m) : m.natAbs < 10 ^ 4300 := Nat.lt_trans h (by decide +kernel)
theorem part_rtx (p : Int × Int) : Txt.partition (rtx p) "/" = if p.2 = 1 then (itx p.1, Str.empty, Str.empty) else (itx p.1, "/", itx p.2) := by
  unfold rtx
  split
  · exact partition_none (y := "/") (s := 47) (S := []) rfl (by rw [tl_itx]; exact itL_slash _)
  · exact partition_app (y := "/") (s := 47) (S := []) rfl (by rw [tl_itx]; exact itL_slash _)
end Fc
set_option Elab.async false
set_option linter.all false
set_option maxRecDepth 100000
set_option maxHeartbeats 4000000
set_option exponentiation.threshold 100000
namespace Fc
open PySem PySem.Spec PyProof.Rows L2 L2H
/-! ### the text -/
def top (i : Nat) : Stmt := PySem.Challenge.pw_fewcarry_k03_fraction_text.main.body.getD i (.Pass ⟨0, 0, 0, 0⟩)
abbrev S_bn : Stmt := inClass (top 6) 0
abbrev N_bn : List Str := ["self", "given"]
theorem sc_bn : FnScope N_bn ["self", "given"] (defScope S_bn) := ⟨rfl, rfl, rfl, by decide +kernel, rfl, by decide +kernel, by decide +kernel⟩
abbrev S_isdig : Stmt := top 8
abbrev N_isdig : List Str := ["text"]
theorem sc_isdig : FnScope N_isdig ["text"] (defScope S_isdig) := ⟨rfl, rfl, rfl, by decide +kernel, rfl, by decide +kernel, by decide +kernel⟩
abbrev S_init : Stmt := inClass (top 12) 0
abbrev N_init : List Str := ["self", "top", "bottom", "divisor"]
theorem sc_init : FnScope N_init ["self", "top", "bottom"] (defScope S_init) := ⟨rfl, rfl, rfl, by decide +kernel, rfl, by decide +kernel, by decide +kernel⟩
abbrev S_read : Stmt := inClass (top 12) 1
abbrev N_read : List Str := ["cls", "text", "top", "slash", "bottom", "under", "ratio"]
theorem sc_read : FnScope N_read ["cls", "text"] (defScope S_read) := ⟨rfl, rfl, rfl, by decide +kernel, rfl, by decide +kernel, by decide +kernel⟩
abbrev S_rtext : Stmt := inClass (top 12) 15
abbrev N_rtext : List Str := ["self"]
theorem sc_rtext : FnScope N_rtext ["self"] (defScope S_rtext) := ⟨rfl, rfl, rfl, by decide +kernel, rfl, by decide +kernel, by decide +kernel⟩
abbrev S_start : Stmt := top 14
abbrev N_start : List Str := ["script", "cell"]
theorem sc_start : FnScope N_start ["script"] (defScope S_start) := ⟨rfl, rfl, rfl, by decide +kernel, rfl, by decide +kernel, by decide +kernel⟩
abbrev S_digit : Stmt := top 15
abbrev N_digit : List Str := ["pot", "many", "digit"]
theorem sc_digit : FnScope N_digit ["pot", "many"] (defScope S_digit) := ⟨rfl, rfl, rfl, by decide +kernel, rfl, by decide +kernel, by decide +kernel⟩
abbrev S_lowest : Stmt := top 16
abbrev N_lowest : List Str := ["top", "bottom", "u", "v", "k", "rest"]
theorem sc_lowest : FnScope N_lowest ["top", "bottom"] (defScope S_lowest) := ⟨rfl, rfl, rfl, by decide +kernel, rfl, by decide +kernel, by decide +kernel⟩
abbrev S_long : Stmt := top 17
abbrev N_long : List Str := ["pot", "size", "first", "piece", "n"]
theorem sc_long : FnScope N_long ["pot"] (defScope S_long) := ⟨rfl, rfl, rfl, by decide +kernel, rfl, by decide +kernel, by decide +kernel⟩
abbrev S_fraction : Stmt := top 18
abbrev N_fraction : List Str := ["pot", "kind", "top"]
theorem sc_fraction : FnScope N_fraction ["pot"] (defScope S_fraction) := ⟨rfl, rfl, rfl, by decide +kernel, rfl, by decide +kernel, by decide +kernel⟩
abbrev S_written : Stmt := top 19
abbrev N_written : List Str := ["p"]
theorem sc_written : FnScope N_written ["p"] (defScope S_written) := ⟨rfl, rfl, rfl, by decide +kernel, rfl, by decide +kernel, by decide +kernel⟩
abbrev S_reads : Stmt := top 20
abbrev N_reads : List Str := ["text", "p", "told", "again"]
theorem sc_reads : FnScope N_reads ["text", "p"] (defScope S_reads) := ⟨rfl, rfl, rfl, by decide +kernel, rfl, by decide +kernel, by decide +kernel⟩
abbrev S_refuses : Stmt := top 21
abbrev N_refuses : List Str := ["text", "e"]
theorem sc_refuses : FnScope N_refuses ["text"] (defScope S_refuses) := ⟨rfl, rfl, rfl, by decide +kernel, rfl, by decide +kernel, by decide +kernel⟩
abbrev S_spoilt : Stmt := top 22
abbrev N_spoilt : List Str := ["pot", "p", "text", "times", "top", "low", "more", "rows", "ahead", "behind", "between", "signs", "sign", "place"]
theorem sc_spoilt : FnScope N_spoilt ["pot", "p", "text", "times"] (defScope S_spoilt) := ⟨rfl, rfl, rfl, by decide +kernel, rfl, by decide +kernel, by decide +kernel⟩
abbrev S_bounds : Stmt := top 23
abbrev N_bounds : List Str := ["sign", "whole", "row"]
theorem sc_bounds : FnScope N_bounds ["sign"] (defScope S_bounds) := ⟨rfl, rfl, rfl, by decide +kernel, rfl, by decide +kernel, by decide +kernel⟩
abbrev S_law : Stmt := top 24
abbrev N_law : List Str := ["script", "pot", "p", "times", "text", "row", "n"]
theorem sc_law : FnScope N_law ["script"] (defScope S_law) := ⟨rfl, rfl, rfl, by decide +kernel, rfl, by decide +kernel, by decide +kernel⟩
structure Ad where
  C : Addr
  f_init : Addr
  d_init : FuncData
  Z : Addr
  CE : Addr
  BN : Addr
  f_bn : Addr
  d_bn : FuncData
  f_isdig : Addr
  d_isdig : FuncData
  f_read : Addr
  d_read : FuncData
  f_rtext : Addr
  d_rtext : FuncData
  f_start : Addr
  d_start : FuncData
  f_digit : Addr
  d_digit : FuncData
  f_lowest : Addr
  d_lowest : FuncData
  f_long : Addr
  d_long : FuncData
  f_fraction : Addr
  d_fraction : FuncData
  f_written : Addr
  d_written : FuncData
  f_reads : Addr
  d_reads : FuncData
  f_refuses : Addr
  d_refuses : FuncData
  f_spoilt : Addr
  d_spoilt : FuncData
  f_bounds : Addr
  d_bounds : FuncData
  f_law : Addr
  d_law : FuncData
structure Txt (K : PySem.W.Frag) (mg : Str → Option Value) (A : Ad) : Prop where
  hn : PySem.W.specialIn K (.builtin "object.__class__") "__get__" = some (some (.builtin "getset_descriptor.__get__"))
  htk : PySem.W.takesIn K (.builtin "object.__class__") = some true
  cl : Cls K A.C
  nT : NoAttr K A.C "top"
  nB : NoAttr K A.C "bottom"
  mkC : Mk K A.C A.f_init
  ha : PySem.W.findIn K (.ref A.C) "__class__" = some (some (.builtin "object.__class__"))
  hm : PySem.W.mroIn K A.C (.type "object") = some true
  F_init : FunD K "__init__" "Ratio.__init__" (defArgs S_init) (defBody S_init) (defScope S_init) [.int 1] [] A.f_init A.d_init
  b_init3 : Binds K A.d_init ["self", "top", "bottom"] []
  b_init2 : ∃ ds, Vals [V.int 1] ds ∧ Binds K A.d_init ["self", "top", "bottom"] ds
  g_Ratio : mg "Ratio" = some (.ref A.C)
  g_gcd : mg "gcd" = some (.builtin "math.gcd")
  g_Z : mg "ZeroBottom" = some (.ref A.Z)
  xZ : PySem.W.excIn K A.Z [.type "ValueError", .type "Exception", .type "BaseException", .type "object"] "ValueError.__new__" = true
  kZ : PySem.W.keepIn K (.ref A.Z) = true
  bZ : PySem.W.subIn K (.ref A.Z) (.type "BaseException") = some true
  tZ : PySem.W.typeIn K (.ref A.Z) = some (.type "type")
  g_CE : mg "CarryError" = some (.ref A.CE)
  g_BN : mg "BadNumber" = some (.ref A.BN)
  o_BN : OexC K A.BN
  in_BN : PySem.W.findIn K (.ref A.BN) "__init__" = some (some (.ref A.f_bn))
  ti_BN : PySem.W.typeIn K (.ref A.f_bn) = some (.type "function")
  xf_BN : XfC K A.BN
  e_BN : PySem.W.exmOne K (.ref A.BN) (.ref A.CE) = some true
  X_BN : ExcC K A.BN
  v_BN : PySem.W.kitOne K (.ref A.BN) (.type "ValueError") = some true
  n_BN_given : PySem.W.findIn K (.ref A.BN) "given" = some none
  bnNz : PySem.W.kitOne K (.ref A.BN) (.ref A.Z) = some false
  crC : ClX.CRead K A.C (.type "type")
  gi_MOST_CHARACTERS : ∃ tk, mg "_MOST_CHARACTERS" = some (.int 2000 tk)
  nd : PySem.W.nsIn K cStatics "sys.int_max_str_digits" = some none
  n_len : mg "len" = none
  n_abs : mg "abs" = none
  n_int : mg "int" = none
  n_bool : mg "bool" = none
  n_isinstance : mg "isinstance" = none
  n_range : mg "range" = none
  n_ValueError : mg "ValueError" = none
  n_str : mg "str" = none
  F_bn : Fun K "__init__" "BadNumber.__init__" S_bn A.f_bn A.d_bn
  b_bn : Binds K A.d_bn ["self", "given"] []
  m_bn : Meth K A.BN "__init__" A.f_bn
  F_isdig : Fun K "is_digits" "is_digits" S_isdig A.f_isdig A.d_isdig
  b_isdig : Binds K A.d_isdig ["text"] []
  g_isdig : mg "is_digits" = some (.ref A.f_isdig)
  F_read : Fun K "read" "Ratio.read" S_read A.f_read A.d_read
  b_read : Binds K A.d_read ["cls", "text"] []
  p_read : ∃ p, ClX.CMet K A.C (.type "type") "read" p A.f_read
  F_rtext : Fun K "text" "Ratio.text" S_rtext A.f_rtext A.d_rtext
  b_rtext : Binds K A.d_rtext ["self"] []
  m_rtext : Meth K A.C "text" A.f_rtext
  F_start : Fun K "_law_start" "_law_start" S_start A.f_start A.d_start
  b_start : Binds K A.d_start ["script"] []
  g_start : mg "_law_start" = some (.ref A.f_start)
  F_digit : Fun K "_law_digit" "_law_digit" S_digit A.f_digit A.d_digit
  b_digit : Binds K A.d_digit ["pot", "many"] []
  g_digit : mg "_law_digit" = some (.ref A.f_digit)
  F_lowest : Fun K "_law_lowest" "_law_lowest" S_lowest A.f_lowest A.d_lowest
  b_lowest : Binds K A.d_lowest ["top", "bottom"] []
  g_lowest : mg "_law_lowest" = some (.ref A.f_lowest)
  F_long : Fun K "_law_long" "_law_long" S_long A.f_long A.d_long
  b_long : Binds K A.d_long ["pot"] []
  g_long : mg "_law_long" = some (.ref A.f_long)
  F_fraction : Fun K "_law_fraction" "_law_fraction" S_fraction A.f_fraction A.d_fraction
  b_fraction : Binds K A.d_fraction ["pot"] []
  g_fraction : mg "_law_fraction" = some (.ref A.f_fraction)
  F_written : Fun K "_law_written" "_law_written" S_written A.f_written A.d_written
  b_written : Binds K A.d_written ["p"] []
  g_written : mg "_law_written" = some (.ref A.f_written)
  F_reads : Fun K "_law_reads" "_law_reads" S_reads A.f_reads A.d_reads
  b_reads : Binds K A.d_reads ["text", "p"] []
  g_reads : mg "_law_reads" = some (.ref A.f_reads)
  F_refuses : Fun K "_law_refuses" "_law_refuses" S_refuses A.f_refuses A.d_refuses
  b_refuses : Binds K A.d_refuses ["text"] []
  g_refuses : mg "_law_refuses" = some (.ref A.f_refuses)
  F_spoilt : Fun K "_law_spoilt" "_law_spoilt" S_spoilt A.f_spoilt A.d_spoilt
  b_spoilt : Binds K A.d_spoilt ["pot", "p", "text", "times"] []
  g_spoilt : mg "_law_spoilt" = some (.ref A.f_spoilt)
  F_bounds : Fun K "_law_bounds" "_law_bounds" S_bounds A.f_bounds A.d_bounds
  b_bounds : Binds K A.d_bounds ["sign"] []
  g_bounds : mg "_law_bounds" = some (.ref A.f_bounds)
  F_law : Fun K "law" "law" S_law A.f_law A.d_law
  b_law : Binds K A.d_law ["script"] []
  g_law : mg "law" = some (.ref A.f_law)
section
variable {P : Program} {w : World} {K : PySem.W.Frag} {mg : Str → Option Value} {base : Heap} {A : Ad}
/-! ### Ratio.__init__: raises for a bottom 0, else lowest terms -/
def spInit (A : Ad) : Sp := fun vs H Q E => ∃ (x dx : Addr) (t b : Int), vs = [.ref x, .int t, .int b] ∧ H x = some (.ins A.C dx []) ∧ (b = 0 → E (.ref A.Z) none H) ∧
  (b ≠ 0 → Bd 8900 b ∧ ∀ H', RatAt A.C H' x (lo t b) → (∀ c o, H c = some o → c ≠ x → H' c = some o) → Q .non H')
theorem ok_init (T : Txt K mg A) : FnOk P w K mg base (L2.CX P w) 1 A.f_init A.d_init ["self", "top", "bottom"] (spInit A) := by
  refine T.F_init.ok sc_init (fun vs H Q E h => ?_) (fun cdv Ar outer s H vs Q E hr h => ?_)
  · obtain ⟨x, dx, t, b, rfl, _⟩ := h
    rfl
  · obtain ⟨x, dx, t, b, rfl, hx, k0, k1⟩ := h
    refine ⟨_, (pss_cons (ps_if (pt_cmpR op_eq (pv 2) pe_int (nomark _))
      (pss_one (ps_raise rfl (takes_of rfl rfl rfl rfl) (pmk_bare PySem.F.excBase_ValueError T.xZ T.g_Z T.kZ (raises_own T.bZ T.tZ) rfl))) pss_nil)
      (pss_cons (ps_set (i := 3) sc_init.nd rfl (Or.inl rfl) (pe_callBfun cr_gcd rfl T.g_gcd (pa_cons (pv 1) (pa_cons (pv 2) pa_nil))))
      (pss_cons (ps_if (pt_cmpR op_lt (pv 2) pe_int (nomark _))
      (pss_one (ps_set (i := 3) sc_init.nd rfl (Or.inl rfl) (pe_un un_neg (pv 3)))) pss_nil)
      (pss_cons (ps_fld (pv 0) (pe_op op_fdv (pv 1) (pv 3)) rfl)
      (pss_one (ps_fld (pv 0) (pe_op op_fdv (pv 2) (pv 3)) rfl)))))), ?_⟩
    refine ⟨_, rfl, rfl, _, rfl, ?_⟩
    by_cases hb : b = 0
    · refine ite2 (fun _ => k0 hb) (fun n => absurd (by rw [hb] <;> rfl) n)
    refine ite2 (fun z => absurd (V.int.inj (of_decide_eq_true z)) hb) (fun _ => ?_)
    obtain ⟨bb, k⟩ := k1 hb
    have g := gcd_pos (t := t) hb
    have gn : ((Nat.gcd t.natAbs b.natAbs : Nat) : Int) = (Int.gcd t b : Int) := rfl
    have gb : Bd 8900 (Int.gcd t b : Int) := by
      refine bb.abs ?_
      have := Nat.le_of_dvd (by omega : 0 < b.natAbs) (Nat.gcd_dvd_right t.natAbs b.natAbs)
      show ((Nat.gcd t.natAbs b.natAbs : Nat) : Int).natAbs ≤ _
      omega
    have lp := lo_prog (t := t) hb
    refine ⟨_, rfl, _, rfl, t, b, rfl, _, rfl, _, _, rfl, rfl, _, rfl, ?_⟩
    have fin : ∀ d : Int, d ≠ 0 → Bd 8900 d → lo t b = (t.fdiv d, b.fdiv d) → ∀ H2 : Hp, H2 = upd (upd H x (.ins A.C dx (putF "top" (.int (t.fdiv d)) []))) x (.ins A.C dx (putF "bottom" (.int (b.fdiv d)) (putF "top" (.int (t.fdiv d)) []))) → Q .non H2 := by
      intro d d0 db e H2 e2
      refine k H2 ⟨dx, ?_⟩ fun c o hc hn => ?_
      · rw [e2, upd_same, rf_put, e]
      · rw [e2, upd_ne hn, upd_ne hn]; exact hc
    refine ite2 (fun c => ?_) (fun c => ?_)
    · have c' : b < 0 := of_decide_eq_true c
      rw [if_pos c'] at lp
      refine ⟨_, rfl, _, rfl, _, rfl, _, rfl, _, _, rfl, rfl, gb.neg.fdv (by omega), _, rfl, x, A.C, dx, _, rfl, hx, T.cl, T.nT, (by show 0 < 1000; decide), ?_⟩
      refine ⟨_, rfl, _, rfl, _, _, rfl, rfl, gb.neg.fdv (by omega), _, rfl, x, A.C, dx, _, rfl, upd_same, T.cl, T.nB, (by show 1 < 1000; decide), ?_⟩
      exact fin _ (by omega) gb.neg lp _ rfl
    · have c' : ¬ b < 0 := fun z => c (decide_eq_true z)
      rw [if_neg c'] at lp
      refine ⟨_, rfl, _, rfl, _, _, rfl, rfl, gb.fdv (by omega), _, rfl, x, A.C, dx, _, rfl, hx, T.cl, T.nT, (by show 0 < 1000; decide), ?_⟩
      refine ⟨_, rfl, _, rfl, _, _, rfl, rfl, gb.fdv (by omega), _, rfl, x, A.C, dx, _, rfl, upd_same, T.cl, T.nB, (by show 1 < 1000; decide), ?_⟩
      exact fin _ (by omega) gb lp _ rfl
/-- Ratio(t, b) read: for b not 0 -/
theorem rd_make {t b : Int} {H : Hp} {Q : VK} {E : XK} (hb : b ≠ 0) (bb : Bd 8900 b) (k : ∀ x H', Ex H H' → H x = none → RatAt A.C H' x (lo t b) → Q (.ref x) H') :
    ∀ x dx, H x = none → H dx = none → dx ≠ x → spInit A [.ref x, .int t, .int b] (upd (upd H dx (.own x)) x (.ins A.C dx [])) (fun v H2 => v = .non ∧ Q (.ref x) H2) E :=
  fun x dx nx nd ne => ⟨x, dx, t, b, rfl, upd_same, fun z => absurd z hb, fun _ => ⟨bb, fun H' r kp => ⟨rfl, k x H' (Same.made nx nd kp) nx r⟩⟩⟩
theorem ok_start (T : Txt K mg A) : FnOk P w K mg base CX0 1 A.f_start A.d_start ["script"] (spStart K) := by
  refine T.F_start.ok sc_start (fun vs H Q E h => ?_) (fun cdv Ar outer s H vs Q E hr h => ?_)
  · obtain ⟨a, ns, rfl, _⟩ := h
    rfl
  · obtain ⟨a, ns, rfl, hS, hl, k⟩ := h
    refine ⟨_, (pss_one (ps_ret (pe_lst (pa_cons (pe_lc (own := [("cell", 1)]) (g := gName 1) (tt := tYes) rfl sc_start.nd (pi_list (pe_slice sl_list (pv 0) po_none (po_some pe_int))) (blkOk_by (own := [("cell", 1)]) (N := N_start) (sc := defScope S_start) (by decide +kernel)) (fun _ _ _ _ _ => pg_name (i := 1) sc_start.nd rfl (Or.inl rfl)) (fun _ _ _ _ _ => pts_nil) (fun _ _ _ _ _ => (pe_callB call_abs (by rfl) T.n_abs (by decide +kernel) (pa_cons (pv 1) pa_nil)))) (pa_cons pe_int (pa_cons pe_int pa_nil)))))), ?_⟩
    obtain ⟨ms, hms, hml⟩ : ∃ ms : List Int, cutV (ns.map V.int) none (some 63) = ms.map V.int ∧ ms.length ≤ 63 := by
      refine ⟨(ns.drop (HT.sIx (ns.map V.int).length 0 none)).take (HT.sIx (ns.map V.int).length (ns.map V.int).length (some 63) - HT.sIx (ns.map V.int).length 0 none), ?_, ?_⟩
      · unfold cutV
        rw [List.map_take, List.map_drop]
      · rw [List.length_take, List.length_drop]
        omega
    refine ⟨_, rfl, _, rfl, a, _, rfl, hS, fun p hp => ⟨p, rfl, ⟨_, SqL.of upd_same⟩, fun D hD => ?_⟩⟩
    rw [hms]
    have hpD : p ≠ D := fun e => by rw [← e, hms, upd_same] at hD; cases hD
    have hD0 : H D = none := by rw [hms, upd_ne hpD.symm] at hD; exact hD
    refine lc_list (K := K) (a := p) (xs := ms.map V.int) (fun i H' => (∃ cs : List Int, H' D = some (.lst (cs.map V.int)) ∧ cs.length = i ∧ (∀ z ∈ cs, 0 ≤ z)) ∧ H' p = some (.lst (ms.map V.int)) ∧ Ex H H')
      ⟨⟨[], upd_same, rfl, fun z hz => by cases hz⟩, ?_, ?_⟩ (fun i H' _ h => SqL.of h.2.1) ?_ ?_
    · rw [upd_ne hpD, upd_same]
    · exact fun c o e => by rw [upd_ne (ne_of_none e hD0), upd_ne (ne_of_none e hp)]; exact e
    · rintro i x H' hx ⟨⟨cs, hcs, hci, hc0⟩, hp', ex⟩
      obtain ⟨z, hz, rfl⟩ : ∃ z, ms[i]? = some z ∧ x = V.int z := by
        rw [List.getElem?_map] at hx
        cases e : ms[i]? with
        | none => rw [e] at hx; cases hx
        | some z => rw [e] at hx; exact ⟨z, rfl, (Option.some.inj hx).symm⟩
      have hi : i < ms.length := (List.getElem?_eq_some_iff.mp hz).1
      refine ⟨rfl, _, rfl, z, rfl, _, hcs, ?_, ⟨⟨cs ++ [if z < 0 then -z else z], ?_, ?_, ?_⟩, ?_, ?_⟩⟩
      · rw [List.length_map, hci, sizeLine_eq]; omega
      · rw [upd_same, List.map_append]; rfl
      · rw [List.length_append, hci]; rfl
      · intro y hy
        rcases List.mem_append.mp hy with h | h
        · exact hc0 y h
        · have : y = if z < 0 then -z else z := by simpa using h
          rw [this]
          split <;> omega
      · rw [upd_ne hpD]; exact hp'
      · exact fun c o e => by rw [upd_ne (ne_of_none e hD0)]; exact ex c o e
    · rintro H' ⟨⟨cs, hcs, hci, hc0⟩, hp', ex⟩
      refine ⟨(by show 3 ≤ sizeLine; exact sz3), fun q hq => ?_⟩
      have nqD : D ≠ q := ne_of_none hcs hq
      refine k q _ ⟨D, cs, 0, 0, nqD.symm, upd_same, by rw [upd_ne nqD]; exact hcs, ?_, by decide, by decide, hc0⟩ (ex.to hq) (ex.free hq)
      rw [List.length_map] at hci
      omega
theorem ok_digit (T : Txt K mg A) : FnOk P w K mg base CX0 1 A.f_digit A.d_digit ["pot", "many"] spDigit := by
  refine T.F_digit.ok sc_digit (fun vs H Q E h => ?_) (fun cdv Ar outer s H vs Q E hr h => ?_)
  · obtain ⟨p, m, rfl, _⟩ := h
    rfl
  · obtain ⟨p, m, rfl, pot, m0, bm, k⟩ := h
    refine ⟨_, (C8.pss_cut (ps_if (PW.pt (pw_and (pt_cmpR op_eq (pe_ix ix_list (pv 0) pe_int (fun _ _ => rfl)) pe_int (nomark _)) (pw_and1 (pt_cmpR op_lt (pe_ix ix_list (pv 0) pe_int (fun _ _ => rfl)) (pe_callB call_len (by rfl) T.n_len PySem.boot_len (pa_cons (pe_ix ix_list (pv 0) pe_int (fun _ _ => rfl)) pa_nil)) (nomark _)))))
      (pss_cons (ps_asg (pe_ix ix_list (pe_ix ix_list (pv 0) pe_int (fun _ _ => rfl)) (pe_ix ix_list (pv 0) pe_int (fun _ _ => rfl)) (fun _ _ => rfl)) (pg_sub (pv 0) pe_int set_list))
      (pss_one (ps_asg (pe_op op_add (pe_ix ix_list (pv 0) pe_int (fun _ _ => rfl)) pe_int) (pg_sub (pv 0) pe_int set_list)))) pss_nil)
      (pss_cons (ps_set (i := 2) sc_digit.nd rfl (Or.inl rfl) (pe_op op_mod (pe_callTy call_int1 (by rfl) T.n_int (by decide +kernel) (pa_cons (pe_ix ix_list (pv 0) pe_int (fun _ _ => rfl)) pa_nil)) (pv 1)))
      (pss_cons (ps_asg (pe_op op_fdivW (pe_ix ix_list (pv 0) pe_int (fun _ _ => rfl)) (pv 1)) (pg_sub (pv 0) pe_int set_list))
      (pss_one (ps_ret (pv 2)))))), ?_⟩
    obtain ⟨l, cs, i, c, ne, h1, h2, hl, i0, c0, hc⟩ := id pot
    refine ⟨fun sl H' => sl = [some (.ref p), some (.int m), none] ∧ PotAt H' p ∧ Keep p H H', ?_, ?_⟩
    · refine ⟨_, rfl, _, _, _, _, rfl, rfl, SqL.of h1, rfl, rfl, _, rfl, ?_⟩
      refine ite2 (fun z => ?_) (fun z => iteF ⟨rfl, pot, Keep.refl⟩)
      refine ⟨_, rfl, _, _, _, _, rfl, rfl, SqL.of h1, rfl, _, rfl, _, _, _, _, rfl, rfl, SqL.of h1, rfl, _, _, rfl, .inl ⟨_, SqL.of h2, rfl⟩, _, _, rfl, rfl, _, rfl, ?_⟩
      refine ite2 (fun z2 => ?_) (fun z2 => ⟨rfl, pot, Keep.refl⟩)
      have hi : i < cs.length := by have := of_decide_eq_true z2; rw [List.length_map] at this; exact this
      obtain ⟨j, rfl⟩ : ∃ j : Nat, i = (j : Int) := ⟨i.toNat, by omega⟩
      have hj : j < cs.length := by omega
      have at_ : (cs.map V.int)[j]? = some (.int cs[j]) := by rw [List.getElem?_map, List.getElem?_eq_getElem hj]; rfl
      refine ⟨_, rfl, _, _, _, _, rfl, rfl, SqL.of h1, rfl, _, rfl, _, _, _, _, rfl, rfl, SqL.of h1, rfl, _, _, _, _, rfl, rfl, SqL.of h2, atI_nat at_, _, rfl, p, _, 2, 2, rfl, rfl, h1, rfl, ?_⟩
      refine ⟨_, rfl, _, _, _, _, rfl, rfl, SqL.of upd_same, rfl, _, _, rfl, rfl, _, rfl, p, _, 1, 1, rfl, rfl, upd_same, rfl, rfl, ?_, ?_⟩
      · refine ⟨l, cs, (j : Int) + 1, cs[j], ne, upd_same, ?_, hl, by omega, hc _ (List.getElem_mem hj), hc⟩
        rw [upd_ne ne.symm, upd_ne ne.symm]; exact h2
      · exact Keep.upd.trans Keep.upd
    · rintro sl H' ⟨rfl, pot', kp⟩
      obtain ⟨l, cs, i, c, ne, h1, h2, hl, i0, c0, hc⟩ := id pot'
      refine ⟨_, rfl, _, _, _, _, rfl, rfl, SqL.of h1, rfl, .inl ⟨_, rfl, _, rfl, _, _, rfl, rfl, m0, ?_⟩⟩
      refine ⟨_, rfl, _, _, _, _, rfl, rfl, SqL.of h1, rfl, _, rfl, _, _, rfl, rfl, bm.div m0, _, rfl, p, _, 2, 2, rfl, rfl, h1, rfl, _, rfl, ?_⟩
      refine k _ _ (Int.emod_nonneg _ (by omega)) (Int.emod_lt_of_pos _ m0) ⟨l, cs, i, c / m, ne, upd_same, ?_, hl, i0, Int.ediv_nonneg c0 (by omega), hc⟩ (kp.trans Keep.upd)
      rw [upd_ne ne.symm]; exact h2
/-! ### an own error with one field -/
def spErr1 (C : Addr) (f : Str) : Sp := fun vs H Q _ => ∃ (a : Addr) (v : V), vs = [.ref a, v] ∧ H a = some (exo a C none) ∧
  ∀ d H2, H d = none → d ≠ a → H2 a = some (exo a C (some d)) → H2 d = some (exd d [(f, v)]) → (∀ c o, H c = some o → c ≠ a → H2 c = some o) → Q .non H2
theorem rd_err1 {C : Addr} {f : Str} {v : V} {H : Hp} {Q : XK} {E : XK} (k : ∀ d H', Ex H H' → H' d = some (.xd [(f, v)]) → Q (.ref C) (some d) H') :
    ([v] : List V).length ≤ 1000 ∧ ∀ a, H a = none → spErr1 C f (.ref a :: ([v] ++ [])) (upd H a (exo a C none))
      (fun u H2 => u = .non ∧ ∃ (d : Addr) (fs : List (Str × V)), H2 a = some (exo a C (some d)) ∧ H2 d = some (exd d fs) ∧ H d = none ∧ Q (.ref C) (some d) (upd (del H2 a) d (.xd fs))) E := by
  refine ⟨(by show 1 ≤ 1000; decide), fun a na => ⟨a, v, rfl, upd_same, fun d H2 nd ne h1 h2 kp => ⟨rfl, d, _, h1, h2, ?_, ?_⟩⟩⟩
  · rw [upd_ne ne] at nd; exact nd
  · have hd : H d = none := by rw [upd_ne ne] at nd; exact nd
    refine k d _ (fun b o e => ?_) upd_same
    rw [upd_ne (ne_of_none e hd), del_ne (ne_of_none e na)]
    exact kp b o (by rw [upd_ne (ne_of_none e na)]; exact e) (ne_of_none e na)
theorem ok_bn (T : Txt K mg A) : FnOk P w K mg base CX0 1 A.f_bn A.d_bn ["self", "given"] (spErr1 A.BN "given") := by
  refine T.F_bn.ok sc_bn (fun vs H Q E h => ?_) (fun cdv Ar outer s H vs Q E hr h => ?_)
  · obtain ⟨a, v, rfl, _⟩ := h
    rfl
  · obtain ⟨a, v, rfl, ha, k⟩ := h
    refine ⟨_, (pss_one (ps_ost (pv 0) (pv 1))), ?_⟩
    refine ⟨_, rfl, _, rfl, a, A.BN, rfl, T.o_BN, T.n_BN_given, .inl ⟨ha, fun d hd hn => ?_⟩⟩
    exact k d _ hd hn upd_same (by rw [upd_ne hn, upd_same]) fun c o e ne => by rw [upd_ne ne, upd_ne (ne_of_none e hd)]; exact e
/-! ### is_digits -/
def spDig : Sp := fun vs H Q _ => ∃ z : Str, vs = [.str z] ∧ Q (.bl (Txt.isascii z && Txt.isdigit z)) H
theorem ok_isdig (T : Txt K mg A) : FnOk P w K mg base CX0 1 A.f_isdig A.d_isdig ["text"] spDig := by
  refine T.F_isdig.ok sc_isdig (fun vs H Q E h => ?_) (fun cdv Ar outer s H vs Q E hr h => ?_)
  · obtain ⟨z, rfl, _⟩ := h
    rfl
  · obtain ⟨z, rfl, k⟩ := h
    refine ⟨_, (pss_one (ps_ret (pe_and (pe_bm0 PySem.F.plainAttrs_str PySem.F.slot_str_isascii PySem.F.type_str_isascii mt_isascii (pv 0)) (pe_one (pe_bm0 PySem.F.plainAttrs_str PySem.F.slot_str_isdigit PySem.F.type_str_isdigit mt_isdigit (pv 0)))))), ?_⟩
    refine ⟨_, rfl, rfl, z, rfl, rfl, trivial, _, rfl, ?_⟩
    cases c : Txt.isascii z with
    | false => rw [c] at k; exact iteF k
    | true =>
      rw [c] at k
      exact iteT ⟨_, rfl, rfl, z, rfl, rfl, trivial, k⟩
/-! ### text -/
theorem itx_len8 {i : Int} (h : Bd 8900 i) : (itx i).length ≤ 4301 := by
  rw [TL.len_tl, tl_itx]
  exact itL_len (bd4300 h) (by decide)
def spRText (C : Addr) : Sp := fun vs H Q _ => ∃ (a : Addr) (p : Int × Int), vs = [.ref a] ∧ RatAt C H a p ∧ Bd 8900 p.1 ∧ Bd 8900 p.2 ∧ Q (.str (rtx p)) H
theorem ok_rtext (T : Txt K mg A) : FnOk P w K mg base CX0 1 A.f_rtext A.d_rtext ["self"] (spRText A.C) := by
  refine T.F_rtext.ok sc_rtext (fun vs H Q E h => ?_) (fun cdv Ar outer s H vs Q E hr h => ?_)
  · obtain ⟨a, p, rfl, _⟩ := h
    rfl
  · obtain ⟨a, p, rfl, ⟨dx, ha⟩, bt, bb, k⟩ := h
    refine ⟨_, (pss_cons (ps_if (pt_cmpR op_eq (pe_fld (pv 0) rfl) pe_int (nomark _))
      (pss_one (ps_ret (pe_callTy (call_strB hr.hd T.nd) (by rfl) T.n_str (by decide +kernel) (pa_cons (pe_fld (pv 0) rfl) pa_nil)))) pss_nil)
      (pss_one (ps_ret (pe_joined (.cons (pe_fmtB hr.hd T.nd (pe_fld (pv 0) rfl)) (.cons pe_str (.cons (pe_fmtB hr.hd T.nd (pe_fld (pv 0) rfl)) .nil))))))), ?_⟩
    unfold rtx at k
    refine ⟨_, rfl, _, _, _, _, _, rfl, ha, T.cl, T.nB, rf_bot _, rfl, _, rfl, ?_⟩
    by_cases c : p.2 = 1
    · rw [if_pos c] at k
      refine ite2 (fun _ => ?_) (fun n => absurd (decide_eq_true (by rw [c])) n)
      exact ⟨_, rfl, _, _, _, _, _, rfl, ha, T.cl, T.nT, rf_top _, _, rfl, bd4300 bt, k⟩
    · rw [if_neg c] at k
      refine ite2 (fun z => absurd (V.int.inj (of_decide_eq_true z)) c) (fun _ => ?_)
      have l1 := itx_len8 bt
      have l2 := itx_len8 bb
      have l3 : ("/" : Str).length = 1 := rfl
      refine ⟨_, rfl, _, _, _, _, _, rfl, ha, T.cl, T.nT, rf_top _, p.1, rfl, bd4300 bt, itx p.1, rfl, ?_, "/", rfl, ?_, _, rfl, _, _, _, _, _, rfl, ha, T.cl, T.nB, rf_bot _, p.2, rfl, bd4300 bb, itx p.2, rfl, ?_, ?_⟩
      · rw [Str.empty_append, sizeLine_eq]; omega
      · rw [Str.empty_append, Str.length_append, sizeLine_eq]; omega
      · rw [Str.empty_append, Str.length_append, Str.length_append, sizeLine_eq]; omega
      · rw [Str.empty_append]; exact k
theorem np_text (r : Int × Int) : (rf r).lookup ("text" : Str) = none := rf_no _ (by decide +kernel) (by decide +kernel)
/-! ### read -/
def spRead (A : Ad) : Sp := fun vs H Q E => ∃ z : Str, vs = [.ref A.C, .str z] ∧ z.length ≤ 100000 ∧
  ((∃ p, Wl p ∧ rtx p = z ∧ z.length ≤ 2000 ∧ ∀ x H', Ex H H' → H x = none → RatAt A.C H' x p → Q (.ref x) H') ∨
   ((∀ p, Wl p → rtx p = z → ¬ z.length ≤ 2000) ∧ ∀ d H', Ex H H' → H' d = some (.xd [("given", .str z)]) → E (.ref A.BN) (some d) H'))
end
end Fc
set_option Elab.async false
set_option linter.all false
set_option maxRecDepth 100000
set_option maxHeartbeats 4000000
set_option exponentiation.threshold 100000
namespace Fc
open PySem PySem.Spec PyProof.Rows L2 L2H
section
variable {P : Program} {w : World} {K : PySem.W.Frag} {mg : Str → Option Value} {base : Heap} {A : Ad}
theorem rtx_len1 {p : Int × Int} {z : Str} (e : rtx p = z) (h : z.length ≤ 2000) : (itL p.1).length ≤ 4300 ∧ (p.2 ≠ 1 → (itL p.2).length ≤ 4300) := by
  have : z.length = (rtL p).length := by rw [← e, TL.len_tl, tl_rtx]
  by_cases o : p.2 = 1
  · rw [rtL_one o] at this
    exact ⟨by omega, fun z => absurd o z⟩
  · rw [rtL_two o, List.length_append, List.length_cons] at this
    exact ⟨by omega, fun _ => by omega⟩
theorem np_text2 (r : Int × Int) : (rf r).lookup ("text" : Str) = none := np_text r
theorem ok_read (T : Txt K mg A) : FnOk P w K mg base (L2N.CX P w) 3 A.f_read A.d_read ["cls", "text"] (spRead A) := by
  refine fun_okN T.F_read sc_read (fun vs H Q E h => ?_) (fun cdv Ar outer s H vs Q E hr h => ?_)
  · obtain ⟨z, rfl, _⟩ := h
    rfl
  · obtain ⟨z, rfl, hz, k⟩ := h
    obtain ⟨tM, eM⟩ := T.gi_MOST_CHARACTERS
    refine ⟨_, (C8.pss_cut (ps_if (pt_cmpR op_gt (pe_callB call_len (by rfl) T.n_len PySem.boot_len (pa_cons (pv 1) pa_nil)) (pe_glob (v := .int 2000) rfl eM ⟨_, rfl⟩) (nomark _))
      (pss_one (L2N.ps_raise rfl (L2N.takes_of rfl rfl rfl rfl) (pmk_oexN T.o_BN T.in_BN T.ti_BN (ok_bn T) (hr.mono (by decide)) T.b_bn passF rfl T.g_BN (pa_cons (pv 1) pa_nil)))) pss_nil)
      (pss_cons (ps_asg (pe_partition (pv 1) pe_str) (pg_tup rfl (pgs_cons (pg_name (i := 2) sc_read.nd rfl (Or.inl rfl)) (pgs_cons (pg_name (i := 3) sc_read.nd rfl (Or.inl rfl)) (pgs_cons (pg_name (i := 4) sc_read.nd rfl (Or.inl rfl)) pgs_nil)))))
      (C8.pss_cut (ps_if (pt_not (pt_val (pe_call (ok_isdig T) (hr.mono (by decide)) rfl T.g_isdig T.F_isdig.kp T.b_isdig .nil pass0 (pa_cons (pe_bm PySem.F.plainAttrs_str PySem.F.slot_str_removeprefix PySem.F.type_str_removeprefix mt_removeprefix (pv 2) (pa_cons pe_str pa_nil)) pa_nil))))
      (pss_one (L2N.ps_raise rfl (L2N.takes_of rfl rfl rfl rfl) (pmk_oexN T.o_BN T.in_BN T.ti_BN (ok_bn T) (hr.mono (by decide)) T.b_bn passF rfl T.g_BN (pa_cons (pv 1) pa_nil)))) pss_nil)
      (C8.pss_cut (ps_if (PW.pt (pw_and (pt_truth (pv 3) (by intro _; rfl)) (pw_and1 (pt_not (pt_val (pe_call (ok_isdig T) (hr.mono (by decide)) rfl T.g_isdig T.F_isdig.kp T.b_isdig .nil pass0 (pa_cons (pv 4) pa_nil)))))))
      (pss_one (L2N.ps_raise rfl (L2N.takes_of rfl rfl rfl rfl) (pmk_oexN T.o_BN T.in_BN T.ti_BN (ok_bn T) (hr.mono (by decide)) T.b_bn passF rfl T.g_BN (pa_cons (pv 1) pa_nil)))) pss_nil)
      (C8.pss_cut (ps_set (i := 5) sc_read.nd rfl (Or.inl rfl) (pe_ifExp (pt_truth (pv 3) (by intro _; rfl)) (pe_callTy (call_intB T.nd) (by rfl) T.n_int (by decide +kernel) (pa_cons (pv 4) pa_nil)) pe_int))
      (pss_cons (ps_if (pt_cmpR op_eq (pv 5) pe_int (nomark _))
      (pss_one (L2N.ps_raise rfl (L2N.takes_of rfl rfl rfl rfl) (pmk_oexN T.o_BN T.in_BN T.ti_BN (ok_bn T) (hr.mono (by decide)) T.b_bn passF rfl T.g_BN (pa_cons (pv 1) pa_nil)))) pss_nil)
      (C8.pss_cut (ps_set (i := 6) sc_read.nd rfl (Or.inl rfl) (pe_makeL (i := 0) rfl (Or.inl rfl) T.mkC (ok_init T) (hr.mono (by decide)) T.b_init3 passL (pa_cons (pe_callTy (call_intB T.nd) (by rfl) T.n_int (by decide +kernel) (pa_cons (pv 2) pa_nil)) (pa_cons (pv 5) pa_nil))))
      (pss_cons (ps_if (pt_cmpR op_ne (pe_meth0 (pv 6) T.cl T.m_rtext (ok_rtext T) (hr.mono (by decide)) T.b_rtext .nil pass0) (pv 1) (nomark _))
      (pss_one (L2N.ps_raise rfl (L2N.takes_of rfl rfl rfl rfl) (pmk_oexN T.o_BN T.in_BN T.ti_BN (ok_bn T) (hr.mono (by decide)) T.b_bn passF rfl T.g_BN (pa_cons (pv 1) pa_nil)))) pss_nil)
      (pss_one (ps_ret (pv 6))))))))))), ?_⟩
    have bad : (∀ p, Wl p → rtx p = z → ¬ z.length ≤ 2000) → ∀ H1, Ex H H1 → ∀ d H', Ex H1 H' → H' d = some (.xd [("given", .str z)]) → E (.ref A.BN) (some d) H' := by
      intro n H1 e1 d H' e2 hd
      rcases k with ⟨p, wp, ep, lp, _⟩ | ⟨_, k⟩
      · exact absurd lp (n p wp ep)
      · exact k d H' (e1.trans e2) hd
    have good : ∀ p, Wl p → rtx p = z → z.length ≤ 2000 → ∀ x H', Ex H H' → H x = none → RatAt A.C H' x p → Q (.ref x) H' := by
      intro p wp ep lp
      rcases k with ⟨q, wq, eq, _, k⟩ | ⟨n, _⟩
      · have : q = p := rtL_inj (by rw [← tl_rtx, ← tl_rtx, ep, eq])
        subst this
        exact k
      · exact absurd lp (n p wp ep)
    clear k
    refine ⟨fun sl H' => sl = [some (.ref A.C), some (.str z), none, none, none, none, none] ∧ H' = H ∧ z.length ≤ 2000, ?_, ?_⟩
    · refine ⟨_, rfl, _, _, rfl, ⟨(by rw [sizeLine_eq]; omega), rfl⟩, _, _, rfl, rfl, _, rfl, ?_⟩
      by_cases c : z.length ≤ 2000
      · rw [decide_eq_false (by omega)]
        exact iteF ⟨rfl, rfl, c⟩
      · rw [decide_eq_true (by omega)]
        exact iteT ⟨_, rfl, rd_err1 (bad (fun _ _ _ => c) H (fun _ _ h => h))⟩
    rintro sl H' ⟨rfl, rfl, lz⟩
    obtain ⟨f1, f2, f3⟩ := fact_partition z "/"
    refine ⟨_, rfl, ⟨_, rfl⟩, z, "/", rfl, rfl, rfl, (by rw [sizeLine_eq]; omega), fun q hq => ?_⟩
    have pr : ∀ p, rtx p = z → Txt.partition z "/" = if p.2 = 1 then (itx p.1, Str.empty, Str.empty) else (itx p.1, "/", itx p.2) := fun p e => by rw [← e]; exact part_rtx p
    generalize (Txt.partition z "/") = P3 at f1 f2 f3 pr ⊢
    obtain ⟨t, sh, b⟩ := P3
    replace f1 : t.length ≤ z.length := f1
    replace f2 : sh.length ≤ z.length := f2
    replace f3 : b.length ≤ z.length := f3
    have prt : ∀ p, rtx p = z → t = itx p.1 := fun p e => by
      have := pr p e
      split at this <;> cases this <;> rfl
    have prs : ∀ p, rtx p = z → (sh.length ≠ 0 → p.2 ≠ 1 ∧ b = itx p.2) ∧ (sh.length = 0 → p.2 = 1) := fun p e => by
      have := pr p e
      split at this
      · rename_i o
        cases this
        exact ⟨fun n => absurd rfl n, fun _ => o⟩
      · rename_i o
        cases this
        exact ⟨fun _ => ⟨o, rfl⟩, fun n => absurd n (by decide)⟩
    have e1 : Ex H' (upd H' q (.tup [.str t, .str sh, .str b])) := Ex.new hq
    have h1 : upd H' q (.tup [.str t, .str sh, .str b]) q = some (.tup [.str t, .str sh, .str b]) := upd_same
    refine ⟨q, _, rfl, SqT.of h1, rfl, _, _, rfl, _, _, rfl, _, _, rfl, rfl, ?_⟩
    generalize upd H' q (.tup [.str t, .str sh, .str b]) = H1 at e1 h1 ⊢
    -- the digits above
    refine ⟨fun sl H2 => sl = [some (.ref A.C), some (.str z), some (.str t), some (.str sh), some (.str b), none, none] ∧ H2 = H1 ∧ (NumText.AllDigits (TL.tl (Txt.removeprefix t "-")) ∧ TL.tl (Txt.removeprefix t "-") ≠ []), ?_, ?_⟩
    · refine ⟨_, rfl, rfl, t, "-", rfl, rfl, (by rw [sizeLine_eq]; omega), _, rfl, _, rfl, ?_⟩
      by_cases c : (Txt.isascii (Txt.removeprefix t "-") && Txt.isdigit (Txt.removeprefix t "-")) = true
      · rw [c]
        exact iteF ⟨rfl, rfl, (digits_iff _).mp c⟩
      · rw [Bool.not_eq_true] at c
        rw [c]
        refine iteT ⟨_, rfl, rd_err1 (bad (fun p wp ep => absurd (c.symm.trans ?_) Bool.false_ne_true) H1 e1)⟩
        have et := prt p ep
        subst et
        exact (digits_iff _).mpr ⟨by rw [rmp_itx]; exact TL.numL_digits _, by rw [rmp_itx]; exact TL.numL_ne _⟩
    rintro sl H2 ⟨rfl, rfl, dt⟩
    -- the digits below
    refine ⟨fun sl H3 => sl = [some (.ref A.C), some (.str z), some (.str t), some (.str sh), some (.str b), none, none] ∧ H3 = H2 ∧ (sh.length ≠ 0 → NumText.AllDigits (TL.tl b) ∧ TL.tl b ≠ []), ?_, ?_⟩
    · refine ⟨_, rfl, _, ⟨(by rw [sizeLine_eq]; omega), rfl⟩, ?_⟩
      by_cases n0 : sh.length = 0
      · rw [n0]
        exact iteF ⟨rfl, rfl, fun n => absurd rfl n⟩
      have : ((sh.length : Int) != 0) = true := by simp; omega
      rw [this]
      refine iteT ⟨_, rfl, b, rfl, _, rfl, ?_⟩
      by_cases c : (Txt.isascii b && Txt.isdigit b) = true
      · rw [c]
        exact iteF ⟨rfl, rfl, fun _ => (digits_iff _).mp c⟩
      · rw [Bool.not_eq_true] at c
        rw [c]
        refine iteT ⟨_, rfl, rd_err1 (bad (fun p wp ep => absurd (c.symm.trans ?_) Bool.false_ne_true) H2 e1)⟩
        obtain ⟨_, eb⟩ := (prs p ep).1 n0
        subst eb
        have nn : 0 ≤ p.2 := by have := wp.1; omega
        exact (digits_iff _).mpr ⟨by rw [tl_itx, itL_nat nn]; exact TL.numL_digits _, by rw [tl_itx]; exact itL_ne _⟩
    rintro sl H3 ⟨rfl, rfl, db⟩
    -- the number below
    refine ⟨fun sl H4 => ∃ u : Int, sl = [some (.ref A.C), some (.str z), some (.str t), some (.str sh), some (.str b), some (.int u), none] ∧ H4 = H3 ∧ (sh.length = 0 → u = 1) ∧ (sh.length ≠ 0 → intText? b = some u) ∧ 0 ≤ u ∧ u.natAbs < 10 ^ 2000, ?_, ?_⟩
    · refine ⟨_, rfl, _, ⟨(by rw [sizeLine_eq]; omega), rfl⟩, ?_⟩
      by_cases n0 : sh.length = 0
      · rw [n0]
        exact iteF ⟨1, rfl, rfl, fun _ => rfl, fun n => absurd rfl n, by decide, by decide +kernel⟩
      have : ((sh.length : Int) != 0) = true := by simp; omega
      rw [this]
      obtain ⟨m, hm, lm, m0⟩ := int_pos (db n0) (by omega)
      exact iteT ⟨_, rfl, b, m, rfl, hm, by omega, m, rfl, rfl, fun n => absurd n n0, fun _ => hm, m0, lm⟩
    rintro sl H4 ⟨u, rfl, rfl, u1, ub, u0, ul⟩
    have upos : ∀ p, Wl p → rtx p = z → u = p.2 := by
      intro p wp ep
      by_cases n0 : sh.length = 0
      · rw [u1 n0, (prs p ep).2 n0]
      · obtain ⟨o, eb⟩ := (prs p ep).1 n0
        have h2 := ub n0
        rw [eb, int_itx ((rtx_len1 ep lz).2 o)] at h2
        exact (Option.some.inj h2).symm
    refine ⟨_, rfl, rfl, _, rfl, ?_⟩
    by_cases uz : u = 0
    · rw [decide_eq_true (by rw [uz])]
      refine iteT ⟨_, rfl, rd_err1 (bad (fun p wp ep => absurd (upos p wp ep) (by have := wp.1; omega)) H4 e1)⟩
    rw [decide_eq_false (fun h => uz (V.int.inj h))]
    refine iteF ?_
    obtain ⟨m, hm, lm⟩ := int_any dt (by omega)
    have mpos : ∀ p, rtx p = z → m = p.1 := by
      intro p ep
      have h2 := hm
      rw [prt p ep, int_itx (rtx_len1 ep lz).1] at h2
      exact (Option.some.inj h2).symm
    -- the Ratio
    refine ⟨fun sl H5 => ∃ x : Addr, sl = [some (.ref A.C), some (.str z), some (.str t), some (.str sh), some (.str b), some (.int u), some (.ref x)] ∧ Ex H4 H5 ∧ H4 x = none ∧ RatAt A.C H5 x (lo m u), ?_, ?_⟩
    · refine ⟨rfl, _, rfl, t, m, rfl, hm, by omega, _, rfl, ?_⟩
      intro x dx nx nd ne
      exact ⟨x, dx, m, u, rfl, upd_same, fun zz => absurd zz uz, fun _ => ⟨(bd2000 ul).mono (by decide), fun H' r kp => ⟨rfl, x, rfl, Same.made nx nd kp, nx, r⟩⟩⟩
    rintro sl H5 ⟨x, rfl, e5, nx, rx⟩
    obtain ⟨dx, ix⟩ := id rx
    have wl : Wl (lo m u) := ⟨lo_pos uz, lo_cop uz⟩
    have sl' : Sm 6700 (lo m u) := Sm.lo (bd2000 lm) (bd2000 ul) uz
    refine ⟨_, rfl, x, dx, _, rfl, ix, np_text _, x, lo m u, rfl, rx, sl'.t.mono (by decide), sl'.b.mono (by decide), _, rfl, rfl, _, rfl, ?_⟩
    by_cases c : rtx (lo m u) = z
    · refine iteNS (congrArg V.str c) ⟨_, rfl, good (lo m u) wl c lz x H5 (e1.trans e5) ?_ rx⟩
      cases e : H' x with
      | none => rfl
      | some o => rw [e1 x o e] at nx; cases nx
    · rw [decide_eq_false (fun h => c (V.str.inj h))]
      refine iteT ⟨_, rfl, rd_err1 (bad (fun p wp ep => absurd ?_ c) H5 (e1.trans e5))⟩
      rw [mpos p ep, upos p wp ep, lo_self wp.1 wp.2]
      exact ep
end
end Fc
set_option Elab.async false
set_option linter.all false
set_option maxRecDepth 100000
set_option maxHeartbeats 4000000
set_option exponentiation.threshold 100000
namespace Fc
open PySem PySem.Spec PyProof.Rows L2 L2H
section
variable {P : Program} {w : World} {K : PySem.W.Frag} {mg : Str → Option Value} {base : Heap} {A : Ad}
abbrev ab (z : Int) : Int := if z < 0 then -z else z
theorem ab_nn (z : Int) : 0 ≤ ab z := by unfold Fc.ab; split <;> omega
def spLowest : Sp := fun vs H Q _ => ∃ (t b : Int), vs = [.int t, .int b] ∧ 0 < b ∧ Bd 1000 t ∧ Bd 1000 b ∧ ∀ c H', Ex H H' → H c = none → Pr H' c (lo t b) → Q (.ref c) H'
theorem ok_lowest (T : Txt K mg A) : FnOk P w K mg base CX0 1 A.f_lowest A.d_lowest ["top", "bottom"] spLowest := by
  refine T.F_lowest.ok sc_lowest (fun vs H Q E h => ?_) (fun cdv Ar outer s H vs Q E hr h => ?_)
  · obtain ⟨t, b, rfl, _⟩ := h
    rfl
  · obtain ⟨t, b, rfl, p0, bt, bb, k⟩ := h
    refine ⟨_, (pss_cons (ps_set (i := 2) sc_lowest.nd rfl (Or.inl rfl) (pe_callB call_abs (by rfl) T.n_abs (by decide +kernel) (pa_cons (pv 0) pa_nil)))
      (C8.pss_cut (ps_set (i := 3) sc_lowest.nd rfl (Or.inl rfl) (pv 1))
      (pss_cons (ps_for PassesOwn.never rfl (pi_range1 rfl T.n_range (pa_cons pe_int pa_nil)) (pg_name (i := 4) sc_lowest.nd rfl (Or.inl rfl))
      (pss_cons (ps_if (pt_cmpR op_eq (pv 3) pe_int (nomark _))
      (pss_one ps_break) pss_nil)
      (pss_cons (ps_set (i := 5) sc_lowest.nd rfl (Or.inl rfl) (pe_op op_mod (pe_callTy call_int1 (by rfl) T.n_int (by decide +kernel) (pa_cons (pv 2) pa_nil)) (pv 3)))
      (pss_cons (ps_set (i := 2) sc_lowest.nd rfl (Or.inl rfl) (pv 3))
      (pss_one (ps_set (i := 3) sc_lowest.nd rfl (Or.inl rfl) (pv 5)))))))
      (pss_one (ps_ret (pe_tup (pa_cons (pe_op op_fdivW (pv 0) (pv 2)) (pa_cons (pe_op op_fdivW (pv 1) (pv 2)) pa_nil)))))))), ?_⟩
    have fit : lo t b = (t / (Int.gcd t b : Int), b / (Int.gcd t b : Int)) := by
      unfold lo
      rw [if_neg (by omega)]
    have eg : Int.gcd t b = Nat.gcd (ab t).toNat b.toNat := by
      show Nat.gcd t.natAbs b.natAbs = _
      congr 1
      · unfold ab; split <;> omega
      · omega
    have gp : 0 < Int.gcd t b := Int.gcd_pos_of_ne_zero_right t (by omega)
    have bg : Bd 1000 (Int.gcd t b : Int) := by
      refine bb.abs ?_
      have := Nat.le_of_dvd (by omega : 0 < b.natAbs) (Nat.gcd_dvd_right t.natAbs b.natAbs)
      show ((Nat.gcd t.natAbs b.natAbs : Nat) : Int).natAbs ≤ _
      omega
    refine ⟨_, rfl, t, rfl, ?_⟩
    refine ⟨fun sl H' => sl = [some (.int t), some (.int b), some (.int (ab t)), some (.int b), none, none] ∧ H' = H, ?_, ?_⟩
    · exact ⟨_, rfl, rfl, rfl⟩
    rintro sl H' ⟨rfl, rfl⟩
    refine ⟨1500, rfl, by decide, by decide, for_range (lo := 0) (n := 1500) (fun i sl H2 => ∃ (x y : Nat) (v1 v2 : Option V), sl = [some (.int t), some (.int b), some (.int (x : Int)), some (.int (y : Int)), v1, v2] ∧ H2 = H' ∧ Lu (Int.gcd t b) (2 ^ 1000) i x y) ?_ ?_ ?_⟩
    · refine ⟨(ab t).toNat, b.toNat, none, none, ?_, rfl, ?_⟩
      · have e1 : (((ab t).toNat : Nat) : Int) = ab t := by have := ab_nn t; omega
        have e2 : ((b.toNat : Nat) : Int) = b := by omega
        rw [e1, e2]
      · rw [eg]
        refine Lu.start ?_
        have : b.natAbs < 2 ^ 1000 := bb
        omega
    · rintro i sl H2 hi ⟨x, y, v1, v2, rfl, rfl, eu⟩
      refine ⟨_, rfl, rfl, _, rfl, ite2 (fun c => ?_) (fun c => ?_)⟩
      · have y0 : y = 0 := by have := V.int.inj (of_decide_eq_true c); omega
        subst y0
        have ex := eu.zero
        subst ex
        refine ⟨_, rfl, _, rfl, _, _, rfl, rfl, bg.div (by omega), _, rfl, _, rfl, _, _, rfl, rfl, bg.div (by omega), (by show 2 ≤ sizeLine; exact sz2), fun u hu => ?_⟩
        exact k u _ (Ex.new hu) hu (by rw [fit]; exact upd_same)
      · have y0 : y ≠ 0 := fun z => c (by rw [z] <;> rfl)
        refine ⟨_, rfl, .inl ⟨_, rfl, _, rfl, _, _, rfl, rfl, (by show (0 : Int) < (y : Int); omega), _, rfl, _, rfl, y, x % y, some (.int (0 + (i : Int))), some (.int ((x : Int) % (y : Int))), ?_, rfl, eu.turn y0⟩⟩
        rw [Int.natCast_emod]
        rfl
    · rintro sl H2 ⟨x, y, v1, v2, rfl, rfl, eu⟩
      have y0 := eu.done (Nat.le_refl _)
      subst y0
      have ex := eu.zero
      subst ex
      refine ⟨_, rfl, _, rfl, _, _, rfl, rfl, bg.div (by omega), _, rfl, _, rfl, _, _, rfl, rfl, bg.div (by omega), (by show 2 ≤ sizeLine; exact sz2), fun u hu => ?_⟩
      exact k u _ (Ex.new hu) hu (by rw [fit]; exact upd_same)
/-- a fraction of the law's -/
structure LF (p : Int × Int) : Prop where
  w : Wl p
  t : p.1.natAbs < 10 ^ 999
  b : p.2.natAbs < 10 ^ 999
def spFrac : Sp := fun vs H Q _ => ∃ (p : Addr), vs = [.ref p] ∧ PotAt H p ∧ ∀ t q H', Pr H' t q → H t = none → LF q → PotAt H' p → Keep p H H' → Q (.ref t) H'
theorem nine : ∀ j : Nat, j < 9 → ("123456789" : Str).cps.toList[j]? = some (49 + j) := by decide +kernel
theorem gcd_next (n : Nat) : Int.gcd (n : Int) ((n : Int) + 1) = 1 := by
  show Nat.gcd n ((n : Int) + 1).natAbs = 1
  rw [show ((n : Int) + 1).natAbs = n + 1 by omega, Nat.gcd_self_add_right, Nat.gcd_one_right]
theorem ok_long (T : Txt K mg A) : FnOk P w K mg base CX0 2 A.f_long A.d_long ["pot"] spFrac := by
  refine T.F_long.ok sc_long (fun vs H Q E h => ?_) (fun cdv Ar outer s H vs Q E hr h => ?_)
  · obtain ⟨p, rfl, _⟩ := h
    rfl
  · obtain ⟨p, rfl, pot, k⟩ := h
    refine ⟨_, (C8.pss_cut (ps_set (i := 1) sc_long.nd rfl (Or.inl rfl) (pe_op op_add pe_int (pe_call (ok_digit T) (hr.mono (by decide)) rfl T.g_digit T.F_digit.kp T.b_digit .nil pass0 (pa_cons (pv 0) (pa_cons pe_int pa_nil)))))
      (C8.pss_cut (ps_set (i := 2) sc_long.nd rfl (Or.inl rfl) (pe_ix ix_str pe_str (pe_call (ok_digit T) (hr.mono (by decide)) rfl T.g_digit T.F_digit.kp T.b_digit .nil pass0 (pa_cons (pv 0) (pa_cons pe_int pa_nil))) (fun _ _ => rfl)))
      (C8.pss_cut (ps_set (i := 3) sc_long.nd rfl (Or.inl rfl) (pe_callTy (call_strB hr.hd T.nd) (by rfl) T.n_str (by decide +kernel) (pa_cons (pe_call (ok_digit T) (hr.mono (by decide)) rfl T.g_digit T.F_digit.kp T.b_digit .nil pass0 (pa_cons (pv 0) (pa_cons (pe_op op_pow pe_int pe_int) pa_nil))) pa_nil)))
      (C8.pss_cut (ps_set (i := 4) sc_long.nd rfl (Or.inl rfl) (pe_callTy (call_intB T.nd) (by rfl) T.n_int (by decide +kernel) (pa_cons (pe_slice sl_str (pe_op op_add_str (pv 2) (pe_op op_mulS (pv 3) pe_int)) po_none (po_some (pv 1))) pa_nil)))
      (pss_cons (ps_if (pt_cmpR op_eq (pe_call (ok_digit T) (hr.mono (by decide)) rfl T.g_digit T.F_digit.kp T.b_digit .nil pass0 (pa_cons (pv 0) (pa_cons pe_int pa_nil))) pe_int (nomark _))
      (pss_one (ps_ret (pe_tup (pa_cons (pe_un un_neg (pv 4)) (pa_cons (pe_op op_add (pv 4) pe_int) pa_nil))))) pss_nil)
      (pss_one (ps_ret (pe_tup (pa_cons (pv 4) (pa_cons (pe_op op_add (pv 4) pe_int) pa_nil)))))))))), ?_⟩
    refine ⟨fun sl H' => ∃ m : Nat, sl = [some (.ref p), some (.int ((m : Int) + 1)), none, none, none] ∧ m < 998 ∧ PotAt H' p ∧ Keep p H H', ?_, ?_⟩
    · refine ⟨_, rfl, p, 998, rfl, pot, by decide, bd_of (by decide), fun d H1 a b pt k1 => ⟨_, _, rfl, rfl, d.toNat, ?_, by omega, pt, k1⟩⟩
      rw [show ((d.toNat : Nat) : Int) + 1 = 1 + d by omega]
      rfl
    rintro sl H1 ⟨m, rfl, hm, p1, k1⟩
    refine ⟨fun sl H' => ∃ c : Nat, sl = [some (.ref p), some (.int ((m : Int) + 1)), some (.str ⟨#[c]⟩), none, none] ∧ 49 ≤ c ∧ c ≤ 57 ∧ PotAt H' p ∧ Keep p H H', ?_, ?_⟩
    · refine ⟨_, rfl, p, 9, rfl, p1, by decide, bd_of (by decide), fun d H2 a b pt k2 => ?_⟩
      obtain ⟨j, rfl⟩ : ∃ j : Nat, d = (j : Int) := ⟨d.toNat, by omega⟩
      exact ⟨_, _, _, rfl, rfl, (by decide +kernel), atI_nat (nine j (by omega)), 49 + j, rfl, by omega, by omega, pt, k1.trans k2⟩
    rintro sl H2 ⟨c, rfl, c1, c2, p2, k2⟩
    refine ⟨fun sl H' => ∃ d : Nat, sl = [some (.ref p), some (.int ((m : Int) + 1)), some (.str ⟨#[c]⟩), some (.str (itx (d : Int))), none] ∧ d < 10 ^ 9 ∧ PotAt H' p ∧ Keep p H H', ?_, ?_⟩
    · refine ⟨_, rfl, _, _, rfl, rfl, cpow 10 9 (by decide) (by decide), p, _, rfl, p2, by decide, bd_of (by decide), fun d H3 a b pt k3 => ?_⟩
      obtain ⟨j, rfl⟩ : ∃ j : Nat, d = (j : Int) := ⟨d.toNat, by omega⟩
      have lj : j < 10 ^ 9 := by have : (j : Int) < 10 ^ 9 := b; omega
      exact ⟨_, rfl, pow4300 (n := ((j : Int)).natAbs) (k := 9) lj, j, rfl, lj, pt, k2.trans k3⟩
    rintro sl H3 ⟨d, rfl, d1, p3, k3⟩
    have il : (itL (d : Int)).length ≤ 10 := itL_len (i := (d : Int)) (k := 9) d1 (by decide)
    have il1 : 1 ≤ (itL (d : Int)).length := List.length_pos_iff.mpr (itL_ne _)
    have id' : ∀ x ∈ itL (d : Int), 48 ≤ x ∧ x ≤ 57 := fun x hx => by rw [itL_nat (by omega)] at hx; exact numL_dig hx
    refine ⟨fun sl H' => ∃ (n : Nat) (o1 o2 o3 : Option V), sl = [some (.ref p), o1, o2, o3, some (.int (n : Int))] ∧ 1 ≤ n ∧ n < 10 ^ 998 ∧ H' = H3, ?_, ?_⟩
    · have tm : TL.tl (Txt.mul (itx (d : Int)) 998) = (List.replicate 998 (itL (d : Int))).flatten := by
        have := tl_mul (z := itx (d : Int)) (n := 998) (by decide)
        rw [tl_itx] at this
        exact this
      have fl : ∀ k : Nat, ((List.replicate k (itL (d : Int))).flatten).length = k * (itL (d : Int)).length := by
        intro k
        induction k with
        | zero => simp
        | succ k ih => rw [List.replicate_succ, List.flatten_cons, List.length_append, ih, Nat.succ_mul]; omega
      have fd : ∀ k : Nat, ∀ x ∈ (List.replicate k (itL (d : Int))).flatten, 48 ≤ x ∧ x ≤ 57 := by
        intro k x hx
        obtain ⟨l, hl, hx⟩ := List.mem_flatten.mp hx
        rw [List.eq_of_mem_replicate hl] at hx
        exact id' x hx
      have lm : (Txt.mul (itx (d : Int)) 998).length = 998 * (itL (d : Int)).length := by rw [TL.len_tl, tm, fl]
      have lc : (Str.mk #[c]).length = 1 := rfl
      have lcat : ((Str.mk #[c]) ++ Txt.mul (itx (d : Int)) 998).length = 1 + 998 * (itL (d : Int)).length := by rw [Str.length_append, lm, lc]
      refine ⟨_, rfl, _, rfl, itx (d : Int), 998, rfl, rfl, ?_, by decide, by decide, _, _, rfl, rfl, ?_, _, rfl, _, rfl, _, rfl, ?_, ?_⟩
      · rw [TL.len_tl, tl_itx]; omega
      · rw [lm, lc, sizeLine_eq]; omega
      · rw [lcat, sizeLine_eq]; omega
      have tc : TL.tl (cutS ((Str.mk #[c]) ++ Txt.mul (itx (d : Int)) 998) none (some ((m : Int) + 1))) = c :: ((List.replicate 998 (itL (d : Int))).flatten).take m := by
        have := tl_to (z := (Str.mk #[c]) ++ Txt.mul (itx (d : Int)) 998) (n := m + 1) (by rw [lcat]; omega)
        rw [TL.tl_append, tm] at this
        exact this
      have dg : NumText.AllDigits (TL.tl (cutS ((Str.mk #[c]) ++ Txt.mul (itx (d : Int)) 998) none (some ((m : Int) + 1)))) := by
        rw [tc]
        intro x hx
        rcases List.mem_cons.mp hx with h | h
        · omega
        · exact fd 998 x (List.mem_of_mem_take h)
      have ln : (TL.tl (cutS ((Str.mk #[c]) ++ Txt.mul (itx (d : Int)) 998) none (some ((m : Int) + 1)))).length ≤ 998 := by
        rw [tc, List.length_cons, List.length_take]
        omega
      refine ⟨_, _, rfl, intText_digits dg (by show TL.tl _ ≠ []; rw [tc]; exact List.cons_ne_nil _ _) (by rw [TL.len_tl]; omega), by rw [TL.len_tl]; omega, ?_⟩
      refine ⟨_, _, _, _, rfl, (numL_back _ _ rfl dg ⟨c, _, tc, c1⟩).2, ?_, rfl⟩
      exact Nat.lt_of_lt_of_le (digitsVal_lt _ _ rfl dg) (Nat.pow_le_pow_right (by decide) ln)
    rintro sl H4 ⟨n, o1, o2, o3, rfl, n1, n2, rfl⟩
    have p9 : 10 ^ 998 < 10 ^ 999 := Nat.pow_lt_pow_right (by decide) (by decide)
    have bn : Bd 3400 (n : Int) := by
      show n < 2 ^ 3400
      exact Nat.lt_trans n2 (by decide +kernel)
    refine ⟨_, rfl, p, 2, rfl, p3, by decide, bd_of (by decide), fun d H5 a b p5 k5 => ?_⟩
    refine ⟨rfl, _, rfl, ite2 (fun _ => ?_) (fun _ => ?_)⟩
    · refine ⟨_, rfl, _, rfl, _, rfl, _, _, rfl, rfl, (by show 2 ≤ sizeLine; exact sz2), fun t ht => ?_⟩
      refine k t (-(n : Int), (n : Int) + 1) _ upd_same ((k3.trans k5).free p5 ht) ⟨⟨by show 0 < (n : Int) + 1; omega, by rw [Int.neg_gcd]; exact gcd_next n⟩, ?_, ?_⟩ (p5.ex (Ex.new ht)) ((k3.trans k5).trans (Keep.new ht))
      · show (-(n : Int)).natAbs < _; omega
      · show ((n : Int) + 1).natAbs < _; omega
    · refine ⟨_, rfl, _, rfl, _, _, rfl, rfl, (by show 2 ≤ sizeLine; exact sz2), fun t ht => ?_⟩
      refine k t ((n : Int), (n : Int) + 1) _ upd_same ((k3.trans k5).free p5 ht) ⟨⟨by show 0 < (n : Int) + 1; omega, gcd_next n⟩, ?_, ?_⟩ (p5.ex (Ex.new ht)) ((k3.trans k5).trans (Keep.new ht))
      · show (n : Int).natAbs < _; omega
      · show ((n : Int) + 1).natAbs < _; omega
theorem small_pow {i : Int} (h : Bd 220 i) : i.natAbs < 10 ^ 999 := Nat.lt_trans h (by decide +kernel)
theorem lf_lo {t b : Int} (ht : Bd 220 t) (hb : Bd 220 b) (h : 0 < b) : LF (lo t b) :=
  have n : b ≠ 0 := by omega
  ⟨⟨lo_pos n, lo_cop n⟩, small_pow (ht.abs (lo_top_le n)), small_pow (hb.abs (lo_bot_le n))⟩
theorem ok_fraction (T : Txt K mg A) : FnOk P w K mg base CX0 3 A.f_fraction A.d_fraction ["pot"] spFrac := by
  refine T.F_fraction.ok sc_fraction (fun vs H Q E h => ?_) (fun cdv Ar outer s H vs Q E hr h => ?_)
  · obtain ⟨p, rfl, _⟩ := h
    rfl
  · obtain ⟨p, rfl, pot, k⟩ := h
    refine ⟨_, (pss_cons (ps_set (i := 1) sc_fraction.nd rfl (Or.inl rfl) (pe_call (ok_digit T) (hr.mono (by decide)) rfl T.g_digit T.F_digit.kp T.b_digit .nil pass0 (pa_cons (pv 0) (pa_cons pe_int pa_nil))))
      (pss_cons (ps_if (pt_cmpR op_eq (pv 1) pe_int (nomark _))
      (pss_one (ps_ret (pe_tup (pa_cons pe_int (pa_cons pe_int pa_nil))))) pss_nil)
      (pss_cons (ps_if (pt_cmpR op_eq (pv 1) pe_int (nomark _))
      (pss_one (ps_ret (pe_call (ok_long T) (hr.mono (by decide)) rfl T.g_long T.F_long.kp T.b_long .nil pass0 (pa_cons (pv 0) pa_nil)))) pss_nil)
      (pss_cons (ps_if (pt_cmpR op_eq (pv 1) pe_int (nomark _))
      (pss_cons (ps_set (i := 2) sc_fraction.nd rfl (Or.inl rfl) (pe_op op_sub (pe_call (ok_digit T) (hr.mono (by decide)) rfl T.g_digit T.F_digit.kp T.b_digit .nil pass0 (pa_cons (pv 0) (pa_cons (pe_op op_add (pe_op op_mulW pe_int (pe_op op_pow pe_int pe_int)) pe_int) pa_nil))) (pe_op op_pow pe_int pe_int)))
      (pss_one (ps_ret (pe_call (ok_lowest T) (hr.mono (by decide)) rfl T.g_lowest T.F_lowest.kp T.b_lowest .nil pass0 (pa_cons (pv 2) (pa_cons (pe_op op_add pe_int (pe_call (ok_digit T) (hr.mono (by decide)) rfl T.g_digit T.F_digit.kp T.b_digit .nil pass0 (pa_cons (pv 0) (pa_cons (pe_op op_pow pe_int pe_int) pa_nil)))) pa_nil)))))) pss_nil)
      (pss_cons (ps_if (pt_cmpR op_eq (pv 1) pe_int (nomark _))
      (pss_cons (ps_set (i := 2) sc_fraction.nd rfl (Or.inl rfl) (pe_op op_sub (pe_call (ok_digit T) (hr.mono (by decide)) rfl T.g_digit T.F_digit.kp T.b_digit .nil pass0 (pa_cons (pv 0) (pa_cons (pe_op op_add (pe_op op_mulW pe_int (pe_op op_pow pe_int pe_int)) pe_int) pa_nil))) (pe_op op_pow pe_int pe_int)))
      (pss_one (ps_ret (pe_call (ok_lowest T) (hr.mono (by decide)) rfl T.g_lowest T.F_lowest.kp T.b_lowest .nil pass0 (pa_cons (pv 2) (pa_cons (pe_op op_add pe_int (pe_call (ok_digit T) (hr.mono (by decide)) rfl T.g_digit T.F_digit.kp T.b_digit .nil pass0 (pa_cons (pv 0) (pa_cons (pe_op op_pow pe_int pe_int) pa_nil)))) pa_nil)))))) pss_nil)
      (pss_cons (ps_if (pt_cmpR op_eq (pv 1) pe_int (nomark _))
      (pss_cons (ps_set (i := 2) sc_fraction.nd rfl (Or.inl rfl) (pe_op op_sub (pe_call (ok_digit T) (hr.mono (by decide)) rfl T.g_digit T.F_digit.kp T.b_digit .nil pass0 (pa_cons (pv 0) (pa_cons pe_int pa_nil))) pe_int))
      (pss_one (ps_ret (pe_call (ok_lowest T) (hr.mono (by decide)) rfl T.g_lowest T.F_lowest.kp T.b_lowest .nil pass0 (pa_cons (pv 2) (pa_cons (pe_op op_add pe_int (pe_call (ok_digit T) (hr.mono (by decide)) rfl T.g_digit T.F_digit.kp T.b_digit .nil pass0 (pa_cons (pv 0) (pa_cons pe_int pa_nil)))) pa_nil)))))) pss_nil)
      (pss_cons (ps_set (i := 2) sc_fraction.nd rfl (Or.inl rfl) (pe_op op_sub pe_int (pe_call (ok_digit T) (hr.mono (by decide)) rfl T.g_digit T.F_digit.kp T.b_digit .nil pass0 (pa_cons (pv 0) (pa_cons pe_int pa_nil)))))
      (pss_one (ps_ret (pe_call (ok_lowest T) (hr.mono (by decide)) rfl T.g_lowest T.F_lowest.kp T.b_lowest .nil pass0 (pa_cons (pv 2) (pa_cons (pe_op op_sub pe_int (pe_call (ok_digit T) (hr.mono (by decide)) rfl T.g_digit T.F_digit.kp T.b_digit .nil pass0 (pa_cons (pv 0) (pa_cons pe_int pa_nil)))) pa_nil)))))))))))), ?_⟩
    have fin : ∀ (t b : Int) (H' : Hp), Bd 220 t → Bd 220 b → 0 < b → PotAt H' p → Keep p H H' → ∀ c H2, Ex H' H2 → H' c = none → Pr H2 c (lo t b) → Q (.ref c) H2 :=
      fun t b H' bt bb b0 pt kp c H2 e nc hc => k c _ _ hc (kp.free pt nc) (lf_lo bt bb b0) (pt.ex e) (kp.trans (Keep.of e))
    refine ⟨_, rfl, p, 8, rfl, pot, by decide, bd_of (by decide), fun d0 H0 a0 b0 pot0 k0 => ?_⟩
    refine ⟨_, rfl, rfl, _, rfl, ite2 (fun _ => ?_) (fun _ => ?_)⟩
    · refine ⟨(by show 2 ≤ sizeLine; exact sz2), fun t ht => k t (0, 1) _ upd_same (k0.free pot0 ht) ⟨⟨by decide, by decide⟩, by decide +kernel, by decide +kernel⟩ (pot0.ex (Ex.new ht)) (k0.trans (Keep.new ht))⟩
    refine ⟨_, rfl, rfl, _, rfl, ite2 (fun _ => ?_) (fun _ => ?_)⟩
    · exact ⟨_, rfl, p, rfl, pot0, fun t q H' a b c d e => k t q H' a (k0.free pot0 b) c d (k0.trans e)⟩
    refine ⟨_, rfl, rfl, _, rfl, ite2 (fun _ => ?_) (fun _ => ?_)⟩
    · have e2 : Bd 212 (2 * (10 : Int) ^ (60 : Int).toNat) := bd_two.mul bd_ten
      refine ⟨_, rfl, _, _, rfl, rfl, cpow 10 60 (by decide) (by decide), _, _, rfl, rfl, bd_two.w bd_ten, _, _, rfl, rfl, p, _, rfl, pot0, ?_, ?_, fun d H1 a b pt k1 => ?_⟩
      · have := ten_pos; show 0 < 2 * (10 : Int) ^ (60 : Int).toNat + 1; omega
      · exact (e2.add (show Bd 212 (1 : Int) from bd_of (by decide +kernel))).mono (by decide)
      have b' : d < 2 * (10 : Int) ^ (60 : Int).toNat + 1 := b
      refine ⟨_, _, rfl, rfl, cpow 10 60 (by decide) (by decide), _, _, rfl, rfl, _, rfl, _, rfl, _, _, rfl, rfl, cpow 10 60 (by decide) (by decide), p, _, rfl, pt, ten_pos, bd_ten.mono (by decide), fun d2 H2 a2 b2 pt2 k2 => ?_⟩
      have b2' : d2 < (10 : Int) ^ (60 : Int).toNat := b2
      have x1 : Bd 210 (d - (10 : Int) ^ (60 : Int).toNat) := bd_le bd_ten (by omega) (by omega)
      have x2 : Bd 210 (1 + d2) := bd_le bd_ten (by omega) (by omega)
      exact ⟨_, _, rfl, rfl, d - (10 : Int) ^ (60 : Int).toNat, 1 + d2, rfl, by omega, x1.mono (by decide), x2.mono (by decide), fin _ _ H2 (x1.mono (by decide)) (x2.mono (by decide)) (by omega) pt2 ((k0.trans k1).trans k2)⟩
    refine ⟨_, rfl, rfl, _, rfl, ite2 (fun _ => ?_) (fun _ => ?_)⟩
    · have e2 : Bd 62 (2 * (10 : Int) ^ (12 : Int).toNat) := bd_two.mul bd_twel
      refine ⟨_, rfl, _, _, rfl, rfl, cpow 10 12 (by decide) (by decide), _, _, rfl, rfl, bd_two.w bd_twel, _, _, rfl, rfl, p, _, rfl, pot0, ?_, ?_, fun d H1 a b pt k1 => ?_⟩
      · have := twel_pos; show 0 < 2 * (10 : Int) ^ (12 : Int).toNat + 1; omega
      · exact (e2.add (show Bd 62 (1 : Int) from bd_of (by decide +kernel))).mono (by decide)
      have b' : d < 2 * (10 : Int) ^ (12 : Int).toNat + 1 := b
      refine ⟨_, _, rfl, rfl, cpow 10 12 (by decide) (by decide), _, _, rfl, rfl, _, rfl, _, rfl, _, _, rfl, rfl, cpow 10 12 (by decide) (by decide), p, _, rfl, pt, twel_pos, bd_twel.mono (by decide), fun d2 H2 a2 b2 pt2 k2 => ?_⟩
      have b2' : d2 < (10 : Int) ^ (12 : Int).toNat := b2
      have x1 : Bd 60 (d - (10 : Int) ^ (12 : Int).toNat) := bd_le bd_twel (by omega) (by omega)
      have x2 : Bd 60 (1 + d2) := bd_le bd_twel (by omega) (by omega)
      exact ⟨_, _, rfl, rfl, d - (10 : Int) ^ (12 : Int).toNat, 1 + d2, rfl, by omega, x1.mono (by decide), x2.mono (by decide), fin _ _ H2 (x1.mono (by decide)) (x2.mono (by decide)) (by omega) pt2 ((k0.trans k1).trans k2)⟩
    refine ⟨_, rfl, rfl, _, rfl, ite2 (fun _ => ?_) (fun _ => ?_)⟩
    · refine ⟨_, rfl, p, 2001, rfl, pot0, by decide, bd_of (by decide), fun d H1 a b pt k1 => ?_⟩
      refine ⟨_, _, rfl, rfl, _, rfl, _, rfl, p, 1000, rfl, pt, by decide, bd_of (by decide), fun d2 H2 a2 b2 pt2 k2 => ?_⟩
      have x1 : Bd 220 (d - 1000) := bd_le (j := 2001) (bd_of (by decide)) (by omega) (by omega)
      have x2 : Bd 220 (1 + d2) := bd_le (j := 2001) (bd_of (by decide)) (by omega) (by omega)
      exact ⟨_, _, rfl, rfl, d - 1000, 1 + d2, rfl, by omega, x1.mono (by decide), x2.mono (by decide), fin _ _ H2 x1 x2 (by omega) pt2 ((k0.trans k1).trans k2)⟩
    · refine ⟨_, rfl, p, 13, rfl, pot0, by decide, bd_of (by decide), fun d H1 a b pt k1 => ?_⟩
      refine ⟨_, _, rfl, rfl, _, rfl, _, rfl, p, 7, rfl, pt, by decide, bd_of (by decide), fun d2 H2 a2 b2 pt2 k2 => ?_⟩
      have x1 : Bd 220 (6 - d) := bd_le (j := 2001) (bd_of (by decide)) (by omega) (by omega)
      have x2 : Bd 220 (7 - d2) := bd_le (j := 2001) (bd_of (by decide)) (by omega) (by omega)
      exact ⟨_, _, rfl, rfl, 6 - d, 7 - d2, rfl, by omega, x1.mono (by decide), x2.mono (by decide), fin _ _ H2 x1 x2 (by omega) pt2 ((k0.trans k1).trans k2)⟩
end
end Fc
set_option Elab.async false
set_option linter.all false
set_option maxRecDepth 100000
set_option maxHeartbeats 4000000
set_option exponentiation.threshold 100000
namespace Fc
open PySem PySem.Spec PyProof.Rows L2 L2H
/-- the suite of a BadNumber -/
def t_bn (K : PySem.W.Frag) (A : Ad) : Addr → Value → Option Addr → TS := fun a cls d =>
  tSeq (tIfS (tOr (tNot (tB (tCB (rIsX K cls d a) (tCons (tVar 1) (tCons (tC (.ref A.BN)) tNil))))) (tOr (tNot (tB (tCB (rIsX K cls d a) (tCons (tVar 1) (tCons (tC (.ty "ValueError")) tNil))))) (tB (tCB (rIsX K cls d a) (tCons (tVar 1) (tCons (tC (.ref A.Z)) tNil))))))
      (tRet (tC (.bl false))) tNext)
    (tRet (tAndV (tCB (rIsi K) (tCons (tXf a cls d A.BN "given" (tVar 1)) (tCons (tC (.ty "str")) tNil))) (tOp rEq (tXf a cls d A.BN "given" (tVar 1)) (tVar 0))))
section
variable {P : Program} {w : World} {K : PySem.W.Frag} {mg : Str → Option Value} {base : Heap} {A : Ad}
theorem pow999 {n : Nat} (h : n < 10 ^ 999) : n < 10 ^ 4300 := pow4300 h
theorem itx_len999 {i : Int} (h : i.natAbs < 10 ^ 999) : (itx i).length ≤ 1000 := by
  rw [TL.len_tl, tl_itx]
  exact itL_len h (by decide)
def spWritten : Sp := fun vs H Q _ => ∃ (a : Addr) (p : Int × Int), vs = [.ref a] ∧ Pr H a p ∧ LF p ∧ Q (.str (rtx p)) H
theorem ok_written (T : Txt K mg A) : FnOk P w K mg base CX0 1 A.f_written A.d_written ["p"] spWritten := by
  refine T.F_written.ok sc_written (fun vs H Q E h => ?_) (fun cdv Ar outer s H vs Q E hr h => ?_)
  · obtain ⟨a, p, rfl, _⟩ := h
    rfl
  · obtain ⟨a, p, rfl, hp, lf, k⟩ := h
    refine ⟨_, (pss_cons (ps_if (pt_cmpR op_eq (pe_ix ix_tup (pv 0) pe_int (fun _ _ => rfl)) pe_int (nomark _))
      (pss_one (ps_ret (pe_callTy (call_strB hr.hd T.nd) (by rfl) T.n_str (by decide +kernel) (pa_cons (pe_ix ix_tup (pv 0) pe_int (fun _ _ => rfl)) pa_nil)))) pss_nil)
      (pss_one (ps_ret (pe_op op_add_str (pe_op op_add_str (pe_callTy (call_strB hr.hd T.nd) (by rfl) T.n_str (by decide +kernel) (pa_cons (pe_ix ix_tup (pv 0) pe_int (fun _ _ => rfl)) pa_nil)) pe_str) (pe_callTy (call_strB hr.hd T.nd) (by rfl) T.n_str (by decide +kernel) (pa_cons (pe_ix ix_tup (pv 0) pe_int (fun _ _ => rfl)) pa_nil)))))), ?_⟩
    unfold rtx at k
    refine ⟨_, rfl, _, _, _, _, rfl, rfl, SqT.of (hp), rfl, rfl, _, rfl, ?_⟩
    by_cases c : p.2 = 1
    · rw [if_pos c] at k
      refine ite2 (fun _ => ?_) (fun n => absurd (decide_eq_true (by rw [c])) n)
      exact ⟨_, rfl, _, _, _, _, rfl, rfl, SqT.of (hp), rfl, _, rfl, pow999 lf.t, k⟩
    · rw [if_neg c] at k
      refine ite2 (fun z => absurd (V.int.inj (of_decide_eq_true z)) c) (fun _ => ?_)
      have l1 := itx_len999 lf.t
      have l2 := itx_len999 lf.b
      have l3 : ("/" : Str).length = 1 := rfl
      refine ⟨_, rfl, _, _, _, _, rfl, rfl, SqT.of (hp), rfl, _, rfl, pow999 lf.t, itx p.1, "/", rfl, rfl, ?_, _, rfl, _, _, _, _, rfl, rfl, SqT.of (hp), rfl, _, rfl, pow999 lf.b, _, itx p.2, rfl, rfl, ?_, k⟩
      · rw [l3, sizeLine_eq]; omega
      · rw [Str.length_append, l3, sizeLine_eq]; omega
theorem num_lt (n : Nat) : n < 10 ^ (TL.numL n).length := by
  have := digitsVal_lt _ (TL.numL n) rfl (TL.numL_digits n)
  rwa [TL.numL_val] at this
theorem itL_lt (i : Int) : i.natAbs < 10 ^ (itL i).length := by
  unfold itL
  split
  · rw [List.length_cons]
    exact Nat.lt_of_lt_of_le (num_lt _) (Nat.pow_le_pow_right (by decide) (by omega))
  · exact num_lt _
theorem rtx_bd {p : Int × Int} {z : Str} (wp : Wl p) (e : rtx p = z) (h : z.length ≤ 2000) : Bd 6700 p.1 ∧ Bd 6700 p.2 := by
  have lz : z.length = (rtL p).length := by rw [← e, TL.len_tl, tl_rtx]
  by_cases o : p.2 = 1
  · rw [rtL_one o] at lz
    exact ⟨bd2000 (Nat.lt_of_lt_of_le (itL_lt _) (Nat.pow_le_pow_right (by decide) (by omega))), by rw [o]; exact bd_of (by decide +kernel)⟩
  · rw [rtL_two o, List.length_append, List.length_cons] at lz
    exact ⟨bd2000 (Nat.lt_of_lt_of_le (itL_lt _) (Nat.pow_le_pow_right (by decide) (by omega))), bd2000 (Nat.lt_of_lt_of_le (itL_lt _) (Nat.pow_le_pow_right (by decide) (by omega)))⟩
def spReads : Sp := fun vs H Q _ => ∃ (z : Str) (a : Addr) (p : Int × Int), vs = [.str z, .ref a] ∧ Pr H a p ∧ Wl p ∧ rtx p = z ∧ z.length ≤ 2000 ∧ ∀ H', Ex H H' → Q (.bl true) H'
theorem ok_reads (T : Txt K mg A) : FnOk P w K mg base CX0 4 A.f_reads A.d_reads ["text", "p"] spReads := by
  refine T.F_reads.ok sc_reads (fun vs H Q E h => ?_) (fun cdv Ar outer s H vs Q E hr h => ?_)
  · obtain ⟨z, a, p, rfl, _⟩ := h
    rfl
  · obtain ⟨z, a, p, rfl, hp, wp, ez, lz, k⟩ := h
    obtain ⟨cm, cmr⟩ := T.p_read
    refine ⟨_, (C8.pss_cut (ps_set (i := 2) sc_reads.nd rfl (Or.inl rfl) (ClX.pe_cmeth (pe_glob (v := .ref A.C) rfl T.g_Ratio rfl) T.crC cmr (fnR_of (ok_read T) T.b_read) (hr.mono (by decide)) passLN (pa_cons (pv 0) pa_nil)))
      (pss_cons (ps_if (pt_not (pt_val (pe_callB call_isi (by rfl) T.n_isinstance (by decide +kernel) (pa_cons (pv 2) (pa_cons (pe_glob (v := .ref A.C) rfl T.g_Ratio rfl) pa_nil)))))
      (pss_one (ps_ret pe_bl)) pss_nil)
      (pss_cons (ps_if (PW.pt (pw_or (pt_not (pt_val (pe_callB call_isi (by rfl) T.n_isinstance (by decide +kernel) (pa_cons (pe_fld (pv 2) rfl) (pa_cons (pe_bltn (v := .ty "int") rfl T.n_int (by decide +kernel) rfl) pa_nil))))) (pw_or1 (pt_val (pe_callB call_isi (by rfl) T.n_isinstance (by decide +kernel) (pa_cons (pe_fld (pv 2) rfl) (pa_cons (pe_bltn (v := .ty "bool") rfl T.n_bool (by decide +kernel) rfl) pa_nil)))))))
      (pss_one (ps_ret pe_bl)) pss_nil)
      (pss_cons (ps_if (PW.pt (pw_or (pt_not (pt_val (pe_callB call_isi (by rfl) T.n_isinstance (by decide +kernel) (pa_cons (pe_fld (pv 2) rfl) (pa_cons (pe_bltn (v := .ty "int") rfl T.n_int (by decide +kernel) rfl) pa_nil))))) (pw_or1 (pt_val (pe_callB call_isi (by rfl) T.n_isinstance (by decide +kernel) (pa_cons (pe_fld (pv 2) rfl) (pa_cons (pe_bltn (v := .ty "bool") rfl T.n_bool (by decide +kernel) rfl) pa_nil)))))))
      (pss_one (ps_ret pe_bl)) pss_nil)
      (pss_cons (ps_if (PW.pt (pw_or (pt_cmpR op_ne (pe_fld (pv 2) rfl) (pe_ix ix_tup (pv 1) pe_int (fun _ _ => rfl)) (nomark _)) (pw_or1 (pt_cmpR op_ne (pe_fld (pv 2) rfl) (pe_ix ix_tup (pv 1) pe_int (fun _ _ => rfl)) (nomark _)))))
      (pss_one (ps_ret pe_bl)) pss_nil)
      (C8.pss_cut (ps_set (i := 3) sc_reads.nd rfl (Or.inl rfl) (pe_meth0 (pv 2) T.cl T.m_rtext (ok_rtext T) (hr.mono (by decide)) T.b_rtext .nil pass0))
      (pss_one (ps_ret (pe_and (pe_callB call_isi (by rfl) T.n_isinstance (by decide +kernel) (pa_cons (pv 3) (pa_cons (pe_bltn (v := .ty "str") rfl T.n_str (by decide +kernel) rfl) pa_nil))) (pe_one (pe_cmpR op_eq (pv 3) (pv 0) (nomark _)))))))))))), ?_⟩
    obtain ⟨b1, b2⟩ := rtx_bd wp ez lz
    refine ⟨fun sl H' => ∃ x : Addr, sl = [some (.str z), some (.ref a), some (.ref x), none] ∧ Ex H H' ∧ RatAt A.C H' x p, ?_, ?_⟩
    · exact ⟨rfl, _, rfl, z, rfl, by omega, .inl ⟨p, wp, ez, lz, fun x H' e nx r => ⟨x, rfl, e, r⟩⟩⟩
    rintro sl H1 ⟨x, rfl, e1, dx, hx⟩
    have ii : ∀ n : Int, TyX K H1 (.int n) (.type "int") := fun n => .base (.int n)
    have hp1 := hp.ex e1
    refine ⟨_, rfl, .ref x, .ref A.C, .ref A.C, .ref A.C, true, rfl, .own _, .base (.ins hx T.cl T.ha T.hn T.htk T.hm), kit_self, _, rfl, iteF ?_⟩
    refine ⟨_, rfl, _, _, _, _, _, rfl, hx, T.cl, T.nT, rf_top _, _, .ty "int", _, _, true, rfl, .ty _, ii _, kit_ty (by decide +kernel), _, rfl, iteF ?_⟩
    refine ⟨_, rfl, _, _, _, _, _, rfl, hx, T.cl, T.nT, rf_top _, _, .ty "bool", _, _, false, rfl, .ty _, ii _, kit_ty (by decide +kernel), _, rfl, iteF ?_⟩
    refine ⟨_, rfl, _, _, _, _, _, rfl, hx, T.cl, T.nB, rf_bot _, _, .ty "int", _, _, true, rfl, .ty _, ii _, kit_ty (by decide +kernel), _, rfl, iteF ?_⟩
    refine ⟨_, rfl, _, _, _, _, _, rfl, hx, T.cl, T.nB, rf_bot _, _, .ty "bool", _, _, false, rfl, .ty _, ii _, kit_ty (by decide +kernel), _, rfl, iteF ?_⟩
    refine ⟨_, rfl, _, _, _, _, _, rfl, hx, T.cl, T.nT, rf_top _, _, rfl, _, _, _, _, rfl, rfl, SqT.of (hp1), rfl, rfl, _, rfl, ?_⟩
    rw [decide_eq_true rfl]
    refine iteF ⟨_, rfl, _, _, _, _, _, rfl, hx, T.cl, T.nB, rf_bot _, _, rfl, _, _, _, _, rfl, rfl, SqT.of (hp1), rfl, rfl, _, rfl, ?_⟩
    rw [decide_eq_true rfl]
    refine iteF ?_
    refine ⟨fun sl H' => sl = [some (.str z), some (.ref a), some (.ref x), some (.str z)] ∧ H' = H1, ?_, ?_⟩
    · refine ⟨_, rfl, x, dx, _, rfl, hx, np_text _, x, p, rfl, ⟨dx, hx⟩, b1.mono (by decide), b2.mono (by decide), ?_⟩
      rw [ez]
      exact ⟨rfl, rfl⟩
    rintro sl H2 ⟨rfl, rfl⟩
    refine ⟨_, rfl, _, .ty "str", _, _, true, rfl, .ty _, .base (.str _), kit_ty (by decide +kernel), true, rfl, ?_⟩
    refine iteT ⟨_, rfl, _, rfl, rfl, ?_⟩
    rw [decide_eq_true rfl]
    exact k H2 e1
def spRefuses : Sp := fun vs H Q _ => ∃ z : Str, vs = [.str z] ∧ z.length ≤ 100000 ∧ (∀ p, Wl p → rtx p = z → ¬ z.length ≤ 2000) ∧ ∀ H', Ex H H' → Q (.bl true) H'
theorem ok_refuses (T : Txt K mg A) : FnOk P w K mg base CX0 4 A.f_refuses A.d_refuses ["text"] spRefuses := by
  refine T.F_refuses.ok sc_refuses (fun vs H Q E h => ?_) (fun cdv Ar outer s H vs Q E hr h => ?_)
  · obtain ⟨z, rfl, _⟩ := h
    rfl
  · obtain ⟨z, rfl, lz, no, k⟩ := h
    obtain ⟨cm, cmr⟩ := T.p_read
    refine ⟨_, (pss_cons (L2N.ps_try_as (i := 1) (tb := fun W => tDrop (tCMethS A.C (spRead A) (WE W) (tC (.ref A.C)) (tCons (tVar 0) tNil))) (ts := t_bn K A) (Wout := fun _ _ _ _ => False) rfl rfl sc_refuses.nd rfl rfl ⟨rfl, by decide, Or.inl T.g_CE⟩ takes0N (fun W pn xe tk _ => pss_one (ps_expr (pe_cmethS (pe_glob (v := .ref A.C) rfl T.g_Ratio rfl) T.crC cmr (fnR_of (ok_read T) T.b_read) (hr.mono (by decide)) (fun sl => L2N.passAt tk sl) (pa_cons (pv 0) pa_nil)))) (fun a oe cls d pn hz hf => pss_cons (ps_if (PW.pt (pw_or (pt_not (pt_val (pe_callB (call_isX hz.zc hf) (by rfl) T.n_isinstance (by decide +kernel) (pa_cons (pv 1) (pa_cons (pe_glob (v := .ref A.BN) rfl T.g_BN rfl) pa_nil))))) (pw_or (pt_not (pt_val (pe_callB (call_isX hz.zc hf) (by rfl) T.n_isinstance (by decide +kernel) (pa_cons (pv 1) (pa_cons (pe_bltn (v := .ty "ValueError") rfl T.n_ValueError (by decide +kernel) rfl) pa_nil))))) (pw_or1 (pt_val (pe_callB (call_isX hz.zc hf) (by rfl) T.n_isinstance (by decide +kernel) (pa_cons (pv 1) (pa_cons (pe_glob (v := .ref A.Z) rfl T.g_Z rfl) pa_nil)))))))) (pss_one (ps_ret pe_bl)) pss_nil) (pss_one (ps_ret (pe_and (pe_callB call_isi (by rfl) T.n_isinstance (by decide +kernel) (pa_cons (pe_xf T.xf_BN T.n_BN_given hz.zc hf (pv 1)) (pa_cons (pe_bltn (v := .ty "str") rfl T.n_str (by decide +kernel) rfl) pa_nil))) (pe_one (pe_cmpR op_eq (pe_xf T.xf_BN T.n_BN_given hz.zc hf (pv 1)) (pv 0) (nomark _))))))))
      (pss_one (ps_ret pe_bl))), ?_⟩
    refine ⟨rfl, _, rfl, z, rfl, lz, .inr ⟨no, fun d H' ex hd => ⟨true, T.e_BN, fun _ b nb => ?_, fun z => Bool.noConfusion z⟩⟩⟩
    have nd3 : ∀ dd : Addr, some d = some dd → ∃ fs, H' dd = some (.xd fs) := fun dd e => by cases e; exact ⟨_, hd⟩
    refine ⟨_, rfl, A.BN, .ref A.BN, .ref A.BN, true, rfl, T.X_BN, nd3, rfl, fun u e => e, kit_self, _, rfl, iteF ?_⟩
    refine ⟨_, rfl, A.BN, .ty "ValueError", _, true, rfl, T.X_BN, nd3, rfl, fun u e => e, T.v_BN, _, rfl, iteF ?_⟩
    refine ⟨_, rfl, A.BN, .ref A.Z, _, false, rfl, T.X_BN, nd3, rfl, fun u e => e, T.bnNz, _, rfl, iteF ?_⟩
    have lk : ([(("given" : Str), V.str z)] : List (Str × V)).lookup ("given" : Str) = some (V.str z) := by simp [List.lookup]
    refine ⟨_, rfl, rfl, rfl, d, _, _, rfl, hd, lk, .str z, .ty "str", _, _, true, rfl, .ty _, .base (.str _), kit_ty (by decide +kernel), true, rfl, ?_⟩
    refine iteT ⟨_, rfl, rfl, rfl, d, _, _, rfl, hd, lk, _, rfl, rfl, ?_⟩
    rw [decide_eq_true rfl]
    exact k H' ex
end
end Fc
set_option Elab.async false
set_option linter.all false
set_option maxRecDepth 100000
set_option maxHeartbeats 4000000
set_option exponentiation.threshold 100000
namespace Fc
open PySem PySem.Spec PyProof.Rows L2 L2H
/-- a text that read refuses -/
def Bad (w : Str) : Prop := w.length ≤ 100000 ∧ ∀ q, Wl q → rtx q = w → ¬ w.length ≤ 2000
theorem bad_of {w : Str} (h : NotW (TL.tl w)) (l : w.length ≤ 100000) : Bad w := ⟨l, fun q wq e => absurd (by rw [← tl_rtx, e]) (h q wq)⟩
/-- the list of the texts so far -/
structure RS (H H' : Hp) (L : Addr) (n : Nat) : Prop where
  ex : Ex H H'
  new : H L = none
  rows : ∃ (w : Str) (ws : List Str), H' L = some (.lst ((w :: ws).map V.str)) ∧ (∀ x ∈ w :: ws, Bad x) ∧ (w :: ws).length ≤ n
theorem RS.ty {K : PySem.W.Frag} {H H' : Hp} {L : Addr} {n : Nat} (r : RS H H' L n) : tyV K "list" (.ref L) H' := by
  obtain ⟨w, ws, h, _⟩ := r.rows
  exact .inl ⟨rfl, _, SqL.of h⟩
theorem RS.to {H H' H2 : Hp} {L : Addr} {n : Nat} (r : RS H H' L n) (e : Ex H' H2) : RS H H2 L n := by
  obtain ⟨w, ws, h, b, l⟩ := r.rows
  exact ⟨r.ex.trans e, r.new, w, ws, e _ _ h, b, l⟩
theorem rd_app {H H' : Hp} {L : Addr} {n : Nat} {x : Str} {Q : VK} (r : RS H H' L n) (hn : n < 1000) (hb : Bad x) (k : ∀ H2, RS H H2 L (n + 1) → (∀ b, b ≠ L → H2 b = H' b) → Q .non H2) :
    rAppend (.ref L) [.str x] H' Q := by
  obtain ⟨w, ws, h, b, l⟩ := r.rows
  refine ⟨L, _, _, rfl, rfl, h, ?_, k _ ⟨?_, r.new, w, ws ++ [x], ?_, ?_, ?_⟩ fun c hc => upd_ne hc⟩
  · rw [List.length_map, sizeLine_eq]; omega
  · exact fun c o e => by rw [upd_ne (ne_of_none e r.new)]; exact r.ex c o e
  · rw [upd_same, List.map_cons, List.map_cons, List.map_append]; rfl
  · intro y hy
    rcases List.mem_cons.mp hy with h | h
    · exact b y (by rw [h]; simp)
    · rcases List.mem_append.mp h with h | h
      · exact b y (by simp [h])
      · rw [List.mem_singleton.mp h]; exact hb
  · rw [List.length_cons, List.length_append] at *
    simp at *
    omega
theorem len_rtx {p : Int × Int} (lf : LF p) : (rtx p).length ≤ 2000 ∧ 1 ≤ (rtx p).length := by
  have e : (rtx p).length = (rtL p).length := by rw [TL.len_tl, tl_rtx]
  have h1 : (itL p.1).length ≤ 1000 := itL_len lf.t (by decide)
  have h2 : (itL p.2).length ≤ 999 := by rw [itL_nat (by have := lf.w.1; omega)]; exact TL.numL_len (by decide) lf.b
  obtain ⟨c, r, h3, _⟩ := rtL_head p
  refine ⟨?_, by rw [e, h3, List.length_cons]; omega⟩
  rw [e]
  by_cases o : p.2 = 1
  · rw [rtL_one o]; omega
  · rw [rtL_two o, List.length_append, List.length_cons]; omega
section
variable {p : Int × Int}
theorem tl_c (x : Str) (s : Str) (l : List Nat) (h : TL.tl x = l) : TL.tl (x ++ s) = l ++ TL.tl s := by rw [TL.tl_append, h]
theorem bads0 (lf : LF p) : ∀ x ∈ (["", " ", "-", "/", "-0", "00", "+0", "/" ++ itx p.2] : List Str), Bad x := by
  have l2 := itx_len999 lf.b
  have l3 : ("/" : Str).length = 1 := rfl
  intro x hx
  simp only [List.mem_cons, List.not_mem_nil, or_false] at hx
  rcases hx with rfl | rfl | rfl | rfl | rfl | rfl | rfl | rfl
  · exact bad_of nw_nil (by decide)
  · exact bad_of (nw_mem (c := 32) (by decide) (by decide)) (by decide)
  · exact bad_of nw_minus1 (by decide)
  · exact bad_of (nw_slash []) (by decide)
  · exact bad_of (nw_minus2 (c := 48) (by decide) []) (by decide)
  · exact bad_of (nw_lead (c := 48) (by decide) []) (by decide)
  · exact bad_of (nw_mem (c := 43) (by decide) (by decide)) (by decide)
  · refine bad_of ?_ (by rw [Str.length_append]; omega)
    rw [TL.tl_append, tl_slash]
    exact nw_slash _
theorem bads1 (lf : LF p) : ∀ x ∈ (["+", "0", "--", " ", "\n"] : List Str), x.length ≤ 2 ∧ Bad (x ++ rtx p) := by
  have l2 := (len_rtx lf).1
  have go : ∀ (x : Str) (l : List Nat), x.length ≤ 2 → TL.tl x = l → NotW (l ++ rtL p) → x.length ≤ 2 ∧ Bad (x ++ rtx p) := fun x l h e n =>
    ⟨h, bad_of (by rw [TL.tl_append, e, tl_rtx]; exact n) (by rw [Str.length_append]; omega)⟩
  intro x hx
  simp only [List.mem_cons, List.not_mem_nil, or_false] at hx
  rcases hx with rfl | rfl | rfl | rfl | rfl
  · exact go _ [43] (by decide) rfl (nw_mem (c := 43) (by simp) (by decide))
  · exact go _ [48] (by decide) rfl (nw_zero p)
  · exact go _ [45, 45] (by decide) rfl (nw_minus2 (c := 45) (by decide) _)
  · exact go _ [32] (by decide) rfl (nw_mem (c := 32) (by simp) (by decide))
  · exact go _ [10] (by decide) rfl (nw_mem (c := 10) (by simp) (by decide))
theorem bads2 (lf : LF p) : ∀ x ∈ ([" ", "\n"] : List Str), x.length ≤ 2 ∧ Bad (rtx p ++ x) := by
  have l2 := (len_rtx lf).1
  have go : ∀ (x : Str) (l : List Nat), x.length ≤ 2 → TL.tl x = l → NotW (rtL p ++ l) → x.length ≤ 2 ∧ Bad (rtx p ++ x) := fun x l h e n =>
    ⟨h, bad_of (by rw [TL.tl_append, e, tl_rtx]; exact n) (by rw [Str.length_append]; omega)⟩
  intro x hx
  simp only [List.mem_cons, List.not_mem_nil, or_false] at hx
  rcases hx with rfl | rfl
  · exact go _ [32] (by decide) rfl (nw_mem (c := 32) (by simp) (by decide))
  · exact go _ [10] (by decide) rfl (nw_mem (c := 10) (by simp) (by decide))
theorem bads3 (lf : LF p) : ∀ x ∈ (["", "1", "0", "0" ++ itx p.2] : List Str), x.length ≤ 1001 ∧ Bad (itx p.1 ++ "/" ++ x) := by
  have l1 := itx_len999 lf.t
  have l2 := itx_len999 lf.b
  have l3 : ("/" : Str).length = 1 := rfl
  have go : ∀ (x : Str) (l : List Nat), x.length ≤ 1001 → TL.tl x = l → NotW (itL p.1 ++ 47 :: l) → x.length ≤ 1001 ∧ Bad (itx p.1 ++ "/" ++ x) := fun x l h e n =>
    ⟨h, bad_of (by rw [TL.tl_append, TL.tl_append, e, tl_itx, tl_slash, List.append_assoc]; exact n) (by rw [Str.length_append, Str.length_append]; omega)⟩
  intro x hx
  simp only [List.mem_cons, List.not_mem_nil, or_false] at hx
  rcases hx with rfl | rfl | rfl | rfl
  · exact go _ [] (by decide) rfl (nw_below0 _)
  · exact go _ [49] (by decide) rfl (nw_below1 _)
  · exact go _ [48] (by decide) rfl (nw_belowz _ [])
  · refine go _ (48 :: itL p.2) (by rw [Str.length_append]; have : ("0" : Str).length = 1 := rfl; omega) ?_ (nw_belowz _ _)
    rw [TL.tl_append, tl_itx]
    rfl
theorem bads4 (lf : LF p) : ∀ x ∈ (["/-", "/+", "//", "/ ", " /", "/" ++ itx p.2 ++ "/"] : List Str), x.length ≤ 1002 ∧ Bad (itx p.1 ++ x ++ itx (p.2 + 1)) := by
  have l1 := itx_len999 lf.t
  have l2 := itx_len999 lf.b
  have l3 : ("/" : Str).length = 1 := rfl
  have l4 : (itx (p.2 + 1)).length ≤ 1001 := by
    rw [TL.len_tl, tl_itx]
    refine itL_len (k := 1000) ?_ (by decide)
    have := lf.b
    have e : 10 ^ 1000 = 10 ^ 999 * 10 := Nat.pow_succ 10 999
    omega
  have go : ∀ (x : Str) (l : List Nat), x.length ≤ 1002 → TL.tl x = l → NotW (itL p.1 ++ (l ++ itL (p.2 + 1))) → x.length ≤ 1002 ∧ Bad (itx p.1 ++ x ++ itx (p.2 + 1)) := fun x l h e n =>
    ⟨h, bad_of (by rw [TL.tl_append, TL.tl_append, e, tl_itx, tl_itx, List.append_assoc]; exact n) (by rw [Str.length_append, Str.length_append]; omega)⟩
  intro x hx
  simp only [List.mem_cons, List.not_mem_nil, or_false] at hx
  rcases hx with rfl | rfl | rfl | rfl | rfl | rfl
  · exact go _ [47, 45] (by decide) rfl (nw_tail2 (itL_ne _) (by simp))
  · exact go _ [47, 43] (by decide) rfl (nw_mem (c := 43) (by simp) (by decide))
  · exact go _ [47, 47] (by decide) rfl (nw_count (by rw [List.count_append, List.count_append]; have : List.count 47 [47, 47] = 2 := rfl; omega))
  · exact go _ [47, 32] (by decide) rfl (nw_mem (c := 32) (by simp) (by decide))
  · exact go _ [32, 47] (by decide) rfl (nw_mem (c := 32) (by simp) (by decide))
  · refine go _ (47 :: (itL p.2 ++ [47])) (by rw [Str.length_append, Str.length_append]; omega) ?_ (nw_count ?_)
    · rw [TL.tl_append, TL.tl_append, tl_itx, tl_slash]
      rfl
    · rw [List.count_append, List.count_append, List.count_cons, List.count_append]
      have : List.count 47 [47] = 1 := rfl
      simp
      omega
theorem bad5 (lf : LF p) : Bad (itx p.1 ++ "/" ++ itx p.2 ++ "/") := by
  have l1 := itx_len999 lf.t
  have l2 := itx_len999 lf.b
  have l3 : ("/" : Str).length = 1 := rfl
  refine bad_of ?_ (by rw [Str.length_append, Str.length_append, Str.length_append]; omega)
  rw [TL.tl_append, TL.tl_append, TL.tl_append, tl_itx, tl_itx, tl_slash]
  refine nw_count ?_
  rw [List.count_append, List.count_append, List.count_append]
  have : List.count 47 [47] = 1 := rfl
  omega
theorem big_times {i m : Int} (h : i.natAbs < 10 ^ 999) (m0 : 0 ≤ m) (m1 : m < 100) : (i * m).natAbs < 10 ^ 1001 := by
  rw [Int.natAbs_mul]
  have e : 10 ^ 1001 = 10 ^ 999 * 100 := by rw [show 1001 = 999 + 2 by rfl, Nat.pow_add]
  rw [e]
  exact Nat.mul_lt_mul_of_lt_of_le h (by omega) (by decide)
theorem bad6 {m : Int} (lf : LF p) (m2 : 2 ≤ m) (m1 : m < 100) : (itx (p.1 * m)).length ≤ 1002 ∧ (itx (p.2 * m)).length ≤ 1002 ∧ Bad (itx (p.1 * m) ++ "/" ++ itx (p.2 * m)) := by
  have l1 : (itx (p.1 * m)).length ≤ 1002 := by
    rw [TL.len_tl, tl_itx]
    exact itL_len (k := 1001) (big_times lf.t (by omega) m1) (by decide)
  have l2 : (itx (p.2 * m)).length ≤ 1002 := by
    rw [TL.len_tl, tl_itx]
    exact itL_len (k := 1001) (big_times lf.b (by omega) m1) (by decide)
  have l3 : ("/" : Str).length = 1 := rfl
  refine ⟨l1, l2, bad_of ?_ (by rw [Str.length_append, Str.length_append]; omega)⟩
  rw [TL.tl_append, TL.tl_append, tl_itx, tl_itx, tl_slash, List.append_assoc]
  exact nw_times m2
theorem bad7 (lf : LF p) {c d : Nat} (hc : ¬ (c = 45 ∨ (47 ≤ c ∧ c ≤ 57))) (hd : d ≤ (rtx p).length) : Bad (cutS (rtx p) none (some (d : Int)) ++ ⟨#[c]⟩ ++ cutS (rtx p) (some (d : Int)) none) := by
  refine bad_of ?_ ?_
  · rw [TL.tl_append, TL.tl_append]
    exact nw_mem (c := c) (by have : TL.tl (⟨#[c]⟩ : Str) = [c] := rfl; rw [this]; simp) hc
  · have l2 := (len_rtx lf).1
    rw [TL.len_tl, TL.tl_append, TL.tl_append, tl_to hd, tl_from hd]
    have : TL.tl (⟨#[c]⟩ : Str) = [c] := rfl
    rw [this]
    simp only [List.length_append, List.length_take, List.length_drop, ← TL.len_tl, List.length_cons, List.length_nil]
    omega
theorem bad8 (lf : LF p) {d : Nat} (h0 : 0 < d) (hd : d ≤ (rtx p).length) : Bad (cutS (rtx p) none (some (d : Int)) ++ "-" ++ cutS (rtx p) (some (d : Int)) none) := by
  have t : TL.tl ("-" : Str) = [45] := rfl
  refine bad_of ?_ ?_
  · rw [TL.tl_append, TL.tl_append, tl_to hd, t, List.append_assoc]
    refine nw_tail2 (fun z => ?_) (by simp)
    have := congrArg List.length z
    rw [List.length_take, ← TL.len_tl] at this
    simp at this
    omega
  · have l2 := (len_rtx lf).1
    rw [TL.len_tl, TL.tl_append, TL.tl_append, tl_to hd, tl_from hd, t]
    simp only [List.length_append, List.length_take, List.length_drop, ← TL.len_tl, List.length_cons, List.length_nil]
    omega
end
end Fc
set_option Elab.async false
set_option linter.all false
set_option maxRecDepth 100000
set_option maxHeartbeats 4000000
set_option exponentiation.threshold 100000
namespace Fc
open PySem PySem.Spec PyProof.Rows L2 L2H
section
variable {P : Program} {w : World} {K : PySem.W.Frag} {mg : Str → Option Value} {base : Heap} {A : Ad}
theorem bd_small {i : Int} (h : i.natAbs < 3000) : Bd 300 i := Nat.lt_trans h (by decide +kernel)
def sgA : Str := "abcdefghijklmnopqrstuvwxyzABCDEFGHIJKLMNOPQRSTUVWXYZ"
def sgZ : Str := "!\"#$&'()*:;<=>?\x40[\\]^`{|}~\n"
def sgS : Str := ("_. +,e" ++ sgA) ++ sgZ
theorem sgS_ok : ∀ c ∈ sgS.cps.toList, ¬ (c = 45 ∨ (47 ≤ c ∧ c ≤ 57)) := by decide +kernel
theorem sgS_len : sgS.length < 200 ∧ 0 < sgS.length := by decide +kernel
structure RK (pt : Addr) (H H' : Hp) (L : Addr) (n : Nat) : Prop where
  keep : Keep pt H H'
  pot : PotAt H' pt
  new : H L = none
  ne : L ≠ pt
  rows : ∃ (w : Str) (ws : List Str), H' L = some (.lst ((w :: ws).map V.str)) ∧ (∀ x ∈ w :: ws, Bad x) ∧ (w :: ws).length ≤ n
theorem RS.rk {pt : Addr} {H H' : Hp} {L : Addr} {n : Nat} (r : RS H H' L n) (pot : PotAt H pt) : RK pt H H' L n := ⟨Keep.of r.ex, pot.ex r.ex, r.new, pot.ne r.new, r.rows⟩
theorem RK.ty {K : PySem.W.Frag} {pt : Addr} {H H' : Hp} {L : Addr} {n : Nat} (r : RK pt H H' L n) : tyV K "list" (.ref L) H' := by
  obtain ⟨w, ws, h, _⟩ := r.rows
  exact .inl ⟨rfl, _, SqL.of h⟩
theorem RK.digit {pt : Addr} {H H' H2 : Hp} {L : Addr} {n : Nat} (r : RK pt H H' L n) (p : PotAt H2 pt) (k : Keep pt H' H2) : RK pt H H2 L n := by
  obtain ⟨w, ws, h, b⟩ := r.rows
  exact ⟨r.keep.trans k, p, r.new, r.ne, w, ws, k _ _ h r.ne, b⟩
theorem rd_appK {pt : Addr} {H H' : Hp} {L : Addr} {n : Nat} {x : Str} {Q : VK} (r : RK pt H H' L n) (hn : n < 1000) (hb : Bad x) (k : ∀ H2, RK pt H H2 L (n + 1) → Q .non H2) :
    rAppend (.ref L) [.str x] H' Q := by
  obtain ⟨w, ws, h, b, l⟩ := r.rows
  refine ⟨L, _, _, rfl, rfl, h, ?_, k _ ⟨?_, ?_, r.new, r.ne, w, ws ++ [x], ?_, ?_, ?_⟩⟩
  · rw [List.length_map, sizeLine_eq]; omega
  · exact fun c o e ne => by rw [upd_ne (ne_of_none e r.new)]; exact r.keep c o e ne
  · obtain ⟨l, cs, i, c, ne, h1, h2, rr⟩ := r.pot
    have n2 : l ≠ L := fun e => by
      rw [e, h] at h2
      cases cs with
      | nil => cases h2
      | cons a b => cases h2
    exact ⟨l, cs, i, c, ne, by rw [upd_ne r.ne.symm]; exact h1, by rw [upd_ne n2]; exact h2, rr⟩
  · rw [upd_same, List.map_cons, List.map_cons, List.map_append]; rfl
  · intro y hy
    rcases List.mem_cons.mp hy with h | h
    · exact b y (by rw [h]; simp)
    · rcases List.mem_append.mp h with h | h
      · exact b y (by simp [h])
      · rw [List.mem_singleton.mp h]; exact hb
  · rw [List.length_cons, List.length_append] at *
    simp at *
    omega
def spSpoilt : Sp := fun vs H Q _ => ∃ (pt a : Addr) (p : Int × Int) (m : Int), vs = [.ref pt, .ref a, .str (rtx p), .int m] ∧ PotAt H pt ∧ Pr H a p ∧ LF p ∧ 2 ≤ m ∧ m < 100 ∧
  ∀ L H' (ws : List Str), H' L = some (.lst (ws.map V.str)) → (∀ x ∈ ws, Bad x) → ws.length ≤ 1000 → PotAt H' pt → Keep pt H H' → H L = none → Q (.ref L) H'
theorem ok_spoilt (T : Txt K mg A) : FnOk P w K mg base CX0 2 A.f_spoilt A.d_spoilt ["pot", "p", "text", "times"] spSpoilt := by
  refine T.F_spoilt.ok sc_spoilt (fun vs H Q E h => ?_) (fun cdv Ar outer s H vs Q E hr h => ?_)
  · obtain ⟨pt, a, p, m, rfl, _⟩ := h
    rfl
  · obtain ⟨pt, a, p, m, rfl, pot, hp, lf, m2, m1, k⟩ := h
    refine ⟨_, (pss_cons (ps_set (i := 4) sc_spoilt.nd rfl (Or.inl rfl) (pe_callTy (call_strB hr.hd T.nd) (by rfl) T.n_str (by decide +kernel) (pa_cons (pe_ix ix_tup (pv 1) pe_int (fun _ _ => rfl)) pa_nil)))
      (pss_cons (ps_set (i := 5) sc_spoilt.nd rfl (Or.inl rfl) (pe_callTy (call_strB hr.hd T.nd) (by rfl) T.n_str (by decide +kernel) (pa_cons (pe_ix ix_tup (pv 1) pe_int (fun _ _ => rfl)) pa_nil)))
      (pss_cons (ps_set (i := 6) sc_spoilt.nd rfl (Or.inl rfl) (pe_callTy (call_strB hr.hd T.nd) (by rfl) T.n_str (by decide +kernel) (pa_cons (pe_op op_add (pe_ix ix_tup (pv 1) pe_int (fun _ _ => rfl)) pe_int) pa_nil)))
      (C8.pss_cut (ps_set (i := 7) sc_spoilt.nd rfl (Or.inl rfl) (pe_lst (pa_cons pe_str (pa_cons pe_str (pa_cons pe_str (pa_cons pe_str (pa_cons pe_str (pa_cons pe_str (pa_cons pe_str (pa_cons (pe_op op_add_str pe_str (pv 5)) pa_nil))))))))))
      (C8.pss_cut (ps_for PassesOwn.never rfl (pi_list (pe_lst (pa_cons pe_str (pa_cons pe_str (pa_cons pe_str (pa_cons pe_str (pa_cons pe_str pa_nil))))))) (pg_name (i := 8) sc_spoilt.nd rfl (Or.inl rfl))
      (pss_one (ps_expr (pe_bm PySem.F.plainAttrs_list PySem.F.slot_list_append PySem.F.type_list_append mt_append (pv 7) (pa_cons (pe_op op_add_str (pv 8) (pv 2)) pa_nil)))))
      (C8.pss_cut (ps_for PassesOwn.never rfl (pi_list (pe_lst (pa_cons pe_str (pa_cons pe_str pa_nil)))) (pg_name (i := 9) sc_spoilt.nd rfl (Or.inl rfl))
      (pss_one (ps_expr (pe_bm PySem.F.plainAttrs_list PySem.F.slot_list_append PySem.F.type_list_append mt_append (pv 7) (pa_cons (pe_op op_add_str (pv 2) (pv 9)) pa_nil)))))
      (C8.pss_cut (ps_for PassesOwn.never rfl (pi_list (pe_lst (pa_cons pe_str (pa_cons pe_str (pa_cons pe_str (pa_cons (pe_op op_add_str pe_str (pv 5)) pa_nil)))))) (pg_name (i := 9) sc_spoilt.nd rfl (Or.inl rfl))
      (pss_one (ps_expr (pe_bm PySem.F.plainAttrs_list PySem.F.slot_list_append PySem.F.type_list_append mt_append (pv 7) (pa_cons (pe_op op_add_str (pe_op op_add_str (pv 4) pe_str) (pv 9)) pa_nil)))))
      (C8.pss_cut (ps_for PassesOwn.never rfl (pi_list (pe_lst (pa_cons pe_str (pa_cons pe_str (pa_cons pe_str (pa_cons pe_str (pa_cons pe_str (pa_cons (pe_op op_add_str (pe_op op_add_str pe_str (pv 5)) pe_str) pa_nil)))))))) (pg_name (i := 10) sc_spoilt.nd rfl (Or.inl rfl))
      (pss_one (ps_expr (pe_bm PySem.F.plainAttrs_list PySem.F.slot_list_append PySem.F.type_list_append mt_append (pv 7) (pa_cons (pe_op op_add_str (pe_op op_add_str (pv 4) (pv 10)) (pv 6)) pa_nil)))))
      (C8.pss_cut (ps_expr (pe_bm PySem.F.plainAttrs_list PySem.F.slot_list_append PySem.F.type_list_append mt_append (pv 7) (pa_cons (pe_op op_add_str (pe_op op_add_str (pe_op op_add_str (pv 4) pe_str) (pv 5)) pe_str) pa_nil)))
      (C8.pss_cut (ps_expr (pe_bm PySem.F.plainAttrs_list PySem.F.slot_list_append PySem.F.type_list_append mt_append (pv 7) (pa_cons (pe_op op_add_str (pe_op op_add_str (pe_callTy (call_strB hr.hd T.nd) (by rfl) T.n_str (by decide +kernel) (pa_cons (pe_op op_mulW (pe_ix ix_tup (pv 1) pe_int (fun _ _ => rfl)) (pv 3)) pa_nil)) pe_str) (pe_callTy (call_strB hr.hd T.nd) (by rfl) T.n_str (by decide +kernel) (pa_cons (pe_op op_mulW (pe_ix ix_tup (pv 1) pe_int (fun _ _ => rfl)) (pv 3)) pa_nil))) pa_nil)))
      (pss_cons (ps_set (i := 11) sc_spoilt.nd rfl (Or.inl rfl) pe_str)
      (pss_cons (ps_set (i := 11) sc_spoilt.nd rfl (Or.inl rfl) (pe_op op_add_str (pe_op op_add_str pe_str (pv 11)) pe_str))
      (C8.pss_cut (ps_set (i := 12) sc_spoilt.nd rfl (Or.inl rfl) (pe_ix ix_str (pv 11) (pe_call (ok_digit T) (hr.mono (by decide)) rfl T.g_digit T.F_digit.kp T.b_digit .nil pass0 (pa_cons (pv 0) (pa_cons (pe_callB call_len (by rfl) T.n_len PySem.boot_len (pa_cons (pv 11) pa_nil)) pa_nil))) (fun _ _ => rfl)))
      (C8.pss_cut (ps_set (i := 13) sc_spoilt.nd rfl (Or.inl rfl) (pe_call (ok_digit T) (hr.mono (by decide)) rfl T.g_digit T.F_digit.kp T.b_digit .nil pass0 (pa_cons (pv 0) (pa_cons (pe_op op_add (pe_callB call_len (by rfl) T.n_len PySem.boot_len (pa_cons (pv 2) pa_nil)) pe_int) pa_nil))))
      (C8.pss_cut (ps_expr (pe_bm PySem.F.plainAttrs_list PySem.F.slot_list_append PySem.F.type_list_append mt_append (pv 7) (pa_cons (pe_op op_add_str (pe_op op_add_str (pe_slice sl_str (pv 2) po_none (po_some (pv 13))) (pv 12)) (pe_slice sl_str (pv 2) (po_some (pv 13)) po_none)) pa_nil)))
      (C8.pss_cut (ps_set (i := 13) sc_spoilt.nd rfl (Or.inl rfl) (pe_op op_add pe_int (pe_call (ok_digit T) (hr.mono (by decide)) rfl T.g_digit T.F_digit.kp T.b_digit .nil pass0 (pa_cons (pv 0) (pa_cons (pe_callB call_len (by rfl) T.n_len PySem.boot_len (pa_cons (pv 2) pa_nil)) pa_nil)))))
      (C8.pss_cut (ps_expr (pe_bm PySem.F.plainAttrs_list PySem.F.slot_list_append PySem.F.type_list_append mt_append (pv 7) (pa_cons (pe_op op_add_str (pe_op op_add_str (pe_slice sl_str (pv 2) po_none (po_some (pv 13))) pe_str) (pe_slice sl_str (pv 2) (po_some (pv 13)) po_none)) pa_nil)))
      (pss_one (ps_ret (pv 7)))))))))))))))))))), ?_⟩
    have l1 := itx_len999 lf.t
    have l2 := itx_len999 lf.b
    have lz := (len_rtx lf).1
    have l3 : ("/" : Str).length = 1 := rfl
    have l4 : (itx (p.2 + 1)).length ≤ 1001 := by
      rw [TL.len_tl, tl_itx]
      refine itL_len (k := 1000) ?_ (by decide)
      have := lf.b
      have e : 10 ^ 1000 = 10 ^ 999 * 10 := Nat.pow_succ 10 999
      omega
    have b4 : (p.2 + 1).natAbs < 10 ^ 4300 := by
      refine Nat.lt_of_le_of_lt ?_ (pow4300 (k := 1000) (n := 10 ^ 999 + 1) ?_)
      · have := lf.b; omega
      · have e : 10 ^ 1000 = 10 ^ 999 * 10 := Nat.pow_succ 10 999
        have : 0 < 10 ^ 999 := Nat.pow_pos (by decide)
        omega
    refine ⟨_, rfl, _, _, _, _, rfl, rfl, SqT.of (hp), rfl, _, rfl, pow999 lf.t, _, rfl, _, _, _, _, rfl, rfl, SqT.of (hp), rfl, _, rfl, pow999 lf.b, _, rfl, _, _, _, _, rfl, rfl, SqT.of (hp), rfl, _, _, rfl, rfl, _, rfl, b4, ?_⟩
    refine ⟨fun sl H' => ∃ L, sl = [some (.ref pt), some (.ref a), some (.str (rtx p)), some (.int m), some (.str (itx p.1)), some (.str (itx p.2)), some (.str (itx (p.2 + 1))), some (.ref L), none, none, none, none, none, none] ∧ RS H H' L 8, ?_, ?_⟩
    · refine ⟨_, rfl, "/", itx p.2, rfl, rfl, ?_, ?_⟩
      · rw [l3, sizeLine_eq]; omega
      refine ⟨(by show 8 ≤ sizeLine; rw [sizeLine_eq]; decide), fun L nL => ⟨L, rfl, Ex.new nL, nL, "", [" ", "-", "/", "-0", "00", "+0", "/" ++ itx p.2], upd_same, bads0 lf, by simp⟩⟩
    rintro sl H1 ⟨L, rfl, r1⟩
    refine ⟨fun sl H' => (∃ o8, sl = [some (.ref pt), some (.ref a), some (.str (rtx p)), some (.int m), some (.str (itx p.1)), some (.str (itx p.2)), some (.str (itx (p.2 + 1))), some (.ref L), o8, none, none, none, none, none]) ∧ RS H H' L 13, ?_, ?_⟩
    · refine ⟨(by show 5 ≤ sizeLine; rw [sizeLine_eq]; decide), fun LL nLL => ?_⟩
      have eL : Ex H1 (upd H1 LL (.lst ((["+", "0", "--", " ", "\n"] : List Str).map V.str))) := Ex.new nLL
      have hL : upd H1 LL (.lst ((["+", "0", "--", " ", "\n"] : List Str).map V.str)) LL = some (.lst ((["+", "0", "--", " ", "\n"] : List Str).map V.str)) := upd_same
      have nLs : LL ≠ L := fun e => by obtain ⟨w, ws, h, _⟩ := r1.rows; rw [← e, nLL] at h; cases h
      refine ⟨LL, rfl, ⟨_, SqL.of hL⟩, for_list (K := K) (a := LL) (xs := (["+", "0", "--", " ", "\n"] : List Str).map V.str) (fun i sl H' => (∃ o8, sl = [some (.ref pt), some (.ref a), some (.str (rtx p)), some (.int m), some (.str (itx p.1)), some (.str (itx p.2)), some (.str (itx (p.2 + 1))), some (.ref L), o8, none, none, none, none, none]) ∧ RS H H' L (8 + i) ∧ H' LL = some (.lst ((["+", "0", "--", " ", "\n"] : List Str).map V.str))) ⟨⟨_, rfl⟩, r1.to eL, hL⟩ (fun i sl H' _ q => SqL.of q.2.2) (fun i v sl H' hv q => ?_) (fun sl H' q => ⟨q.1, q.2.1⟩)⟩
      obtain ⟨⟨o8, rfl⟩, rr, hLL⟩ := q
      obtain ⟨x, hx, rfl⟩ : ∃ x, x ∈ (["+", "0", "--", " ", "\n"] : List Str) ∧ v = V.str x := by
        rw [List.getElem?_map] at hv
        obtain ⟨x, h1, h2⟩ := Option.map_eq_some_iff.mp hv
        exact ⟨x, List.mem_of_getElem? h1, h2.symm⟩
      have hi : i < 5 := by
        have := (List.getElem?_eq_some_iff.mp hv).1
        simpa using this
      obtain ⟨lx, bx⟩ := bads1 lf x hx
      refine ⟨_, rfl, rr.ty, _, rfl, _, rfl, x, rtx p, rfl, rfl, by rw [sizeLine_eq]; omega, ?_⟩
      dsimp only [tNil]
      refine rd_app rr (by omega) bx fun H2 r2 k2 => ?_
      exact ⟨⟨_, rfl⟩, r2, by rw [k2 _ nLs]; exact hLL⟩
    rintro sl H2 ⟨⟨o8, rfl⟩, r2⟩
    refine ⟨fun sl H' => (∃ o8 o9, sl = [some (.ref pt), some (.ref a), some (.str (rtx p)), some (.int m), some (.str (itx p.1)), some (.str (itx p.2)), some (.str (itx (p.2 + 1))), some (.ref L), o8, o9, none, none, none, none]) ∧ RS H H' L 15, ?_, ?_⟩
    · refine ⟨(by show 2 ≤ sizeLine; exact sz2), fun LL nLL => ?_⟩
      have eL : Ex H2 (upd H2 LL (.lst (([" ", "\n"] : List Str).map V.str))) := Ex.new nLL
      have hL : upd H2 LL (.lst (([" ", "\n"] : List Str).map V.str)) LL = some (.lst (([" ", "\n"] : List Str).map V.str)) := upd_same
      have nLs : LL ≠ L := fun e => by obtain ⟨w, ws, h, _⟩ := r2.rows; rw [← e, nLL] at h; cases h
      refine ⟨LL, rfl, ⟨_, SqL.of hL⟩, for_list (K := K) (a := LL) (xs := ([" ", "\n"] : List Str).map V.str) (fun i sl H' => (∃ o8 o9, sl = [some (.ref pt), some (.ref a), some (.str (rtx p)), some (.int m), some (.str (itx p.1)), some (.str (itx p.2)), some (.str (itx (p.2 + 1))), some (.ref L), o8, o9, none, none, none, none]) ∧ RS H H' L (13 + i) ∧ H' LL = some (.lst (([" ", "\n"] : List Str).map V.str))) ⟨⟨_, _, rfl⟩, r2.to eL, hL⟩ (fun i sl H' _ q => SqL.of q.2.2) (fun i v sl H' hv q => ?_) (fun sl H' q => ⟨q.1, q.2.1⟩)⟩
      obtain ⟨⟨o8, o9, rfl⟩, rr, hLL⟩ := q
      obtain ⟨x, hx, rfl⟩ : ∃ x, x ∈ ([" ", "\n"] : List Str) ∧ v = V.str x := by
        rw [List.getElem?_map] at hv
        obtain ⟨x, h1, h2⟩ := Option.map_eq_some_iff.mp hv
        exact ⟨x, List.mem_of_getElem? h1, h2.symm⟩
      have hi : i < 2 := by
        have := (List.getElem?_eq_some_iff.mp hv).1
        simpa using this
      obtain ⟨lx, bx⟩ := bads2 lf x hx
      refine ⟨_, rfl, rr.ty, _, rfl, _, rfl, rtx p, x, rfl, rfl, by rw [sizeLine_eq]; omega, ?_⟩
      dsimp only [tNil]
      refine rd_app rr (by omega) bx fun H2 r2 k2 => ?_
      exact ⟨⟨_, _, rfl⟩, r2, by rw [k2 _ nLs]; exact hLL⟩
    rintro sl H3 ⟨⟨o8, o9, rfl⟩, r3⟩
    refine ⟨fun sl H' => (∃ o8 o9, sl = [some (.ref pt), some (.ref a), some (.str (rtx p)), some (.int m), some (.str (itx p.1)), some (.str (itx p.2)), some (.str (itx (p.2 + 1))), some (.ref L), o8, o9, none, none, none, none]) ∧ RS H H' L 19, ?_, ?_⟩
    · have z0 : ("0" : Str).length = 1 := rfl
      refine ⟨_, rfl, "0", itx p.2, rfl, rfl, by rw [z0, sizeLine_eq]; omega, (by show 4 ≤ sizeLine; rw [sizeLine_eq]; decide), fun LL nLL => ?_⟩
      have eL : Ex H3 (upd H3 LL (.lst ((["", "1", "0", "0" ++ itx p.2] : List Str).map V.str))) := Ex.new nLL
      have hL : upd H3 LL (.lst ((["", "1", "0", "0" ++ itx p.2] : List Str).map V.str)) LL = some (.lst ((["", "1", "0", "0" ++ itx p.2] : List Str).map V.str)) := upd_same
      have nLs : LL ≠ L := fun e => by obtain ⟨w, ws, h, _⟩ := r3.rows; rw [← e, nLL] at h; cases h
      refine ⟨LL, rfl, ⟨_, SqL.of hL⟩, for_list (K := K) (a := LL) (xs := (["", "1", "0", "0" ++ itx p.2] : List Str).map V.str) (fun i sl H' => (∃ o8 o9, sl = [some (.ref pt), some (.ref a), some (.str (rtx p)), some (.int m), some (.str (itx p.1)), some (.str (itx p.2)), some (.str (itx (p.2 + 1))), some (.ref L), o8, o9, none, none, none, none]) ∧ RS H H' L (15 + i) ∧ H' LL = some (.lst ((["", "1", "0", "0" ++ itx p.2] : List Str).map V.str))) ⟨⟨_, _, rfl⟩, r3.to eL, hL⟩ (fun i sl H' _ q => SqL.of q.2.2) (fun i v sl H' hv q => ?_) (fun sl H' q => ⟨q.1, q.2.1⟩)⟩
      obtain ⟨⟨o8, o9, rfl⟩, rr, hLL⟩ := q
      obtain ⟨x, hx, rfl⟩ : ∃ x, x ∈ (["", "1", "0", "0" ++ itx p.2] : List Str) ∧ v = V.str x := by
        rw [List.getElem?_map] at hv
        obtain ⟨x, h1, h2⟩ := Option.map_eq_some_iff.mp hv
        exact ⟨x, List.mem_of_getElem? h1, h2.symm⟩
      have hi : i < 4 := by
        have := (List.getElem?_eq_some_iff.mp hv).1
        simpa using this
      obtain ⟨lx, bx⟩ := bads3 lf x hx
      refine ⟨_, rfl, rr.ty, _, rfl, itx p.1, "/", rfl, rfl, by rw [l3, sizeLine_eq]; omega, _, rfl, _, x, rfl, rfl, by rw [Str.length_append, l3, sizeLine_eq]; omega, ?_⟩
      dsimp only [tNil]
      refine rd_app rr (by omega) bx fun H2 r2 k2 => ?_
      exact ⟨⟨_, _, rfl⟩, r2, by rw [k2 _ nLs]; exact hLL⟩
    rintro sl H4 ⟨⟨o8, o9, rfl⟩, r4⟩
    refine ⟨fun sl H' => (∃ o8 o9 o10, sl = [some (.ref pt), some (.ref a), some (.str (rtx p)), some (.int m), some (.str (itx p.1)), some (.str (itx p.2)), some (.str (itx (p.2 + 1))), some (.ref L), o8, o9, o10, none, none, none]) ∧ RS H H' L 25, ?_, ?_⟩
    · refine ⟨_, rfl, "/", itx p.2, rfl, rfl, by rw [l3, sizeLine_eq]; omega, _, "/", rfl, rfl, by rw [Str.length_append, l3, sizeLine_eq]; omega, (by show 6 ≤ sizeLine; rw [sizeLine_eq]; decide), fun LL nLL => ?_⟩
      have eL : Ex H4 (upd H4 LL (.lst ((["/-", "/+", "//", "/ ", " /", "/" ++ itx p.2 ++ "/"] : List Str).map V.str))) := Ex.new nLL
      have hL : upd H4 LL (.lst ((["/-", "/+", "//", "/ ", " /", "/" ++ itx p.2 ++ "/"] : List Str).map V.str)) LL = some (.lst ((["/-", "/+", "//", "/ ", " /", "/" ++ itx p.2 ++ "/"] : List Str).map V.str)) := upd_same
      have nLs : LL ≠ L := fun e => by obtain ⟨w, ws, h, _⟩ := r4.rows; rw [← e, nLL] at h; cases h
      refine ⟨LL, rfl, ⟨_, SqL.of hL⟩, for_list (K := K) (a := LL) (xs := (["/-", "/+", "//", "/ ", " /", "/" ++ itx p.2 ++ "/"] : List Str).map V.str) (fun i sl H' => (∃ o8 o9 o10, sl = [some (.ref pt), some (.ref a), some (.str (rtx p)), some (.int m), some (.str (itx p.1)), some (.str (itx p.2)), some (.str (itx (p.2 + 1))), some (.ref L), o8, o9, o10, none, none, none]) ∧ RS H H' L (19 + i) ∧ H' LL = some (.lst ((["/-", "/+", "//", "/ ", " /", "/" ++ itx p.2 ++ "/"] : List Str).map V.str))) ⟨⟨_, _, _, rfl⟩, r4.to eL, hL⟩ (fun i sl H' _ q => SqL.of q.2.2) (fun i v sl H' hv q => ?_) (fun sl H' q => ⟨q.1, q.2.1⟩)⟩
      obtain ⟨⟨o8, o9, o10, rfl⟩, rr, hLL⟩ := q
      obtain ⟨x, hx, rfl⟩ : ∃ x, x ∈ (["/-", "/+", "//", "/ ", " /", "/" ++ itx p.2 ++ "/"] : List Str) ∧ v = V.str x := by
        rw [List.getElem?_map] at hv
        obtain ⟨x, h1, h2⟩ := Option.map_eq_some_iff.mp hv
        exact ⟨x, List.mem_of_getElem? h1, h2.symm⟩
      have hi : i < 6 := by
        have := (List.getElem?_eq_some_iff.mp hv).1
        simpa using this
      obtain ⟨lx, bx⟩ := bads4 lf x hx
      refine ⟨_, rfl, rr.ty, _, rfl, _, rfl, itx p.1, x, rfl, rfl, by rw [sizeLine_eq]; omega, _, rfl, _, itx (p.2 + 1), rfl, rfl, by rw [Str.length_append, sizeLine_eq]; omega, ?_⟩
      dsimp only [tNil]
      refine rd_app rr (by omega) bx fun H2 r2 k2 => ?_
      exact ⟨⟨_, _, _, rfl⟩, r2, by rw [k2 _ nLs]; exact hLL⟩
    rintro sl H5 ⟨⟨o8, o9, o10, rfl⟩, r5⟩
    refine ⟨fun sl H' => sl = [some (.ref pt), some (.ref a), some (.str (rtx p)), some (.int m), some (.str (itx p.1)), some (.str (itx p.2)), some (.str (itx (p.2 + 1))), some (.ref L), o8, o9, o10, none, none, none] ∧ RS H H' L 26, ?_, ?_⟩
    · refine ⟨_, rfl, r5.ty, _, rfl, itx p.1, "/", rfl, rfl, by rw [l3, sizeLine_eq]; omega, _, rfl, _, itx p.2, rfl, rfl, by rw [Str.length_append, l3, sizeLine_eq]; omega, _, "/", rfl, rfl, by rw [Str.length_append, Str.length_append, l3, sizeLine_eq]; omega, ?_⟩
      dsimp only [tNil]
      refine rd_app r5 (by decide) (bad5 lf) fun H2 r2 k2 => ?_
      exact ⟨rfl, r2⟩
    rintro sl H6 ⟨rfl, r6⟩
    obtain ⟨l5, l6, b6⟩ := bad6 lf m2 m1
    have hp6 := hp.ex r6.ex
    refine ⟨fun sl H' => sl = [some (.ref pt), some (.ref a), some (.str (rtx p)), some (.int m), some (.str (itx p.1)), some (.str (itx p.2)), some (.str (itx (p.2 + 1))), some (.ref L), o8, o9, o10, none, none, none] ∧ RS H H' L 27, ?_, ?_⟩
    · have bm : Bd 10 m := Nat.lt_trans (show m.natAbs < 200 by omega) (by decide)
      have w1 : CMulW p.1 m := Bd.w (n := 3400) (Nat.lt_trans lf.t (by decide +kernel)) bm
      have w2 : CMulW p.2 m := Bd.w (n := 3400) (Nat.lt_trans lf.b (by decide +kernel)) bm
      have x1 : (p.1 * m).natAbs < 10 ^ 4300 := pow4300 (big_times lf.t (by omega) m1)
      have x2 : (p.2 * m).natAbs < 10 ^ 4300 := pow4300 (big_times lf.b (by omega) m1)
      refine ⟨_, rfl, r6.ty, _, rfl, _, _, _, _, rfl, rfl, SqT.of (hp6), rfl, _, rfl, _, _, rfl, rfl, w1, _, rfl, x1, _, "/", rfl, rfl, by show (itx (p.1 * m)).length + _ ≤ _; rw [l3, sizeLine_eq]; omega, _, rfl, _, _, _, _, rfl, rfl, SqT.of (hp6), rfl, _, rfl, _, _, rfl, rfl, w2, _, rfl, x2, _, _, rfl, rfl, by show (itx (p.1 * m) ++ "/").length + (itx (p.2 * m)).length ≤ _; rw [Str.length_append, l3, sizeLine_eq]; omega, ?_⟩
      dsimp only [tNil]
      refine rd_app r6 (by decide) b6 fun H2 r2 k2 => ?_
      exact ⟨rfl, r2⟩
    rintro sl H7 ⟨rfl, r7⟩
    have lA : sgA.length = 52 := by decide +kernel
    have lZ : sgZ.length < 100 := by decide +kernel
    have lU : ("_. +,e" : Str).length = 6 := by decide +kernel
    refine ⟨_, rfl, "_. +,e", sgA, rfl, rfl, by rw [lU, lA, sizeLine_eq]; decide, _, sgZ, rfl, rfl, by rw [Str.length_append, lU, lA, sizeLine_eq]; omega, ?_⟩
    refine ⟨fun sl H' => ∃ c : Nat, sl = [some (.ref pt), some (.ref a), some (.str (rtx p)), some (.int m), some (.str (itx p.1)), some (.str (itx p.2)), some (.str (itx (p.2 + 1))), some (.ref L), o8, o9, o10, some (.str sgS), some (.str ⟨#[c]⟩), none] ∧ ¬ (c = 45 ∨ (47 ≤ c ∧ c ≤ 57)) ∧ RK pt H H' L 27, ?_, ?_⟩
    · refine ⟨_, rfl, _, rfl, _, rfl, _, _, rfl, ⟨by show sgS.length ≤ _; rw [sizeLine_eq]; have := sgS_len.1; omega, rfl⟩, pt, ((sgS.length : Nat) : Int), rfl, pot.ex r7.ex, by have := sgS_len.2; omega, bd_small (by have := sgS_len.1; omega), fun d H8 d0 d1 p8 k8 => ?_⟩
      obtain ⟨j, rfl⟩ : ∃ j : Nat, d = (j : Int) := ⟨d.toNat, by omega⟩
      have hj : j < sgS.cps.toList.length := by show j < (TL.tl sgS).length; rw [← TL.len_tl]; omega
      exact ⟨sgS, _, _, rfl, rfl, by rw [sizeLine_eq]; have := sgS_len.1; omega, atI_nat (List.getElem?_eq_getElem hj), _, rfl, sgS_ok _ (List.getElem_mem hj), (r7.rk pot).digit p8 k8⟩
    rintro sl H8 ⟨c, rfl, hc, r8⟩
    refine ⟨fun sl H' => ∃ d : Nat, sl = [some (.ref pt), some (.ref a), some (.str (rtx p)), some (.int m), some (.str (itx p.1)), some (.str (itx p.2)), some (.str (itx (p.2 + 1))), some (.ref L), o8, o9, o10, some (.str sgS), some (.str ⟨#[c]⟩), some (.int (d : Int))] ∧ d ≤ (rtx p).length ∧ RK pt H H' L 27, ?_, ?_⟩
    · refine ⟨_, rfl, _, rfl, _, _, rfl, ⟨by rw [sizeLine_eq]; omega, rfl⟩, _, _, rfl, rfl, pt, _, rfl, r8.pot, by omega, bd_small (by omega), fun d H9 d0 d1 p9 k9 => ⟨d.toNat, ?_, by omega, r8.digit p9 k9⟩⟩
      rw [show ((d.toNat : Nat) : Int) = d by omega]
      rfl
    rintro sl H9 ⟨d, rfl, hd, r9⟩
    have lt1 : (cutS (rtx p) none (some (d : Int))).length ≤ 2000 := by rw [TL.len_tl, tl_to hd, List.length_take, ← TL.len_tl]; omega
    have lt2 : (cutS (rtx p) (some (d : Int)) none).length ≤ 2000 := by rw [TL.len_tl, tl_from hd, List.length_drop, ← TL.len_tl]; omega
    have lc : (⟨#[c]⟩ : Str).length = 1 := rfl
    refine ⟨fun sl H' => sl = [some (.ref pt), some (.ref a), some (.str (rtx p)), some (.int m), some (.str (itx p.1)), some (.str (itx p.2)), some (.str (itx (p.2 + 1))), some (.ref L), o8, o9, o10, some (.str sgS), some (.str ⟨#[c]⟩), some (.int (d : Int))] ∧ RK pt H H' L 28, ?_, ?_⟩
    · refine ⟨_, rfl, r9.ty, _, rfl, _, rfl, _, rfl, rtx p, rfl, by rw [sizeLine_eq]; omega, _, rfl, _, _, rfl, rfl, by rw [lc, sizeLine_eq]; omega, _, rfl, _, rfl, _, rfl, rtx p, rfl, by rw [sizeLine_eq]; omega, _, _, rfl, rfl, by rw [Str.length_append, lc, sizeLine_eq]; omega, ?_⟩
      dsimp only [tNil]
      refine rd_appK r9 (by decide) (bad7 lf hc hd) fun H2 r2 => ?_
      exact ⟨rfl, r2⟩
    rintro sl H10 ⟨rfl, r10⟩
    have lz0 := (len_rtx lf).2
    refine ⟨fun sl H' => ∃ d : Nat, sl = [some (.ref pt), some (.ref a), some (.str (rtx p)), some (.int m), some (.str (itx p.1)), some (.str (itx p.2)), some (.str (itx (p.2 + 1))), some (.ref L), o8, o9, o10, some (.str sgS), some (.str ⟨#[c]⟩), some (.int (d : Int))] ∧ 0 < d ∧ d ≤ (rtx p).length ∧ RK pt H H' L 28, ?_, ?_⟩
    · refine ⟨_, rfl, _, rfl, _, _, rfl, ⟨by rw [sizeLine_eq]; omega, rfl⟩, pt, _, rfl, r10.pot, by omega, bd_small (by omega), fun d H9 d0 d1 p9 k9 => ⟨_, _, rfl, rfl, d.toNat + 1, ?_, by omega, by omega, r10.digit p9 k9⟩⟩
      rw [show ((d.toNat + 1 : Nat) : Int) = 1 + d by omega]
      rfl
    clear hd lt1 lt2
    rintro sl H11 ⟨e, rfl, e0, he, r11⟩
    have lt1 : (cutS (rtx p) none (some (e : Int))).length ≤ 2000 := by rw [TL.len_tl, tl_to he, List.length_take, ← TL.len_tl]; omega
    have lt2 : (cutS (rtx p) (some (e : Int)) none).length ≤ 2000 := by rw [TL.len_tl, tl_from he, List.length_drop, ← TL.len_tl]; omega
    have lm : ("-" : Str).length = 1 := rfl
    refine ⟨fun sl H' => sl = [some (.ref pt), some (.ref a), some (.str (rtx p)), some (.int m), some (.str (itx p.1)), some (.str (itx p.2)), some (.str (itx (p.2 + 1))), some (.ref L), o8, o9, o10, some (.str sgS), some (.str ⟨#[c]⟩), some (.int (e : Int))] ∧ RK pt H H' L 29, ?_, ?_⟩
    · refine ⟨_, rfl, r11.ty, _, rfl, _, rfl, _, rfl, rtx p, rfl, by rw [sizeLine_eq]; omega, _, "-", rfl, rfl, by rw [lm, sizeLine_eq]; omega, _, rfl, _, rfl, _, rfl, rtx p, rfl, by rw [sizeLine_eq]; omega, _, _, rfl, rfl, by rw [Str.length_append, lm, sizeLine_eq]; omega, ?_⟩
      dsimp only [tNil]
      refine rd_appK r11 (by decide) (bad8 lf e0 he) fun H2 r2 => ?_
      exact ⟨rfl, r2⟩
    rintro sl H12 ⟨rfl, r12⟩
    obtain ⟨w, ws, h1, h2, h3⟩ := r12.rows
    exact ⟨_, rfl, k L H12 (w :: ws) h1 h2 (by omega) r12.pot r12.keep r12.new⟩
end
end Fc
set_option Elab.async false
set_option linter.all false
set_option maxRecDepth 100000
set_option maxHeartbeats 4000000
set_option exponentiation.threshold 100000
namespace Fc
open PySem PySem.Spec PyProof.Rows L2 L2H
section
variable {P : Program} {w : World} {K : PySem.W.Frag} {mg : Str → Option Value} {base : Heap} {A : Ad}
/-- a text of a repeated digit: the number's own -/
theorem rep_int {c k : Nat} (h : 49 ≤ c) (g : c ≤ 57) (hk : k < 2000) {z : Str} (e : TL.tl z = List.replicate (k + 1) c) :
    ∃ v : Nat, 1 ≤ v ∧ intText? z = some (v : Int) ∧ TL.numL v = List.replicate (k + 1) c := by
  obtain ⟨h1, h2⟩ := rep_own h g k
  refine ⟨_, h2, ?_, h1⟩
  rw [← e]
  refine intText_digits (x := z) ?_ ?_ ?_
  · intro x hx
    have hx' : x ∈ TL.tl z := hx
    rw [e] at hx'
    have := List.eq_of_mem_replicate hx'
    omega
  · show TL.tl z ≠ []
    rw [e]
    exact fun z => by cases z
  · rw [TL.len_tl, e, List.length_replicate]; omega
theorem long_bad {z : Str} (h : z.length = 2001) : Bad z := ⟨by omega, fun _ _ _ => by omega⟩
def spBounds : Sp := fun vs H Q _ => ∃ c : Nat, vs = [.str ⟨#[c]⟩] ∧ 49 ≤ c ∧ c ≤ 57 ∧ ∀ H', Ex H H' → Q (.bl true) H'
theorem ok_bounds (T : Txt K mg A) : FnOk P w K mg base CX0 5 A.f_bounds A.d_bounds ["sign"] spBounds := by
  refine T.F_bounds.ok sc_bounds (fun vs H Q E h => ?_) (fun cdv Ar outer s H vs Q E hr h => ?_)
  · obtain ⟨c, rfl, _⟩ := h
    rfl
  · obtain ⟨c, rfl, c1, c2, k⟩ := h
    refine ⟨_, (C8.pss_cut (ps_set (i := 1) sc_bounds.nd rfl (Or.inl rfl) (pe_op op_mulS (pv 0) pe_int))
      (C8.pss_cut (ps_if (pt_not (pt_val (pe_call (ok_reads T) (hr.mono (by decide)) rfl T.g_reads T.F_reads.kp T.b_reads .nil pass0 (pa_cons (pv 1) (pa_cons (pe_tup (pa_cons (pe_callTy (call_intB T.nd) (by rfl) T.n_int (by decide +kernel) (pa_cons (pv 1) pa_nil)) (pa_cons pe_int pa_nil))) pa_nil)))))
      (pss_one (ps_ret pe_bl)) pss_nil)
      (C8.pss_cut (ps_if (pt_not (pt_val (pe_call (ok_reads T) (hr.mono (by decide)) rfl T.g_reads T.F_reads.kp T.b_reads .nil pass0 (pa_cons (pe_op op_add_str pe_str (pe_slice sl_str (pv 1) (po_some pe_int) po_none)) (pa_cons (pe_tup (pa_cons (pe_un un_neg (pe_callTy (call_intB T.nd) (by rfl) T.n_int (by decide +kernel) (pa_cons (pe_slice sl_str (pv 1) (po_some pe_int) po_none) pa_nil))) (pa_cons pe_int pa_nil))) pa_nil)))))
      (pss_one (ps_ret pe_bl)) pss_nil)
      (C8.pss_cut (ps_if (pt_not (pt_val (pe_call (ok_reads T) (hr.mono (by decide)) rfl T.g_reads T.F_reads.kp T.b_reads .nil pass0 (pa_cons (pe_op op_add_str pe_str (pe_slice sl_str (pv 1) (po_some pe_int) po_none)) (pa_cons (pe_tup (pa_cons pe_int (pa_cons (pe_callTy (call_intB T.nd) (by rfl) T.n_int (by decide +kernel) (pa_cons (pe_slice sl_str (pv 1) (po_some pe_int) po_none) pa_nil)) pa_nil))) pa_nil)))))
      (pss_one (ps_ret pe_bl)) pss_nil)
      (C8.pss_cut (ps_for PassesOwn.never rfl (pi_list (pe_lst (pa_cons (pe_op op_add_str (pv 1) (pv 0)) (pa_cons (pe_op op_add_str pe_str (pv 1)) (pa_cons (pe_op op_add_str pe_str (pe_slice sl_str (pv 1) (po_some pe_int) po_none)) (pa_cons (pe_op op_add_str pe_str (pe_slice sl_str (pv 1) (po_some pe_int) po_none)) pa_nil)))))) (pg_name (i := 2) sc_bounds.nd rfl (Or.inl rfl))
      (pss_one (ps_if (pt_not (pt_val (pe_call (ok_refuses T) (hr.mono (by decide)) rfl T.g_refuses T.F_refuses.kp T.b_refuses .nil pass0 (pa_cons (pv 2) pa_nil))))
      (pss_one (ps_ret pe_bl)) pss_nil)))
      (pss_one (ps_ret pe_bl))))))), ?_⟩
    have tW : TL.tl (Txt.mul ⟨#[c]⟩ 2000) = List.replicate 2000 c := tl_mul1 (z := ⟨#[c]⟩) (n := 2000) (by decide) rfl
    have lW : (Txt.mul ⟨#[c]⟩ 2000).length = 2000 := by rw [TL.len_tl, tW, List.length_replicate]
    refine ⟨fun sl H' => sl = [some (.str ⟨#[c]⟩), some (.str (Txt.mul ⟨#[c]⟩ 2000)), none] ∧ H' = H, ?_, ?_⟩
    · exact ⟨_, rfl, ⟨#[c]⟩, 2000, rfl, rfl, by show 1 ≤ 1000; decide, by decide, by decide, rfl, rfl⟩
    rintro sl H' ⟨rfl, rfl⟩
    generalize hW : Txt.mul ⟨#[c]⟩ 2000 = W at tW lW ⊢
    have t1 : TL.tl (cutS W (some 1) none) = List.replicate 1999 c := by
      have := tl_from (z := W) (n := 1) (by omega)
      rw [tW, List.drop_replicate] at this
      exact this
    have t2 : TL.tl (cutS W (some 2) none) = List.replicate 1998 c := by
      have := tl_from (z := W) (n := 2) (by omega)
      rw [tW, List.drop_replicate] at this
      exact this
    have ln1 : (cutS W (some 1) none).length = 1999 := by rw [TL.len_tl, t1, List.length_replicate]
    have ln2 : (cutS W (some 2) none).length = 1998 := by rw [TL.len_tl, t2, List.length_replicate]
    have m1 : ("-" : Str).length = 1 := rfl
    have m2 : ("1/" : Str).length = 2 := by decide
    have m3 : ("-1/" : Str).length = 3 := by decide
    have lc : (⟨#[c]⟩ : Str).length = 1 := rfl
    obtain ⟨v0, p0, i0, n0⟩ := rep_int c1 c2 (k := 1999) (by decide) tW
    obtain ⟨v1, p1, i1, n1⟩ := rep_int c1 c2 (k := 1998) (by decide) t1
    obtain ⟨v2, p2, i2, n2⟩ := rep_int c1 c2 (k := 1997) (by decide) t2
    have e0 : rtx ((v0 : Int), 1) = W := TL.ext_tl (by rw [tl_rtx, rtL_one rfl, itL_nat (by omega), tW]; exact n0)
    have e1 : rtx (-(v1 : Int), 1) = "-" ++ cutS W (some 1) none := TL.ext_tl (by
      rw [tl_rtx, rtL_one rfl, itL_neg (by show -(v1 : Int) < 0; omega), TL.tl_append, t1]
      show 45 :: TL.numL (-(v1 : Int)).natAbs = [45] ++ _
      rw [Int.natAbs_neg, Int.natAbs_natCast, n1]; rfl)
    have v21 : (v2 : Int) ≠ 1 := fun z => by
      have : v2 = 1 := by omega
      rw [this, TL.numL_lt (by decide)] at n2
      have := congrArg List.length n2
      rw [List.length_replicate] at this
      exact absurd this (by decide)
    have e2 : rtx (1, (v2 : Int)) = "1/" ++ cutS W (some 2) none := TL.ext_tl (by
      rw [tl_rtx, rtL_two v21, itL_nat (i := (v2 : Int)) (by omega), TL.tl_append, t2]
      show itL 1 ++ 47 :: TL.numL (v2 : Int).natAbs = _
      rw [Int.natAbs_natCast, n2]
      rfl)
    have st : ∀ {H1}, Ex H' H1 → True := fun _ => trivial
    refine ⟨fun sl H1 => sl = [some (.str ⟨#[c]⟩), some (.str W), none] ∧ Ex H' H1, ?_, ?_⟩
    · refine ⟨_, rfl, _, rfl, W, (v0 : Int), rfl, i0, by omega, (by show 2 ≤ sizeLine; exact sz2), fun t ht => ⟨W, t, ((v0 : Int), 1), rfl, upd_same, ⟨by show (0 : Int) < 1; decide, by show Int.gcd _ 1 = 1; simp⟩, e0, by omega, fun H1 e => ⟨true, rfl, iteF ⟨rfl, (Ex.new ht).trans e⟩⟩⟩⟩
    rintro sl H1 ⟨rfl, x1⟩
    refine ⟨fun sl H2 => sl = [some (.str ⟨#[c]⟩), some (.str W), none] ∧ Ex H' H2, ?_, ?_⟩
    · refine ⟨_, rfl, _, rfl, W, rfl, by rw [sizeLine_eq]; omega, "-", _, rfl, rfl, by rw [m1, sizeLine_eq]; omega, _, rfl, _, rfl, W, rfl, by rw [sizeLine_eq]; omega, _, (v1 : Int), rfl, i1, by omega, _, rfl, (by show 2 ≤ sizeLine; exact sz2), fun t ht => ⟨_, t, (-(v1 : Int), 1), rfl, upd_same, ⟨by show (0 : Int) < 1; decide, by show Int.gcd _ 1 = 1; simp⟩, e1, by rw [Str.length_append]; omega, fun H2 e => ⟨true, rfl, iteF ⟨rfl, (x1.trans (Ex.new ht)).trans e⟩⟩⟩⟩
    rintro sl H2 ⟨rfl, x2⟩
    refine ⟨fun sl H3 => sl = [some (.str ⟨#[c]⟩), some (.str W), none] ∧ Ex H' H3, ?_, ?_⟩
    · refine ⟨_, rfl, _, rfl, W, rfl, by rw [sizeLine_eq]; omega, "1/", _, rfl, rfl, by rw [m2, sizeLine_eq]; omega, _, rfl, _, rfl, W, rfl, by rw [sizeLine_eq]; omega, _, (v2 : Int), rfl, i2, by omega, (by show 2 ≤ sizeLine; exact sz2), fun t ht => ⟨_, t, (1, (v2 : Int)), rfl, upd_same, ⟨by show 0 < (v2 : Int); omega, by show Int.gcd 1 _ = 1; simp⟩, e2, by rw [Str.length_append]; omega, fun H3 e => ⟨true, rfl, iteF ⟨rfl, (x2.trans (Ex.new ht)).trans e⟩⟩⟩⟩
    rintro sl H3 ⟨rfl, x3⟩
    have hb : ∀ x ∈ ([W ++ ⟨#[c]⟩, "-" ++ W, "1/" ++ cutS W (some 1) none, "-1/" ++ cutS W (some 2) none] : List Str), Bad x := by
      intro x hx
      simp only [List.mem_cons, List.not_mem_nil, or_false] at hx
      rcases hx with rfl | rfl | rfl | rfl
      all_goals (refine long_bad ?_; rw [Str.length_append]; omega)
    refine ⟨fun sl H4 => (∃ o, sl = [some (.str ⟨#[c]⟩), some (.str W), o]) ∧ Ex H' H4, ?_, ?_⟩
    · refine ⟨_, rfl, _, rfl, W, ⟨#[c]⟩, rfl, rfl, by rw [lc, sizeLine_eq]; omega, _, rfl, "-", W, rfl, rfl, by rw [m1, sizeLine_eq]; omega, _, rfl, _, rfl, W, rfl, by rw [sizeLine_eq]; omega, "1/", _, rfl, rfl, by rw [m2, sizeLine_eq]; omega, _, rfl, _, rfl, W, rfl, by rw [sizeLine_eq]; omega, "-1/", _, rfl, rfl, by rw [m3, sizeLine_eq]; omega, (by show 4 ≤ sizeLine; rw [sizeLine_eq]; decide), fun L nL => ?_⟩
      have hL : upd H3 L (.lst (([W ++ ⟨#[c]⟩, "-" ++ W, "1/" ++ cutS W (some 1) none, "-1/" ++ cutS W (some 2) none] : List Str).map V.str)) L = some (.lst (([W ++ ⟨#[c]⟩, "-" ++ W, "1/" ++ cutS W (some 1) none, "-1/" ++ cutS W (some 2) none] : List Str).map V.str)) := upd_same
      have eL : Ex H3 (upd H3 L (.lst (([W ++ ⟨#[c]⟩, "-" ++ W, "1/" ++ cutS W (some 1) none, "-1/" ++ cutS W (some 2) none] : List Str).map V.str))) := Ex.new nL
      refine ⟨L, rfl, ⟨_, SqL.of hL⟩, ?_⟩
      refine for_list (K := K) (a := L) (xs := ([W ++ ⟨#[c]⟩, "-" ++ W, "1/" ++ cutS W (some 1) none, "-1/" ++ cutS W (some 2) none] : List Str).map V.str) (fun i sl H5 => (∃ o, sl = [some (.str ⟨#[c]⟩), some (.str W), o]) ∧ Ex (upd H3 L (.lst (([W ++ ⟨#[c]⟩, "-" ++ W, "1/" ++ cutS W (some 1) none, "-1/" ++ cutS W (some 2) none] : List Str).map V.str))) H5) ⟨⟨_, rfl⟩, fun _ _ h => h⟩ (fun i sl H5 _ q => SqL.of (q.2 _ _ hL)) (fun i v sl H5 hv q => ?_) (fun sl H5 q => ⟨q.1, (x3.trans eL).trans q.2⟩)
      obtain ⟨⟨o, rfl⟩, ex⟩ := q
      obtain ⟨x, hx, rfl⟩ : ∃ x, x ∈ ([W ++ ⟨#[c]⟩, "-" ++ W, "1/" ++ cutS W (some 1) none, "-1/" ++ cutS W (some 2) none] : List Str) ∧ v = V.str x := by
        rw [List.getElem?_map] at hv
        obtain ⟨x, h1, h2⟩ := Option.map_eq_some_iff.mp hv
        exact ⟨x, List.mem_of_getElem? h1, h2.symm⟩
      exact ⟨_, rfl, x, rfl, (hb x hx).1, (hb x hx).2, fun H6 e6 => ⟨true, rfl, iteF ⟨⟨_, rfl⟩, ex.trans e6⟩⟩⟩
    rintro sl H4 ⟨⟨o, rfl⟩, x4⟩
    exact k H4 x4
end
end Fc
set_option Elab.async false
set_option linter.all false
set_option maxRecDepth 100000
set_option maxHeartbeats 4000000
set_option exponentiation.threshold 100000
namespace Fc
open PySem PySem.Spec PyProof.Rows L2 L2H
section
variable {P : Program} {w : World} {K : PySem.W.Frag} {mg : Str → Option Value} {base : Heap} {A : Ad}
theorem lf_bd {p : Int × Int} (h : LF p) : Bd 3400 p.1 ∧ Bd 3400 p.2 := ⟨Nat.lt_trans h.t (by decide +kernel), Nat.lt_trans h.b (by decide +kernel)⟩
theorem wl_int (n : Int) : Wl (n, 1) := ⟨by show (0 : Int) < 1; decide, by show Int.gcd n 1 = 1; simp⟩
theorem rtx_int (n : Int) : rtx (n, 1) = itx n := if_pos rfl
theorem ok_law (T : Txt K mg A) : FnOk P w K mg base CX0 9 A.f_law A.d_law ["script"] (spLaw K) := by
  refine T.F_law.ok sc_law (fun vs H Q E h => ?_) (fun cdv Ar outer s H vs Q E hr h => ?_)
  · obtain ⟨a, ns, rfl, _⟩ := h
    rfl
  · obtain ⟨a0, ns, rfl, hS, hlen, k⟩ := h
    refine ⟨_, (C8.pss_cut (ps_set (i := 1) sc_law.nd rfl (Or.inl rfl) (pe_call (ok_start T) (hr.mono (by decide)) rfl T.g_start T.F_start.kp T.b_start .nil pass0 (pa_cons (pv 0) pa_nil)))
      (C8.pss_cut (ps_set (i := 2) sc_law.nd rfl (Or.inl rfl) (pe_call (ok_fraction T) (hr.mono (by decide)) rfl T.g_fraction T.F_fraction.kp T.b_fraction .nil pass0 (pa_cons (pv 1) pa_nil)))
      (C8.pss_cut (ps_set (i := 3) sc_law.nd rfl (Or.inl rfl) (pe_op op_add pe_int (pe_call (ok_digit T) (hr.mono (by decide)) rfl T.g_digit T.F_digit.kp T.b_digit .nil pass0 (pa_cons (pv 1) (pa_cons pe_int pa_nil)))))
      (C8.pss_cut (ps_set (i := 4) sc_law.nd rfl (Or.inl rfl) (pe_call (ok_written T) (hr.mono (by decide)) rfl T.g_written T.F_written.kp T.b_written .nil pass0 (pa_cons (pv 2) pa_nil)))
      (C8.pss_cut (ps_if (pt_cmpR op_ne (pe_meth0 (pe_make T.mkC (ok_init T) (hr.mono (by decide)) rfl T.g_Ratio T.b_init3 .nil passL (pa_cons (pe_ix ix_tup (pv 2) pe_int (fun _ _ => rfl)) (pa_cons (pe_ix ix_tup (pv 2) pe_int (fun _ _ => rfl)) pa_nil))) T.cl T.m_rtext (ok_rtext T) (hr.mono (by decide)) T.b_rtext .nil pass0) (pv 4) (nomark _))
      (pss_one (ps_ret pe_bl)) pss_nil)
      (C8.pss_cut (ps_if (pt_cmpR op_ne (pe_meth0 (pe_make T.mkC (ok_init T) (hr.mono (by decide)) rfl T.g_Ratio T.b_init3 .nil passL (pa_cons (pe_op op_mulW (pe_un un_neg (pe_ix ix_tup (pv 2) pe_int (fun _ _ => rfl))) (pv 3)) (pa_cons (pe_op op_mulW (pe_un un_neg (pe_ix ix_tup (pv 2) pe_int (fun _ _ => rfl))) (pv 3)) pa_nil))) T.cl T.m_rtext (ok_rtext T) (hr.mono (by decide)) T.b_rtext .nil pass0) (pv 4) (nomark _))
      (pss_one (ps_ret pe_bl)) pss_nil)
      (C8.pss_cut (ps_if (pt_not (pt_val (pe_call (ok_reads T) (hr.mono (by decide)) rfl T.g_reads T.F_reads.kp T.b_reads .nil pass0 (pa_cons (pv 4) (pa_cons (pv 2) pa_nil)))))
      (pss_one (ps_ret pe_bl)) pss_nil)
      (C8.pss_cut (ps_for PassesOwn.never rfl (pi_list (pe_call (ok_spoilt T) (hr.mono (by decide)) rfl T.g_spoilt T.F_spoilt.kp T.b_spoilt .nil pass0 (pa_cons (pv 1) (pa_cons (pv 2) (pa_cons (pv 4) (pa_cons (pv 3) pa_nil)))))) (pg_name (i := 5) sc_law.nd rfl (Or.inl rfl))
      (pss_one (ps_if (pt_not (pt_val (pe_call (ok_refuses T) (hr.mono (by decide)) rfl T.g_refuses T.F_refuses.kp T.b_refuses .nil pass0 (pa_cons (pv 5) pa_nil))))
      (pss_one (ps_ret pe_bl)) pss_nil)))
      (C8.pss_cut (ps_if (pt_not (pt_val (pe_call (ok_bounds T) (hr.mono (by decide)) rfl T.g_bounds T.F_bounds.kp T.b_bounds .nil pass0 (pa_cons (pe_ix ix_str pe_str (pe_call (ok_digit T) (hr.mono (by decide)) rfl T.g_digit T.F_digit.kp T.b_digit .nil pass0 (pa_cons (pv 1) (pa_cons pe_int pa_nil))) (fun _ _ => rfl)) pa_nil))))
      (pss_one (ps_ret pe_bl)) pss_nil)
      (C8.pss_cut (ps_for PassesOwn.never rfl (pi_list (pe_lst (pa_cons pe_int (pa_cons pe_int (pa_cons (pe_un un_neg pe_int) (pa_cons pe_int (pa_cons (pe_un un_neg pe_int) pa_nil))))))) (pg_name (i := 6) sc_law.nd rfl (Or.inl rfl))
      (pss_one (ps_if (pt_not (pt_val (pe_call (ok_reads T) (hr.mono (by decide)) rfl T.g_reads T.F_reads.kp T.b_reads .nil pass0 (pa_cons (pe_callTy (call_strB hr.hd T.nd) (by rfl) T.n_str (by decide +kernel) (pa_cons (pv 6) pa_nil)) (pa_cons (pe_tup (pa_cons (pv 6) (pa_cons pe_int pa_nil))) pa_nil)))))
      (pss_one (ps_ret pe_bl)) pss_nil)))
      (pss_one (ps_ret (pe_and (pe_call (ok_reads T) (hr.mono (by decide)) rfl T.g_reads T.F_reads.kp T.b_reads .nil pass0 (pa_cons pe_str (pa_cons (pe_tup (pa_cons (pe_un un_neg pe_int) (pa_cons pe_int pa_nil))) pa_nil))) (pe_and (pe_call (ok_reads T) (hr.mono (by decide)) rfl T.g_reads T.F_reads.kp T.b_reads .nil pass0 (pa_cons pe_str (pa_cons (pe_tup (pa_cons pe_int (pa_cons pe_int pa_nil))) pa_nil))) (pe_one (pe_call (ok_reads T) (hr.mono (by decide)) rfl T.g_reads T.F_reads.kp T.b_reads .nil pass0 (pa_cons (pv 4) (pa_cons (pv 2) pa_nil)))))))))))))))))), ?_⟩
    refine ⟨fun sl H' => ∃ pt, sl = [some (.ref a0), some (.ref pt), none, none, none, none, none] ∧ PotAt H' pt, ?_, ?_⟩
    · exact ⟨_, rfl, a0, ns, rfl, hS, hlen, fun pt H1 pt1 e1 n1 => ⟨pt, rfl, pt1⟩⟩
    rintro sl H1 ⟨pt, rfl, pot1⟩
    refine ⟨fun sl H' => ∃ (a : Addr) (p : Int × Int), sl = [some (.ref a0), some (.ref pt), some (.ref a), none, none, none, none] ∧ PotAt H' pt ∧ Pr H' a p ∧ LF p, ?_, ?_⟩
    · exact ⟨_, rfl, pt, rfl, pot1, fun t q H' hq ht lf pot kp => ⟨t, q, rfl, pot, hq, lf⟩⟩
    rintro sl H2 ⟨a, p, rfl, pot2, hp2, lf⟩
    refine ⟨fun sl H' => ∃ m : Int, sl = [some (.ref a0), some (.ref pt), some (.ref a), some (.int m), none, none, none] ∧ PotAt H' pt ∧ Pr H' a p ∧ 2 ≤ m ∧ m < 100, ?_, ?_⟩
    · exact ⟨_, rfl, pt, 98, rfl, pot2, by decide, bd_of (by decide), fun d H' d0 d1 pot kp => ⟨_, _, rfl, rfl, 2 + d, rfl, pot, hp2.keep pot2 kp, by omega, by omega⟩⟩
    rintro sl H3 ⟨m, rfl, pot3, hp3, m2, m1⟩
    refine ⟨fun sl H' => sl = [some (.ref a0), some (.ref pt), some (.ref a), some (.int m), some (.str (rtx p)), none, none] ∧ H' = H3, ?_, ?_⟩
    · exact ⟨_, rfl, a, p, rfl, hp3, lf, rfl, rfl⟩
    rintro sl H4 ⟨rfl, rfl⟩
    obtain ⟨bt, bb⟩ := lf_bd lf
    have ep : lo p.1 p.2 = p := lo_self lf.w.1 lf.w.2
    have n2 : p.2 ≠ 0 := by have := lf.w.1; omega
    refine ⟨fun sl H' => sl = [some (.ref a0), some (.ref pt), some (.ref a), some (.int m), some (.str (rtx p)), none, none] ∧ Ex H4 H', ?_, ?_⟩
    · refine ⟨_, rfl, _, _, _, _, rfl, rfl, SqT.of (hp3), rfl, _, rfl, _, _, _, _, rfl, rfl, SqT.of (hp3), rfl, ?_⟩
      intro x dx nx nd _
      refine ⟨x, dx, _, _, rfl, upd_same, fun zz => absurd zz n2, fun _ => ⟨bb.mono (by decide), fun J rx kp => ⟨rfl, ?_⟩⟩⟩
      have ex : Ex H4 J := Same.made nx nd kp
      rw [ep] at rx
      obtain ⟨dj, ij⟩ := id rx
      refine ⟨x, dj, _, rfl, ij, np_text _, x, p, rfl, rx, bt.mono (by decide), bb.mono (by decide), _, rfl, rfl, _, rfl, ?_⟩
      rw [decide_eq_true rfl]
      exact iteF ⟨rfl, ex⟩
    rintro sl H5 ⟨rfl, x5⟩
    refine ⟨fun sl H' => sl = [some (.ref a0), some (.ref pt), some (.ref a), some (.int m), some (.str (rtx p)), none, none] ∧ Ex H4 H', ?_, ?_⟩
    · have bm : Bd 10 m := Nat.lt_trans (show m.natAbs < 200 by omega) (by decide)
      have hp5 := hp3.ex x5
      refine ⟨_, rfl, _, _, _, _, rfl, rfl, SqT.of (hp5), rfl, _, rfl, _, rfl, _, _, rfl, rfl, Bd.w (bt.neg) bm, _, rfl, _, _, _, _, rfl, rfl, SqT.of (hp5), rfl, _, rfl, _, rfl, _, _, rfl, rfl, Bd.w (bb.neg) bm, ?_⟩
      intro x dx nx nd _
      have nz : -p.2 * m ≠ 0 := Int.mul_ne_zero (by omega) (by omega)
      refine ⟨x, dx, _, _, rfl, upd_same, fun zz => absurd zz nz, fun _ => ⟨((bb.neg).mul bm).mono (by decide), fun J rx kp => ⟨rfl, ?_⟩⟩⟩
      have ex : Ex H5 J := Same.made nx nd kp
      have e2 : lo (-p.1 * m) (-p.2 * m) = p := by
        have := lo_mul (t := p.1) (b := p.2) (k := -m) n2 (by omega)
        rw [show -p.1 * m = p.1 * -m by rw [Int.neg_mul, Int.mul_neg], show -p.2 * m = p.2 * -m by rw [Int.neg_mul, Int.mul_neg], this, ep]
      rw [e2] at rx
      obtain ⟨dj, ij⟩ := id rx
      refine ⟨x, dj, _, rfl, ij, np_text _, x, p, rfl, rx, bt.mono (by decide), bb.mono (by decide), _, rfl, rfl, _, rfl, ?_⟩
      rw [decide_eq_true rfl]
      exact iteF ⟨rfl, x5.trans ex⟩
    rintro sl H6 ⟨rfl, x6⟩
    have lz := (len_rtx lf).1
    refine ⟨fun sl H' => sl = [some (.ref a0), some (.ref pt), some (.ref a), some (.int m), some (.str (rtx p)), none, none] ∧ Ex H4 H', ?_, ?_⟩
    · exact ⟨_, rfl, _, rfl, rtx p, a, p, rfl, hp3.ex x6, lf.w, rfl, lz, fun H' e => ⟨true, rfl, iteF ⟨rfl, x6.trans e⟩⟩⟩
    rintro sl H7 ⟨rfl, x7⟩
    have pot7 := pot3.ex x7
    have hp7 := hp3.ex x7
    -- the refused texts
    refine ⟨fun sl H' => (∃ o, sl = [some (.ref a0), some (.ref pt), some (.ref a), some (.int m), some (.str (rtx p)), o, none]) ∧ PotAt H' pt ∧ Pr H' a p, ?_, ?_⟩
    · refine ⟨_, rfl, _, rfl, _, rfl, _, rfl, pt, a, p, m, rfl, pot7, hp7, lf, m2, m1, fun L H8 ws hL hb hl p8 k8 nL => ⟨L, rfl, ⟨_, SqL.of hL⟩, ?_⟩⟩
      have hp8 := hp7.keep pot7 k8
      refine for_list (K := K) (a := L) (xs := ws.map V.str) (fun i sl H' => (∃ o, sl = [some (.ref a0), some (.ref pt), some (.ref a), some (.int m), some (.str (rtx p)), o, none]) ∧ Ex H8 H') ⟨⟨_, rfl⟩, fun _ _ h => h⟩ (fun i sl H' _ q => SqL.of (q.2 _ _ hL)) (fun i v sl H' hv q => ?_) (fun sl H' q => ⟨q.1, p8.ex q.2, hp8.ex q.2⟩)
      obtain ⟨⟨o, rfl⟩, ex⟩ := q
      obtain ⟨x, hx, rfl⟩ : ∃ x, x ∈ ws ∧ v = V.str x := by
        rw [List.getElem?_map] at hv
        obtain ⟨x, h1, h2⟩ := Option.map_eq_some_iff.mp hv
        exact ⟨x, List.mem_of_getElem? h1, h2.symm⟩
      exact ⟨_, rfl, x, rfl, (hb x hx).1, (hb x hx).2, fun H' e => ⟨true, rfl, iteF ⟨⟨_, rfl⟩, ex.trans e⟩⟩⟩
    rintro sl H8 ⟨⟨o, rfl⟩, pot8, hp8⟩
    -- the bounds
    refine ⟨fun sl H' => (∃ o, sl = [some (.ref a0), some (.ref pt), some (.ref a), some (.int m), some (.str (rtx p)), o, none]) ∧ Pr H' a p, ?_, ?_⟩
    · refine ⟨_, rfl, pt, 9, rfl, pot8, by decide, bd_of (by decide), fun d H9 d0 d1 p9 k9 => ?_⟩
      obtain ⟨j, rfl⟩ : ∃ j : Nat, d = (j : Int) := ⟨d.toNat, by omega⟩
      exact ⟨_, _, _, rfl, rfl, (by decide +kernel), atI_nat (nine j (by omega)), 49 + j, rfl, by omega, by omega, fun H' e => ⟨true, rfl, iteF ⟨⟨_, rfl⟩, (hp8.keep pot8 k9).ex e⟩⟩⟩
    rintro sl H9 ⟨⟨o, rfl⟩, hp9⟩
    -- small numbers
    refine ⟨fun sl H' => (∃ o o2, sl = [some (.ref a0), some (.ref pt), some (.ref a), some (.int m), some (.str (rtx p)), o, o2]) ∧ Pr H' a p, ?_, ?_⟩
    · refine ⟨_, rfl, _, rfl, (by show 5 ≤ sizeLine; rw [sizeLine_eq]; decide), fun L nL => ⟨L, rfl, ⟨_, SqL.of upd_same⟩, ?_⟩⟩
      have hL : upd H9 L (.lst (([0, 1, -1, 10, -205] : List Int).map V.int)) L = some (.lst (([0, 1, -1, 10, -205] : List Int).map V.int)) := upd_same
      refine for_list (K := K) (a := L) (xs := ([0, 1, -1, 10, -205] : List Int).map V.int) (fun i sl H' => (∃ o o2, sl = [some (.ref a0), some (.ref pt), some (.ref a), some (.int m), some (.str (rtx p)), o, o2]) ∧ Ex (upd H9 L (.lst (([0, 1, -1, 10, -205] : List Int).map V.int))) H') ⟨⟨_, _, rfl⟩, fun _ _ h => h⟩ (fun i sl H' _ q => SqL.of (q.2 _ _ hL)) (fun i v sl H' hv q => ?_) (fun sl H' q => ⟨q.1, (hp9.ex (Ex.new nL)).ex q.2⟩)
      obtain ⟨⟨o, o2, rfl⟩, ex⟩ := q
      obtain ⟨n, hn, rfl⟩ : ∃ n, n ∈ ([0, 1, -1, 10, -205] : List Int) ∧ v = V.int n := by
        rw [List.getElem?_map] at hv
        obtain ⟨x, h1, h2⟩ := Option.map_eq_some_iff.mp hv
        exact ⟨x, List.mem_of_getElem? h1, h2.symm⟩
      have bn : n.natAbs < 10 ^ 999 := by
        have : n.natAbs < 1000 := by
          simp only [List.mem_cons, List.not_mem_nil, or_false] at hn
          rcases hn with rfl | rfl | rfl | rfl | rfl <;> decide
        exact Nat.lt_trans this (by decide +kernel)
      refine ⟨_, rfl, _, rfl, pow999 bn, _, rfl, (by show 2 ≤ sizeLine; exact sz2), fun t ht => ⟨itx n, t, (n, 1), rfl, upd_same, wl_int n, rtx_int n, ?_, fun H' e => ⟨true, rfl, iteF ⟨⟨_, _, rfl⟩, (ex.trans (Ex.new ht)).trans e⟩⟩⟩⟩
      have := itx_len999 bn
      omega
    rintro sl H10 ⟨⟨o, o2, rfl⟩, hp10⟩
    refine ⟨_, rfl, (by show 2 ≤ sizeLine; exact sz2), fun t ht => ⟨"-1/2", t, (-1, 2), rfl, upd_same, ⟨by decide, by decide⟩, by decide +kernel, by decide +kernel, fun H11 e11 => ⟨true, rfl, iteT ?_⟩⟩⟩
    refine ⟨(by show 2 ≤ sizeLine; exact sz2), fun u hu => ⟨"100/3", u, (100, 3), rfl, upd_same, ⟨by decide, by decide⟩, by decide +kernel, by decide +kernel, fun H12 e12 => ⟨true, rfl, iteT ?_⟩⟩⟩
    exact ⟨_, rfl, _, rfl, rtx p, a, p, rfl, (((hp10.ex (Ex.new ht)).ex e11).ex (Ex.new hu)).ex e12, lf.w, rfl, lz, fun H' _ => k H'⟩
end
end Fc
set_option Elab.async false
set_option linter.all false
set_option maxRecDepth 100000
set_option maxHeartbeats 4000000
namespace Fc
open PySem PySem.Spec PyProof.Rows L2 L2H
theorem all_mk {l : PySem.W.OpenLaw} {w : World} {K : PySem.W.Frag} {h : Heap} {mg : Str → Option Value} {fa : Addr} (X : K.In h) (G : h.Ns mainGlobals mg) (hfa : mg "law" = some (.ref fa))
    {f_bn : Addr} {oc_bn kV_bn dc_bn pm_bn cd_bn ct_bn : Value} {od_bn an_bn : Option Addr} {sl_bn : Array (Option Value)}
    {f_isdig : Addr} {oc_isdig kV_isdig dc_isdig pm_isdig cd_isdig ct_isdig : Value} {od_isdig an_isdig : Option Addr} {sl_isdig : Array (Option Value)}
    {f_read : Addr} {oc_read kV_read dc_read pm_read cd_read ct_read : Value} {od_read an_read : Option Addr} {sl_read : Array (Option Value)}
    {p_read : Addr} {rest_read : List Value}
    {f_rtext : Addr} {oc_rtext kV_rtext dc_rtext pm_rtext cd_rtext ct_rtext : Value} {od_rtext an_rtext : Option Addr} {sl_rtext : Array (Option Value)}
    {f_start : Addr} {oc_start kV_start dc_start pm_start cd_start ct_start : Value} {od_start an_start : Option Addr} {sl_start : Array (Option Value)}
    {f_digit : Addr} {oc_digit kV_digit dc_digit pm_digit cd_digit ct_digit : Value} {od_digit an_digit : Option Addr} {sl_digit : Array (Option Value)}
    {f_lowest : Addr} {oc_lowest kV_lowest dc_lowest pm_lowest cd_lowest ct_lowest : Value} {od_lowest an_lowest : Option Addr} {sl_lowest : Array (Option Value)}
    {f_long : Addr} {oc_long kV_long dc_long pm_long cd_long ct_long : Value} {od_long an_long : Option Addr} {sl_long : Array (Option Value)}
    {f_fraction : Addr} {oc_fraction kV_fraction dc_fraction pm_fraction cd_fraction ct_fraction : Value} {od_fraction an_fraction : Option Addr} {sl_fraction : Array (Option Value)}
    {f_written : Addr} {oc_written kV_written dc_written pm_written cd_written ct_written : Value} {od_written an_written : Option Addr} {sl_written : Array (Option Value)}
    {f_reads : Addr} {oc_reads kV_reads dc_reads pm_reads cd_reads ct_reads : Value} {od_reads an_reads : Option Addr} {sl_reads : Array (Option Value)}
    {f_refuses : Addr} {oc_refuses kV_refuses dc_refuses pm_refuses cd_refuses ct_refuses : Value} {od_refuses an_refuses : Option Addr} {sl_refuses : Array (Option Value)}
    {f_spoilt : Addr} {oc_spoilt kV_spoilt dc_spoilt pm_spoilt cd_spoilt ct_spoilt : Value} {od_spoilt an_spoilt : Option Addr} {sl_spoilt : Array (Option Value)}
    {f_bounds : Addr} {oc_bounds kV_bounds dc_bounds pm_bounds cd_bounds ct_bounds : Value} {od_bounds an_bounds : Option Addr} {sl_bounds : Array (Option Value)}
    {f_law : Addr} {oc_law kV_law dc_law pm_law cd_law ct_law : Value} {od_law an_law : Option Addr} {sl_law : Array (Option Value)}
    {C f_init T_init : Addr} {oc_init kV_init dc_init pm_init cd_init ct_init : Value} {od_init an_init : Option Addr} {sl_init : Array (Option Value)} {oT : Value} {dT : Option Addr} {tT : Tok} {nT' : Nat} {sT : Array (Option Value)}
    {Z : Addr}
    {CE : Addr}
    {BN : Addr} {nm_BN q_BN : Str} {N_BN : Addr} {bs1_BN : List Value} {sn_BN : List Str} {sub_BN : List Value} {ab_BN : Bool} {col_BN : Option Bool} {dd_BN : Option Addr} {m0_BN m1_BN m2_BN m3_BN m5_BN : Option Value} {bm_BN : List Value}
    {tk_MOST_CHARACTERS : Tok}
    (hn : PySem.W.specialIn K (.builtin "object.__class__") "__get__" = some (some (.builtin "getset_descriptor.__get__")))
    (htk : PySem.W.takesIn K (.builtin "object.__class__") = some true)
    (aC : PySem.W.nsIn K mainGlobals "Ratio" = some (some (.ref C)))
    (pgC : PySem.W.plainGet K C Str.empty = true)
    (hdC : PySem.W.hasDictIn K C = true)
    (poC : PySem.W.plainOver K C = true)
    (saC : PySem.W.findIn K (.ref C) "__setattr__" = some (some (.builtin "object.__setattr__")))
    (mkC : PySem.W.makesIn K C = true)
    (kcC : PySem.W.keepIn K (.ref C) = true)
    (a_init : PySem.W.findIn K (.ref C) "__init__" = some (some (.ref f_init)))
    (i_init : PySem.W.isFn K (.ref f_init) = true)
    (l_init : K.lookup f_init = some ⟨oc_init, od_init, .func (PySem.W.fnOf "__init__" "Ratio.__init__" (defArgs S_init) (defBody S_init) (defScope S_init) (.ref T_init) kV_init dc_init pm_init an_init cd_init ct_init), sl_init⟩)
    (lT : K.lookup T_init = some ⟨oT, dT, .seq #[Value.int 1 tT] nT', sT⟩)
    (c_init : PySem.W.codeIn K cd_init "Ratio.__init__" = true)
    (k_init : PySem.W.keepIn K (.ref f_init) = true)
    (nT : PySem.W.findIn K (.ref C) "top" = some none)
    (nB : PySem.W.findIn K (.ref C) "bottom" = some none)
    (ha : PySem.W.findIn K (.ref C) "__class__" = some (some (.builtin "object.__class__")))
    (hm : PySem.W.mroIn K C (.type "object") = some true)
    (gg : PySem.W.nsIn K mainGlobals "gcd" = some (some (.builtin "math.gcd")))
    (aZ : PySem.W.nsIn K mainGlobals "ZeroBottom" = some (some (.ref Z)))
    (xZ : PySem.W.excIn K Z [.type "ValueError", .type "Exception", .type "BaseException", .type "object"] "ValueError.__new__" = true)
    (kZ : PySem.W.keepIn K (.ref Z) = true)
    (bZ : PySem.W.subIn K (.ref Z) (.type "BaseException") = some true)
    (tZ : PySem.W.typeIn K (.ref Z) = some (.type "type"))
    (aCE : PySem.W.nsIn K mainGlobals "CarryError" = some (some (.ref CE)))
    (CEd : PySem.W.hasDictIn K CE = true)
    (CEb : PySem.W.subIn K (.ref CE) (.type "BaseException") = some true)
    (CEt : PySem.W.typeIn K (.ref CE) = some (.type "type"))
    (a_BN : PySem.W.nsIn K mainGlobals "BadNumber" = some (some (.ref BN)))
    (c_BN : K.lookup BN = some (excClassObj nm_BN q_BN BN N_BN bs1_BN bm_BN true sn_BN sub_BN ab_BN col_BN dd_BN m0_BN m1_BN m2_BN m3_BN m5_BN "ValueError.__new__"))
    (r_BN : PySem.HandSPX.refsVE bm_BN = true)
    (sa_BN : PySem.W.findIn K (.ref BN) "__setattr__" = some (some (.builtin "object.__setattr__")))
    (k_BN : PySem.W.keepIn K (.ref BN) = true)
    (bs_BN : PySem.W.subIn K (.ref BN) (.type "BaseException") = some true)
    (t_BN : PySem.W.typeIn K (.ref BN) = some (.type "type"))
    (e_BN : PySem.W.subIn K (.ref BN) (.ref CE) = some true)
    (g0_BN : PySem.W.findIn K (.ref BN) "__getattribute__" = some (some (.builtin "BaseException.__getattribute__")))
    (g1_BN : PySem.W.findIn K (.ref BN) "__getattr__" = some none)
    (d_BN : PySem.W.hasDictIn K BN = true)
    (cl_BN : PySem.W.findIn K (.ref BN) "__class__" = some (some (.builtin "object.__class__")))
    (m_BN : PySem.W.mroIn K BN (.type "object") = some true)
    (v_BN : PySem.W.subIn K (.ref BN) (.type "ValueError") = some true)
    (n_BN_given : PySem.W.findIn K (.ref BN) "given" = some none)
    (d_Z : PySem.W.hasDictIn K Z = true)
    (s_bnNz : PySem.W.subIn K (.ref BN) (.ref Z) = some false)
    (n_bnNz : BN ≠ Z)
    (rdC : PySem.W.readsIn K C (.type "type") = true)
    (gaC : PySem.W.specialIn K (.ref C) "__getattribute__" = some (some (.builtin "type.__getattribute__")))
    (gi_MOST_CHARACTERS : PySem.W.nsIn K mainGlobals "_MOST_CHARACTERS" = some (some (.int 2000 tk_MOST_CHARACTERS)))
    (nd : PySem.W.nsIn K cStatics "sys.int_max_str_digits" = some none)
    (z_len : PySem.W.nsIn K mainGlobals "len" = some none)
    (z_abs : PySem.W.nsIn K mainGlobals "abs" = some none)
    (z_int : PySem.W.nsIn K mainGlobals "int" = some none)
    (z_bool : PySem.W.nsIn K mainGlobals "bool" = some none)
    (z_isinstance : PySem.W.nsIn K mainGlobals "isinstance" = some none)
    (z_range : PySem.W.nsIn K mainGlobals "range" = some none)
    (z_ValueError : PySem.W.nsIn K mainGlobals "ValueError" = some none)
    (z_str : PySem.W.nsIn K mainGlobals "str" = some none)
    (a_bn : PySem.W.findIn K (.ref BN) "__init__" = some (some (.ref f_bn)))
    (i_bn : PySem.W.isFn K (.ref f_bn) = true)
    (l_bn : K.lookup f_bn = some ⟨oc_bn, od_bn, .func (PySem.W.fnOf "__init__" "BadNumber.__init__" (defArgs S_bn) (defBody S_bn) (defScope S_bn) .none kV_bn dc_bn pm_bn an_bn cd_bn ct_bn), sl_bn⟩)
    (c_bn : PySem.W.codeIn K cd_bn "BadNumber.__init__" = true)
    (k_bn : PySem.W.keepIn K (.ref f_bn) = true)
    (a_isdig : PySem.W.nsIn K mainGlobals "is_digits" = some (some (.ref f_isdig)))
    (l_isdig : K.lookup f_isdig = some ⟨oc_isdig, od_isdig, .func (PySem.W.fnOf "is_digits" "is_digits" (defArgs S_isdig) (defBody S_isdig) (defScope S_isdig) .none kV_isdig dc_isdig pm_isdig an_isdig cd_isdig ct_isdig), sl_isdig⟩)
    (c_isdig : PySem.W.codeIn K cd_isdig "is_digits" = true)
    (k_isdig : PySem.W.keepIn K (.ref f_isdig) = true)
    (a_read : PySem.W.findCls K (.ref C) (.type "type") "read" = some (.get (.builtin "classmethod.__get__") (.ref p_read) .none (.ref C)))
    (i_read : PySem.W.recIn K p_read "classmethod" = some (.ref f_read :: rest_read))
    (fi_read : PySem.W.fnIn K f_read = true)
    (l_read : K.lookup f_read = some ⟨oc_read, od_read, .func (PySem.W.fnOf "read" "Ratio.read" (defArgs S_read) (defBody S_read) (defScope S_read) .none kV_read dc_read pm_read an_read cd_read ct_read), sl_read⟩)
    (c_read : PySem.W.codeIn K cd_read "Ratio.read" = true)
    (k_read : PySem.W.keepIn K (.ref f_read) = true)
    (a_rtext : PySem.W.findIn K (.ref C) "text" = some (some (.ref f_rtext)))
    (i_rtext : PySem.W.isFn K (.ref f_rtext) = true)
    (l_rtext : K.lookup f_rtext = some ⟨oc_rtext, od_rtext, .func (PySem.W.fnOf "text" "Ratio.text" (defArgs S_rtext) (defBody S_rtext) (defScope S_rtext) .none kV_rtext dc_rtext pm_rtext an_rtext cd_rtext ct_rtext), sl_rtext⟩)
    (c_rtext : PySem.W.codeIn K cd_rtext "Ratio.text" = true)
    (k_rtext : PySem.W.keepIn K (.ref f_rtext) = true)
    (a_start : PySem.W.nsIn K mainGlobals "_law_start" = some (some (.ref f_start)))
    (l_start : K.lookup f_start = some ⟨oc_start, od_start, .func (PySem.W.fnOf "_law_start" "_law_start" (defArgs S_start) (defBody S_start) (defScope S_start) .none kV_start dc_start pm_start an_start cd_start ct_start), sl_start⟩)
    (c_start : PySem.W.codeIn K cd_start "_law_start" = true)
    (k_start : PySem.W.keepIn K (.ref f_start) = true)
    (a_digit : PySem.W.nsIn K mainGlobals "_law_digit" = some (some (.ref f_digit)))
    (l_digit : K.lookup f_digit = some ⟨oc_digit, od_digit, .func (PySem.W.fnOf "_law_digit" "_law_digit" (defArgs S_digit) (defBody S_digit) (defScope S_digit) .none kV_digit dc_digit pm_digit an_digit cd_digit ct_digit), sl_digit⟩)
    (c_digit : PySem.W.codeIn K cd_digit "_law_digit" = true)
    (k_digit : PySem.W.keepIn K (.ref f_digit) = true)
    (a_lowest : PySem.W.nsIn K mainGlobals "_law_lowest" = some (some (.ref f_lowest)))
    (l_lowest : K.lookup f_lowest = some ⟨oc_lowest, od_lowest, .func (PySem.W.fnOf "_law_lowest" "_law_lowest" (defArgs S_lowest) (defBody S_lowest) (defScope S_lowest) .none kV_lowest dc_lowest pm_lowest an_lowest cd_lowest ct_lowest), sl_lowest⟩)
    (c_lowest : PySem.W.codeIn K cd_lowest "_law_lowest" = true)
    (k_lowest : PySem.W.keepIn K (.ref f_lowest) = true)
    (a_long : PySem.W.nsIn K mainGlobals "_law_long" = some (some (.ref f_long)))
    (l_long : K.lookup f_long = some ⟨oc_long, od_long, .func (PySem.W.fnOf "_law_long" "_law_long" (defArgs S_long) (defBody S_long) (defScope S_long) .none kV_long dc_long pm_long an_long cd_long ct_long), sl_long⟩)
    (c_long : PySem.W.codeIn K cd_long "_law_long" = true)
    (k_long : PySem.W.keepIn K (.ref f_long) = true)
    (a_fraction : PySem.W.nsIn K mainGlobals "_law_fraction" = some (some (.ref f_fraction)))
    (l_fraction : K.lookup f_fraction = some ⟨oc_fraction, od_fraction, .func (PySem.W.fnOf "_law_fraction" "_law_fraction" (defArgs S_fraction) (defBody S_fraction) (defScope S_fraction) .none kV_fraction dc_fraction pm_fraction an_fraction cd_fraction ct_fraction), sl_fraction⟩)
    (c_fraction : PySem.W.codeIn K cd_fraction "_law_fraction" = true)
    (k_fraction : PySem.W.keepIn K (.ref f_fraction) = true)
    (a_written : PySem.W.nsIn K mainGlobals "_law_written" = some (some (.ref f_written)))
    (l_written : K.lookup f_written = some ⟨oc_written, od_written, .func (PySem.W.fnOf "_law_written" "_law_written" (defArgs S_written) (defBody S_written) (defScope S_written) .none kV_written dc_written pm_written an_written cd_written ct_written), sl_written⟩)
    (c_written : PySem.W.codeIn K cd_written "_law_written" = true)
    (k_written : PySem.W.keepIn K (.ref f_written) = true)
    (a_reads : PySem.W.nsIn K mainGlobals "_law_reads" = some (some (.ref f_reads)))
    (l_reads : K.lookup f_reads = some ⟨oc_reads, od_reads, .func (PySem.W.fnOf "_law_reads" "_law_reads" (defArgs S_reads) (defBody S_reads) (defScope S_reads) .none kV_reads dc_reads pm_reads an_reads cd_reads ct_reads), sl_reads⟩)
    (c_reads : PySem.W.codeIn K cd_reads "_law_reads" = true)
    (k_reads : PySem.W.keepIn K (.ref f_reads) = true)
    (a_refuses : PySem.W.nsIn K mainGlobals "_law_refuses" = some (some (.ref f_refuses)))
    (l_refuses : K.lookup f_refuses = some ⟨oc_refuses, od_refuses, .func (PySem.W.fnOf "_law_refuses" "_law_refuses" (defArgs S_refuses) (defBody S_refuses) (defScope S_refuses) .none kV_refuses dc_refuses pm_refuses an_refuses cd_refuses ct_refuses), sl_refuses⟩)
    (c_refuses : PySem.W.codeIn K cd_refuses "_law_refuses" = true)
    (k_refuses : PySem.W.keepIn K (.ref f_refuses) = true)
    (a_spoilt : PySem.W.nsIn K mainGlobals "_law_spoilt" = some (some (.ref f_spoilt)))
    (l_spoilt : K.lookup f_spoilt = some ⟨oc_spoilt, od_spoilt, .func (PySem.W.fnOf "_law_spoilt" "_law_spoilt" (defArgs S_spoilt) (defBody S_spoilt) (defScope S_spoilt) .none kV_spoilt dc_spoilt pm_spoilt an_spoilt cd_spoilt ct_spoilt), sl_spoilt⟩)
    (c_spoilt : PySem.W.codeIn K cd_spoilt "_law_spoilt" = true)
    (k_spoilt : PySem.W.keepIn K (.ref f_spoilt) = true)
    (a_bounds : PySem.W.nsIn K mainGlobals "_law_bounds" = some (some (.ref f_bounds)))
    (l_bounds : K.lookup f_bounds = some ⟨oc_bounds, od_bounds, .func (PySem.W.fnOf "_law_bounds" "_law_bounds" (defArgs S_bounds) (defBody S_bounds) (defScope S_bounds) .none kV_bounds dc_bounds pm_bounds an_bounds cd_bounds ct_bounds), sl_bounds⟩)
    (c_bounds : PySem.W.codeIn K cd_bounds "_law_bounds" = true)
    (k_bounds : PySem.W.keepIn K (.ref f_bounds) = true)
    (a_law : PySem.W.nsIn K mainGlobals "law" = some (some (.ref f_law)))
    (l_law : K.lookup f_law = some ⟨oc_law, od_law, .func (PySem.W.fnOf "law" "law" (defArgs S_law) (defBody S_law) (defScope S_law) .none kV_law dc_law pm_law an_law cd_law ct_law), sl_law⟩)
    (c_law : PySem.W.codeIn K cd_law "law" = true)
    (k_law : PySem.W.keepIn K (.ref f_law) = true) :
    ∃ fd : FuncData, (∀ (s : Shared) (v : Value), BindsTo s fd ⟨[v], []⟩ [("script", v)]) ∧ ∀ base : Heap, K.In base → base.Ns mainGlobals mg → FnOk l.prog w K mg base CX0 9 fa fd ["script"] (spLaw K) := by
  have e := hfa.symm.trans (PySem.W.mg_of X G a_law)
  cases e
  have F_bn := fun_mk (st := S_bn) l_bn c_bn k_bn
  have b_bn := F_bn.binds (ps := ["self", "given"]) fun _ _ _ _ _ _ us hl => match us, hl with | [_, _], _ => rfl
  have F_isdig := fun_mk (st := S_isdig) l_isdig c_isdig k_isdig
  have b_isdig := F_isdig.binds (ps := ["text"]) fun _ _ _ _ _ _ us hl => match us, hl with | [_], _ => rfl
  have F_read := fun_mk (st := S_read) l_read c_read k_read
  have b_read := F_read.binds (ps := ["cls", "text"]) fun _ _ _ _ _ _ us hl => match us, hl with | [_, _], _ => rfl
  have F_rtext := fun_mk (st := S_rtext) l_rtext c_rtext k_rtext
  have b_rtext := F_rtext.binds (ps := ["self"]) fun _ _ _ _ _ _ us hl => match us, hl with | [_], _ => rfl
  have F_start := fun_mk (st := S_start) l_start c_start k_start
  have b_start := F_start.binds (ps := ["script"]) fun _ _ _ _ _ _ us hl => match us, hl with | [_], _ => rfl
  have F_digit := fun_mk (st := S_digit) l_digit c_digit k_digit
  have b_digit := F_digit.binds (ps := ["pot", "many"]) fun _ _ _ _ _ _ us hl => match us, hl with | [_, _], _ => rfl
  have F_lowest := fun_mk (st := S_lowest) l_lowest c_lowest k_lowest
  have b_lowest := F_lowest.binds (ps := ["top", "bottom"]) fun _ _ _ _ _ _ us hl => match us, hl with | [_, _], _ => rfl
  have F_long := fun_mk (st := S_long) l_long c_long k_long
  have b_long := F_long.binds (ps := ["pot"]) fun _ _ _ _ _ _ us hl => match us, hl with | [_], _ => rfl
  have F_fraction := fun_mk (st := S_fraction) l_fraction c_fraction k_fraction
  have b_fraction := F_fraction.binds (ps := ["pot"]) fun _ _ _ _ _ _ us hl => match us, hl with | [_], _ => rfl
  have F_written := fun_mk (st := S_written) l_written c_written k_written
  have b_written := F_written.binds (ps := ["p"]) fun _ _ _ _ _ _ us hl => match us, hl with | [_], _ => rfl
  have F_reads := fun_mk (st := S_reads) l_reads c_reads k_reads
  have b_reads := F_reads.binds (ps := ["text", "p"]) fun _ _ _ _ _ _ us hl => match us, hl with | [_, _], _ => rfl
  have F_refuses := fun_mk (st := S_refuses) l_refuses c_refuses k_refuses
  have b_refuses := F_refuses.binds (ps := ["text"]) fun _ _ _ _ _ _ us hl => match us, hl with | [_], _ => rfl
  have F_spoilt := fun_mk (st := S_spoilt) l_spoilt c_spoilt k_spoilt
  have b_spoilt := F_spoilt.binds (ps := ["pot", "p", "text", "times"]) fun _ _ _ _ _ _ us hl => match us, hl with | [_, _, _, _], _ => rfl
  have F_bounds := fun_mk (st := S_bounds) l_bounds c_bounds k_bounds
  have b_bounds := F_bounds.binds (ps := ["sign"]) fun _ _ _ _ _ _ us hl => match us, hl with | [_], _ => rfl
  have F_law := fun_mk (st := S_law) l_law c_law k_law
  have b_law := F_law.binds (ps := ["script"]) fun _ _ _ _ _ _ us hl => match us, hl with | [_], _ => rfl
  have F_init : FunD K "__init__" "Ratio.__init__" (defArgs S_init) (defBody S_init) (defScope S_init) [.int 1] [] f_init (PySem.W.fnOf "__init__" "Ratio.__init__" (defArgs S_init) (defBody S_init) (defScope S_init) (.ref T_init) kV_init dc_init pm_init an_init cd_init ct_init) :=
    ⟨⟨_, _, _, _, _, _, _, _, _, _, rfl, l_init, c_init, .inr ⟨(by intro z; cases z), T_init, _, [Value.int 1 tT], _, rfl, lT, rfl, .cons ⟨_, rfl⟩ .nil⟩, .inl rfl⟩, k_init⟩
  have b3 : ∃ ds, Vals (([V.int 1] : List V).drop 1) ds ∧ Binds K (PySem.W.fnOf "__init__" "Ratio.__init__" (defArgs S_init) (defBody S_init) (defScope S_init) (.ref T_init) kV_init dc_init pm_init an_init cd_init ct_init) ["self", "top", "bottom"] ds :=
    F_init.binds1 3 1 (by intro z; cases z) rfl fun T kV doc pm an cdv ct us its h1 h2 => match us, its, h1, h2 with | [_, _, _], [_], _, _ => ⟨_, rfl, rfl⟩
  have b2 : ∃ ds, Vals (([V.int 1] : List V).drop 0) ds ∧ Binds K (PySem.W.fnOf "__init__" "Ratio.__init__" (defArgs S_init) (defBody S_init) (defScope S_init) (.ref T_init) kV_init dc_init pm_init an_init cd_init ct_init) ["self", "top", "bottom"] ds :=
    F_init.binds1 2 0 (by intro z; cases z) rfl fun T kV doc pm an cdv ct us its h1 h2 => match us, its, h1, h2 with | [_, _], [_], _, _ => ⟨_, rfl, rfl⟩
  have b3' : Binds K (PySem.W.fnOf "__init__" "Ratio.__init__" (defArgs S_init) (defBody S_init) (defScope S_init) (.ref T_init) kV_init dc_init pm_init an_init cd_init ct_init) ["self", "top", "bottom"] [] := by
    obtain ⟨ds, v, b⟩ := b3
    cases v
    exact b
  let A : Ad := { C := C, f_init := f_init, d_init := PySem.W.fnOf "__init__" "Ratio.__init__" (defArgs S_init) (defBody S_init) (defScope S_init) (.ref T_init) kV_init dc_init pm_init an_init cd_init ct_init, Z := Z, CE := CE, BN := BN, f_bn := f_bn, d_bn := PySem.W.fnOf "__init__" "BadNumber.__init__" (defArgs S_bn) (defBody S_bn) (defScope S_bn) .none kV_bn dc_bn pm_bn an_bn cd_bn ct_bn, f_isdig := f_isdig, d_isdig := PySem.W.fnOf "is_digits" "is_digits" (defArgs S_isdig) (defBody S_isdig) (defScope S_isdig) .none kV_isdig dc_isdig pm_isdig an_isdig cd_isdig ct_isdig, f_read := f_read, d_read := PySem.W.fnOf "read" "Ratio.read" (defArgs S_read) (defBody S_read) (defScope S_read) .none kV_read dc_read pm_read an_read cd_read ct_read, f_rtext := f_rtext, d_rtext := PySem.W.fnOf "text" "Ratio.text" (defArgs S_rtext) (defBody S_rtext) (defScope S_rtext) .none kV_rtext dc_rtext pm_rtext an_rtext cd_rtext ct_rtext, f_start := f_start, d_start := PySem.W.fnOf "_law_start" "_law_start" (defArgs S_start) (defBody S_start) (defScope S_start) .none kV_start dc_start pm_start an_start cd_start ct_start, f_digit := f_digit, d_digit := PySem.W.fnOf "_law_digit" "_law_digit" (defArgs S_digit) (defBody S_digit) (defScope S_digit) .none kV_digit dc_digit pm_digit an_digit cd_digit ct_digit, f_lowest := f_lowest, d_lowest := PySem.W.fnOf "_law_lowest" "_law_lowest" (defArgs S_lowest) (defBody S_lowest) (defScope S_lowest) .none kV_lowest dc_lowest pm_lowest an_lowest cd_lowest ct_lowest, f_long := f_long, d_long := PySem.W.fnOf "_law_long" "_law_long" (defArgs S_long) (defBody S_long) (defScope S_long) .none kV_long dc_long pm_long an_long cd_long ct_long, f_fraction := f_fraction, d_fraction := PySem.W.fnOf "_law_fraction" "_law_fraction" (defArgs S_fraction) (defBody S_fraction) (defScope S_fraction) .none kV_fraction dc_fraction pm_fraction an_fraction cd_fraction ct_fraction, f_written := f_written, d_written := PySem.W.fnOf "_law_written" "_law_written" (defArgs S_written) (defBody S_written) (defScope S_written) .none kV_written dc_written pm_written an_written cd_written ct_written, f_reads := f_reads, d_reads := PySem.W.fnOf "_law_reads" "_law_reads" (defArgs S_reads) (defBody S_reads) (defScope S_reads) .none kV_reads dc_reads pm_reads an_reads cd_reads ct_reads, f_refuses := f_refuses, d_refuses := PySem.W.fnOf "_law_refuses" "_law_refuses" (defArgs S_refuses) (defBody S_refuses) (defScope S_refuses) .none kV_refuses dc_refuses pm_refuses an_refuses cd_refuses ct_refuses, f_spoilt := f_spoilt, d_spoilt := PySem.W.fnOf "_law_spoilt" "_law_spoilt" (defArgs S_spoilt) (defBody S_spoilt) (defScope S_spoilt) .none kV_spoilt dc_spoilt pm_spoilt an_spoilt cd_spoilt ct_spoilt, f_bounds := f_bounds, d_bounds := PySem.W.fnOf "_law_bounds" "_law_bounds" (defArgs S_bounds) (defBody S_bounds) (defScope S_bounds) .none kV_bounds dc_bounds pm_bounds an_bounds cd_bounds ct_bounds, f_law := fa, d_law := PySem.W.fnOf "law" "law" (defArgs S_law) (defBody S_law) (defScope S_law) .none kV_law dc_law pm_law an_law cd_law ct_law }
  have T : Txt K mg A := {
    hn := hn,
    htk := htk,
    cl := ⟨pgC, hdC, poC, saC⟩,
    nT := nT,
    nB := nB,
    mkC := ⟨mkC, a_init, i_init, kcC⟩,
    ha := ha,
    hm := hm,
    F_init := F_init,
    b_init3 := b3',
    b_init2 := b2,
    g_Ratio := PySem.W.mg_of X G aC,
    g_gcd := PySem.W.mg_of X G gg,
    g_Z := PySem.W.mg_of X G aZ,
    xZ := xZ,
    kZ := kZ,
    bZ := bZ,
    tZ := tZ,
    g_CE := PySem.W.mg_of X G aCE,
    g_BN := PySem.W.mg_of X G a_BN,
    o_BN := ⟨⟨nm_BN, q_BN, N_BN, bs1_BN, bm_BN, sn_BN, sub_BN, ab_BN, col_BN, dd_BN, m0_BN, m1_BN, m2_BN, m3_BN, m5_BN, c_BN, r_BN⟩, sa_BN, bs_BN, t_BN, k_BN⟩,
    in_BN := a_bn,
    ti_BN := beq_iff_eq.mp i_bn,
    xf_BN := ⟨g0_BN, g1_BN, bs_BN, d_BN⟩,
    e_BN := PySem.W.exm_ref CEb CEd CEt e_BN,
    X_BN := ⟨g0_BN, g1_BN, bs_BN, d_BN, cl_BN, hn, htk, m_BN⟩,
    v_BN := kit_typ (by decide +kernel) v_BN,
    n_BN_given := n_BN_given,
    bnNz := kit_ref d_Z tZ s_bnNz (fun z => n_bnNz (Value.ref.inj z)),
    crC := ⟨rdC, gaC⟩,
    gi_MOST_CHARACTERS := ⟨tk_MOST_CHARACTERS, PySem.W.mg_of X G gi_MOST_CHARACTERS⟩,
    nd := nd,
    n_len := PySem.W.mg_none_of X G z_len,
    n_abs := PySem.W.mg_none_of X G z_abs,
    n_int := PySem.W.mg_none_of X G z_int,
    n_bool := PySem.W.mg_none_of X G z_bool,
    n_isinstance := PySem.W.mg_none_of X G z_isinstance,
    n_range := PySem.W.mg_none_of X G z_range,
    n_ValueError := PySem.W.mg_none_of X G z_ValueError,
    n_str := PySem.W.mg_none_of X G z_str,
    F_bn := F_bn, b_bn := b_bn,
    m_bn := ⟨a_bn, i_bn, k_bn⟩,
    F_isdig := F_isdig, b_isdig := b_isdig,
    g_isdig := PySem.W.mg_of X G a_isdig,
    F_read := F_read, b_read := b_read,
    p_read := ⟨_, a_read, ⟨_, i_read⟩, fi_read⟩,
    F_rtext := F_rtext, b_rtext := b_rtext,
    m_rtext := ⟨a_rtext, i_rtext, k_rtext⟩,
    F_start := F_start, b_start := b_start,
    g_start := PySem.W.mg_of X G a_start,
    F_digit := F_digit, b_digit := b_digit,
    g_digit := PySem.W.mg_of X G a_digit,
    F_lowest := F_lowest, b_lowest := b_lowest,
    g_lowest := PySem.W.mg_of X G a_lowest,
    F_long := F_long, b_long := b_long,
    g_long := PySem.W.mg_of X G a_long,
    F_fraction := F_fraction, b_fraction := b_fraction,
    g_fraction := PySem.W.mg_of X G a_fraction,
    F_written := F_written, b_written := b_written,
    g_written := PySem.W.mg_of X G a_written,
    F_reads := F_reads, b_reads := b_reads,
    g_reads := PySem.W.mg_of X G a_reads,
    F_refuses := F_refuses, b_refuses := b_refuses,
    g_refuses := PySem.W.mg_of X G a_refuses,
    F_spoilt := F_spoilt, b_spoilt := b_spoilt,
    g_spoilt := PySem.W.mg_of X G a_spoilt,
    F_bounds := F_bounds, b_bounds := b_bounds,
    g_bounds := PySem.W.mg_of X G a_bounds,
    F_law := F_law, b_law := b_law,
    g_law := PySem.W.mg_of X G a_law }
  exact ⟨_, fun s v => .of_eq rfl, fun base _ _ => ok_law (P := l.prog) (w := w) (base := base) T⟩
theorem walk {l : PySem.W.OpenLaw} {q : Program} {loose : List Str} {XP : (Str → Option Value) → Heap → Prop} {YP : World → Heap → Prop} {d : DefRec} {K : Params → PySem.W.Frag} (hn : l.most = some 63) (hdf : d.params.defaults = [])
    (hY : ∀ (w : World) (h : Heap), YP w h → (K w.params).In h)
    (F : ∀ (w : World) (mg : Str → Option Value) (fa : Addr) (h : Heap), (K w.params).In h → h.Ns mainGlobals mg → mg d.name = some (.ref fa) →
      ∃ fd : FuncData, (∀ (s : Shared) (u : Value), BindsTo s fd ⟨[u], []⟩ [("script", u)]) ∧ ∀ base : Heap, (K w.params).In base → base.Ns mainGlobals mg → FnOk l.prog w (K w.params) mg base CX0 9 fa fd ["script"] (spLaw (K w.params))) :
    PySem.W.WalkO q loose XP YP l.row.toRowW d [] (fun f vs => PySem.call f vs) :=
  L2.walk_of (n := 63) (k := 9) (x := "script") (CX := fun _ => CX0) (sp := fun w => spLaw (K w.params)) hn (by decide) hdf ⟨rfl, by decide, by decide⟩ hY F
    (fun _ _ a ns hl _ hS => ⟨a, ns, rfl, hS, hl, fun _ => rfl⟩) fun _ _ _ _ _ z => z
end Fc
open PySem PySem.W PyProof.Rows
set_option maxRecDepth 100000 in
set_option maxHeartbeats 0 in
theorem PySem.Challenge.cw_fewcarry_k03_fraction_text_holds : PySem.Challenge.rw_fewcarry_k03_fraction_text.Holds := by
  w_on; o_law; k_head; (case hw => w_witness2)
  k_fill
  refine Fc.walk (l := PySem.Challenge.rw_fewcarry_k03_fraction_text) rfl rfl (fun w h Y => PySem.W.kIn_of Y) ?F
  case F =>
    intro w mg fa h KX G hmg
    refine' Fc.all_mk KX G hmg ?hn ?htk ?aC ?pgC ?hdC ?poC ?saC ?mkC ?kcC ?a_init ?i_init ?l_init ?lT ?c_init ?k_init ?nT ?nB ?ha ?hm ?gg ?aZ ?xZ ?kZ ?bZ ?tZ ?aCE ?CEd ?CEb ?CEt ?a_BN ?c_BN ?r_BN ?sa_BN ?k_BN ?bs_BN ?t_BN ?e_BN ?g0_BN ?g1_BN ?d_BN ?cl_BN ?m_BN ?v_BN ?n_BN_given ?d_Z ?s_bnNz ?n_bnNz ?rdC ?gaC ?gi_MOST_CHARACTERS ?nd ?z_len ?z_abs ?z_int ?z_bool ?z_isinstance ?z_range ?z_ValueError ?z_str ?a_bn ?i_bn ?l_bn ?c_bn ?k_bn ?a_isdig ?l_isdig ?c_isdig ?k_isdig ?a_read ?i_read ?fi_read ?l_read ?c_read ?k_read ?a_rtext ?i_rtext ?l_rtext ?c_rtext ?k_rtext ?a_start ?l_start ?c_start ?k_start ?a_digit ?l_digit ?c_digit ?k_digit ?a_lowest ?l_lowest ?c_lowest ?k_lowest ?a_long ?l_long ?c_long ?k_long ?a_fraction ?l_fraction ?c_fraction ?k_fraction ?a_written ?l_written ?c_written ?k_written ?a_reads ?l_reads ?c_reads ?k_reads ?a_refuses ?l_refuses ?c_refuses ?k_refuses ?a_spoilt ?l_spoilt ?c_spoilt ?k_spoilt ?a_bounds ?l_bounds ?c_bounds ?k_bounds ?a_law ?l_law ?c_law ?k_law
    (case hn => k_is)
    (case htk => k_is)
    (case aC => k_is)
    (case pgC => k_is)
    (case hdC => k_is)
    (case poC => k_is)
    (case saC => k_is)
    (case mkC => k_is)
    (case kcC => k_is)
    (case a_init => k_is)
    (case i_init => k_is)
    (case l_init => k_is)
    (case lT => k_is)
    (case c_init => k_is)
    (case k_init => k_is)
    (case nT => k_is)
    (case nB => k_is)
    (case ha => k_is)
    (case hm => k_is)
    (case gg => k_is)
    (case aZ => k_is)
    (case xZ => k_exc)
    (case kZ => k_is)
    (case bZ => k_is)
    (case tZ => k_is)
    (case aCE => k_is)
    (case CEd => k_is)
    (case CEb => k_is)
    (case CEt => k_is)
    (case a_BN => k_is)
    (case c_BN => k_is)
    (case r_BN => decide +kernel)
    (case sa_BN => k_is)
    (case k_BN => k_is)
    (case bs_BN => k_is)
    (case t_BN => k_is)
    (case e_BN => k_is)
    (case g0_BN => k_is)
    (case g1_BN => k_is)
    (case d_BN => k_is)
    (case cl_BN => k_is)
    (case m_BN => k_is)
    (case v_BN => k_is)
    (case n_BN_given => k_is)
    (case d_Z => k_is)
    (case s_bnNz => k_is)
    (case n_bnNz => decide)
    (case rdC => k_is)
    (case gaC => k_is)
    (case gi_MOST_CHARACTERS => k_is)
    (case nd => k_is)
    (case z_len => k_is)
    (case z_abs => k_is)
    (case z_int => k_is)
    (case z_bool => k_is)
    (case z_isinstance => k_is)
    (case z_range => k_is)
    (case z_ValueError => k_is)
    (case z_str => k_is)
    (case a_bn => k_is)
    (case i_bn => k_is)
    (case l_bn => k_is)
    (case c_bn => k_is)
    (case k_bn => k_is)
    (case a_isdig => k_is)
    (case l_isdig => k_is)
    (case c_isdig => k_is)
    (case k_isdig => k_is)
    (case a_read => k_is)
    (case i_read => k_is)
    (case fi_read => k_is)
    (case l_read => k_is)
    (case c_read => k_is)
    (case k_read => k_is)
    (case a_rtext => k_is)
    (case i_rtext => k_is)
    (case l_rtext => k_is)
    (case c_rtext => k_is)
    (case k_rtext => k_is)
    (case a_start => k_is)
    (case l_start => k_is)
    (case c_start => k_is)
    (case k_start => k_is)
    (case a_digit => k_is)
    (case l_digit => k_is)
    (case c_digit => k_is)
    (case k_digit => k_is)
    (case a_lowest => k_is)
    (case l_lowest => k_is)
    (case c_lowest => k_is)
    (case k_lowest => k_is)
    (case a_long => k_is)
    (case l_long => k_is)
    (case c_long => k_is)
    (case k_long => k_is)
    (case a_fraction => k_is)
    (case l_fraction => k_is)
    (case c_fraction => k_is)
    (case k_fraction => k_is)
    (case a_written => k_is)
    (case l_written => k_is)
    (case c_written => k_is)
    (case k_written => k_is)
    (case a_reads => k_is)
    (case l_reads => k_is)
    (case c_reads => k_is)
    (case k_reads => k_is)
    (case a_refuses => k_is)
    (case l_refuses => k_is)
    (case c_refuses => k_is)
    (case k_refuses => k_is)
    (case a_spoilt => k_is)
    (case l_spoilt => k_is)
    (case c_spoilt => k_is)
    (case k_spoilt => k_is)
    (case a_bounds => k_is)
    (case l_bounds => k_is)
    (case c_bounds => k_is)
    (case k_bounds => k_is)
    (case a_law => k_is)
    (case l_law => k_is)
    (case c_law => k_is)
    (case k_law => k_is)
#print axioms PySem.Challenge.cw_fewcarry_k03_fraction_text_holds
