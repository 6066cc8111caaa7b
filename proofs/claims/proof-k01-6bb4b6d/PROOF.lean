import PyProof.Rows.All
import Wide.All
import OpenK.AllK
import Wide.FinOn
import KE.KStateDown
import KE.KOpsOwn
import HandS.ForMost
import HandS.Exc
import HandS.TryOnly
import HandS.ExcOwn
import HandS.ExcInit
import HandS.ExcIs
import HandS.ExcField
import HandS.IsInst
import HandS.Property
import HandS.ClsMeth
import HandS.Zip
import HandS.Conv
import HandS.Defaults
import HandS.SetKeys
import HandS.TupLen
import HandS.Walk
import HandS.OwnEq
import HandS.WordsExc
import HandS.Head0
import HandS.Head1
import HandS.Head2
import HandS.HeadEnd
import HandS.HeadHook1
import HandS.HeadHook2
import KE.KExcIs
import KE.KDictZip
import KE.KItemsList
import KE.GoesNew
import HandS.Zip0
import HandS.ListItems
import KE.GoesMore
import KE.GoesEnum
import PyProof.Draws
import PyProof.DictMoreH
import HandS.Dict
import PyProof.WalkInts
import HandS.TupSets
import HandS.Iter
import HandS.Star
import HandS.TupMul
import KE.KDictPairs
import HandS.SetFor
import HandS.Strs
import HandS.More
import PySem.Challenge.RW_manysights_k01_tells_restricted_crossed
set_option Elab.async false
set_option linter.all false
set_option maxRecDepth 100000
set_option maxHeartbeats 4000000
/-! Ms, the core: rules of our own over the hand layer. -/
namespace Ms
open PySem PySem.Spec PyProof.Rows L2
abbrev St := L2.St

/-! ### no exception leaves -/
abbrev EN : St → XK := fun _ _ _ _ => False
theorem passN {X : Cx} (σ : St) : PassesAt (L2.CX X.prog X.w) X σ (fun _ _ _ => False) := fun _ _ _ _ _ _ c => by
  obtain ⟨_, _, _, _, _, _, _, _, _, _, _, _, h⟩ := c
  exact h.elim

/-! ### a def by its name -/
structure Ok (P : Program) (w : World) (K : PySem.W.Frag) (mg : Str → Option Value) (base : Heap) (x : Str) (k : Nat) (sp : Sp) : Prop where
  ex : ∃ fd ps, FnOk P w K mg base (L2.CX P w) k (He.ga K x) fd ps sp ∧ Binds K fd ps []
  mg : mg x = some (.ref (He.ga K x))
  kp : PySem.W.keepIn K (.ref (He.ga K x)) = true
/-- a method of the class named c -/
structure MOk (P : Program) (w : World) (K : PySem.W.Frag) (mg : Str → Option Value) (base : Heap) (c m : Str) (k : Nat) (sp : Sp) : Prop where
  ex : ∃ fd ps, FnOk P w K mg base (L2.CX P w) k (He.ma K (He.ga K c) m) fd ps sp ∧ Binds K fd ps []
  cl : Cls K (He.ga K c)
  me : Meth K (He.ga K c) m (He.ma K (He.ga K c) m)

section
variable {X : Cx} {k j : Nat} {sp : Sp} {E : St → XK} {x m c : Str} {p pos apos : Pos} {e o : Expr} {es : List Expr} {ta : TE} {t : TA}
/-- f(e, ..) -/
theorem pe_c (F : Ok X.prog X.w X.K X.mg X.base x k sp) (hr : Room j X.A) (hk : k ≤ j) (hx : ∀ σ, PassesAt (L2.CX X.prog X.w) X σ (E σ)) (ha : PA X (e :: es) t) (hg : Gl X x := by rfl)
    (hdb : (x == ("__debug__" : Str)) = false := by decide) (he : starEach (e :: es) X.env = (false, eval e X.env) :: starEach es X.env := by rfl) (hpl : (backTo pos (starEach es X.env)).any (·.1) = false := by rfl) :
    PE X (.Call (.Name x p) (e :: es) [] pos) (tCallS sp E t) := by
  obtain ⟨fd, ps, F1, hb⟩ := F.ex
  exact pe_callS F1 (hr.mono hk) hg F.mg F.kp hb hx ha hdb he hpl
def tMethS (C : Addr) (m : Str) (sp : Sp) (E : St → XK) (ta : TE) (t : TA) : TE := fun σ H Q => ta σ H fun x H1 => ∃ a dx fs, x = .ref a ∧ H1 a = some (.ins C dx fs) ∧ fs.lookup m = none ∧ t σ H1 fun vs H2 => sp (x :: vs) H2 Q (E σ)
/-- o.m(e, ..) -/
theorem pe_m {pl : Sem Bool} (F : MOk X.prog X.w X.K X.mg X.base c m k sp) (hr : Room j X.A) (hk : k ≤ j) (hx : ∀ σ, PassesAt (L2.CX X.prog X.w) X σ (E σ)) (he : PE X o ta) (ha : PA X (e :: es) t)
    (hst : starEach (e :: es) X.env = (false, eval e X.env) :: starEach es X.env := by rfl) (hpl : (backTo pos (starEach es X.env)).any (·.1) = false := by rfl)
    (ht : eval (.Call (.Attribute o m apos) (e :: es) [] pos) X.env = (do
      let ov ← eval o X.env
      standAt apos.atName
      let (f, first) ← holding [ov] (getMethod ov m pl)
      callWith pos f first (backTo pos (starEach (e :: es) X.env)) (backToKw pos (keywordEach [] X.env))) := by rfl) :
    PE X (.Call (.Attribute o m apos) (e :: es) [] pos) (tMethS (He.ga X.K c) m sp E ta t) := by
  obtain ⟨fd, ps, F1, hb⟩ := F.ex
  refine ⟨fun pins s σ H Q I h => ?_⟩
  refine PySem.W.methodCall_KW (pl := pl) (thn (he.run pins s σ H _ I h) fun u s1 ⟨x, H1, I1, rx, a, dx, fs, ex, ea, l, q⟩ => ?_) ht
  subst ex
  obtain rfl : u = Value.ref a := rx
  refine getmeth_ok I1 ea F.cl F.me l ?_
  refine PySem.W.callWith_K (first := [.ref a]) (h₀ := X.base) I.ok.mod.kin F.me.kp (thn (ha.run pos pins s1 σ H1 _ I1 q) fun us s2 ⟨vs, H2, I2, r, q2⟩ => ⟨I2.kIn, ?_⟩) hst hpl
  exact run_fnS (us := .ref a :: us) (vs := .ref a :: vs) F1 (hr.mono hk) hb (hx σ) I2 (.cons rfl r) q2

/-! ### a new instance -/
/-- the class named c, its __init__ -/
structure COk (P : Program) (w : World) (K : PySem.W.Frag) (mg : Str → Option Value) (base : Heap) (c : Str) (k : Nat) (sp : Sp) : Prop where
  ex : ∃ fd ps, FnOk P w K mg base (L2.CX P w) k (He.ma K (He.ga K c) "__init__") fd ps sp ∧ Binds K fd ps []
  mkr : Mk K (He.ga K c) (He.ma K (He.ga K c) "__init__")
  mg : mg c = some (.ref (He.ga K c))
def tMakeS (C : Addr) (sp : Sp) (E : St → XK) (t : TA) : TE := fun σ H Q => t σ H fun vs H1 => ∀ x dx, H1 x = none → H1 dx = none → dx ≠ x →
  sp (.ref x :: vs) (upd (upd H1 dx (.own x)) x (.ins C dx [])) (fun v H2 => v = .non ∧ Q (.ref x) H2) (E σ)
/-- what the maker's exception finds: the new instance is dropped -/
theorem run_makeS {pins : List (Addr × Obj)} {σ : St} {H : Hp} {s : Shared} {Q : VK} {us : List Value} {vs : List V} {C f : Addr} {fd : FuncData} {ps : List Str} {E : XK} (M : Mk X.K C f) (F : FnOk X.prog X.w X.K X.mg X.base (L2.CX X.prog X.w) k f fd ps sp) (hr : Room (k + 1) X.A) (hb : Binds X.K fd ps [])
    (hx : PassesAt (L2.CX X.prog X.w) X σ E) (I : Inv X pins σ H s) (r : Vals vs us)
    (h : ∀ x dx, H x = none → H dx = none → dx ≠ x → sp (.ref x :: vs) (upd (upd H dx (.own x)) x (.ins C dx [])) (fun v H2 => v = .non ∧ Q (.ref x) H2) E) :
    wpAny (model X.prog X.w) X.A (call (.ref C) us) (EP X pins σ Q) X.xe s := by
  have hq := h (s.heap.objs.size + 1) s.heap.objs.size (I.hok.fresh (Nat.le_succ _)) (I.hok.fresh (Nat.le_refl _)) (Nat.ne_of_lt (Nat.lt_succ_self _))
  have I2 := Inv.made (C := C) I
  have r2 : Vals (V.ref (s.heap.objs.size + 1) :: vs) (Value.ref (s.heap.objs.size + 1) :: us) := .cons rfl r
  have hl : (Value.ref (s.heap.objs.size + 1) :: us).length = ps.length := by
    have e := r2.length
    rw [F.len _ _ _ _ hq] at e
    exact e.symm
  have b := hb _ (Value.ref (s.heap.objs.size + 1) :: us) I2.kIn (by rw [List.append_nil]; exact hl)
  rw [List.append_nil] at b
  refine wpAny_call (make_map (f := f) I.kIn M.makes M.init (beq_iff_eq.mp M.fn) (codeAny_mono (F.run _ X.stack _ _ ⟨Value.ref (s.heap.objs.size + 1) :: us, []⟩ (Value.ref (s.heap.objs.size + 1) :: us) _ _ E (hr.make C us [])
    (I2.env0.make C us []) b r2 hq) fun r s' hq' => ?_))
  cases r with
  | error e => exact hx pins _ _ e s' I2 hq'
  | ok fl =>
    cases fl with
    | ret u =>
      obtain ⟨v, H', I3, rv, ev, q3⟩ := I2.after hq'
      subst ev
      exact ⟨rv, ⟨V.ref (s.heap.objs.size + 1), H', I3, rfl, q3⟩⟩
    | next => exact False.elim hq'
    | brk => exact False.elim hq'
    | cont => exact False.elim hq'
/-- C(e, ..) -/
theorem pe_n (F : COk X.prog X.w X.K X.mg X.base x k sp) (hr : Room j X.A) (hk : k + 1 ≤ j) (hx : ∀ σ, PassesAt (L2.CX X.prog X.w) X σ (E σ)) (ha : PA X (e :: es) t) (hg : Gl X x := by rfl)
    (hdb : (x == ("__debug__" : Str)) = false := by decide) (he : starEach (e :: es) X.env = (false, eval e X.env) :: starEach es X.env := by rfl) (hpl : (backTo pos (starEach es X.env)).any (·.1) = false := by rfl) :
    PE X (.Call (.Name x p) (e :: es) [] pos) (tMakeS (He.ga X.K x) sp E t) := by
  obtain ⟨fd, ps, F1, hb⟩ := F.ex
  refine ⟨fun pins s σ H Q I h => ?_⟩
  refine wpAny_Call_Name_kw (ld_glob I hg F.mg ?_ hdb)
  refine PySem.W.callWith_K (h₀ := X.base) I.ok.mod.kin F.mkr.kp (thn (ha.run pos pins s σ H _ I h) fun us s1 ⟨vs, H1, I1, r, q⟩ => ⟨I1.kIn, ?_⟩) he hpl
  exact run_makeS F.mkr F1 (hr.mono hk) hb (hx σ) I1 r q
/-- cls(e, ..), cls a local name that holds the class -/
theorem pe_nL {i : Nat} (F : COk X.prog X.w X.K X.mg X.base c k sp) (hr : Room j X.A) (hk : k + 1 ≤ j) (hx : ∀ σ, PassesAt (L2.CX X.prog X.w) X σ (E σ)) (ha : PA X (e :: es) t)
    (hN : X.N[i]? = some x) (hv : Vis X.env.scope x)
    (hdb : (x == ("__debug__" : Str)) = false := by decide) (hcd : (x == ("__classdict__" : Str)) = false := by decide) (he : starEach (e :: es) X.env = (false, eval e X.env) :: starEach es X.env := by rfl) (hpl : (backTo pos (starEach es X.env)).any (·.1) = false := by rfl) :
    PE X (.Call (.Name x p) (e :: es) [] pos) (fun σ H Q => σ[i]? = some (some (.ref (He.ga X.K c))) ∧ tMakeS (He.ga X.K c) sp E t σ H Q) := by
  obtain ⟨fd, ps, F1, hb⟩ := F.ex
  refine ⟨fun pins s σ H Q I h => ?_⟩
  obtain ⟨hs, ht⟩ := h
  refine wpAny_Call_Name_kw (thn ((pe_var (pos := p) hN hv hdb hcd).run pins s σ H (fun v H1 => v = .ref (He.ga X.K c) ∧ H1 = H) I ⟨.ref (He.ga X.K c), hs, rfl, rfl⟩) fun u s1 ⟨v, H1, I1, r1, q1⟩ => ?_)
  obtain ⟨rfl, rfl⟩ := q1
  cases r1
  refine PySem.W.callWith_K (h₀ := X.base) I.ok.mod.kin F.mkr.kp (thn (ha.run pos pins s1 σ _ _ I1 ht) fun us s2 ⟨vs, H2, I2, r, q⟩ => ⟨I2.kIn, ?_⟩) he hpl
  exact run_makeS F.mkr F1 (hr.mono hk) hb (hx σ) I2 r q

/-! ### operators of one's own -/
/-- one op two, both instances of the class named c -/
structure BOk (P : Program) (w : World) (K : PySem.W.Frag) (mg : Str → Option Value) (base : Heap) (c m : Str) (k : Nat) (sp : Sp) : Prop where
  ex : ∃ fd ps, FnOk P w K mg base (L2.CX P w) k (He.ma K (He.ga K c) m) fd ps sp ∧ Binds K fd ps []
  sf : PySem.W.selfFirst K (He.ga K c) = true
  fi : PySem.W.findIn K (.ref (He.ga K c)) m = some (some (.ref (He.ma K (He.ga K c) m)))
  fn : PySem.W.isFn K (.ref (He.ma K (He.ga K c) m)) = true
def tBinS (C : Addr) (sp : Sp) (E : St → XK) (ta tb : TE) : TE := fun σ H Q => ta σ H fun x H1 => tb σ H1 fun y H2 => ∃ a b dx dy fs gs, x = .ref a ∧ y = .ref b ∧ H2 a = some (.ins C dx fs) ∧ H2 b = some (.ins C dy gs) ∧ sp [x, y] H2 Q (E σ)
theorem cmpBack_rel {Q : Value → Shared → Prop} {v : V} {u : Value} {s : Shared} (r : RelV v u) (q : Q u s) : PySem.W.CmpBack Q u s := by
  cases v with
  | non => cases (show u = Value.none from r); exact q
  | bl b => cases (show u = Value.bool b from r); exact q
  | int i => obtain ⟨t, e⟩ := (show ∃ t, u = Value.int i t from r); subst e; exact q
  | str z => obtain ⟨t, e⟩ := (show ∃ t, u = Value.str z t from r); subst e; exact q
  | byt z => obtain ⟨t, e⟩ := (show ∃ t, u = Value.bytes z t from r); subst e; exact q
  | flt z => obtain ⟨t, e⟩ := (show ∃ t, u = Value.float z t from r); subst e; exact q
  | ref a => cases (show u = Value.ref a from r); exact q
  | ty n => cases (show u = Value.type n from r); exact q
theorem pe_bin {op : Operator} {a b : Expr} {ta tb : TE} (F : BOk X.prog X.w X.K X.mg X.base c m k sp) (ho : PySem.dunder op.info.2 = m) (hr : Room j X.A) (hk : k ≤ j) (hx : ∀ σ, PassesAt (L2.CX X.prog X.w) X σ (E σ)) (ha : PE X a ta) (hb' : PE X b tb) :
    PE X (.BinOp a op b pos) (tBinS (He.ga X.K c) sp E ta tb) := by
  obtain ⟨fd, ps, F1, hb⟩ := F.ex
  refine ⟨fun pins s σ H Q I h => ?_⟩
  refine wpAny_BinOp (binT ha hb' I h fun v u s2 x y H2 I2 rx ry q => ?_)
  obtain ⟨a1, b1, dx, dy, fs, gs, rfl, rfl, h1, h2, q⟩ := q
  cases rx
  cases ry
  obtain ⟨mA, J, _⟩ := ins_get I2.hok h1
  obtain ⟨mB, J', _⟩ := ins_get I2.hok h2
  obtain ⟨od, J, _⟩ := J.look
  obtain ⟨od', J', _⟩ := J'.look
  obtain ⟨mm, hF⟩ := I2.fr
  refine PySem.W.binop_K hF I2.ok.mod.kin J J'.type F.sf (by rw [ho]; exact F.fi) F.fn ?_
  exact thn (run_fnS (us := [.ref a1, .ref b1]) (vs := [.ref a1, .ref b1]) F1 (hr.mono hk) hb (hx σ) I2 (.cons rfl (.cons rfl .nil)) q) fun v s3 ⟨z, H3, I3, r3, q3⟩ => cmpBack_rel r3 ⟨z, H3, I3, r3, q3⟩
/-- one == y by the class's own __eq__, y anything -/
def tEqS (K : PySem.W.Frag) (C : Addr) (sp : Sp) (E : St → XK) (ta tb : TE) : TE := fun σ H Q => ta σ H fun x H1 => tb σ H1 fun y H2 => ∃ a dx fs t, x = .ref a ∧ H2 a = some (.ins C dx fs) ∧ TyX K H2 y t ∧ PySem.W.notFirst K C t = true ∧ sp [x, y] H2 Q (E σ)
theorem pe_eqS {a b : Expr} {ta tb : TE} (F : BOk X.prog X.w X.K X.mg X.base c "__eq__" k sp) (hr : Room j X.A) (hk : k ≤ j) (hx : ∀ σ, PassesAt (L2.CX X.prog X.w) X σ (E σ)) (ha : PE X a ta) (hb' : PE X b tb) :
    PE X (.Compare a [.Eq] [b] pos) (tEqS X.K (He.ga X.K c) sp E ta tb) := by
  obtain ⟨fd, ps, F1, hb⟩ := F.ex
  refine ⟨fun pins s σ H Q I h => ?_⟩
  refine wpAny_Compare1 (binT ha hb' I h fun v u s2 x y H2 I2 rx ry q => ?_) (nomark _)
  obtain ⟨a1, dx, fs, t, rfl, h1, ty, nf, q⟩ := q
  cases rx
  obtain ⟨mA, J, _⟩ := ins_get I2.hok h1
  obtain ⟨od, J, _⟩ := J.look
  obtain ⟨mm, hF⟩ := I2.fr
  obtain ⟨P, Z, pz, _⟩ := kit_of I2 ry ty
  show wpAny (model X.prog X.w) X.A (richCompare .Eq (.ref a1) u) (EP X pins σ Q) X.xe s2
  refine PySem.W.cmp_K (op := .Eq) (tb := t) hr.units0 hF I2.ok.mod.kin J (Z.ty _ _ I2.kIn pz) nf F.fi F.fn ?_
  exact thn (run_fnS (us := [.ref a1, u]) (vs := [.ref a1, y]) F1 (hr.mono hk) hb (hx σ) I2 (.cons rfl (.cons ry .nil)) q) fun v s3 ⟨z, H3, I3, r3, q3⟩ => cmpBack_rel r3 ⟨z, H3, I3, r3, q3⟩

/-! ### an own exception without __init__, made without arguments -/
theorem pmk_own0 {B : String} {bmB : List Value} {newId initId : String} {C : Addr} {x : Str} {p pos : Pos} (F : ExcBaseFacts B newId initId bmB) (q : PySem.W.excIn X.K C bmB newId = true) (gC : X.mg x = some (.ref C)) (kC : PySem.W.keepIn X.K (.ref C) = true) (r : Raises X (.ref C)) (hg : Gl X x)
    (hdb : (x == ("__debug__" : Str)) = false := by decide) : PMk X (.Call (.Name x p) [] [] pos) (fun _ H Q => Q (.ref C) none H) := by
  intro pins s σ H Q I h
  refine wpAny_Call_Name_kw (ld_glob I hg gC ?_ hdb)
  refine PySem.W.callWith_K0 I.kIn kC ?_
  obtain ⟨bm, N, nm, qn, bs, hdct, sn, sub, ab, col, dd, k0, k1, k2, k3, k5, mN, hC, hN, hni, T⟩ := exc_obj I.kIn q
  obtain ⟨hp, g, d, t, os⟩ := s
  refine wpAny_call_exc_subT F T hC hN hni (fun h' e hm => ?_) (Nat.zero_le _)
  exact mk_of I hm r h (I.hok.gone hm.new)
end
end Ms
set_option Elab.async false
set_option linter.all false
set_option maxRecDepth 100000
set_option maxHeartbeats 4000000
/-! Ms, exceptions: a caught exception is an object like others, so that defs may be handed it. -/
namespace Ms
open PySem PySem.Spec PyProof.Rows L2

/-- at a stands an exception of the class cls, its dict at d -/
def exT (a : Addr) (cls : Value) (d : Option Addr) : HO := .ext fun h => ∃ oe vs, h.get? a = some oe ∧ Zc cls d oe ∧ oe.data = .fields vs
theorem exT_not (a : Addr) (cls : Value) (d : Option Addr) {o : HO} (h : ∀ p, o ≠ .ext p) : exT a cls d ≠ o := fun z => h _ z.symm
theorem exT_ok {P : Program} {w : World} {H : Hp} {h : Heap} {a : Addr} {cls : Value} {d : Option Addr} {oe : Obj} {vs : Array Value} (e : h.get? a = some oe) (z : Zc cls d oe) (f : oe.data = .fields vs) : ObjOk P w H h a (exT a cls d) :=
  ⟨⟨oe, vs, e, z, f⟩, ⟨oe, e⟩, fun _ _ ⟨o, us, q, z, f⟩ k => ⟨o, us, k _ q, z, f⟩⟩
theorem exT_at {P : Program} {w : World} {H : Hp} {h : Heap} {a : Addr} {cls : Value} {d : Option Addr} (hok : HOk P w H h) (e : H a = some (exT a cls d)) : ∃ oe vs, h.get? a = some oe ∧ Zc cls d oe ∧ oe.data = .fields vs := by
  have x : ObjOk P w H h a (.ext fun h => ∃ oe vs, h.get? a = some oe ∧ Zc cls d oe ∧ oe.data = .fields vs) := hok a _ e
  exact x.1

section
variable {X : Cx} {pins : List (Addr × Obj)} {σ : St} {H : Hp} {s : Shared}
/-- an object of later than the frame's entry is known from now on -/
theorem track {a : Addr} {cls : Value} {d : Option Addr} {oe : Obj} {vs : Array Value} (I : Inv X pins σ H s) (new : X.s_0.heap.get? a = none) (e : s.heap.get? a = some oe) (z : Zc cls d oe) (f : oe.data = .fields vs) (na : H a = none)
    (nL : a ≠ X.env.locals) (np : ∀ p ∈ X.pn ++ pins, p.1 ≠ a) : Inv X pins σ (upd H a (exT a cls d)) s := by
  have off : ∀ {b : Addr} {o : Obj}, X.s_0.heap.get? b = some o → b ≠ a := fun {b o} q y => by
    rw [y, new] at q
    cases q
  have ne : ∀ {b : Addr} {o : HO}, H b = some o → b ≠ a := fun {b o} q y => by
    rw [y, na] at q
    cases q
  refine ⟨I.ok, I.os, I.bare, ⟨I.base.keep, I.base.slot, fun b o q n hx => ?_, I.base.there, fun b xs q => ?_, fun b o u q => ?_, fun b ps q => ?_⟩, I.loc, I.cell, ?_, fun x c q => ?_, fun p hp => ?_, fun b o q => ?_, I.len⟩
  · rw [upd_ne (off q)]
    exact I.base.free b o q n hx
  · have y := I.base.tups b xs q
    rw [upd_ne (ne y)]
    exact y
  · have y := I.base.frzs b o u q
    rw [upd_ne (ne y)]
    exact y
  · obtain ⟨more, y⟩ := I.base.tbls b ps q
    exact ⟨more, by rw [upd_ne (ne y)]; exact y⟩
  · rw [upd_ne (Ne.symm nL)]
    exact I.free
  · obtain ⟨v, o, ho, hd⟩ := I.cell x c q
    have nc : c ≠ a := fun y => by
      rw [y, e] at ho
      cases ho
      rw [f] at hd
      cases hd
    rw [upd_ne nc]
    exact I.freeC x c q
  · obtain ⟨y1, y2, y3⟩ := I.pin p hp
    exact ⟨y1, by rw [upd_ne (np p hp)]; exact y2, y3⟩
  · by_cases hb : b = a
    · subst hb
      rw [upd_same] at q
      cases q
      exact exT_ok e z f
    · rw [upd_ne hb] at q
      exact (I.hok b o q).stay (fun _ _ _ y => y) (fun c y => by rw [upd_ne (ne y)]; exact y) fun c xs y => by rw [upd_ne (ne y)]; exact y
/-- into an except suite, out of it -/
theorem toSuite (I : Inv X pins σ H s) (a : Addr) : Inv (X.suite a (X.pn ++ pins)) [] σ H s :=
  ⟨I.ok.suite _ _, I.os, I.bare, I.base, I.loc, I.cell, I.free, I.freeC, fun p hp => I.pin p (by rw [List.append_nil] at hp; exact hp), I.hok, I.len⟩
theorem ofSuite {a : Addr} {pn' : List (Addr × Obj)} (I : Inv (X.suite a (X.pn ++ pins)) pn' σ H s) (ok : X.Ok) : Inv X pins σ H s :=
  ⟨ok, I.os, I.bare, I.base, I.loc, I.cell, I.free, I.freeC, fun p hp => I.pin p (List.mem_append_left _ hp), I.hok, I.len⟩
end

/-- what the clause «except x as n» wishes of an exception of the body -/
def wTr (K : PySem.W.Frag) (c : Value) (i : Nat) (ts : TS) (Wout : WX) (D : Ends) : WX := fun cls d σ H =>
  ∃ b, PySem.W.exmOne K cls c = some b ∧ (b = true → ∀ a, H a = none → ts { nx := fun σ' H' => D.nx (σ'.set i none) H', rt := D.rt, bk := fun σ' H' => D.bk (σ'.set i none) H', ct := fun σ' H' => D.ct (σ'.set i none) H' } (σ.set i (some (.ref a))) (upd H a (exT a cls d))) ∧
    (b = false → Wout cls d σ H)

section
variable {X : Cx} {x n : Str} {c : Value} {i : Nat} {body suite : List Stmt} {b₀ : Stmt} {np pos pos' : Pos} {tb : WX → TS} {ts : TS} {Wout : WX}
theorem ps_try (hs : X.stack = X.env :: X.outer) (hf : X.env.frame = some X.env.locals) (hN : X.N.Nodup) (hi : X.N[i]? = some n) (hln : X.env.kindOf n = some .local) (hc : Names X x c) (hex : X.ex = []) (tk : Takes X Wout)
    (hb : ∀ (W : WX) (pn : List (Addr × Obj)) (xe : Value → Shared → Prop), Takes (X.tr pn xe) W → PassesOwn (model X.prog X.w) X.A X.env xe → PSs (X.tr pn xe) body (tb W))
    (hsu : ∀ (a : Addr) (pn : List (Addr × Obj)), PSs (X.suite a pn) (b₀ :: suite) ts) :
    PS X (.Try body [.ExceptHandler (some (.Name x np)) (some n) (b₀ :: suite) pos'] [] [] pos) (fun D σ H => tb (wTr X.K c i ts Wout D) D σ H) := by
  refine ⟨fun pins s σ H D I h => ?_⟩
  have ok := I.ok
  have hfr : X.A.frames = some (X.env :: X.outer) := by rw [ok.frames, hs]
  have hloc : Loc X.env.scope n := .inl hln
  refine wpAny_Try_except ?_
  have runs := (hb (wTr X.K c i ts Wout D) (X.pn ++ pins) (fun e s₁ => wpAny (model X.prog X.w) X.A (noteFrame e X.env) (fun _ s₂ => wpAny (model X.prog X.w) X.A (setFlight e none) (fun _ s₃ =>
    wpAny (model X.prog X.w) X.A (handleBy e X.env [.ExceptHandler (some (.Name x np)) (some n) (b₀ :: suite) pos']) (SP X pins D) X.xe s₃) X.xe s₂) X.xe s₁) (fun u s' xx => ?_) PassesOwn.looking).run [] s σ H D (I.toTry _) h
  · refine wpAny_mono runs (fun f s1 hsp => ?_) fun e s1 he => he
    cases f with
    | next =>
      obtain ⟨σ', H', J', q⟩ := hsp
      exact wpAny_execs_nil ⟨σ', H', J'.ofTry ok, q⟩
    | brk =>
      obtain ⟨σ', H', J', q⟩ := hsp
      exact ⟨σ', H', J'.ofTry ok, q⟩
    | cont =>
      obtain ⟨σ', H', J', q⟩ := hsp
      exact ⟨σ', H', J'.ofTry ok, q⟩
    | ret u =>
      obtain ⟨v, σ', H', J', r, q⟩ := hsp
      exact ⟨v, σ', H', J'.ofTry ok, r, q⟩
  -- the catch
  obtain ⟨a, B, sI, pins', σ', H', cls, d, rfl, J', nb, up, sky, na, os, ag, b, hb1, hyes, hno⟩ := xx
  have J : Inv X pins σ' H' sI := J'.ofTry ok
  have sky1 : Sky B (X.env :: X.outer) a (Zc cls d) X.env.locals s'.heap := hs ▸ sky
  show wpAny (model X.prog X.w) X.A (noteFrame (.ref a) X.env) _ _ _
  refine Sky.land Zc.steady hfr hf sky1 fun h3 fl3 up3 => ?_
  have J3 : Inv X pins σ' H' { s' with heap := h3 } := J.landed nb fl3.1 (up.trans up3) os ag
  obtain ⟨oe3, vs3, he3, hz3, hd3⟩ := fl3.there
  have nfr : a ∉ frs (X.env :: X.outer) := fun hm => by
    obtain ⟨_, o', e', hnf⟩ := fl3.2.2.1.mem hm
    rw [he3] at e'
    cases e'
    exact hnf _ hd3
  have nst : a ∉ frs X.stack := hs ▸ nfr
  have nL : a ≠ X.env.locals := fun z => nfr (List.mem_filterMap.mpr ⟨X.env, List.mem_cons_self, by rw [hf, z]⟩)
  have gone : B.get? a = none := fl3.2.1
  have newI : sI.heap.get? a = none := by
    cases q : sI.heap.get? a with
    | none => rfl
    | some o =>
      have z := nb a o q nst
      rw [gone] at z
      cases z
  have new : X.s_0.heap.get? a = none := by
    cases q : X.s_0.heap.get? a with
    | none => rfl
    | some o =>
      obtain ⟨o', z⟩ := J.base.there a o q (by rw [hex]; simp)
      rw [newI] at z
      cases z
  have npin : ∀ p ∈ X.pn ++ pins, p.1 ≠ a := fun p hp z => by
    obtain ⟨y, _⟩ := J.pin p hp
    rw [z, newI] at y
    cases y
  refine wpAny_handleBy_cons (codeAny_handlers_test ?_) (by intro q; cases q)
  have LT : PySem.W.Looks (model X.prog X.w) h3 (typeOf (.ref a)) cls := fun A Q E s k q => wpAny_typeOf_ref (k _ _ he3) (by rw [hz3.1]; exact q)
  have LM := PySem.W.exm_one (M := model X.prog X.w) (J3.kIn) LT hb1
  have test : ∀ {Q : Value → Shared → Prop} {E : Value → Shared → Prop}, Q c { s' with heap := h3 } → wpAny (model X.prog X.w) (X.A.mark (some (.ref a))) (eval (.Name x np) X.env) Q E { s' with heap := h3 } := fun {Q E} q => by
    obtain ⟨hg, hdbg, hm | ⟨hm, hv, hnn⟩⟩ := hc
    · exact ld_glob (X := X.suite a (X.pn ++ pins)) (toSuite J3 a) hg hm q hdbg
    · exact ld_blt (X := X.suite a (X.pn ++ pins)) (toSuite J3 a) hg hm hv q hnn hdbg
  refine test (LM.here ?_)
  cases b with
  | true =>
    refine codeAny_handlers_suite_as ?_
    refine HandSPX.lands_againZ fl3 fun h4 fl4 up4 => ?_
    obtain ⟨oe4, vs4, he4, hz4, hd4⟩ := fl4.there
    have J4 : Inv X pins σ' (upd H' a (exT a cls d)) { s' with heap := h4 } := track (J.landed nb fl4.1 ((up.trans up3).trans up4) os ag) new he4 hz4 hd4 na nL npin
    refine store_ok (X := X.suite a (X.pn ++ pins)) (v := .ref a) (toSuite J4 a) hN hi hloc rfl (fun s5 S5 => ?_) (.inr hln)
    refine wpAny_mono ((hsu a (X.pn ++ pins)).run [] s5 _ _ _ S5 (hyes rfl a na)) (fun f s6 hsp => ?_) (fun _ _ z => False.elim z)
    have end_ : ∀ {σ6 : St} {H6 : Hp} {Q : Shared → Prop}, Inv (X.suite a (X.pn ++ pins)) [] σ6 H6 s6 → (∀ s7, Inv X pins (σ6.set i none) H6 s7 → Q s7) →
        wpAny (model X.prog X.w) X.A (do bindName X.env n .none; unbindBehindTheSuite X.env n pos') (fun _ s7 => Q s7) X.xe s6 := fun {σ6 H6 Q} S6 hq => gone_ok (ofSuite S6 ok) hN hi hln hq
    cases f with
    | next =>
      obtain ⟨σ6, H6, S6, q6⟩ := hsp
      exact end_ S6 fun s7 J7 => ⟨_, _, J7, q6⟩
    | brk =>
      obtain ⟨σ6, H6, S6, q6⟩ := hsp
      exact end_ S6 fun s7 J7 => ⟨_, _, J7, q6⟩
    | cont =>
      obtain ⟨σ6, H6, S6, q6⟩ := hsp
      exact end_ S6 fun s7 J7 => ⟨_, _, J7, q6⟩
    | ret u =>
      obtain ⟨v6, σ6, H6, S6, r6, q6⟩ := hsp
      exact end_ S6 fun s7 J7 => ⟨_, _, _, J7, r6, q6⟩
  | false =>
    show wpAny _ X.A (handleBy (.ref a) X.env []) _ _ _
    refine wpAny_handleBy_nil ?_
    obtain ⟨k1, k2, k3, oe, vs, T, oT, ts', he, hz, hd, h1, hr⟩ := id fl3
    unfold PySem.passOn
    refine wpAny_bind (wpAny_field he hd h1 ?_)
    rw [if_neg (show ¬ ((Value.ref T == Value.none) = true) from by simp)]
    have fin : wpAny (model X.prog X.w) X.A (setFlight (.ref a) X.env.frame) (fun _ s4 => wpAny (model X.prog X.w) X.A (throw (.ref a) : Sem Flow) (SP X pins D) X.xe s4) X.xe { s' with heap := h3 } := by
      rw [hf]
      refine HandSPX.setFlight_upZ fl3 fun h4 hh4 up4 => wpAny_throw (tk _ _ ?_)
      exact ⟨a, B, sI, pins, σ', H', cls, d, rfl, J, nb, (up.trans up3).trans up4, .inr (.inr (by rw [hs]; exact hh4)), na, os, ag, hno rfl⟩
    first
      | exact wpAny_bind (wpAny_pure (wpAny_bind fin))
      | exact wpAny_bind fin
end

/-! ### what is asked of a value's type, exceptions too -/
/-- what K says of an exception class at D, for isinstance and for its fields -/
structure EC (K : PySem.W.Frag) (D : Addr) : Prop where
  cl : (PySem.W.clsIn K D).isSome = true
  ga : PySem.W.findIn K (.ref D) "__getattribute__" = some (some (.builtin "BaseException.__getattribute__"))
  gg : PySem.W.findIn K (.ref D) "__getattr__" = some none
  sb : PySem.W.subIn K (.ref D) (.type "BaseException") = some true
  ca : PySem.W.findIn K (.ref D) "__class__" = some (some (.builtin "object.__class__"))
  cg : PySem.W.specialIn K (.builtin "object.__class__") "__get__" = some (some (.builtin "getset_descriptor.__get__"))
  ct : PySem.W.takesIn K (.builtin "object.__class__") = some true
  ob : PySem.W.mroIn K D (.type "object") = some true
  hd : PySem.W.hasDictIn K D = true
/-- an exception of the class at D with these fields -/
def IsEx (D : Addr) (fs : Option (List (Str × V))) (a : Addr) (H : Hp) : Prop := match fs with
  | none => H a = some (exT a (.ref D) none)
  | some l => ∃ dd, H a = some (exT a (.ref D) (some dd)) ∧ H dd = some (.xd l)
inductive TyM (K : PySem.W.Frag) (H : Hp) : V → Value → Prop where
  | of {x : V} {t : Value} (h : TyX K H x t) : TyM K H x t
  | ex {a D : Addr} {fs : Option (List (Str × V))} (h : IsEx D fs a H) (c : EC K D) : TyM K H (.ref a) (.ref D)
section
variable {X : Cx} {pins : List (Addr × Obj)} {σ : St} {H : Hp} {s : Shared}
theorem ex_inst {a D : Addr} {fs : Option (List (Str × V))} (I : Inv X pins σ H s) (h : IsEx D fs a H) : ∃ ox od, PySem.W.InstAt s.heap a ox D od := by
  have mkI : ∀ {d : Option Addr} {od : Option Obj}, H a = some (exT a (.ref D) d) → (match d with | some dd => ∃ o, s.heap.get? dd = some o ∧ od = some o | none => od = none) → ∃ ox od, PySem.W.InstAt s.heap a ox D od := fun {d od} e k => by
    obtain ⟨oe, vs, ho, ⟨hc, hdd⟩, hv⟩ := exT_at I.hok e
    obtain ⟨oc, odd, oda, osl⟩ := oe
    dsimp only at hc hdd hv
    subst hc hdd hv
    cases odd with
    | none => exact ⟨_, none, ho, rfl, rfl, trivial⟩
    | some dd =>
      obtain ⟨o, h1, h2⟩ := k
      exact ⟨_, some o, ho, rfl, rfl, h1⟩
  cases fs with
  | none => exact mkI (d := none) (od := none) h rfl
  | some l =>
    obtain ⟨dd, h1, h2⟩ := h
    obtain ⟨mA, ⟨o, _, _, e, _⟩, _⟩ := (show ObjOk X.prog X.w H s.heap dd (.xd l) from I.hok dd _ h2)
    exact mkI (d := some dd) (od := some o) h1 ⟨o, e, rfl⟩
theorem kit_ofM {x : V} {u t : Value} (I : Inv X pins σ H s) (rx : RelV x u) (ty : TyM X.K H x t) : ∃ P : Heap → Prop, PySem.W.KitX X.K u t P ∧ P s.heap ∧ u ≠ .builtin "__main__.__loader__#opaque" := by
  cases ty with
  | of h => exact kit_of I rx h
  | @ex a D fs h c =>
    cases (show u = Value.ref a from rx)
    obtain ⟨ox, od, J⟩ := ex_inst I h
    exact ⟨_, PySem.W.kitx_exc c.cl c.ga c.gg c.sb c.ca c.cg c.ct c.ob, J, fun z => nomatch z⟩
end
/-- isinstance(x, c) -/
def rIs (K : PySem.W.Frag) : List V → Hp → VK → Prop := fun xs H Q => ∃ (x c : V) (t u : Value) (b : Bool), xs = [x, c] ∧ ClsV c u ∧ TyM K H x t ∧ PySem.W.kitOne K t u = some b ∧ Q (.bl b) H
/-- isinstance(x, (c, ..)) -/
def rIsT (K : PySem.W.Frag) : List V → Hp → VK → Prop := fun xs H Q => ∃ (x : V) (tp : Addr) (cs : List V) (t : Value) (us : List Value) (b : Bool), xs = [x, .ref tp] ∧ H tp = some (.tup cs) ∧ Paired ClsV cs us ∧ TyM K H x t ∧ PySem.W.kitAny K t us = some b ∧ Q (.bl b) H
section
variable {X : Cx}
theorem cr_is : CallR X (.builtin "isinstance") (rIs X.K) := fun pins s σ H xs us Q I r h => by
  obtain ⟨x, c, t, u, b, rfl, k, ty, e, q⟩ := h
  obtain ⟨u1, u2, rfl, r1, r2⟩ := vals2 r
  obtain rfl := k.eq r2
  obtain ⟨P, Z, p, hx⟩ := kit_ofM I r1 ty
  exact PySem.W.kia_one Z I.kIn p e hx fun tk => ⟨.bl b, H, I.tok tk, rfl, q⟩
theorem cr_isT : CallR X (.builtin "isinstance") (rIsT X.K) := fun pins s σ H xs us Q I r h => by
  obtain ⟨x, tp, cs, t, ws, b, rfl, hT, k, ty, e, q⟩ := h
  obtain ⟨u1, u2, rfl, r1, r2⟩ := vals2 r
  obtain rfl : u2 = Value.ref tp := r2
  obtain ⟨P, Z, p, hx⟩ := kit_ofM I r1 ty
  obtain ⟨_, its, rv, ⟨oc, od, dt, sl⟩, h1, h2, n, h3⟩ := (show ObjOk X.prog X.w H s.heap tp (.tup cs) from I.hok tp _ hT)
  obtain rfl := ClsV.all k rv
  simp only at h2 h3
  subst h2 h3
  exact PySem.W.kia_tup Z I.kIn p h1 e hx fun tk => ⟨.bl b, H, I.tok tk, rfl, q⟩
/-- e.f, e a known exception -/
def tExF (K : PySem.W.Frag) (ta : TE) (f : Str) : TE := fun σ H Q => ta σ H fun x H1 => ∃ a D l v, x = .ref a ∧ IsEx D (some l) a H1 ∧ EC K D ∧ PySem.W.findIn K (.ref D) f = some none ∧ l.lookup f = some v ∧ Q v H1
theorem pe_exf {e : Expr} {te : TE} {pos : Pos} {n : Str} (he : PE X e te) (hb : attributeBase e n X.env (eval e X.env) = eval e X.env := by rfl) : PE X (.Attribute e n pos) (tExF X.K te n) := by
  refine ⟨fun pins s σ H Q I h => ?_⟩
  refine attr_of hb (thn (he.run pins s σ H _ I h) fun u s1 hh => ?_)
  obtain ⟨x, H1, I1, rx, a, D, l, v, rfl, ⟨dd, h1, h2⟩, c, hno, hl, q⟩ := hh
  obtain rfl : u = Value.ref a := rx
  obtain ⟨oe, vs, ho, ⟨hc, hdd⟩, hv⟩ := exT_at I1.hok h1
  obtain ⟨mA, hns, hr⟩ := (show ObjOk X.prog X.w H1 s1.heap dd (.xd l) from I1.hok dd _ h2)
  obtain ⟨od, ho2, hl2⟩ := lookIn_ns hns
  obtain ⟨u, hu, ru⟩ := RelO.some_of (v := v) (o := mA n) (by rw [← hl]; exact hr n)
  have J : PySem.W.InstAt s1.heap a oe D (some od) := ⟨ho, hc, by unfold PySem.W.notCls; rw [hv] <;> rfl, by rw [hdd]; exact ho2⟩
  exact HandSPX.exc_get I1.kIn J c.ga c.gg c.sb (PySem.W.findObj_own c.hd hno rfl (by rw [hl2, hu])) (handed_of ru) ⟨v, H1, I1.tok _, ru, q⟩
end

/-! ### defs called in an except suite (they raise nothing, they loop over nothing) -/
structure RoomW (k : Nat) (A : Around) : Prop where
  dp : A.depth + 3 * k + 5 < recursionLimit
  un : A.units + 16 * k + 200 < cLine
theorem RoomW.mono {j k : Nat} {A : Around} (r : RoomW k A) (h : j ≤ k) : RoomW j A := ⟨by have := r.dp; omega, by have := r.un; omega⟩
theorem RoomW.deeper {k : Nat} {A : Around} (r : RoomW (k + 1) A) (env : Env) : RoomW k (A.deeper env) :=
  ⟨by have := r.dp; show A.depth + 1 + 3 * k + 5 < _; omega, by have := r.un; show A.units + 3 + 16 * k + 200 < _; omega⟩
theorem roomW_of {k : Nat} {A : Around} (r : Room k A) : RoomW k A := ⟨r.dp, r.un⟩
theorem roomW_mark {k : Nat} {A : Around} (r : Room k A) (o : Option Value) : RoomW k (A.mark o) := ⟨r.dp, r.un⟩
/-- a context that is not calm -/
abbrev warm (Y : Cx) (A : Around) : Cx := { Y with A := A, calm := false, xe := fun _ _ => False }
theorem Cx.Ok.warm {Y : Cx} (ok : Y.Ok) {A : Around} (hf : A.frames = Y.A.frames) : (Ms.warm Y A).Ok :=
  ⟨ok.mod, ok.kind, ok.glob, ok.blt, ok.above, ok.inj, ok.has, ok.cab, (fun z => absurd (show false = true from z) Bool.false_ne_true), by rw [← ok.frames]; exact hf, ok.stk, ok.exf, ok.bs, ok.bsz, ok.noex, ok.exfs, ok.funs, ok.frf⟩
theorem inv_warm {Y : Cx} {pins : List (Addr × Obj)} {σ : St} {H : Hp} {s : Shared} (I : Inv Y pins σ H s) {A : Around} (hf : A.frames = Y.A.frames) : Inv (Ms.warm Y A) pins σ H s :=
  ⟨Cx.Ok.warm I.ok hf, I.os, I.bare, I.base, I.loc, I.cell, I.free, I.freeC, I.pin, I.hok, I.len⟩
abbrev CXN : CXT := fun _ _ _ _ _ _ => False
structure FnW (P : Program) (w : World) (K : PySem.W.Frag) (mg : Str → Option Value) (base : Heap) (k : Nat) (f : Addr) (fd : FuncData) (ps : List Str) (sp : Sp) : Prop where
  len : ∀ vs H Q E, sp vs H Q E → vs.length = ps.length
  run : ∀ (A : Around) (outer : List Env) (s : Shared) (H : Hp) (args : Args) (us : List Value) (vs : List V) (Q : VK) (E : XK), RoomW k A → Env0 P w K mg base A outer s H → BindsTo s fd args (ps.zip us) → Vals vs us → sp vs H Q E →
    codeAny (model P w) A (.call (.ref f) args) (CR CXN outer P w H s Q E) s
/-- the context of such a def's body -/
abbrev cxW (P : Program) (w : World) (K : PySem.W.Frag) (mg : Str → Option Value) (base : Heap) (N : List Str) (qual : Str) (scope : Scope) (f : Addr) (cd : Value) (A : Around) (outer : List Env) (s : Shared) (H : Hp) (E : XK) : Cx :=
  warm (cxOf CXN P w K mg base N qual scope f cd { A with handled := none } outer s H E) (A.deeper (envOfC qual scope s.heap.objs.size f cd))
theorem FunD.warm {P : Program} {w : World} {K : PySem.W.Frag} {mg : Str → Option Value} {base : Heap} {x qual : Str} {params : Arguments} {body : List Stmt} {scope : Scope} {dvs : List V} {kws : List (Str × V)} {f : Addr} {fd : FuncData} {N ps : List Str} {k : Nat} {sp : Sp}
    (F : FunD K x qual params body scope dvs kws f fd) (S : FnScope N ps scope) (len : ∀ vs H Q E, sp vs H Q E → vs.length = ps.length)
    (hbody : ∀ (cdv : Value) (A : Around) (outer : List Env) (s : Shared) (H : Hp) (vs : List V) (Q : VK) (E : XK), RoomW k (A.deeper (envOfC qual scope s.heap.objs.size f cdv)) → sp vs H Q E →
      ∃ t, PSs (cxW P w K mg base N qual scope f cdv A outer s H E) body t ∧ t { nx := fun _ H' => Q .non H', rt := Q } (L2.start N vs) H) : FnW P w K mg base (k + 1) f fd ps sp := by
  obtain ⟨oc, od, dV, kV, doc, pm, an, cdv, ct, osl, rfl, lk, hcd, _, _⟩ := F.ex
  refine ⟨len, fun A outer s H args us vs Q E hr e0 hb r hsp => ?_⟩
  have KX : K.In s.heap := e0.mod.kin.keeps fun b o e => (e0.bs b o e).1
  have lim : s.heap.NoLimit := e0.mod.nolimit.keeps fun b o e => (e0.bs b o e).1
  have kinds : ∀ y ∈ ps.zip us, scope.names.lookup y.1 = some .local ∨ (scope.names.lookup y.1 = some .cell ∧ ((cellsFrom (s.heap.objs.size + 1) scope.names []).lookup y.1).isSome = true) := fun y hy => by
    obtain ⟨n, v⟩ := y
    rcases S.par n (List.of_mem_zip hy).1 with q | q
    · exact .inl q
    · exact .inr ⟨q, PySem.W.cellsFrom_some _ _ _ (.inl q)⟩
  have dep : A.depth < recursionLimit := by have := hr.dp; omega
  refine codeAny_call_function dep (KX _ _ lk) rfl S.co S.gen rfl (PySem.W.codeRec_of KX hcd) (hb _ _ _ _ ?_)
  refine wpAny_newFunctionEnv_cells S.kind kinds fun env he s1 x => ?_
  subst he
  refine ⟨lim.keeps x.toInCall.keep, codeAny_func ?_⟩
  obtain ⟨t, ht, hq⟩ := hbody cdv A outer s H vs Q E (hr.deeper _) hsp
  have e1 : Env0 P w K mg base { A with handled := none } outer s H := ⟨e0.frames, e0.mod, e0.bs, e0.bsz, e0.funs, e0.frf, e0.hok, e0.bare⟩
  have I0 := inv_start (CX := CXN) (E := E) S rfl e1 (len _ _ _ _ hsp) r x
  have I : Inv (cxW P w K mg base N qual scope f cdv A outer s H E) [] (L2.start N vs) H s1 := inv_warm I0 rfl
  refine wpAny_mono (ht.run [] s1 (L2.start N vs) H _ I hq) (fun fl s' hs => ?_) fun e s' hs => hs.elim
  have fin : ∀ {σ' : St} {H' : Hp} {v : V} {u : Value}, Inv (cxW P w K mg base N qual scope f cdv A outer s H E) [] σ' H' s' → RelV v u → Q v H' → CE outer P w H s Q u s' :=
    fun {σ' H' v u} J rv q => ⟨v, H', J.os, J.bare, J.base, J.hok, rv, q⟩
  cases fl with
  | ret u =>
    obtain ⟨v, σ', H', J, rv, q⟩ := hs
    exact fin J rv q
  | next =>
    obtain ⟨σ', H', J, q⟩ := hs
    exact fin (v := V.non) (u := Value.none) J rfl q
  | brk =>
    obtain ⟨_, _, _, q⟩ := hs
    exact False.elim q
  | cont =>
    obtain ⟨_, _, _, q⟩ := hs
    exact False.elim q
/-- .. by its name -/
structure WOk (P : Program) (w : World) (K : PySem.W.Frag) (mg : Str → Option Value) (base : Heap) (x : Str) (k : Nat) (sp : Sp) : Prop where
  ex : ∃ fd ps, FnW P w K mg base k (He.ga K x) fd ps sp ∧ Binds K fd ps []
  mg : mg x = some (.ref (He.ga K x))
  kp : PySem.W.keepIn K (.ref (He.ga K x)) = true
section
variable {X : Cx} {k j : Nat} {sp : Sp} {x : Str} {p pos : Pos} {e : Expr} {es : List Expr} {t : TA}
theorem pe_w (F : WOk X.prog X.w X.K X.mg X.base x k sp) (hr : RoomW j X.A) (hk : k ≤ j) (ha : PA X (e :: es) t) (hg : Gl X x := by rfl)
    (hdb : (x == ("__debug__" : Str)) = false := by decide) (he : starEach (e :: es) X.env = (false, eval e X.env) :: starEach es X.env := by rfl) (hpl : (backTo pos (starEach es X.env)).any (·.1) = false := by rfl) :
    PE X (.Call (.Name x p) (e :: es) [] pos) (tCallS sp EN t) := by
  obtain ⟨fd, ps, F1, hb⟩ := F.ex
  refine ⟨fun pins s σ H Q I h => ?_⟩
  refine wpAny_Call_Name_kw (ld_glob I hg F.mg ?_ hdb)
  refine PySem.W.callWith_K (h₀ := X.base) I.ok.mod.kin F.kp (thn (ha.run pos pins s σ H _ I h) fun us s1 ⟨vs, H1, I1, r, q⟩ => ⟨I1.kIn, ?_⟩) he hpl
  have hl : us.length = ps.length := by rw [← r.length]; exact F1.len _ _ _ _ q
  have b := hb s1 us I1.kIn (by rw [List.append_nil]; exact hl)
  rw [List.append_nil] at b
  refine wpAny_call (codeAny_mono (F1.run X.A X.stack s1 H1 ⟨us, []⟩ us vs Q _ (hr.mono hk) I1.env0 b r q) fun r s' hq => ?_)
  cases r with
  | error e => exact False.elim hq
  | ok fl =>
    cases fl with
    | ret u => exact I1.after hq
    | next => exact False.elim hq
    | brk => exact False.elim hq
    | cont => exact False.elim hq
end
end Ms
set_option Elab.async false
set_option linter.all false
set_option maxRecDepth 100000
set_option maxHeartbeats 4000000
/-! Ms, walks: list(zip(s, t)) and enumerate(t) of tuples. -/
namespace MsZ
open PySem RZ
open PySem.Sem (wp)
section
variable {prog : Program} {w : World} {A : Around} {E : Value → Shared → Prop} {s : Shared}
variable {z TI TO T i1 i2 l1 l2 : Addr} {f : Bool} {oT : Obj} {k1 k2 : Nat} {xs ys : Array Value}
/-- a zip of two tuples whose pair T is still out: the next pair -/
theorem held_item {x y : Value} {Q : Option Value → Shared → Prop} (D : ZipApart z TI TO i1 i2 l1 l2) (hz : IsZipHeld s.heap z TI TO T f) (hT : s.heap.get? T = some oT) (hTI : IsPair s.heap TI (.ref i1) (.ref i2))
    (h1 : s.heap.IsTupleIter i1 l1 k1) (h2 : s.heap.IsTupleIter i2 l2 k2) (hl1 : s.heap.IsTuple l1 xs) (hl2 : s.heap.IsTuple l2 ys) (hx : xs[k1]? = some x) (hy : ys[k2]? = some y)
    (hQ : ∀ h', IsZipHeld h' z TI TO T true → h'.IsTupleIter i1 l1 (k1 + 1) → h'.IsTupleIter i2 l2 (k2 + 1) → IsPair h' s.heap.objs.size x y → h'.objs.size = s.heap.objs.size + 1 →
      (∀ c o, c ≠ z → c ≠ i1 → c ≠ i2 → s.heap.get? c = some o → h'.get? c = some o) → Q (some (.ref s.heap.objs.size)) { s with heap := h' }) :
    wpAny (model prog w) A (pyNext (.ref z)) Q E s := by
  have ty : s.TypeIs (.ref z) "zip" := ⟨_, hz, rfl⟩
  unfold pyNext
  refine wpAny_bind (wpAny_attempt (wpAny_callSpecial?_slot (name := Str.ofString "__next__") ty F.slot_zip_next (wpAny_call_entry F.slot_zip_next ty F.entry_zip_next ?_ (F.args_zip_next_1 _))))
  show wpAny _ _ (field (.ref z) 2 >>= _) _ _ _
  refine wpAny_bind (wpAny_field hz rfl (x := .bool false) rfl ?_)
  show wpAny _ _ (field (.ref z) 3 >>= _) _ _ _
  refine wpAny_bind (wpAny_field hz rfl (x := .ref TI) rfl (wpAny_bind (wpAny_seqItems hTI rfl ?_)))
  show wpAny _ _ (Builtin.SmallTypes.ownedTupleIsFree (.ref z) >>= _) _ _ _
  refine wpAny_bind (wpAny_tupleHeld_zip hz hT fun g1 hz1 b1 => ?_)
  simp only [Bool.false_eq_true, if_false]
  rw [← Array.forIn_toList]
  simp only [List.forIn_cons, List.forIn_nil]
  refine wpAny_bind (wpAny_bind (wpAny_bind (wpAny_holding ?_)))
  show wpAny _ _ (Builtin.SmallTypes.nextOf (.ref i1) >>= _) _ _ _
  refine wpAny_bind (nextOf_tuple_item (s := { s with heap := g1 }) (h1.extBut b1.extBut D.i1z) (hl1.extBut b1.extBut D.l1z) hx fun g2 n1 b2 => wpAny_pure (wpAny_pure (wpAny_bind (wpAny_bind (wpAny_holding ?_)))))
  show wpAny _ _ (Builtin.SmallTypes.nextOf (.ref i2) >>= _) _ _ _
  refine wpAny_bind (nextOf_tuple_item (s := { s with heap := g2 }) ((h2.extBut b1.extBut D.i2z).extBut b2.extBut D.i12.symm) ((hl2.extBut b1.extBut D.l2z).extBut b2.extBut D.l2i1) hy fun g3 n2 b3 => wpAny_pure (wpAny_pure (wpAny_pure ?_)))
  show wpAny _ _ (newTuple [x, y] >>= _) _ _ _
  refine wpAny_bind (wpAny_newTuple (wpAny_pure ⟨_, rfl, wpAny_pure ?_⟩))
  have sz : g3.objs.size = s.heap.objs.size := by rw [b3.1, b2.1, b1.1]
  have hz3 : IsZipHeld g3 z TI TO T true := b3.extBut _ _ D.i2z.symm (b2.extBut _ _ D.i1z.symm hz1)
  have n13 : g3.IsTupleIter i1 l1 (k1 + 1) := n1.extBut b3.extBut D.i12
  have pr : IsPair (g3.push { cls := .type "tuple", data := .seq #[x, y] }) g3.objs.size x y := Heap.get?_push_size _ rfl
  have sz4 : (g3.push { cls := .type "tuple", data := .seq #[x, y] }).objs.size = g3.objs.size + 1 := Heap.size_push ..
  show Q (some (.ref g3.objs.size)) _
  rw [sz] at pr sz4 ⊢
  exact hQ _ (Heap.get?_push_of_some _ hz3) (n13.at fun o e => Heap.get?_push_of_some _ e) (n2.at fun o e => Heap.get?_push_of_some _ e) pr sz4 fun c o c1 c2 c3 e => Heap.get?_push_of_some _ (b3.extBut _ _ c3 (b2.extBut _ _ c2 (b1.extBut _ _ c1 e)))
/-- .. no further pair -/
theorem held_end {Q : Option Value → Shared → Prop} (hh : A.handled = none) (D : ZipApart z TI TO i1 i2 l1 l2) (hz : IsZipHeld s.heap z TI TO T f) (hT : s.heap.get? T = some oT) (hTI : IsPair s.heap TI (.ref i1) (.ref i2))
    (h1 : s.heap.IsTupleIter i1 l1 k1) (hl1 : s.heap.IsTuple l1 xs) (hx : xs[k1]? = none)
    (hQ : ∀ h', (∀ c o, c ≠ z → c ≠ i1 → c ≠ i2 → s.heap.get? c = some o → h'.get? c = some o) → Q none { s with heap := h' }) : wpAny (model prog w) A (pyNext (.ref z)) Q E s := by
  have ty : s.TypeIs (.ref z) "zip" := ⟨_, hz, rfl⟩
  unfold pyNext
  refine wpAny_bind (wpAny_attempt (wpAny_callSpecial?_slot (name := Str.ofString "__next__") ty F.slot_zip_next (wpAny_call_entry F.slot_zip_next ty F.entry_zip_next ?_ (F.args_zip_next_1 _))))
  show wpAny _ _ (field (.ref z) 2 >>= _) _ _ _
  refine wpAny_bind (wpAny_field hz rfl (x := .bool false) rfl ?_)
  show wpAny _ _ (field (.ref z) 3 >>= _) _ _ _
  refine wpAny_bind (wpAny_field hz rfl (x := .ref TI) rfl (wpAny_bind (wpAny_seqItems hTI rfl ?_)))
  show wpAny _ _ (Builtin.SmallTypes.ownedTupleIsFree (.ref z) >>= _) _ _ _
  refine wpAny_bind (wpAny_tupleHeld_zip hz hT fun g1 hz1 b1 => ?_)
  simp only [Bool.false_eq_true, if_false]
  rw [← Array.forIn_toList]
  simp only [List.forIn_cons, List.forIn_nil]
  refine wpAny_bind (wpAny_bind (wpAny_bind (wpAny_holding ?_)))
  show wpAny _ _ (Builtin.SmallTypes.nextOf (.ref i1) >>= _) _ _ _
  refine wpAny_bind (nextOf_tuple_end (s := { s with heap := g1 }) hh (h1.extBut b1.extBut D.i1z) (hl1.extBut b1.extBut D.l1z) hx fun g2 e b2 he => ?_)
  obtain ⟨o, ho, hc⟩ := he
  refine wpAny_bind (wpAny_isInstance (T := "StopIteration") (b := true) ⟨o, ho, hc⟩ isSubtype_stop ?_)
  exact wpAny_pure (hQ _ fun c o c1 c2 _ x => b2 _ _ c2 (b1.extBut _ _ c1 x))
end

/-- how far a zip has gone: nothing is out yet, or a pair T is -/
def St (h : Heap) (z TI TO i1 i2 l1 l2 S : Addr) (i : Nat) : Prop :=
  IsPair h TI (.ref i1) (.ref i2) ∧ h.IsTupleIter i1 l1 i ∧ h.IsTupleIter i2 l2 i ∧
    ((IsZip h z TI TO .none ∧ ∃ a b, IsPair h TO a b) ∨ ∃ T f oT, IsZipHeld h z TI TO T f ∧ h.get? T = some oT ∧ T ≠ z ∧ T ≠ i1 ∧ T ≠ i2 ∧ T ≠ S)
section
variable {prog : Program} {w : World} {A : Around} {E : Value → Shared → Prop} {s : Shared} {z TI TO i1 i2 l1 l2 S : Addr} {i : Nat} {xs ys : Array Value}
theorem St.at {h h' : Heap} (st : St h z TI TO i1 i2 l1 l2 S i) (nS : z ≠ S ∧ TI ≠ S ∧ TO ≠ S ∧ i1 ≠ S ∧ i2 ≠ S) (k : ∀ b o, b ≠ S → h.get? b = some o → h'.get? b = some o) : St h' z TI TO i1 i2 l1 l2 S i := by
  obtain ⟨a1, a2, a3, a4⟩ := st
  obtain ⟨n1, n2, n3, n4, n5⟩ := nS
  refine ⟨k _ _ n2 a1, a2.at fun o q => k _ o n4 q, a3.at fun o q => k _ o n5 q, ?_⟩
  rcases a4 with ⟨b1, a, b, b2⟩ | ⟨T, f, oT, b1, b2, c1, c2, c3, c4⟩
  · exact .inl ⟨k _ _ n1 b1, a, b, k _ _ n3 b2⟩
  · exact .inr ⟨T, f, oT, k _ _ n1 b1, k _ _ c4 b2, c1, c2, c3, c4⟩
theorem next_item {x y : Value} {Q : Option Value → Shared → Prop} (D : ZipApart z TI TO i1 i2 l1 l2) (st : St s.heap z TI TO i1 i2 l1 l2 S i) (hS : S < s.heap.objs.size)
    (hl1 : s.heap.IsTuple l1 xs) (hl2 : s.heap.IsTuple l2 ys) (hx : xs[i]? = some x) (hy : ys[i]? = some y)
    (hQ : ∀ h', St h' z TI TO i1 i2 l1 l2 S (i + 1) → IsPair h' s.heap.objs.size x y → (∀ c o, c ≠ z → c ≠ TO → c ≠ i1 → c ≠ i2 → s.heap.get? c = some o → h'.get? c = some o) → Q (some (.ref s.heap.objs.size)) { s with heap := h' }) :
    wpAny (model prog w) A (pyNext (.ref z)) Q E s := by
  obtain ⟨a1, a2, a3, a4⟩ := st
  have lt1 : i1 < s.heap.objs.size := by obtain ⟨_, e, _⟩ := a2; exact Heap.lt_size e
  have lt2 : i2 < s.heap.objs.size := by obtain ⟨_, e, _⟩ := a3; exact Heap.lt_size e
  rcases a4 with ⟨b1, a, b, b2⟩ | ⟨T, f, oT, b1, b2, c1, c2, c3, c4⟩
  · refine pyNext_zipT_item D b1 a1 b2 a2 a3 hl1 hl2 hx hy fun h' q1 q2 q3 q4 q5 q6 q7 => ?_
    refine hQ h' ⟨q7 _ _ D.TIz D.TITO D.TIi1 D.TIi2 a1, q3, q4, .inr ⟨_, false, _, q1, q5, Nat.ne_of_gt (Heap.lt_size b1), Nat.ne_of_gt lt1, Nat.ne_of_gt lt2, Nat.ne_of_gt hS⟩⟩ q5 q7
  · refine held_item D b1 b2 a1 a2 a3 hl1 hl2 hx hy fun h' q1 q3 q4 q5 q6 q7 => ?_
    exact hQ h' ⟨q7 _ _ D.TIz D.TIi1 D.TIi2 a1, q3, q4, .inr ⟨T, true, oT, q1, q7 _ _ c1 c2 c3 b2, c1, c2, c3, c4⟩⟩ q5 fun c o d1 _ d3 d4 e => q7 c o d1 d3 d4 e
theorem next_end {Q : Option Value → Shared → Prop} (hh : A.handled = none) (D : ZipApart z TI TO i1 i2 l1 l2) (st : St s.heap z TI TO i1 i2 l1 l2 S i)
    (hl1 : s.heap.IsTuple l1 xs) (hl2 : s.heap.IsTuple l2 ys) (hx : xs[i]? = none)
    (hQ : ∀ h', (∀ c o, c ≠ z → c ≠ TO → c ≠ i1 → c ≠ i2 → s.heap.get? c = some o → h'.get? c = some o) → Q none { s with heap := h' }) : wpAny (model prog w) A (pyNext (.ref z)) Q E s := by
  obtain ⟨a1, a2, a3, a4⟩ := st
  rcases a4 with ⟨b1, a, b, b2⟩ | ⟨T, f, oT, b1, b2, c1, c2, c3, c4⟩
  · exact pyNext_zipT_end hh D b1 a1 b2 a2 a3 hl1 hl2 (.inl hx) hQ
  · exact held_end hh D b1 b2 a1 a2 hl1 hx fun h' k => hQ h' fun c o d1 _ d3 d4 e => k c o d1 d3 d4 e

/-- the pairs made so far -/
structure Got (xs ys : Array Value) (lo : Addr) (h : Heap) (as : List Addr) : Prop where
  rise : as.Pairwise (· < ·)
  above : ∀ a ∈ as, lo < a
  pairs : ∀ (j : Nat) (a : Addr), as[j]? = some a → ∃ x y, xs[j]? = some x ∧ ys[j]? = some y ∧ IsPair h a x y
theorem Got.there {lo : Addr} {h : Heap} {as : List Addr} (g : Got xs ys lo h as) {a : Addr} (ha : a ∈ as) : a < h.objs.size := by
  obtain ⟨j, hj⟩ := List.mem_iff_getElem?.mp ha
  obtain ⟨_, _, _, _, e⟩ := g.pairs j a hj
  exact Heap.lt_size e
theorem loop {R : Result → Shared → Prop} (hh : A.handled = none) (D : ZipApart z TI TO i1 i2 l1 l2) (nS : z ≠ S ∧ TI ≠ S ∧ TO ≠ S ∧ i1 ≠ S ∧ i2 ≠ S) (nl : l1 ≠ S ∧ l2 ≠ S ∧ l1 ≠ TO ∧ l2 ≠ TO) (sz : xs.size = ys.size) (hn : xs.size ≤ sizeLine) (res : Value) {g0 : Heap} {lo : Addr} (hlo : z ≤ lo ∧ TO ≤ lo ∧ i1 ≤ lo ∧ i2 ≤ lo ∧ S ≤ lo)
    (hR : ∀ h' tk acc c as, (∀ b o, b ≠ S → b ≠ z → b ≠ TO → b ≠ i1 → b ≠ i2 → g0.get? b = some o → h'.get? b = some o) → h'.get? S = some { cls := .type "list", dict := none, data := .seq acc c, slots := #[] } → as.length = xs.size → Got xs ys lo h' as →
      acc.toList = as.map Value.ref → R (.ok (.ret res)) { s with heap := h', toks := tk }) :
    ∀ (k i : Nat) (h : Heap) (tk c : Nat) (acc : Array Value) (as : List Addr), xs.size - i = k → i ≤ xs.size → St h z TI TO i1 i2 l1 l2 S i → h.IsTuple l1 xs → h.IsTuple l2 ys → (∀ b o, b ≠ S → b ≠ z → b ≠ TO → b ≠ i1 → b ≠ i2 → g0.get? b = some o → h.get? b = some o) →
      h.get? S = some { cls := .type "list", dict := none, data := .seq acc c, slots := #[] } → acc.toList = as.map Value.ref → as.length = i → Got xs ys lo h as → lo < h.objs.size →
      codeAny (model prog w) A (.builtin "list.extend.loop" ⟨[.ref S, .ref z, res], []⟩) R { s with heap := h, toks := tk } := by
  obtain ⟨o1, o2, o3, o4, o5⟩ := hlo
  intro k
  induction k with
  | zero =>
    intro i h tk c acc as hk hi st e1 e2 keep hS hacc hal G hlt
    refine codeAny_builtin PySem.F.entry_extend_loop ?_
    rw [Around.under_plainId PySem.F.plain_extend_loop _]
    show wpAny _ A.in1 (pyNext (.ref z) >>= _) _ _ _
    refine wpAny_bind (next_end (s := { s with heap := h, toks := tk }) (A := A.in1) hh D st e1 e2 (by simp; omega) fun h' kp => ?_)
    obtain ⟨n1, n2, n3, n4, n5⟩ := nS
    refine wpAny_pure (hR h' tk acc c as (fun b o c1 c2 c3 c4 c5 e => kp b o c2 c3 c4 c5 (keep b o c1 c2 c3 c4 c5 e)) (kp S _ n1.symm n3.symm n4.symm n5.symm hS) (by omega) ⟨G.rise, G.above, fun j a hj => ?_⟩ hacc)
    obtain ⟨x, y, q1, q2, q3⟩ := G.pairs j a hj
    have la := G.above a (List.mem_of_getElem? hj)
    exact ⟨x, y, q1, q2, kp a _ (Nat.ne_of_gt (Nat.lt_of_le_of_lt o1 la)) (Nat.ne_of_gt (Nat.lt_of_le_of_lt o2 la)) (Nat.ne_of_gt (Nat.lt_of_le_of_lt o3 la)) (Nat.ne_of_gt (Nat.lt_of_le_of_lt o4 la)) q3⟩
  | succ k ih =>
    intro i h tk c acc as hk hi st e1 e2 keep hS hacc hal G hlt
    have ilt : i < xs.size := by omega
    have ilt2 : i < ys.size := by omega
    have asz : acc.size = i := by rw [← Array.length_toList, hacc, List.length_map, hal]
    have hSl : S < h.objs.size := Heap.lt_size hS
    refine codeAny_builtin PySem.F.entry_extend_loop ?_
    rw [Around.under_plainId PySem.F.plain_extend_loop _]
    show wpAny _ A.in1 (pyNext (.ref z) >>= _) _ _ _
    refine wpAny_bind (next_item (s := { s with heap := h, toks := tk }) D st hSl e1 e2 (x := xs[i]) (y := ys[i]) (by simp [ilt]) (by simp [ilt2]) fun h' st' pr kp => ?_)
    dsimp only at pr kp ⊢
    obtain ⟨n1, n2, n3, n4, n5⟩ := id nS
    have hS' := kp S _ n1.symm n3.symm n4.symm n5.symm hS
    have up : ∀ b o, b ≠ S → h'.get? b = some o → (h'.update S (Obj.mapSeq (·.push (Value.ref h.objs.size)))).get? b = some o := fun b o hb e => (Heap.get?_update_other _ _ (Ne.symm hb)).trans e
    have tup : ∀ {l : Addr} {vs : Array Value}, l ≠ S → l ≠ z → l ≠ TO → l ≠ i1 → l ≠ i2 → h.IsTuple l vs → (h'.update S (Obj.mapSeq (·.push (Value.ref h.objs.size)))).IsTuple l vs := fun {l vs} d1 d2 d3 d4 d5 q => q.at fun o e => up l o d1 (kp l o d2 d3 d4 d5 e)
    show wpAny _ A.in1 (updateSeq S (·.push (Value.ref h.objs.size)) >>= _) _ _ _
    refine wpAny_bind ?_
    refine wpAny_updateSeq hS' rfl (wpAny_pure ⟨plainId_quiet PySem.F.plain_extend_loop _, ih (i + 1) _ tk _ (acc.push (Value.ref h.objs.size)) (as ++ [h.objs.size]) (by omega) ilt (st'.at nS up)
      (tup nl.1 D.l1z nl.2.2.1 D.l1i1 D.l1i2 e1) (tup nl.2.1 D.l2z nl.2.2.2 D.l2i1 D.l2i2 e2) (fun b o c1 c2 c3 c4 c5 e => up b o c1 (kp b o c2 c3 c4 c5 (keep b o c1 c2 c3 c4 c5 e))) (Heap.get?_update_self _ hS' rfl)
      (by rw [Array.toList_push, hacc, List.map_append]; rfl) (by rw [List.length_append, hal]; rfl) ⟨?_, ?_, ?_⟩ ?_⟩) (by rw [asz]; omega) (by show (acc.push (Value.ref h.objs.size)).size ≤ sizeLine + 1; rw [Array.size_push, asz]; omega)
    · refine List.pairwise_append.mpr ⟨G.rise, List.pairwise_singleton _ _, fun a ha b hb => ?_⟩
      rw [List.mem_singleton.mp hb]
      exact G.there ha
    · intro a ha
      rcases List.mem_append.mp ha with ha | ha
      · exact G.above a ha
      · rw [List.mem_singleton.mp ha]
        exact hlt
    · intro j b hj
      rcases Nat.lt_trichotomy j as.length with h1 | h1 | h1
      · rw [List.getElem?_append_left h1] at hj
        obtain ⟨x, y, q1, q2, q3⟩ := G.pairs j b hj
        have lb := G.above b (List.mem_of_getElem? hj)
        exact ⟨x, y, q1, q2, up b _ (Nat.ne_of_gt (Nat.lt_of_le_of_lt o5 lb)) (kp b _ (Nat.ne_of_gt (Nat.lt_of_le_of_lt o1 lb)) (Nat.ne_of_gt (Nat.lt_of_le_of_lt o2 lb)) (Nat.ne_of_gt (Nat.lt_of_le_of_lt o3 lb)) (Nat.ne_of_gt (Nat.lt_of_le_of_lt o4 lb)) q3)⟩
      · subst h1
        obtain rfl : h.objs.size = b := by simpa using hj
        exact ⟨xs[as.length]'(by omega), ys[as.length]'(by omega), by simp, by simp, up _ _ (Nat.ne_of_gt hSl) (by simpa [hal] using pr)⟩
      · have hnone : (as ++ [h.objs.size])[j]? = none := List.getElem?_eq_none (by rw [List.length_append, List.length_singleton]; omega)
        rw [hnone] at hj
        cases hj
    · have e : (h'.update S (Obj.mapSeq (·.push (Value.ref h.objs.size)))).get? h.objs.size = _ := up _ _ (Nat.ne_of_gt hSl) pr
      exact Nat.lt_trans hlt (Heap.lt_size e)
end

/-! ### list(z) -/
theorem nz1 {a N S : Nat} (h : a < N) (q : N + 5 ≤ S) : a ≠ S := by omega
theorem nz2 {a N : Nat} (k : Nat) (h : a < N) : a ≠ N + k := by omega
theorem nz3 {b N : Nat} (k : Nat) (hk : k < 5) (h : b < N ∨ N + 5 ≤ b) : b ≠ N + k := by omega
theorem nz4 {b N S : Nat} (h : b < N + 5) (q : N + 5 ≤ S) : b ≠ S := by omega
theorem no_len : typeLookup (.type "zip") "__len__" = pure none := am_miss_of_fast (by decide +kernel)
theorem no_hint : typeLookup (.type "zip") "__length_hint__" = pure none := am_miss_of_fast (by decide +kernel)
section
variable {prog : Program} {w : World} {A : Around} {E : Value → Shared → Prop} {s : Shared} {z TI TO i1 i2 l1 l2 : Addr} {xs ys : Array Value}
theorem hint {Q : Bool → Shared → Prop} (hT : s.TypeIs (.ref z) "zip") (h : Q true s) : wpAny (model prog w) A (Builtin.List.listLengthHint (.ref z)) Q E s := by
  unfold Builtin.List.listLengthHint
  refine wpAny_bind (wpAny_specialOf hT no_len ?_)
  show wpAny _ _ (specialOf (.ref z) "__length_hint__" >>= _) _ _ _
  exact wpAny_bind (wpAny_specialOf hT no_hint (wpAny_pure h))
/-- what stands ahead of list(z): the zip is new, its parts lie just below it -/
structure Fresh (h : Heap) (N : Nat) (l1 l2 : Addr) (xs ys : Array Value) : Prop where
  z : IsZip h (N + 4) (N + 2) (N + 3) .none
  ti : IsPair h (N + 2) (.ref N) (.ref (N + 1))
  to : ∃ a b, IsPair h (N + 3) a b
  a1 : h.IsTupleIter N l1 0
  a2 : h.IsTupleIter (N + 1) l2 0
  b1 : h.IsTuple l1 xs
  b2 : h.IsTuple l2 ys
  sz : N + 5 ≤ h.objs.size
  lt : l1 < N ∧ l2 < N
  eq : xs.size = ys.size
  le : xs.size ≤ sizeLine
theorem Fresh.keeps {h h' : Heap} {N : Nat} (F : Fresh h N l1 l2 xs ys) (k : ∀ b o, b < N + 5 → h.get? b = some o → h'.get? b = some o) (sz : N + 5 ≤ h'.objs.size) : Fresh h' N l1 l2 xs ys := by
  obtain ⟨a, b, q⟩ := F.to
  have e : ∀ {b : Addr} {o : Obj}, b < N + 5 → h.get? b = some o → h'.get? b = some o := fun {b o} c d => k b o c d
  obtain ⟨m1, m2⟩ := F.lt
  exact ⟨e (Nat.lt_succ_self (N + 4)) F.z, e (show (N + 2 : Nat) < N + 5 by omega) F.ti, ⟨a, b, e (show (N + 3 : Nat) < N + 5 by omega) q⟩, F.a1.at fun o y => e (show (N : Nat) < N + 5 by omega) y, F.a2.at fun o y => e (show (N + 1 : Nat) < N + 5 by omega) y,
    F.b1.at fun o y => e (show l1 < N + 5 from Nat.lt_of_lt_of_le m1 (by omega)) y, F.b2.at fun o y => e (show l2 < N + 5 from Nat.lt_of_lt_of_le m2 (by omega)) y, sz, F.lt, F.eq, F.le⟩
theorem Fresh.apart {h : Heap} {N : Nat} (F : Fresh h N l1 l2 xs ys) : ZipApart (N + 4) (N + 2) (N + 3) N (N + 1) l1 l2 := PySem.W.ktu_apart N l1 l2 F.lt.1 F.lt.2
theorem extend {R : Result → Shared → Prop} {N : Nat} {S : Addr} (hh : A.handled = none) (F : Fresh s.heap N l1 l2 xs ys) (hS0 : N + 5 ≤ S) (res : Value) (c₀ : Nat) (hS : s.heap.get? S = some { cls := .type "list", data := .seq #[] c₀ })
    (hR : ∀ h' tk acc c as, (∀ b o, b ≠ S → b < N ∨ N + 5 ≤ b → s.heap.get? b = some o → h'.get? b = some o) → h'.get? S = some { cls := .type "list", dict := none, data := .seq acc c, slots := #[] } → as.length = xs.size → Got xs ys S h' as →
      acc.toList = as.map Value.ref → R (.ok (.ret res)) { s with heap := h', toks := tk }) :
    wpAny (model prog w) A.in1 (Builtin.List.listExtendWith (.ref S) (.ref (N + 4)) res)
      (fun fin s' => match fin with | .done f => R (.ok f) s' | .again c' => c'.quiet = true ∧ codeAny (model prog w) A c' R s') (fun e s' => R (.error e) s') s := by
  have hSl : S < s.heap.objs.size := Heap.lt_size hS
  have ty : ∀ {h : Heap} {g d t os}, IsZip h (N + 4) (N + 2) (N + 3) .none → (⟨h, g, d, t, os⟩ : Shared).TypeIs (.ref (N + 4)) "zip" := fun q => ⟨_, q, rfl⟩
  have nS : ((N + 4 : Nat) : Addr) ≠ S ∧ ((N + 2 : Nat) : Addr) ≠ S ∧ ((N + 3 : Nat) : Addr) ≠ S ∧ (N : Addr) ≠ S ∧ ((N + 1 : Nat) : Addr) ≠ S := by
    have q : N + 5 ≤ S := hS0
    refine ⟨?_, ?_, ?_, ?_, ?_⟩ <;> (show (_ : Nat) ≠ S; omega)
  have m1 : l1 < N := F.lt.1
  have m2 : l2 < N := F.lt.2
  have nl : l1 ≠ S ∧ l2 ≠ S ∧ l1 ≠ ((N + 3 : Nat) : Addr) ∧ l2 ≠ ((N + 3 : Nat) : Addr) := ⟨nz1 m1 hS0, nz1 m2 hS0, nz2 3 m1, nz2 3 m2⟩
  have lo : ((N + 4 : Nat) : Addr) ≤ S ∧ ((N + 3 : Nat) : Addr) ≤ S ∧ (N : Addr) ≤ S ∧ ((N + 1 : Nat) : Addr) ≤ S ∧ S ≤ S := by
    have q : N + 5 ≤ S := hS0
    refine ⟨?_, ?_, ?_, ?_, Nat.le_refl _⟩ <;> (show (_ : Nat) ≤ S; omega)
  have key : ∀ (h : Heap) (c₁ tk : Nat), (∀ b o, b ≠ S → s.heap.get? b = some o → h.get? b = some o) → S < h.objs.size →
      h.get? S = some { cls := .type "list", data := .seq #[] c₁ } → codeAny (model prog w) A (.builtin "list.extend.loop" ⟨[.ref S, .ref (N + 4), res], []⟩) R { s with heap := h, toks := tk } := by
    intro h c₁ tk hk hs1 hS₁
    obtain ⟨a, b, to⟩ := F.to
    refine loop (s := s) (g0 := s.heap) (lo := S) hh F.apart nS nl F.eq F.le res lo (fun h' tk' acc c as kp hS' hl G hacc => hR h' tk' acc c as (fun b o hb hr e => ?_) hS' hl G hacc) xs.size 0 h tk c₁ #[] [] (Nat.sub_zero _) (Nat.zero_le _)
      (St.at (h := s.heap) ⟨F.ti, F.a1, F.a2, .inl ⟨F.z, a, b, to⟩⟩ nS hk) (F.b1.at fun o e => hk l1 o nl.1 e) (F.b2.at fun o e => hk l2 o nl.2.1 e) (fun b o hb _ _ _ _ e => hk b o hb e) hS₁ rfl rfl
      ⟨List.Pairwise.nil, (fun _ ha => nomatch ha), (fun j a hj => by simp at hj)⟩ hs1
    exact kp b o hb (nz3 4 (by decide) hr) (nz3 3 (by decide) hr) (nz3 0 (by decide) hr) (nz3 1 (by decide) hr) e
  unfold Builtin.List.listExtendWith
  refine wpAny_bind (wpAny_typeOf (T := "zip") ⟨_, F.z, rfl⟩ ?_)
  have h1 : Builtin.List.listSameRef (.ref S) (.ref (N + 4)) = false := by
    have q : S ≠ ((N + 4 : Nat) : Addr) := nS.1.symm
    simp [Builtin.List.listSameRef]
    exact q
  have h2 : (Value.type "zip" == Value.type "list") = false := by decide
  have h3 : (Value.type "zip" == Value.type "tuple") = false := by decide
  simp only [h1, h2, h3, Bool.or_false, Bool.false_eq_true, if_false]
  refine wpAny_bind (wpAny_pyIter_zip F.z ?_)
  refine wpAny_bind (wpAny_holding (hint ⟨_, F.z, rfl⟩ ?_))
  refine wpAny_ite_split (fun _ => ?_) (fun hab => absurd rfl hab)
  refine wpAny_bind (wpAny_rule (wpAny_bind ?_))
  show wpAny _ _ (updateSeq S (·.push .none) >>= fun _ => updateSeq S (·.pop)) _ _ _
  refine wpAny_bind (wpAny_updateSeq hS rfl ?_)
  have hS₂ := Heap.get?_update_self (Obj.mapSeq (·.push Value.none)) hS rfl
  refine wpAny_updateSeq (hz := by seq_fits) hS₂ rfl ?_
  have hS₃ := Heap.get?_update_self (Obj.mapSeq (·.pop)) hS₂ rfl
  refine wpAny_pure ⟨plainId_quiet PySem.F.plain_extend_loop _, key _ _ _ (fun b o hb e => ?_) ?_ hS₃⟩
  · exact (Heap.get?_update_other _ _ (Ne.symm hb)).trans ((Heap.get?_update_other _ _ (Ne.symm hb)).trans e)
  · exact Heap.lt_size hS₃
theorem call_list_zip {Q : Value → Shared → Prop} {N : Nat} (hh : A.handled = none) (F : Fresh s.heap N l1 l2 xs ys)
    (hQ : ∀ h' tk acc c as, (∀ b o, b < N ∨ N + 5 ≤ b → s.heap.get? b = some o → h'.get? b = some o) → h'.get? s.heap.objs.size = some { cls := .type "list", dict := none, data := .seq acc c, slots := #[] } → as.length = xs.size → Got xs ys s.heap.objs.size h' as →
      acc.toList = as.map Value.ref → Q (.ref s.heap.objs.size) { s with heap := h', toks := tk }) :
    wpAny (model prog w) A (call (.type "list") [.ref (N + 4)]) Q E s := by
  refine callType_codes (Q₁ := fun obj s₁ => obj = .ref s.heap.objs.size ∧ s₁ = { s with heap := s.heap.push { cls := .type "list", data := .seq #[] } }) PySem.F.called_list (PySem.F.typeCall_list_1 _) PySem.F.entry_list_init
    (code_list_new _ ⟨rfl, rfl⟩) fun obj s₁ h₁ => ?_
  obtain ⟨rfl, rfl⟩ := h₁
  have hS : (s.heap.push { cls := .type "list", data := .seq #[] }).get? s.heap.objs.size = some { cls := .type "list", data := .seq #[] } := Heap.get?_push_size _ rfl
  have big : N + 5 ≤ s.heap.objs.size := F.sz
  have F1 : Fresh (s.heap.push { cls := .type "list", data := .seq #[] }) N l1 l2 xs ys := F.keeps (fun b o _ e => Heap.get?_push_of_some _ e) (by rw [Heap.size_push]; omega)
  refine ⟨⟨_, hS, rfl⟩, PySem.F.args_list_init_2 _ _, ?_⟩
  show wpAny _ _ (do let old ← Builtin.List.listItems (.ref s.heap.objs.size); Builtin.List.listUpdate (.ref s.heap.objs.size) (fun _ => #[]); letGo old.toList.reverse; Builtin.List.listExtendWith (.ref s.heap.objs.size) (.ref (N + 4)) .none) _ _ _
  refine wpAny_bind ?_
  unfold Builtin.List.listItems
  refine wpAny_bind (wpAny_seqItems hS rfl (wpAny_pure ?_))
  show wpAny _ _ (updateSeq s.heap.objs.size (fun _ => #[]) >>= fun _ => letGo (#[] : Array Value).toList.reverse >>= fun _ => Builtin.List.listExtendWith (.ref s.heap.objs.size) (.ref (N + 4)) .none) _ _ _
  refine wpAny_bind (wpAny_updateSeq hS rfl ?_)
  have hS₂ := Heap.get?_update_self (Obj.mapSeq (fun _ => (#[] : Array Value))) hS rfl
  have oth : ∀ b o, b ≠ s.heap.objs.size → (s.heap.push { cls := .type "list", data := .seq #[] }).get? b = some o → ((s.heap.push { cls := .type "list", data := .seq #[] }).update s.heap.objs.size (Obj.mapSeq (fun _ => (#[] : Array Value)))).get? b = some o :=
    fun b o hb e => (Heap.get?_update_other _ _ (Ne.symm hb)).trans e
  refine wpAny_bind (wpAny_letGo ?_)
  refine extend (A := A.in1) (N := N) (S := s.heap.objs.size) hh (F1.keeps (fun b o hb e => oth b o ?_ e) ?_) big .none _ hS₂ fun h' tk acc c as hk hS' hl G hacc => ⟨rfl, hQ h' tk acc c as (fun b o hb e => ?_) hS' hl G hacc⟩
  · exact nz4 hb big
  · exact Nat.le_trans big (Nat.le_of_lt (Heap.lt_size hS₂))
  · have nb : b ≠ s.heap.objs.size := Nat.ne_of_lt (Heap.lt_size e)
    exact hk b o nb hb (oth b o nb (Heap.get?_push_of_some _ e))
end
end MsZ
set_option Elab.async false
set_option linter.all false
set_option maxRecDepth 100000
set_option maxHeartbeats 4000000
/-! Ms: list(zip(s, t)) of two tuples. -/
namespace Ms
open PySem PySem.Spec PyProof.Rows L2
/-- pairs tracked at their addresses -/
def putP : Hp → List Addr → List (V × V) → Hp
  | H, a :: as, p :: ps => putP (upd H a (.tup [p.1, p.2])) as ps
  | H, _, _ => H
theorem putP_off {b : Addr} : ∀ (as : List Addr) (ps : List (V × V)) (H : Hp), b ∉ as → putP H as ps b = H b
  | [], _, _, _ => rfl
  | _ :: _, [], _, _ => rfl
  | a :: as, p :: ps, H, h => by
    show putP (upd H a (.tup [p.1, p.2])) as ps b = H b
    rw [putP_off as ps _ (fun z => h (List.mem_cons_of_mem _ z)), upd_ne (fun z => h (by rw [z]; exact List.mem_cons_self))]
theorem putP_at : ∀ (as : List Addr) (ps : List (V × V)) (H : Hp), as.length = ps.length → as.Nodup → Paired (fun (t : Addr) (p : V × V) => putP H as ps t = some (.tup [p.1, p.2])) as ps
  | [], [], _, _, _ => .nil
  | [], _ :: _, _, h, _ => by cases h
  | _ :: _, [], _, h, _ => by cases h
  | a :: as, p :: ps, H, h, hn => by
    have hn' := List.nodup_cons.mp hn
    refine .cons ?_ (putP_at as ps (upd H a (.tup [p.1, p.2])) (Nat.succ.inj h) hn'.2)
    show putP (upd H a (.tup [p.1, p.2])) as ps a = some (.tup [p.1, p.2])
    rw [putP_off as ps _ hn'.1, upd_same]
/-- what a list of new pairs asks -/
def NewPairs (H : Hp) (ps : List (V × V)) (Q : VK) : Prop := ∀ (H' : Hp) (p : Addr) (ts : List Addr), (∀ b o, H b = some o → H' b = some o) → H p = none → (∀ t ∈ ts, H t = none) → p ∉ ts → H' p = some (.lst (ts.map V.ref)) →
  Paired (fun (t : Addr) (q : V × V) => H' t = some (.tup [q.1, q.2])) ts ps → Q (.ref p) H'
def tLZip (K : PySem.W.Frag) (ta : TA) : TE := fun σ H Q => ta σ H fun vs H1 => ∃ (a b : Addr) (xs ys : List V), vs = [.ref a, .ref b] ∧ SqT K H1 a xs ∧ SqT K H1 b ys ∧ xs.length = ys.length ∧ NewPairs H1 (xs.zip ys) Q
section
variable {X : Cx}
theorem zip_laid {pins : List (Addr × Obj)} {σ : St} {H : Hp} {s s0 : Shared} {h' : Heap} {tk : Nat} {xs ys : List V} {us vs : List Value} {acc : Array Value} {c : Nat} {as : List Addr} (I : Inv X pins σ H s0) (hle : s0.heap.objs.size ≤ s.heap.objs.size) (es : { s with heap := h', toks := tk } = { s0 with heap := h', toks := tk }) (hz : xs.length ≤ sizeLine) (rx : Vals xs us) (ry : Vals ys vs) (hxy : xs.length = ys.length)
    (hk : ∀ b o, s0.heap.get? b = some o → h'.get? b = some o) (hS : h'.get? s.heap.objs.size = some { cls := .type "list", dict := none, data := .seq acc c, slots := #[] }) (hl : as.length = us.length) (hG : MsZ.Got us.toArray vs.toArray s.heap.objs.size h' as) (hacc : acc.toList = as.map Value.ref) :
    ∃ H' : Hp, (∀ b o, H b = some o → H' b = some o) ∧ H s.heap.objs.size = none ∧ (∀ t ∈ as, H t = none) ∧ s.heap.objs.size ∉ as ∧ H' s.heap.objs.size = some (.lst (as.map V.ref)) ∧ Paired (fun (t : Addr) (q : V × V) => H' t = some (.tup [q.1, q.2])) as (xs.zip ys) ∧ Inv X pins σ H' { s with heap := h', toks := tk } := by
  have lx := rx.length
  have ly := ry.length
  have hSn : s.heap.objs.size ∉ as := fun z => Nat.lt_irrefl _ (hG.above _ z)
  have nd : as.Nodup := List.Pairwise.imp (fun {a b} (h : a < b) => Nat.ne_of_lt h) hG.rise
  have new : ∀ t ∈ as, H t = none := fun t ht => I.hok.fresh (Nat.le_trans hle (Nat.le_of_lt (hG.above t ht)))
  have newS : H s.heap.objs.size = none := I.hok.fresh hle
  have lz : as.length = (xs.zip ys).length := by rw [List.length_zip]; omega
  have atP := putP_at as (xs.zip ys) (upd H s.heap.objs.size (.lst (as.map V.ref))) lz nd
  have off : ∀ b, b ∉ as → b ≠ s.heap.objs.size → putP (upd H s.heap.objs.size (.lst (as.map V.ref))) as (xs.zip ys) b = H b := fun b h1 h2 => by rw [putP_off as _ _ h1, upd_ne h2]
  have low : ∀ b o, s0.heap.get? b = some o → b ∉ as ∧ b ≠ s.heap.objs.size := fun b o e => ⟨fun z => absurd (Heap.lt_size e) (Nat.not_lt.mpr (Nat.le_trans hle (Nat.le_of_lt (hG.above b z)))), Nat.ne_of_lt (Nat.lt_of_lt_of_le (Heap.lt_size e) hle)⟩
  have kp : ∀ b u, H b = some u → (putP (upd H s.heap.objs.size (.lst (as.map V.ref))) as (xs.zip ys)) b = some u := fun b u e => by
    rw [off b (fun z => by rw [new b z] at e; cases e) (fun z => by rw [z, newS] at e; cases e)]
    exact e
  have eS : putP (upd H s.heap.objs.size (.lst (as.map V.ref))) as (xs.zip ys) s.heap.objs.size = some (.lst (as.map V.ref)) := by rw [putP_off as _ _ hSn, upd_same]
  refine ⟨putP (upd H s.heap.objs.size (.lst (as.map V.ref))) as (xs.zip ys), kp, newS, new, hSn, eS, atP, ?_⟩
  rw [es]
  refine I.call' (ch := []) rfl ⟨fun b o q _ _ _ => hk b o q, fun b o q _ _ _ => ⟨o.slots, hk b o q⟩, fun b o q n _ => ?_, fun b o q _ => ⟨o, hk b o q⟩, fun b xs q => kp b _ q, fun b o u q => kp b _ q, fun b ps q => ⟨#[], by rw [kp b _ q]; simp⟩⟩ (fun b u q => ?_) I.bare fun b z => by simp at z
  · obtain ⟨z1, z2⟩ := low b o q
    rw [off b z1 z2]
    exact n
  · by_cases hb : b ∈ as
    · obtain ⟨j, pk, e1, e2, e3⟩ := LiI.paired_ix atP hb
      rw [e3] at q
      cases q
      obtain ⟨x, y, f1, f2, f3⟩ := hG.pairs j b e1
      obtain ⟨g1, g2⟩ := List.getElem?_zip_eq_some.mp e2
      obtain ⟨u, k1, k2⟩ := LiI.paired_get rx g1
      obtain ⟨v, k3, k4⟩ := LiI.paired_get ry g2
      rw [List.getElem?_toArray] at f1 f2
      rw [f1] at k1
      rw [f2] at k3
      cases k1
      cases k3
      exact ⟨by show 2 ≤ sizeLine; decide, [x, y], .cons k2 (.cons k4 .nil), ⟨_, f3, rfl, _, rfl⟩⟩
    · by_cases hb2 : b = s.heap.objs.size
      · rw [hb2] at q ⊢
        rw [eS] at q
        cases q
        refine ⟨by rw [List.length_map]; omega, acc.toList, c, by rw [hacc]; exact LiI.vals_refs as, ?_⟩
        rw [Array.toArray_toList]
        exact hS
      · rw [off b hb hb2] at q
        exact (I.hok b u q).stay (fun d v _ y => hk d v y) (fun d y => kp d _ y) fun d xs y => kp d _ y
/-- list(zip(a, b)), both tuples of one length -/
theorem pe_lzip {e e2 : Expr} {ta : TA} {p p2 pos pos2 : Pos} (hg2 : Gl X "zip") (hm2 : X.mg "zip" = none) (hg : Gl X "list") (hm : X.mg "list" = none) (hv : bootBuiltins "list" = some (.type "list")) (ha : PA X [e, e2] ta) (hc : X.calm = true := by rfl)
    (hs2 : starEach [e, e2] X.env = (false, eval e X.env) :: starEach [e2] X.env := by rfl) (hpl2 : (backTo pos2 (starEach [e2] X.env)).any (·.1) = false := by rfl)
    (hs : starEach [.Call (.Name "zip" p2) [e, e2] [] pos2] X.env = (false, eval (.Call (.Name "zip" p2) [e, e2] [] pos2) X.env) :: starEach [] X.env := by rfl) :
    PE X (.Call (.Name "list" p) [.Call (.Name "zip" p2) [e, e2] [] pos2] [] pos) (tLZip X.K ta) := by
  refine ⟨fun pins s σ H Q I h => ?_⟩
  refine wpAny_Call_Name_kw (ld_blt I hg hm hv ?_)
  refine PyProof.Rows.callWith_type1 ?_ hs rfl
  rw [hs]
  show wpAny _ _ (spliced ((false, eval (.Call (.Name "zip" p2) [e, e2] [] pos2) X.env) :: backTo pos (starEach [] X.env))) _ _ s
  refine Calls.spliced_cons ?_
  refine Call_ (ld_blt I hg2 hm2 PyProof.Rows.boot_zip (PyProof.Rows.callWith_type1 (thn (ha.run pos2 pins s σ H _ I h) fun us s1 ⟨vs, H1, I1, r1, q1⟩ => ?_) hs2 hpl2))
  obtain ⟨a, b, xs, ys, ex, hqx, hqy, hl, q⟩ := q1
  subst ex
  obtain ⟨u1, u2, rfl, r, r'⟩ := vals2 r1
  cases r
  cases r'
  obtain ⟨its, rv, p1, hz⟩ := I1.tuple hqx
  obtain ⟨its2, rv2, p2', _⟩ := I1.tuple hqy
  have t1 : s1.heap.IsTuple a its.toArray := p1
  have t2 : s1.heap.IsTuple b its2.toArray := p2'
  obtain ⟨o1, ho1, _⟩ := id p1
  obtain ⟨o2, ho2, _⟩ := id p2'
  have lx := rv.length
  have ly := rv2.length
  refine RZ.call_zipT t1 t2 fun h' hz' hTI hTO h1 h2 hsz hk => ?_
  refine Calls.spliced_nil ?_
  have F : MsZ.Fresh h' s1.heap.objs.size a b its.toArray its2.toArray := ⟨hz', hTI, ⟨_, _, hTO⟩, h1, h2, t1.at fun o x => hk a o x, t2.at fun o x => hk b o x, Nat.le_of_eq hsz.symm, ⟨Heap.lt_size ho1, Heap.lt_size ho2⟩,
    by simp only [List.size_toArray]; omega, by simp only [List.size_toArray]; omega⟩
  refine MsZ.call_list_zip (s := { s1 with heap := h' }) (I.ok.hd hc) F fun h3 tk acc c as hk3 hS hl3 hG hacc => ?_
  obtain ⟨H', k1, k2, k3, k4, k5, k6, J⟩ := zip_laid (s := { s1 with heap := h' }) (s0 := s1) (tk := tk) I1 (by show s1.heap.objs.size ≤ h'.objs.size; omega) rfl hz rv rv2 hl (fun b o z => hk3 b o (.inl (Heap.lt_size z)) (hk b o z)) hS (by simpa using hl3) hG hacc
  exact ⟨.ref _, H', J, rfl, q H' _ as k1 k2 k3 k4 k5 k6⟩
end
end Ms
set_option Elab.async false
set_option linter.all false
set_option maxRecDepth 100000
set_option maxHeartbeats 4000000
/-! Ms: enumerate over a tuple. -/
namespace MsE
open PySem
open PySem.Sem (wp)
open AutoSeq1 (wpAny_loadPart')
theorem meets_new (l : Addr) (items : Array Value) (n : Nat) (dct : Option Addr) (sl : Array (Option Value)) :
    Meets (Builtin.«enumerate.__new__» ⟨[.type "enumerate", .ref l], []⟩) (fun _ R s => s.heap.get? l = some { cls := .type "tuple", dict := dct, data := .seq items n, slots := sl } ∧
      R (.ok (.ret (.ref (s.heap.push { cls := .type "tuple_iterator", data := .fields #[.ref l, .int 0 0] }).objs.size)))
        { s with heap := (s.heap.push { cls := .type "tuple_iterator", data := .fields #[.ref l, .int 0 0] }).push { cls := .type "enumerate", data := .fields #[.none, .bool false, .ref s.heap.objs.size, rawInt 0, .none, .none] } }) :=
  .of_wp fun prog w A R s h => by
    obtain ⟨hp, g, d, tk, os⟩ := s
    obtain ⟨hl, h⟩ := h
    have sub := sub_enumerate
    have t : Heap.IsTuple (Shared.heap ⟨hp, g, d, tk, os⟩) l items := ⟨_, hl, rfl, n, rfl⟩
    wp_walk using wpAny_loadPart' hl
    refine wpAny_stack_any fun st => wpAny_pure ?_
    split
    · rename_i c _ _ _ _ _
      cases (c == Value.type "enumerate")
      · wp_walk using wpAny_loadPart' hl, wpAny_pyIter_tuple t
        exact ⟨_, rfl, h⟩
      · wp_walk using wpAny_loadPart' hl, wpAny_pyIter_tuple t
        exact ⟨_, rfl, h⟩
    · wp_walk using wpAny_loadPart' hl, wpAny_pyIter_tuple t
      exact ⟨_, rfl, h⟩
section
variable {prog : Program} {w : World} {A : Around} {E : Value → Shared → Prop} {s : Shared}
theorem call_enum {l : Addr} {items : Array Value} {Q : Value → Shared → Prop} (hL : s.heap.IsTuple l items)
    (h : ∀ h', IsEnum h' (s.heap.objs.size + 1) s.heap.objs.size 0 .none → h'.IsTupleIter s.heap.objs.size l 0 → (∀ b o, s.heap.get? b = some o → h'.get? b = some o) → Q (.ref (s.heap.objs.size + 1)) { s with heap := h' }) :
    wpAny (model prog w) A (call (.type "enumerate") [.ref l]) Q E s := by
  obtain ⟨⟨c, dct, dt, sl⟩, hl, hc, n, hd⟩ := hL
  dsimp only at hc hd
  subst hc hd
  refine callType_new F.called_enumerate (by decide) (F.typeCall_enumerate_1 _) (F.newCall_enumerate_1 _) (fun obj => F.args_object_init_2 obj _) F.entry_enumerate_new (meets_new l items n dct sl) ⟨hl, ?_⟩
  have hz : (s.heap.push { cls := .type "tuple_iterator", data := .fields #[.ref l, .int 0 0] }).objs.size = s.heap.objs.size + 1 := Heap.size_push ..
  have he := Heap.get?_push_size (s.heap.push { cls := .type "tuple_iterator", data := .fields #[.ref l, .int 0 0] }) (o := { cls := .type "enumerate", data := .fields #[.none, .bool false, .ref s.heap.objs.size, rawInt 0, .none, .none] }) rfl
  rw [hz] at he
  show _ ∧ _
  rw [hz]
  exact ⟨⟨_, he, rfl⟩, h _ he ⟨_, Heap.get?_push_of_some _ (Heap.get?_push_size _ rfl), rfl, rfl⟩ fun b o x => Heap.get?_push_of_some _ (Heap.get?_push_of_some _ x)⟩
end
end MsE
namespace Ms
open PySem PySem.Spec PyProof.Rows L2
/-- enumerate(t): the tuple's items, each with its place in a new pair -/
def ItE (K : PySem.W.Frag) (a : Addr) : It :=
  ⟨fun i H => ∃ (xs : List V) (x : V), SqT K H a xs ∧ xs[i]? = some x, fun i H v H' => ∃ T x, v = .ref T ∧ H T = none ∧ H' = upd H T (.tup [.int (i : Nat), x]) ∧ ∀ xs, SqT K H a xs → xs[i]? = some x, fun i H => ∃ xs : List V, SqT K H a xs ∧ xs.length = i⟩
theorem turn_enumT {P : Program} {w : World} {K : PySem.W.Frag} {elts : List Expr} {kk : Nat} {tpos : Pos} (a e it : Addr) (hae : a ≠ e) (hai : a ≠ it) (hei : e ≠ it) :
    Turn P w K (.Tuple elts kk tpos) (ItE K a) [e, it] e (fun i h => (∃ old, IsEnum h e it ((i : Nat) : Int) old) ∧ h.IsTupleIter it a i) where
  mem := by simp
  obj := fun i h st b hb => by
    obtain ⟨⟨old, he⟩, ⟨o, ho, hc, hd⟩⟩ := st
    rcases (by simpa using hb : b = e ∨ b = it) with z | z
    · rw [z]; exact ⟨_, he, fun v q => nomatch q⟩
    · rw [z]; exact ⟨o, ho, fun v q => by rw [hd] at q; cases q⟩
  keep := fun i h h' st k => let ⟨⟨old, he⟩, hi⟩ := st; ⟨⟨old, k e (by simp) _ he⟩, hi.at fun o q => k it (by simp) o q⟩
  item := by
    intro X hP hw hK hc i pins s σ H E I hf st hg
    subst hP hw hK
    obtain ⟨⟨old, he⟩, hit⟩ := st
    obtain ⟨xs, x, hq, hx⟩ := hg
    obtain ⟨its, rv, p, hz⟩ := I.tuple hq
    obtain ⟨u, hu, ru⟩ := rv.get hx
    have t : s.heap.IsTuple a its.toArray := p
    have D := Draws.tuple (prog := X.prog) (w := X.w) (A := X.A.in1) (I.ok.hd hc) it a hai its.toArray
    have ni : i < its.toArray.size := by
      have q := List.getElem?_eq_some_iff.mp hu
      simpa using q.1
    have hel : e < s.heap.objs.size := Heap.lt_size he
    have hil : it < s.heap.objs.size := by obtain ⟨_, q, _⟩ := hit; exact Heap.lt_size q
    refine wpAny_pyNext_enum_itemC D he ⟨hit, t⟩ ni hei (by simp; exact ⟨hei, hae.symm⟩) fun y h' tk hy ho st' hT hsz hk => ?_
    have ey : y = u := by
      rw [List.getElem?_toArray, hu] at hy
      exact (Option.some.inj hy).symm
    subst ey
    refine ⟨_, rfl, wpAny_letOwnedTupleGo_enum (s := { s with heap := h', toks := tk + 1 }) ho fun h'' he' sb => ?_⟩
    have hT2 : h''.get? s.heap.objs.size = some { cls := .type "tuple", data := .seq #[.int i tk, y] } := (sb.2 _ (Nat.ne_of_gt hel)).trans hT
    have new : ObjOk X.prog X.w (upd H s.heap.objs.size (.tup [.int (i : Nat), x])) h'' s.heap.objs.size (.tup [.int (i : Nat), x]) :=
      ⟨by show 2 ≤ sizeLine; decide, [.int i tk, y], .cons ⟨_, rfl⟩ (.cons ru .nil), ⟨_, hT2, rfl, _, rfl⟩⟩
    have I1 : Inv X pins σ (upd H s.heap.objs.size (.tup [.int (i : Nat), x])) { s with heap := h'', toks := tk + 1 } :=
      I.turnedNew (ch := [e, it]) (fun b ob hb q => (sb.2 b (fun z => hb (by simp [z]))).trans (hk b ob (fun z => hb (by simp [z])) (fun z => hb (by simp [z])) q)) hf (Nat.le_refl _) new
    refine ⟨.ref s.heap.objs.size, _, I1, rfl, ⟨_, x, rfl, I.hok.fresh (Nat.le_refl _), rfl, fun ys hy => by rw [I.tuple_inj hy hq]; exact hx⟩, ⟨⟨y, ?_⟩, st'.1.at fun o q => (sb.2 it (Ne.symm hei)).trans q⟩, fun b hb => ?_⟩
    · have e1 : ((i + 1 : Nat) : Int) = (i : Int) + 1 := by omega
      rw [e1]; exact he'
    · have hb' : b < s.heap.objs.size := by
        rcases (by simpa using hb : b = e ∨ b = it) with z | z
        · rw [z]; exact hel
        · rw [z]; exact hil
      rw [upd_ne (Nat.ne_of_lt hb')]
      exact (hf b hb).1
  done := by
    intro X hP hw hK hc i pins s σ H E I hf st hg
    subst hP hw hK
    obtain ⟨⟨old, he⟩, hit⟩ := st
    obtain ⟨xs, hq, hx⟩ := hg
    obtain ⟨its, rv, p, hz⟩ := I.tuple hq
    have hl := rv.length
    have t : s.heap.IsTuple a its.toArray := p
    have D := Draws.tuple (prog := X.prog) (w := X.w) (A := X.A.in1) (I.ok.hd hc) it a hai its.toArray
    have ni : its.toArray.size = i := by simp; omega
    obtain ⟨f0, f1, f2, f3, f4, f5⟩ := hf it (by simp)
    exact wpAny_pyNext_enum_endD D he (by rw [ni]; exact ⟨hit, t⟩) fun h' eb => ⟨rfl, I.turned (t' := s.toks) (fun b o hb q => eb b o hb q) f0 f1 f3 f4 f5⟩
  self := fun A i s Q E st h => let ⟨⟨_, he⟩, _⟩ := st; wpAny_pyIter_enum he h
def iEnumT (K : PySem.W.Frag) (ta : TA) : TI := fun σ H R => ta σ H fun vs H1 => ∃ a xs, vs = [.ref a] ∧ SqT K H1 a xs ∧ R (ItE K a) H1
theorem pi_enumT {X : Cx} {e : Expr} {ta : TA} {p pos tpos : Pos} {elts : List Expr} {kk : Nat} (hg : Gl X "enumerate") (hm : X.mg "enumerate" = none) (ha : PA X [e] ta) (hs : starEach [e] X.env = [(false, eval e X.env)] := by rfl) :
    PI X (.Tuple elts kk tpos) (.Call (.Name "enumerate" p) [e] [] pos) (iEnumT X.K ta) := by
  refine ⟨fun pins s σ H R I h => ?_⟩
  refine Call_ (ld_blt I hg hm boot_enumerate (PyProof.Rows.callWith_type1 (thn (ha.run pos pins s σ H _ I h) fun us s1 ⟨vs, H1, I1, r1, q1⟩ => ?_) hs rfl))
  obtain ⟨a, xs, ex, hq, q⟩ := q1
  subst ex
  cases r1 with
  | cons r rr =>
    cases rr
    cases r
    obtain ⟨its, rv, p', hz⟩ := I1.tuple hq
    obtain ⟨o1, ho1, _⟩ := id p'
    have la : a < s1.heap.objs.size := Heap.lt_size ho1
    refine MsE.call_enum (items := its.toArray) p' fun h' he hit hk => wpAny_pyIter_enum he ?_
    have I2 : Inv X pins σ H1 { s1 with heap := h' } := I1.kept (t' := s1.toks) hk
    refine ⟨s1.heap.objs.size + 1, [s1.heap.objs.size + 1, s1.heap.objs.size], _, _, H1, rfl, I2, turn_enumT a (s1.heap.objs.size + 1) s1.heap.objs.size (Nat.ne_of_lt (Nat.lt_succ_of_lt la)) (Nat.ne_of_lt la) (Nat.succ_ne_self _), ⟨⟨.none, he⟩, hit⟩, fun b hb => ?_, q⟩
    have hle : s1.heap.objs.size ≤ b := by
      rcases (by simpa using hb : b = s1.heap.objs.size + 1 ∨ b = s1.heap.objs.size) with z | z
      · rw [z]; exact Nat.le_add_right _ _
      · rw [z]; exact Nat.le_refl _
    exact I1.fpOk hle (I1.hok.fresh hle)
theorem walk_enumT {K : PySem.W.Frag} {a : Addr} {xs : List V} : Walk (ItE K a) xs.length (fun H => SqT K H a xs) (YPair (fun i => some (.int (i : Nat))) (fun i => xs[i]?)) := by
  refine ⟨fun i _ hi q => ⟨xs, xs[i], q, by simp [hi]⟩, fun _ q => ⟨xs, q, rfl⟩, fun i H v H' _ q y => ?_⟩
  obtain ⟨T, x, h1, h2, h3, h4⟩ := y
  exact ⟨T, .int (i : Nat), x, h1, h2, h3, rfl, h4 xs q⟩
end Ms
set_option Elab.async false
set_option linter.all false
set_option maxRecDepth 100000
set_option maxHeartbeats 4000000
/-! Ms: from a def of the text to its promise. -/
namespace Ms
open PySem PySem.Spec PyProof.Rows L2
/-- the i-th statement of a class's body -/
def mem (s : Stmt) (i : Nat) : Stmt := match s with
  | .ClassDef (body := b) .. => b.getD i (.Pass ⟨0, 0, 0, 0⟩)
  | _ => .Pass ⟨0, 0, 0, 0⟩
/-- the def st stands at f -/
abbrev DefAt (K : PySem.W.Frag) (x qual : Str) (st : Stmt) (f : Addr) : Prop := ∃ fd, FunD K x qual (defArgs st) (defBody st) (defScope st) [] [] f fd
/-- its parameters are bound in their order -/
abbrev BindsIn (x qual : Str) (st : Stmt) (ps : List Str) : Prop := ∀ (kV doc pm : Value) (an : Option Addr) (cdv ct : Value) (us : List Value), us.length = ps.length → bindArgs (PySem.W.fnOf x qual (defArgs st) (defBody st) (defScope st) .none kV doc pm an cdv ct) ⟨us, []⟩ = pure (ps.zip us)
section
variable {P : Program} {w : World} {K : PySem.W.Frag} {mg : Str → Option Value} {base : Heap} {x qual : Str} {st : Stmt} {N ps : List Str} {k : Nat} {sp : Sp} {f : Addr}
/-- the body's term and its reading, no exception leaves it -/
abbrev Goal (P : Program) (w : World) (K : PySem.W.Frag) (mg : Str → Option Value) (base : Heap) (qual : Str) (st : Stmt) (N : List Str) (f : Addr) (cdv : Value) (A : Around) (outer : List Env) (s : Shared) (H : Hp) (vs : List V) (Q : VK) (E : XK) : Prop :=
  ∃ t, PSs (cxOf (L2.CX P w) P w K mg base N qual (defScope st) f cdv A outer s H E).nox (defBody st) t ∧ t { nx := fun _ H' => Q .non H', rt := Q } (L2.start N vs) H
/-- .. an exception may leave it -/
abbrev GoalX (P : Program) (w : World) (K : PySem.W.Frag) (mg : Str → Option Value) (base : Heap) (qual : Str) (st : Stmt) (N : List Str) (f : Addr) (cdv : Value) (A : Around) (outer : List Env) (s : Shared) (H : Hp) (vs : List V) (Q : VK) (E : XK) : Prop :=
  ∃ t, PSs (cxOf (L2.CX P w) P w K mg base N qual (defScope st) f cdv A outer s H E) (defBody st) t ∧ t { nx := fun _ H' => Q .non H', rt := Q } (L2.start N vs) H
abbrev Rm (k : Nat) (qual : Str) (st : Stmt) (f : Addr) (cdv : Value) (A : Around) (s : Shared) : Prop := Room k (A.deeper (envOfC qual (defScope st) s.heap.objs.size f cdv))
abbrev Body (P : Program) (w : World) (K : PySem.W.Frag) (mg : Str → Option Value) (base : Heap) (qual : Str) (st : Stmt) (N : List Str) (k : Nat) (f : Addr) (sp : Sp) : Prop :=
  ∀ (cdv : Value) (A : Around) (outer : List Env) (s : Shared) (H : Hp) (vs : List V) (Q : VK) (E : XK), Rm k qual st f cdv A s → sp vs H Q E → Goal P w K mg base qual st N f cdv A outer s H vs Q E
abbrev BodyX (P : Program) (w : World) (K : PySem.W.Frag) (mg : Str → Option Value) (base : Heap) (qual : Str) (st : Stmt) (N : List Str) (k : Nat) (f : Addr) (sp : Sp) : Prop :=
  ∀ (cdv : Value) (A : Around) (outer : List Env) (s : Shared) (H : Hp) (vs : List V) (Q : VK) (E : XK), Rm k qual st f cdv A s → sp vs H Q E → GoalX P w K mg base qual st N f cdv A outer s H vs Q E
theorem fn_okX (F : DefAt K x qual st f) (S : FnScope N ps (defScope st)) (len : ∀ vs H Q E, sp vs H Q E → vs.length = ps.length) (hb : BindsIn x qual st ps) (body : BodyX P w K mg base qual st N k f sp) : ∃ fd ps, FnOk P w K mg base (L2.CX P w) (k + 1) f fd ps sp ∧ Binds K fd ps [] := by
  obtain ⟨fd, F⟩ := F
  exact ⟨fd, ps, F.ok S len body, F.bindsN hb⟩
theorem fn_ok (F : DefAt K x qual st f) (S : FnScope N ps (defScope st)) (len : ∀ vs H Q E, sp vs H Q E → vs.length = ps.length) (hb : BindsIn x qual st ps) (body : Body P w K mg base qual st N k f sp) : ∃ fd ps, FnOk P w K mg base (L2.CX P w) (k + 1) f fd ps sp ∧ Binds K fd ps [] :=
  fn_okX F S len hb fun cdv A outer s H vs Q E hr h => let ⟨t, h1, h2⟩ := body cdv A outer s H vs Q E hr h; ⟨t, h1.nox, h2⟩
/-- a module's def by its name -/
structure At (K : PySem.W.Frag) (mg : Str → Option Value) (x : Str) (st : Stmt) : Prop where
  df : DefAt K x x st (He.ga K x)
  gl : mg x = some (.ref (He.ga K x))
theorem ok_of (D : At K mg x st) (S : FnScope N ps (defScope st)) (len : ∀ vs H Q E, sp vs H Q E → vs.length = ps.length) (hb : BindsIn x x st ps) (body : Body P w K mg base x st N k (He.ga K x) sp) : Ok P w K mg base x (k + 1) sp :=
  ⟨fn_ok D.df S len hb body, D.gl, let ⟨_, F⟩ := D.df; F.kp⟩
theorem ok_ofX (D : At K mg x st) (S : FnScope N ps (defScope st)) (len : ∀ vs H Q E, sp vs H Q E → vs.length = ps.length) (hb : BindsIn x x st ps) (body : BodyX P w K mg base x st N k (He.ga K x) sp) : Ok P w K mg base x (k + 1) sp :=
  ⟨fn_okX D.df S len hb body, D.gl, let ⟨_, F⟩ := D.df; F.kp⟩
/-- a method of a class by both names -/
structure MAt (K : PySem.W.Frag) (c m qual : Str) (st : Stmt) : Prop where
  df : DefAt K m qual st (He.ma K (He.ga K c) m)
  cl : Cls K (He.ga K c)
  me : Meth K (He.ga K c) m (He.ma K (He.ga K c) m)
theorem mok_of {c m : Str} (D : MAt K c m qual st) (S : FnScope N ps (defScope st)) (len : ∀ vs H Q E, sp vs H Q E → vs.length = ps.length) (hb : BindsIn m qual st ps) (body : Body P w K mg base qual st N k (He.ma K (He.ga K c) m) sp) : MOk P w K mg base c m (k + 1) sp :=
  ⟨fn_ok D.df S len hb body, D.cl, D.me⟩
end
/-- arguments bound one by one -/
theorem bi1 {x q : Str} {st : Stmt} {a : Str} (h : ∀ (kV doc pm : Value) (an : Option Addr) (cdv ct u : Value), bindArgs (PySem.W.fnOf x q (defArgs st) (defBody st) (defScope st) .none kV doc pm an cdv ct) ⟨[u], []⟩ = pure [(a, u)]) : BindsIn x q st [a] := fun kV doc pm an cdv ct us hl => match us, hl with
  | [u], _ => h kV doc pm an cdv ct u
theorem bi2 {x q : Str} {st : Stmt} {a b : Str} (h : ∀ (kV doc pm : Value) (an : Option Addr) (cdv ct u v : Value), bindArgs (PySem.W.fnOf x q (defArgs st) (defBody st) (defScope st) .none kV doc pm an cdv ct) ⟨[u, v], []⟩ = pure [(a, u), (b, v)]) : BindsIn x q st [a, b] := fun kV doc pm an cdv ct us hl => match us, hl with
  | [u, v], _ => h kV doc pm an cdv ct u v
theorem bi3 {x q : Str} {st : Stmt} {a b c : Str} (h : ∀ (kV doc pm : Value) (an : Option Addr) (cdv ct u v z : Value), bindArgs (PySem.W.fnOf x q (defArgs st) (defBody st) (defScope st) .none kV doc pm an cdv ct) ⟨[u, v, z], []⟩ = pure [(a, u), (b, v), (c, z)]) : BindsIn x q st [a, b, c] := fun kV doc pm an cdv ct us hl => match us, hl with
  | [u, v, z], _ => h kV doc pm an cdv ct u v z
theorem bi4 {x q : Str} {st : Stmt} {a b c d : Str} (h : ∀ (kV doc pm : Value) (an : Option Addr) (cdv ct u v z y : Value), bindArgs (PySem.W.fnOf x q (defArgs st) (defBody st) (defScope st) .none kV doc pm an cdv ct) ⟨[u, v, z, y], []⟩ = pure [(a, u), (b, v), (c, z), (d, y)]) : BindsIn x q st [a, b, c, d] := fun kV doc pm an cdv ct us hl => match us, hl with
  | [u, v, z, y], _ => h kV doc pm an cdv ct u v z y
/-! rules whose readings name the written part by itself -/
section
variable {X : Cx} (K : PySem.W.Frag) (e : X.K = K := by rfl)
def rTupOf (K : PySem.W.Frag) : List V → Hp → VK → Prop := fun xs H Q => ∃ p ys, xs = [.ref p] ∧ ((SqL K H p ys ∧ ∀ l, H l = none → Q (.ref l) (upd H l (.tup ys))) ∨ (SqT K H p ys ∧ Q (.ref p) H))
def rLstOf (K : PySem.W.Frag) : List V → Hp → VK → Prop := fun xs H Q => ∃ p ys, xs = [.ref p] ∧ (SqL K H p ys ∨ SqT K H p ys) ∧ ∀ l, H l = none → Q (.ref l) (upd H l (.lst ys))
def rLenOf (K : PySem.W.Frag) : List V → Hp → VK → Prop := fun xs H Q => ∃ p ys, xs = [.ref p] ∧ (SqL K H p ys ∨ SqT K H p ys) ∧ Q (.int ys.length) H
include e
theorem tupK : CallR X (.type "tuple") (rTupOf K) := by subst e; exact call_tuple_of
theorem lstK : CallR X (.type "list") (rLstOf K) := by subst e; exact call_list_of
theorem lenK : CallR X (.builtin "len") (rLenOf K) := by subst e; exact call_len_seq
theorem ixL : IxR X (rIxL K) := by subst e; exact ix_list
theorem ixT : IxR X (rIxT K) := by subst e; exact ix_tup
theorem isK : CallR X (.builtin "isinstance") (rIs K) := by subst e; exact cr_is
theorem isTK : CallR X (.builtin "isinstance") (rIsT K) := by subst e; exact cr_isT
theorem eqK (hu : X.A.units + 64 < cLine) : OpR X (compareOp .Eq) (rEqD K) := by subst e; exact op_eqD hu
theorem neK (hu : X.A.units + 64 < cLine) : OpR X (compareOp .NotEq) (rNeD K) := by subst e; exact op_neD hu
theorem maxK (hc : X.calm = true) : CallR X (.builtin "max") (rMax K) := by subst e; exact cr_max hc
end
section
variable {X : Cx} {k j : Nat} {sp : Sp} {E : L2.St → XK} {x m c : Str} {p pos apos : Pos} {e o : Expr} {es : List Expr} {ta tb : TE} {t : TA} (K : PySem.W.Frag)
theorem pe_nK (F : COk X.prog X.w X.K X.mg X.base x k sp) (hr : Room j X.A) (hk : k + 1 ≤ j) (hx : ∀ σ, PassesAt (L2.CX X.prog X.w) X σ (E σ)) (ha : PA X (e :: es) t) (hK : X.K = K := by rfl) (hg : Gl X x := by rfl)
    (hdb : (x == ("__debug__" : Str)) = false := by decide) (he : starEach (e :: es) X.env = (false, eval e X.env) :: starEach es X.env := by rfl) (hpl : (backTo pos (starEach es X.env)).any (·.1) = false := by rfl) :
    PE X (.Call (.Name x p) (e :: es) [] pos) (tMakeS (He.ga K x) sp E t) := by
  subst hK
  exact pe_n F hr hk hx ha hg hdb he hpl
theorem pe_mK {pl : Sem Bool} (F : MOk X.prog X.w X.K X.mg X.base c m k sp) (hr : Room j X.A) (hk : k ≤ j) (hx : ∀ σ, PassesAt (L2.CX X.prog X.w) X σ (E σ)) (he : PE X o ta) (ha : PA X (e :: es) t) (hK : X.K = K := by rfl)
    (hst : starEach (e :: es) X.env = (false, eval e X.env) :: starEach es X.env := by rfl) (hpl : (backTo pos (starEach es X.env)).any (·.1) = false := by rfl)
    (ht : eval (.Call (.Attribute o m apos) (e :: es) [] pos) X.env = (do
      let ov ← eval o X.env
      standAt apos.atName
      let (f, first) ← holding [ov] (getMethod ov m pl)
      callWith pos f first (backTo pos (starEach (e :: es) X.env)) (backToKw pos (keywordEach [] X.env))) := by rfl) :
    PE X (.Call (.Attribute o m apos) (e :: es) [] pos) (tMethS (He.ga K c) m sp E ta t) := by
  subst hK
  exact pe_m (pl := pl) F hr hk hx he ha hst hpl ht
theorem pe_binK {op : Operator} {a b : Expr} (F : BOk X.prog X.w X.K X.mg X.base c m k sp) (ho : PySem.dunder op.info.2 = m) (hr : Room j X.A) (hk : k ≤ j) (hx : ∀ σ, PassesAt (L2.CX X.prog X.w) X σ (E σ)) (ha : PE X a ta) (hb' : PE X b tb) (hK : X.K = K := by rfl) :
    PE X (.BinOp a op b pos) (tBinS (He.ga K c) sp E ta tb) := by
  subst hK
  exact pe_bin F ho hr hk hx ha hb'
theorem pe_eqSK {a b : Expr} (F : BOk X.prog X.w X.K X.mg X.base c "__eq__" k sp) (hr : Room j X.A) (hk : k ≤ j) (hx : ∀ σ, PassesAt (L2.CX X.prog X.w) X σ (E σ)) (ha : PE X a ta) (hb' : PE X b tb) (hK : X.K = K := by rfl) :
    PE X (.Compare a [.Eq] [b] pos) (tEqS K (He.ga K c) sp E ta tb) := by
  subst hK
  exact pe_eqS F hr hk hx ha hb'
end
section
variable {X : Cx} {T name id : String} {o e : Expr} {es : List Expr} {to : TE} {t : TA} {r : V → List V → Hp → VK → Prop} {apos cpos : Pos} (K : PySem.W.Frag)
theorem pe_bmK (pa : PlainAttrs T) (slot : Slot T name id) (hty : typeOf (.builtin id) = pure (.type "method_descriptor")) (hm : MtR X id r) (ho : PE X o to) (ha : PA X (e :: es) t) (hK : X.K = K := by rfl)
    (hbase : attributeBase o name X.env (eval o X.env) = eval o X.env := by rfl)
    (hfew : ((backTo cpos (starEach (e :: es) X.env)).all (fun x => !x.1) && (backToKw cpos (keywordEach [] X.env)).all (fun x => x.1.isSome) && decide ((e :: es).length + ([] : List Keyword).length + (if ([] : List Keyword).isEmpty then 0 else 1) < 30)) = true := by rfl)
    (hline : (apos.endLine == cpos.line) = true := by rfl) (hs : starEach (e :: es) X.env = (false, eval e X.env) :: starEach es X.env := by rfl) (hplain : (backTo cpos (starEach es X.env)).any (·.1) = false := by rfl) :
    PE X (.Call (.Attribute o name apos) (e :: es) [] cpos) (tBM K T r to t) := by
  subst hK
  exact pe_bm pa slot hty hm ho ha hbase hfew hline hs hplain
end
end Ms
set_option Elab.async false
set_option linter.all false
set_option maxRecDepth 100000
set_option maxHeartbeats 4000000
/-! Ms, the head: what the top has left, told by one run. -/
namespace Ms
open PySem PySem.Spec PyProof.Rows L2
abbrev Ck : Type := PySem.W.Frag → Bool
theorem and2 {a b : Bool} (h : (a && b) = true) : a = true ∧ b = true := by simpa using h
/-- the def behind a property, a classmethod, a staticmethod of the class named c -/
def recAt (K : PySem.W.Frag) (kind : String) (c m : Str) : Addr := match PySem.W.recIn K (He.ma K (He.ga K c) m) kind with
  | some (.ref g :: _) => g
  | _ => 0
def recB (K : PySem.W.Frag) (kind : String) (c m : Str) : Bool := match PySem.W.recIn K (He.ma K (He.ga K c) m) kind with
  | some (.ref g :: _) => decide (g = recAt K kind c m)
  | _ => false
theorem recB_ok {K : PySem.W.Frag} {kind : String} {c m : Str} (h : recB K kind c m = true) : ∃ rest, PySem.W.recIn K (He.ma K (He.ga K c) m) kind = some (.ref (recAt K kind c m) :: rest) := by
  unfold recB at h
  split at h
  · rename_i g rest e
    have q := of_decide_eq_true h
    rw [e, ← q]
    exact ⟨_, rfl⟩
  · cases h
def atB (K : PySem.W.Frag) (c m : Str) : Bool := He.eqO (PySem.W.findIn K (.ref (He.ga K c)) m) (some (some (.ref (He.ma K (He.ga K c) m))))
/-- a property -/
def ckProp (c m : Str) : Ck := fun K => atB K c m && (He.eqO (PySem.W.specialIn K (.ref (He.ma K (He.ga K c) m)) "__get__") (some (some (.builtin "property.__get__"))) && (decide (PySem.W.takesIn K (.ref (He.ma K (He.ga K c) m)) = some true) && recB K "property" c m))
theorem ckProp_ok {K : PySem.W.Frag} {c m : Str} (h : ckProp c m K = true) : PropOf K (He.ga K c) m (He.ma K (He.ga K c) m) (recAt K "property" c m) := by
  obtain ⟨h1, h⟩ := and2 h
  obtain ⟨h2, h⟩ := and2 h
  obtain ⟨h3, h4⟩ := and2 h
  exact ⟨He.eqO_ok h1, He.eqO_ok h2, of_decide_eq_true h3, recB_ok h4⟩
/-- the class is read as any class -/
def ckRead (c : Str) : Ck := fun K => PySem.W.readsIn K (He.ga K c) (.type "type") && He.eqO (PySem.W.specialIn K (.ref (He.ga K c)) "__getattribute__") (some (some (.builtin "type.__getattribute__")))
theorem ckRead_ok {K : PySem.W.Frag} {c : Str} (h : ckRead c K = true) : ClX.CRead K (He.ga K c) (.type "type") := by
  obtain ⟨h1, h2⟩ := and2 h
  exact ⟨h1, He.eqO_ok h2⟩
/-- a classmethod -/
def ckCm (c m : Str) : Ck := fun K => (match PySem.W.findCls K (.ref (He.ga K c)) (.type "type") m with
  | some (.get (.builtin n) (.ref p) .none (.ref d)) => decide (n = "classmethod.__get__") && (decide (p = He.ma K (He.ga K c) m) && decide (d = He.ga K c))
  | _ => false) && (recB K "classmethod" c m && PySem.W.fnIn K (recAt K "classmethod" c m))
theorem ckCm_ok {K : PySem.W.Frag} {c m : Str} (h : ckCm c m K = true) : ClX.CMet K (He.ga K c) (.type "type") m (He.ma K (He.ga K c) m) (recAt K "classmethod" c m) := by
  obtain ⟨h1, h⟩ := and2 h
  obtain ⟨h2, h3⟩ := and2 h
  refine ⟨?_, recB_ok h2, h3⟩
  split at h1
  · rename_i n p d e
    obtain ⟨a1, a⟩ := and2 h1
    obtain ⟨a2, a3⟩ := and2 a
    rw [e, of_decide_eq_true a1, of_decide_eq_true a2, of_decide_eq_true a3]
  · cases h1
/-- an own exception class with its own __init__ (or none) -/
def oexB (K : PySem.W.Frag) (C : Addr) : Bool := match K.lookup C with
  | some ⟨.type t, _, .cls cd, sl⟩ => (match cd.mro, sl.toList with
    | .ref D :: bm, [_, _, _, _, some (.builtin n), _] => decide (t = "type") && (decide (D = C) && (decide (n = "ValueError.__new__") && (!cd.hasDel && (cd.hasDict && PySem.HandSPX.refsVE bm))))
    | _, _ => false)
  | _ => false
theorem oexB_ok {K : PySem.W.Frag} {C : Addr} (h : oexB K C = true) : ∃ nm q N bs bm sn sub ab col dd k0 k1 k2 k3 k5, K.lookup C = some (excClassObj nm q C N bs bm true sn sub ab col dd k0 k1 k2 k3 k5 "ValueError.__new__") ∧ PySem.HandSPX.refsVE bm = true := by
  unfold oexB at h
  split at h
  · rename_i t dd cd sl e
    split at h
    · rename_i D bm k0 k1 k2 k3 n k5 em es
      obtain ⟨a1, h⟩ := and2 h
      obtain ⟨a2, h⟩ := and2 h
      obtain ⟨a3, h⟩ := and2 h
      obtain ⟨a4, h⟩ := and2 h
      obtain ⟨a5, a6⟩ := and2 h
      obtain ⟨n1, n2, n3, n4, n5, n6, n7, n8, n9, n10, n11⟩ := cd
      dsimp only at em a4 a5
      have d1 := of_decide_eq_true a1
      have d2 := of_decide_eq_true a2
      have d3 := of_decide_eq_true a3
      have d4 : n11 = false := by simpa using a4
      subst d1 d2 d3 d4 a5 em
      have esl : sl = #[k0, k1, k2, k3, some (.builtin "ValueError.__new__"), k5] := by
        obtain ⟨l⟩ := sl
        dsimp only at es
        rw [es]
      subst esl
      exact ⟨_, _, _, _, _, _, _, _, _, _, _, _, _, _, _, e, a6⟩
    · cases h
  · cases h
def ckOex (c : Str) : Ck := fun K => oexB K (He.ga K c) && (He.eqO (PySem.W.findIn K (.ref (He.ga K c)) "__setattr__") (some (some (.builtin "object.__setattr__"))) && (decide (PySem.W.subIn K (.ref (He.ga K c)) (.type "BaseException") = some true) &&
  (decide (PySem.W.typeIn K (.ref (He.ga K c)) = some (.type "type")) && PySem.W.keepIn K (.ref (He.ga K c)))))
theorem ckOex_ok {K : PySem.W.Frag} {c : Str} (h : ckOex c K = true) : OexC K (He.ga K c) := by
  obtain ⟨a1, h⟩ := and2 h
  obtain ⟨a2, h⟩ := and2 h
  obtain ⟨a3, h⟩ := and2 h
  obtain ⟨a4, a5⟩ := and2 h
  exact ⟨oexB_ok a1, He.eqO_ok a2, of_decide_eq_true a3, of_decide_eq_true a4, a5⟩
/-- .. its own __init__ -/
structure ExI (K : PySem.W.Frag) (mg : Str → Option Value) (c qual : Str) (st : Stmt) : Prop where
  o : OexC K (He.ga K c)
  iC : PySem.W.findIn K (.ref (He.ga K c)) "__init__" = some (some (.ref (He.ma K (He.ga K c) "__init__")))
  tI : PySem.W.typeIn K (.ref (He.ma K (He.ga K c) "__init__")) = some (.type "function")
  df : DefAt K "__init__" qual st (He.ma K (He.ga K c) "__init__")
  gl : mg c = some (.ref (He.ga K c))
def ckIni (c : Str) : Ck := fun K => atB K c "__init__" && decide (PySem.W.typeIn K (.ref (He.ma K (He.ga K c) "__init__")) = some (.type "function"))
theorem ckIni_ok {K : PySem.W.Frag} {c : Str} (h : ckIni c K = true) : PySem.W.findIn K (.ref (He.ga K c)) "__init__" = some (some (.ref (He.ma K (He.ga K c) "__init__"))) ∧ PySem.W.typeIn K (.ref (He.ma K (He.ga K c) "__init__")) = some (.type "function") := by
  obtain ⟨h1, h2⟩ := and2 h
  exact ⟨He.eqO_ok h1, of_decide_eq_true h2⟩
/-- an own exception class as isinstance and its fields ask -/
def ckEC (c : Str) : Ck := fun K => (PySem.W.clsIn K (He.ga K c)).isSome && (He.eqO (PySem.W.findIn K (.ref (He.ga K c)) "__getattribute__") (some (some (.builtin "BaseException.__getattribute__"))) && (He.eqO (PySem.W.findIn K (.ref (He.ga K c)) "__getattr__") (some none) &&
  (decide (PySem.W.subIn K (.ref (He.ga K c)) (.type "BaseException") = some true) && (He.eqO (PySem.W.findIn K (.ref (He.ga K c)) "__class__") (some (some (.builtin "object.__class__"))) && (He.eqO (PySem.W.specialIn K (.builtin "object.__class__") "__get__") (some (some (.builtin "getset_descriptor.__get__"))) &&
  (decide (PySem.W.takesIn K (.builtin "object.__class__") = some true) && (decide (PySem.W.mroIn K (He.ga K c) (.type "object") = some true) && PySem.W.hasDictIn K (He.ga K c))))))))
theorem ckEC_ok {K : PySem.W.Frag} {c : Str} (h : ckEC c K = true) : EC K (He.ga K c) := by
  obtain ⟨a1, h⟩ := and2 h
  obtain ⟨a2, h⟩ := and2 h
  obtain ⟨a3, h⟩ := and2 h
  obtain ⟨a4, h⟩ := and2 h
  obtain ⟨a5, h⟩ := and2 h
  obtain ⟨a6, h⟩ := and2 h
  obtain ⟨a7, h⟩ := and2 h
  obtain ⟨a8, a9⟩ := and2 h
  exact ⟨a1, He.eqO_ok a2, He.eqO_ok a3, of_decide_eq_true a4, He.eqO_ok a5, He.eqO_ok a6, of_decide_eq_true a7, of_decide_eq_true a8, a9⟩
/-- an own operator -/
structure Opr (K : PySem.W.Frag) (c m : Str) : Prop where
  sf : PySem.W.selfFirst K (He.ga K c) = true
  fi : PySem.W.findIn K (.ref (He.ga K c)) m = some (some (.ref (He.ma K (He.ga K c) m)))
  fn : PySem.W.isFn K (.ref (He.ma K (He.ga K c) m)) = true
def ckOpr (c m : Str) : Ck := fun K => PySem.W.selfFirst K (He.ga K c) && (atB K c m && PySem.W.isFn K (.ref (He.ma K (He.ga K c) m)))
theorem ckOpr_ok {K : PySem.W.Frag} {c m : Str} (h : ckOpr c m K = true) : Opr K c m := by
  obtain ⟨a1, h⟩ := and2 h
  obtain ⟨a2, a3⟩ := and2 h
  exact ⟨a1, He.eqO_ok a2, a3⟩
/-- what `x == y` asks of y's type -/
def ckNf (c : Str) (t : PySem.W.Frag → Value) : Ck := fun K => PySem.W.notFirst K (He.ga K c) (t K)
/-- isinstance's answers -/
def ckIs (t u : PySem.W.Frag → Value) (b : Bool) : Ck := fun K => decide (PySem.W.kitOne K (t K) (u K) = some b)
def ckExm (c d : Str) (b : Bool) : Ck := fun K => decide (PySem.W.exmOne K (.ref (He.ga K c)) (.ref (He.ga K d)) = some b)
/-- the class's own __class__, for isinstance of an instance -/
def ckCl (c : Str) : Ck := fun K => He.eqO (PySem.W.findIn K (.ref (He.ga K c)) "__class__") (some (some (.builtin "object.__class__"))) && (He.eqO (PySem.W.specialIn K (.builtin "object.__class__") "__get__") (some (some (.builtin "getset_descriptor.__get__"))) && (decide (PySem.W.takesIn K (.builtin "object.__class__") = some true) && decide (PySem.W.mroIn K (He.ga K c) (.type "object") = some true)))
structure ClC (K : PySem.W.Frag) (c : Str) : Prop where
  ca : PySem.W.findIn K (.ref (He.ga K c)) "__class__" = some (some (.builtin "object.__class__"))
  cg : PySem.W.specialIn K (.builtin "object.__class__") "__get__" = some (some (.builtin "getset_descriptor.__get__"))
  ct : PySem.W.takesIn K (.builtin "object.__class__") = some true
  ob : PySem.W.mroIn K (He.ga K c) (.type "object") = some true
theorem ckCl_ok {K : PySem.W.Frag} {c : Str} (h : ckCl c K = true) : ClC K c := by
  obtain ⟨a1, h⟩ := and2 h
  obtain ⟨a2, h⟩ := and2 h
  obtain ⟨a3, a4⟩ := and2 h
  exact ⟨He.eqO_ok a1, He.eqO_ok a2, of_decide_eq_true a3, of_decide_eq_true a4⟩
/-! ### defs anywhere -/
structure Df where
  at_ : PySem.W.Frag → Addr
  name : Str
  qual : Str
  st : Stmt
  dv : List V
/-- the def st with the defaults dv stands at f -/
abbrev DefAtD (K : PySem.W.Frag) (x qual : Str) (st : Stmt) (dv : List V) (f : Addr) : Prop := ∃ fd, FunD K x qual (defArgs st) (defBody st) (defScope st) dv [] f fd
def fnA (K : PySem.W.Frag) (a : Addr) : He.FnW := match K.lookup a with
  | some ⟨_, _, .func fd, _⟩ => some (fd.name, fd.qualname, fd.params, fd.body, fd.scope, fd.globals, fd.closure, fd.builtins)
  | _ => none
def Df.val (d : Df) : He.FnW := some (d.name, d.qual, defArgs d.st, .stmts (defBody d.st), defScope d.st, mainGlobals, [], builtinsNs)
def Df.ok (K : PySem.W.Frag) (d : Df) : Bool := PySem.W.keepIn K (.ref (d.at_ K)) && (match K.lookup (d.at_ K) with
  | some ⟨_, _, .func fd, _⟩ => PySem.W.codeIn K fd.code d.qual && He.dflB K fd.defaults d.dv
  | _ => false)
theorem Df.def_ {K : PySem.W.Frag} {d : Df} (e : fnA K (d.at_ K) = d.val) (c : d.ok K = true) : DefAtD K d.name d.qual d.st d.dv (d.at_ K) := by
  obtain ⟨kp, c2⟩ := and2 c
  unfold fnA at e
  cases q : K.lookup (d.at_ K) with
  | none => rw [q] at c2; cases c2
  | some o =>
    obtain ⟨oc, od, dt, osl⟩ := o
    rw [q] at c2 e
    cases dt with
    | func fd =>
      obtain ⟨n1, n2, n3, n4, n5, n6, n7, n8, n9, n10, n11, n12, n13, n14, n15⟩ := fd
      have e2 : (some (n1, n2, n3, n4, n5, n6, n7, n15) : He.FnW) = some (d.name, d.qual, defArgs d.st, .stmts (defBody d.st), defScope d.st, mainGlobals, [], builtinsNs) := e
      simp only [Option.some.injEq, Prod.mk.injEq] at e2
      obtain ⟨h1, h2, h3, h4, h5, h6, h7, h8⟩ := e2
      subst h1 h2 h3 h4 h5 h6 h7 h8
      obtain ⟨k1, k2⟩ := and2 (show (PySem.W.codeIn K n13 d.qual && He.dflB K n8 d.dv) = true from c2)
      exact ⟨_, ⟨oc, od, n8, n9, n10, n11, n12, n13, n14, osl, rfl, q, k1, He.dflB_ok k2, .inl rfl⟩, kp⟩
    | _ => cases c2
/-! ### the Hook -/
def asM (g : Addr → Option Obj) : Nat → List Addr
  | 0 => [mainGlobals, cStatics]
  | n + 1 => He.growD g (asM g n)
abbrev AlM : Type := Bool × List He.FnW
def obsM (fa : List Ck) (fn : List Df) (K : PySem.W.Frag) : AlM := (fa.all (fun f => f K) && fn.all fun d => d.ok K, fn.map fun d => fnA K (d.at_ K))
def valM (fn : List Df) : AlM := (true, fn.map Df.val)
def SaysM (fa : List Ck) (fn : List Df) (K : PySem.W.Frag) : Prop := obsM fa fn K = valM fn
def obsMG (n : Nat) (fa : List Ck) (fn : List Df) (g : Addr → Option Obj) : AlM := obsM fa fn (He.frG g (asM g n))
def hookM (n : Nat) (fa : List Ck) (fn : List Df) : PySem.W.Hook where
  α := AlM
  obs := fun s => obsMG n fa fn s.heap.get?
  val := fun _ => valM fn
  says := fun _ h => ∃ K : PySem.W.Frag, K.In h ∧ SaysM fa fn K
  of := fun _ _ e => ⟨_, He.frG_in, e⟩
  keeps := fun _ _ _ ⟨K, hK, c⟩ k => ⟨K, PySem.W.Frag.In.keeps hK k, c⟩
theorem obsMG_eq {n : Nat} {fa : List Ck} {fn : List Df} {g : Addr → Option Obj} {s : Shared} (h : ∀ a, g a = s.heap.get? a) : obsMG n fa fn g = (hookM n fa fn).obs s := by
  have e : g = s.heap.get? := funext h
  rw [e] <;> rfl
section
variable {fa : List Ck} {fn : List Df} {K : PySem.W.Frag}
theorem SaysM.both (c : SaysM fa fn K) : (∀ f ∈ fa, f K = true) ∧ (∀ d ∈ fn, d.ok K = true) ∧ fn.map (fun d => fnA K (d.at_ K)) = fn.map Df.val := by
  obtain ⟨h1, h2⟩ := Prod.mk.inj (show (fa.all (fun f => f K) && fn.all fun d => d.ok K, fn.map fun d => fnA K (d.at_ K)) = (true, fn.map Df.val) from c)
  obtain ⟨a, b⟩ := and2 h1
  exact ⟨List.all_eq_true.mp a, List.all_eq_true.mp b, h2⟩
theorem SaysM.fact (c : SaysM fa fn K) (i : Nat) {f : Ck} (h : fa[i]? = some f := by rfl) : f K = true := c.both.1 f (List.mem_of_getElem? h)
theorem SaysM.def_ (c : SaysM fa fn K) (i : Nat) {d : Df} (h : fn[i]? = some d := by rfl) : DefAtD K d.name d.qual d.st d.dv (d.at_ K) := by
  obtain ⟨_, c2, e⟩ := c.both
  have q : (fn.map fun d => fnA K (d.at_ K))[i]? = (fn.map Df.val)[i]? := by rw [e]
  rw [List.getElem?_map, List.getElem?_map, h] at q
  exact Df.def_ (Option.some.inj q) (c2 d (List.mem_of_getElem? h))
end
end Ms
set_option Elab.async false
set_option linter.all false
set_option maxRecDepth 100000
set_option maxHeartbeats 4000000
/-! K01: the text, what the head tells. -/
namespace K01
open PySem PySem.Spec PyProof.Rows L2 Ms
def top (i : Nat) : Stmt := PySem.Challenge.pw_manysights_k01_tells_restricted_crossed.main.body.getD i (.Pass ⟨0, 0, 0, 0⟩)
abbrev s_wall : Stmt := top 0
theorem sc_wall : FnScope ["k"] ["k"] (defScope s_wall) := ⟨rfl, rfl, rfl, by decide +kernel, rfl, by decide +kernel, by decide +kernel⟩
abbrev sSizesDifferu__initu_ : Stmt := mem (top 4) 0
theorem scSizesDifferu__initu_ : FnScope ["self", "one", "two"] ["self", "one", "two"] (defScope sSizesDifferu__initu_) := ⟨rfl, rfl, rfl, by decide +kernel, rfl, by decide +kernel, by decide +kernel⟩
abbrev sBadLengthu__initu_ : Stmt := mem (top 5) 0
theorem scBadLengthu__initu_ : FnScope ["self", "count"] ["self", "count"] (defScope sBadLengthu__initu_) := ⟨rfl, rfl, rfl, by decide +kernel, rfl, by decide +kernel, by decide +kernel⟩
abbrev stells : Stmt := top 7
theorem sctells : FnScope ["one", "two"] ["one", "two"] (defScope stells) := ⟨rfl, rfl, rfl, by decide +kernel, rfl, by decide +kernel, by decide +kernel⟩
abbrev sunlike_pair : Stmt := top 8
theorem scunlike_pair : FnScope ["one", "two", "cell", "other"] ["one", "two"] (defScope sunlike_pair) := ⟨rfl, rfl, rfl, by decide +kernel, rfl, by decide +kernel, by decide +kernel⟩
abbrev srenumbered : Stmt := top 10
theorem screnumbered : FnScope ["marks", "numbers", "found", "mark"] ["marks"] (defScope srenumbered) := ⟨rfl, rfl, rfl, by decide +kernel, rfl, by decide +kernel, by decide +kernel⟩
abbrev slisted_cells : Stmt := top 11
theorem sclisted_cells : FnScope ["marks", "found", "_", "deal", "mark", "cell"] ["marks"] (defScope slisted_cells) := ⟨rfl, rfl, rfl, by decide +kernel, rfl, by decide +kernel, by decide +kernel⟩
abbrev sjoined_marks : Stmt := top 12
theorem scjoined_marks : FnScope ["one", "two", "boss", "first", "mark", "other", "low", "high", "found", "root"] ["one", "two"] (defScope sjoined_marks) := ⟨rfl, rfl, rfl, by decide +kernel, rfl, by decide +kernel, by decide +kernel⟩
abbrev scheck_sizes : Stmt := top 13
theorem sccheck_sizes : FnScope ["one", "two"] ["one", "two"] (defScope scheck_sizes) := ⟨rfl, rfl, rfl, by decide +kernel, rfl, by decide +kernel, by decide +kernel⟩
abbrev sSightu__initu_ : Stmt := mem (top 14) 0
theorem scSightu__initu_ : FnScope ["self", "marks", "numbers"] ["self", "marks"] (defScope sSightu__initu_) := ⟨rfl, rfl, rfl, by decide +kernel, rfl, by decide +kernel, by decide +kernel⟩
abbrev sSight_nothing : Stmt := mem (top 14) 1
theorem scSight_nothing : FnScope ["cls", "size"] ["cls", "size"] (defScope sSight_nothing) := ⟨rfl, rfl, rfl, by decide +kernel, rfl, by decide +kernel, by decide +kernel⟩
abbrev sSight_everything : Stmt := mem (top 14) 2
theorem scSight_everything : FnScope ["cls", "size"] ["cls", "size"] (defScope sSight_everything) := ⟨rfl, rfl, rfl, by decide +kernel, rfl, by decide +kernel, by decide +kernel⟩
abbrev sSight_cells : Stmt := mem (top 14) 3
theorem scSight_cells : FnScope ["self"] ["self"] (defScope sSight_cells) := ⟨rfl, rfl, rfl, by decide +kernel, rfl, by decide +kernel, by decide +kernel⟩
abbrev sSight_cell_of : Stmt := mem (top 14) 4
theorem scSight_cell_of : FnScope ["self", "deal"] ["self", "deal"] (defScope sSight_cell_of) := ⟨rfl, rfl, rfl, by decide +kernel, rfl, by decide +kernel, by decide +kernel⟩
abbrev sSight_alike : Stmt := mem (top 14) 5
theorem scSight_alike : FnScope ["self", "one", "two"] ["self", "one", "two"] (defScope sSight_alike) := ⟨rfl, rfl, rfl, by decide +kernel, rfl, by decide +kernel, by decide +kernel⟩
abbrev sSightu__andu_ : Stmt := mem (top 14) 6
theorem scSightu__andu_ : FnScope ["self", "other", "pairs", "count"] ["self", "other"] (defScope sSightu__andu_) := ⟨rfl, rfl, rfl, by decide +kernel, rfl, by decide +kernel, by decide +kernel⟩
abbrev sSightu__oru_ : Stmt := mem (top 14) 7
theorem scSightu__oru_ : FnScope ["self", "other"] ["self", "other"] (defScope sSightu__oru_) := ⟨rfl, rfl, rfl, by decide +kernel, rfl, by decide +kernel, by decide +kernel⟩
abbrev sSightu__equ_ : Stmt := mem (top 14) 8
theorem scSightu__equ_ : FnScope ["self", "other"] ["self", "other"] (defScope sSightu__equ_) := ⟨rfl, rfl, rfl, by decide +kernel, rfl, by decide +kernel, by decide +kernel⟩
abbrev srestricted : Stmt := top 16
theorem screstricted : FnScope ["sight", "deals", "deal"] ["sight", "deals"] (defScope srestricted) := ⟨rfl, rfl, rfl, by decide +kernel, rfl, by decide +kernel, by decide +kernel⟩
abbrev scrossed : Stmt := top 17
theorem sccrossed : FnScope ["one", "two", "mark", "other"] ["one", "two"] (defScope scrossed) := ⟨rfl, rfl, rfl, by decide +kernel, rfl, by decide +kernel, by decide +kernel⟩
abbrev s_law_whole : Stmt := top 19
theorem sc_law_whole : FnScope ["value"] ["value"] (defScope s_law_whole) := ⟨rfl, rfl, rfl, by decide +kernel, rfl, by decide +kernel, by decide +kernel⟩
abbrev s_law_cell : Stmt := top 20
theorem sc_law_cell : FnScope ["script", "k", "seed", "cell"] ["script", "k"] (defScope s_law_cell) := ⟨rfl, rfl, rfl, by decide +kernel, rfl, by decide +kernel, by decide +kernel⟩
abbrev s_law_digits : Stmt := top 21
theorem sc_law_digits : FnScope ["cell", "sizes", "row", "rest", "seed", "k", "twice"] ["cell", "sizes"] (defScope s_law_digits) := ⟨rfl, rfl, rfl, by decide +kernel, rfl, by decide +kernel, by decide +kernel⟩
abbrev s_law_draw : Stmt := top 22
theorem sc_law_draw : FnScope ["script", "shape", "size", "wide", "first", "codes", "second", "mark", "place"] ["script"] (defScope s_law_draw) := ⟨rfl, rfl, rfl, by decide +kernel, rfl, by decide +kernel, by decide +kernel⟩
abbrev s_law_pair : Stmt := top 23
theorem sc_law_pair : FnScope ["first", "second", "deal", "other"] ["first", "second"] (defScope s_law_pair) := ⟨rfl, rfl, rfl, by decide +kernel, rfl, by decide +kernel, by decide +kernel⟩
abbrev s_law_asks : Stmt := top 24
theorem sc_law_asks : FnScope ["one", "two", "due", "pair", "answer"] ["one", "two", "due"] (defScope s_law_asks) := ⟨rfl, rfl, rfl, by decide +kernel, rfl, by decide +kernel, by decide +kernel⟩
abbrev s_law_differs : Stmt := top 25
theorem sc_law_differs : FnScope ["one", "other", "left", "right", "raised", "error"] ["one", "other", "left", "right"] (defScope s_law_differs) := ⟨rfl, rfl, rfl, by decide +kernel, rfl, by decide +kernel, by decide +kernel⟩
abbrev s_law_error : Stmt := top 26
theorem sc_law_error : FnScope ["error", "size", "other"] ["error", "size", "other"] (defScope s_law_error) := ⟨rfl, rfl, rfl, by decide +kernel, rfl, by decide +kernel, by decide +kernel⟩
abbrev s_law_parta : Stmt := top 27
theorem sc_law_parta : FnScope ["script", "rows", "size", "low", "one", "mark", "two", "due", "back", "other", "longer"] ["script"] (defScope s_law_parta) := ⟨rfl, rfl, rfl, by decide +kernel, rfl, by decide +kernel, by decide +kernel⟩
abbrev s_law_marks : Stmt := top 28
theorem sc_law_marks : FnScope ["marks", "numbers", "row", "mark"] ["marks"] (defScope s_law_marks) := ⟨rfl, rfl, rfl, by decide +kernel, rfl, by decide +kernel, by decide +kernel⟩
abbrev s_law_groups : Stmt := top 29
theorem sc_law_groups : FnScope ["row", "groups", "k", "group"] ["row"] (defScope s_law_groups) := ⟨rfl, rfl, rfl, by decide +kernel, rfl, by decide +kernel, by decide +kernel⟩
abbrev s_law_numbers : Stmt := top 30
theorem sc_law_numbers : FnScope ["actual", "due", "k"] ["actual", "due"] (defScope s_law_numbers) := ⟨rfl, rfl, rfl, by decide +kernel, rfl, by decide +kernel, by decide +kernel⟩
abbrev s_law_agrees : Stmt := top 31
theorem sc_law_agrees : FnScope ["actual", "row", "groups", "parts", "k"] ["actual", "row"] (defScope s_law_agrees) := ⟨rfl, rfl, rfl, by decide +kernel, rfl, by decide +kernel, by decide +kernel⟩
abbrev s_law_draw_x : Stmt := top 32
theorem sc_law_draw_x : FnScope ["script", "shape", "sizes", "rows", "k", "wide"] ["script"] (defScope s_law_draw_x) := ⟨rfl, rfl, rfl, by decide +kernel, rfl, by decide +kernel, by decide +kernel⟩
abbrev s_law_deals : Stmt := top 33
theorem sc_law_deals : FnScope ["script", "size", "turns", "k", "order"] ["script", "size"] (defScope s_law_deals) := ⟨rfl, rfl, rfl, by decide +kernel, rfl, by decide +kernel, by decide +kernel⟩
abbrev s_law_partb : Stmt := top 34
theorem sc_law_partb : FnScope ["script", "rows", "first", "second", "low", "one", "mark", "two", "deals", "given", "due", "deal", "pairs", "turned", "other", "both", "j", "i", "k"] ["script"] (defScope s_law_partb) := ⟨rfl, rfl, rfl, by decide +kernel, rfl, by decide +kernel, by decide +kernel⟩
abbrev slaw : Stmt := top 35
theorem sclaw : FnScope ["script"] ["script"] (defScope slaw) := ⟨rfl, rfl, rfl, by decide +kernel, rfl, by decide +kernel, by decide +kernel⟩
theorem bi__wall : BindsIn "_wall" "_wall" s_wall ["k"] := bi1 fun _ _ _ _ _ _ _ => rfl
theorem bi_SizesDifferu__initu_ : BindsIn "__init__" "SizesDiffer.__init__" sSizesDifferu__initu_ ["self", "one", "two"] := bi3 fun _ _ _ _ _ _ _ _ _ => rfl
theorem bi_BadLengthu__initu_ : BindsIn "__init__" "BadLength.__init__" sBadLengthu__initu_ ["self", "count"] := bi2 fun _ _ _ _ _ _ _ _ => rfl
theorem bi_tells : BindsIn "tells" "tells" stells ["one", "two"] := bi2 fun _ _ _ _ _ _ _ _ => rfl
theorem bi_unlike_pair : BindsIn "unlike_pair" "unlike_pair" sunlike_pair ["one", "two"] := bi2 fun _ _ _ _ _ _ _ _ => rfl
theorem bi_renumbered : BindsIn "renumbered" "renumbered" srenumbered ["marks"] := bi1 fun _ _ _ _ _ _ _ => rfl
theorem bi_listed_cells : BindsIn "listed_cells" "listed_cells" slisted_cells ["marks"] := bi1 fun _ _ _ _ _ _ _ => rfl
theorem bi_joined_marks : BindsIn "joined_marks" "joined_marks" sjoined_marks ["one", "two"] := bi2 fun _ _ _ _ _ _ _ _ => rfl
theorem bi_check_sizes : BindsIn "check_sizes" "check_sizes" scheck_sizes ["one", "two"] := bi2 fun _ _ _ _ _ _ _ _ => rfl
theorem bi_Sightu__initu_ : BindsIn "__init__" "Sight.__init__" sSightu__initu_ ["self", "marks"] := bi2 fun _ _ _ _ _ _ _ _ => rfl
theorem bi_Sight_nothing : BindsIn "nothing" "Sight.nothing" sSight_nothing ["cls", "size"] := bi2 fun _ _ _ _ _ _ _ _ => rfl
theorem bi_Sight_everything : BindsIn "everything" "Sight.everything" sSight_everything ["cls", "size"] := bi2 fun _ _ _ _ _ _ _ _ => rfl
theorem bi_Sight_cells : BindsIn "cells" "Sight.cells" sSight_cells ["self"] := bi1 fun _ _ _ _ _ _ _ => rfl
theorem bi_Sight_cell_of : BindsIn "cell_of" "Sight.cell_of" sSight_cell_of ["self", "deal"] := bi2 fun _ _ _ _ _ _ _ _ => rfl
theorem bi_Sight_alike : BindsIn "alike" "Sight.alike" sSight_alike ["self", "one", "two"] := bi3 fun _ _ _ _ _ _ _ _ _ => rfl
theorem bi_Sightu__andu_ : BindsIn "__and__" "Sight.__and__" sSightu__andu_ ["self", "other"] := bi2 fun _ _ _ _ _ _ _ _ => rfl
theorem bi_Sightu__oru_ : BindsIn "__or__" "Sight.__or__" sSightu__oru_ ["self", "other"] := bi2 fun _ _ _ _ _ _ _ _ => rfl
theorem bi_Sightu__equ_ : BindsIn "__eq__" "Sight.__eq__" sSightu__equ_ ["self", "other"] := bi2 fun _ _ _ _ _ _ _ _ => rfl
theorem bi_restricted : BindsIn "restricted" "restricted" srestricted ["sight", "deals"] := bi2 fun _ _ _ _ _ _ _ _ => rfl
theorem bi_crossed : BindsIn "crossed" "crossed" scrossed ["one", "two"] := bi2 fun _ _ _ _ _ _ _ _ => rfl
theorem bi__law_whole : BindsIn "_law_whole" "_law_whole" s_law_whole ["value"] := bi1 fun _ _ _ _ _ _ _ => rfl
theorem bi__law_cell : BindsIn "_law_cell" "_law_cell" s_law_cell ["script", "k"] := bi2 fun _ _ _ _ _ _ _ _ => rfl
theorem bi__law_digits : BindsIn "_law_digits" "_law_digits" s_law_digits ["cell", "sizes"] := bi2 fun _ _ _ _ _ _ _ _ => rfl
theorem bi__law_draw : BindsIn "_law_draw" "_law_draw" s_law_draw ["script"] := bi1 fun _ _ _ _ _ _ _ => rfl
theorem bi__law_pair : BindsIn "_law_pair" "_law_pair" s_law_pair ["first", "second"] := bi2 fun _ _ _ _ _ _ _ _ => rfl
theorem bi__law_asks : BindsIn "_law_asks" "_law_asks" s_law_asks ["one", "two", "due"] := bi3 fun _ _ _ _ _ _ _ _ _ => rfl
theorem bi__law_differs : BindsIn "_law_differs" "_law_differs" s_law_differs ["one", "other", "left", "right"] := bi4 fun _ _ _ _ _ _ _ _ _ _ => rfl
theorem bi__law_error : BindsIn "_law_error" "_law_error" s_law_error ["error", "size", "other"] := bi3 fun _ _ _ _ _ _ _ _ _ => rfl
theorem bi__law_parta : BindsIn "_law_parta" "_law_parta" s_law_parta ["script"] := bi1 fun _ _ _ _ _ _ _ => rfl
theorem bi__law_marks : BindsIn "_law_marks" "_law_marks" s_law_marks ["marks"] := bi1 fun _ _ _ _ _ _ _ => rfl
theorem bi__law_groups : BindsIn "_law_groups" "_law_groups" s_law_groups ["row"] := bi1 fun _ _ _ _ _ _ _ => rfl
theorem bi__law_numbers : BindsIn "_law_numbers" "_law_numbers" s_law_numbers ["actual", "due"] := bi2 fun _ _ _ _ _ _ _ _ => rfl
theorem bi__law_agrees : BindsIn "_law_agrees" "_law_agrees" s_law_agrees ["actual", "row"] := bi2 fun _ _ _ _ _ _ _ _ => rfl
theorem bi__law_draw_x : BindsIn "_law_draw_x" "_law_draw_x" s_law_draw_x ["script"] := bi1 fun _ _ _ _ _ _ _ => rfl
theorem bi__law_deals : BindsIn "_law_deals" "_law_deals" s_law_deals ["script", "size"] := bi2 fun _ _ _ _ _ _ _ _ => rfl
theorem bi__law_partb : BindsIn "_law_partb" "_law_partb" s_law_partb ["script"] := bi1 fun _ _ _ _ _ _ _ => rfl
theorem bi_law : BindsIn "law" "law" slaw ["script"] := bi1 fun _ _ _ _ _ _ _ => rfl
/-- what the head has left -/
structure Tx (K : PySem.W.Frag) (mg : Str → Option Value) : Prop where
  f_len : mg "len" = none
  f_set : mg "set" = none
  f_tuple : mg "tuple" = none
  f_list : mg "list" = none
  f_range : mg "range" = none
  f_enumerate : mg "enumerate" = none
  f_zip : mg "zip" = none
  f_int : mg "int" = none
  f_bool : mg "bool" = none
  f_max : mg "max" = none
  f_isinstance : mg "isinstance" = none
  f_ValueError : mg "ValueError" = none
  g_DealError : mg "DealError" = some (.ref (He.ga K "DealError"))
  g_NoDeals : mg "NoDeals" = some (.ref (He.ga K "NoDeals"))
  g_SizesDiffer : mg "SizesDiffer" = some (.ref (He.ga K "SizesDiffer"))
  g_BadLength : mg "BadLength" = some (.ref (He.ga K "BadLength"))
  g_Sight : mg "Sight" = some (.ref (He.ga K "Sight"))
  c_Sight : Cls K (He.ga K "Sight")
  n_size : NoAttr K (He.ga K "Sight") "size"
  n_marks : NoAttr K (He.ga K "Sight") "marks"
  n_cells : NoAttr K (He.ga K "Sight") "_cells"
  k_Sight : Mk K (He.ga K "Sight") (He.ma K (He.ga K "Sight") "__init__")
  m_alike : Meth K (He.ga K "Sight") "alike" (He.ma K (He.ga K "Sight") "alike")
  p_cells : PropOf K (He.ga K "Sight") "cells" (He.ma K (He.ga K "Sight") "cells") (recAt K "property" "Sight" "cells")
  r_Sight : ClX.CRead K (He.ga K "Sight") (.type "type")
  cm_nothing : ClX.CMet K (He.ga K "Sight") (.type "type") "nothing" (He.ma K (He.ga K "Sight") "nothing") (recAt K "classmethod" "Sight" "nothing")
  cm_everything : ClX.CMet K (He.ga K "Sight") (.type "type") "everything" (He.ma K (He.ga K "Sight") "everything") (recAt K "classmethod" "Sight" "everything")
  o_and : Opr K "Sight" "__and__"
  o_or : Opr K "Sight" "__or__"
  o_eq : Opr K "Sight" "__eq__"
  nf_NoneType : PySem.W.notFirst K (He.ga K "Sight") (.type "NoneType") = true
  nf_int : PySem.W.notFirst K (He.ga K "Sight") (.type "int") = true
  nf_bool : PySem.W.notFirst K (He.ga K "Sight") (.type "bool") = true
  nf_list : PySem.W.notFirst K (He.ga K "Sight") (.type "list") = true
  nf_tuple : PySem.W.notFirst K (He.ga K "Sight") (.type "tuple") = true
  nf_str : PySem.W.notFirst K (He.ga K "Sight") (.type "str") = true
  nf_Sight : PySem.W.notFirst K (He.ga K "Sight") (.ref (He.ga K "Sight")) = true
  cl_Sight : ClC K "Sight"
  is_Sight_Sight : PySem.W.kitOne K (.ref (He.ga K "Sight")) (.ref (He.ga K "Sight")) = some true
  is_int_int : PySem.W.kitOne K (.type "int") (.type "int") = some true
  is_int_bool : PySem.W.kitOne K (.type "int") (.type "bool") = some false
  is_tuple_tuple : PySem.W.kitOne K (.type "tuple") (.type "tuple") = some true
  is_bool_bool : PySem.W.kitOne K (.type "bool") (.type "bool") = some true
  is_NoDeals_NoDeals : PySem.W.kitOne K (.ref (He.ga K "NoDeals")) (.ref (He.ga K "NoDeals")) = some true
  is_NoDeals_ValueError : PySem.W.kitOne K (.ref (He.ga K "NoDeals")) (.type "ValueError") = some true
  is_SizesDiffer_SizesDiffer : PySem.W.kitOne K (.ref (He.ga K "SizesDiffer")) (.ref (He.ga K "SizesDiffer")) = some true
  is_SizesDiffer_ValueError : PySem.W.kitOne K (.ref (He.ga K "SizesDiffer")) (.type "ValueError") = some true
  is_SizesDiffer_NoDeals : PySem.W.kitOne K (.ref (He.ga K "SizesDiffer")) (.ref (He.ga K "NoDeals")) = some false
  is_SizesDiffer_BadLength : PySem.W.kitOne K (.ref (He.ga K "SizesDiffer")) (.ref (He.ga K "BadLength")) = some false
  x_NoDeals : PySem.W.exmOne K (.ref (He.ga K "NoDeals")) (.ref (He.ga K "DealError")) = some true
  ec_NoDeals : EC K (He.ga K "NoDeals")
  x_SizesDiffer : PySem.W.exmOne K (.ref (He.ga K "SizesDiffer")) (.ref (He.ga K "DealError")) = some true
  ec_SizesDiffer : EC K (He.ga K "SizesDiffer")
  e_NoDeals : PySem.W.excIn K (He.ga K "NoDeals") He.veBase "ValueError.__new__" = true ∧ PySem.W.keepIn K (.ref (He.ga K "NoDeals")) = true ∧ PySem.W.subIn K (.ref (He.ga K "NoDeals")) (.type "BaseException") = some true ∧ PySem.W.typeIn K (.ref (He.ga K "NoDeals")) = some (.type "type")
  oe_SizesDiffer : OexC K (He.ga K "SizesDiffer")
  ie_SizesDiffer : PySem.W.findIn K (.ref (He.ga K "SizesDiffer")) "__init__" = some (some (.ref (He.ma K (He.ga K "SizesDiffer") "__init__"))) ∧ PySem.W.typeIn K (.ref (He.ma K (He.ga K "SizesDiffer") "__init__")) = some (.type "function")
  nS_one : PySem.W.findIn K (.ref (He.ga K "SizesDiffer")) "one" = some none
  nS_two : PySem.W.findIn K (.ref (He.ga K "SizesDiffer")) "two" = some none
  gd__wall : mg "_wall" = some (.ref (He.ga K "_wall"))
  gd_tells : mg "tells" = some (.ref (He.ga K "tells"))
  gd_unlike_pair : mg "unlike_pair" = some (.ref (He.ga K "unlike_pair"))
  gd_renumbered : mg "renumbered" = some (.ref (He.ga K "renumbered"))
  gd_listed_cells : mg "listed_cells" = some (.ref (He.ga K "listed_cells"))
  gd_joined_marks : mg "joined_marks" = some (.ref (He.ga K "joined_marks"))
  gd_check_sizes : mg "check_sizes" = some (.ref (He.ga K "check_sizes"))
  gd_restricted : mg "restricted" = some (.ref (He.ga K "restricted"))
  gd_crossed : mg "crossed" = some (.ref (He.ga K "crossed"))
  gd__law_whole : mg "_law_whole" = some (.ref (He.ga K "_law_whole"))
  gd__law_cell : mg "_law_cell" = some (.ref (He.ga K "_law_cell"))
  gd__law_digits : mg "_law_digits" = some (.ref (He.ga K "_law_digits"))
  gd__law_draw : mg "_law_draw" = some (.ref (He.ga K "_law_draw"))
  gd__law_pair : mg "_law_pair" = some (.ref (He.ga K "_law_pair"))
  gd__law_asks : mg "_law_asks" = some (.ref (He.ga K "_law_asks"))
  gd__law_differs : mg "_law_differs" = some (.ref (He.ga K "_law_differs"))
  gd__law_error : mg "_law_error" = some (.ref (He.ga K "_law_error"))
  gd__law_parta : mg "_law_parta" = some (.ref (He.ga K "_law_parta"))
  gd__law_marks : mg "_law_marks" = some (.ref (He.ga K "_law_marks"))
  gd__law_groups : mg "_law_groups" = some (.ref (He.ga K "_law_groups"))
  gd__law_numbers : mg "_law_numbers" = some (.ref (He.ga K "_law_numbers"))
  gd__law_agrees : mg "_law_agrees" = some (.ref (He.ga K "_law_agrees"))
  gd__law_draw_x : mg "_law_draw_x" = some (.ref (He.ga K "_law_draw_x"))
  gd__law_deals : mg "_law_deals" = some (.ref (He.ga K "_law_deals"))
  gd__law_partb : mg "_law_partb" = some (.ref (He.ga K "_law_partb"))
  gd_law : mg "law" = some (.ref (He.ga K "law"))
  d__wall : DefAt K "_wall" "_wall" s_wall (He.ga K "_wall")
  d_SizesDifferu__initu_ : DefAt K "__init__" "SizesDiffer.__init__" sSizesDifferu__initu_ (He.ma K (He.ga K "SizesDiffer") "__init__")
  d_tells : DefAt K "tells" "tells" stells (He.ga K "tells")
  d_unlike_pair : DefAt K "unlike_pair" "unlike_pair" sunlike_pair (He.ga K "unlike_pair")
  d_renumbered : DefAt K "renumbered" "renumbered" srenumbered (He.ga K "renumbered")
  d_listed_cells : DefAt K "listed_cells" "listed_cells" slisted_cells (He.ga K "listed_cells")
  d_joined_marks : DefAt K "joined_marks" "joined_marks" sjoined_marks (He.ga K "joined_marks")
  d_check_sizes : DefAt K "check_sizes" "check_sizes" scheck_sizes (He.ga K "check_sizes")
  d_Sightu__initu_ : DefAt K "__init__" "Sight.__init__" sSightu__initu_ (He.ma K (He.ga K "Sight") "__init__")
  d_Sight_nothing : DefAt K "nothing" "Sight.nothing" sSight_nothing (recAt K "classmethod" "Sight" "nothing")
  d_Sight_everything : DefAt K "everything" "Sight.everything" sSight_everything (recAt K "classmethod" "Sight" "everything")
  d_Sight_cells : DefAt K "cells" "Sight.cells" sSight_cells (recAt K "property" "Sight" "cells")
  d_Sight_alike : DefAt K "alike" "Sight.alike" sSight_alike (He.ma K (He.ga K "Sight") "alike")
  d_Sightu__andu_ : DefAt K "__and__" "Sight.__and__" sSightu__andu_ (He.ma K (He.ga K "Sight") "__and__")
  d_Sightu__oru_ : DefAt K "__or__" "Sight.__or__" sSightu__oru_ (He.ma K (He.ga K "Sight") "__or__")
  d_Sightu__equ_ : DefAt K "__eq__" "Sight.__eq__" sSightu__equ_ (He.ma K (He.ga K "Sight") "__eq__")
  d_restricted : DefAt K "restricted" "restricted" srestricted (He.ga K "restricted")
  d_crossed : DefAt K "crossed" "crossed" scrossed (He.ga K "crossed")
  d__law_whole : DefAt K "_law_whole" "_law_whole" s_law_whole (He.ga K "_law_whole")
  d__law_cell : DefAt K "_law_cell" "_law_cell" s_law_cell (He.ga K "_law_cell")
  d__law_digits : DefAt K "_law_digits" "_law_digits" s_law_digits (He.ga K "_law_digits")
  d__law_draw : DefAt K "_law_draw" "_law_draw" s_law_draw (He.ga K "_law_draw")
  d__law_pair : DefAt K "_law_pair" "_law_pair" s_law_pair (He.ga K "_law_pair")
  d__law_asks : DefAt K "_law_asks" "_law_asks" s_law_asks (He.ga K "_law_asks")
  d__law_differs : DefAt K "_law_differs" "_law_differs" s_law_differs (He.ga K "_law_differs")
  d__law_error : DefAt K "_law_error" "_law_error" s_law_error (He.ga K "_law_error")
  d__law_parta : DefAt K "_law_parta" "_law_parta" s_law_parta (He.ga K "_law_parta")
  d__law_marks : DefAt K "_law_marks" "_law_marks" s_law_marks (He.ga K "_law_marks")
  d__law_groups : DefAt K "_law_groups" "_law_groups" s_law_groups (He.ga K "_law_groups")
  d__law_numbers : DefAt K "_law_numbers" "_law_numbers" s_law_numbers (He.ga K "_law_numbers")
  d__law_agrees : DefAt K "_law_agrees" "_law_agrees" s_law_agrees (He.ga K "_law_agrees")
  d__law_draw_x : DefAt K "_law_draw_x" "_law_draw_x" s_law_draw_x (He.ga K "_law_draw_x")
  d__law_deals : DefAt K "_law_deals" "_law_deals" s_law_deals (He.ga K "_law_deals")
  d__law_partb : DefAt K "_law_partb" "_law_partb" s_law_partb (He.ga K "_law_partb")
  d_law : DefAt K "law" "law" slaw (He.ga K "law")
def fa : List Ck := [
  (fun K => (He.Fa.free "len").ok K),
  (fun K => (He.Fa.free "set").ok K),
  (fun K => (He.Fa.free "tuple").ok K),
  (fun K => (He.Fa.free "list").ok K),
  (fun K => (He.Fa.free "range").ok K),
  (fun K => (He.Fa.free "enumerate").ok K),
  (fun K => (He.Fa.free "zip").ok K),
  (fun K => (He.Fa.free "int").ok K),
  (fun K => (He.Fa.free "bool").ok K),
  (fun K => (He.Fa.free "max").ok K),
  (fun K => (He.Fa.free "isinstance").ok K),
  (fun K => (He.Fa.free "ValueError").ok K),
  (fun K => (He.Fa.glo "DealError").ok K),
  (fun K => (He.Fa.glo "NoDeals").ok K),
  (fun K => (He.Fa.glo "SizesDiffer").ok K),
  (fun K => (He.Fa.glo "BadLength").ok K),
  (fun K => (He.Fa.glo "Sight").ok K),
  (fun K => (He.Fa.cls "Sight").ok K),
  (fun K => (He.Fa.noat "Sight" "size").ok K),
  (fun K => (He.Fa.noat "Sight" "marks").ok K),
  (fun K => (He.Fa.noat "Sight" "_cells").ok K),
  (fun K => (He.Fa.mkr "Sight").ok K),
  (fun K => (He.Fa.meth "Sight" "alike").ok K),
  (ckProp "Sight" "cells"),
  (ckRead "Sight"),
  (ckCm "Sight" "nothing"),
  (ckCm "Sight" "everything"),
  (ckOpr "Sight" "__and__"),
  (ckOpr "Sight" "__or__"),
  (ckOpr "Sight" "__eq__"),
  (ckNf "Sight" fun _ => .type "NoneType"),
  (ckNf "Sight" fun _ => .type "int"),
  (ckNf "Sight" fun _ => .type "bool"),
  (ckNf "Sight" fun _ => .type "list"),
  (ckNf "Sight" fun _ => .type "tuple"),
  (ckNf "Sight" fun _ => .type "str"),
  (ckNf "Sight" fun K => .ref (He.ga K "Sight")),
  (ckCl "Sight"),
  (ckIs (fun K => .ref (He.ga K "Sight")) (fun K => .ref (He.ga K "Sight")) true),
  (ckIs (fun K => .type "int") (fun K => .type "int") true),
  (ckIs (fun K => .type "int") (fun K => .type "bool") false),
  (ckIs (fun K => .type "tuple") (fun K => .type "tuple") true),
  (ckIs (fun K => .type "bool") (fun K => .type "bool") true),
  (ckIs (fun K => .ref (He.ga K "NoDeals")) (fun K => .ref (He.ga K "NoDeals")) true),
  (ckIs (fun K => .ref (He.ga K "NoDeals")) (fun K => .type "ValueError") true),
  (ckIs (fun K => .ref (He.ga K "SizesDiffer")) (fun K => .ref (He.ga K "SizesDiffer")) true),
  (ckIs (fun K => .ref (He.ga K "SizesDiffer")) (fun K => .type "ValueError") true),
  (ckIs (fun K => .ref (He.ga K "SizesDiffer")) (fun K => .ref (He.ga K "NoDeals")) false),
  (ckIs (fun K => .ref (He.ga K "SizesDiffer")) (fun K => .ref (He.ga K "BadLength")) false),
  (ckExm "NoDeals" "DealError" true),
  (ckEC "NoDeals"),
  (ckExm "SizesDiffer" "DealError" true),
  (ckEC "SizesDiffer"),
  (fun K => (He.Fa.exc "NoDeals").ok K),
  (ckOex "SizesDiffer"),
  (ckIni "SizesDiffer"),
  (fun K => (He.Fa.noat "SizesDiffer" "one").ok K),
  (fun K => (He.Fa.noat "SizesDiffer" "two").ok K),
  (fun K => (He.Fa.glo "_wall").ok K),
  (fun K => (He.Fa.glo "tells").ok K),
  (fun K => (He.Fa.glo "unlike_pair").ok K),
  (fun K => (He.Fa.glo "renumbered").ok K),
  (fun K => (He.Fa.glo "listed_cells").ok K),
  (fun K => (He.Fa.glo "joined_marks").ok K),
  (fun K => (He.Fa.glo "check_sizes").ok K),
  (fun K => (He.Fa.glo "restricted").ok K),
  (fun K => (He.Fa.glo "crossed").ok K),
  (fun K => (He.Fa.glo "_law_whole").ok K),
  (fun K => (He.Fa.glo "_law_cell").ok K),
  (fun K => (He.Fa.glo "_law_digits").ok K),
  (fun K => (He.Fa.glo "_law_draw").ok K),
  (fun K => (He.Fa.glo "_law_pair").ok K),
  (fun K => (He.Fa.glo "_law_asks").ok K),
  (fun K => (He.Fa.glo "_law_differs").ok K),
  (fun K => (He.Fa.glo "_law_error").ok K),
  (fun K => (He.Fa.glo "_law_parta").ok K),
  (fun K => (He.Fa.glo "_law_marks").ok K),
  (fun K => (He.Fa.glo "_law_groups").ok K),
  (fun K => (He.Fa.glo "_law_numbers").ok K),
  (fun K => (He.Fa.glo "_law_agrees").ok K),
  (fun K => (He.Fa.glo "_law_draw_x").ok K),
  (fun K => (He.Fa.glo "_law_deals").ok K),
  (fun K => (He.Fa.glo "_law_partb").ok K),
  (fun K => (He.Fa.glo "law").ok K)]
def fn : List Df := [
  ⟨fun K => He.ga K "_wall", "_wall", "_wall", s_wall, []⟩,
  ⟨fun K => He.ma K (He.ga K "SizesDiffer") "__init__", "__init__", "SizesDiffer.__init__", sSizesDifferu__initu_, []⟩,
  ⟨fun K => He.ga K "tells", "tells", "tells", stells, []⟩,
  ⟨fun K => He.ga K "unlike_pair", "unlike_pair", "unlike_pair", sunlike_pair, []⟩,
  ⟨fun K => He.ga K "renumbered", "renumbered", "renumbered", srenumbered, []⟩,
  ⟨fun K => He.ga K "listed_cells", "listed_cells", "listed_cells", slisted_cells, []⟩,
  ⟨fun K => He.ga K "joined_marks", "joined_marks", "joined_marks", sjoined_marks, []⟩,
  ⟨fun K => He.ga K "check_sizes", "check_sizes", "check_sizes", scheck_sizes, []⟩,
  ⟨fun K => He.ma K (He.ga K "Sight") "__init__", "__init__", "Sight.__init__", sSightu__initu_, []⟩,
  ⟨fun K => recAt K "classmethod" "Sight" "nothing", "nothing", "Sight.nothing", sSight_nothing, []⟩,
  ⟨fun K => recAt K "classmethod" "Sight" "everything", "everything", "Sight.everything", sSight_everything, []⟩,
  ⟨fun K => recAt K "property" "Sight" "cells", "cells", "Sight.cells", sSight_cells, []⟩,
  ⟨fun K => He.ma K (He.ga K "Sight") "alike", "alike", "Sight.alike", sSight_alike, []⟩,
  ⟨fun K => He.ma K (He.ga K "Sight") "__and__", "__and__", "Sight.__and__", sSightu__andu_, []⟩,
  ⟨fun K => He.ma K (He.ga K "Sight") "__or__", "__or__", "Sight.__or__", sSightu__oru_, []⟩,
  ⟨fun K => He.ma K (He.ga K "Sight") "__eq__", "__eq__", "Sight.__eq__", sSightu__equ_, []⟩,
  ⟨fun K => He.ga K "restricted", "restricted", "restricted", srestricted, []⟩,
  ⟨fun K => He.ga K "crossed", "crossed", "crossed", scrossed, []⟩,
  ⟨fun K => He.ga K "_law_whole", "_law_whole", "_law_whole", s_law_whole, []⟩,
  ⟨fun K => He.ga K "_law_cell", "_law_cell", "_law_cell", s_law_cell, []⟩,
  ⟨fun K => He.ga K "_law_digits", "_law_digits", "_law_digits", s_law_digits, []⟩,
  ⟨fun K => He.ga K "_law_draw", "_law_draw", "_law_draw", s_law_draw, []⟩,
  ⟨fun K => He.ga K "_law_pair", "_law_pair", "_law_pair", s_law_pair, []⟩,
  ⟨fun K => He.ga K "_law_asks", "_law_asks", "_law_asks", s_law_asks, []⟩,
  ⟨fun K => He.ga K "_law_differs", "_law_differs", "_law_differs", s_law_differs, []⟩,
  ⟨fun K => He.ga K "_law_error", "_law_error", "_law_error", s_law_error, []⟩,
  ⟨fun K => He.ga K "_law_parta", "_law_parta", "_law_parta", s_law_parta, []⟩,
  ⟨fun K => He.ga K "_law_marks", "_law_marks", "_law_marks", s_law_marks, []⟩,
  ⟨fun K => He.ga K "_law_groups", "_law_groups", "_law_groups", s_law_groups, []⟩,
  ⟨fun K => He.ga K "_law_numbers", "_law_numbers", "_law_numbers", s_law_numbers, []⟩,
  ⟨fun K => He.ga K "_law_agrees", "_law_agrees", "_law_agrees", s_law_agrees, []⟩,
  ⟨fun K => He.ga K "_law_draw_x", "_law_draw_x", "_law_draw_x", s_law_draw_x, []⟩,
  ⟨fun K => He.ga K "_law_deals", "_law_deals", "_law_deals", s_law_deals, []⟩,
  ⟨fun K => He.ga K "_law_partb", "_law_partb", "_law_partb", s_law_partb, []⟩,
  ⟨fun K => He.ga K "law", "law", "law", slaw, []⟩]
theorem tx_of {K : PySem.W.Frag} {h : Heap} {mg : Str → Option Value} (X : K.In h) (G : h.Ns mainGlobals mg) (c : SaysM fa fn K) : Tx K mg where
  f_len := He.free_ok X G (c.fact 0)
  f_set := He.free_ok X G (c.fact 1)
  f_tuple := He.free_ok X G (c.fact 2)
  f_list := He.free_ok X G (c.fact 3)
  f_range := He.free_ok X G (c.fact 4)
  f_enumerate := He.free_ok X G (c.fact 5)
  f_zip := He.free_ok X G (c.fact 6)
  f_int := He.free_ok X G (c.fact 7)
  f_bool := He.free_ok X G (c.fact 8)
  f_max := He.free_ok X G (c.fact 9)
  f_isinstance := He.free_ok X G (c.fact 10)
  f_ValueError := He.free_ok X G (c.fact 11)
  g_DealError := He.glo_ok X G (c.fact 12)
  g_NoDeals := He.glo_ok X G (c.fact 13)
  g_SizesDiffer := He.glo_ok X G (c.fact 14)
  g_BadLength := He.glo_ok X G (c.fact 15)
  g_Sight := He.glo_ok X G (c.fact 16)
  c_Sight := He.cls_ok (c.fact 17)
  n_size := He.noat_ok (c.fact 18)
  n_marks := He.noat_ok (c.fact 19)
  n_cells := He.noat_ok (c.fact 20)
  k_Sight := He.mkr_ok (c.fact 21)
  m_alike := He.meth_ok (c.fact 22)
  p_cells := ckProp_ok (c.fact 23)
  r_Sight := ckRead_ok (c.fact 24)
  cm_nothing := ckCm_ok (c.fact 25)
  cm_everything := ckCm_ok (c.fact 26)
  o_and := ckOpr_ok (c.fact 27)
  o_or := ckOpr_ok (c.fact 28)
  o_eq := ckOpr_ok (c.fact 29)
  nf_NoneType := (c.fact 30)
  nf_int := (c.fact 31)
  nf_bool := (c.fact 32)
  nf_list := (c.fact 33)
  nf_tuple := (c.fact 34)
  nf_str := (c.fact 35)
  nf_Sight := (c.fact 36)
  cl_Sight := ckCl_ok (c.fact 37)
  is_Sight_Sight := of_decide_eq_true (c.fact 38)
  is_int_int := of_decide_eq_true (c.fact 39)
  is_int_bool := of_decide_eq_true (c.fact 40)
  is_tuple_tuple := of_decide_eq_true (c.fact 41)
  is_bool_bool := of_decide_eq_true (c.fact 42)
  is_NoDeals_NoDeals := of_decide_eq_true (c.fact 43)
  is_NoDeals_ValueError := of_decide_eq_true (c.fact 44)
  is_SizesDiffer_SizesDiffer := of_decide_eq_true (c.fact 45)
  is_SizesDiffer_ValueError := of_decide_eq_true (c.fact 46)
  is_SizesDiffer_NoDeals := of_decide_eq_true (c.fact 47)
  is_SizesDiffer_BadLength := of_decide_eq_true (c.fact 48)
  x_NoDeals := of_decide_eq_true (c.fact 49)
  ec_NoDeals := ckEC_ok (c.fact 50)
  x_SizesDiffer := of_decide_eq_true (c.fact 51)
  ec_SizesDiffer := ckEC_ok (c.fact 52)
  e_NoDeals := He.exc_ok (c.fact 53)
  oe_SizesDiffer := ckOex_ok (c.fact 54)
  ie_SizesDiffer := ckIni_ok (c.fact 55)
  nS_one := He.noat_ok (c.fact 56)
  nS_two := He.noat_ok (c.fact 57)
  gd__wall := He.glo_ok X G (c.fact 58)
  gd_tells := He.glo_ok X G (c.fact 59)
  gd_unlike_pair := He.glo_ok X G (c.fact 60)
  gd_renumbered := He.glo_ok X G (c.fact 61)
  gd_listed_cells := He.glo_ok X G (c.fact 62)
  gd_joined_marks := He.glo_ok X G (c.fact 63)
  gd_check_sizes := He.glo_ok X G (c.fact 64)
  gd_restricted := He.glo_ok X G (c.fact 65)
  gd_crossed := He.glo_ok X G (c.fact 66)
  gd__law_whole := He.glo_ok X G (c.fact 67)
  gd__law_cell := He.glo_ok X G (c.fact 68)
  gd__law_digits := He.glo_ok X G (c.fact 69)
  gd__law_draw := He.glo_ok X G (c.fact 70)
  gd__law_pair := He.glo_ok X G (c.fact 71)
  gd__law_asks := He.glo_ok X G (c.fact 72)
  gd__law_differs := He.glo_ok X G (c.fact 73)
  gd__law_error := He.glo_ok X G (c.fact 74)
  gd__law_parta := He.glo_ok X G (c.fact 75)
  gd__law_marks := He.glo_ok X G (c.fact 76)
  gd__law_groups := He.glo_ok X G (c.fact 77)
  gd__law_numbers := He.glo_ok X G (c.fact 78)
  gd__law_agrees := He.glo_ok X G (c.fact 79)
  gd__law_draw_x := He.glo_ok X G (c.fact 80)
  gd__law_deals := He.glo_ok X G (c.fact 81)
  gd__law_partb := He.glo_ok X G (c.fact 82)
  gd_law := He.glo_ok X G (c.fact 83)
  d__wall := c.def_ 0
  d_SizesDifferu__initu_ := c.def_ 1
  d_tells := c.def_ 2
  d_unlike_pair := c.def_ 3
  d_renumbered := c.def_ 4
  d_listed_cells := c.def_ 5
  d_joined_marks := c.def_ 6
  d_check_sizes := c.def_ 7
  d_Sightu__initu_ := c.def_ 8
  d_Sight_nothing := c.def_ 9
  d_Sight_everything := c.def_ 10
  d_Sight_cells := c.def_ 11
  d_Sight_alike := c.def_ 12
  d_Sightu__andu_ := c.def_ 13
  d_Sightu__oru_ := c.def_ 14
  d_Sightu__equ_ := c.def_ 15
  d_restricted := c.def_ 16
  d_crossed := c.def_ 17
  d__law_whole := c.def_ 18
  d__law_cell := c.def_ 19
  d__law_digits := c.def_ 20
  d__law_draw := c.def_ 21
  d__law_pair := c.def_ 22
  d__law_asks := c.def_ 23
  d__law_differs := c.def_ 24
  d__law_error := c.def_ 25
  d__law_parta := c.def_ 26
  d__law_marks := c.def_ 27
  d__law_groups := c.def_ 28
  d__law_numbers := c.def_ 29
  d__law_agrees := c.def_ 30
  d__law_draw_x := c.def_ 31
  d__law_deals := c.def_ 32
  d__law_partb := c.def_ 33
  d_law := c.def_ 34
theorem Tx.a__wall {K : PySem.W.Frag} {mg : Str → Option Value} (T : Tx K mg) : At K mg "_wall" s_wall := ⟨T.d__wall, T.gd__wall⟩
theorem Tx.a_tells {K : PySem.W.Frag} {mg : Str → Option Value} (T : Tx K mg) : At K mg "tells" stells := ⟨T.d_tells, T.gd_tells⟩
theorem Tx.a_unlike_pair {K : PySem.W.Frag} {mg : Str → Option Value} (T : Tx K mg) : At K mg "unlike_pair" sunlike_pair := ⟨T.d_unlike_pair, T.gd_unlike_pair⟩
theorem Tx.a_renumbered {K : PySem.W.Frag} {mg : Str → Option Value} (T : Tx K mg) : At K mg "renumbered" srenumbered := ⟨T.d_renumbered, T.gd_renumbered⟩
theorem Tx.a_listed_cells {K : PySem.W.Frag} {mg : Str → Option Value} (T : Tx K mg) : At K mg "listed_cells" slisted_cells := ⟨T.d_listed_cells, T.gd_listed_cells⟩
theorem Tx.a_joined_marks {K : PySem.W.Frag} {mg : Str → Option Value} (T : Tx K mg) : At K mg "joined_marks" sjoined_marks := ⟨T.d_joined_marks, T.gd_joined_marks⟩
theorem Tx.a_check_sizes {K : PySem.W.Frag} {mg : Str → Option Value} (T : Tx K mg) : At K mg "check_sizes" scheck_sizes := ⟨T.d_check_sizes, T.gd_check_sizes⟩
theorem Tx.a_restricted {K : PySem.W.Frag} {mg : Str → Option Value} (T : Tx K mg) : At K mg "restricted" srestricted := ⟨T.d_restricted, T.gd_restricted⟩
theorem Tx.a_crossed {K : PySem.W.Frag} {mg : Str → Option Value} (T : Tx K mg) : At K mg "crossed" scrossed := ⟨T.d_crossed, T.gd_crossed⟩
theorem Tx.a__law_whole {K : PySem.W.Frag} {mg : Str → Option Value} (T : Tx K mg) : At K mg "_law_whole" s_law_whole := ⟨T.d__law_whole, T.gd__law_whole⟩
theorem Tx.a__law_cell {K : PySem.W.Frag} {mg : Str → Option Value} (T : Tx K mg) : At K mg "_law_cell" s_law_cell := ⟨T.d__law_cell, T.gd__law_cell⟩
theorem Tx.a__law_digits {K : PySem.W.Frag} {mg : Str → Option Value} (T : Tx K mg) : At K mg "_law_digits" s_law_digits := ⟨T.d__law_digits, T.gd__law_digits⟩
theorem Tx.a__law_draw {K : PySem.W.Frag} {mg : Str → Option Value} (T : Tx K mg) : At K mg "_law_draw" s_law_draw := ⟨T.d__law_draw, T.gd__law_draw⟩
theorem Tx.a__law_pair {K : PySem.W.Frag} {mg : Str → Option Value} (T : Tx K mg) : At K mg "_law_pair" s_law_pair := ⟨T.d__law_pair, T.gd__law_pair⟩
theorem Tx.a__law_asks {K : PySem.W.Frag} {mg : Str → Option Value} (T : Tx K mg) : At K mg "_law_asks" s_law_asks := ⟨T.d__law_asks, T.gd__law_asks⟩
theorem Tx.a__law_differs {K : PySem.W.Frag} {mg : Str → Option Value} (T : Tx K mg) : At K mg "_law_differs" s_law_differs := ⟨T.d__law_differs, T.gd__law_differs⟩
theorem Tx.a__law_error {K : PySem.W.Frag} {mg : Str → Option Value} (T : Tx K mg) : At K mg "_law_error" s_law_error := ⟨T.d__law_error, T.gd__law_error⟩
theorem Tx.a__law_parta {K : PySem.W.Frag} {mg : Str → Option Value} (T : Tx K mg) : At K mg "_law_parta" s_law_parta := ⟨T.d__law_parta, T.gd__law_parta⟩
theorem Tx.a__law_marks {K : PySem.W.Frag} {mg : Str → Option Value} (T : Tx K mg) : At K mg "_law_marks" s_law_marks := ⟨T.d__law_marks, T.gd__law_marks⟩
theorem Tx.a__law_groups {K : PySem.W.Frag} {mg : Str → Option Value} (T : Tx K mg) : At K mg "_law_groups" s_law_groups := ⟨T.d__law_groups, T.gd__law_groups⟩
theorem Tx.a__law_numbers {K : PySem.W.Frag} {mg : Str → Option Value} (T : Tx K mg) : At K mg "_law_numbers" s_law_numbers := ⟨T.d__law_numbers, T.gd__law_numbers⟩
theorem Tx.a__law_agrees {K : PySem.W.Frag} {mg : Str → Option Value} (T : Tx K mg) : At K mg "_law_agrees" s_law_agrees := ⟨T.d__law_agrees, T.gd__law_agrees⟩
theorem Tx.a__law_draw_x {K : PySem.W.Frag} {mg : Str → Option Value} (T : Tx K mg) : At K mg "_law_draw_x" s_law_draw_x := ⟨T.d__law_draw_x, T.gd__law_draw_x⟩
theorem Tx.a__law_deals {K : PySem.W.Frag} {mg : Str → Option Value} (T : Tx K mg) : At K mg "_law_deals" s_law_deals := ⟨T.d__law_deals, T.gd__law_deals⟩
theorem Tx.a__law_partb {K : PySem.W.Frag} {mg : Str → Option Value} (T : Tx K mg) : At K mg "_law_partb" s_law_partb := ⟨T.d__law_partb, T.gd__law_partb⟩
theorem Tx.a_law {K : PySem.W.Frag} {mg : Str → Option Value} (T : Tx K mg) : At K mg "law" slaw := ⟨T.d_law, T.gd_law⟩
end K01
set_option Elab.async false
set_option linter.all false
set_option maxRecDepth 100000
set_option maxHeartbeats 0
/-! K01: the head's run. -/
namespace K01
open PySem PySem.Spec PyProof.Rows L2 Ms
abbrev R : PySem.W.OpenRow := PySem.W.OpenLaw.row PySem.Challenge.rw_manysights_k01_tells_restricted_crossed
abbrev hk : PySem.W.Hook := hookM 5 fa fn
def ob (s : PySem.W.SharedT) : AlM := obsMG 5 fa fn (HandSHeadRun.getT s)
theorem ob_eq (s : PySem.W.SharedT) : ob s = hk.obs s.abs := obsMG_eq (HandSHeadRun.getT_eq s)
def loose : List PySem.Str := (["_wall", "DealError", "NoDeals", "SizesDiffer", "BadLength", "tells", "unlike_pair", "renumbered", "listed_cells", "joined_marks", "check_sizes", "Sight", "restricted", "crossed", "_law_whole", "_law_cell", "_law_digits", "_law_draw", "_law_pair", "_law_asks", "_law_differs", "_law_error", "_law_parta", "_law_marks"] : List PySem.Str) ++ (["_law_groups", "_law_numbers", "_law_agrees", "_law_draw_x", "_law_deals", "_law_partb"] : List PySem.Str)
theorem run (w : World) : HandSHeadRun.RunEq R (PySem.W.view R.prog [35]) hk ob 4000 loose w := by
  intro os
  kernel_rfl
end K01
set_option Elab.async false
set_option linter.all false
set_option maxRecDepth 100000
set_option maxHeartbeats 4000000
/-! d.setdefault(t, x) where the keys are tuples. -/
namespace Ms
open PySem PySem.Spec PyProof.Rows L2
section
variable {X : Cx} {pins : List (Addr × Obj)} {σ : St} {H : Hp} {s : Shared} {a b : Addr} {r : Value} {d : V} {k : List Key} {A : Around} {E : Value → Shared → Prop}
theorem d_setdT {kvs : List (List Key × V)} {Q : Value → Shared → Prop} (hu : A.units + 1 < cLine) (I : Inv X pins σ H s) (e : H a = some (.dT kvs)) (eb : H b = some (.tup (k.map kV))) (rd : RelV d r) (hl : kvs.length < sizeLine)
    (h1 : ∀ v, valV kvs k = some v → ∀ (w' : Value) (s' : Shared), Inv X pins σ H s' → RelV v w' → Q w' s')
    (h2 : valV kvs k = none → ∀ (w' : Value) (s' : Shared), Inv X pins σ (upd H a (.dT (putK kvs k d))) s' → RelV d w' → Q w' s') :
    wpAny (model X.prog X.w) A (call (.builtin "dict.setdefault") [.ref a, .ref b, r]) Q E s := by
  obtain ⟨z, hd, xs, rel, dd⟩ := dt_of I.hok e
  have hz : xs.length ≤ sizeLine := by rw [← Paired.length rel]; exact z
  refine call_setdefault_heap (hsz := hz) (knd := tupleKind (mixKind X.prog X.w)) (tupleKind_room_in1 hu) (key_of I.hok eb) hd dd (fun p hp => ?_) fun hn h' dd' hs => ?_
  · have q := rel.val k
    rw [hp] at q
    cases q0 : valV kvs k with
    | none =>
      rw [q0] at q
      exact (show False from q).elim
    | some v0 =>
      rw [q0] at q
      exact h1 v0 q0 _ _ (I.tok _) q
  · have q := rel.val k
    rw [hn] at q
    cases q0 : valV kvs k with
    | some v0 =>
      rw [q0] at q
      exact (show False from q).elim
    | none =>
      have hl2 : (putK kvs k d).length ≤ sizeLine := by
        have := length_putK kvs k d
        omega
      obtain ⟨q, es, ep, hq, g2, g3, g4, _, g5⟩ := dd'
      refine h2 q0 _ _ (d_write I (by rw [e]; exact True.intro) hs ⟨q, hq⟩ ⟨hl2, hd, _, (rel.put k eb rd).keeps fun c ys ec => ?_, q, es, ep, hq, g2, g3, g4, g5⟩) rd
      rw [upd_ne (ne_of ec e (fun z => nomatch z))]
      exact ec
end
/-- d.setdefault(y, z), y a tuple -/
def tDSetdT (td ty tx : TE) : TE := fun σ H Q => td σ H fun x H1 => ∃ a, x = .ref a ∧ IsD H1 a ∧ ty σ H1 fun y H2 => tx σ H2 fun z H3 => ∃ (kvs : List (List Key × V)) (k : List Key) (b : Addr), H3 a = some (.dT kvs) ∧ y = .ref b ∧ H3 b = some (.tup (k.map kV)) ∧ kvs.length < sizeLine ∧
  (∀ v, valV kvs k = some v → Q v H3) ∧ (valV kvs k = none → Q z (upd H3 a (.dT (putK kvs k z))))
section
variable {X : Cx} {o e f : Expr} {td ty tx : TE} {apos cpos : Pos}
theorem pe_dsetdT (hu : X.A.units + 1 < cLine) (ho : PE X o td) (he : PE X e ty) (hf : PE X f tx) (m : M2 X o "setdefault" apos e f cpos) : PE X (.Call (.Attribute o "setdefault" apos) [e, f] [] cpos) (tDSetdT td ty tx) := by
  refine ⟨fun pins s σ H Q I h => ?_⟩
  refine wpAny_Call_method m.base m.few m.line PySem.F.plainAttrs_dict PySem.F.slot_dict_setdefault PySem.F.type_dict_setdefault (thn (ho.run pins s σ H _ I h) fun u s1 ⟨x, H1, I1, rx, a, ex, d, q1⟩ => ?_)
  subst ex
  obtain rfl : u = Value.ref a := rx
  obtain ⟨t1, t2, _⟩ := isD_at I1 d
  refine ⟨t1, t2, ?_⟩
  rw [m.trees]
  refine Calls.callWith_builtin rfl (Calls.evalArgs_plain (Calls.spliced_cons (thn (he.run pins s1 σ H1 _ I1 q1) fun iv s2 ⟨y, H2, I2, ry, q2⟩ =>
    Calls.spliced_cons (thn (hf.run pins s2 σ H2 _ I2 q2) fun fv s3 ⟨z, H3, I3, rz, kvs, k, b, ea, ey, eb, hl, q3, q4⟩ => Calls.spliced_nil ?_))))
  subst ey
  obtain rfl : iv = Value.ref b := ry
  exact d_setdT hu I3 ea eb rz hl (fun v hv w' s4 I4 rw' => ⟨v, _, I4, rw', q3 v hv⟩) fun hn w' s4 I4 rw' => ⟨z, _, I4, rw', q4 hn⟩
end
end Ms
set_option Elab.async false
set_option linter.all false
set_option maxRecDepth 100000
set_option maxHeartbeats 4000000
/-! Ms, plain: numbers by first places, cells. -/
namespace Ms
theorem snoc_ind {α : Type} {C : List α → Prop} (h0 : C []) (hs : ∀ l a, C l → C (l ++ [a])) : ∀ l, C l := fun l => by
  have h : ∀ n (l : List α), l.length = n → C l := fun n => by
    induction n with
    | zero => intro l hl; rw [List.length_eq_zero_iff.mp hl]; exact h0
    | succ n ih =>
      intro l hl
      have ne : l ≠ [] := by intro z; rw [z] at hl; cases hl
      rw [← List.dropLast_concat_getLast ne]
      exact hs _ _ (ih _ (by rw [List.length_dropLast, hl]; rfl))
  exact h _ l rfl
section
variable {κ ι : Type} [DecidableEq κ] [DecidableEq ι]
/-- each once, by first places -/
def firsts (ks : List κ) : List κ := ks.foldl (fun acc k => if k ∈ acc then acc else acc ++ [k]) []
def ren (ks : List κ) : List Nat := ks.map fun k => (firsts ks).idxOf k
theorem firsts_nil : firsts ([] : List κ) = [] := rfl
theorem firsts_snoc (ks : List κ) (k : κ) : firsts (ks ++ [k]) = if k ∈ firsts ks then firsts ks else firsts ks ++ [k] := by
  unfold firsts
  rw [List.foldl_append] <;> rfl
theorem mem_firsts (ks : List κ) : ∀ k : κ, k ∈ firsts ks ↔ k ∈ ks := by
  induction ks using snoc_ind with
  | h0 => intro k; simp [firsts_nil]
  | hs l a ih =>
    intro k
    rw [firsts_snoc]
    by_cases h : a ∈ firsts l
    · rw [if_pos h, ih, List.mem_append, List.mem_singleton]
      exact ⟨.inl, fun z => z.elim id fun e => by rw [e]; exact (ih a).mp h⟩
    · rw [if_neg h, List.mem_append, List.mem_append, ih]
theorem firsts_nodup (ks : List κ) : (firsts ks).Nodup := by
  induction ks using snoc_ind with
  | h0 => exact List.nodup_nil
  | hs l a ih =>
    rw [firsts_snoc]
    by_cases h : a ∈ firsts l
    · rw [if_pos h]; exact ih
    · rw [if_neg h]
      exact List.nodup_append.mpr ⟨ih, List.nodup_cons.mpr ⟨List.not_mem_nil, List.nodup_nil⟩, fun x hx y hy e => h (by rw [List.mem_singleton] at hy; rw [← hy, ← e]; exact hx)⟩
theorem firsts_old {l : List κ} {k : κ} (h : k ∈ l) : firsts (l ++ [k]) = firsts l := by rw [firsts_snoc, if_pos ((mem_firsts l k).mpr h)]
theorem firsts_new {l : List κ} {k : κ} (h : ¬ k ∈ l) : firsts (l ++ [k]) = firsts l ++ [k] := by rw [firsts_snoc, if_neg fun z => h ((mem_firsts l k).mp z)]
theorem ix_snoc {l : List κ} {k j : κ} (h : j ∈ l) : (firsts (l ++ [k])).idxOf j = (firsts l).idxOf j := by
  by_cases hk : k ∈ l
  · rw [firsts_old hk]
  · rw [firsts_new hk, List.idxOf_append, if_pos ((mem_firsts l j).mpr h)]
theorem ix_self (l : List κ) (k : κ) : (firsts (l ++ [k])).idxOf k = (firsts l).idxOf k := by
  by_cases hk : k ∈ l
  · rw [firsts_old hk]
  · have hn : ¬ k ∈ firsts l := fun z => hk ((mem_firsts l k).mp z)
    rw [firsts_new hk, List.idxOf_append, if_neg hn, List.idxOf_eq_length hn]
    simp
theorem ren_snoc (l : List κ) (k : κ) : ren (l ++ [k]) = ren l ++ [(firsts l).idxOf k] := by
  unfold ren
  rw [List.map_append, List.map_singleton, ix_self]
  congr 1
  exact List.map_congr_left fun j hj => ix_snoc hj
theorem ren_nil : ren ([] : List κ) = [] := rfl
theorem ren_len (l : List κ) : (ren l).length = l.length := List.length_map ..
theorem ren_at {l : List κ} {i : Nat} {k : κ} (h : l[i]? = some k) : (ren l)[i]? = some ((firsts l).idxOf k) := by
  unfold ren
  rw [List.getElem?_map, h] <;> rfl
theorem ix_lt {l : List κ} {k : κ} (h : k ∈ l) : (firsts l).idxOf k < (firsts l).length := List.idxOf_lt_length_of_mem ((mem_firsts l k).mpr h)
theorem ix_inj {l : List κ} {k j : κ} (hk : k ∈ l) (hj : j ∈ l) (e : (firsts l).idxOf k = (firsts l).idxOf j) : k = j := by
  have h1 := List.getElem_idxOf (ix_lt hk)
  have h2 := List.getElem_idxOf (ix_lt hj)
  rw [← h1, ← h2]
  simp only [e]
/-- the pattern of equal places -/
def Alike (ks : List κ) (js : List ι) : Prop := ks.length = js.length ∧ ∀ (i j : Nat) (a b : κ) (c d : ι), ks[i]? = some a → ks[j]? = some b → js[i]? = some c → js[j]? = some d → (a = b ↔ c = d)
theorem Alike.symm {ks : List κ} {js : List ι} (h : Alike ks js) : Alike js ks := ⟨h.1.symm, fun i j a b c d h1 h2 h3 h4 => (h.2 i j c d a b h3 h4 h1 h2).symm⟩
theorem getE {α : Type} {l : List α} {i : Nat} (h : i < l.length) : l[i]? = some l[i] := List.getElem?_eq_getElem h
theorem ltE {α : Type} {l : List α} {i : Nat} {a : α} (h : l[i]? = some a) : i < l.length := (List.getElem?_eq_some_iff.mp h).1
theorem Alike.trans {μ : Type} [DecidableEq μ] {ks : List κ} {js : List ι} {ms : List μ} (h : Alike ks js) (g : Alike js ms) : Alike ks ms := ⟨h.1.trans g.1, fun i j a b c d h1 h2 h3 h4 => by
  have li : i < js.length := h.1 ▸ ltE h1
  have lj : j < js.length := h.1 ▸ ltE h2
  exact (h.2 i j _ _ _ _ h1 h2 (getE li) (getE lj)).trans (g.2 i j _ _ _ _ (getE li) (getE lj) h3 h4)⟩
theorem alike_ren (l : List κ) : Alike l (ren l) := ⟨(ren_len l).symm, fun i j a b c d h1 h2 h3 h4 => by
  rw [ren_at h1] at h3
  rw [ren_at h2] at h4
  rw [← Option.some.inj h3, ← Option.some.inj h4]
  exact ⟨fun e => by rw [e], fun e => ix_inj (List.mem_of_getElem? h1) (List.mem_of_getElem? h2) e⟩⟩
theorem alike_map {l : List κ} {f : κ → ι} (hf : ∀ a b, f a = f b → a = b) : Alike l (l.map f) := ⟨(List.length_map ..).symm, fun i j a b c d h1 h2 h3 h4 => by
  rw [List.getElem?_map, h1] at h3
  rw [List.getElem?_map, h2] at h4
  rw [← Option.some.inj h3, ← Option.some.inj h4]
  exact ⟨fun e => by rw [e], hf a b⟩⟩
theorem Alike.init {l : List κ} {k : κ} {m : List ι} {j : ι} (h : Alike (l ++ [k]) (m ++ [j])) : Alike l m := by
  obtain ⟨e, h⟩ := h
  have e' : l.length = m.length := by simpa using e
  refine ⟨e', fun p q a b c d h1 h2 h3 h4 => ?_⟩
  have up : ∀ {α : Type} {x : List α} {y a : α} {p : Nat}, x[p]? = some a → (x ++ [y])[p]? = some a := fun {α x y a p} z => by rw [List.getElem?_append_left (ltE z)]; exact z
  exact h p q a b c d (up h1) (up h2) (up h3) (up h4)
theorem ren_alike {ks : List κ} : ∀ {js : List ι}, Alike ks js → ren ks = ren js ∧ (firsts ks).length = (firsts js).length := by
  induction ks using snoc_ind with
  | h0 =>
    intro js h
    have e : js = [] := List.length_eq_zero_iff.mp h.1.symm
    rw [e]
    exact ⟨rfl, rfl⟩
  | hs l k ih =>
    intro js h
    have ne : js ≠ [] := fun z => by have := h.1; rw [z, List.length_append] at this; simp at this
    obtain ⟨m, j, rfl⟩ : ∃ m j, js = m ++ [j] := ⟨_, _, (List.dropLast_concat_getLast ne).symm⟩
    obtain ⟨r1, r2⟩ := ih h.init
    have el : l.length = m.length := h.init.1
    have last1 : (l ++ [k])[l.length]? = some k := by simp
    have last2 : (m ++ [j])[l.length]? = some j := by rw [el]; simp
    have up : ∀ {α : Type} {x : List α} {y a : α} {p : Nat}, x[p]? = some a → (x ++ [y])[p]? = some a := fun {α x y a p} z => by rw [List.getElem?_append_left (ltE z)]; exact z
    rw [ren_snoc, ren_snoc, r1]
    by_cases hk : k ∈ l
    · obtain ⟨p, hp⟩ := List.mem_iff_getElem?.mp hk
      have hp2 : p < m.length := el ▸ ltE hp
      have ej : m[p] = j := (h.2 p l.length k k _ _ (up hp) last1 (up (getE hp2)) last2).mp rfl
      have gj : m[p]? = some j := by rw [getE hp2, ej]
      have hj : j ∈ m := List.mem_of_getElem? gj
      have a1 := ren_at hp
      have a2 := ren_at gj
      rw [r1, a2] at a1
      rw [firsts_old hk, firsts_old hj, Option.some.inj a1]
      exact ⟨rfl, r2⟩
    · have hj : ¬ j ∈ m := fun z => by
        obtain ⟨p, hp⟩ := List.mem_iff_getElem?.mp z
        have hp2 : p < l.length := el ▸ ltE hp
        have ek : l[p] = k := (h.2 p l.length _ _ j j (up (getE hp2)) last1 (up hp) last2).mpr rfl
        exact hk (ek ▸ List.getElem_mem hp2)
      rw [firsts_new hk, firsts_new hj, List.idxOf_eq_length fun z => hk ((mem_firsts l k).mp z), List.idxOf_eq_length fun z => hj ((mem_firsts m j).mp z), r2]
      exact ⟨rfl, by rw [List.length_append, List.length_append, r2] <;> rfl⟩
theorem ren_ren (l : List κ) : ren (ren l) = ren l := (ren_alike (alike_ren l).symm).1
theorem ren_map {l : List κ} {f : κ → ι} (hf : ∀ a b, f a = f b → a = b) : ren (l.map f) = ren l := (ren_alike (alike_map hf).symm).1
/-- a row of numbers as a sight holds it -/
def Row (r : List Nat) : Prop := ren r = r
theorem row_ren (l : List κ) : Row (ren l) := ren_ren l
theorem firsts_ren (l : List κ) : firsts (ren l) = List.range (firsts l).length := by
  induction l using snoc_ind with
  | h0 => rfl
  | hs l k ih =>
    rw [ren_snoc]
    by_cases hk : k ∈ l
    · rw [firsts_old hk, firsts_old, ih]
      obtain ⟨p, hp⟩ := List.mem_iff_getElem?.mp hk
      exact List.mem_of_getElem? (ren_at hp)
    · have e := List.idxOf_eq_length fun z => hk ((mem_firsts l k).mp z)
      rw [e, firsts_new, ih, firsts_new hk, List.length_append, List.length_singleton, List.range_succ]
      intro z
      rw [← mem_firsts, ih, List.mem_range] at z
      exact Nat.lt_irrefl _ z
theorem ren_lt {l : List κ} {n : Nat} (h : n ∈ ren l) : n < (firsts l).length := by
  rw [← mem_firsts, firsts_ren, List.mem_range] at h
  exact h
theorem firsts_le (l : List κ) : (firsts l).length ≤ l.length := by
  induction l using snoc_ind with
  | h0 => exact Nat.le_refl _
  | hs l k ih =>
    rw [firsts_snoc, List.length_append, List.length_singleton]
    by_cases h : k ∈ firsts l
    · rw [if_pos h]; omega
    · rw [if_neg h, List.length_append, List.length_singleton]; omega
/-- where m stands -/
def places (m : κ) (ks : List κ) : List Nat := (List.range ks.length).filter fun i => decide (ks[i]? = some m)
def cellsOf (ks : List κ) : List (List Nat) := (firsts ks).map fun m => places m ks
theorem places_snoc (m : κ) (l : List κ) (k : κ) : places m (l ++ [k]) = if m = k then places m l ++ [l.length] else places m l := by
  unfold places
  rw [List.length_append, List.length_singleton, List.range_succ, List.filter_append]
  have e : (List.range l.length).filter (fun i => decide ((l ++ [k])[i]? = some m)) = (List.range l.length).filter fun i => decide (l[i]? = some m) := by
    refine List.filter_congr fun i hi => ?_
    rw [List.getElem?_append_left (List.mem_range.mp hi)]
  rw [e]
  by_cases h : m = k
  · rw [if_pos h, h]; simp
  · rw [if_neg h]
    have : ¬ k = m := fun z => h z.symm
    simp [this]
theorem places_out {m : κ} {l : List κ} (h : ¬ m ∈ l) : places m l = [] := by
  unfold places
  rw [List.filter_eq_nil_iff]
  intro i _
  simp only [decide_eq_true_eq]
  exact fun z => h (List.mem_of_getElem? z)
end
end Ms
set_option Elab.async false
set_option linter.all false
set_option maxRecDepth 100000
set_option maxHeartbeats 4000000
/-! Ms, plain: cells joined where they meet. -/
namespace Ms
inductive Eqv (G : Nat → Nat → Prop) : Nat → Nat → Prop where
  | of {a b : Nat} (h : G a b) : Eqv G a b
  | refl (a : Nat) : Eqv G a a
  | symm {a b : Nat} (h : Eqv G a b) : Eqv G b a
  | trans {a b c : Nat} (h : Eqv G a b) (g : Eqv G b c) : Eqv G a c
theorem Eqv.mono {G G' : Nat → Nat → Prop} (h : ∀ p q, G p q → Eqv G' p q) {a b : Nat} (e : Eqv G a b) : Eqv G' a b := by
  induction e with
  | of g => exact h _ _ g
  | refl a => exact .refl a
  | symm _ ih => exact ih.symm
  | trans _ _ i1 i2 => exact i1.trans i2
/-- two classes made one -/
def Mg (R : Nat → Nat → Prop) (u i a b : Nat) : Prop := R a b ∨ (R a u ∧ R i b) ∨ (R a i ∧ R u b)
theorem eqv_step {G G' : Nat → Nat → Prop} {u i : Nat} (h1 : ∀ p q, G p q → Eqv G' p q) (h2 : Eqv G' u i) (h3 : ∀ p q, G' p q → Mg (Eqv G) u i p q) (a b : Nat) : Eqv G' a b ↔ Mg (Eqv G) u i a b := by
  constructor
  · intro e
    induction e with
    | of g => exact h3 _ _ g
    | refl a => exact .inl (.refl a)
    | symm _ ih =>
      rcases ih with h | ⟨h, k⟩ | ⟨h, k⟩
      · exact .inl h.symm
      · exact .inr (.inr ⟨k.symm, h.symm⟩)
      · exact .inr (.inl ⟨k.symm, h.symm⟩)
    | trans _ _ i1 i2 =>
      rcases i1 with h | ⟨h, k⟩ | ⟨h, k⟩
      · rcases i2 with h' | ⟨h', k'⟩ | ⟨h', k'⟩
        · exact .inl (h.trans h')
        · exact .inr (.inl ⟨h.trans h', k'⟩)
        · exact .inr (.inr ⟨h.trans h', k'⟩)
      · rcases i2 with h' | ⟨h', k'⟩ | ⟨h', k'⟩
        · exact .inr (.inl ⟨h, k.trans h'⟩)
        · exact .inr (.inl ⟨h, k'⟩)
        · exact .inl (h.trans k')
      · rcases i2 with h' | ⟨h', k'⟩ | ⟨h', k'⟩
        · exact .inr (.inr ⟨h, k.trans h'⟩)
        · exact .inl (h.trans k')
        · exact .inr (.inr ⟨h, k'⟩)
  · have up : ∀ {p q}, Eqv G p q → Eqv G' p q := fun {p q} e => e.mono h1
    rintro (h | ⟨h, k⟩ | ⟨h, k⟩)
    · exact up h
    · exact ((up h).trans h2).trans (up k)
    · exact ((up h).trans h2.symm).trans (up k)
section
variable {κ ι : Type} [DecidableEq κ] [DecidableEq ι]
/-- places below m alike in one, places below n alike in two -/
def Gn (one : List κ) (m : Nat) (two : List ι) (n : Nat) (p q : Nat) : Prop := (p < m ∧ q < m ∧ one[p]? = one[q]?) ∨ (p < n ∧ q < n ∧ two[p]? = two[q]?)
theorem gn_swap {one : List κ} {two : List ι} {m n p q : Nat} : Gn one m two n p q ↔ Gn two n one m p q := Or.comm
/-- the first place of x -/
def ix1 (two : List ι) (x : ι) : Nat := two.idxOf x
theorem idx_first {two : List ι} {i : Nat} {x : ι} (h : two[i]? = some x) : ix1 two x ≤ i ∧ two[ix1 two x]? = some x := by
  unfold ix1
  have hx : x ∈ two := List.mem_of_getElem? h
  have l := List.idxOf_lt_length_of_mem hx
  refine ⟨?_, by rw [getE l, List.getElem_idxOf l]⟩
  rcases Nat.lt_or_ge i (two.idxOf x) with g | g
  · exfalso
    have q := List.not_of_lt_findIdx (p := fun y => y == x) (xs := two) (i := i) (by unfold List.idxOf at g; exact g)
    have li := ltE h
    rw [getE li] at h
    rw [Option.some.inj h] at q
    simp at q
  · exact g
/-- one more place of two -/
theorem gn_two {one : List κ} {two : List ι} {m i : Nat} {x : ι} (h : two[i]? = some x) (a b : Nat) : Eqv (Gn one m two (i + 1)) a b ↔ Mg (Eqv (Gn one m two i)) (ix1 two x) i a b := by
  obtain ⟨l, e⟩ := idx_first h
  refine eqv_step (fun p q g => .of ?_) (.of (.inr ⟨by omega, by omega, by rw [e, h]⟩)) (fun p q g => ?_) a b
  · rcases g with ⟨h1, h2, h3⟩ | ⟨h1, h2, h3⟩
    · exact .inl ⟨h1, h2, h3⟩
    · exact .inr ⟨by omega, by omega, h3⟩
  · rcases g with ⟨h1, h2, h3⟩ | ⟨h1, h2, h3⟩
    · exact .inl (.of (.inl ⟨h1, h2, h3⟩))
    · have key : ∀ q, q < i → two[q]? = some x → Eqv (Gn one m two i) (ix1 two x) q := fun q hq hx => by
        obtain ⟨l2, _⟩ := idx_first hx
        exact .of (.inr ⟨by omega, hq, by rw [e, hx]⟩)
      rcases Nat.lt_or_ge p i with hp | hp
      · rcases Nat.lt_or_ge q i with hq | hq
        · exact .inl (.of (.inr ⟨hp, hq, h3⟩))
        · have eq : q = i := by omega
          subst eq
          exact .inr (.inl ⟨(key p hp (by rw [h3, h])).symm, .refl _⟩)
      · have ep : p = i := by omega
        subst ep
        rcases Nat.lt_or_ge q p with hq | hq
        · exact .inr (.inr ⟨.refl _, key q hq (by rw [← h3, h])⟩)
        · have eq : q = p := by omega
          rw [eq]
          exact .inl (.refl _)
theorem gn_one {one : List κ} {two : List ι} {n i : Nat} {x : κ} (h : one[i]? = some x) (a b : Nat) : Eqv (Gn one (i + 1) two n) a b ↔ Mg (Eqv (Gn one i two n)) (ix1 one x) i a b := by
  have sw : ∀ m a b, Eqv (Gn one m two n) a b ↔ Eqv (Gn two n one m) a b := fun m a b => ⟨fun e => e.mono fun p q g => .of (gn_swap.mp g), fun e => e.mono fun p q g => .of (gn_swap.mpr g)⟩
  rw [sw, gn_two h]
  unfold Mg
  rw [← sw, ← sw, ← sw, ← sw, ← sw]
/-- the places that both rows join -/
def Jn (one : List κ) (two : List ι) (a b : Nat) : Prop := Eqv (Gn one one.length two two.length) a b
theorem jn_swap {one : List κ} {two : List ι} {a b : Nat} : Jn one two a b ↔ Jn two one a b :=
  ⟨fun e => e.mono fun p q g => .of (gn_swap.mp g), fun e => e.mono fun p q g => .of (gn_swap.mpr g)⟩
/-- a row whose places are alike where the two rows are joined -/
def Joins {μ : Type} (one : List κ) (two : List ι) (r : List μ) : Prop := r.length = one.length ∧ ∀ (i j : Nat) (a b : μ), r[i]? = some a → r[j]? = some b → (a = b ↔ Jn one two i j)
theorem Joins.alike {μ ν : Type} [DecidableEq μ] [DecidableEq ν] {one : List κ} {two : List ι} {r : List μ} {t : List ν} (h : Joins one two r) (g : Joins one two t) : Alike r t := ⟨h.1.trans g.1.symm, fun i j a b c d h1 h2 h3 h4 => (h.2 i j a b h1 h2).trans (g.2 i j c d h3 h4).symm⟩
theorem Joins.swap {μ : Type} {one : List κ} {two : List ι} {r : List μ} (e : one.length = two.length) (h : Joins one two r) : Joins two one r := ⟨h.1.trans e, fun i j a b h1 h2 => (h.2 i j a b h1 h2).trans jn_swap⟩
theorem Joins.ren {μ : Type} [DecidableEq μ] {one : List κ} {two : List ι} {r : List μ} (h : Joins one two r) : Joins one two (Ms.ren r) := by
  refine ⟨(ren_len r).trans h.1, fun i j a b h1 h2 => ?_⟩
  have l1 : i < r.length := by rw [← ren_len r]; exact ltE h1
  have l2 : j < r.length := by rw [← ren_len r]; exact ltE h2
  exact ((alike_ren r).2 i j _ _ _ _ (getE l1) (getE l2) h1 h2).symm.trans (h.2 i j _ _ (getE l1) (getE l2))
/-- where one is at least as fine, the join is two -/
theorem joins_fine {one : List κ} {two : List ι} (e : one.length = two.length) (h : ∀ (i j : Nat) (a : κ) (c d : ι), one[i]? = some a → one[j]? = some a → two[i]? = some c → two[j]? = some d → c = d) : Joins one two two := by
  refine ⟨e.symm, fun i j a b h1 h2 => ⟨fun z => .of (.inr ⟨ltE h1, ltE h2, by rw [h1, h2, z]⟩), fun z => ?_⟩⟩
  have key : ∀ {p q}, Jn one two p q → two[p]? = two[q]? := fun {p q} z => by
    induction z with
    | of g =>
      rcases g with ⟨g1, g2, g3⟩ | ⟨_, _, g3⟩
      · rw [getE g1, getE g2] at g3
        have k1 := getE (e ▸ g1 : _ < two.length)
        have k2 := getE (e ▸ g2 : _ < two.length)
        rw [k1, k2, h _ _ _ _ _ (getE g1) (by rw [getE g2]; exact g3.symm) k1 k2]
      · exact g3
    | refl a => rfl
    | symm _ ih => exact ih.symm
    | trans _ _ i1 i2 => exact i1.trans i2
  have q := key z
  rw [h1, h2] at q
  exact Option.some.inj q
end
/-! ### the forest of bosses -/
def at0 (l : List Nat) (i : Nat) : Nat := l.getD i 0
theorem at0_of {l : List Nat} {i x : Nat} (h : l[i]? = some x) : at0 l i = x := by
  unfold at0
  rw [List.getD_eq_getElem?_getD, h] <;> rfl
theorem of_at0 {l : List Nat} {i : Nat} (h : i < l.length) : l[i]? = some (at0 l i) := by
  rw [at0_of (getE h)]
  exact getE h
theorem at0_set {l : List Nat} {i v : Nat} (h : i < l.length) (x : Nat) : at0 (l.set i v) x = if x = i then v else at0 l x := by
  unfold at0
  rw [List.getD_eq_getElem?_getD, List.getD_eq_getElem?_getD, List.getElem?_set]
  by_cases e : i = x
  · subst e
    rw [if_pos rfl, if_pos rfl, if_pos h] <;> rfl
  · rw [if_neg e, if_neg fun z => e z.symm]
structure Forest (bs : List Nat) (r dp : Nat → Nat) : Prop where
  lt : ∀ x, x < bs.length → at0 bs x < bs.length
  up : ∀ x, x < bs.length → r (at0 bs x) = r x
  fix : ∀ x, x < bs.length → at0 bs x = x → r x = x
  dec : ∀ x, x < bs.length → at0 bs x ≠ x → dp (at0 bs x) < dp x
theorem Forest.root {bs : List Nat} {r dp : Nat → Nat} (F : Forest bs r dp) : ∀ (n x : Nat), dp x ≤ n → x < bs.length → r x < bs.length ∧ at0 bs (r x) = r x ∧ r (r x) = r x := by
  intro n
  induction n with
  | zero =>
    intro x hn hx
    by_cases e : at0 bs x = x
    · have q := F.fix x hx e
      rw [q]
      exact ⟨hx, e, q⟩
    · have := F.dec x hx e
      omega
  | succ n ih =>
    intro x hn hx
    by_cases e : at0 bs x = x
    · have q := F.fix x hx e
      rw [q]
      exact ⟨hx, e, q⟩
    · have h1 := F.dec x hx e
      rw [← F.up x hx]
      exact ih _ (by omega) (F.lt x hx)
/-- each its own boss -/
theorem forest_range (n : Nat) : Forest (List.range n) (fun x => x) (fun _ => 0) := by
  have e : ∀ x, x < (List.range n).length → at0 (List.range n) x = x := fun x h => at0_of (by rw [List.length_range] at h; exact List.getElem?_range h)
  exact ⟨fun x h => by rw [e x h]; exact h, fun x h => e x h, fun x _ _ => rfl, fun x h z => absurd (e x h) z⟩
/-- the path halved at x -/
theorem Forest.half {bs : List Nat} {r dp : Nat → Nat} (F : Forest bs r dp) {x : Nat} (hx : x < bs.length) (e : at0 bs x ≠ x) : Forest (bs.set x (at0 bs (at0 bs x))) r dp := by
  have l1 := F.lt x hx
  have d1 := F.dec x hx e
  have d2 : dp (at0 bs (at0 bs x)) ≤ dp (at0 bs x) := by
    by_cases z : at0 bs (at0 bs x) = at0 bs x
    · rw [z]; exact Nat.le_refl _
    · exact Nat.le_of_lt (F.dec _ l1 z)
  refine ⟨fun y hy => ?_, fun y hy => ?_, fun y hy => ?_, fun y hy => ?_⟩
  all_goals rw [List.length_set] at hy
  · rw [List.length_set, at0_set hx]
    by_cases z : y = x
    · rw [if_pos z]; exact F.lt _ l1
    · rw [if_neg z]; exact F.lt y hy
  · rw [at0_set hx]
    by_cases z : y = x
    · rw [if_pos z, F.up _ l1, F.up x hx, z]
    · rw [if_neg z]; exact F.up y hy
  · rw [at0_set hx]
    by_cases z : y = x
    · rw [if_pos z]
      intro q
      rw [q, z] at d2
      omega
    · rw [if_neg z]; exact F.fix y hy
  · rw [at0_set hx]
    by_cases z : y = x
    · rw [if_pos z, z]
      intro _
      omega
    · rw [if_neg z]; exact F.dec y hy
/-- the root hi gets the boss lo, a root -/
theorem Forest.link {bs : List Nat} {r dp : Nat → Nat} (F : Forest bs r dp) {lo hi : Nat} (h1 : lo < bs.length) (h2 : hi < bs.length) (e1 : at0 bs lo = lo) (e2 : at0 bs hi = hi) :
    ∃ r' dp', Forest (bs.set hi lo) r' dp' ∧ ∀ x, x < bs.length → r' x = if r x = hi then lo else r x := by
  have f1 := F.fix lo h1 e1
  have f2 := F.fix hi h2 e2
  by_cases z : lo = hi
  · refine ⟨r, dp, ?_, fun x _ => ?_⟩
    · have q : bs.set hi lo = bs := by
        refine List.ext_getElem? fun j => ?_
        rw [List.getElem?_set]
        by_cases w : hi = j
        · subst w
          rw [if_pos rfl, if_pos h2, of_at0 h2, e2, z]
        · rw [if_neg w]
      rw [q]
      exact F
    · by_cases w : r x = hi
      · rw [if_pos w, w, z]
      · rw [if_neg w]
  · refine ⟨fun x => if r x = hi then lo else r x, fun x => if r x = hi then dp x + dp lo + 1 else dp x, ⟨fun y hy => ?_, fun y hy => ?_, fun y hy => ?_, fun y hy => ?_⟩, fun x _ => rfl⟩
    all_goals rw [List.length_set] at hy
    · rw [List.length_set, at0_set h2]
      by_cases w : y = hi
      · rw [if_pos w]; exact h1
      · rw [if_neg w]; exact F.lt y hy
    · rw [at0_set h2]
      by_cases w : y = hi
      · rw [if_pos w, w, f1, f2, if_pos rfl, if_neg z]
      · rw [if_neg w, F.up y hy]
    · rw [at0_set h2]
      by_cases w : y = hi
      · rw [if_pos w]
        intro q
        exact absurd (q.trans w) z
      · rw [if_neg w]
        intro q
        have k := F.fix y hy q
        rw [k, if_neg w]
    · rw [at0_set h2]
      by_cases w : y = hi
      · rw [if_pos w, w, f1, f2, if_pos rfl, if_neg z]
        intro _
        omega
      · rw [if_neg w, F.up y hy]
        intro q
        have k := F.dec y hy q
        by_cases v : r y = hi
        · rw [if_pos v, if_pos v]; omega
        · rw [if_neg v, if_neg v]; exact k
end Ms
set_option Elab.async false
set_option linter.all false
/-! rows and how many cells they have. -/
namespace Ms
open PySem PySem.Spec PyProof.Rows L2
theorem pair_of {α β : Type} {F : α → β → Prop} : ∀ {xs : List α} {ys : List β}, xs.length = ys.length → (∀ (i : Nat) (x : α) (y : β), xs[i]? = some x → ys[i]? = some y → F x y) → Paired F xs ys
  | [], [], _, _ => .nil
  | [], _ :: _, h, _ => by cases h
  | _ :: _, [], h, _ => by cases h
  | x :: xs, y :: ys, h, k => .cons (k 0 x y rfl rfl) (pair_of (Nat.succ.inj h) fun i a b h1 h2 => k (i + 1) a b h1 h2)
/-- how many cells -/
def cnt (r : List Nat) : Nat := (firsts r).length
theorem row_firsts {r : List Nat} (h : Row r) : firsts r = List.range (cnt r) := by
  have q := firsts_ren r
  rw [show ren r = r from h] at q
  exact q
theorem row_cells {r : List Nat} (h : Row r) : cellsOf r = (List.range (cnt r)).map fun m => places m r := by
  unfold cellsOf
  rw [row_firsts h]
theorem row_mem {r : List Nat} (h : Row r) {m : Nat} : m ∈ r ↔ m < cnt r := by rw [← mem_firsts, row_firsts h, List.mem_range]
theorem places_len {κ : Type} [DecidableEq κ] (m : κ) (l : List κ) : (places m l).length ≤ l.length := by
  unfold places
  exact Nat.le_trans (List.length_filter_le _ _) (by rw [List.length_range]; exact Nat.le_refl _)
end Ms
set_option Elab.async false
set_option linter.all false
set_option maxRecDepth 100000
set_option maxHeartbeats 4000000
namespace K01
open PySem PySem.Spec PyProof.Rows L2 Ms
def nV (ns : List Nat) : List V := ns.map fun n => V.int (n : Nat)
theorem nV_at {l : List Nat} {i x : Nat} (h : l[i]? = some x) : (nV l)[i]? = some (.int (x : Nat)) := by
  unfold nV
  rw [List.getElem?_map, h] <;> rfl
theorem nV_at0 {l : List Nat} {i : Nat} (h : i < l.length) : (nV l)[i]? = some (.int (at0 l i : Nat)) := nV_at (of_at0 h)
theorem nV_len (l : List Nat) : (nV l).length = l.length := List.length_map ..
theorem nV_int (r : List Nat) : nV r = (r.map fun n => ((n : Nat) : Int)).map V.int := by
  unfold nV
  rw [List.map_map] <;> rfl
theorem nV_snoc (l : List Nat) (d : Nat) : nV l ++ [V.int (d : Nat)] = nV (l ++ [d]) := by
  unfold nV
  rw [List.map_append] <;> rfl
theorem fewS {n : Nat} (h : n < 16777216) : n < sizeLine := Nat.lt_of_lt_of_le h (by decide)
theorem same_new {H : Hp} {p : Addr} {o : HO} (h : H p = none) : Same H (upd H p o) := fun b q e => by
  rw [upd_ne (fun z => by rw [z, h] at e; cases e)]
  exact e
def pairV (p : Int × Int) : HO := .tup [.int p.1, .int p.2]
/-- numbers in a list or a tuple; pairs of numbers in a list -/
@[irreducible] def spRen (K : PySem.W.Frag) : Sp := fun vs H Q _ => ∃ a xs r, vs = [.ref a] ∧ xs.length ≤ sizeLine ∧
  ((∃ ns : List Int, xs = ns.map V.int ∧ r = ren ns ∧ (SqL K H a xs ∨ SqT K H a xs) ∧ ∀ H' p, Same H H' → H p = none → H' p = some (.tup (nV r)) → Q (.ref p) H') ∨
  ∃ (ts : List Addr) (ps : List (Int × Int)), xs = ts.map V.ref ∧ r = ren ps ∧ Paired (fun t p => H t = some (pairV p)) ts ps ∧ SqL K H a xs ∧ ∀ H' p, Same H H' → H p = none → H' p = some (.tup (nV r)) → Q (.ref p) H')
section
variable {κ : Type} [DecidableEq κ]
def tbl (ks : List κ) : List (κ × V) := ks.zipIdx.map fun p => (p.1, .int (p.2 : Nat))
theorem tbl_len (ks : List κ) : (tbl ks).length = ks.length := by simp [tbl]
theorem tbl_snoc (ks : List κ) (k : κ) : tbl (ks ++ [k]) = tbl ks ++ [(k, .int (ks.length : Nat))] := by simp [tbl, List.zipIdx_append]
theorem valV_tbl (ks : List κ) (k : κ) : valV (tbl ks) k = if k ∈ ks then some (.int (ks.idxOf k : Nat)) else none := by
  induction ks using snoc_ind with
  | h0 => rfl
  | hs l a ih =>
    rw [tbl_snoc]
    by_cases hk : k ∈ l
    · rw [if_pos hk] at ih
      rw [if_pos (List.mem_append_left _ hk), List.idxOf_append, if_pos hk]
      unfold valV at ih ⊢
      rw [List.find?_append]
      cases h : (tbl l).find? fun kv => decide (kv.1 = k) with
      | none => rw [h] at ih; cases ih
      | some q => rw [h] at ih; exact ih
    · rw [if_neg hk] at ih
      have h : (tbl l).find? (fun kv => decide (kv.1 = k)) = none := by
        unfold valV at ih
        exact Option.map_eq_none_iff.mp ih
      unfold valV
      rw [List.find?_append, h, List.idxOf_append, if_neg hk]
      by_cases e : a = k
      · subst e; simp
      · have e2 : ¬ k = a := fun z => e z.symm
        simp [e, e2, hk]
end
theorem int_inl (a b : Int) (h : (Sum.inl a : Key) = Sum.inl b) : a = b := Sum.inl.inj h
theorem Same.new2 {H : Hp} {d l : Addr} {o u : HO} (hd : H d = none) (hl : H l = none) : Same H (upd (upd H d o) l u) := fun b q e => by
  rw [upd_ne (fun z => by rw [z, hl] at e; cases e), upd_ne (fun z => by rw [z, hd] at e; cases e)]
  exact e
theorem ix_out {κ : Type} [DecidableEq κ] {l : List κ} {k : κ} (h : ¬ k ∈ l) : l.idxOf k = l.length := List.idxOf_eq_length h
theorem valV_some {κ : Type} [DecidableEq κ] {ks : List κ} {k : κ} (h : k ∈ ks) : valV (tbl ks) k = some (.int (ks.idxOf k : Nat)) := by rw [valV_tbl, if_pos h]
theorem nV_ren_take {κ : Type} [DecidableEq κ] {ks : List κ} {i : Nat} {k : κ} (h : ks[i]? = some k) : (nV (ren (ks.take i))).length = i := by
  unfold nV
  have := ltE h
  rw [List.length_map, ren_len, List.length_take]
  omega
/-- the loop's state -/
def PR {κ : Type} [DecidableEq κ] (K : PySem.W.Frag) (H : Hp) (a d l : Addr) (xs : List V) (mk : List (κ × V) → HO) (ks : List κ) (i : Nat) (σ : L2.St) (H1 : Hp) : Prop :=
  ∃ m, σ = [some (.ref a), some (.ref d), some (.ref l), m] ∧ Same H H1 ∧ H1 d = some (mk (tbl (firsts (ks.take i)))) ∧ H1 l = some (.lst (nV (ren (ks.take i))))
theorem Same.sqT {K : PySem.W.Frag} {H H' : Hp} {a : Addr} {xs : List V} (e : Same H H') (h : SqT K H a xs) : SqT K H' a xs := by
  rcases h with (h | ⟨o, h⟩) | h
  · exact .inl (.inl (e _ _ h))
  · exact .inl (.inr ⟨o, e _ _ h⟩)
  · exact .inr h
/-- the keys of the row, place by place -/
structure KeyIs {κ : Type} [DecidableEq κ] (F : κ → V → Prop) (xs : List V) (ks : List κ) : Prop where
  len : ks.length = xs.length
  at_ : ∀ (i : Nat) (x : V), xs[i]? = some x → ∃ k : κ, ks[i]? = some k ∧ F k x
theorem kis_int (ns : List Int) : KeyIs (fun k x => x = kV k) (ns.map V.int) (ns.map (Sum.inl : Int → Key)) := by
  refine ⟨by simp, fun i x hx => ?_⟩
  rw [List.getElem?_map] at hx
  cases e : ns[i]? with
  | none => rw [e] at hx; cases hx
  | some n =>
    rw [e] at hx
    cases hx
    exact ⟨.inl n, by rw [List.getElem?_map, e] <;> rfl, rfl⟩
abbrev kp (p : Int × Int) : List Key := [.inl p.1, .inl p.2]
theorem kp_inj (a b : Int × Int) (e : kp a = kp b) : a = b := by
  simp only [kp, List.cons.injEq, Sum.inl.injEq, and_true] at e
  exact Prod.ext e.1 e.2
theorem kis_pair {H : Hp} {ts : List Addr} {ps : List (Int × Int)} (hp : Paired (fun t p => H t = some (pairV p)) ts ps) : KeyIs (fun k x => ∃ b, x = .ref b ∧ H b = some (.tup (k.map kV))) (ts.map V.ref) (ps.map kp) := by
  refine ⟨by simp [Paired.length hp], fun i x hx => ?_⟩
  rw [List.getElem?_map] at hx
  cases e : ts[i]? with
  | none => rw [e] at hx; cases hx
  | some t =>
    rw [e] at hx
    cases hx
    obtain ⟨p, e2, e3⟩ := LiI.paired_get hp e
    exact ⟨kp p, by rw [List.getElem?_map, e2] <;> rfl, t, rfl, e3⟩
/-- where a key is found in the dict, by the place in the row -/
structure KeyAt {κ : Type} [DecidableEq κ] (H : Hp) (mk : List (κ × V) → HO) (xs : List V) (ks : List κ) : Prop where
  len : ks.length = xs.length
  at_ : ∀ (i : Nat) (x : V), xs[i]? = some x → ∃ k : κ, ks[i]? = some k ∧ (∀ (H1 : Hp) (kvs : List (κ × V)) (d : Addr), Same H H1 → H1 d = some (mk kvs) → DGet H1 d x (valV kvs k)) ∧
    ∀ (H1 : Hp) (kvs : List (κ × V)) (d : Addr) (v : V), Same H H1 → H1 d = some (mk kvs) → kvs.length < sizeLine → DPut H1 d x v (upd H1 d (mk (putK kvs k v)))
theorem key_int (H : Hp) (ns : List Int) : KeyAt H .dK (ns.map V.int) (ns.map (Sum.inl : Int → Key)) := by
  refine ⟨by simp, fun i x hx => ?_⟩
  rw [List.getElem?_map] at hx
  cases e : ns[i]? with
  | none => rw [e] at hx; cases hx
  | some n =>
    rw [e] at hx
    cases hx
    exact ⟨.inl n, by rw [List.getElem?_map, e] <;> rfl, fun H1 kvs d _ h => DGet.k (k := Sum.inl n) h, fun H1 kvs d v _ h hl => DPut.k (k := Sum.inl n) h hl⟩
theorem key_pair {H : Hp} {ts : List Addr} {ps : List (Int × Int)} (hp : Paired (fun t p => H t = some (pairV p)) ts ps) : KeyAt H .dT (ts.map V.ref) (ps.map kp) := by
  refine ⟨by simp [Paired.length hp], fun i x hx => ?_⟩
  rw [List.getElem?_map] at hx
  cases e : ts[i]? with
  | none => rw [e] at hx; cases hx
  | some t =>
    rw [e] at hx
    cases hx
    obtain ⟨p, e2, e3⟩ := LiI.paired_get hp e
    exact ⟨kp p, by rw [List.getElem?_map, e2] <;> rfl, fun H1 kvs d s h => DGet.t (k := kp p) h (s _ _ e3), fun H1 kvs d v s h hl => DPut.t (k := kp p) h (s _ _ e3) hl⟩
section
variable {P : Program} {w : World} {K : PySem.W.Frag} {mg : Str → Option Value} {base : Heap}
theorem ren_KL (T : Tx K mg) {cdv : Value} {A : Around} {outer : List Env} {s : Shared} {H : Hp} {Q : VK} {E : XK} {a : Addr} {xs : List V} {r : List Nat} {ks : List Key} (hr : Rm 0 "renumbered" srenumbered (He.ga K "renumbered") cdv A s)
    (hq0 : SqL K H a xs) (hz : xs.length ≤ sizeLine) (hk0 : KeyIs (fun k x => x = kV k) xs ks) (hr2 : ren ks = r) (hQ : ∀ H' p, Same H H' → H p = none → H' p = some (.tup (nV r)) → Q (.ref p) H') :
    Goal P w K mg base "renumbered" srenumbered ["marks", "numbers", "found", "mark"] (He.ga K "renumbered") cdv A outer s H [.ref a] Q E := by
  have hlen := hk0.len
  have hkey := hk0.at_
  have hq1 : ∀ (H1 : Hp), Same H H1 → SqL K H1 a xs := fun H1 s => Same.seq s hq0
  refine ⟨_, (pss_cons (ps_set (i := 1) screnumbered.nd rfl (by first | exact Or.inl rfl | exact Or.inr rfl) pe_dnewK)
    (pss_cons (ps_set (i := 2) screnumbered.nd rfl (by first | exact Or.inl rfl | exact Or.inr rfl) (pe_lst pa_nil))
    (pss_cons (ps_for PassesOwn.never rfl (pi_list (pv 0)) (pg_name (i := 3) screnumbered.nd rfl (by first | exact Or.inl rfl | exact Or.inr rfl))
    (pss_one (ps_expr (pe_bm PySem.F.plainAttrs_list PySem.F.slot_list_append PySem.F.type_list_append mt_append (pv 2) (pa_cons (pe_dsetd (pv 1) (pv 3) (pe_callB call_lenD (by rfl) T.f_len boot_len (pa_cons (pv 1) pa_nil)) ⟨rfl, rfl, rfl, rfl⟩) pa_nil)))))
    (pss_one (ps_ret (pe_callTy (tupK K) (by rfl) T.f_tuple (by decide +kernel) (pa_cons (pv 2) pa_nil))))))), ?_⟩
  refine fun d hd => ?_
  refine ⟨Nat.zero_le _, fun l hl => ?_⟩
  have hdl : d ≠ l := fun z => by rw [← z, upd_same] at hl; cases hl
  have nl : H l = none := by rw [upd_ne (fun z => hdl z.symm)] at hl; exact hl
  refine ⟨_, rfl, a, rfl, ⟨_, hq1 _ (Same.new2 hd nl)⟩, for_list (xs := xs) (PR K H a d l xs .dK ks) ?_ ?_ ?_ ?_⟩
  · exact ⟨none, rfl, Same.new2 hd nl, by rw [upd_ne hdl, upd_same] <;> rfl, by rw [upd_same] <;> rfl⟩
  · exact fun i σ H1 _ h => by obtain ⟨_, _, h1, _⟩ := h; exact hq1 _ h1
  · intro i x σ H1 hx h
    obtain ⟨m, rfl, s1, e1, e2⟩ := h
    obtain ⟨k, hk, rfl⟩ := hkey i x hx
    have tk : ks.take (i + 1) = ks.take i ++ [k] := by rw [List.take_add_one, hk] <;> rfl
    have li : i < xs.length := ltE hx
    have lt : (tbl (firsts (ks.take i))).length ≤ i := by
      rw [tbl_len]
      exact Nat.le_trans (firsts_le _) (List.length_take_le ..)
    refine ⟨_, rfl, .inl ⟨rfl, _, .inl (.inl e2)⟩, _, rfl, d, rfl, .inl ⟨_, .inl e1⟩, _, rfl, _, rfl, d, _, rfl, e1, _, k, e1, rfl, by omega, fun v hv => ?_, fun hv => ?_⟩
    · rw [valV_tbl] at hv
      by_cases hin : k ∈ firsts (ks.take i)
      · rw [if_pos hin] at hv
        cases hv
        refine ⟨l, _, _, rfl, rfl, e2, by rw [nV_ren_take hk]; omega, ?_⟩
        refine ⟨_, rfl, fun b o q => ?_, ?_, ?_⟩
        · rw [upd_ne (fun z => by rw [z, nl] at q; cases q)]
          exact s1 b o q
        · rw [upd_ne hdl, tk, firsts_old ((mem_firsts _ _).mp hin)]
          exact e1
        · rw [upd_same, tk, ren_snoc]
          simp [nV]
      · rw [if_neg hin] at hv
        cases hv
    · have hin : ¬ k ∈ firsts (ks.take i) := fun z => by rw [valV_tbl, if_pos z] at hv; cases hv
      rw [putK_new _ hv]
      have e2' : ∀ u, upd H1 d u l = some (.lst (nV (ren (ks.take i)))) := fun u => by rw [upd_ne (fun z => hdl z.symm)]; exact e2
      refine ⟨l, _, _, rfl, rfl, e2' _, by rw [nV_ren_take hk]; omega, ?_⟩
      refine ⟨_, rfl, fun b o q => ?_, ?_, ?_⟩
      · rw [upd_ne (fun z => by rw [z, nl] at q; cases q), upd_ne (fun z => by rw [z, hd] at q; cases q)]
        exact s1 b o q
      · rw [upd_ne hdl, upd_same, tk, firsts_new (fun z => hin ((mem_firsts _ _).mpr z)), tbl_snoc, tbl_len]
      · rw [upd_same, tk, ren_snoc, tbl_len, ix_out hin]
        simp [nV]
  · intro σ H1 h
    obtain ⟨m, rfl, s1, e1, e2⟩ := h
    refine ⟨_, rfl, l, _, rfl, .inl ⟨.inl (.inl e2), fun t ht => ?_⟩⟩
    have full : ks.take xs.length = ks := by rw [← hlen]; exact List.take_length
    rw [full, hr2]
    exact hQ _ t (fun b o q => by rw [upd_ne (fun z => by rw [z, s1.free ht] at q; cases q)]; exact s1 b o q) (s1.free ht) (upd_same ..)
theorem ren_TL (T : Tx K mg) {cdv : Value} {A : Around} {outer : List Env} {s : Shared} {H : Hp} {Q : VK} {E : XK} {a : Addr} {xs : List V} {r : List Nat} {ks : List (List Key)} (hr : Rm 0 "renumbered" srenumbered (He.ga K "renumbered") cdv A s)
    (hq0 : SqL K H a xs) (hz : xs.length ≤ sizeLine) (hk0 : KeyIs (fun k x => ∃ b, x = .ref b ∧ H b = some (.tup (k.map kV))) xs ks) (hr2 : ren ks = r) (hQ : ∀ H' p, Same H H' → H p = none → H' p = some (.tup (nV r)) → Q (.ref p) H') :
    Goal P w K mg base "renumbered" srenumbered ["marks", "numbers", "found", "mark"] (He.ga K "renumbered") cdv A outer s H [.ref a] Q E := by
  have hlen := hk0.len
  have hkey := hk0.at_
  have hq1 : ∀ (H1 : Hp), Same H H1 → SqL K H1 a xs := fun H1 s => Same.seq s hq0
  refine ⟨_, (pss_cons (ps_set (i := 1) screnumbered.nd rfl (by first | exact Or.inl rfl | exact Or.inr rfl) pe_dnewT)
    (pss_cons (ps_set (i := 2) screnumbered.nd rfl (by first | exact Or.inl rfl | exact Or.inr rfl) (pe_lst pa_nil))
    (pss_cons (ps_for PassesOwn.never rfl (pi_list (pv 0)) (pg_name (i := 3) screnumbered.nd rfl (by first | exact Or.inl rfl | exact Or.inr rfl))
    (pss_one (ps_expr (pe_bm PySem.F.plainAttrs_list PySem.F.slot_list_append PySem.F.type_list_append mt_append (pv 2) (pa_cons (pe_dsetdT (hu_of hr) (pv 1) (pv 3) (pe_callB call_len_dT (by rfl) T.f_len boot_len (pa_cons (pv 1) pa_nil)) ⟨rfl, rfl, rfl, rfl⟩) pa_nil)))))
    (pss_one (ps_ret (pe_callTy (tupK K) (by rfl) T.f_tuple (by decide +kernel) (pa_cons (pv 2) pa_nil))))))), ?_⟩
  refine fun d hd => ?_
  refine ⟨Nat.zero_le _, fun l hl => ?_⟩
  have hdl : d ≠ l := fun z => by rw [← z, upd_same] at hl; cases hl
  have nl : H l = none := by rw [upd_ne (fun z => hdl z.symm)] at hl; exact hl
  refine ⟨_, rfl, a, rfl, ⟨_, hq1 _ (Same.new2 hd nl)⟩, for_list (xs := xs) (PR K H a d l xs .dT ks) ?_ ?_ ?_ ?_⟩
  · exact ⟨none, rfl, Same.new2 hd nl, by rw [upd_ne hdl, upd_same] <;> rfl, by rw [upd_same] <;> rfl⟩
  · exact fun i σ H1 _ h => by obtain ⟨_, _, h1, _⟩ := h; exact hq1 _ h1
  · intro i x σ H1 hx h
    obtain ⟨m, rfl, s1, e1, e2⟩ := h
    obtain ⟨k, hk, b, rfl, hb⟩ := hkey i x hx
    have tk : ks.take (i + 1) = ks.take i ++ [k] := by rw [List.take_add_one, hk] <;> rfl
    have li : i < xs.length := ltE hx
    have lt : (tbl (firsts (ks.take i))).length ≤ i := by
      rw [tbl_len]
      exact Nat.le_trans (firsts_le _) (List.length_take_le ..)
    refine ⟨_, rfl, .inl ⟨rfl, _, .inl (.inl e2)⟩, _, rfl, d, rfl, .inr ⟨_, .inl e1⟩, _, rfl, _, rfl, d, _, rfl, e1, _, k, b, e1, rfl, s1 _ _ hb, by omega, fun v hv => ?_, fun hv => ?_⟩
    · rw [valV_tbl] at hv
      by_cases hin : k ∈ firsts (ks.take i)
      · rw [if_pos hin] at hv
        cases hv
        refine ⟨l, _, _, rfl, rfl, e2, by rw [nV_ren_take hk]; omega, ?_⟩
        refine ⟨_, rfl, fun b o q => ?_, ?_, ?_⟩
        · rw [upd_ne (fun z => by rw [z, nl] at q; cases q)]
          exact s1 b o q
        · rw [upd_ne hdl, tk, firsts_old ((mem_firsts _ _).mp hin)]
          exact e1
        · rw [upd_same, tk, ren_snoc]
          simp [nV]
      · rw [if_neg hin] at hv
        cases hv
    · have hin : ¬ k ∈ firsts (ks.take i) := fun z => by rw [valV_tbl, if_pos z] at hv; cases hv
      rw [putK_new _ hv]
      have e2' : ∀ u, upd H1 d u l = some (.lst (nV (ren (ks.take i)))) := fun u => by rw [upd_ne (fun z => hdl z.symm)]; exact e2
      refine ⟨l, _, _, rfl, rfl, e2' _, by rw [nV_ren_take hk]; omega, ?_⟩
      refine ⟨_, rfl, fun b o q => ?_, ?_, ?_⟩
      · rw [upd_ne (fun z => by rw [z, nl] at q; cases q), upd_ne (fun z => by rw [z, hd] at q; cases q)]
        exact s1 b o q
      · rw [upd_ne hdl, upd_same, tk, firsts_new (fun z => hin ((mem_firsts _ _).mpr z)), tbl_snoc, tbl_len]
      · rw [upd_same, tk, ren_snoc, tbl_len, ix_out hin]
        simp [nV]
  · intro σ H1 h
    obtain ⟨m, rfl, s1, e1, e2⟩ := h
    refine ⟨_, rfl, l, _, rfl, .inl ⟨.inl (.inl e2), fun t ht => ?_⟩⟩
    have full : ks.take xs.length = ks := by rw [← hlen]; exact List.take_length
    rw [full, hr2]
    exact hQ _ t (fun b o q => by rw [upd_ne (fun z => by rw [z, s1.free ht] at q; cases q)]; exact s1 b o q) (s1.free ht) (upd_same ..)
theorem ren_KT (T : Tx K mg) {cdv : Value} {A : Around} {outer : List Env} {s : Shared} {H : Hp} {Q : VK} {E : XK} {a : Addr} {xs : List V} {r : List Nat} {ks : List Key} (hr : Rm 0 "renumbered" srenumbered (He.ga K "renumbered") cdv A s)
    (hq0 : SqT K H a xs) (hz : xs.length ≤ sizeLine) (hk0 : KeyIs (fun k x => x = kV k) xs ks) (hr2 : ren ks = r) (hQ : ∀ H' p, Same H H' → H p = none → H' p = some (.tup (nV r)) → Q (.ref p) H') :
    Goal P w K mg base "renumbered" srenumbered ["marks", "numbers", "found", "mark"] (He.ga K "renumbered") cdv A outer s H [.ref a] Q E := by
  have hlen := hk0.len
  have hkey := hk0.at_
  have hq1 : ∀ (H1 : Hp), Same H H1 → SqT K H1 a xs := fun H1 s => Same.sqT s hq0
  refine ⟨_, (pss_cons (ps_set (i := 1) screnumbered.nd rfl (by first | exact Or.inl rfl | exact Or.inr rfl) pe_dnewK)
    (pss_cons (ps_set (i := 2) screnumbered.nd rfl (by first | exact Or.inl rfl | exact Or.inr rfl) (pe_lst pa_nil))
    (pss_cons (ps_for PassesOwn.never rfl (pi_tup (pv 0)) (pg_name (i := 3) screnumbered.nd rfl (by first | exact Or.inl rfl | exact Or.inr rfl))
    (pss_one (ps_expr (pe_bm PySem.F.plainAttrs_list PySem.F.slot_list_append PySem.F.type_list_append mt_append (pv 2) (pa_cons (pe_dsetd (pv 1) (pv 3) (pe_callB call_lenD (by rfl) T.f_len boot_len (pa_cons (pv 1) pa_nil)) ⟨rfl, rfl, rfl, rfl⟩) pa_nil)))))
    (pss_one (ps_ret (pe_callTy (tupK K) (by rfl) T.f_tuple (by decide +kernel) (pa_cons (pv 2) pa_nil))))))), ?_⟩
  refine fun d hd => ?_
  refine ⟨Nat.zero_le _, fun l hl => ?_⟩
  have hdl : d ≠ l := fun z => by rw [← z, upd_same] at hl; cases hl
  have nl : H l = none := by rw [upd_ne (fun z => hdl z.symm)] at hl; exact hl
  refine ⟨_, rfl, a, rfl, ⟨_, hq1 _ (Same.new2 hd nl)⟩, for_tup (xs := xs) (PR K H a d l xs .dK ks) ?_ ?_ ?_ ?_⟩
  · exact ⟨none, rfl, Same.new2 hd nl, by rw [upd_ne hdl, upd_same] <;> rfl, by rw [upd_same] <;> rfl⟩
  · exact fun i σ H1 _ h => by obtain ⟨_, _, h1, _⟩ := h; exact hq1 _ h1
  · intro i x σ H1 hx h
    obtain ⟨m, rfl, s1, e1, e2⟩ := h
    obtain ⟨k, hk, rfl⟩ := hkey i x hx
    have tk : ks.take (i + 1) = ks.take i ++ [k] := by rw [List.take_add_one, hk] <;> rfl
    have li : i < xs.length := ltE hx
    have lt : (tbl (firsts (ks.take i))).length ≤ i := by
      rw [tbl_len]
      exact Nat.le_trans (firsts_le _) (List.length_take_le ..)
    refine ⟨_, rfl, .inl ⟨rfl, _, .inl (.inl e2)⟩, _, rfl, d, rfl, .inl ⟨_, .inl e1⟩, _, rfl, _, rfl, d, _, rfl, e1, _, k, e1, rfl, by omega, fun v hv => ?_, fun hv => ?_⟩
    · rw [valV_tbl] at hv
      by_cases hin : k ∈ firsts (ks.take i)
      · rw [if_pos hin] at hv
        cases hv
        refine ⟨l, _, _, rfl, rfl, e2, by rw [nV_ren_take hk]; omega, ?_⟩
        refine ⟨_, rfl, fun b o q => ?_, ?_, ?_⟩
        · rw [upd_ne (fun z => by rw [z, nl] at q; cases q)]
          exact s1 b o q
        · rw [upd_ne hdl, tk, firsts_old ((mem_firsts _ _).mp hin)]
          exact e1
        · rw [upd_same, tk, ren_snoc]
          simp [nV]
      · rw [if_neg hin] at hv
        cases hv
    · have hin : ¬ k ∈ firsts (ks.take i) := fun z => by rw [valV_tbl, if_pos z] at hv; cases hv
      rw [putK_new _ hv]
      have e2' : ∀ u, upd H1 d u l = some (.lst (nV (ren (ks.take i)))) := fun u => by rw [upd_ne (fun z => hdl z.symm)]; exact e2
      refine ⟨l, _, _, rfl, rfl, e2' _, by rw [nV_ren_take hk]; omega, ?_⟩
      refine ⟨_, rfl, fun b o q => ?_, ?_, ?_⟩
      · rw [upd_ne (fun z => by rw [z, nl] at q; cases q), upd_ne (fun z => by rw [z, hd] at q; cases q)]
        exact s1 b o q
      · rw [upd_ne hdl, upd_same, tk, firsts_new (fun z => hin ((mem_firsts _ _).mpr z)), tbl_snoc, tbl_len]
      · rw [upd_same, tk, ren_snoc, tbl_len, ix_out hin]
        simp [nV]
  · intro σ H1 h
    obtain ⟨m, rfl, s1, e1, e2⟩ := h
    refine ⟨_, rfl, l, _, rfl, .inl ⟨.inl (.inl e2), fun t ht => ?_⟩⟩
    have full : ks.take xs.length = ks := by rw [← hlen]; exact List.take_length
    rw [full, hr2]
    exact hQ _ t (fun b o q => by rw [upd_ne (fun z => by rw [z, s1.free ht] at q; cases q)]; exact s1 b o q) (s1.free ht) (upd_same ..)
theorem ok_renumbered (T : Tx K mg) : Ok P w K mg base "renumbered" 1 (spRen K) := by
  refine ok_of T.a_renumbered screnumbered (fun vs H Q E h => ?_) bi_renumbered fun cdv A outer s H vs Q E hr h => ?_
  · unfold spRen at h
    obtain ⟨a, xs, r, rfl, _⟩ := h
    rfl
  unfold spRen at h
  obtain ⟨a, xs, r, rfl, hz, h⟩ := h
  rcases h with ⟨ns, rfl, rfl, hq | hq, hQ⟩ | ⟨ts, ps, rfl, rfl, hp, hq, hQ⟩
  · exact ren_KL T hr hq hz (kis_int ns) (ren_map int_inl) hQ
  · exact ren_KT T hr hq hz (kis_int ns) (ren_map int_inl) hQ
  · exact ren_TL T hr hq hz (kis_pair hp) (ren_map kp_inj) hQ
end
end K01
set_option Elab.async false
set_option linter.all false
set_option maxRecDepth 100000
set_option maxHeartbeats 4000000
/-! max(t) of a tuple of ints. -/
namespace Ms
open PySem PySem.Spec PyProof.Rows L2
section
variable {prog : Program} {w : World} {A : Around} {E : Value → Shared → Prop} {s : Shared} {l : Addr} {xs : Array (Int × Tok)}
theorem max_intTup {Q : Value → Shared → Prop} (hh : A.handled = none) (hl : s.heap.IsTuple l (intItems xs)) (hne : 0 < xs.size)
    (h : ∀ v h' tk, (intItems xs)[argBest (fun i j => decide (numAt xs i > numAt xs j)) (xs.size - 1)]? = some v → (∀ b o, s.heap.get? b = some o → h'.get? b = some o) → Q v { s with heap := h', toks := tk }) :
    wpAny (model prog w) A (call (.builtin "max") [.ref l]) Q E s := by
  have hlt : l < s.heap.objs.size := by obtain ⟨_, e, _⟩ := hl; exact Heap.lt_size e
  refine call_max_walk (wpAny_pyIter_tuple hl ?_)
  refine ⟨_, [_, l], [_], _, _, _, _, rfl, Walks.tuple (A := A.in1) hh _ l (Nat.ne_of_lt hlt) (intItems xs), ⟨⟨_, Heap.get?_push_size _ rfl, rfl, rfl⟩, hl.push _⟩, fun c hc => ?_, by simpa [intItems] using hne, CmpOf.ints_gt (numAt xs) (fun _ _ => intItems_at), fun v h' tk hP hk => ?_⟩
  · show c < (s.heap.push _).objs.size
    rw [Heap.size_push]
    rcases List.mem_cons.mp hc with rfl | hc
    · exact Nat.lt_succ_self _
    · rcases List.mem_cons.mp hc with rfl | hc
      · exact Nat.lt_succ_of_lt hlt
      · cases hc
  · refine h v h' tk (by simpa [intItems] using hP) fun b o e => ?_
    refine hk b o (fun hm => ?_) (Heap.get?_push_of_some _ e)
    rcases List.mem_cons.mp hm with e1 | hm
    · exact absurd (e1 ▸ Heap.lt_size e) (Nat.lt_irrefl _)
    · cases hm
theorem maxT_raw {its : List Value} {ns : List Int} {Q : Value → Shared → Prop} (hh : A.handled = none) (hl : s.heap.IsTuple l its.toArray) (hi : IntsAre its ns) (hne : 0 < ns.length)
    (h : ∀ h' tk M t', (∀ b o, s.heap.get? b = some o → h'.get? b = some o) → M ∈ ns → (∀ a, a ∈ ns → a ≤ M) → Q (.int M t') { s with heap := h', toks := tk }) : wpAny (model prog w) A (call (.builtin "max") [.ref l]) Q E s := by
  obtain ⟨xs, e⟩ := hi.allInts.items
  have hn : numsOf (intItems xs).toList = ns := by rw [← e]; exact hi.numsOf
  rw [nums_intItems] at hn
  subst hn
  rw [e] at hl
  have hsz : 0 < xs.size := by simpa using hne
  refine max_intTup hh hl hsz fun v h' tk hv hk => ?_
  obtain ⟨t, rfl⟩ := intItems_at hv
  obtain ⟨h1, h2⟩ := argBest_gt (numAt xs) (xs.size - 1)
  refine h h' tk _ t hk ?_ fun a ha => ?_
  · rw [numAt_eq]; exact PySem.getD_mem (by rw [List.length_map, Array.length_toList]; omega)
  · obtain ⟨j, hj, rfl⟩ := mem_getD ha
    rw [List.length_map, Array.length_toList] at hj
    rw [← numAt_eq]; exact h2 j (by omega)
end
section
variable {X : Cx}
/-- max of a tuple of ints -/
def rMaxT (K : PySem.W.Frag) : List V → Hp → VK → Prop := fun vs H Q => ∃ (a : Addr) (ns : List Int), vs = [V.ref a] ∧ SqT K H a (ns.map V.int) ∧ 0 < ns.length ∧ ∀ m, m ∈ ns → (∀ y, y ∈ ns → y ≤ m) → Q (.int m) H
theorem maxTK (K : PySem.W.Frag) (e : X.K = K := by rfl) (hc : X.calm = true) : CallR X (.builtin "max") (rMaxT K) := by
  subst e
  intro pins s σ H vs us Q I r h
  obtain ⟨a, ns, rfl, hs, hne, q⟩ := h
  obtain ⟨its, rv, hl, _⟩ := I.tuple hs
  rw [Vals.ref1 r]
  exact maxT_raw (I.ok.hd hc) hl rv.ints hne fun h' tk m t' hk h1 h2 => ⟨.int _, H, I.kept hk, ⟨_, rfl⟩, q m h1 h2⟩
end
end Ms
set_option Elab.async false
set_option linter.all false
set_option maxRecDepth 100000
set_option maxHeartbeats 4000000
namespace K01
open PySem PySem.Spec PyProof.Rows L2 Ms
theorem pimp {α β : Type} {F G : α → β → Prop} : ∀ {xs : List α} {ys : List β}, (∀ x y, x ∈ xs → F x y → G x y) → Paired F xs ys → Paired G xs ys
  | _, _, _, .nil => .nil
  | _, _, h, .cons r t => .cons (h _ _ List.mem_cons_self r) (pimp (fun x y m => h x y (List.mem_cons_of_mem _ m)) t)
theorem psnoc {α β : Type} {F : α → β → Prop} : ∀ {xs : List α} {ys : List β} {x : α} {y : β}, Paired F xs ys → F x y → Paired F (xs ++ [x]) (ys ++ [y])
  | _, _, _, _, .nil, h => .cons h .nil
  | _, _, _, _, .cons r t, h => .cons r (psnoc t h)
/-- the cells' tuple at p -/
def CellsAt (H : Hp) (p : Addr) (cs : List (List Nat)) : Prop := ∃ ts : List Addr, H p = some (.tup (ts.map V.ref)) ∧ Paired (fun t c => H t = some (.tup (nV c))) ts cs
theorem CellsAt.same {H H' : Hp} (s : Same H H') {p : Addr} {cs : List (List Nat)} (h : CellsAt H p cs) : CellsAt H' p cs := let ⟨ts, h1, h2⟩ := h; ⟨ts, s _ _ h1, pimp (fun _ _ _ z => s _ _ z) h2⟩
def spCells (K : PySem.W.Frag) : Sp := fun vs H Q _ => ∃ a r, vs = [.ref a] ∧ SqT K H a (nV r) ∧ r.length ≤ 16777216 ∧ Row r ∧ 0 < r.length ∧ ∀ H' p, Same H H' → H p = none → CellsAt H' p (cellsOf r) → Q (.ref p) H'
section
variable {κ ι : Type} [DecidableEq κ] [DecidableEq ι]
theorem valV_of (g : κ → V) (k : κ) : ∀ ks : List κ, valV (ks.map fun j => (j, g j)) k = if k ∈ ks then some (g k) else none
  | [] => rfl
  | j :: ks => by
    rw [List.map_cons]
    by_cases h : j = k
    · subst h
      rw [valV_pos (p := (j, g j)) rfl, if_pos List.mem_cons_self]
    · have h2 : ¬ k = j := fun z => h z.symm
      rw [valV_neg (p := (j, g j)) h, valV_of g k ks]
      simp [List.mem_cons, h2]
theorem firsts_map {f : κ → ι} (hf : ∀ a b, f a = f b → a = b) (ks : List κ) : firsts (ks.map f) = (firsts ks).map f := by
  induction ks using snoc_ind with
  | h0 => rfl
  | hs l k ih =>
    rw [List.map_append, List.map_singleton, firsts_snoc, firsts_snoc, ih]
    by_cases h : k ∈ firsts l
    · rw [if_pos h, if_pos (List.mem_map_of_mem h)]
    · rw [if_neg h, if_neg, List.map_append, List.map_singleton]
      intro z
      obtain ⟨j, hj, e⟩ := List.mem_map.mp z
      exact h (hf _ _ e ▸ hj)
theorem places_map {f : κ → ι} (hf : ∀ a b, f a = f b → a = b) (m : κ) (ks : List κ) : places (f m) (ks.map f) = places m ks := by
  unfold places
  rw [List.length_map]
  refine List.filter_congr fun i _ => ?_
  rw [List.getElem?_map]
  congr 1
  cases h : ks[i]? with
  | none => simp
  | some k =>
    simp only [Option.map_some, Option.some.injEq, eq_iff_iff]
    exact ⟨hf k m, fun e => by rw [e]⟩
theorem cells_map {f : κ → ι} (hf : ∀ a b, f a = f b → a = b) (ks : List κ) : cellsOf (ks.map f) = cellsOf ks := by
  unfold cellsOf
  rw [firsts_map hf, List.map_map]
  exact List.map_congr_left fun m _ => places_map hf m ks
end
abbrev kn (n : Nat) : Key := .inl (n : Int)
theorem kn_inj (a b : Nat) (h : kn a = kn b) : a = b := by
  have := Sum.inl.inj h
  omega
/-- the cells that are made -/
def PCl (Hf : Hp) (D : Addr) (cs : List (List Nat)) (i : Nat) (H1 : Hp) : Prop :=
  ∃ ts : List Addr, H1 D = some (.lst (ts.map V.ref)) ∧ Paired (fun t c => H1 t = some (.tup (nV c))) ts (cs.take i) ∧ Same Hf H1 ∧ ∀ t ∈ ts, Hf t = none
section
variable {P : Program} {w : World} {K : PySem.W.Frag} {mg : Str → Option Value} {base : Heap}
theorem ok_listed_cells (T : Tx K mg) : Ok P w K mg base "listed_cells" 1 (spCells K) := by
  refine ok_of T.a_listed_cells sclisted_cells (fun vs H Q E h => ?_) bi_listed_cells fun cdv A outer s H vs Q E hr h => ?_
  · obtain ⟨a, r, rfl, _⟩ := h
    rfl
  obtain ⟨a, r, rfl, ha, hz, hrow, hpos, hQ⟩ := h
  have ha1 : ∀ H1 : Hp, Same H H1 → SqT K H1 a (nV r) := fun H1 q => Same.sqT q ha
  refine ⟨_, (pss_cons (ps_setLc (i := 1) (own := [("_", 2)]) (g := gName 2) rfl sclisted_cells.nd rfl rfl (sw_true rfl rfl rfl (by decide +kernel)) (pi_range1 rfl T.f_range (pa_cons (pe_op op_add (pe_callB (maxTK K (hc := rfl)) (by rfl) T.f_max (by decide +kernel) (pa_cons (pv 0) pa_nil)) pe_int) pa_nil)) (blkOk_by (N := ["marks", "found", "_", "deal", "mark", "cell"]) (sc := defScope slisted_cells) (by decide +kernel)) (fun _ _ _ _ _ => (pg_name (i := 2) sclisted_cells.nd rfl (by first | exact Or.inl rfl | exact Or.inr rfl))) (fun _ _ _ _ _ => pts_nil) (fun _ _ _ _ _ => (pe_lst pa_nil)))
  (pss_cons (ps_for PassesOwn.never rfl (pi_enumT (by rfl) T.f_enumerate (pa_cons (pv 0) pa_nil)) (pg_tup rfl (pgs_cons (pg_name (i := 3) sclisted_cells.nd rfl (by first | exact Or.inl rfl | exact Or.inr rfl)) (pgs_cons (pg_name (i := 4) sclisted_cells.nd rfl (by first | exact Or.inl rfl | exact Or.inr rfl)) pgs_nil)))
  (pss_one (ps_expr (pe_bm PySem.F.plainAttrs_list PySem.F.slot_list_append PySem.F.type_list_append mt_append (pe_ix (ixL K) (pv 1) (pv 4) (fun _ _ => rfl)) (pa_cons (pv 3) pa_nil)))))
  (pss_one (ps_ret (pe_callTy (tupK K) (by rfl) T.f_tuple (by decide +kernel) (pa_cons (pe_lc (own := [("cell", 5)]) (g := gName 5) rfl sclisted_cells.nd (pi_list (pv 1)) (blkOk_by (N := ["marks", "found", "_", "deal", "mark", "cell"]) (sc := defScope slisted_cells) (by decide +kernel)) (fun _ _ _ _ _ => (pg_name (i := 5) sclisted_cells.nd rfl (by first | exact Or.inl rfl | exact Or.inr rfl))) (fun _ _ _ _ _ => pts_nil) (fun _ _ _ _ _ => (pe_callTy (tupK K) (by rfl) T.f_tuple (by decide +kernel) (pa_cons (pv 5) pa_nil)))) pa_nil)))))), ?_⟩
  refine ⟨_, rfl, a, r.map fun n => ((n : Nat) : Int), rfl, by rw [← nV_int]; exact ha, by rw [List.length_map]; exact hpos, fun mx hmx hle => ?_⟩
  have cpos : 0 < cnt r := by
    have q : at0 r 0 < cnt r := (row_mem hrow).mp (List.mem_of_getElem? (of_at0 hpos))
    omega
  have ecnt : mx + 1 = (cnt r : Nat) := by
    obtain ⟨n, hn, rfl⟩ := List.mem_map.mp hmx
    have h1 := (row_mem hrow).mp hn
    have h2 := hle (((cnt r - 1 : Nat) : Nat) : Int) (List.mem_map.mpr ⟨_, (row_mem hrow).mpr (by omega), rfl⟩)
    omega
  have cle : cnt r ≤ r.length := firsts_le r
  have big : (16777216 : Nat) ≤ sizeLine := by decide
  refine ⟨_, _, rfl, rfl, _, rfl, by omega, by omega, fun D nD => ?_⟩
  have et : (mx + 1).toNat = cnt r := by omega
  rw [et]
  refine lc_it walk_range (fun i H1 => ∃ ls : List Addr, H1 D = some (.lst (ls.map V.ref)) ∧ ls.length = i ∧ ls.Nodup ∧ Same H H1 ∧ ∀ l ∈ ls, H1 l = some (.lst []) ∧ H l = none) ?_ (fun _ _ _ _ => trivial) ?_ ?_
  · exact ⟨[], upd_same .., rfl, List.nodup_nil, same_new nD, fun l hl => by cases hl⟩
  · rintro i x H1 H2 hi ⟨ls, h1, h2, h3, h4, h5⟩ ⟨rfl, hx⟩
    refine ⟨rfl, Nat.zero_le _, fun l nl => ?_⟩
    have lD : l ≠ D := fun z => by rw [z, h1] at nl; cases nl
    refine ⟨ls.map V.ref, by rw [upd_ne lD.symm]; exact h1, by rw [List.length_map, h2]; omega, ls ++ [l], ?_, by rw [List.length_append, h2, List.length_singleton], ?_, fun b o q => ?_, fun l' hl' => ?_⟩
    · rw [upd_same, List.map_append, List.map_singleton]
    · exact List.nodup_append.mpr ⟨h3, List.nodup_cons.mpr ⟨List.not_mem_nil, List.nodup_nil⟩, fun x hx y hy e => by
        rw [List.mem_singleton.mp hy] at e
        rw [e] at hx
        have q := (h5 l hx).1
        rw [nl] at q
        cases q⟩
    · rw [upd_ne (fun z => by rw [z, nD] at q; cases q)]
      exact same_new nl _ _ (h4 _ _ q)
    · rcases List.mem_append.mp hl' with z | z
      · obtain ⟨q1, q2⟩ := h5 _ z
        refine ⟨?_, q2⟩
        rw [upd_ne (fun e => by rw [e, h1] at q1; cases ls with
          | nil => cases z
          | cons => cases q1)]
        exact same_new nl _ _ q1
      · rw [List.mem_singleton.mp z]
        exact ⟨by rw [upd_ne lD, upd_same], h4.free nl⟩
  · rintro H1 ⟨ls, h1, h2, h3, h4, h5⟩
    have la : ∀ m, m < cnt r → ls[m]? = some (ls.getD m 0) := fun m hm => by
      rw [List.getD_eq_getElem?_getD, getE (by rw [h2]; exact hm)] <;> rfl
    have inj : ∀ m m', m < cnt r → m' < cnt r → ls.getD m 0 = ls.getD m' 0 → m = m' := fun m m' hm hm' e => by
      have q1 := la m hm
      have q2 := la m' hm'
      rw [e] at q1
      exact (List.getElem?_inj (by rw [h2]; exact hm) h3).mp (q1.trans q2.symm)
    have lne : ∀ m, m < cnt r → ls.getD m 0 ≠ D := fun m hm e => by
      have q := (h5 _ (List.mem_of_getElem? (la m hm))).1
      rw [e, h1] at q
      cases ls with
      | nil => rw [← h2] at hm; exact absurd hm (Nat.not_lt_zero _)
      | cons => cases q
    refine ⟨_, rfl, a, nV r, rfl, ha1 _ h4, for_it (walk_enumT (xs := nV r)) (fun i σ H2 => ∃ m3 m4, σ = [some (.ref a), some (.ref D), none, m3, m4, none] ∧ H2 D = some (.lst (ls.map V.ref)) ∧ Same H H2 ∧ ∀ m, m < cnt r → H2 (ls.getD m 0) = some (.lst (nV (places m (r.take i))))) ?_ ?_ ?_ ?_⟩
    · exact ⟨none, none, rfl, h1, h4, fun m hm => (h5 _ (List.mem_of_getElem? (la m hm))).1⟩
    · exact fun i σ H1 _ h => by obtain ⟨_, _, _, _, h1, _⟩ := h; exact ha1 _ h1
    · rintro i v σ H2 H3 hi ⟨m3, m4, rfl, k1, k2, k3⟩ y
      obtain ⟨Tt, x0, x1, rfl, nT, rfl, hx0, hx1⟩ := y
      cases hx0
      have hi : i < r.length := by rw [nV_len] at hi; exact hi
      have ex : x1 = .int (at0 r i : Nat) := by
        have q := nV_at0 hi
        rw [show (nV r)[i]? = some x1 from hx1] at q
        exact Option.some.inj q
      subst ex
      have hm : at0 r i < cnt r := (row_mem hrow).mp (List.mem_of_getElem? (of_at0 hi))
      have s2 : Same H2 (upd H2 Tt (.tup [.int (i : Nat), .int (at0 r i : Nat)])) := same_new nT
      refine ⟨Tt, _, rfl, .inl (.inl (upd_same ..)), rfl, _, _, rfl, _, _, rfl, rfl, ?_⟩
      generalize hH3 : upd H2 Tt (.tup [.int (i : Nat), .int (at0 r i : Nat)]) = H3 at s2
      have g := s2 _ _ (k3 _ hm)
      refine ⟨_, rfl, _, rfl, D, _, _, _, rfl, rfl, .inl (.inl (s2 _ _ k1)), atI_nat (v := .ref (ls.getD (at0 r i) 0)) (by rw [List.getElem?_map, la _ hm] <;> rfl), ?_⟩
      refine ⟨.inl ⟨rfl, _, .inl (.inl g)⟩, _, rfl, _, _, _, rfl, rfl, g, ?_, ?_⟩
      · rw [nV_len]
        have := places_len (at0 r i) (r.take i)
        rw [List.length_take] at this
        omega
      rw [nV_snoc]
      refine ⟨_, _, rfl, by rw [upd_ne (lne _ hm).symm]; exact s2 _ _ k1, fun b o q => ?_, fun m hm' => ?_⟩
      · have q2 := (h5 _ (List.mem_of_getElem? (la _ hm))).2
        rw [upd_ne (fun z => by rw [z, q2] at q; cases q)]
        exact s2 _ _ (k2 _ _ q)
      · have tk : r.take (i + 1) = r.take i ++ [at0 r i] := by rw [List.take_add_one, of_at0 hi] <;> rfl
        rw [tk, places_snoc]
        by_cases e : m = at0 r i
        · rw [if_pos e, e, upd_same, List.length_take]
          have : min i r.length = i := by omega
          rw [this]
        · rw [if_neg e, upd_ne fun z => e (inj _ _ hm' hm z)]
          exact s2 _ _ (k3 _ hm')
    · rintro σ H2 ⟨m3, m4, rfl, k1, k2, k3⟩
      have e3 : ∀ m, m < cnt r → H2 (ls.getD m 0) = some (.lst (nV (places m r))) := fun m hm => by
        have q := k3 m hm
        rw [show r.take (nV r).length = r by rw [nV_len]; exact List.take_length] at q
        exact q
      refine ⟨_, rfl, D, rfl, ⟨_, .inl (.inl k1)⟩, fun D2 nD2 => ?_⟩
      have dD : D2 ≠ D := fun z => by rw [z, k1] at nD2; cases nD2
      refine lc_it (walk_list (xs := ls.map V.ref)) (PCl H2 D2 (cellsOf r)) ⟨[], upd_same .., .nil, same_new nD2, fun t ht => nomatch ht⟩ (fun i H3 _ h => by obtain ⟨_, _, _, h3, _⟩ := h; exact .inl (.inl (h3 _ _ k1))) ?_ ?_
      · rintro i x H4 H3 hi ⟨ts, g1, g2, g3, g4⟩ ⟨rfl, hx⟩
        have hi : i < cnt r := by rw [List.length_map, h2] at hi; exact hi
        rw [List.getElem?_map, la i hi] at hx
        cases hx
        refine ⟨rfl, ?_⟩
        refine ⟨_, rfl, _, _, rfl, .inl ⟨.inl (.inl (g3 _ _ (e3 i hi))), fun t nt => ?_⟩⟩
        have tD : D2 ≠ t := fun z => by rw [← z, g1] at nt; cases nt
        have s4 : Same H3 (upd H3 t (.tup (nV (places i r)))) := same_new nt
        have lts : ts.length = i := by
          rw [Paired.length g2, List.length_take, row_cells hrow, List.length_map, List.length_range]
          omega
        refine ⟨_, s4 _ _ g1, by rw [List.length_map]; omega, ts ++ [t], ?_, ?_, fun b o q => ?_, fun t' ht' => ?_⟩
        · rw [upd_same, List.map_append, List.map_singleton]
        · have tc : (cellsOf r).take (i + 1) = (cellsOf r).take i ++ [places i r] := by
            rw [List.take_add_one, row_cells hrow, List.getElem?_map, List.getElem?_range hi] <;> rfl
          rw [tc]
          refine psnoc (pimp (fun t' c _ z => ?_) g2) ?_
          · rw [upd_ne (fun q => by rw [q, g1] at z; cases z)]
            exact s4 _ _ z
          · rw [upd_ne (fun z => tD z.symm), upd_same]
        · rw [upd_ne (fun z => by rw [z, nD2] at q; cases q)]
          exact s4 _ _ (g3 _ _ q)
        · rcases List.mem_append.mp ht' with z | z
          · exact g4 _ z
          · rw [List.mem_singleton.mp z]
            exact g3.free nt
      · rintro H3 ⟨ts, g1, g2, g3, g4⟩
        refine ⟨D2, _, rfl, .inl ⟨.inl (.inl g1), fun p np => ?_⟩⟩
        have s5 : Same H (upd H3 p (.tup (ts.map V.ref))) := fun b o q => same_new np _ _ (g3 _ _ (k2 _ _ q))
        refine hQ _ p s5 ((show Same H H3 from fun b o q => g3 _ _ (k2 _ _ q)).free np) ⟨ts, upd_same .., ?_⟩
        have lt : (cellsOf r).take (ls.map V.ref).length = cellsOf r := by
          refine List.take_of_length_le ?_
          rw [row_cells hrow, List.length_map, List.length_map, List.length_range, h2]
          exact Nat.le_refl _
        rw [lt] at g2
        refine pimp (fun t c ht z => ?_) g2
        exact same_new np _ _ z
end
end K01
set_option Elab.async false
set_option linter.all false
set_option maxRecDepth 100000
set_option maxHeartbeats 4000000
namespace K01
open PySem PySem.Spec PyProof.Rows L2 Ms RZ
theorem ixN_n {n j : Nat} (h : j < n) : ixN n (j : Int) = some j := by
  unfold ixN
  rw [if_pos (by omega), if_pos (by omega)]
  simp
theorem nV_set (l : List Nat) (i v : Nat) : (nV l).set i (.int (v : Nat)) = nV (l.set i v) := by
  unfold nV
  rw [List.map_set]
theorem of_nV {l : List Nat} {i : Nat} {x : V} (h : (nV l)[i]? = some x) : ∃ n, l[i]? = some n ∧ x = .int (n : Nat) := by
  unfold nV at h
  rw [List.getElem?_map] at h
  cases e : l[i]? with
  | none => rw [e] at h; cases h
  | some n => rw [e] at h; exact ⟨n, rfl, (Option.some.inj h).symm⟩
/-- while boss[x] != x: boss[x] = boss[boss[x]]; x = boss[x] -/
def tfind (K : PySem.W.Frag) (s : Nat) : TS := tWhile (tTest (tOp rNe (tOp (rIxL K) (tVar 2) (tVar s)) (tVar s))) (tSeq (tAsg (tOp (rIxL K) (tVar 2) (tOp (rIxL K) (tVar 2) (tVar s))) (gSub (tVar 2) (tVar s) rSetL)) (tAsg (tOp (rIxL K) (tVar 2) (tVar s)) (gName s)))
theorem find_run {K : PySem.W.Frag} {s : Nat} (h2 : s ≠ 2) {D : Ends} {σ : L2.St} {H : Hp} {l : Addr} {bs : List Nat} {r dp : Nat → Nat} {x : Nat} (F : Forest bs r dp) (hl : H l = some (.lst (nV bs))) (s2 : σ[2]? = some (some (.ref l))) (ss : σ[s]? = some (some (.int (x : Nat)))) (hx : x < bs.length)
    (hQ : ∀ bs' H', Forest bs' r dp → bs'.length = bs.length → at0 bs' (r x) = r x → H' l = some (.lst (nV bs')) → (∀ b, b ≠ l → H' b = H b) → D.nx (σ.set s (some (.int (r x : Nat)))) H') : tfind K s D σ H := by
  refine ⟨fun m σ' H' => ∃ bs' y, m = dp y ∧ Forest bs' r dp ∧ bs'.length = bs.length ∧ y < bs.length ∧ r y = r x ∧ σ' = σ.set s (some (.int (y : Nat))) ∧ H' l = some (.lst (nV bs')) ∧ ∀ b, b ≠ l → H' b = H b, ⟨_, bs, x, rfl, F, rfl, hx, rfl, ?_, hl, fun _ _ => rfl⟩, ?_⟩
  · refine List.ext_getElem? fun j => ?_
    rw [List.getElem?_set]
    by_cases e : s = j
    · subst e
      rw [if_pos rfl, if_pos (ltE ss), ss]
    · rw [if_neg e]
  · rintro m σ' H' ⟨bs', y, rfl, F', hlen, hy, hr, rfl, hl', ho⟩
    have l2 : ∀ v : Option V, (σ.set s v)[2]? = some (some (.ref l)) := fun v => by rw [List.getElem?_set_ne h2]; exact s2
    have ls : ∀ v : Option V, (σ.set s v)[s]? = some v := fun v => by rw [List.getElem?_set_self (ltE ss)]
    have hy' : y < bs'.length := by rw [hlen]; exact hy
    refine ⟨_, l2 _, _, ls _, l, _, _, _, rfl, rfl, .inl (.inl hl'), atI_nat (nV_at0 hy'), _, ls _, rfl, _, rfl, ?_⟩
    by_cases e : at0 bs' y = y
    · have q : (!decide (V.int (at0 bs' y : Nat) = V.int (y : Nat))) = false := by rw [e]; simp
      rw [q]
      refine iteF ?_
      have q2 := F'.fix y hy' e
      have q3 := hQ bs' H' F' hlen (by rw [← hr, q2]; exact e) hl' ho
      rw [← hr, q2] at q3
      exact q3
    · have q : (!decide (V.int (at0 bs' y : Nat) = V.int (y : Nat))) = true := by
        have : ¬ V.int (at0 bs' y : Nat) = V.int (y : Nat) := fun z => e (by have := V.int.inj z; omega)
        rw [decide_eq_false this] <;> rfl
      rw [q]
      have l1 := F'.lt y hy'
      have F2 := F'.half hy' e
      have d1 := F'.dec y hy' e
      refine iteT ⟨fun σ1 H1 => ∃ m', m' < dp y ∧ ∃ bs' y, m' = dp y ∧ Forest bs' r dp ∧ bs'.length = bs.length ∧ y < bs.length ∧ r y = r x ∧ σ1 = σ.set s (some (.int (y : Nat))) ∧ H1 l = some (.lst (nV bs')) ∧ ∀ b, b ≠ l → H1 b = H b, fun _ _ z => z, ?_⟩
      refine ⟨_, l2 _, _, l2 _, _, ls _, l, _, _, _, rfl, rfl, .inl (.inl hl'), atI_nat (nV_at0 hy'), l, _, _, _, rfl, rfl, .inl (.inl hl'), atI_nat (nV_at0 l1), ?_⟩
      refine ⟨_, l2 _, _, ls _, l, _, _, _, rfl, rfl, hl', ixN_n (by rw [nV_len]; exact hy'), ?_⟩
      rw [nV_set]
      have g : upd H' l (.lst (nV (bs'.set y (at0 bs' (at0 bs' y))))) l = some (.lst (nV (bs'.set y (at0 bs' (at0 bs' y))))) := upd_same ..
      have hy2 : y < (bs'.set y (at0 bs' (at0 bs' y))).length := by rw [List.length_set]; exact hy'
      refine ⟨_, l2 _, _, ls _, l, _, _, _, rfl, rfl, .inl (.inl g), atI_nat (nV_at0 hy2), ?_⟩
      rw [at0_set hy', if_pos rfl]
      have l3 := F'.lt _ l1
      have d2 : dp (at0 bs' (at0 bs' y)) ≤ dp (at0 bs' y) := by
        by_cases z : at0 bs' (at0 bs' y) = at0 bs' y
        · rw [z]; exact Nat.le_refl _
        · exact Nat.le_of_lt (F'.dec _ l1 z)
      refine ⟨dp (at0 bs' (at0 bs' y)), by omega, _, _, rfl, F2, by rw [List.length_set]; exact hlen, by rw [← hlen]; exact l3, by rw [F'.up _ l1, F'.up y hy']; exact hr, by rw [List.set_set], g, fun b hb => ?_⟩
      rw [upd_ne hb]
      exact ho b hb
/-- low = first[other]; .. boss[high] = low -/
def tjoin (K : PySem.W.Frag) : TS := tSeq (tAsg (tDGet (tVar 3) (tVar 5)) (gName 6)) (tSeq (tfind K 6) (tSeq (tAsg (tVar 4) (gName 7)) (tSeq (tfind K 7) (tAsg (tVar 6) (gSub (tVar 2) (tVar 7) rSetL)))))
theorem join_run {K : PySem.W.Frag} {D : Ends} {H : Hp} {a b l d : Addr} {m3 m4 : Option V} {bs : List Nat} {r dp : Nat → Nat} {x y v : Nat} (F : Forest bs r dp) (hl : H l = some (.lst (nV bs))) (hx : x < bs.length) (hv : v < bs.length) (hd : DGet H d (.int (y : Nat)) (some (.int (v : Nat)))) (dl : d ≠ l)
    (hQ : ∀ bs' r' H' m3 m4, (∃ dp, Forest bs' r' dp) → bs'.length = bs.length → (∀ z, z < bs.length → r' z = if r z = r x then r v else r z) → H' l = some (.lst (nV bs')) → (∀ b, b ≠ l → H' b = H b) →
      D.nx [some (.ref a), some (.ref b), some (.ref l), some (.ref d), some (.int (x : Nat)), some (.int (y : Nat)), m3, m4, none, none] H') :
    tjoin K D [some (.ref a), some (.ref b), some (.ref l), some (.ref d), some (.int (x : Nat)), some (.int (y : Nat)), m3, m4, none, none] H := by
  refine ⟨_, rfl, _, rfl, d, _, rfl, hd, ?_⟩
  show tfind K 6 _ _ _
  refine find_run (x := v) (by decide) F hl rfl rfl hv fun bs1 H1 F1 e1 t1 l1 o1 => ?_
  refine ⟨_, rfl, ?_⟩
  show tfind K 7 _ _ _
  refine find_run (x := x) (by decide) F1 l1 rfl rfl (by rw [e1]; exact hx) fun bs2 H2 F2 e2 t2 l2 o2 => ?_
  obtain ⟨k1, k2, _⟩ := F2.root _ v (Nat.le_refl _) (by rw [e2, e1]; exact hv)
  obtain ⟨k3, k4, _⟩ := F2.root _ x (Nat.le_refl _) (by rw [e2, e1]; exact hx)
  obtain ⟨r', dp', F3, hr'⟩ := F2.link k1 k3 k2 k4
  refine ⟨_, rfl, _, rfl, _, rfl, l, _, _, _, rfl, rfl, l2, ixN_n (by rw [nV_len]; exact k3), ?_⟩
  rw [nV_set]
  exact hQ _ r' _ _ _ ⟨dp', F3⟩ (by rw [List.length_set, e2, e1]) (fun z hz => hr' z (by rw [e2, e1]; exact hz)) (upd_same ..) fun c hc => by rw [upd_ne hc, o2 c hc, o1 c hc]
theorem walk_zipT {K : PySem.W.Frag} {a b : Addr} {xs ys : List V} (hn : xs.length = ys.length) : Walk (ItzT K a b) xs.length (fun H => SqT K H a xs ∧ SqT K H b ys) (YPair (fun i => xs[i]?) (fun i => ys[i]?)) := by
  refine ⟨fun i _ hi q => ?_, fun _ q => ⟨xs, ys, q.1, q.2, .inl (Nat.le_refl _)⟩, fun i H v H' _ q y => ?_⟩
  · have h2 : i < ys.length := hn ▸ hi
    exact ⟨xs, ys, xs[i], ys[i], q.1, q.2, getE hi, getE h2⟩
  · obtain ⟨T, x, z, h1, h2, h3, h4, h5⟩ := y
    exact ⟨T, x, z, h1, h2, h3, h4 xs q.1, h5 ys q.2⟩
def spJoin (K : PySem.W.Frag) : Sp := fun vs H Q _ => ∃ a b one two, vs = [.ref a, .ref b] ∧ SqT K H a (nV one) ∧ SqT K H b (nV two) ∧ one.length = two.length ∧ (∀ x ∈ one, x < one.length) ∧ one.length ≤ 16777216 ∧ ∀ H' p r, Same H H' → H p = none → H' p = some (.lst (nV r)) → Joins one two r → Q (.ref p) H'
/-- the rows joined so far -/
structure PJ (H : Hp) (a b l d : Addr) (one two : List Nat) (i : Nat) (bs : List Nat) (r : Nat → Nat) (H1 : Hp) : Prop where
  same : Same H H1
  boss : H1 l = some (.lst (nV bs))
  dict : H1 d = some (.dK ((firsts ((two.map kn).take i)).map fun k => (k, .int (at0 one (ix1 (two.map kn) k) : Nat))))
  fo : ∃ dp, Forest bs r dp
  len : bs.length = one.length
  pat : ∀ p q, p < one.length → q < one.length → (r (at0 one p) = r (at0 one q) ↔ Eqv (Gn one one.length (two.map kn) i) p q)
theorem jn_map {one two : List Nat} (p q : Nat) : Eqv (Gn one one.length (two.map kn) two.length) p q ↔ Jn one two p q := by
  have key : ∀ p q, Gn one one.length (two.map kn) two.length p q ↔ Gn one one.length two two.length p q := fun p q => by
    unfold Gn
    refine or_congr Iff.rfl (and_congr_right fun h1 => and_congr_right fun h2 => ?_)
    rw [List.getElem?_map, List.getElem?_map, getE h1, getE h2]
    simp only [Option.map_some, Option.some.injEq]
    exact ⟨fun e => kn_inj _ _ e, fun e => by rw [e]⟩
  exact ⟨fun e => e.mono fun p q g => .of ((key p q).mp g), fun e => e.mono fun p q g => .of ((key p q).mpr g)⟩
section
variable {P : Program} {w : World} {K : PySem.W.Frag} {mg : Str → Option Value} {base : Heap}
theorem ok_joined_marks (T : Tx K mg) : Ok P w K mg base "joined_marks" 1 (spJoin K) := by
  refine ok_of T.a_joined_marks scjoined_marks (fun vs H Q E h => ?_) bi_joined_marks fun cdv A outer s H vs Q E hr h => ?_
  · obtain ⟨a, b, one, two, rfl, _⟩ := h
    rfl
  obtain ⟨a, b, one, two, rfl, ha, hb, hlen, hlt, hz, hQ⟩ := h
  have ha1 : ∀ H1 : Hp, Same H H1 → SqT K H1 a (nV one) := fun H1 s => Same.sqT s ha
  have hb1 : ∀ H1 : Hp, Same H H1 → SqT K H1 b (nV two) := fun H1 s => Same.sqT s hb
  refine ⟨_, (pss_cons (ps_set (i := 2) scjoined_marks.nd rfl (by first | exact Or.inl rfl | exact Or.inr rfl) (pe_listRg rfl (by rfl) T.f_list (prg_1 (by rfl) T.f_range (pe_callB (lenK K) (by rfl) T.f_len boot_len (pa_cons (pv 0) pa_nil)))))
  (pss_cons (ps_set (i := 3) scjoined_marks.nd rfl (by first | exact Or.inl rfl | exact Or.inr rfl) pe_dnewK)
  (pss_cons (ps_for PassesOwn.never rfl (pi_zipA (by rfl) T.f_zip (pa_cons (pv 0) (pa_cons (pv 1) pa_nil))) (pg_tup rfl (pgs_cons (pg_name (i := 4) scjoined_marks.nd rfl (by first | exact Or.inl rfl | exact Or.inr rfl)) (pgs_cons (pg_name (i := 5) scjoined_marks.nd rfl (by first | exact Or.inl rfl | exact Or.inr rfl)) pgs_nil)))
  (pss_cons (ps_if (pt_cmp (pc_dnotin (hu_of hr) (pv 5) (pv 3)))
    (pss_one (ps_dput (hu_of hr) (pv 3) (pv 5) (pv 4) rfl))
    pss_nil)
    (pss_cons (ps_set (i := 6) scjoined_marks.nd rfl (by first | exact Or.inl rfl | exact Or.inr rfl) (pe_dget (hu_of hr) (pv 3) (pv 5) (fun _ _ => rfl)))
    (pss_cons (ps_while PassesOwn.never (pt_cmpR op_ne (pe_ix (ixL K) (pv 2) (pv 6) (fun _ _ => rfl)) (pv 6) (nomark _))
    (pss_cons (ps_asg (pe_ix (ixL K) (pv 2) (pe_ix (ixL K) (pv 2) (pv 6) (fun _ _ => rfl)) (fun _ _ => rfl)) (pg_sub (pv 2) (pv 6) set_list))
      (pss_one (ps_set (i := 6) scjoined_marks.nd rfl (by first | exact Or.inl rfl | exact Or.inr rfl) (pe_ix (ixL K) (pv 2) (pv 6) (fun _ _ => rfl))))))
    (pss_cons (ps_set (i := 7) scjoined_marks.nd rfl (by first | exact Or.inl rfl | exact Or.inr rfl) (pv 4))
    (pss_cons (ps_while PassesOwn.never (pt_cmpR op_ne (pe_ix (ixL K) (pv 2) (pv 7) (fun _ _ => rfl)) (pv 7) (nomark _))
    (pss_cons (ps_asg (pe_ix (ixL K) (pv 2) (pe_ix (ixL K) (pv 2) (pv 7) (fun _ _ => rfl)) (fun _ _ => rfl)) (pg_sub (pv 2) (pv 7) set_list))
      (pss_one (ps_set (i := 7) scjoined_marks.nd rfl (by first | exact Or.inl rfl | exact Or.inr rfl) (pe_ix (ixL K) (pv 2) (pv 7) (fun _ _ => rfl))))))
    (pss_one (ps_asg (pv 6) (pg_sub (pv 2) (pv 7) set_list)))))))))
  (pss_cons (ps_set (i := 8) scjoined_marks.nd rfl (by first | exact Or.inl rfl | exact Or.inr rfl) (pe_lst pa_nil))
  (pss_cons (ps_for PassesOwn.never rfl (pi_tup (pv 0)) (pg_name (i := 4) scjoined_marks.nd rfl (by first | exact Or.inl rfl | exact Or.inr rfl))
  (pss_cons (ps_set (i := 9) scjoined_marks.nd rfl (by first | exact Or.inl rfl | exact Or.inr rfl) (pv 4))
    (pss_cons (ps_while PassesOwn.never (pt_cmpR op_ne (pe_ix (ixL K) (pv 2) (pv 9) (fun _ _ => rfl)) (pv 9) (nomark _))
    (pss_cons (ps_asg (pe_ix (ixL K) (pv 2) (pe_ix (ixL K) (pv 2) (pv 9) (fun _ _ => rfl)) (fun _ _ => rfl)) (pg_sub (pv 2) (pv 9) set_list))
      (pss_one (ps_set (i := 9) scjoined_marks.nd rfl (by first | exact Or.inl rfl | exact Or.inr rfl) (pe_ix (ixL K) (pv 2) (pv 9) (fun _ _ => rfl))))))
    (pss_one (ps_expr (pe_bm PySem.F.plainAttrs_list PySem.F.slot_list_append PySem.F.type_list_append mt_append (pv 8) (pa_cons (pv 9) pa_nil)))))))
  (pss_one (ps_ret (pv 8)))))))), ?_⟩
  refine ⟨_, rfl, a, _, rfl, .inr ha, _, rfl, ⟨by omega, by omega, by rw [nV_len]; omega, by rw [nV_len]; omega, by rw [nV_len]; omega⟩, fun l nl => ?_⟩
  refine fun d nd => ?_
  have dl : d ≠ l := fun z => by rw [z, upd_same] at nd; cases nd
  have nd1 : H d = none := by rw [upd_ne dl] at nd; exact nd
  have erg : rgV 0 ((nV one).length : Nat) = nV (List.range one.length) := by
    unfold rgV nV
    rw [List.length_map]
    simp
  rw [erg]
  refine ⟨_, rfl, _, rfl, a, b, nV one, nV two, rfl, .inr ⟨ha1 _ (Same.new2 nl nd1), hb1 _ (Same.new2 nl nd1), ?_⟩⟩
  refine for_it (walk_zipT (xs := nV one) (ys := nV two) (by rw [nV_len, nV_len]; exact hlen)) (fun i σ H1 => ∃ m1 m2 m3 m4 bs r, σ = [some (.ref a), some (.ref b), some (.ref l), some (.ref d), m1, m2, m3, m4, none, none] ∧ PJ H a b l d one two i bs r H1) ?_ ?_ ?_ ?_
  · refine ⟨none, none, none, none, List.range one.length, fun x => x, rfl, Same.new2 nl nd1, by rw [upd_ne (fun z => dl z.symm), upd_same], upd_same .., ⟨_, forest_range _⟩, List.length_range, fun p q hp hq => ⟨fun e => .of (.inl ⟨hp, hq, by rw [of_at0 hp, of_at0 hq, e]⟩), fun e => ?_⟩⟩
    have key : ∀ {p q}, Eqv (Gn one one.length (two.map kn) 0) p q → one[p]? = one[q]? := fun {p q} z => by
      induction z with
      | of g =>
        rcases g with ⟨_, _, g⟩ | ⟨g, _, _⟩
        · exact g
        · omega
      | refl a => rfl
      | symm _ ih => exact ih.symm
      | trans _ _ i1 i2 => exact i1.trans i2
    have q := key e
    rw [of_at0 hp, of_at0 hq] at q
    exact Option.some.inj q
  · rintro i σ H1 _ ⟨m1, m2, m3, m4, bs, r, _, J⟩
    exact ⟨ha1 _ J.same, hb1 _ J.same⟩
  · rintro i v σ H1 H2 hi ⟨m1, m2, m3, m4, bs, r, rfl, J⟩ ⟨Tt, x0, y0, rfl, nT, rfl, hx0, hy0⟩
    obtain ⟨x, hx, rfl⟩ := of_nV (show (nV one)[i]? = some x0 from hx0)
    obtain ⟨y, hy, rfl⟩ := of_nV (show (nV two)[i]? = some y0 from hy0)
    rw [nV_len] at hi
    have hky : (two.map kn)[i]? = some (kn y) := by rw [List.getElem?_map, hy] <;> rfl
    generalize hks : two.map kn = ks at *
    have lks : ks.length = one.length := by rw [← hks, List.length_map, hlen]
    have tk : ks.take (i + 1) = ks.take i ++ [kn y] := by rw [List.take_add_one, hky] <;> rfl
    have s2 : Same H1 (upd H1 Tt (.tup [.int (x : Nat), .int (y : Nat)])) := fun b o e => by rw [upd_ne (fun z => by rw [z, nT] at e; cases e)]; exact e
    refine ⟨Tt, _, rfl, .inl (.inl (upd_same ..)), rfl, _, _, rfl, _, _, rfl, rfl, ?_⟩
    generalize hH2 : upd H1 Tt (.tup [.int (x : Nat), .int (y : Nat)]) = H2 at s2
    have dict2 := J.dict
    rw [hks] at dict2
    have dict2 := s2 _ _ dict2
    have boss2 := s2 _ _ J.boss
    have pat2 := J.pat
    rw [hks] at pat2
    obtain ⟨dp, Fo⟩ := J.fo
    have hix := idx_first hky
    have hui : ix1 ks (kn y) < one.length := by omega
    have xlt : x < bs.length := by rw [J.len]; exact hlt x (List.mem_of_getElem? hx)
    have vlt : at0 one (ix1 ks (kn y)) < bs.length := by rw [J.len]; exact hlt _ (List.mem_of_getElem? (of_at0 hui))
    have rest : ∀ {D : Ends} (H3 : Hp), (∀ σ H1, (∃ m1 m2 m3 m4 bs r, σ = [some (.ref a), some (.ref b), some (.ref l), some (.ref d), m1, m2, m3, m4, none, none] ∧ PJ H a b l d one two (i + 1) bs r H1) → D.nx σ H1) → Same H H3 → H3 l = some (.lst (nV bs)) → H3 d = some (.dK ((firsts (ks.take (i + 1))).map fun k => (k, .int (at0 one (ix1 ks k) : Nat)))) →
        tjoin K D [some (.ref a), some (.ref b), some (.ref l), some (.ref d), some (.int (x : Nat)), some (.int (y : Nat)), m3, m4, none, none] H3 := by
      intro D H3 hD s3 b3 d3
      have gd : DGet H3 d (.int (y : Nat)) (some (.int (at0 one (ix1 ks (kn y)) : Nat))) := by
        have q := DGet.k (k := kn y) d3
        rw [valV_of, if_pos ((mem_firsts _ _).mpr (by rw [tk]; exact List.mem_append_right _ (List.mem_singleton.mpr rfl)))] at q
        exact q
      refine join_run Fo b3 xlt vlt gd dl fun bs' r' H' m3' m4' hF hl' hr' hb' ho' => hD _ _ ⟨_, _, m3', m4', bs', r', rfl, ?_⟩
      refine ⟨fun c o q => ?_, hb', ?_, hF, by rw [hl', J.len], fun p q hp hq => ?_⟩
      · rw [ho' c (fun z => by rw [z, nl] at q; cases q)]
        exact s3 _ _ q
      · rw [ho' d dl, hks]
        exact d3
      · have lt1 : ∀ p, p < one.length → at0 one p < bs.length := fun p hp => by rw [J.len]; exact hlt _ (List.mem_of_getElem? (of_at0 hp))
        rw [hr' _ (lt1 p hp), hr' _ (lt1 q hq), hks, gn_two hky]
        have ex : x = at0 one i := (at0_of hx).symm
        have P1 := fun p q hp hq => pat2 p q hp hq
        unfold Mg
        rw [← P1 p q hp hq, ← P1 p _ hp hui, ← P1 i q hi hq, ← P1 p i hp hi, ← P1 _ q hui hq, ex]
        generalize r (at0 one p) = A
        generalize r (at0 one q) = B
        generalize r (at0 one i) = C
        generalize r (at0 one (ix1 ks (kn y))) = D
        by_cases h1 : A = C
        · by_cases h2 : B = C
          · rw [if_pos h1, if_pos h2]
            exact ⟨fun _ => .inl (h1.trans h2.symm), fun _ => rfl⟩
          · rw [if_pos h1, if_neg h2]
            exact ⟨fun z => .inr (.inr ⟨h1, z⟩), fun z => by rcases z with z | ⟨z1, z2⟩ | ⟨z1, z2⟩ <;> omega⟩
        · by_cases h2 : B = C
          · rw [if_neg h1, if_pos h2]
            exact ⟨fun z => .inr (.inl ⟨z, h2.symm⟩), fun z => by rcases z with z | ⟨z1, z2⟩ | ⟨z1, z2⟩ <;> omega⟩
          · rw [if_neg h1, if_neg h2]
            exact ⟨.inl, fun z => by rcases z with z | ⟨z1, z2⟩ | ⟨z1, z2⟩ <;> omega⟩
    refine ⟨_, rfl, _, rfl, d, _, rfl, DGet.k (k := kn y) dict2, _, rfl, ?_⟩
    rw [valV_of]
    by_cases hin : kn y ∈ firsts (ks.take i)
    · rw [if_pos hin]
      refine iteF ?_
      show tjoin K _ _ _
      have he : firsts (ks.take (i + 1)) = firsts (ks.take i) := by rw [tk, firsts_old ((mem_firsts _ _).mp hin)]
      exact rest H2 (fun _ _ z => z) (fun b o q => s2 _ _ (J.same _ _ q)) boss2 (by rw [he]; exact dict2)
    · rw [if_neg hin]
      refine iteT ?_
      have vn : valV ((firsts (ks.take i)).map fun k => (k, V.int (at0 one (ix1 ks k) : Nat))) (kn y) = none := by rw [valV_of, if_neg hin]
      have lt : (firsts (ks.take i)).length ≤ i := Nat.le_trans (firsts_le _) (List.length_take_le ..)
      refine ⟨_, rfl, _, rfl, _, rfl, d, _, rfl, DPut.k (k := kn y) dict2 (by rw [List.length_map]; have : (16777216 : Nat) ≤ sizeLine := by decide
                                                                              omega), ?_⟩
      rw [putK_new _ vn]
      have hu : ix1 ks (kn y) = i := by
        obtain ⟨l1, e1⟩ := idx_first hky
        rcases Nat.lt_or_ge (ix1 ks (kn y)) i with g | g
        · exfalso
          refine hin ((mem_firsts _ _).mpr (List.mem_of_getElem? (i := ix1 ks (kn y)) ?_))
          rw [List.getElem?_take_of_lt g]
          exact e1
        · omega
      show tjoin K _ _ _
      refine rest _ (fun _ _ z => z) (fun b o q => ?_) ?_ ?_
      · rw [upd_ne (fun z => by rw [z, nd1] at q; cases q)]
        exact s2 _ _ (J.same _ _ q)
      · rw [upd_ne (fun z => dl z.symm)]
        exact boss2
      · rw [upd_same, tk, firsts_new (fun z => hin ((mem_firsts _ _).mpr z)), List.map_append, List.map_singleton, hu, at0_of hx]
  · rintro σ H1 ⟨m1, m2, m3, m4, bs, r, rfl, J⟩
    rw [nV_len] at J
    obtain ⟨dp, Fo⟩ := J.fo
    refine ⟨by show 0 ≤ sizeLine; decide, fun f nf => ?_⟩
    have fl : f ≠ l := fun z => by rw [z, J.boss] at nf; cases nf
    have sf : Same H (upd H1 f (.lst [])) := fun b o q => by
      have q1 := J.same _ _ q
      rw [upd_ne (fun z => by rw [z, nf] at q1; cases q1)]
      exact q1
    have nf0 : H f = none := J.same.free nf
    refine ⟨_, rfl, a, rfl, ⟨_, ha1 _ sf⟩, for_tup (xs := nV one) (fun i σ H2 => ∃ m1 m2 m3 m4 m9 bs', σ = [some (.ref a), some (.ref b), some (.ref l), some (.ref d), m1, m2, m3, m4, some (.ref f), m9] ∧ Same H H2 ∧ H2 l = some (.lst (nV bs')) ∧ Forest bs' r dp ∧ bs'.length = one.length ∧ H2 f = some (.lst (nV ((one.take i).map r)))) ?_ ?_ ?_ ?_⟩
    · exact ⟨m1, m2, m3, m4, none, bs, rfl, sf, by rw [upd_ne (fun z => fl z.symm)]; exact J.boss, Fo, J.len, upd_same ..⟩
    · rintro i σ H2 _ ⟨_, _, _, _, _, _, _, h, _⟩
      exact ha1 _ h
    · rintro i x0 σ H2 hx0 ⟨m1, m2, m3, m4, m9, bs', rfl, s2, b2, F2, e2, f2⟩
      obtain ⟨x, hx, rfl⟩ := of_nV hx0
      have hi := ltE hx
      have xlt : x < bs'.length := by rw [e2]; exact hlt x (List.mem_of_getElem? hx)
      refine ⟨_, rfl, ?_⟩
      show tfind K 9 _ _ _
      refine find_run (x := x) (by decide) F2 b2 rfl rfl xlt fun bs3 H3 F3 e3 _ l3 o3 => ?_
      have f3 : H3 f = some (.lst (nV ((one.take i).map r))) := by rw [o3 f fl]; exact f2
      refine ⟨_, rfl, .inl ⟨rfl, _, .inl (.inl f3)⟩, _, rfl, f, _, _, rfl, rfl, f3, ?_, ?_⟩
      · rw [nV_len, List.length_map, List.length_take]
        have : (16777216 : Nat) ≤ sizeLine := by decide
        omega
      · refine ⟨_, m2, m3, m4, _, bs3, rfl, fun c o q => ?_, ?_, F3, by rw [e3, e2], ?_⟩
        · rw [upd_ne (fun z => by rw [z, nf0] at q; cases q), o3 c (fun z => by rw [z, nl] at q; cases q)]
          exact s2 _ _ q
        · rw [upd_ne (fun z => fl z.symm)]
          exact l3
        · rw [upd_same, List.take_add_one, hx, List.map_append]
          unfold nV
          rw [List.map_append] <;> rfl
    · rintro σ H2 ⟨m1, m2, m3, m4, m9, bs', rfl, s2, b2, F2, e2, f2⟩
      rw [nV_len, List.take_length] at f2
      refine ⟨_, rfl, hQ _ f (one.map r) s2 nf0 f2 ⟨List.length_map .., fun p q x y hp hq => ?_⟩⟩
      have lp : p < one.length := by have := ltE hp; rw [List.length_map] at this; exact this
      have lq : q < one.length := by have := ltE hq; rw [List.length_map] at this; exact this
      rw [List.getElem?_map, of_at0 lp] at hp
      rw [List.getElem?_map, of_at0 lq] at hq
      rw [← Option.some.inj hp, ← Option.some.inj hq, J.pat p q lp lq, hlen]
      rw [← hlen]
      have q := jn_map (one := one) (two := two) p q
      rw [← hlen] at q
      exact q
end
end K01
set_option Elab.async false
set_option linter.all false
set_option maxRecDepth 100000
set_option maxHeartbeats 4000000
/-! Ms: rows of numbers compared. -/
namespace Ms
open PySem PySem.Spec PyProof.Rows L2
def dI (ns : List Int) : List PyData := ns.map PyData.int
theorem dpI {K : PySem.W.Frag} {H : Hp} : ∀ ns : List Int, DpAll K H (ns.map V.int) (dI ns)
  | [] => .nil
  | n :: ns => .cons (.int n) (dpI ns)
theorem layI : ∀ ns : List Int, PyData.canLayAll0 (dI ns) = true
  | [] => by simp [dI, PyData.canLayAll0]
  | n :: ns => by
    have ih := layI ns
    unfold dI at ih ⊢
    simp only [List.map_cons, PyData.canLayAll0, PyData.canLay0, ih, Bool.and_self]
theorem depI : ∀ ns : List Int, PyData.depthAll (dI ns) = 0
  | [] => by simp [dI, PyData.depthAll]
  | n :: ns => by
    have ih := depI ns
    unfold dI at ih ⊢
    simp only [List.map_cons, PyData.depthAll, PyData.depth, ih] <;> rfl
theorem eqvI : ∀ ns ms : List Int, PyData.eqvAll (dI ns) (dI ms) = decide (ns = ms)
  | [], [] => by simp [dI, PyData.eqvAll]
  | [], _ :: _ => by simp [dI, PyData.eqvAll]
  | _ :: _, [] => by simp [dI, PyData.eqvAll]
  | n :: ns, m :: ms => by
    have ih := eqvI ns ms
    unfold dI at ih ⊢
    simp only [List.map_cons, PyData.eqvAll, PyData.eqv, ih]
    by_cases h : n = m
    · subst h; simp
    · simp [h]
theorem shI (ns : List Int) : SeqAt.shaped (.list (dI ns)) = true := by
  unfold SeqAt.shaped
  simp only [PyData.canLay0, layI, PyData.depth, depI, Bool.true_and]
  decide
theorem shT (ns : List Int) : SeqAt.shaped (.tuple (dI ns)) = true := by
  unfold SeqAt.shaped
  simp only [PyData.canLay0, layI, PyData.depth, depI, Bool.true_and]
  decide
theorem eqvL (ns ms : List Int) : PyData.eqv (.list (dI ns)) (.list (dI ms)) = decide (ns = ms) := by
  rw [← eqvI] <;> simp [PyData.eqv]
theorem eqvT (ns ms : List Int) : PyData.eqv (.tuple (dI ns)) (.tuple (dI ms)) = decide (ns = ms) := by
  rw [← eqvI] <;> simp [PyData.eqv]
/-! rows of rows -/
def dR (rs : List (List Int)) : List PyData := rs.map fun r => .list (dI r)
theorem layR : ∀ rs : List (List Int), PyData.canLayAll0 (dR rs) = true
  | [] => by simp [dR, PyData.canLayAll0]
  | r :: rs => by
    have ih := layR rs
    unfold dR at ih ⊢
    simp only [List.map_cons, PyData.canLayAll0, PyData.canLay0, layI, ih, Bool.and_self]
theorem depR : ∀ rs : List (List Int), PyData.depthAll (dR rs) ≤ 1
  | [] => by simp [dR, PyData.depthAll]
  | r :: rs => by
    have ih := depR rs
    unfold dR at ih ⊢
    simp only [List.map_cons, PyData.depthAll, PyData.depth, depI]
    omega
theorem eqvR : ∀ rs ts : List (List Int), PyData.eqvAll (dR rs) (dR ts) = decide (rs = ts)
  | [], [] => by simp [dR, PyData.eqvAll]
  | [], _ :: _ => by simp [dR, PyData.eqvAll]
  | _ :: _, [] => by simp [dR, PyData.eqvAll]
  | r :: rs, t :: ts => by
    have ih := eqvR rs ts
    unfold dR at ih ⊢
    simp only [List.map_cons, PyData.eqvAll, eqvL, ih]
    by_cases h : r = t
    · subst h; simp
    · simp [h]
theorem shR (rs : List (List Int)) : SeqAt.shaped (.list (dR rs)) = true := by
  unfold SeqAt.shaped
  have h := depR rs
  have e : PyData.depth (.list (dR rs)) ≤ 64 := by
    unfold PyData.depth
    omega
  have l : PyData.canLay0 (.list (dR rs)) = true := by
    unfold PyData.canLay0
    exact layR rs
  rw [l, decide_eq_true e] <;> rfl
theorem eqvLR (rs ts : List (List Int)) : PyData.eqv (.list (dR rs)) (.list (dR ts)) = decide (rs = ts) := by
  rw [← eqvR] <;> simp [PyData.eqv]
theorem dpR {K : PySem.W.Frag} {H : Hp} {as : List Addr} {rs : List (List Int)} (h : Paired (fun a r => SqL K H a (r.map V.int)) as rs) : DpAll K H (as.map V.ref) (dR rs) := by
  induction h with
  | nil => exact .nil
  | cons r _ ih => exact .cons (.lst r (dpI _)) ih
end Ms
set_option Elab.async false
set_option linter.all false
set_option maxRecDepth 100000
set_option maxHeartbeats 4000000
namespace K01
open PySem PySem.Spec PyProof.Rows L2 Ms
abbrev CS (K : PySem.W.Frag) : Addr := He.ga K "Sight"
abbrev SD (K : PySem.W.Frag) : Addr := He.ga K "SizesDiffer"
abbrev ND (K : PySem.W.Frag) : Addr := He.ga K "NoDeals"
/-- a sight at p: the row of its marks -/
structure SightAt (K : PySem.W.Frag) (H : Hp) (p : Addr) (r : List Nat) : Prop where
  ex : ∃ dx t c, H p = some (.ins (CS K) dx [("size", .int (r.length : Nat)), ("marks", .ref t), ("_cells", .ref c)]) ∧ H t = some (.tup (nV r)) ∧ CellsAt H c (cellsOf r)
  row : Row r
  pos : 0 < r.length
  few : r.length ≤ 16777216
theorem SightAt.same {K : PySem.W.Frag} {H H' : Hp} (s : Same H H') {p : Addr} {r : List Nat} (h : SightAt K H p r) : SightAt K H' p r :=
  let ⟨dx, t, c, h1, h2, h3⟩ := h.ex
  ⟨⟨dx, t, c, s _ _ h1, s _ _ h2, h3.same s⟩, h.row, h.pos, h.few⟩
theorem row_lt {r : List Nat} (h : Row r) : ∀ x ∈ r, x < r.length := fun x hx => by
  rw [← show ren r = r from h] at hx
  have h1 := ren_lt hx
  have h2 := firsts_le r
  omega
/-- marks in a list or a tuple, or pairs of them in a list -/
def MarksAt (K : PySem.W.Frag) (H : Hp) (a : Addr) (r : List Nat) : Prop := ∃ xs : List V, xs.length ≤ 16777216 ∧ ((∃ ns : List Int, xs = ns.map V.int ∧ r = ren ns ∧ (SqL K H a xs ∨ SqT K H a xs)) ∨
  ∃ (ts : List Addr) (ps : List (Int × Int)), xs = ts.map V.ref ∧ r = ren ps ∧ Paired (fun t p => H t = some (pairV p)) ts ps ∧ SqL K H a xs)
theorem MarksAt.same {K : PySem.W.Frag} {H H' : Hp} (s : Same H H') {a : Addr} {r : List Nat} (h : MarksAt K H a r) : MarksAt K H' a r := by
  obtain ⟨xs, hz, h⟩ := h
  refine ⟨xs, hz, ?_⟩
  rcases h with ⟨ns, e1, e2, h | h⟩ | ⟨ts, ps, e1, e2, h, g⟩
  · exact .inl ⟨ns, e1, e2, .inl (Same.seq s h)⟩
  · exact .inl ⟨ns, e1, e2, .inr (Same.sqT s h)⟩
  · exact .inr ⟨ts, ps, e1, e2, pimp (fun _ _ _ z => s _ _ z) h, Same.seq s g⟩
theorem MarksAt.few {K : PySem.W.Frag} {H : Hp} {a : Addr} {r : List Nat} (h : MarksAt K H a r) : r.length ≤ 16777216 ∧ Row r := by
  obtain ⟨xs, hz, h⟩ := h
  rcases h with ⟨ns, rfl, rfl, _⟩ | ⟨ts, ps, rfl, rfl, h, _⟩
  · rw [List.length_map] at hz
    exact ⟨by rw [ren_len]; exact hz, row_ren _⟩
  · rw [List.length_map] at hz
    exact ⟨by rw [ren_len, ← Paired.length h]; exact hz, row_ren _⟩
theorem MarksAt.sp {K : PySem.W.Frag} {H : Hp} {a : Addr} {r : List Nat} {Q : VK} {E : XK} (h : MarksAt K H a r) (hQ : ∀ H' p, Same H H' → H p = none → H' p = some (.tup (nV r)) → Q (.ref p) H') : spRen K [.ref a] H Q E := by
  obtain ⟨xs, hz, h⟩ := h
  have big : (16777216 : Nat) ≤ sizeLine := by decide
  unfold spRen
  refine ⟨a, xs, r, rfl, Nat.le_trans hz big, ?_⟩
  rcases h with ⟨ns, e1, e2, h⟩ | ⟨ts, ps, e1, e2, h, g⟩
  · exact .inl ⟨ns, e1, e2, h, hQ⟩
  · exact .inr ⟨ts, ps, e1, e2, h, g, hQ⟩
/-! ### SizesDiffer -/
def spSD (K : PySem.W.Frag) : Sp := fun vs H Q _ => ∃ a x y, vs = [.ref a, x, y] ∧ H a = some (exo a (SD K) none) ∧
  ∀ d, H d = none → d ≠ a → Q .non (upd (upd (upd H d (exd d [("one", x)])) a (exo a (SD K) (some d))) d (exd d [("two", y), ("one", x)]))
section
variable {P : Program} {w : World} {K : PySem.W.Frag} {mg : Str → Option Value} {base : Heap}
theorem fn_sd (T : Tx K mg) : ∃ fd ps, FnOk P w K mg base (L2.CX P w) 1 (He.ma K (SD K) "__init__") fd ps (spSD K) ∧ Binds K fd ps [] := by
  refine fn_ok T.d_SizesDifferu__initu_ scSizesDifferu__initu_ (fun vs H Q E h => ?_) bi_SizesDifferu__initu_ fun cdv A outer s H vs Q E hr h => ?_
  · obtain ⟨a, x, y, rfl, _⟩ := h
    rfl
  obtain ⟨a, x, y, rfl, ha, hQ⟩ := h
  refine ⟨_, pss_cons (ps_ost (pv 0) (pv 1)) (pss_one (ps_ost (pv 0) (pv 2))), ?_⟩
  refine ⟨_, rfl, _, rfl, a, SD K, rfl, T.oe_SizesDiffer, T.nS_one, .inl ⟨ha, fun d nd ne => ?_⟩⟩
  refine ⟨_, rfl, _, rfl, a, SD K, rfl, T.oe_SizesDiffer, T.nS_two, .inr ⟨d, [("one", x)], upd_same .., ?_, by show 1 ≤ 900; decide, hQ d nd ne⟩⟩
  rw [upd_ne ne, upd_same]
/-- raise SizesDiffer(one.size, two.size), unless they are of one size -/
def spCheck (K : PySem.W.Frag) : Sp := fun vs H Q E => ∃ p q r t, vs = [.ref p, .ref q] ∧ SightAt K H p r ∧ SightAt K H q t ∧ (r.length = t.length → Q .non H) ∧
  (r.length ≠ t.length → ∀ d H', H d = none → H' d = some (.xd [("two", .int (t.length : Nat)), ("one", .int (r.length : Nat))]) → (∀ b, b ≠ d → H' b = H b) → E (.ref (SD K)) (some d) H')
theorem passF {X : Cx} : Passes (L2.CX X.prog X.w) X (fun _ _ _ => False) := fun pins σ H s e s' I c => (passN (X := X) σ) pins H s e s' I c
theorem ok_check_sizes (T : Tx K mg) : Ok P w K mg base "check_sizes" 3 (spCheck K) := by
  obtain ⟨fd, ps, F, hb⟩ := fn_sd (P := P) (w := w) (base := base) T
  refine ok_ofX T.a_check_sizes sccheck_sizes (fun vs H Q E h => ?_) bi_check_sizes fun cdv A outer s H vs Q E hr h => ?_
  · obtain ⟨p, q, r, t, rfl, _⟩ := h
    rfl
  obtain ⟨p, q, r, t, rfl, hp, hq, h1, h2⟩ := h
  refine ⟨_, (pss_one (ps_if (pt_cmpR op_ne (pe_fld (pv 0) rfl) (pe_fld (pv 1) rfl) (nomark _))
    (pss_one (ps_raise rfl (takes_of rfl rfl rfl rfl) (pmk_oex (dvs := []) T.oe_SizesDiffer T.ie_SizesDiffer.1 T.ie_SizesDiffer.2 F (hr.mono (by decide)) hb .nil passF (by rfl) T.g_SizesDiffer (pa_cons (pe_fld (pv 0) rfl) (pa_cons (pe_fld (pv 1) rfl) pa_nil)))))
    pss_nil)), ?_⟩
  obtain ⟨dx, tt, c, e1, _, _⟩ := hp.ex
  obtain ⟨dy, tu, cu, e2, _, _⟩ := hq.ex
  refine ⟨_, rfl, p, _, dx, _, _, rfl, e1, T.c_Sight, T.n_size, rfl, _, rfl, q, _, dy, _, _, rfl, e2, T.c_Sight, T.n_size, rfl, rfl, _, rfl, ?_⟩
  by_cases e : r.length = t.length
  · have z : (!decide (V.int (r.length : Nat) = V.int (t.length : Nat))) = false := by rw [e]; simp
    rw [z]
    exact iteF (h1 e)
  · have z : (!decide (V.int (r.length : Nat) = V.int (t.length : Nat))) = true := by
      have n : ¬ V.int (r.length : Nat) = V.int (t.length : Nat) := fun z => e (by have := V.int.inj z; omega)
      rw [decide_eq_false n] <;> rfl
    rw [z]
    refine iteT ?_
    refine ⟨_, rfl, p, _, dx, _, _, rfl, e1, T.c_Sight, T.n_size, rfl, _, rfl, q, _, dy, _, _, rfl, e2, T.c_Sight, T.n_size, rfl, by show 2 ≤ 1000; decide, fun a na => ?_⟩
    refine ⟨a, _, _, rfl, upd_same .., fun d nd ne => ⟨rfl, d, [("two", .int (t.length : Nat)), ("one", .int (r.length : Nat))], ?_, upd_same .., ?_, ?_⟩⟩
    · rw [upd_ne ne.symm, upd_same]
    · rw [upd_ne ne] at nd
      exact nd
    · refine h2 e d _ (by rw [upd_ne ne] at nd; exact nd) (upd_same ..) fun b hb => ?_
      rw [upd_ne hb]
      by_cases hba : b = a
      · rw [hba, del_same, na]
      · rw [del_ne hba, upd_ne hb, upd_ne hba, upd_ne hb, upd_ne hba]
/-! ### a new sight -/
def spInit (K : PySem.W.Frag) : Sp := fun vs H Q E => ∃ x dx a r, vs = [.ref x, .ref a] ∧ H x = some (.ins (CS K) dx []) ∧ MarksAt K H a r ∧
  (0 < r.length → ∀ H', (∀ b o, b ≠ x → H b = some o → H' b = some o) → (∃ t c, H' x = some (.ins (CS K) dx [("size", .int (r.length : Nat)), ("marks", .ref t), ("_cells", .ref c)]) ∧ H' t = some (.tup (nV r)) ∧ CellsAt H' c (cellsOf r)) → Q .non H') ∧
  (r.length = 0 → ∀ H', Same H H' → E (.ref (ND K)) none H')
theorem fn_init (T : Tx K mg) : ∃ fd ps, FnOk P w K mg base (L2.CX P w) 2 (He.ma K (CS K) "__init__") fd ps (spInit K) ∧ Binds K fd ps [] := by
  have O_renumbered : Ok P w K mg base "renumbered" 1 (spRen K) := ok_renumbered T
  have O_listed_cells : Ok P w K mg base "listed_cells" 1 (spCells K) := ok_listed_cells T
  refine fn_okX T.d_Sightu__initu_ scSightu__initu_ (fun vs H Q E h => ?_) bi_Sightu__initu_ fun cdv A outer s H vs Q E hr h => ?_
  · obtain ⟨x, dx, a, r, rfl, _⟩ := h
    rfl
  obtain ⟨x, dx, a, r, rfl, hx, hm, h1, h2⟩ := h
  obtain ⟨e1, e2, e3, e4⟩ := T.e_NoDeals
  refine ⟨_, (pss_cons (ps_set (i := 2) scSightu__initu_.nd rfl (by first | exact Or.inl rfl | exact Or.inr rfl) (pe_c (E := EN) O_renumbered hr (by decide) (fun σ => passN σ) (pa_cons (pv 1) pa_nil)))
  (pss_cons (ps_if (pt_cmpR op_eq (pe_callB (lenK K) (by rfl) T.f_len boot_len (pa_cons (pv 2) pa_nil)) pe_int (nomark _))
  (pss_one (ps_raise rfl (takes_of rfl rfl rfl rfl) (pmk_own0 PySem.F.excBase_ValueError e1 T.g_NoDeals e2 (raises_own e3 e4) (by rfl))))
  pss_nil)
  (pss_cons (ps_fld (pv 0) (pe_callB (lenK K) (by rfl) T.f_len boot_len (pa_cons (pv 2) pa_nil)) rfl)
  (pss_cons (ps_fld (pv 0) (pv 2) rfl)
  (pss_one (ps_fld (pv 0) (pe_c (E := EN) O_listed_cells hr (by decide) (fun σ => passN σ) (pa_cons (pv 2) pa_nil)) rfl)))))), ?_⟩
  refine ⟨_, rfl, ?_⟩
  show spRen K [V.ref a] H _ _
  refine hm.sp fun H1 t s1 nt ht => ?_
  refine ⟨_, rfl, t, _, rfl, .inr (.inl (.inl ht)), rfl, _, rfl, ?_⟩
  by_cases e : r.length = 0
  · have z : decide (V.int ((nV r).length : Nat) = V.int 0) = true := by rw [nV_len, e]; simp
    rw [z]
    exact iteT (h2 e H1 s1)
  · have z : decide (V.int ((nV r).length : Nat) = V.int 0) = false := by
      have n : ¬ V.int ((nV r).length : Nat) = V.int 0 := fun z => e (by have := V.int.inj z; rw [nV_len] at this; omega)
      exact decide_eq_false n
    rw [z]
    refine iteF ?_
    have x1 := s1 _ _ hx
    have tx : t ≠ x := fun z => by rw [z, hx] at nt; cases nt
    refine ⟨_, rfl, t, _, rfl, .inr (.inl (.inl ht)), _, rfl, x, _, dx, _, rfl, x1, T.c_Sight, T.n_size, by show 0 < 1000; decide, ?_⟩
    refine ⟨_, rfl, _, rfl, x, _, dx, _, rfl, upd_same .., T.c_Sight, T.n_marks, by show 1 < 1000; decide, ?_⟩
    have t2 : ∀ o o', upd (upd H1 x o) x o' t = some (.tup (nV r)) := fun o o' => by rw [upd_ne tx, upd_ne tx]; exact ht
    refine ⟨_, rfl, t, r, rfl, .inl (.inl (t2 _ _)), hm.few.1, hm.few.2, by omega, fun H2 c s2 nc hc => ?_⟩
    refine ⟨_, rfl, x, _, dx, _, rfl, s2 _ _ (upd_same ..), T.c_Sight, T.n_cells, by show 2 < 1000; decide, ?_⟩
    rw [nV_len]
    have keep : ∀ b o, b ≠ x → upd (upd H1 x (.ins (CS K) dx (putF "size" (.int ((nV r).length : Nat)) []))) x (.ins (CS K) dx (putF "marks" (.ref t) (putF "size" (.int ((nV r).length : Nat)) []))) b = some o → H2 b = some o := fun b o _ q => s2 _ _ q
    have ne : ∀ {b : Addr} {xs : List V}, H2 b = some (.tup xs) → b ≠ x := fun {b xs} q z => by
      rw [z, s2 _ _ (upd_same ..)] at q
      cases q
    have t3 := s2 _ _ (t2 (.ins (CS K) dx (putF "size" (.int ((nV r).length : Nat)) [])) (.ins (CS K) dx (putF "marks" (.ref t) (putF "size" (.int ((nV r).length : Nat)) []))))
    refine h1 (by omega) _ (fun b o hb q => ?_) ⟨t, c, upd_same .., by rw [upd_ne tx]; exact t3, ?_⟩
    · rw [upd_ne hb]
      exact s2 _ _ (by rw [upd_ne hb, upd_ne hb]; exact s1 _ _ q)
    · obtain ⟨ts, c1, c2⟩ := hc
      exact ⟨ts, by rw [upd_ne (ne c1)]; exact c1, pimp (fun t c _ z => by rw [upd_ne (ne z)]; exact z) c2⟩
theorem cok (T : Tx K mg) : COk P w K mg base "Sight" 2 (spInit K) := ⟨fn_init T, T.k_Sight, T.g_Sight⟩
/-- what Sight(marks) asks -/
theorem make_run {t : TA} {E : L2.St → XK} {σ : L2.St} {H : Hp} {Q : VK} (h : t σ H fun vs H1 => ∃ a r, vs = [.ref a] ∧ MarksAt K H1 a r ∧ (0 < r.length → ∀ H' p, Same H1 H' → H1 p = none → SightAt K H' p r → Q (.ref p) H') ∧ (r.length = 0 → ∀ H', Same H1 H' → E σ (.ref (ND K)) none H'))
    (mono : ∀ σ H Q Q', (∀ vs H1, Q vs H1 → Q' vs H1) → t σ H Q → t σ H Q') : tMakeS (CS K) (spInit K) E t σ H Q := by
  refine mono σ H _ _ (fun vs H1 z => ?_) h
  obtain ⟨a, r, rfl, hm, h1, h2⟩ := z
  intro x dx nx nd ne
  have xx : upd (upd H1 dx (.own x)) x (.ins (CS K) dx []) x = some (.ins (CS K) dx []) := upd_same ..
  have s0 : Same H1 (upd (upd H1 dx (.own x)) x (.ins (CS K) dx [])) := fun b o q => by
    rw [upd_ne (fun z => by rw [z, nx] at q; cases q), upd_ne (fun z => by rw [z, nd] at q; cases q)]
    exact q
  refine ⟨x, dx, a, r, rfl, xx, hm.same s0, fun hp H' k ⟨t, c, g1, g2, g3⟩ => ⟨rfl, h1 hp H' x (fun b o q => k b o (fun z => by rw [z, nx] at q; cases q) (s0 _ _ q)) nx ⟨⟨dx, t, c, g1, g2, g3⟩, hm.few.2, hp, hm.few.1⟩⟩, fun e H' s1 => h2 e H' (fun b o q => s1 _ _ (s0 _ _ q))⟩
end
end K01
set_option Elab.async false
set_option linter.all false
set_option maxRecDepth 100000
set_option maxHeartbeats 2000000
/-! Ms: tables of sets with any power of two of places: the runs reach every place. -/
namespace Ms
open PySem PySem.Spec PyProof.Rows L2
/-- 1 + 5 + 25 + .. (n members) -/
def geo : Nat → Nat
  | 0 => 0
  | n + 1 => 5 * geo n + 1
theorem geo_par : ∀ n, geo n % 2 = n % 2
  | 0 => rfl
  | n + 1 => by
    have := geo_par n
    show (5 * geo n + 1) % 2 = (n + 1) % 2
    omega
theorem geo_add (a : Nat) : ∀ b, geo (a + b) = 4 * (geo a * geo b) + geo a + geo b
  | 0 => by
    show geo a = 4 * (geo a * 0) + geo a + 0
    omega
  | b + 1 => by
    have ih := geo_add a b
    have e : geo (a + (b + 1)) = 5 * geo (a + b) + 1 := rfl
    have e2 : geo (b + 1) = 5 * geo b + 1 := rfl
    have e3 : geo a * (5 * geo b + 1) = 5 * (geo a * geo b) + geo a := by
      rw [Nat.mul_add, Nat.mul_one, Nat.mul_left_comm]
    rw [e, e2, e3, ih]
    omega
theorem geo_two (d : Nat) : geo (d + d) = 2 * (geo d * (2 * geo d + 1)) := by
  have e := geo_add d d
  have e3 : geo d * (2 * geo d + 1) = 2 * (geo d * geo d) + geo d := by
    rw [Nat.mul_add, Nat.mul_one, Nat.mul_left_comm]
  rw [e, e3]
  omega
theorem odd_cancel {k x y : Nat} (hy : y % 2 = 1) (h : 2 ^ k ∣ x * y) : 2 ^ k ∣ x := by
  have c : Nat.Coprime (2 ^ k) y := by
    refine Nat.Coprime.pow_left k ?_
    show Nat.gcd 2 y = 1
    rw [Nat.gcd_rec, hy] <;> rfl
  exact c.dvd_of_dvd_mul_right h
theorem geo_dvd : ∀ k d, 2 ^ k ∣ geo d → 2 ^ k ∣ d
  | 0, d, _ => ⟨d, by simp⟩
  | k + 1, d, h => by
    have p := geo_par d
    have h2 : 2 ∣ geo d := Nat.dvd_trans ⟨2 ^ k, by rw [Nat.pow_succ, Nat.mul_comm]⟩ h
    obtain ⟨q, hq⟩ := h2
    obtain ⟨e, rfl⟩ : ∃ e, d = e + e := ⟨d / 2, by omega⟩
    rw [geo_two, Nat.pow_succ, Nat.mul_comm (2 ^ k) 2] at h
    have h3 : 2 ^ k ∣ geo e * (2 * geo e + 1) := Nat.dvd_of_mul_dvd_mul_left (by decide) h
    obtain ⟨c, hc⟩ := geo_dvd k e (odd_cancel (by omega) h3)
    refine ⟨c, ?_⟩
    rw [Nat.pow_succ, hc]
    rw [Nat.mul_assoc, Nat.mul_comm 2 c, ← Nat.mul_assoc]
    omega
theorem lcg_geo (m x : Nat) : ∀ n, lcgI m x n % (m + 1) = (4 * (geo n * x) + x + geo n) % (m + 1)
  | 0 => by
    show x % (m + 1) = (4 * (0 * x) + x + 0) % (m + 1)
    rw [Nat.zero_mul] <;> simp
  | n + 1 => by
    have ih := lcg_geo m x n
    show ((lcgI m x n * 5 + 1) % (m + 1)) % (m + 1) = _
    rw [Nat.mod_mod, Nat.add_mod, Nat.mul_mod, ih, ← Nat.mul_mod, ← Nat.add_mod]
    congr 1
    have e : geo (n + 1) = 5 * geo n + 1 := rfl
    have e3 : (5 * geo n + 1) * x = 5 * (geo n * x) + x := by
      rw [Nat.add_mul, Nat.one_mul, Nat.mul_assoc]
    rw [e, e3]
    omega
theorem lcg_from (m x : Nat) (a : Nat) : ∀ k, lcgI m x (a + k) = lcgI m (lcgI m x a) k
  | 0 => rfl
  | k + 1 => by
    show (lcgI m x (a + k) * 5 + 1) % (m + 1) = (lcgI m (lcgI m x a) k * 5 + 1) % (m + 1)
    rw [lcg_from m x a k]
theorem lcg_in {m x : Nat} (h : x ≤ m) : ∀ n, lcgI m x n ≤ m
  | 0 => h
  | n + 1 => Nat.le_of_lt_succ (Nat.mod_lt _ (Nat.succ_pos m))
theorem lcg_back {k m x d : Nat} (hm : m + 1 = 2 ^ k) (hx : x ≤ m) (h : lcgI m x d = x) : 2 ^ k ∣ d := by
  have e := lcg_geo m x d
  rw [h] at e
  have e1 : (4 * (geo d * x) + x + geo d) % (m + 1) = x % (m + 1) := e.symm
  have e2 : 4 * (geo d * x) + x + geo d = x + geo d * (4 * x + 1) := by
    have : geo d * (4 * x + 1) = 4 * (geo d * x) + geo d := by
      rw [Nat.mul_add, Nat.mul_one, Nat.mul_left_comm]
    omega
  rw [e2] at e1
  have e3 : (m + 1) ∣ geo d * (4 * x + 1) := by
    have z := Nat.sub_mod_eq_zero_of_mod_eq e1
    rw [Nat.add_sub_cancel_left] at z
    exact Nat.dvd_of_mod_eq_zero z
  rw [hm] at e3
  exact geo_dvd k d (odd_cancel (by omega) e3)
/-- from any place, every place is reached within a round -/
theorem lcg_round2 {k m x j : Nat} (hm : m + 1 = 2 ^ k) (hx : x ≤ m) (hj : j ≤ m) : ∃ n, n ≤ m ∧ lcgI m x n = j := by
  let l := (List.range (m + 1)).map (lcgI m x)
  have ll : l.length = m + 1 := by rw [List.length_map, List.length_range]
  have nd : l.Nodup := by
    rw [List.nodup_iff_pairwise_ne, List.pairwise_iff_getElem]
    intro a b ha hb hab e
    rw [ll] at ha hb
    have ea : l[a] = lcgI m x a := by simp [l]
    have eb : l[b] = lcgI m x b := by simp [l]
    rw [ea, eb] at e
    have eq : lcgI m (lcgI m x a) (b - a) = lcgI m x a := by
      rw [← lcg_from, show a + (b - a) = b by omega]
      exact e.symm
    obtain ⟨c, hc⟩ := lcg_back hm (lcg_in hx a) eq
    have : 1 ≤ c := by
      rcases c with _ | c
      · rw [Nat.mul_zero] at hc
        omega
      · omega
    have := Nat.le_mul_of_pos_right (2 ^ k) (show 0 < c by omega)
    omega
  by_cases mem : j ∈ l
  · obtain ⟨n, hn, e⟩ := List.mem_map.mp mem
    exact ⟨n, Nat.le_of_lt_succ (List.mem_range.mp hn), e⟩
  · have := nat_nodup_len (j :: l) (List.range (m + 1)) (List.nodup_cons.mpr ⟨mem, nd⟩) fun y hy => by
      rw [List.mem_range]
      rcases List.mem_cons.mp hy with e | e
      · omega
      · obtain ⟨n, hn, e⟩ := List.mem_map.mp e
        rw [← e]
        exact Nat.lt_succ_of_le (lcg_in hx n)
    rw [List.length_cons, ll, List.length_range] at this
    omega
/-- a mask whose runs reach every place -/
structure WideM (m : Nat) : Prop where
  odd : m % 2 = 1
  runs : ∀ (h : Int) (j : Nat), j ≤ m → ∃ n, n ≤ m + 12 ∧ runI m (SetTable.bits h) n = j
theorem wideM {k m : Nat} (hk : 0 < k) (hm : m + 1 = 2 ^ k) : WideM m := by
  refine ⟨?_, fun h j hj => ?_⟩
  · obtain ⟨k, rfl⟩ : ∃ i, k = i + 1 := ⟨k - 1, by omega⟩
    rw [Nat.pow_succ] at hm
    omega
  · obtain ⟨n, hn, e⟩ := lcg_round2 hm (runI_le m (SetTable.bits h) 12) hj
    exact ⟨12 + n, by omega, (runI_tail (bits_lt h) n).trans e⟩
/-- every place is met on the way of a search, soon enough -/
theorem WideM.way {m : Nat} (w : WideM m) (h : Int) {j : Nat} (hj : j ≤ m) : ∃ k, k < 10 * SetTable.turns m ∧ L2.way m h k = j := by
  obtain ⟨n, hn, e⟩ := w.runs h j hj
  obtain ⟨k, hk, e2⟩ := run_nth m (SetTable.bits h) n
  have lt : 10 * n < 10 * SetTable.turns m := by
    unfold SetTable.turns
    omega
  exact ⟨k, Nat.lt_of_le_of_lt hk lt, (congrArg SetTable.Probe.j e2).trans e⟩
end Ms
set_option Elab.async false
set_option linter.all false
set_option maxRecDepth 100000
set_option maxHeartbeats 2000000
/-! Ms: the table of a set, of any size: what is put in is found again; laying it anew. -/
namespace Ms
open PySem PySem.Spec PyProof.Rows L2
/-- the places that hold something, in the order of the places, and the hashes of what they hold -/
structure Tab (t : SetTable) (hs : List Int) : Prop where
  rs : Ris t.place.toList
  nod : t.dummies = #[]
  size : t.place.size = hs.length
  wide : WideM t.mask
  inn : ∀ x ∈ t.place.toList, x ≤ t.mask
  met : ∀ (i : Nat) (g : Int) (j : Nat), hs[i]? = some g → t.place.toList[i]? = some j → ∃ n, way t.mask g n = j ∧ ∀ n', n' < n → way t.mask g n' ∈ t.place.toList
theorem way_in (m : Nat) (g : Int) (n : Nat) : way m g n ≤ m := by
  have b0 : SetTable.bits g % (m + 1) ≤ m := Nat.le_of_lt_succ (Nat.mod_lt _ (Nat.succ_pos m))
  have b1 := (runEnd_bd b0).1
  have b2 := (runEnd_bd b0).2.1
  have s0 : (runAt m (SetTable.bits g % (m + 1)) (SetTable.bits g)).j + (runAt m (SetTable.bits g % (m + 1)) (SetTable.bits g)).more ≤ m := by
    show SetTable.bits g % (m + 1) + (SetTable.runEnd m (SetTable.bits g % (m + 1)) - SetTable.bits g % (m + 1)) ≤ m
    omega
  exact Nat.le_trans (Nat.le_add_right _ _) (nth_in n _ s0)
section
variable {t : SetTable} {hs : List Int}
theorem Tab.plen (T : Tab t hs) : t.place.toList.length = hs.length := Array.length_toList.trans T.size
/-- a search ends at a place that holds nothing, and not before -/
theorem Tab.ends (T : Tab t hs) (few : hs.length ≤ t.mask) (g : Int) : ∃ N, N < 10 * SetTable.turns t.mask ∧ (¬ way t.mask g N ∈ t.place.toList) ∧ ∀ n, n < N → way t.mask g n ∈ t.place.toList := by
  obtain ⟨j, jl, jn⟩ := st_missing t.place.toList (t.mask + 1) (by rw [T.plen]; omega)
  obtain ⟨n, nl, e⟩ := T.wide.way g (Nat.le_of_lt_succ jl)
  obtain ⟨N, l1, l2, l3⟩ := st_least (p := fun n => ¬ way t.mask g n ∈ t.place.toList) n (fun z => jn (e ▸ z))
  exact ⟨N, by omega, l2, fun n' h => Classical.not_not.mp (l3 n' h)⟩
/-- .. and what has this hash is met before -/
theorem Tab.sooner (T : Tab t hs) {g : Int} {N i j : Nat} (hN : ¬ way t.mask g N ∈ t.place.toList) (hi : hs[i]? = some g) (hj : t.place.toList[i]? = some j) : ∃ n, n < N ∧ way t.mask g n = j := by
  obtain ⟨n, e, all⟩ := T.met i g j hi hj
  have m : j ∈ t.place.toList := List.mem_of_getElem? hj
  refine ⟨n, Nat.lt_of_not_le fun le => ?_, e⟩
  rcases Nat.lt_or_eq_of_le le with l | q
  · exact hN (all N l)
  · exact hN (by rw [q, e]; exact m)
/-- one more in the table, at the end of its search -/
theorem Tab.more (T : Tab t hs) {g : Int} {N : Nat} (hN : ¬ way t.mask g N ∈ t.place.toList) (all : ∀ n, n < N → way t.mask g n ∈ t.place.toList) :
    ∃ t2 p, t.put (way t.mask g N) = (t2, p) ∧ p ≤ hs.length ∧ Tab t2 (hs.take p ++ g :: hs.drop p) ∧ t2.mask = t.mask ∧ t2.led = t.led ∧ t2.plain = t.plain ∧ t2.fill = hs.length + 1 := by
  have win := way_in t.mask g N
  generalize ew : way t.mask g N = j at hN win
  have cut := (below_cut T.rs j).1
  have pl : SetTable.below t.place j ≤ hs.length := by rw [← T.size]; exact cut
  have np : t.place[SetTable.below t.place j]? ≠ some j := fun e => hN (List.mem_of_getElem? (Array.getElem?_toList ▸ e))
  have tl := put_place t j
  have dm := put_dm T.nod j
  refine ⟨(t.put j).1, SetTable.below t.place j, rfl, pl, ?_, rfl, rfl, rfl, ?_⟩
  · generalize hp : SetTable.below t.place j = p at tl pl np
    have pl2 : p ≤ t.place.toList.length := by rw [T.plen]; exact pl
    have sub : ∀ x, x ∈ t.place.toList → x ∈ (t.put j).1.place.toList := fun x hx => by rw [tl]; exact mem_ins.mpr (.inr hx)
    have mk : (t.put j).1.mask = t.mask := rfl
    refine ⟨ris_insert T.rs (by rw [hp]; exact np), dm, ?_, T.wide, ?_, ?_⟩
    · rw [← Array.length_toList, tl, len_ins _ pl2, len_ins _ pl, T.plen]
    · intro x hx
      rw [tl] at hx
      exact (mem_ins.mp hx).elim (fun e => e ▸ win) (T.inn x)
    · intro i g' j' h1 h2
      rw [tins_get _ pl] at h1
      rw [tl, tins_get _ pl2] at h2
      rw [mk]
      have old : ∀ i', hs[i']? = some g' → t.place.toList[i']? = some j' → ∃ n, way t.mask g' n = j' ∧ ∀ n', n' < n → way t.mask g' n' ∈ (t.put j).1.place.toList := fun i' a b => by
        obtain ⟨n, e, f⟩ := T.met i' g' j' a b
        exact ⟨n, e, fun n' l => sub _ (f n' l)⟩
      by_cases lt : i < p
      · rw [if_pos lt] at h1 h2
        exact old i h1 h2
      rw [if_neg lt] at h1 h2
      by_cases eq : i = p
      · rw [if_pos eq] at h1 h2
        cases h1
        cases h2
        exact ⟨N, ew, fun n l => sub _ (all n l)⟩
      rw [if_neg eq] at h1 h2
      exact old (i - 1) h1 h2
  · show (t.put j).1.place.size + (t.put j).1.dummies.size = _
    rw [dm, ← Array.length_toList, tl, len_ins _ (by rw [T.plen]; exact pl), T.plen] <;> rfl
end
/-! ### laying the table anew -/
/-- the next one finds its place -/
theorem own_next {m : Nat} (wd : WideM m) {done : List Int} {ow : Array (Option Nat)} (O : Own m done ow) (few : done.length ≤ m) (g : Int) :
    ∃ j, stepF m (some (ow, done.length)) g = some (ow.setIfInBounds j (some done.length), (done ++ [g]).length) ∧ Own m (done ++ [g]) (ow.setIfInBounds j (some done.length)) := by
  obtain ⟨taken, tl, tin⟩ := O.ps
  obtain ⟨j0, l0, n0⟩ := st_missing taken (m + 1) (by omega)
  have free0 : oAt ow j0 = none := Classical.byContradiction fun c => n0 (tin j0 (Nat.le_of_lt_succ l0) c)
  -- the first free place of the way
  obtain ⟨n, nl, er⟩ := wd.runs g j0 (Nat.le_of_lt_succ l0)
  have reach : way m g (off m (SetTable.bits g % (m + 1)) (SetTable.bits g) n) = j0 := by
    have e := nth_off m n (SetTable.bits g % (m + 1)) (SetTable.bits g)
    rw [itL_run] at e
    exact (congrArg SetTable.Probe.j e).trans er
  obtain ⟨N, a1, a2, a3⟩ := st_least (p := fun k => oAt ow (way m g k) = none) _ (show oAt ow (way m g (off m (SetTable.bits g % (m + 1)) (SetTable.bits g) n)) = none by rw [reach]; exact free0)
  have fr : SetTable.layClean.free m ow (SetTable.turns m) (SetTable.bits g % (m + 1)) (SetTable.bits g) = some (way m g N) := by
    refine free_spec m ow _ n _ _ N ?_ a1 ?_ ?_
    · unfold SetTable.turns
      omega
    · intro k hk
      have := a3 k hk
      cases z : oAt ow (way m g k) with
      | none => exact absurd z this
      | some v => rfl
    · exact congrArg Option.isNone (show oAt ow (way m g N) = none from a2)
  have win := way_in m g N
  refine ⟨way m g N, ?_, ?_⟩
  · rw [stepF_some fr, List.length_append] <;> rfl
  generalize ew : way m g N = j at a2 win
  have inb : j < ow.size := by rw [O.sz]; omega
  have self := oAt_set_self (some done.length) inb
  have same : ∀ {i : Nat}, i ≠ j → oAt (ow.setIfInBounds j (some done.length)) i = oAt ow i := fun ne => oAt_set_ne _ ne
  have keep : ∀ {i : Nat}, oAt ow i ≠ none → oAt (ow.setIfInBounds j (some done.length)) i ≠ none := fun {i} h => by
    by_cases e : i = j
    · subst e
      rw [self]
      exact Option.some_ne_none _
    · rw [same e]
      exact h
  constructor
  · rw [Array.size_setIfInBounds]
    exact O.sz
  · intro i k hi e
    by_cases eq : i = j
    · subst eq
      rw [self] at e
      cases e
      exact ⟨g, N, List.getElem?_concat_length, ew, fun n' l => keep (a3 n' l)⟩
    · rw [same eq] at e
      obtain ⟨g', n', b1, b2, b3⟩ := O.at_ i k hi e
      have lk := (List.getElem?_eq_some_iff.mp b1).1
      exact ⟨g', n', (List.getElem?_append_left lk).trans b1, b2, fun x l => keep (b3 x l)⟩
  · intro k hk
    rw [List.length_append] at hk
    rcases Nat.lt_or_ge k done.length with l | l
    · obtain ⟨i, b1, b2⟩ := O.all k l
      refine ⟨i, b1, (same fun e => ?_).trans b2⟩
      rw [e, a2] at b2
      cases b2
    · have : k = done.length := Nat.le_antisymm (Nat.le_of_lt_succ hk) l
      subst this
      exact ⟨j, win, self⟩
  · refine ⟨j :: taken, ?_, fun i hi h => ?_⟩
    · rw [List.length_cons, List.length_append, tl] <;> rfl
    · by_cases eq : i = j
      · exact eq ▸ List.mem_cons_self
      · exact List.mem_cons_of_mem _ (tin i hi (by rw [← same eq]; exact h))
theorem own_all {m : Nat} (wd : WideM m) : ∀ (todo done : List Int) (ow : Array (Option Nat)), Own m done ow → (done ++ todo).length ≤ m →
    ∃ ow2, todo.foldl (stepF m) (some (ow, done.length)) = some (ow2, (done ++ todo).length) ∧ Own m (done ++ todo) ow2
  | [], done, ow, O, _ => by
    rw [List.append_nil]
    exact ⟨ow, rfl, O⟩
  | g :: todo, done, ow, O, few => by
    have dl : done.length ≤ m := Nat.le_trans (by rw [List.length_append]; exact Nat.le_add_right ..) few
    obtain ⟨j, e, O2⟩ := own_next wd O dl g
    have ea : done ++ g :: todo = done ++ [g] ++ todo := (List.append_cons ..)
    rw [ea] at few ⊢
    obtain ⟨ow2, f, O3⟩ := own_all wd todo _ _ O2 few
    exact ⟨ow2, (by rw [List.foldl_cons, e]; exact f), O3⟩
theorem own_clean {m : Nat} (wd : WideM m) {hs : Array Int} (few : hs.size ≤ m) : ∃ ow, SetTable.layClean m hs = some ow ∧ Own m hs.toList ow := by
  obtain ⟨ow, f, O⟩ := own_all wd hs.toList [] _ (Own.init m) (by rw [List.nil_append, Array.length_toList]; exact few)
  rw [List.nil_append] at O
  refine ⟨ow, ?_, O⟩
  rw [layClean_eq]
  exact congrArg (Option.map (·.1)) f
/-- the table after it was laid anew: the same hashes in another order, each found again -/
theorem relaid_tab (t : SetTable) {hs : Array Int} {wanted M : Nat} (hw : SetTable.sizeAbove wanted - 1 = M) (wd : WideM M) (few : hs.size ≤ M) :
    ∃ t2 order, t.relaid hs wanted = some (t2, order) ∧ order.toList.Perm (List.range hs.size) ∧ Tab t2 (order.toList.map fun i => hs.getD i 0) ∧ t2.mask = M ∧ t2.led = t.led ∧ t2.plain = t.plain := by
  obtain ⟨ow, e, O⟩ := own_clean wd few
  have live := @mem_live M ow O.sz
  obtain ⟨up, inr⟩ := ris_live (fun j => ow.getD j none) (List.range (M + 1)) (by unfold Ris; exact List.pairwise_lt_range)
  have up : Ris ((liveOf M ow).map (·.1)) := up
  have inr : ∀ x ∈ (liveOf M ow).map (·.1), x ∈ List.range (M + 1) := inr
  have each : ∀ k, k < hs.size → k ∈ (liveOf M ow).map (·.2) := fun k hk => by
    obtain ⟨j, a, b⟩ := O.all k (by rw [Array.length_toList]; exact hk)
    exact List.mem_map.mpr ⟨(j, k), live.mpr ⟨a, b⟩, rfl⟩
  have count : (liveOf M ow).length = hs.size := by
    refine Nat.le_antisymm ?_ ?_
    · obtain ⟨taken, tl, tin⟩ := O.ps
      have nd : ((liveOf M ow).map (·.1)).Nodup := List.Pairwise.imp (fun h => Nat.ne_of_lt h) up
      have := nat_nodup_len _ taken nd fun x hx => by
        obtain ⟨⟨y, k⟩, hq, rfl⟩ := List.mem_map.mp hx
        have := live.mp hq
        exact tin y this.1 (by rw [this.2]; exact Option.some_ne_none _)
      rw [List.length_map, tl] at this
      exact this
    · have := nat_nodup_len (List.range hs.size) _ List.nodup_range fun k hk => each k (List.mem_range.mp hk)
      rw [List.length_range, List.length_map] at this
      exact this
  refine ⟨tabOf t M ow, ((liveOf M ow).map (·.2)).toArray, by rw [relaid_eq, hw, e] <;> rfl, perm_range _ _ (by rw [List.length_map]; exact count) each, ?_, rfl, rfl, rfl⟩
  refine ⟨up, rfl, ?_, wd, fun x hx => Nat.le_of_lt_succ (List.mem_range.mp (inr x hx)), fun i g j h1 h2 => ?_⟩
  · show ((liveOf M ow).map (·.1)).toArray.size = (((liveOf M ow).map (·.2)).map _).length
    rw [List.size_toArray, List.length_map, List.length_map, List.length_map]
  · have h1 : (((liveOf M ow).map (·.2)).map fun i => hs.getD i 0)[i]? = some g := h1
    have h2 : ((liveOf M ow).map (·.1))[i]? = some j := h2
    simp only [List.getElem?_map] at h1 h2
    cases q : (liveOf M ow)[i]? with
    | none => rw [q] at h2; cases h2
    | some p =>
      rw [q] at h1 h2
      cases h1
      cases h2
      have mem := List.mem_of_getElem? q
      obtain ⟨a, b⟩ := live.mp mem
      obtain ⟨g, n, c1, c2, c3⟩ := O.at_ p.1 p.2 a b
      have eg : hs.getD p.2 0 = g := by
        rw [Array.getElem?_toList] at c1
        rw [Array.getD_eq_getD_getElem?, c1] <;> rfl
      show ∃ n, way M (hs.getD p.2 0) n = p.1 ∧ ∀ n', n' < n → way M (hs.getD p.2 0) n' ∈ (liveOf M ow).map (·.1)
      rw [eg]
      refine ⟨n, c2, fun n' l => ?_⟩
      show way M g n' ∈ (liveOf M ow).map (·.1)
      cases z : oAt ow (way M g n') with
      | none => exact absurd z (c3 n' l)
      | some k => exact List.mem_map.mpr ⟨(way M g n', k), live.mpr ⟨way_in M g n', z⟩, rfl⟩
end Ms
set_option Elab.async false
set_option linter.all false
set_option maxRecDepth 100000
set_option maxHeartbeats 4000000
/-! Ms: a set of tuples of ints, of any size below 4000: search, growth, adding. -/
namespace Ms
open PySem PySem.Spec PyProof.Rows L2
/-- the masks that a set grows through -/
def Pow (m : Nat) : Prop := m = 7 ∨ m = 31 ∨ m = 127 ∨ m = 511 ∨ m = 2047 ∨ m = 8191
theorem Pow.wide {m : Nat} (h : Pow m) : WideM m := by
  rcases h with e | e | e | e | e | e <;> subst e
  · exact wideM (k := 3) (by decide) (by decide)
  · exact wideM (k := 5) (by decide) (by decide)
  · exact wideM (k := 7) (by decide) (by decide)
  · exact wideM (k := 9) (by decide) (by decide)
  · exact wideM (k := 11) (by decide) (by decide)
  · exact wideM (k := 13) (by decide) (by decide)
theorem Pow.le {m : Nat} (h : Pow m) : m ≤ 8191 := by
  rcases h with e | e | e | e | e | e <;> omega
theorem grow_a : SetTable.sizeAbove (SetTable.grown 77) = 512 := by decide +kernel
theorem grow_b : SetTable.sizeAbove (SetTable.grown 307) = 2048 := by decide +kernel
theorem grow_c : SetTable.sizeAbove (SetTable.grown 1229) = 8192 := by decide +kernel
/-- when it is too full, the next size -/
theorem Pow.next {m n : Nat} (h : Pow m) (r : n * 5 < m * 3) (f : (n + 1) * 5 ≥ m * 3) (few : n < 4000) : ∃ M, SetTable.sizeAbove (SetTable.grown (n + 1)) = M + 1 ∧ Pow M ∧ (n + 1) * 5 < M * 3 := by
  rcases h with e | e | e | e | e | e <;> subst e
  · obtain rfl : n = 4 := by omega
    exact ⟨31, size_20, by unfold Pow; omega, by omega⟩
  · obtain rfl : n = 18 := by omega
    exact ⟨127, size_76, by unfold Pow; omega, by omega⟩
  · obtain rfl : n = 76 := by omega
    exact ⟨511, grow_a, by unfold Pow; omega, by omega⟩
  · obtain rfl : n = 306 := by omega
    exact ⟨2047, grow_b, by unfold Pow; omega, by omega⟩
  · obtain rfl : n = 1228 := by omega
    exact ⟨8191, grow_c, by unfold Pow; omega, by omega⟩
  · omega
theorem nth_dummy (m : Nat) : ∀ (n : Nat) (p : SetTable.Probe), (nth m p n).dummy = p.dummy
  | 0, _ => rfl
  | n + 1, p => (nth_dummy m n (adv m p)).trans (by unfold adv; split <;> rfl)
section
variable {P : Program} {w : World}
/-- the hashes of the rows -/
def hsOf (P : Program) (w : World) (L : List (Addr × List Int)) : List Int := L.map fun p => thash P w p.2
theorem hs_len (L : List (Addr × List Int)) : (hsOf P w L).length = L.length := List.length_map _
structure SetW (P : Program) (w : World) (h : Heap) (a : Addr) (L : List (Addr × List Int)) (es : Array (Int × Value)) (ep : Nat) (t : SetTable) : Prop where
  ob : ∃ o, h.get? a = some o ∧ o.ExactSet ∧ o.data = .set es ep t
  rows : es.toList = rowsOf P w L
  tab : Tab t (hsOf P w L)
  pow : Pow t.mask
  nd : (L.map (·.2)).Nodup
  tup : ∀ p ∈ L, IsT P w h p.2 p.1
  pl : t.plain = true
  led : w.params.followText "set-order" = true ∨ t.led = true
  room : L.length * 5 < t.mask * 3
variable {A : Around} {E : Value → Shared → Prop} {s : Shared} {a : Addr} {L : List (Addr × List Int)} {es : Array (Int × Value)} {ep : Nat} {t : SetTable}
theorem rows_size (h : es.toList = rowsOf P w L) : es.size = L.length := by
  rw [← Array.length_toList, h]
  exact List.length_map _
theorem fits_of {n : Nat} (h1 : t.place.size = n) (h2 : t.dummies = #[]) (h3 : n ≤ t.mask) : t.fits n = true := by
  unfold SetTable.fits SetTable.fill
  rw [h2, h1]
  simp only [Bool.and_eq_true, beq_iff_eq, decide_eq_true_eq]
  exact ⟨trivial, h3⟩
theorem SetW.fits (R : SetW P w s.heap a L es ep t) : t.fits es.size = true := by
  have e := rows_size R.rows
  have r := R.room
  exact fits_of (by rw [R.tab.size, hs_len, e]) R.tab.nod (by omega)
theorem rows_at (h : es.toList = rowsOf P w L) {i : Nat} {p : Addr × List Int} (hp : L[i]? = some p) : es[i]? = some (thash P w p.2, Value.ref p.1) := by
  have e : (rowsOf P w L)[i]? = some (thash P w p.2, Value.ref p.1) := by
    show (L.map _)[i]? = _
    rw [List.getElem?_map, hp] <;> rfl
  rw [← h, Array.getElem?_toList] at e
  exact e
theorem SetW.gave (R : SetW P w s.heap a L es ep t) : ¬ t.gaveWay = true := by
  unfold SetTable.gaveWay
  rw [R.pow.wide.odd]
  decide
theorem SetW.idx (R : SetW P w s.heap a L es ep t) {i j : Nat} (h : t.place.toList[i]? = some j) : ∃ p, L[i]? = some p := by
  have l := (List.getElem?_eq_some_iff.mp h).1
  rw [R.tab.plen, hs_len] at l
  exact ⟨L[i], List.getElem?_eq_getElem l⟩
/-- from the c-th step of the way on, r steps before its end -/
theorem SetW.seek (R : SetW P w s.heap a L es ep t) {x : Addr} {k : List Int} (hx : IsT P w s.heap k x) (hu : A.units < cLine) {N : Nat} (top : N < 10 * SetTable.turns t.mask)
    (no : ¬ way t.mask (thash P w k) N ∈ t.place.toList) (yes : ∀ n, n < N → way t.mask (thash P w k) n ∈ t.place.toList) {Q : SetFound → Shared → Prop}
    (q1 : k ∈ L.map (·.2) → Q (.there none) s) (q2 : k ∉ L.map (·.2) → Q (.free (way t.mask (thash P w k) N) false) s) :
    ∀ (r c f : Nat) (stand : Option SetTable.Probe), c + r = N → r < f → stand.getD (t.probeStart (thash P w k)) = nth t.mask (t.probeStart (thash P w k)) c →
      (∀ (i : Nat) (p : Addr × List Int), L[i]? = some p → p.2 = k → ∃ n, c ≤ n ∧ n < N ∧ t.place.toList[i]? = some (way t.mask (thash P w k) n)) →
      wpAny (model P w) A (setSearchFrom a (.ref x) (thash P w k) true f stand) Q E s := by
  obtain ⟨o, ho, hex, hd⟩ := R.ob
  intro r
  induction r using Nat.strongRecOn with
  | ind r ih =>
  intro c f stand er lt st left
  obtain ⟨f, rfl⟩ : ∃ g, f = g + 1 := ⟨f - 1, by omega⟩
  rw [setSearchFrom_succ]
  refine wpAny_bind (wpAny_setState_of ho hd R.fits ?_)
  dsimp only
  refine wp_if_neg R.gave ?_
  try refine wpAny_bind (wpAny_pure ?_)
  have far : ∀ q, nth t.mask (nth t.mask (t.probeStart (thash P w k)) c) q = nth t.mask (t.probeStart (thash P w k)) (c + q) := fun q => (nth_add t.mask c _ q).symm
  have farj : ∀ q, (nth t.mask (nth t.mask (t.probeStart (thash P w k)) c) q).j = way t.mask (thash P w k) (c + q) := fun q => congrArg SetTable.Probe.j (far q)
  have ha : ∀ (i : Nat) (p : Addr × List Int), L[i]? = some p → (es[i]?.map (·.1)).getD 0 = thash P w p.2 := fun i p hp => by
    rw [rows_at R.rows hp] <;> rfl
  -- a place of the way that was passed without a candidate isn't one of k's
  have miss : ∀ q : Nat, (∀ (q' i' : Nat), q' < q → t.place.toList[i']? = some (nth t.mask (nth t.mask (t.probeStart (thash P w k)) c) q').j → (es[i']?.map (·.1)).getD 0 ≠ thash P w k) →
      ∀ (i : Nat) (p : Addr × List Int) (n : Nat), L[i]? = some p → p.2 = k → c ≤ n → t.place.toList[i]? = some (way t.mask (thash P w k) n) → c + q ≤ n := fun q h i p n hp hk hn hi => by
    refine Nat.le_of_not_lt fun l => h (n - c) i (by omega) ?_ ((ha i p hp).trans (congrArg (thash P w) hk))
    rw [farj, show c + (n - c) = n by omega]
    exact hi
  rcases go_spec t R.tab.rs R.tab.nod (fun i => (es[i]?.map (·.1)).getD 0) (thash P w k) (10 * SetTable.turns t.mask) r (nth t.mask (t.probeStart (thash P w k)) c) (nth_dummy _ _ _) (by omega)
    (fun q hq => by rw [farj]; exact yes _ (by omega)) (by rw [farj, er]; exact no) with ⟨q, i, ql, at_, hh, before, pr⟩ | ⟨before, pr⟩
  · rw [show t.probe (fun i => (es[i]?.map (·.1)).getD 0) (thash P w k) (stand.getD (t.probeStart (thash P w k))) = some (.candidate (way t.mask (thash P w k) (c + q)) i (nth t.mask (t.probeStart (thash P w k)) (c + (q + 1)))) from by
      rw [st, ← farj, ← far]; exact pr]
    dsimp only
    rw [farj] at at_
    obtain ⟨p, hp⟩ := R.idx at_
    have hpm : p ∈ L := List.mem_of_getElem? hp
    have sl : t.slot (way t.mask (thash P w k) (c + q)) = .live i := slot_live R.tab.rs at_
    have ent := rows_at R.rows hp
    have rest : wpAny (model P w) A (searchRest a (.ref x) (thash P w k) true f es t (way t.mask (thash P w k) (c + q)) i (nth t.mask (t.probeStart (thash P w k)) (c + (q + 1)))) Q E s := by
      unfold searchRest
      rw [ent]
      dsimp only
      refine wpAny_bind (wpAny_holding (wpAny_eqBool_tuple hu (R.tup p hpm) hx ?_))
      refine wpAny_bind (wpAny_setState_of ho hd R.fits ?_)
      dsimp only
      by_cases eq : p.2 = k
      · refine wp_if_pos (by simp [eq]) (wpAny_pure (q1 (List.mem_map.mpr ⟨p, hpm, eq⟩)))
      refine wp_if_neg (by simp [eq]) ?_
      try refine wpAny_bind (wpAny_pure ?_)
      rw [sameMem]
      dsimp only
      simp only [if_true, sl, ent]
      refine wpAny_bind (wpAny_isSame_ref_self (wpAny_bind (wpAny_pure ?_)))
      simp only [if_true]
      refine wp_if_neg (by simp [eq]) ?_
      refine ih (r - (q + 1)) (by omega) (c + (q + 1)) f _ (by omega) (by omega) rfl fun i2 p2 hp2 hk2 => ?_
      obtain ⟨n, n1, n2, n3⟩ := left i2 p2 hp2 hk2
      have n4 := miss q before i2 p2 n hp2 hk2 n1 n3
      refine ⟨n, ?_, n2, n3⟩
      rcases Nat.lt_or_eq_of_le n4 with l | e
      · omega
      · rw [← e] at n3
        have s2 := slot_live R.tab.rs n3
        rw [sl] at s2
        injection s2 with s2
        rw [s2, hp2] at hp
        cases hp
        exact absurd hk2 eq
    by_cases hl : t.led = true
    · refine wp_if_neg (by simp [hl]) ?_
      try refine wpAny_bind (wpAny_pure ?_)
      exact rest
    · refine wp_if_pos (by simp [hl]) ?_
      refine wpAny_bind (seen_tup hx (fun y hy => ?_) ?_)
      · obtain ⟨e, me, rfl⟩ := List.mem_map.mp hy
        have me2 : e ∈ es.toList := by
          have z : e ∈ es ∧ e.1 = thash P w k := by simpa using me
          simpa using z.1
        rw [R.rows] at me2
        obtain ⟨p2, m2, rfl⟩ := List.mem_map.mp me2
        exact ⟨p2.2, p2.1, rfl, R.tup p2 m2⟩
      · refine wp_if_neg (by decide) ?_
        try refine wpAny_bind (wpAny_pure ?_)
        exact rest
  · rw [show t.probe (fun i => (es[i]?.map (·.1)).getD 0) (thash P w k) (stand.getD (t.probeStart (thash P w k))) = some (.empty (way t.mask (thash P w k) N) none) from by
      rw [st, ← er, ← farj]; exact pr]
    dsimp only
    refine wpAny_pure (q2 fun hm => ?_)
    obtain ⟨p, hpm, hk⟩ := List.mem_map.mp hm
    obtain ⟨i, hi, rfl⟩ := List.getElem_of_mem hpm
    have hp := List.getElem?_eq_getElem hi
    obtain ⟨n, n1, n2, n3⟩ := left i _ hp hk
    have := miss r before i _ n hp hk n1 n3
    omega
/-- the search that adding makes -/
theorem SetW.search (R : SetW P w s.heap a L es ep t) {x : Addr} {k : List Int} (hx : IsT P w s.heap k x) (hu : A.units < cLine) {Q : SetFound → Shared → Prop}
    (q1 : k ∈ L.map (·.2) → Q (.there none) s)
    (q2 : ∀ N, k ∉ L.map (·.2) → ¬ way t.mask (thash P w k) N ∈ t.place.toList → (∀ n, n < N → way t.mask (thash P w k) n ∈ t.place.toList) → Q (.free (way t.mask (thash P w k) N) false) s) :
    wpAny (model P w) A (setSearch a (.ref x) (thash P w k) true) Q E s := by
  have rm := R.room
  obtain ⟨N, top, no, yes⟩ := R.tab.ends (by rw [hs_len]; omega) (thash P w k)
  have low := R.pow.le
  have small : N < 100000 := by
    unfold SetTable.turns at top
    omega
  unfold setSearch
  refine R.seek hx hu top no yes q1 (fun z => q2 N z no yes) N 0 100000 none (Nat.zero_add N) small rfl fun i p hp hk => ?_
  have hi : (hsOf P w L)[i]? = some (thash P w k) := by
    show (L.map _)[i]? = _
    rw [List.getElem?_map, hp, ← hk] <;> rfl
  have il : i < t.place.toList.length := by
    rw [R.tab.plen]
    exact (List.getElem?_eq_some_iff.mp hi).1
  have hj := List.getElem?_eq_getElem il
  obtain ⟨n, nl, e⟩ := R.tab.sooner no hi hj
  exact ⟨n, Nat.zero_le _, nl, by rw [hj, e]⟩
/-- the table laid anew -/
theorem relay_w {o : Obj} (ho : s.heap.get? a = some o) (hex : o.ExactSet) (hd : o.data = .set es ep t) (rows : es.toList = rowsOf P w L) (T : Tab t (hsOf P w L)) (nd : (L.map (·.2)).Nodup) (tup : ∀ p ∈ L, IsT P w s.heap p.2 p.1)
    (pl : t.plain = true) (led : w.params.followText "set-order" = true ∨ t.led = true) (fit : L.length ≤ t.mask) {wanted M : Nat} (size : SetTable.sizeAbove wanted = M + 1) (pow : Pow M) (room : L.length * 5 < M * 3) {Q : Unit → Shared → Prop}
    (q : ∀ h2 L2 es2 ep2 t2, Heap.SameBut a s.heap h2 → SetW P w h2 a L2 es2 ep2 t2 → L2.Perm L → Q () { s with heap := h2 }) : wpAny (model P w) A (setRelay a wanted) Q E s := by
  have sz := rows_size rows
  have low := pow.le
  obtain ⟨t2, order, e, pm, T2, m2, l2, p2⟩ := relaid_tab t (hs := es.map (·.1)) (wanted := wanted) (M := M) (by rw [size] <;> rfl) pow.wide (by rw [Array.size_map, sz]; omega)
  rw [Array.size_map, sz] at pm
  obtain ⟨L2, r1, r2, r3⟩ := order_rows L es order rows pm
  rw [← r3] at T2
  have sz2 := rows_size r1
  rw [r2.length_eq] at sz2
  rw [setRelay_eq]
  refine wpAny_bind (wpAny_setState_of ho hd (by rw [sz]; exact fits_of (by rw [T.size, hs_len]) T.nod fit) ?_)
  dsimp only
  refine wp_if_neg (by rw [sizeLine_eq, size]; omega) ?_
  try refine wpAny_bind (wpAny_pure ?_)
  rw [e]
  dsimp only
  refine wpAny_bind ?_
  refine wp_if_neg (by rw [sz2, sz]; simp) ?_
  try refine wpAny_bind (wpAny_pure ?_)
  refine wpAny_pure ?_
  dsimp only
  refine wpAny_storeSet_of ho hd ?_ (by rw [sz2, sizeLine_eq]; omega)
  have only : Heap.SameBut a s.heap (s.heap.update a (Obj.putSet (order.filterMap (es[·]?)) t2)) := Heap.SameBut.update ..
  refine q _ L2 (order.filterMap (es[·]?)) (ep + 1) t2 only ?_ r2
  exact ⟨⟨_, store_at ho hd, ⟨hex.1, hex.2.1, hex.2.2⟩, rfl⟩, r1, T2, by rw [m2]; exact pow, (r2.map (·.2)).nodup_iff.mpr nd, fun p m => isT_same (tup p (r2.mem_iff.mp m)) ho hd only, by rw [p2]; exact pl, by rw [l2]; exact led, by rw [r2.length_eq, m2]; exact room⟩
/-- adding -/
theorem SetW.add (R : SetW P w s.heap a L es ep t) {x : Addr} {k : List Int} (hx : IsT P w s.heap k x) (hu : A.units < cLine) (few : L.length < 4000) {Q : Bool → Shared → Prop}
    (q : ∀ b h2 L2 es2 ep2 t2, Heap.SameBut a s.heap h2 → SetW P w h2 a L2 es2 ep2 t2 → (k ∈ L.map (·.2) → L2 = L) → (k ∉ L.map (·.2) → L2.Perm ((x, k) :: L)) → Q b { s with heap := h2 }) :
    wpAny (model P w) A (setAddHashed a (.ref x) (thash P w k)) Q E s := by
  obtain ⟨o, ho, hex, hd⟩ := R.ob
  have sz := rows_size R.rows
  have rm := R.room
  have low := R.pow.le
  unfold setAddHashed
  refine wpAny_holding ?_
  rw [show (100000 : Nat) = 99999 + 1 from rfl, setAddHashedIn_succ]
  refine wpAny_bind (wpAny_setState_of ho hd R.fits ?_)
  dsimp only
  refine wp_if_neg (by simp [byScan, Value.scannable]) ?_
  try refine wpAny_bind (wpAny_pure ?_)
  refine wpAny_bind (R.search hx hu (fun m => ?_) fun N m no yes => ?_)
  · exact wpAny_pure (q false s.heap L es ep t (Heap.SameBut.refl a s.heap) R (fun _ => rfl) fun z => absurd m z)
  dsimp only
  refine wpAny_bind (wpAny_setState_of ho hd R.fits ?_)
  dsimp only
  obtain ⟨t1, p, e, pl, T1, m1, l1, p1, f1⟩ := R.tab.more no yes
  rw [e]
  dsimp only
  have p1 : t1.plain = true := p1.trans R.pl
  first
    | (refine wpAny_bind ?_; refine wp_if_pos p1 ?_; refine hashBy_tup hx ?_)
    | refine wp_if_pos p1 (wpAny_bind (hashBy_tup hx ?_))
  simp only [if_true]
  have rows1 : (SetTable.insertAt es p (thash P w k, Value.ref x)).toList = rowsOf P w (L.take p ++ (x, k) :: L.drop p) := by
    rw [SetTable.toList_insertAt, rows_put, R.rows]
  have pm := put_perm L p (x, k)
  have hs1 : hsOf P w (L.take p ++ (x, k) :: L.drop p) = (hsOf P w L).take p ++ thash P w k :: (hsOf P w L).drop p := by
    unfold hsOf
    rw [List.map_append, List.map_cons, List.map_take, List.map_drop]
  rw [← hs1] at T1
  generalize SetTable.insertAt es p (thash P w k, Value.ref x) = es1 at rows1 ⊢
  generalize L.take p ++ (x, k) :: L.drop p = L1 at pm T1 rows1
  have len1 : L1.length = L.length + 1 := pm.length_eq
  have sz1 := rows_size rows1
  rw [len1] at sz1
  have nd1 : (L1.map (·.2)).Nodup := (pm.map (·.2)).nodup_iff.mpr (List.nodup_cons.mpr ⟨m, R.nd⟩)
  refine wpAny_bind (wpAny_storeSet_of ho hd ?_ (by rw [sz1, sizeLine_eq]; omega))
  have only : Heap.SameBut a s.heap (s.heap.update a (Obj.putSet es1 t1)) := Heap.SameBut.update ..
  have ho1 := store_at (es' := es1) (t' := t1) ho hd
  generalize s.heap.update a (Obj.putSet es1 t1) = h1 at only ho1 ⊢
  have tup1 : ∀ p ∈ L1, IsT P w h1 p.2 p.1 := fun p mp => by
    rcases List.mem_cons.mp (pm.mem_iff.mp mp) with rfl | mp
    · exact isT_same hx ho hd only
    · exact isT_same (R.tup p mp) ho hd only
  have led1 : w.params.followText "set-order" = true ∨ t1.led = true := by rw [l1]; exact R.led
  have full : t1.tooFull = decide ((L.length + 1) * 5 ≥ t.mask * 3) := by
    unfold SetTable.tooFull
    rw [f1, m1, hs_len]
  by_cases f : (L.length + 1) * 5 ≥ t.mask * 3
  · have ft : t1.tooFull = true := by rw [full]; exact decide_eq_true f
    first
      | (refine wpAny_bind ?_; refine wp_if_pos (by simp [ft]) ?_)
      | (refine wp_if_pos (by simp [ft]) ?_; refine wpAny_bind ?_)
    rw [sz]
    obtain ⟨M, g1, g2, g3⟩ := R.pow.next rm f few
    refine relay_w (s := { s with heap := h1 }) ho1 ⟨hex.1, hex.2.1, hex.2.2⟩ rfl rows1 T1 nd1 tup1 p1 led1 (by rw [len1, m1]; omega) g1 g2 (by rw [len1]; exact g3) fun h2 L2 es2 ep2 t2 o2 R2 pm2 => ?_
    exact wpAny_pure (q true h2 L2 es2 ep2 t2 (only.trans o2) R2 (fun z => absurd z m) fun _ => pm2.trans pm)
  · have ft : ¬ t1.tooFull = true := by rw [full]; exact fun z => f (of_decide_eq_true z)
    first
      | refine wp_if_neg (by simp [ft]) ?_
      | (refine wpAny_bind ?_; refine wp_if_neg (by simp [ft]) ?_; refine wpAny_pure ?_)
    exact wpAny_pure (q true h1 L1 es1 (ep + 1) t1 only ⟨⟨_, ho1, ⟨hex.1, hex.2.1, hex.2.2⟩, rfl⟩, rows1, T1, by rw [m1]; exact R.pow, nd1, tup1, p1, led1, by rw [len1, m1]; omega⟩ (fun z => absurd z m) fun _ => pm)
end
end Ms
set_option Elab.async false
set_option linter.all false
set_option maxRecDepth 100000
set_option maxHeartbeats 4000000
/-! a row that is a list or a tuple: walked, walked with numbers, looked up. -/
namespace Ms
open PySem PySem.Spec PyProof.Rows L2
/-- a list or a tuple -/
def SqB (K : PySem.W.Frag) (b : Bool) (H : Hp) (a : Addr) (xs : List V) : Prop := if b = true then SqL K H a xs else SqT K H a xs
theorem SqB.either {K : PySem.W.Frag} {b : Bool} {H : Hp} {a : Addr} {xs : List V} (h : SqB K b H a xs) : SqL K H a xs ∨ SqT K H a xs := by
  cases b
  · exact .inr h
  · exact .inl h
theorem SqB.lst {K : PySem.W.Frag} {H : Hp} {a : Addr} {xs : List V} (h : SqL K H a xs) : SqB K true H a xs := h
theorem SqB.tup {K : PySem.W.Frag} {H : Hp} {a : Addr} {xs : List V} (h : SqT K H a xs) : SqB K false H a xs := h
section
variable {X : Cx} {tg : Expr}
def iSeq (K : PySem.W.Frag) (tl : TE) : TI := fun σ H R => tl σ H fun x H1 => ∃ a b xs, x = .ref a ∧ SqB K b H1 a xs ∧ ∀ J, Walk J xs.length (fun H => SqB K b H a xs) (YAt xs) → R J H1
theorem pi_seq (K : PySem.W.Frag) {l : Expr} {tl : TE} (hl : PE X l tl) (e : X.K = K := by rfl) : PI X tg l (iSeq K tl) := by
  subst e
  refine ⟨fun pins s σ H R I h => ?_⟩
  refine thn (hl.run pins s σ H _ I h) fun v s1 ⟨x, H1, I1, r1, q1⟩ => ?_
  obtain ⟨a, b, xs, e, hq, q⟩ := q1
  subst e
  cases r1
  cases b
  · obtain ⟨its, rv, p, hz⟩ := I1.tuple hq
    refine wpAny_pyIter_tuple (show s1.heap.IsTuple a its.toArray from p) ?_
    refine ⟨s1.heap.objs.size, [s1.heap.objs.size], _, _, H1, rfl, I1.kept (t' := s1.toks) fun b o e => Heap.get?_push_of_some _ e, turn_tuple a _, ⟨_, Heap.get?_push_size _ rfl, rfl, rfl⟩, fun b hb => ?_, q _ walk_tup⟩
    have e : b = s1.heap.objs.size := by simpa using hb
    subst e
    exact I1.fpOk (Nat.le_refl _) (I1.hok.fresh (Nat.le_refl _))
  · obtain ⟨its, rv, p, hz⟩ := I1.list hq
    refine wpAny_pyIter_list p.isList ?_
    refine ⟨s1.heap.objs.size, [s1.heap.objs.size], _, _, H1, rfl, I1.kept (t' := s1.toks) fun b o e => Heap.get?_push_of_some _ e, turn_list a _, ⟨_, Heap.get?_push_size _ rfl, rfl, rfl⟩, fun b hb => ?_, q _ walk_list⟩
    have e : b = s1.heap.objs.size := by simpa using hb
    subst e
    exact I1.fpOk (Nat.le_refl _) (I1.hok.fresh (Nat.le_refl _))
def iEnumS (K : PySem.W.Frag) (ta : TA) : TI := fun σ H R => ta σ H fun vs H1 => ∃ a b xs, vs = [.ref a] ∧ SqB K b H1 a xs ∧ ∀ J, Walk J xs.length (fun H => SqB K b H a xs) (YPair (fun i => some (.int (i : Nat))) (fun i => xs[i]?)) → R J H1
theorem pi_enumS (K : PySem.W.Frag) {e : Expr} {ta : TA} {p pos tpos : Pos} {elts : List Expr} {kk : Nat} (hg : Gl X "enumerate") (hm : X.mg "enumerate" = none) (ha : PA X [e] ta) (hs : starEach [e] X.env = [(false, eval e X.env)] := by rfl) (hK : X.K = K := by rfl) :
    PI X (.Tuple elts kk tpos) (.Call (.Name "enumerate" p) [e] [] pos) (iEnumS K ta) := by
  subst hK
  refine ⟨fun pins s σ H R I h => ?_⟩
  refine Call_ (ld_blt I hg hm boot_enumerate (PyProof.Rows.callWith_type1 (thn (ha.run pos pins s σ H _ I h) fun us s1 ⟨vs, H1, I1, r1, q1⟩ => ?_) hs rfl))
  obtain ⟨a, b, xs, ex, hq, q⟩ := q1
  subst ex
  cases r1 with
  | cons r rr =>
    cases rr
    cases r
    cases b
    · obtain ⟨its, rv, p', hz⟩ := I1.tuple hq
      obtain ⟨o1, ho1, _⟩ := id p'
      have la : a < s1.heap.objs.size := Heap.lt_size ho1
      refine MsE.call_enum (items := its.toArray) p' fun h' he hit hk => wpAny_pyIter_enum he ?_
      have I2 : Inv X pins σ H1 { s1 with heap := h' } := I1.kept (t' := s1.toks) hk
      refine ⟨s1.heap.objs.size + 1, [s1.heap.objs.size + 1, s1.heap.objs.size], _, _, H1, rfl, I2, turn_enumT a (s1.heap.objs.size + 1) s1.heap.objs.size (Nat.ne_of_lt (Nat.lt_succ_of_lt la)) (Nat.ne_of_lt la) (Nat.succ_ne_self _), ⟨⟨.none, he⟩, hit⟩, fun b hb => ?_, q _ walk_enumT⟩
      have hle : s1.heap.objs.size ≤ b := by
        rcases (by simpa using hb : b = s1.heap.objs.size + 1 ∨ b = s1.heap.objs.size) with z | z
        · rw [z]; exact Nat.le_add_right _ _
        · rw [z]; exact Nat.le_refl _
      exact I1.fpOk hle (I1.hok.fresh hle)
    · obtain ⟨its, rv, p', hz⟩ := I1.list hq
      refine call_enumerate_list p'.isList fun h' he hit hsz hk => wpAny_pyIter_enum he ?_
      have I2 : Inv X pins σ H1 { s1 with heap := h' } := I1.kept (t' := s1.toks) hk
      refine ⟨s1.heap.objs.size + 1, [s1.heap.objs.size + 1, s1.heap.objs.size], _, _, H1, rfl, I2, turn_enum a (s1.heap.objs.size + 1) s1.heap.objs.size, ⟨⟨.none, he⟩, hit, Nat.succ_ne_self _⟩, fun b hb => ?_, q _ walk_enum⟩
      have e' : b = s1.heap.objs.size + 1 ∨ b = s1.heap.objs.size := by simpa using hb
      have hle : s1.heap.objs.size ≤ b := by
        rcases e' with z | z
        · rw [z]; exact Nat.le_add_right _ _
        · rw [z]; exact Nat.le_refl _
      exact I1.fpOk hle (I1.hok.fresh hle)
/-- an item of a list or a tuple -/
def rIxQ (K : PySem.W.Frag) : R2 := fun x y H Q => ∃ p b xs i v, x = .ref p ∧ y = .int i ∧ SqB K b H p xs ∧ atI xs i = some v ∧ Q v H
theorem ixQ (K : PySem.W.Frag) (e : X.K = K := by rfl) : IxR X (rIxQ K) := by
  have hl : IxR X (rIxL K) := ixL K e
  have ht : IxR X (rIxT K) := ixT K e
  intro value slice pins s σ H x y v u Q I rx ry h hsub
  obtain ⟨p, b, xs, i, w, e1, e2, hs, h1, h2⟩ := h
  cases b
  · exact ht value slice pins s σ H x y v u Q I rx ry ⟨p, xs, i, w, e1, e2, hs, h1, h2⟩ hsub
  · exact hl value slice pins s σ H x y v u Q I rx ry ⟨p, xs, i, w, e1, e2, hs, h1, h2⟩ hsub
end
end Ms
set_option Elab.async false
set_option linter.all false
set_option maxRecDepth 100000
set_option maxHeartbeats 4000000
/-! Ms: more rules that name the written part by itself; a comprehension of two fors. -/
namespace Ms
open PySem PySem.Spec PyProof.Rows L2
section
variable {X : Cx} {tg e o : Expr} {te ta : TE} {f : Str} {pos : Pos} (K : PySem.W.Frag)
theorem pe_fldK (ha : PE X o ta) (hK : X.K = K := by rfl) (hab : attributeBase o f X.env (eval o X.env) = eval o X.env := by rfl) : PE X (.Attribute o f pos) (tFld K ta f) := by
  subst hK
  exact pe_fld ha hab
theorem pi_tupK (he : PE X e te) (hK : X.K = K := by rfl) : PI X tg e (iTup K te) := by
  subst hK
  exact pi_tup he
theorem pi_listK (he : PE X e te) (hK : X.K = K := by rfl) : PI X tg e (iList K te) := by
  subst hK
  exact pi_list he
end
section
variable {J J1 : It} {n n1 : Nat} {G G1 : Hp → Prop} {Y Y1 : Nat → Hp → V → Hp → Prop}
/-- the inner walk of a comprehension of two fors -/
def In2 (J1 : It) (g1 : TG) (tt1 : TT) (te : TE) (vs1 : List Nat) (D : Addr) (σ2 : L2.St) (Nx : Hp → Prop) (H4 : Hp) : Prop :=
  ∃ W1 : Nat → Nat → Hp → Prop, (∃ m, W1 0 m H4) ∧ ∀ j k H, W1 j k H →
    (J1.stop j H ∧ Nx H) ∨ (J1.go j H ∧ ∃ Nx1 : Hp → Prop, (∀ H', Nx1 H' → ∃ k', k' < k ∧ W1 (j + 1) k' H') ∧ ∀ x H', J1.yld j H x H' → g1 x (wipe σ2 vs1) H' fun σ3 H5 => wipe σ3 vs1 = wipe σ2 vs1 ∧ tt1 σ3 H5 fun b H6 =>
      if b = true then te σ3 H6 fun y H7 => ∃ acc, H7 D = some (.lst acc) ∧ acc.length < sizeLine ∧ Nx1 (upd H7 D (.lst (acc ++ [y]))) else Nx1 H6)
theorem in2_it (w : Walk J1 n1 G1 Y1) {g1 : TG} {tt1 : TT} {te : TE} {vs1 : List Nat} {D : Addr} {σ2 : L2.St} {Nx : Hp → Prop} {H4 : Hp} (Pv : Nat → Hp → Prop) (h0 : Pv 0 H4) (hG : ∀ i H, i ≤ n1 → Pv i H → G1 H)
    (hs : ∀ i x H H', i < n1 → Pv i H → Y1 i H x H' → g1 x (wipe σ2 vs1) H' fun σ3 H5 => wipe σ3 vs1 = wipe σ2 vs1 ∧ tt1 σ3 H5 fun b H6 =>
      if b = true then te σ3 H6 fun y H7 => ∃ acc, H7 D = some (.lst acc) ∧ acc.length < sizeLine ∧ Pv (i + 1) (upd H7 D (.lst (acc ++ [y]))) else Pv (i + 1) H6) (hd : ∀ H, Pv n1 H → Nx H) : In2 J1 g1 tt1 te vs1 D σ2 Nx H4 := by
  refine ⟨fun i m H => m = n1 - i ∧ i ≤ n1 ∧ Pv i H, ⟨n1, by simp, Nat.zero_le _, h0⟩, ?_⟩
  rintro i m H ⟨rfl, hi, p⟩
  have q := hG i H hi p
  by_cases hlt : i < n1
  · exact .inr ⟨w.goes i H hlt q, Pv (i + 1), fun H' p' => ⟨n1 - (i + 1), by omega, rfl, hlt, p'⟩, fun x H' y => hs i x H H' hlt p (w.yields i H x H' hlt q y)⟩
  · have e : i = n1 := by omega
    subst e
    exact .inl ⟨w.stops H q, hd H p⟩
theorem lc2_it (w : Walk J n G Y) {g : TG} {tt : TT} {wi1 : TI} {g1 : TG} {tt1 : TT} {te : TE} {vs vs1 : List Nat} {σ : L2.St} {H1 : Hp} {D : Addr} {Qd : Hp → Prop} (Pv : Nat → Hp → Prop) (h0 : Pv 0 (upd H1 D (.lst []))) (hG : ∀ i H, i ≤ n → Pv i H → G H)
    (hs : ∀ i x H H', i < n → Pv i H → Y i H x H' → g x (wipe σ vs) H' fun σ2 H2 => wipe σ2 vs = wipe σ vs ∧ tt σ2 H2 fun b H3 =>
      if b = true then wi1 σ2 H3 fun J1 H4 => In2 J1 g1 tt1 te vs1 D σ2 (Pv (i + 1)) H4 else Pv (i + 1) H3) (hd : ∀ H, Pv n H → Qd H) :
    ∃ W : Nat → Nat → Hp → Prop, (∃ m, W 0 m (upd H1 D (.lst []))) ∧ ∀ i m H, W i m H →
      (J.stop i H ∧ Qd H) ∨ (J.go i H ∧ ∃ Nx : Hp → Prop, (∀ H', Nx H' → ∃ m', m' < m ∧ W (i + 1) m' H') ∧ ∀ x H', J.yld i H x H' → g x (wipe σ vs) H' fun σ2 H2 => wipe σ2 vs = wipe σ vs ∧ tt σ2 H2 fun b H3 =>
        if b = true then wi1 σ2 H3 fun J1 H4 => In2 J1 g1 tt1 te vs1 D σ2 Nx H4 else Nx H3) := by
  refine ⟨fun i m H => m = n - i ∧ i ≤ n ∧ Pv i H, ⟨n, by simp, Nat.zero_le _, h0⟩, ?_⟩
  rintro i m H ⟨rfl, hi, p⟩
  have q := hG i H hi p
  by_cases hlt : i < n
  · exact .inr ⟨w.goes i H hlt q, Pv (i + 1), fun H' p' => ⟨n - (i + 1), by omega, rfl, hlt, p'⟩, fun x H' y => hs i x H H' hlt p (w.yields i H x H' hlt q y)⟩
  · have e : i = n := by omega
    subst e
    exact .inl ⟨w.stops H q, hd H p⟩
end
end Ms
set_option Elab.async false
set_option linter.all false
set_option maxRecDepth 100000
set_option maxHeartbeats 4000000
/-! one keyword-only parameter whose default is None. -/
namespace Ms
open PySem PySem.Spec PyProof.Rows L2
/-- the def at f has the keyword-only default None for x -/
def KwOne (K : PySem.W.Frag) (f : Addr) (x : Str) : Prop := ∃ oc od fd osl D, K.lookup f = some ⟨oc, od, .func fd, osl⟩ ∧ fd.kwdefaults = .ref D ∧ PySem.W.nsIn K D x = some (some .none)
def ckKw (c m x : Str) : Ck := fun K => match K.lookup (He.ma K (He.ga K c) m) with
  | some ⟨_, _, .func fd, _⟩ => (match fd.kwdefaults with
    | .ref D => decide (PySem.W.nsIn K D x = some (some .none))
    | _ => false)
  | _ => false
theorem ckKw_ok {K : PySem.W.Frag} {c m x : Str} (h : ckKw c m x K = true) : KwOne K (He.ma K (He.ga K c) m) x := by
  unfold ckKw at h
  split at h
  · rename_i oc od fd osl e
    split at h
    · rename_i D e2
      exact ⟨oc, od, fd, osl, D, e, e2, of_decide_eq_true h⟩
    · cases h
  · cases h
/-- the def with this default told -/
theorem kw_def {K : PySem.W.Frag} {x qual y : Str} {st : Stmt} {f : Addr} (D : DefAt K x qual st f) (h : KwOne K f y) : ∃ fd, FunD K x qual (defArgs st) (defBody st) (defScope st) [] [(y, .non)] f fd := by
  obtain ⟨fd, F⟩ := D
  obtain ⟨oc, od, dV, kV, doc, pm, an, cdv, ct, osl, rfl, lk, hcd, hD, hK⟩ := F.ex
  obtain ⟨oc', od', fd', osl', D', lk', e1, e2⟩ := h
  rw [lk] at lk'
  cases lk'
  have e1 : kV = .ref D' := e1
  subst e1
  exact ⟨_, ⟨oc, od, dV, .ref D', doc, pm, an, cdv, ct, osl, rfl, lk, hcd, hD, .inr ⟨D', rfl, fun q hq => by
    rw [List.mem_singleton.mp hq]
    exact ⟨.none, e2, rfl⟩⟩⟩, F.kp⟩
end Ms
namespace Ms
open PySem PySem.Spec PyProof.Rows L2
/-- a method called with n values (self too) and keywords ks -/
structure MNOk (P : Program) (w : World) (K : PySem.W.Frag) (mg : Str → Option Value) (base : Heap) (c m : Str) (k : Nat) (sp : Sp) (n : Nat) (ks : List Str) (gV : List V → List V → List V) : Prop where
  ex : ∃ fd ps g, FnOk P w K mg base (L2.CX P w) k (He.ma K (He.ga K c) m) fd ps sp ∧ KBn K fd ps n ks g gV
  cl : Cls K (He.ga K c)
  me : Meth K (He.ga K c) m (He.ma K (He.ga K c) m)
def tMethN (C : Addr) (m : Str) (sp : Sp) (E : St → XK) (n mk : Nat) (gV : List V → List V → List V) (ta : TE) (t tk : TA) : TE := fun σ H Q => ta σ H fun x H1 => ∃ a dx fs, x = .ref a ∧ H1 a = some (.ins C dx fs) ∧ fs.lookup m = none ∧ t σ H1 fun vs H2 => tk σ H2 fun zs H3 => vs.length + 1 = n ∧ zs.length = mk ∧ sp (gV (x :: vs) zs) H3 Q (E σ)
section
variable {X : Cx} {k j n : Nat} {sp : Sp} {E : St → XK} {m c : Str} {p pos apos : Pos} {e o : Expr} {es : List Expr} {kws : List Keyword} {ta : TE} {t tk : TA} {ks : List Str} {gV : List V → List V → List V}
theorem pe_mN (K : PySem.W.Frag) {pl : Sem Bool} (F : MNOk X.prog X.w K X.mg X.base c m k sp n ks gV) (hr : Room j X.A) (hk : k ≤ j) (hx : ∀ σ, PassesAt (L2.CX X.prog X.w) X σ (E σ)) (he : PE X o ta) (ha : PA X (e :: es) t) (hkw : PK X kws tk) (hK : X.K = K := by rfl)
    (hall : (backToKw pos (keywordEach kws X.env)).all (·.1.isSome) = true := by rfl) (hks : (backToKw pos (keywordEach kws X.env)).filterMap (·.1) = ks := by rfl)
    (hst : starEach (e :: es) X.env = (false, eval e X.env) :: starEach es X.env := by rfl)
    (hpl : ((backTo pos (starEach (e :: es) X.env)).any (·.1) || (backToKw pos (keywordEach kws X.env)).any (·.1.isNone)) = false := by rfl)
    (ht : eval (.Call (.Attribute o m apos) (e :: es) kws pos) X.env = (do
      let ov ← eval o X.env
      standAt apos.atName
      let (f, first) ← holding [ov] (getMethod ov m pl)
      callWith pos f first (backTo pos (starEach (e :: es) X.env)) (backToKw pos (keywordEach kws X.env))) := by rfl) :
    PE X (.Call (.Attribute o m apos) (e :: es) kws pos) (tMethN (He.ga K c) m sp E n ks.length gV ta t tk) := by
  subst hK
  obtain ⟨fd, ps, g, F1, hb⟩ := F.ex
  refine ⟨fun pins s σ H Q I h => ?_⟩
  refine PySem.W.methodCall_KW (pl := pl) (thn (he.run pins s σ H _ I h) fun u s1 ⟨x, H1, I1, rx, a, dx, fs, ex, ea, l, q⟩ => ?_) ht
  subst ex
  obtain rfl : u = Value.ref a := rx
  refine getmeth_ok I1 ea F.cl F.me l ?_
  refine PySem.W.callWith_KW (first := [.ref a]) (h₀ := X.base) I.ok.mod.kin F.me.kp hall (thn (ha.run pos pins s1 σ H1 _ I1 q) fun us s2 ⟨vs, H2, I2, r, q2⟩ => ?_) hpl hst
  refine thn (hkw.run pos pins s2 σ H2 _ I2 q2) fun ws s3 ⟨zs, H3, I3, rz, l1, l2, q3⟩ => ⟨I3.kIn, ?_⟩
  rw [hks]
  have r1 : Vals (V.ref a :: vs) (Value.ref a :: us) := .cons rfl r
  have r2 := hb.rel r1 rz
  refine wpAny_call (codeAny_mono (F1.run X.A X.stack s3 H3 ⟨Value.ref a :: us, ks.zip ws⟩ (g (Value.ref a :: us) ws) (gV (V.ref a :: vs) zs) Q (E σ) (hr.mono hk) I3.env0 (hb.to s3 (Value.ref a :: us) ws I3.kIn (by rw [← r1.length]; exact l1) (rz.length.symm.trans l2)) r2 q3) fun r s' hq => ?_)
  cases r with
  | error e => exact hx σ pins _ _ e s' I3 hq
  | ok fl =>
    cases fl with
    | ret u => exact I3.after hq
    | next => exact False.elim hq
    | brk => exact False.elim hq
    | cont => exact False.elim hq
end
/-- the keyword stands -/
theorem kbn_with {K : PySem.W.Frag} {x q y : Str} {st : Stmt} {a b c : Str} {f : Addr} {fd : FuncData} (F : FunD K x q (defArgs st) (defBody st) (defScope st) [] [(y, .non)] f fd)
    (h : ∀ (kV doc pm : Value) (an : Option Addr) (cdv ct u v z w : Value), bindArgs (PySem.W.fnOf x q (defArgs st) (defBody st) (defScope st) .none kV doc pm an cdv ct) ⟨[u, v, z], [(y, w)]⟩ = pure [(a, u), (b, v), (c, z), (y, w)]) :
    KBn K fd [a, b, c, y] 3 [y] (fun us ws => us ++ ws) (fun vs zs => vs ++ zs) := by
  obtain ⟨oc, od, dV, kV, doc, pm, an, cdv, ct, osl, rfl, lk, hcd, hD, hK⟩ := F.ex
  rcases hD with ⟨_, rfl⟩ | ⟨e, _⟩
  · refine ⟨fun s us ws X l1 l2 => ?_, fun r1 r2 => r1.append r2⟩
    match us, ws, l1, l2 with
    | [u, v, z], [w], _, _ => exact .of_eq (h kV doc pm an cdv ct u v z w)
  · exact absurd rfl e
/-- .. lacks -/
theorem kbn_without {K : PySem.W.Frag} {x q y : Str} {st : Stmt} {a b c : Str} {f : Addr} {fd : FuncData} (F : FunD K x q (defArgs st) (defBody st) (defScope st) [] [(y, .non)] f fd)
    (h : ∀ (D : Addr) (doc pm : Value) (an : Option Addr) (cdv ct u v z w : Value), KwChain D [(y, w)] (bindArgs (PySem.W.fnOf x q (defArgs st) (defBody st) (defScope st) .none (.ref D) doc pm an cdv ct) ⟨[u, v, z], []⟩) [(a, u), (b, v), (c, z), (y, w)]) :
    ∃ g, KBn K fd [a, b, c, y] 3 [] g (fun vs _ => vs ++ [.non]) := by
  obtain ⟨ds, hv, hb⟩ := F.binds0 (ps := [a, b, c, y]) 3 (by simp) rfl fun D doc pm an cdv ct us ks l1 l2 => by
    match us, ks, l1, l2 with
    | [u, v, z], [w], _, _ => exact h D doc pm an cdv ct u v z w
  refine ⟨fun us _ => us ++ ds, ⟨fun s us ws X l1 l2 => ?_, fun r1 _ => r1.append hv⟩⟩
  have e : ws = [] := List.eq_nil_of_length_eq_zero l2
  subst e
  exact hb s us X (by rw [List.length_append, l1, ← hv.length] <;> rfl)
end Ms
set_option Elab.async false
set_option linter.all false
set_option maxRecDepth 100000
set_option maxHeartbeats 4000000
/-! Ms: rules for tables: statements that are never reached, tuples told in full, dict of pairs, a method called with a keyword. -/
namespace Ms
open PySem PySem.Spec PyProof.Rows L2
/-- a statement that is never reached -/
theorem ps_dead {X : Cx} {st : Stmt} : PS X st (fun _ _ _ => False) := ⟨fun _ _ _ _ _ _ h => h.elim⟩
/-- a tuple whose object is told -/
def FT (H : Hp) (a : Addr) (xs : List V) : Prop := ∃ ob : Obj, H a = some (.frz ob (.tup xs)) ∧ ob.dict = none
theorem FT.same {H H' : Hp} (s : Same H H') {a : Addr} {xs : List V} (h : FT H a xs) : FT H' a xs := let ⟨ob, h1, h2⟩ := h; ⟨ob, s _ _ h1, h2⟩
theorem FT.sq {K : PySem.W.Frag} {H : Hp} {a : Addr} {xs : List V} (h : FT H a xs) : SqT K H a xs := let ⟨ob, h1, _⟩ := h; .inl (.inr ⟨ob, h1⟩)
theorem FT.rd {H : Hp} {a : Addr} {xs : List V} (h : FT H a xs) : Rd H a (.tup xs) := let ⟨ob, h1, _⟩ := h; .inr ⟨ob, h1⟩
section
variable {X : Cx} {k : Nat} {es : List Expr} {t : TA} {pos : Pos} {x1 : Nat}
def tTupF (t : TA) : TE := fun σ H Q => t σ H fun xs H1 => xs.length ≤ sizeLine ∧ ∀ p H2, H1 p = none → Same H1 H2 → FT H2 p xs → (∀ b, b ≠ p → H2 b = H1 b) → Q (.ref p) H2
theorem ft_new {H : Hp} {p : Addr} {ob : Obj} {xs : List V} (h : H p = none) (hd : ob.dict = none) : Same H (upd H p (.frz ob (.tup xs))) ∧ FT (upd H p (.frz ob (.tup xs))) p xs :=
  ⟨fun b q e => by rw [upd_ne (fun z => by rw [z, h] at e; cases e)]; exact e, ob, upd_same .., hd⟩
theorem pe_tupF {x1} (h : PA X es t) : PE X (.Tuple es x1 pos) (tTupF t) := by
  refine ⟨fun pins s σ H Q I hq => ?_⟩
  refine wpAny_Tuple_spliced (thn (h.run pos pins s σ H _ I hq) fun us s1 ⟨xs, H1, I1, r, z, q⟩ => ⟨by rw [← r.length]; exact z, ?_⟩)
  have hf : H1 s1.heap.objs.size = none := I1.hok.fresh (Nat.le_refl _)
  obtain ⟨n1, n2⟩ := ft_new (H := H1) (p := s1.heap.objs.size) (ob := { cls := .type "tuple", data := .seq us.toArray }) (xs := xs) hf rfl
  refine ⟨.ref s1.heap.objs.size, _, I1.laid (t' := s1.toks) (fun b u e => Heap.get?_push_of_some _ e) (Nat.le_refl _) ?_, rfl, q _ _ hf n1 n2 fun b hb => upd_ne hb⟩
  exact ⟨Heap.get?_push_size _ rfl, z, us, r, ⟨_, Heap.get?_push_size _ rfl, rfl, _, rfl⟩⟩
/-- tuple(xs): a list's is new -/
def rTupF (K : PySem.W.Frag) : List V → Hp → VK → Prop := fun xs H Q => ∃ p ys, xs = [.ref p] ∧ ((SqL K H p ys ∧ ∀ l H2, H l = none → Same H H2 → FT H2 l ys → (∀ b, b ≠ l → H2 b = H b) → Q (.ref l) H2) ∨ (SqT K H p ys ∧ Q (.ref p) H))
theorem tupF_raw : CallR X (.type "tuple") (rTupF X.K) := by
  intro pins s σ H xs us Q I r h
  obtain ⟨p, ys, rfl, h⟩ := h
  obtain ⟨u, rfl, rx⟩ := vals1 r
  cases rx
  rcases h with ⟨hq, q⟩ | ⟨hq, q⟩
  · obtain ⟨its, r', pl, hz⟩ := I.list hq
    have hlen := r'.length
    refine call_tuple_list pl.isList (fun h' kp => ?_) (by simp only [List.size_toArray] <;> omega)
    have I1 : Inv X pins σ H { s with heap := h' } := I.kept (t' := s.toks) kp
    have hf : H h'.objs.size = none := I1.hok.fresh (Nat.le_refl _)
    obtain ⟨n1, n2⟩ := ft_new (H := H) (p := h'.objs.size) (ob := { cls := .type "tuple", data := .seq its.toArray }) (xs := ys) hf rfl
    have I2 : Inv X pins σ (upd H h'.objs.size (.frz { cls := .type "tuple", data := .seq its.toArray } (.tup ys))) { s with heap := h'.push { cls := .type "tuple", data := .seq its.toArray } } :=
      I1.laid (t' := s.toks) (fun b o e => Heap.get?_push_of_some _ e) (Nat.le_refl _) ⟨Heap.get?_push_size _ rfl, hz, its, r', IsTup.new _ _⟩
    exact ⟨.ref h'.objs.size, _, I2, rfl, q _ _ hf n1 n2 fun b hb => upd_ne hb⟩
  · obtain ⟨its, r', pl, hz⟩ := I.tuple hq
    exact call_tuple_same pl ⟨.ref p, H, I, rfl, q⟩
theorem tupF (K : PySem.W.Frag) (e : X.K = K := by rfl) : CallR X (.type "tuple") (rTupF K) := by subst e; exact tupF_raw
/-- the pairs of a sequence, as the library tells them -/
theorem pairs_two {pins : List (Addr × Obj)} {σ : L2.St} {H : Hp} {s : Shared} (I : Inv X pins σ H s) {ps : List Addr} {kvs : List (Key × V)} (h : Paired (fun p kv => SqT X.K H p [kV kv.1, kv.2]) ps kvs) :
    ∃ (prs : List (Key × Value)) (vs : List (Value × Value)), KV kvs prs ∧ prs.length = ps.length ∧ vs.length = ps.length ∧ ∀ (j : Nat) (k v : Value), vs[j]? = some (k, v) → ps[j]? = some (ps.getD j 0) ∧ PairAt s.heap (ps.getD j 0) k v ∧ ∃ key, prs[j]? = some (key, v) ∧ keyIs key k = true := by
  obtain ⟨prs, r, hl, hp⟩ := pairs_of I h
  have us : ∃ vs : List (Value × Value), vs.length = prs.length ∧ ∀ (j : Nat) (k v : Value), vs[j]? = some (k, v) → ∃ (b : Addr), ps[j]? = some b ∧ IsTup s.heap b #[k, v] ∧ ∃ key, prs[j]? = some (key, v) ∧ keyIs key k = true := by
    clear r hl h
    induction prs generalizing ps with
    | nil => exact ⟨[], rfl, fun j k v e => by simp at e⟩
    | cons q prs ih =>
      obtain ⟨b, u, e1, e2, e3⟩ := hp 0 q rfl
      cases ps with
      | nil => simp at e1
      | cons p ps =>
        obtain ⟨vs, l1, l2⟩ := ih (ps := ps) fun j q e => by
          obtain ⟨b, u, z1, z2, z3⟩ := hp (j + 1) q (by simpa using e)
          exact ⟨b, u, by simpa using z1, z2, z3⟩
        refine ⟨(u, q.2) :: vs, by rw [List.length_cons, List.length_cons, l1], fun j k v e => ?_⟩
        cases j with
        | zero =>
          cases e
          exact ⟨b, e1, e2, q.1, rfl, e3⟩
        | succ j =>
          obtain ⟨b, z1, z2, z3⟩ := l2 j k v (by simpa using e)
          exact ⟨b, by simpa using z1, z2, by simpa using z3⟩
  obtain ⟨vs, l1, l2⟩ := us
  refine ⟨prs, vs, r, hl, l1.trans hl, fun j k v e => ?_⟩
  obtain ⟨b, z1, z2, z3⟩ := l2 j k v e
  have eb : ps.getD j 0 = b := by rw [List.getD_eq_getElem?_getD, z1] <;> rfl
  obtain ⟨o, o1, o2, n, o3⟩ := z2
  exact ⟨by rw [eb]; exact z1, by rw [eb]; exact .inl ⟨o, o1, o2, n, o3⟩, z3⟩
/-- dict(xs) of a list or a told tuple of pairs -/
def rDictQ (K : PySem.W.Frag) : List V → Hp → VK → Prop := fun xs H Q => ∃ (a : Addr) (ps : List Addr) (kvs : List (Key × V)), xs = [.ref a] ∧ (SqL K H a (ps.map V.ref) ∨ FT H a (ps.map V.ref)) ∧ Paired (fun p kv => SqT K H p [kV kv.1, kv.2]) ps kvs ∧
    ∀ p, H p = none → Q (.ref p) (upd H p (.dK (mergeK [] kvs)))
theorem dictQ (K : PySem.W.Frag) (hcalm : X.calm = true) (e : X.K = K := by rfl) : CallR X (.type "dict") (rDictQ K) := by
  subst e
  intro pins s σ H xs us Q I r q
  obtain ⟨a, ps, kvs, ex, hq, hp, q⟩ := q
  rcases hq with hq | ⟨ob, hq, hd⟩
  · exact call_dictP hcalm pins s σ H xs us Q I r ⟨a, ps, kvs, ex, hq, hp, q⟩
  subst ex
  obtain ⟨u, eu, rx⟩ := vals1 r
  subst eu
  cases rx
  obtain ⟨g1, hz, its, rv, o, ho, hc, n, hdat⟩ := I.hok a _ hq
  rw [g1] at ho
  cases ho
  have ei := refs_at rv
  subst ei
  rw [List.length_map] at hz
  obtain ⟨prs, vs, rel, hl, hl2, hpr⟩ := pairs_two I hp
  refine PySem.call_dict_pairs (knd := mixKind X.prog X.w) (kvs := prs) (PairArg.tuple (prog := X.prog) (w := X.w) a (ps.map Value.ref).toArray (fun j => ps.getD j 0) vs) (I.ok.hd hcalm) ⟨⟨ob, n, g1, hc, hd, hdat⟩, by simp [hl2], fun j k v e => ?_⟩ ⟨by rw [hl, hl2], fun j k v e => ?_⟩ (by rw [hl2]; exact hz) fun h' tk hd' k => ?_
  · obtain ⟨z1, z2, _⟩ := hpr j k v e
    exact ⟨by rw [List.getElem?_toArray, List.getElem?_map, z1] <;> rfl, z2⟩
  · obtain ⟨_, _, key, z3, z4⟩ := hpr j k v e
    exact ⟨key, z3, z4⟩
  · have hm : (s.heap.objs.size == sysModules) = false := beq_eq_false_iff_ne.mpr (Nat.ne_of_gt I.big)
    have hlen : (mergeK [] kvs).length ≤ sizeLine := by
      refine Nat.le_trans (length_mergeK kvs []) ?_
      rw [List.length_nil, Nat.zero_add, rel.length, hl]
      exact hz
    exact ⟨.ref s.heap.objs.size, upd H s.heap.objs.size (.dK (mergeK [] kvs)), I.laid (t' := tk) (fun b o e => k b o (List.not_mem_nil) e) (Nat.le_refl _) (show ObjOk X.prog X.w _ _ _ (.dK (mergeK [] kvs)) from ⟨hlen, hm, merged [] prs, KV.merge rel .nil, hd'⟩), rfl, q _ (I.hok.fresh (Nat.le_refl _))⟩
end
end Ms
set_option Elab.async false
set_option linter.all false
set_option maxRecDepth 100000
set_option maxHeartbeats 4000000
/-! Ms: sorted(set(l)), l a list of fewer than 60 ints. -/
namespace Ms
open PySem PySem.Spec PyProof.Rows L2
/-- the set that is made first -/
abbrev sOb (w : World) : Obj := { cls := .type "set", dict := none, data := .set #[] 0 (.fresh 0 0 (!w.params.followText "set-order")) }
section
variable {P : Program} {w : World} {A : Around} {E : Value → Shared → Prop} {s : Shared}
theorem call_setL {l : Addr} {xs : Array Value} (ns : List Int) {Q : Value → Shared → Prop} (hh : A.handled = none) (hl : s.heap.IsList l xs) (hx : IntsAre xs.toList ns) (hb : ns.length + 1 < scanBound)
    (h : ∀ (g : Heap) (tk c : Nat), SetR w g s.heap.objs.size (fun j => decide (j ∈ ns)) c → c ≤ ns.length → (∀ b o, s.heap.get? b = some o → g.get? b = some o) → Q (.ref s.heap.objs.size) { s with heap := g, toks := tk }) :
    wpAny (model P w) A (call (.type "set") [.ref l]) Q E s := by
  have xn : xs.size = ns.length := by rw [← IntsAre.length hx, Array.length_toList]
  obtain ⟨k0, k1, k2⟩ := F.called_set.mro; have k3 := F.called_set.made; have k4 := F.called_set.sub
  refine wpAny_call (codeAny_of_tree ?_); show wpAny _ _ (callAny (.type "set") _) _ _ _
  refine wpAny_pure ⟨Code.quiet_builtin _ (by decide +kernel), codeAny_builtin F.entry_type_call ?_⟩; rw [Around.under_plain (weight_type_call_type "set" [.ref l] []) rfl]
  have k5 := F.called_set.notType; have k6 := F.called_set.canCreate; have k7 := F.typeCall_set_1 (.ref l)
  repeat (any_goals (first | assumption | wp_step))
  refine codeAny_mono (code_set_led1 (.ref l) (E := E) (Q₁ := fun ob t => ob = .ref s.heap.objs.size ∧ t = { s with heap := s.heap.push (sOb w) }) ⟨rfl, rfl⟩) fun r t hr => ?_
  match r, hr with
  | .error e, hr => exact hr
  | .ok (.ret ob), hr =>
    obtain ⟨rfl, rfl⟩ := hr
    have hS : (s.heap.push (sOb w)).get? s.heap.objs.size = some (sOb w) := Heap.get?_push_size _ rfl
    have hT : Shared.TypeIs { s with heap := s.heap.push (sOb w) } (.ref s.heap.objs.size) "set" := ⟨_, hS, rfl⟩
    have k8 := F.called_set.init.lookup; have k9 := F.called_set.init.bind (.ref s.heap.objs.size)
    repeat (any_goals (first | assumption | wp_step))
    refine codeAny_mono (codeAny_call_builtin (R := wants (fun u t => u = .none ∧ ∃ g tk c, t = { s with heap := g, toks := tk } ∧ SetR w g s.heap.objs.size (fun j => decide (j ∈ ns)) c ∧ c ≤ ns.length ∧ (∀ b o, s.heap.get? b = some o → g.get? b = some o)) E) F.called_set.init.plain F.entry_set_init (check_set_init_1 hT ?_)) fun r2 t2 hr2 => ?_
    · obtain ⟨⟨oc, od, odat, osl⟩, ho, hc, n, hdat⟩ := hl
      simp only at hc hdat
      subst hc hdat
      have ho2 : (s.heap.push (sOb w)).get? l = some _ := Heap.get?_push_of_some _ ho
      have u1 := F.sub_list_set; have u2 := F.sub_list_frozenset; have u3 : (Value.type "list" == Value.type "dict") = false := by decide
      have hl1 : (s.heap.push (sOb w)).IsList l xs := ⟨_, ho2, rfl, n, rfl⟩
      unfold Builtin.«set.__init__» noKeywords Builtin.Frozenset.updateFrom; generalize hPI : pyIter = PI
      wp_walk
      subst hPI
      refine wpAny_pyIter_list hl1 (wpAny_bind (wpAny_runValue ?_))
      have lS : l < s.heap.objs.size := Heap.lt_size ho
      have h3 : A.in1.in1.in1.handled = none := by simp [hh]
      have lI : l ≠ (s.heap.push (sOb w)).objs.size := by rw [Heap.size_push]; exact Nat.ne_of_lt (Nat.lt_succ_of_lt lS)
      have sF : s.heap.objs.size ∉ [(s.heap.push (sOb w)).objs.size, l] := by
        rw [Heap.size_push]
        intro m
        rcases List.mem_cons.mp m with e | e
        · exact absurd e (Nat.ne_of_lt (Nat.lt_succ_self _))
        · exact absurd (List.mem_singleton.mp e) (Nat.ne_of_gt lS)
      have val : ∀ (i : Nat) (v : Value), xs[i]? = some v → ∃ k t, ns[i]? = some k ∧ v = .int k t := fun i v hv => by
        have hi : i < ns.length := by rw [← xn]; exact (Array.getElem?_eq_some_iff.mp hv).1
        obtain ⟨t, e⟩ := IntsAre.int_at hx i v (by rw [Array.getElem?_toList]; exact hv)
        exact ⟨ns[i], t, List.getElem?_eq_getElem hi, by rw [e, List.getD_eq_getElem?_getD, List.getElem?_eq_getElem hi] <;> rfl⟩
      refine set_update_ints ((Walks.list h3 _ l lI xs).toS) s.heap.objs.size sF ns xn hb val (xs.size - 0) 0 _ (by omega) (Nat.zero_le _) ⟨⟨_, Heap.get?_push_size _ rfl, rfl, rfl⟩, (hl1.push _)⟩ ?_ ?_
      · exact ⟨0, Nat.le_refl 0, setR_new_at (Heap.get?_push_of_some _ hS)⟩
      · intro t c hm hc2 hS2
        obtain ⟨g, g2, d2, tk, o2⟩ := t
        obtain rfl : g2 = s.gens := hm.gens
        obtain rfl : d2 = s.drawn := hm.drawn
        obtain rfl : o2 = s.os := hm.os
        show wpAny _ _ _ _ _ _
        refine wpAny_pure ?_; show wpAny _ _ (ret Value.none) _ _ _
        rw [xn] at hc2
        refine wpAny_pure ⟨rfl, g, tk, c, rfl, hS2, hc2, fun b o e => hm.heap b o (fun m => ?_) (Heap.get?_push_of_some _ (Heap.get?_push_of_some _ e))⟩
        have b0 : b < s.heap.objs.size := Heap.lt_size e
        rw [Heap.size_push] at m
        simp only [List.mem_cons, List.mem_singleton, List.not_mem_nil, or_false] at m
        exact m.elim (fun e => absurd e (Nat.ne_of_lt b0)) fun e => absurd e (Nat.ne_of_lt (Nat.lt_succ_of_lt b0))
    · match r2, hr2 with
      | .error e, hr2 => exact hr2
      | .ok (.ret u), hr2 =>
        obtain ⟨rfl, g, tk, c, rfl, q1, q2, q3⟩ := hr2
        repeat (any_goals (first | assumption | wp_step))
        exact h g tk c q1 q2 q3
end
section
variable {X : Cx}
/-- set(l) -/
def rSetL (K : PySem.W.Frag) (w : World) : List V → Hp → VK → Prop := fun vs H Q => ∃ (a : Addr) (ns : List Int), vs = [V.ref a] ∧ SqL K H a (ns.map V.int) ∧ ns.length ≤ 60 ∧
  ∀ p c H', H p = none → c ≤ ns.length → Same H H' → H' p = some (SetO w p (fun j => decide (j ∈ ns)) c) → Q (.ref p) H'
theorem setL_raw (hc : X.calm = true) : CallR X (.type "set") (rSetL X.K X.w) := by
  intro pins s σ H vs us Q I r h
  obtain ⟨a, ns, rfl, hs, hl, q⟩ := h
  rw [Vals.ref1 r]
  obtain ⟨its, rv, pl, _⟩ := I.list hs
  refine call_setL ns (I.ok.hd hc) pl.isList (by simpa using ints_of_vals rv) (by unfold scanBound; omega) fun g tk c R hcn k => ?_
  have hf : H s.heap.objs.size = none := I.hok.fresh (Nat.le_refl _)
  exact ⟨.ref s.heap.objs.size, _, I.laid (t' := tk) k (Nat.le_refl _) (setO_new R), rfl, q _ c _ hf hcn (fun b o e => by rw [upd_ne (fun z => by rw [z, hf] at e; cases e)]; exact e) (upd_same ..)⟩
end
end Ms
set_option Elab.async false
set_option linter.all false
set_option maxRecDepth 100000
set_option maxHeartbeats 4000000
/-! Ms: set(l), l a list of tuples of ints, below 4000. -/
namespace Ms
open PySem PySem.Spec PyProof.Rows L2
section
variable {P : Program} {w : World} {A : Around} {E : Value → Shared → Prop} {s : Shared}
theorem SetW.carry {h g : Heap} {a : Addr} {L : List (Addr × List Int)} {es : Array (Int × Value)} {ep : Nat} {t : SetTable} (R : SetW P w h a L es ep t) (k : ∀ o, h.get? a = some o → g.get? a = some o) (tup : ∀ p ∈ L, IsT P w g p.2 p.1) : SetW P w g a L es ep t := by
  obtain ⟨o, ho, r⟩ := R.ob
  exact ⟨⟨o, k o ho, r⟩, R.rows, R.tab, R.pow, R.nd, tup, R.pl, R.led, R.room⟩
theorem setW_new {h : Heap} {a : Addr} (ho : h.get? a = some (sOb w)) : SetW P w h a [] #[] 0 (.fresh 0 0 (!w.params.followText "set-order")) where
  ob := ⟨_, ho, ⟨rfl, rfl, rfl⟩, rfl⟩
  rows := rfl
  tab := ⟨List.Pairwise.nil, rfl, rfl, Pow.wide (.inl rfl), (fun x m => nomatch m), (fun i g j m => nomatch m)⟩
  pow := .inl rfl
  nd := List.nodup_nil
  tup := fun p m => nomatch m
  pl := rfl
  led := by
    cases e : w.params.followText "set-order"
    · exact .inr rfl
    · exact .inl rfl
  room := by
    show 0 * 5 < 7 * 3
    decide
/-- the loop of set.update, from the i-th item on, r before its end -/
theorem loop_w {I : Addr} {fp wr : List Addr} {G : Array GenState → Array GenState → Prop} {n : Nat} {Pv : Nat → Value → Prop} {St : Nat → Shared → Prop} {R : Result → Shared → Prop}
    (W : WalksS P w A.in1 I fp wr G n Pv St) (S : Addr) (out : S ∉ fp) (ks : List (Addr × List Int)) (len : n = ks.length) (few : ks.length ≤ 4000) (val : ∀ i v, Pv i v → ∃ p, ks[i]? = some p ∧ v = .ref p.1)
    (h0 : Heap) (tups : ∀ p ∈ ks, IsT P w h0 p.2 p.1) (s0 : h0.get? S = none) (w0 : ∀ b ∈ wr, h0.get? b = none) (hu : A.in1.units < cLine)
    (hR : ∀ t L es ep tb, Moved (S :: wr) G s t → SetW P w t.heap S L es ep tb → Got ks n L → (∀ b o, h0.get? b = some o → t.heap.get? b = some o) → R (.ok (.ret .none)) t) :
    ∀ (r i : Nat) (u : Shared), i + r = n → St i u → (i = 0 → u = s) → (0 < i → Moved (S :: wr) G s u) → (∀ b o, h0.get? b = some o → u.heap.get? b = some o) → (∃ L es ep tb, SetW P w u.heap S L es ep tb ∧ Got ks i L) →
      codeAny (model P w) A (.builtin "set.update.loop" ⟨[.ref S, .ref I], []⟩) R u := by
  have so : S ∉ wr := fun z => out (W.sub _ z)
  have up : ∀ b ∈ wr, b ∈ S :: wr := fun b m => List.mem_cons_of_mem _ m
  have old : ∀ {u v : Shared}, Moved wr G u v → (∀ b o, h0.get? b = some o → u.heap.get? b = some o) → ∀ b o, h0.get? b = some o → v.heap.get? b = some o := fun m k b o e => m.heap b o (fun z => by rw [w0 b z] at e; cases e) (k b o e)
  have join : ∀ {i : Nat} {u v : Shared}, (i = 0 → u = s) → (0 < i → Moved (S :: wr) G s u) → Moved (S :: wr) G u v → Moved (S :: wr) G s v := fun {i u v} z1 z2 m => by
    rcases Nat.eq_zero_or_pos i with e | e
    · rw [← z1 e]; exact m
    · exact Moved.trans W.gtrans (z2 e) m
  intro r
  induction r with
  | zero =>
    intro i u e st z1 z2 k ⟨L, es, ep, tb, R1, g⟩
    obtain rfl : i = n := e
    refine codeAny_builtin F.entry_set_update_loop ?_
    rw [Around.under_plainId F.plain_set_update_loop _]
    show wpAny _ A.in1 (pyNext (.ref I) >>= _) _ _ u
    refine wpAny_bind (W.done u _ _ st fun v m => ?_)
    show wpAny _ A.in1 (ret Value.none) _ _ v
    have k2 := old m k
    exact wpAny_pure (hR v L es ep tb (join z1 z2 (m.mono up)) (R1.carry (fun o e => m.heap S o so e) fun p mp => isT_keep (tups p (List.mem_of_mem_take (g.sub p mp))) k2) g k2)
  | succ r ih =>
    intro i u e st z1 z2 k ⟨L, es, ep, tb, R1, g⟩
    refine codeAny_builtin F.entry_set_update_loop ?_
    rw [Around.under_plainId F.plain_set_update_loop _]
    show wpAny _ A.in1 (pyNext (.ref I) >>= _) _ _ u
    refine wpAny_bind (W.item i u _ _ (by omega) st fun x v hv st2 m => ?_)
    obtain ⟨p, hp, rfl⟩ := val i x hv
    have k2 := old m k
    have R2 : SetW P w v.heap S L es ep tb := R1.carry (fun o e => m.heap S o so e) fun p mp => isT_keep (tups p (List.mem_of_mem_take (g.sub p mp))) k2
    show wpAny _ A.in1 (holding [Value.ref p.1] (setAdd S (.ref p.1)) >>= _) _ _ v
    refine wpAny_bind (wpAny_holding ?_)
    unfold setAdd
    have tp : IsT P w v.heap p.2 p.1 := isT_keep (tups p (List.mem_of_getElem? hp)) k2
    refine wpAny_holding (wpAny_bind (wpAny_pyHash_tuple hu tp ?_))
    refine SetW.add (s := { v with toks := v.toks + (p.2.length + 1) }) R2 tp hu (by have := g.len; omega) fun b h2 L2 es2 ep2 t2 only R3 c1 c2 => ?_
    have g2 : Got ks (i + 1) L2 := by
      by_cases c : p.2 ∈ L.map (·.2)
      · rw [c1 c]; exact g.same hp c
      · exact g.more hp (c2 c)
    have away : ∀ b o, b ≠ S → v.heap.get? b = some o → h2.get? b = some o := fun b o ne e => (only.2 b ne).trans e
    have mv : Moved (S :: wr) G u { v with heap := h2, toks := v.toks + (p.2.length + 1) } := (m.mono up).then_heap (Nat.le_add_right _ _) fun b o z e => away b o (fun q => z (by rw [q]; exact List.mem_cons_self)) e
    refine wpAny_pure ⟨plainId_quiet F.plain_set_update_loop _, ih (i + 1) _ (by omega) (W.frame _ v _ _ st2 (Nat.le_add_right _ _) fun b z o e => away b o (fun q => out (by rw [← q]; exact z)) e) (fun z => absurd z (Nat.succ_ne_zero i)) (fun _ => join z1 z2 mv)
      (fun b o e => away b o (fun q => by rw [q, s0] at e; cases e) (k2 b o e)) ⟨L2, es2, ep2, t2, R3, g2⟩⟩
/-- set(l) -/
theorem call_setV {l : Addr} {xs : Array Value} (ks : List (Addr × List Int)) {Q : Value → Shared → Prop} (hh : A.handled = none) (hl : s.heap.IsList l xs) (hx : xs.toList = ks.map fun p => Value.ref p.1) (hk : ∀ p ∈ ks, IsT P w s.heap p.2 p.1) (few : ks.length ≤ 4000) (hu : A.units + 3 < cLine)
    (h : ∀ (g : Heap) (tk : Nat) L es ep tb, SetW P w g s.heap.objs.size L es ep tb → Got ks ks.length L → (∀ b o, s.heap.get? b = some o → g.get? b = some o) → Q (.ref s.heap.objs.size) { s with heap := g, toks := tk }) :
    wpAny (model P w) A (call (.type "set") [.ref l]) Q E s := by
  have xn : xs.size = ks.length := by rw [← Array.length_toList, hx, List.length_map]
  obtain ⟨k0, k1, k2⟩ := F.called_set.mro; have k3 := F.called_set.made; have k4 := F.called_set.sub
  refine wpAny_call (codeAny_of_tree ?_); show wpAny _ _ (callAny (.type "set") _) _ _ _
  refine wpAny_pure ⟨Code.quiet_builtin _ (by decide +kernel), codeAny_builtin F.entry_type_call ?_⟩; rw [Around.under_plain (weight_type_call_type "set" [.ref l] []) rfl]
  have k5 := F.called_set.notType; have k6 := F.called_set.canCreate; have k7 := F.typeCall_set_1 (.ref l)
  repeat (any_goals (first | assumption | wp_step))
  refine codeAny_mono (code_set_led1 (.ref l) (E := E) (Q₁ := fun ob t => ob = .ref s.heap.objs.size ∧ t = { s with heap := s.heap.push (sOb w) }) ⟨rfl, rfl⟩) fun r t hr => ?_
  match r, hr with
  | .error e, hr => exact hr
  | .ok (.ret ob), hr =>
    obtain ⟨rfl, rfl⟩ := hr
    have hS : (s.heap.push (sOb w)).get? s.heap.objs.size = some (sOb w) := Heap.get?_push_size _ rfl
    have hT : Shared.TypeIs { s with heap := s.heap.push (sOb w) } (.ref s.heap.objs.size) "set" := ⟨_, hS, rfl⟩
    have k8 := F.called_set.init.lookup; have k9 := F.called_set.init.bind (.ref s.heap.objs.size)
    repeat (any_goals (first | assumption | wp_step))
    refine codeAny_mono (codeAny_call_builtin (R := wants (fun u t => u = .none ∧ ∃ g tk L es ep tb, t = { s with heap := g, toks := tk } ∧ SetW P w g s.heap.objs.size L es ep tb ∧ Got ks ks.length L ∧ (∀ b o, s.heap.get? b = some o → g.get? b = some o)) E) F.called_set.init.plain F.entry_set_init (check_set_init_1 hT ?_)) fun r2 t2 hr2 => ?_
    · obtain ⟨⟨oc, od, odat, osl⟩, ho, hc, n, hdat⟩ := hl
      simp only at hc hdat
      subst hc hdat
      have ho2 : (s.heap.push (sOb w)).get? l = some _ := Heap.get?_push_of_some _ ho
      have u1 := F.sub_list_set; have u2 := F.sub_list_frozenset; have u3 : (Value.type "list" == Value.type "dict") = false := by decide
      have hl1 : (s.heap.push (sOb w)).IsList l xs := ⟨_, ho2, rfl, n, rfl⟩
      unfold Builtin.«set.__init__» noKeywords Builtin.Frozenset.updateFrom; generalize hPI : pyIter = PI
      wp_walk
      subst hPI
      refine wpAny_pyIter_list hl1 (wpAny_bind (wpAny_runValue ?_))
      have lS : l < s.heap.objs.size := Heap.lt_size ho
      have h3 : A.in1.in1.in1.handled = none := by simp [hh]
      have lI : l ≠ (s.heap.push (sOb w)).objs.size := by rw [Heap.size_push]; exact Nat.ne_of_lt (Nat.lt_succ_of_lt lS)
      have sF : s.heap.objs.size ∉ [(s.heap.push (sOb w)).objs.size, l] := by
        rw [Heap.size_push]
        intro m
        rcases List.mem_cons.mp m with e | e
        · exact absurd e (Nat.ne_of_lt (Nat.lt_succ_self _))
        · exact absurd (List.mem_singleton.mp e) (Nat.ne_of_gt lS)
      have val : ∀ (i : Nat) (v : Value), xs[i]? = some v → ∃ p, ks[i]? = some p ∧ v = .ref p.1 := fun i v hv => by
        rw [← Array.getElem?_toList, hx, List.getElem?_map] at hv
        cases q : ks[i]? with
        | none => rw [q] at hv; cases hv
        | some p => rw [q] at hv; exact ⟨p, rfl, (Option.some.inj hv).symm⟩
      have no : ∀ b, s.heap.objs.size ≤ b → s.heap.get? b = none := fun b z => by
        cases q : s.heap.get? b with
        | none => rfl
        | some o => exact absurd (Nat.lt_of_lt_of_le (Heap.lt_size q) z) (Nat.lt_irrefl _)
      refine loop_w ((Walks.list h3 _ l lI xs).toS) s.heap.objs.size sF ks xn few val s.heap hk (no _ (Nat.le_refl _)) (fun b z => no b (by rw [List.mem_singleton.mp z, Heap.size_push]; exact Nat.le_succ _)) hu ?_ xs.size 0 _ (Nat.zero_add _) ⟨⟨_, Heap.get?_push_size _ rfl, rfl, rfl⟩, (hl1.push _)⟩ (fun _ => rfl) (fun z => absurd z (Nat.lt_irrefl 0))
        (fun b o e => Heap.get?_push_of_some _ (Heap.get?_push_of_some _ e)) ⟨[], #[], 0, _, setW_new (Heap.get?_push_of_some _ hS), Got.zero ks⟩
      intro t L es ep tb hm R g2 k
      obtain ⟨g, gs, d2, tk, o2⟩ := t
      obtain rfl : gs = s.gens := hm.gens
      obtain rfl : d2 = s.drawn := hm.drawn
      obtain rfl : o2 = s.os := hm.os
      show wpAny _ _ _ _ _ _
      refine wpAny_pure ?_; show wpAny _ _ (ret Value.none) _ _ _
      rw [xn] at g2
      exact wpAny_pure ⟨rfl, g, tk, L, es, ep, tb, rfl, R, g2, k⟩
    · match r2, hr2 with
      | .error e, hr2 => exact hr2
      | .ok (.ret u), hr2 =>
        obtain ⟨rfl, g, tk, L, es, ep, tb, rfl, q1, q2, q3⟩ := hr2
        repeat (any_goals (first | assumption | wp_step))
        exact h g tk L es ep tb q1 q2 q3
end
end Ms
set_option Elab.async false
set_option linter.all false
set_option maxRecDepth 100000
set_option maxHeartbeats 4000000
/-! Ms: len(set(l)), l a list of tuples of ints, below 4000. -/
namespace Ms
open PySem PySem.Spec PyProof.Rows L2
theorem got_count {ks L : List (Addr × List Int)} (g : Got ks ks.length L) (nd : (L.map (·.2)).Nodup) : L.length = (firsts (ks.map (·.2))).length := by
  have pm : (L.map (·.2)).Perm (firsts (ks.map (·.2))) := by
    refine (List.perm_ext_iff_of_nodup nd (firsts_nodup _)).mpr fun k => ?_
    rw [mem_firsts]
    constructor
    · intro m
      obtain ⟨p, mp, rfl⟩ := List.mem_map.mp m
      exact List.mem_map.mpr ⟨p, List.mem_of_mem_take (g.sub p mp), rfl⟩
    · intro m
      obtain ⟨p, mp, rfl⟩ := List.mem_map.mp m
      exact g.all p (by rw [List.take_length]; exact mp)
  have e := pm.length_eq
  rw [List.length_map] at e
  exact e
section
variable {X : Cx}
def tLenV (K : PySem.W.Frag) (ta : TE) : TE := fun σ H Q => ta σ H fun x G => ∃ (l : Addr) (ks : List (Addr × List Int)), x = V.ref l ∧ SqL K G l (ks.map fun p => V.ref p.1) ∧ (∀ p ∈ ks, SqT K G p.1 (p.2.map V.int)) ∧ ks.length ≤ 4000 ∧ Q (.int ((firsts (ks.map (·.2))).length : Nat)) G
theorem pe_lenV {e : Expr} {ta : TE} {p1 p2 p3 p4 : Pos} (K : PySem.W.Frag) (hg1 : Gl X "len") (hm1 : X.mg "len" = none) (hg2 : Gl X "set") (hm2 : X.mg "set" = none) (he : PE X e ta) (hu : X.A.units + 64 < cLine) (hc : X.calm = true := by rfl) (hK : X.K = K := by rfl)
    (ns : starEach [e] X.env = (false, eval e X.env) :: starEach [] X.env := by rfl) : PE X (.Call (.Name "len" p1) [.Call (.Name "set" p2) [e] [] p3] [] p4) (tLenV K ta) := by
  subst hK
  refine ⟨fun pins s σ H Q I h => ?_⟩
  refine Call_ (ld_blt I hg1 hm1 PySem.boot_len (PyProof.Rows.callWith_builtin1 (PyProof.Rows.args_cons ?_ rfl) rfl rfl))
  refine Call_ (ld_blt I hg2 hm2 PyProof.Rows.boot_set (PyProof.Rows.callWith_type1 (PyProof.Rows.args_cons (thn (he.run pins s σ H _ I h) fun v s1 q => PyProof.Rows.args_nil ?_) ns) ns rfl))
  obtain ⟨x, G, I1, r, l, ks, rfl, hl, hk, few, q⟩ := q
  cases r
  obtain ⟨its, rv, pl, _⟩ := I1.list hl
  refine call_setV ks (I1.ok.hd hc) pl.isList (by simpa using refs_of_vals rv) (fun p m => I1.isT (hk p m)) few (by omega) fun g tk L es ep tb R gt keep => PyProof.Rows.args_nil ?_
  obtain ⟨o, ho, hex, hd⟩ := R.ob
  have sz := rows_size R.rows
  have n1 := got_count gt R.nd
  have le : L.length ≤ 4000 := Nat.le_trans gt.len few
  have I2 : Inv X pins σ G { s1 with heap := g, toks := tk } := I1.kept keep
  exact call_len_set ho hex hd (SetW.fits (s := { s1 with heap := g, toks := tk }) R) (by omega) ⟨.int ((firsts (ks.map (·.2))).length : Nat), G, I2.tok _, ⟨_, by rw [sz, n1]⟩, q⟩
end
end Ms
set_option Elab.async false
set_option linter.all false
set_option maxRecDepth 100000
set_option maxHeartbeats 4000000
/-! Ms: how many pairs two rows have: as many as one of them has cells when it tells the other. -/
namespace Ms
open PySem PySem.Spec PyProof.Rows L2
theorem zipC_fine {r t : List Nat} (h : r.length = t.length) (c : (firsts (r.zip t)).length = (firsts r).length) : Alike (r.zip t) r := by
  have len : (r.zip t).length = r.length := by rw [List.length_zip]; omega
  refine ⟨len, fun i j a b x y h1 h2 h3 h4 => ⟨fun e => ?_, fun e => ?_⟩⟩
  · obtain ⟨k1, _⟩ := List.getElem?_zip_eq_some.mp h1
    obtain ⟨k2, _⟩ := List.getElem?_zip_eq_some.mp h2
    rw [h3] at k1
    rw [h4] at k2
    rw [Option.some.inj k1, Option.some.inj k2, e]
  · obtain ⟨k1, _⟩ := List.getElem?_zip_eq_some.mp h1
    obtain ⟨k2, _⟩ := List.getElem?_zip_eq_some.mp h2
    rw [h3] at k1
    rw [h4] at k2
    have ea : a.1 = b.1 := by rw [← Option.some.inj k1, ← Option.some.inj k2, e]
    refine Classical.byContradiction fun ne => ?_
    have ma : a ∈ firsts (r.zip t) := (mem_firsts _ _).mpr (List.mem_of_getElem? h1)
    have mb : b ∈ firsts (r.zip t) := (mem_firsts _ _).mpr (List.mem_of_getElem? h2)
    have le := nat_nodup_len (firsts r) (((firsts (r.zip t)).erase b).map (·.1)) (firsts_nodup r) fun x hx => by
      obtain ⟨n, hn⟩ := List.mem_iff_getElem?.mp ((mem_firsts _ _).mp hx)
      have nl : n < t.length := by rw [← h]; exact ltE hn
      have mz : (x, t[n]) ∈ firsts (r.zip t) := (mem_firsts _ _).mpr (List.mem_of_getElem? (List.getElem?_zip_eq_some.mpr ⟨hn, getE nl⟩))
      by_cases q : (x, t[n]) = b
      · refine List.mem_map.mpr ⟨a, (List.mem_erase_of_ne ne).mpr ma, ?_⟩
        rw [ea, ← q]
      · exact List.mem_map.mpr ⟨_, (List.mem_erase_of_ne q).mpr mz, rfl⟩
    have pos := List.length_pos_of_mem mb
    rw [List.length_map, List.length_erase_of_mem mb] at le
    omega
theorem zipC_left {r t : List Nat} (hr : Row r) (h : r.length = t.length) (c : (firsts (r.zip t)).length = (firsts r).length) : ren (r.zip t) = r := (ren_alike (zipC_fine h c)).1.trans hr
theorem zipC_swap : ∀ r t : List Nat, t.zip r = (r.zip t).map Prod.swap
  | [], t => by cases t <;> rfl
  | _ :: _, [] => rfl
  | a :: r, b :: t => congrArg ((b, a) :: ·) (zipC_swap r t)
theorem zipC_right {r t : List Nat} (ht : Row t) (h : r.length = t.length) (c : (firsts (r.zip t)).length = (firsts t).length) : ren (r.zip t) = t := by
  have al : Alike (r.zip t) (t.zip r) := by
    rw [zipC_swap r t]
    exact alike_map fun a b e => Prod.swap_inj.mp e
  rw [(ren_alike al).1]
  exact zipC_left ht h.symm (by rw [← (ren_alike al).2]; exact c)
/-- pairs of ints that stand in the heap, as keys -/
theorem zipC_keys {H : Hp} : ∀ {ts : List Addr} {ps : List (Nat × Nat)}, Paired (fun (t : Addr) (q : V × V) => H t = some (.tup [q.1, q.2])) ts (ps.map fun p => (V.int (p.1 : Nat), V.int (p.2 : Nat))) →
    ∃ ks : List (Addr × List Int), ts.map V.ref = ks.map (fun p => V.ref p.1) ∧ ks.map (·.2) = ps.map (fun p => [((p.1 : Nat) : Int), ((p.2 : Nat) : Int)]) ∧ ∀ p ∈ ks, H p.1 = some (.tup (p.2.map V.int))
  | [], [], _ => ⟨[], rfl, rfl, fun p m => nomatch m⟩
  | t :: ts, p :: ps, h => by
    cases h with
    | cons h tl =>
      obtain ⟨ks, e1, e2, e3⟩ := zipC_keys tl
      refine ⟨(t, [((p.1 : Nat) : Int), ((p.2 : Nat) : Int)]) :: ks, by rw [List.map_cons, List.map_cons, e1], by rw [List.map_cons, List.map_cons, e2], fun q m => ?_⟩
      rcases List.mem_cons.mp m with rfl | m
      · exact h
      · exact e3 q m
  | [], _ :: _, h => by cases h
  | _ :: _, [], h => by cases h
theorem zipC_count (ps : List (Nat × Nat)) : (firsts (ps.map fun p => [((p.1 : Nat) : Int), ((p.2 : Nat) : Int)])).length = (firsts ps).length := by
  refine ((ren_alike (alike_map fun a b e => ?_)).2).symm
  injection e with e1 e2
  injection e2 with e2 _
  exact Prod.ext (by omega) (by omega)
end Ms
set_option Elab.async false
set_option linter.all false
set_option maxRecDepth 100000
set_option maxHeartbeats 4000000
namespace K01
open PySem PySem.Spec PyProof.Rows L2 Ms
/-- Sight(marks), behind its argument -/
theorem make_fin {K : PySem.W.Frag} {H : Hp} {R : Addr → Hp → Prop} {E : XK} {a : Addr} {r : List Nat} (hm : MarksAt K H a r) (h1 : 0 < r.length → ∀ H' p, Same H H' → H p = none → SightAt K H' p r → R p H') (h2 : r.length = 0 → ∀ H', Same H H' → E (.ref (ND K)) none H') :
    ∀ x dx, H x = none → H dx = none → dx ≠ x → spInit K [.ref x, .ref a] (upd (upd H dx (.own x)) x (.ins (CS K) dx [])) (fun v H2 => v = .non ∧ R x H2) E := by
  intro x dx nx nd ne
  have s0 : Same H (upd (upd H dx (.own x)) x (.ins (CS K) dx [])) := fun b o q => by
    rw [upd_ne (fun z => by rw [z, nx] at q; cases q), upd_ne (fun z => by rw [z, nd] at q; cases q)]
    exact q
  exact ⟨x, dx, a, r, rfl, upd_same .., hm.same s0, fun hp H' k ⟨t, c, g1, g2, g3⟩ => ⟨rfl, h1 hp H' x (fun b o q => k b o (fun z => by rw [z, nx] at q; cases q) (s0 _ _ q)) nx ⟨⟨dx, t, c, g1, g2, g3⟩, hm.few.2, hp, hm.few.1⟩⟩, fun e H' s1 => h2 e H' (fun b o q => s1 _ _ (s0 _ _ q))⟩
theorem cells_at {r : List Nat} (h : Row r) {i : Nat} (hi : i < r.length) : (cellsOf r)[at0 r i]? = some (places (at0 r i) r) := by
  have e : firsts r = List.range (firsts r).length := by
    have q := firsts_ren r
    rw [show ren r = r from h] at q
    exact q
  have l : at0 r i < (firsts r).length := by
    have q := of_at0 hi
    rw [← show ren r = r from h] at q
    have q2 := ren_lt (List.mem_of_getElem? q)
    rw [show ren r = r from h] at q2
    exact q2
  unfold cellsOf
  rw [List.getElem?_map, e, List.getElem?_range l] <;> rfl
/-- numbers of a sight by its cells -/
def spGet (K : PySem.W.Frag) : Sp := fun vs H Q _ => ∃ p r, vs = [.ref p] ∧ SightAt K H p r ∧ ∀ c, CellsAt H c (cellsOf r) → Q (.ref c) H
def spCellOf (K : PySem.W.Frag) : Sp := fun vs H Q _ => ∃ (p : Addr) (r : List Nat) (i : Nat), vs = [.ref p, .int (i : Nat)] ∧ SightAt K H p r ∧ i < r.length ∧ ∀ c, H c = some (.tup (nV (places (at0 r i) r))) → Q (.ref c) H
def spAlike (K : PySem.W.Frag) : Sp := fun vs H Q _ => ∃ (p : Addr) (r : List Nat) (i j : Nat), vs = [.ref p, .int (i : Nat), .int (j : Nat)] ∧ SightAt K H p r ∧ i < r.length ∧ j < r.length ∧ Q (.bl (decide (at0 r i = at0 r j))) H
def spEq (K : PySem.W.Frag) : Sp := fun vs H Q _ => ∃ p r y, vs = [.ref p, y] ∧ SightAt K H p r ∧ ((∃ q t, y = .ref q ∧ SightAt K H q t ∧ Q (.bl (decide (r = t))) H) ∨ ∃ ty, TyX K H y ty ∧ PySem.W.kitOne K ty (.ref (CS K)) = some false ∧ Q (.bl false) H)
/-- the error of two sizes -/
def Differ (K : PySem.W.Frag) (H : Hp) (E : XK) (m n : Nat) : Prop := ∀ d H', H d = none → H' d = some (.xd [("two", .int (n : Nat)), ("one", .int (m : Nat))]) → (∀ b, b ≠ d → H' b = H b) → E (.ref (SD K)) (some d) H'
def spAnd (K : PySem.W.Frag) : Sp := fun vs H Q E => ∃ p q r t, vs = [.ref p, .ref q] ∧ SightAt K H p r ∧ SightAt K H q t ∧ (r.length = t.length → r.length ≤ 4000 ∧ ∀ H' x, Same H H' → SightAt K H' x (ren (r.zip t)) → Q (.ref x) H') ∧ (r.length ≠ t.length → Differ K H E r.length t.length)
def spOr (K : PySem.W.Frag) : Sp := fun vs H Q E => ∃ p q r t, vs = [.ref p, .ref q] ∧ SightAt K H p r ∧ SightAt K H q t ∧ (r.length = t.length → ∀ H' x u, Same H H' → H x = none → SightAt K H' x u → Joins r t u → Q (.ref x) H') ∧ (r.length ≠ t.length → Differ K H E r.length t.length)
def spNothing (K : PySem.W.Frag) : Sp := fun vs H Q _ => ∃ n : Nat, vs = [.ref (CS K), .int (n : Nat)] ∧ 0 < n ∧ n ≤ 16777216 ∧ ∀ H' x, Same H H' → H x = none → SightAt K H' x (ren (List.replicate n (0 : Int))) → Q (.ref x) H'
def spEvery (K : PySem.W.Frag) : Sp := fun vs H Q _ => ∃ n : Nat, vs = [.ref (CS K), .int (n : Nat)] ∧ 0 < n ∧ n ≤ 16777216 ∧ ∀ H' x, Same H H' → H x = none → SightAt K H' x (ren ((List.range n).map fun i => ((i : Nat) : Int))) → Q (.ref x) H'
theorem zip_nV (r t : List Nat) : (nV r).zip (nV t) = (r.zip t).map fun p => (V.int (p.1 : Nat), V.int (p.2 : Nat)) := by
  unfold nV
  rw [List.zip_map] <;> rfl
theorem ci (a b : Nat) (h : ((a : Nat) : Int) = (b : Int)) : a = b := by omega
section
variable {P : Program} {w : World} {K : PySem.W.Frag} {mg : Str → Option Value} {base : Heap}
theorem fn_cells (T : Tx K mg) : ∃ fd ps, FnOk P w K mg base (L2.CX P w) 1 (recAt K "property" "Sight" "cells") fd ps (spGet K) ∧ Binds K fd ps [] := by
  refine fn_ok T.d_Sight_cells scSight_cells (fun vs H Q E h => ?_) bi_Sight_cells fun cdv A outer s H vs Q E hr h => ?_
  · obtain ⟨p, r, rfl, _⟩ := h
    rfl
  obtain ⟨p, r, rfl, hp, hQ⟩ := h
  obtain ⟨dx, t, c, e1, e2, e3⟩ := hp.ex
  exact ⟨_, (pss_one (ps_ret (pe_fld (pv 0) rfl))), _, rfl, p, _, dx, _, _, rfl, e1, T.c_Sight, T.n_cells, rfl, hQ c e3⟩
theorem mok_alike (T : Tx K mg) : MOk P w K mg base "Sight" "alike" 1 (spAlike K) := by
  refine ⟨fn_ok T.d_Sight_alike scSight_alike (fun vs H Q E h => ?_) bi_Sight_alike fun cdv A outer s H vs Q E hr h => ?_, T.c_Sight, T.m_alike⟩
  · obtain ⟨p, r, i, j, rfl, _⟩ := h
    rfl
  obtain ⟨p, r, i, j, rfl, hp, hi, hj, hQ⟩ := h
  obtain ⟨dx, t, c, e1, e2, _⟩ := hp.ex
  refine ⟨_, (pss_one (ps_ret (pe_cmpR op_eq (pe_ix (ixT K) (pe_fld (pv 0) rfl) (pv 1) (fun _ _ => rfl)) (pe_ix (ixT K) (pe_fld (pv 0) rfl) (pv 2) (fun _ _ => rfl)) (nomark _)))), ?_⟩
  refine ⟨_, rfl, p, _, dx, _, _, rfl, e1, T.c_Sight, T.n_marks, rfl, _, rfl, t, _, _, _, rfl, rfl, .inl (.inl e2), atI_nat (nV_at0 hi), _, rfl, p, _, dx, _, _, rfl, e1, T.c_Sight, T.n_marks, rfl, _, rfl, t, _, _, _, rfl, rfl, .inl (.inl e2), atI_nat (nV_at0 hj), rfl, ?_⟩
  have e : decide (V.int (at0 r i : Nat) = V.int (at0 r j : Nat)) = decide (at0 r i = at0 r j) := by
    by_cases z : at0 r i = at0 r j
    · rw [z]; simp
    · have n : ¬ V.int (at0 r i : Nat) = V.int (at0 r j : Nat) := fun q => z (ci _ _ (V.int.inj q))
      rw [decide_eq_false n, decide_eq_false z]
  show Q (.bl (decide (V.int (at0 r i : Nat) = V.int (at0 r j : Nat)))) H
  rw [e]
  exact hQ
theorem ints_eq (r t : List Nat) : decide ((r.map fun n => ((n : Nat) : Int)) = t.map fun n => ((n : Nat) : Int)) = decide (r = t) := by
  by_cases h : r = t
  · rw [h]; simp
  · rw [decide_eq_false h, decide_eq_false]
    intro z
    exact h ((List.map_inj_right ci).mp z)
theorem bok_eq (T : Tx K mg) : BOk P w K mg base "Sight" "__eq__" 1 (spEq K) := by
  refine ⟨fn_ok T.d_Sightu__equ_ scSightu__equ_ (fun vs H Q E h => ?_) bi_Sightu__equ_ fun cdv A outer s H vs Q E hr h => ?_, T.o_eq.sf, T.o_eq.fi, T.o_eq.fn⟩
  · obtain ⟨p, r, y, rfl, _⟩ := h
    rfl
  obtain ⟨p, r, y, rfl, hp, h⟩ := h
  refine ⟨_, (pss_one (ps_ret (pe_and (pe_callB (isK K) (by rfl) T.f_isinstance (by decide +kernel) (pa_cons (pv 1) (pa_cons (pe_glob (v := .ref (He.ga K "Sight")) rfl T.g_Sight rfl) pa_nil))) (pe_one (pe_cmpR (eqK K (hu := hr.units)) (pe_fld (pv 0) rfl) (pe_fld (pv 1) rfl) (nomark _)))))), ?_⟩
  obtain ⟨dx, t, c, e1, e2, _⟩ := hp.ex
  rcases h with ⟨q, u, rfl, hq, hQ⟩ | ⟨ty, h1, h2, hQ⟩
  · obtain ⟨dy, t', c', g1, g2, _⟩ := hq.ex
    refine ⟨_, rfl, .ref q, .ref (CS K), _, _, true, rfl, .own _, .of (.base (.ins g1 T.c_Sight T.cl_Sight.ca T.cl_Sight.cg T.cl_Sight.ct T.cl_Sight.ob)), T.is_Sight_Sight, true, rfl, ?_⟩
    refine iteT ?_
    refine ⟨_, rfl, p, _, dx, _, _, rfl, e1, T.c_Sight, T.n_marks, rfl, _, rfl, q, _, dy, _, _, rfl, g1, T.c_Sight, T.n_marks, rfl, _, _, .tup (.inl (.inl e2)) (by rw [nV_int]; exact dpI _), .tup (.inl (.inl g2)) (by rw [nV_int]; exact dpI _), shT _, shT _, ?_⟩
    rw [eqvT, ints_eq]
    exact hQ
  · refine ⟨_, rfl, y, .ref (CS K), ty, _, false, rfl, .own _, .of h1, h2, false, rfl, ?_⟩
    exact iteF hQ
theorem bok_and (T : Tx K mg) : BOk P w K mg base "Sight" "__and__" 4 (spAnd K) := by
  have O_check_sizes : Ok P w K mg base "check_sizes" 3 (spCheck K) := ok_check_sizes T
  have O_Sightu__initu_ : COk P w K mg base "Sight" 2 (spInit K) := cok T
  refine ⟨fn_okX T.d_Sightu__andu_ scSightu__andu_ (fun vs H Q E h => ?_) bi_Sightu__andu_ fun cdv A outer s H vs Q E hr h => ?_, T.o_and.sf, T.o_and.fi, T.o_and.fn⟩
  · obtain ⟨p, q, r, t, rfl, _⟩ := h
    rfl
  obtain ⟨p, q, r, t, rfl, hp, hq, h1, h2⟩ := h
  refine ⟨_, (pss_cons (ps_expr (pe_c O_check_sizes hr (by decide) (passAt (takes_of rfl rfl rfl rfl)) (pa_cons (pv 0) (pa_cons (pv 1) pa_nil))))
  (pss_cons (ps_set (i := 2) scSightu__andu_.nd rfl (by first | exact Or.inl rfl | exact Or.inr rfl) (pe_lzip (by rfl) T.f_zip (by rfl) T.f_list (by decide +kernel) (pa_cons (pe_fld (pv 0) rfl) (pa_cons (pe_fld (pv 1) rfl) pa_nil))))
  (pss_cons (ps_set (i := 3) scSightu__andu_.nd rfl (by first | exact Or.inl rfl | exact Or.inr rfl) (pe_lenV K (by rfl) T.f_len (by rfl) T.f_set (pv 2) hr.units))
  (pss_cons (ps_if (pt_cmpR op_eq (pv 3) (pe_callB (lenK K) (by rfl) T.f_len boot_len (pa_cons (pe_fld (pv 0) rfl) pa_nil)) (nomark _))
  (pss_one (ps_ret (pv 0)))
  pss_nil)
  (pss_cons (ps_if (pt_cmpR op_eq (pv 3) (pe_callB (lenK K) (by rfl) T.f_len boot_len (pa_cons (pe_fld (pv 1) rfl) pa_nil)) (nomark _))
  (pss_one (ps_ret (pv 1)))
  pss_nil)
  (pss_one (ps_ret (pe_n (E := EN) O_Sightu__initu_ hr (by decide) (fun σ => passN σ) (pa_cons (pv 2) pa_nil))))))))), ?_⟩
  obtain ⟨dx, tt, c, e1, e2, e3⟩ := hp.ex
  obtain ⟨dy, tu, c', g1, g2, g3⟩ := hq.ex
  refine ⟨_, rfl, _, rfl, p, q, r, t, rfl, hp, hq, fun he => ?_, fun he d H' nd hd ho => h2 he d H' nd hd ho⟩
  obtain ⟨few, h1⟩ := h1 he
  have lz : (r.zip t).length = r.length := by rw [List.length_zip]; omega
  refine ⟨_, rfl, p, _, dx, _, _, rfl, e1, T.c_Sight, T.n_marks, rfl, _, rfl, q, _, dy, _, _, rfl, g1, T.c_Sight, T.n_marks, rfl, tt, tu, _, _, rfl, .inl (.inl e2), .inl (.inl g2), by rw [nV_len, nV_len]; exact he, fun H1 x ts s1 nx nts xts hx hts => ?_⟩
  rw [zip_nV] at hts
  obtain ⟨ks, k1, k2, k3⟩ := zipC_keys hts
  have kl : ks.length = r.length := by
    have z := congrArg List.length k2
    rw [List.length_map, List.length_map, lz] at z
    exact z
  refine ⟨_, rfl, x, ks, rfl, .inl (.inl (by rw [← k1]; exact hx)), fun p m => .inl (.inl (k3 p m)), by omega, ?_⟩
  rw [k2, zipC_count]
  obtain ⟨us, u1, u2⟩ := e3
  obtain ⟨ws, w1, w2⟩ := g3
  have cnt : ∀ {us : List Addr} {v : List Nat}, Paired (fun t c => H t = some (.tup (nV c))) us (cellsOf v) → (us.map V.ref).length = (firsts v).length := fun {us v} h => by
    rw [List.length_map, Paired.length h]
    exact List.length_map _
  refine ⟨_, rfl, _, rfl, p, _, dx, _, _, rfl, s1 _ _ e1, T.c_Sight, T.n_cells, rfl, c, _, rfl, .inr (.inl (.inl (s1 _ _ u1))), rfl, _, rfl, ?_⟩
  rw [cnt u2]
  by_cases c1 : (firsts (r.zip t)).length = (firsts r).length
  · rw [show decide (V.int ((firsts (r.zip t)).length : Nat) = V.int ((firsts r).length : Nat)) = true by rw [c1]; simp]
    refine iteT ⟨_, rfl, ?_⟩
    refine h1 H1 p s1 ?_
    rw [zipC_left hp.row he c1]
    exact hp.same s1
  rw [show decide (V.int ((firsts (r.zip t)).length : Nat) = V.int ((firsts r).length : Nat)) = false from decide_eq_false fun z => c1 (by have := V.int.inj z; omega)]
  refine iteF ?_
  refine ⟨_, rfl, _, rfl, q, _, dy, _, _, rfl, s1 _ _ g1, T.c_Sight, T.n_cells, rfl, c', _, rfl, .inr (.inl (.inl (s1 _ _ w1))), rfl, _, rfl, ?_⟩
  rw [cnt w2]
  by_cases c2 : (firsts (r.zip t)).length = (firsts t).length
  · rw [show decide (V.int ((firsts (r.zip t)).length : Nat) = V.int ((firsts t).length : Nat)) = true by rw [c2]; simp]
    refine iteT ⟨_, rfl, ?_⟩
    refine h1 H1 q s1 ?_
    rw [zipC_right hq.row he c2]
    exact hq.same s1
  rw [show decide (V.int ((firsts (r.zip t)).length : Nat) = V.int ((firsts t).length : Nat)) = false from decide_eq_false fun z => c2 (by have := V.int.inj z; omega)]
  refine iteF ?_
  have hm : MarksAt K H1 x (ren (r.zip t)) := by
    refine ⟨ts.map V.ref, ?_, .inr ⟨ts, (r.zip t).map fun p => (((p.1 : Nat) : Int), ((p.2 : Nat) : Int)), rfl, (ren_map fun a b z => ?_).symm, pmap2 hts, .inl (.inl hx)⟩⟩
    · have := Paired.length hts
      rw [List.length_map] at this
      rw [List.length_map, this, lz]
      have := hp.few
      omega
    · obtain ⟨z1, z2⟩ := Prod.mk.inj z
      exact Prod.ext (ci _ _ z1) (ci _ _ z2)
  refine ⟨_, rfl, ?_⟩
  refine make_fin hm (fun _ H' z s2 nz hz => h1 H' z (fun b o k => s2 _ _ (s1 _ _ k)) hz) fun z => ?_
  rw [ren_len, lz] at z
  have := hp.pos
  omega
where
  pmap2 {H : Hp} : ∀ {ts : List Addr} {ps : List (Nat × Nat)}, Paired (fun (t : Addr) (q : V × V) => H t = some (.tup [q.1, q.2])) ts (ps.map fun p => (V.int (p.1 : Nat), V.int (p.2 : Nat))) → Paired (fun t p => H t = some (pairV p)) ts (ps.map fun p => (((p.1 : Nat) : Int), ((p.2 : Nat) : Int)))
    | [], [], _ => .nil
    | _ :: _, _ :: _, h => by
      cases h with
      | cons h t => exact .cons h (pmap2 t)
    | [], _ :: _, h => by cases h
    | _ :: _, [], h => by cases h
theorem bok_or (T : Tx K mg) : BOk P w K mg base "Sight" "__or__" 4 (spOr K) := by
  have O_check_sizes : Ok P w K mg base "check_sizes" 3 (spCheck K) := ok_check_sizes T
  have O_Sightu__initu_ : COk P w K mg base "Sight" 2 (spInit K) := cok T
  have O_joined_marks : Ok P w K mg base "joined_marks" 1 (spJoin K) := ok_joined_marks T
  refine ⟨fn_okX T.d_Sightu__oru_ scSightu__oru_ (fun vs H Q E h => ?_) bi_Sightu__oru_ fun cdv A outer s H vs Q E hr h => ?_, T.o_or.sf, T.o_or.fi, T.o_or.fn⟩
  · obtain ⟨p, q, r, t, rfl, _⟩ := h
    rfl
  obtain ⟨p, q, r, t, rfl, hp, hq, h1, h2⟩ := h
  refine ⟨_, (pss_cons (ps_expr (pe_c O_check_sizes hr (by decide) (passAt (takes_of rfl rfl rfl rfl)) (pa_cons (pv 0) (pa_cons (pv 1) pa_nil))))
  (pss_one (ps_ret (pe_n (E := EN) O_Sightu__initu_ hr (by decide) (fun σ => passN σ) (pa_cons (pe_c (E := EN) O_joined_marks hr (by decide) (fun σ => passN σ) (pa_cons (pe_fld (pv 0) rfl) (pa_cons (pe_fld (pv 1) rfl) pa_nil))) pa_nil))))), ?_⟩
  obtain ⟨dx, tt, c, e1, e2, _⟩ := hp.ex
  obtain ⟨dy, tu, c', g1, g2, _⟩ := hq.ex
  refine ⟨_, rfl, _, rfl, p, q, r, t, rfl, hp, hq, fun he => ?_, fun he d H' nd hd ho => h2 he d H' nd hd ho⟩
  refine ⟨_, rfl, p, _, dx, _, _, rfl, e1, T.c_Sight, T.n_marks, rfl, _, rfl, q, _, dy, _, _, rfl, g1, T.c_Sight, T.n_marks, rfl, tt, tu, r, t, rfl, .inl (.inl e2), .inl (.inl g2), he, row_lt hp.row, hp.few, fun H1 x u s1 nx hx hj => ?_⟩
  have hm : MarksAt K H1 x (ren u) := by
    refine ⟨nV u, ?_, .inl ⟨u.map fun n => ((n : Nat) : Int), nV_int u, (ren_map ci).symm, .inl (.inl (.inl hx))⟩⟩
    rw [nV_len, hj.1]
    exact hp.few
  refine make_fin hm (fun _ H' z s2 nz hz => h1 he H' z _ (fun b o k => s2 _ _ (s1 _ _ k)) (Same.free s1 nz) hz hj.ren) fun z => ?_
  rw [ren_len, hj.1] at z
  have := hp.pos
  omega
theorem fr_nothing (T : Tx K mg) : FnR P w K mg base (L2.CX P w) 4 (recAt K "classmethod" "Sight" "nothing") (spNothing K) := by
  have C : COk P w K mg base "Sight" 2 (spInit K) := cok T
  have F : ∃ fd ps, FnOk P w K mg base (L2.CX P w) 4 (recAt K "classmethod" "Sight" "nothing") fd ps (spNothing K) ∧ Binds K fd ps [] := by
    refine fn_ok T.d_Sight_nothing scSight_nothing (fun vs H Q E h => ?_) bi_Sight_nothing fun cdv A outer s H vs Q E hr h => ?_
    · obtain ⟨n, rfl, _⟩ := h
      rfl
    obtain ⟨n, rfl, hn, hz, hQ⟩ := h
    refine ⟨_, (pss_one (ps_ret (pe_nL (i := 0) (E := EN) C hr (by decide) (fun σ => passN σ) (pa_cons (pe_op op_rep (pe_lst (pa_cons pe_int pa_nil)) (pv 1)) pa_nil) rfl (by first | exact Or.inl rfl | exact Or.inr (Or.inl rfl))))), ?_⟩
    refine ⟨rfl, by show 1 ≤ sizeLine; decide, fun l nl => ?_⟩
    have big : (16777216 : Nat) ≤ sizeLine := by decide
    refine ⟨_, rfl, l, _, _, rfl, rfl, upd_same .., by omega, by omega, by show 1 * ((n : Nat) : Int).toNat ≤ sizeLine; omega, fun p np => ?_⟩
    have pl : p ≠ l := fun z => by rw [z, upd_same] at np; cases np
    have np0 : H p = none := by rw [upd_ne pl] at np; exact np
    have ef : (List.replicate ((n : Nat) : Int).toNat [V.int 0]).flatten = (List.replicate n (0 : Int)).map V.int := by
      have q : ((n : Nat) : Int).toNat = n := by omega
      rw [q]
      simp
    rw [ef]
    refine make_fin (r := ren (List.replicate n (0 : Int))) ⟨_, ?_, .inl ⟨_, rfl, rfl, .inl (.inl (.inl (upd_same ..)))⟩⟩ (fun _ H' x s1 nx hx => hQ H' x (fun b o q => s1 _ _ (same_new np _ _ (same_new nl _ _ q))) ?_ hx) fun z => ?_
    · rw [List.length_map, List.length_replicate]
      exact hz
    · exact (fun s : Same H _ => Same.free s nx) fun b o q => same_new np _ _ (same_new nl _ _ q)
    · rw [ren_len, List.length_replicate] at z
      omega
  obtain ⟨fd, ps, F, hb⟩ := F
  have R := F.raw hb .nil (dvs := [])
  exact R.imp fun vs H Q E h => by rw [List.append_nil]; exact h
theorem fr_every (T : Tx K mg) : FnR P w K mg base (L2.CX P w) 4 (recAt K "classmethod" "Sight" "everything") (spEvery K) := by
  have C : COk P w K mg base "Sight" 2 (spInit K) := cok T
  have F : ∃ fd ps, FnOk P w K mg base (L2.CX P w) 4 (recAt K "classmethod" "Sight" "everything") fd ps (spEvery K) ∧ Binds K fd ps [] := by
    refine fn_ok T.d_Sight_everything scSight_everything (fun vs H Q E h => ?_) bi_Sight_everything fun cdv A outer s H vs Q E hr h => ?_
    · obtain ⟨n, rfl, _⟩ := h
      rfl
    obtain ⟨n, rfl, hn, hz, hQ⟩ := h
    refine ⟨_, (pss_one (ps_ret (pe_nL (i := 0) (E := EN) C hr (by decide) (fun σ => passN σ) (pa_cons (pe_listRg rfl (by rfl) T.f_list (prg_1 (by rfl) T.f_range (pv 1))) pa_nil) rfl (by first | exact Or.inl rfl | exact Or.inr (Or.inl rfl))))), ?_⟩
    refine ⟨rfl, _, rfl, _, rfl, ⟨by omega, by omega, by omega, by omega, by omega⟩, fun p np => ?_⟩
    have ef : rgV 0 ((n : Nat) : Int) = ((List.range n).map fun i => ((i : Nat) : Int)).map V.int := by
      unfold rgV
      rw [List.map_map]
      have q : (((n : Nat) : Int) - 0).toNat = n := by omega
      rw [q]
      refine List.map_congr_left fun i _ => ?_
      show V.int (0 + (i : Int)) = V.int (i : Int)
      rw [Int.zero_add]
    rw [ef]
    refine make_fin (r := ren ((List.range n).map fun i => ((i : Nat) : Int))) ⟨_, ?_, .inl ⟨_, rfl, rfl, .inl (.inl (.inl (upd_same ..)))⟩⟩ (fun _ H' x s1 nx hx => hQ H' x (fun b o q => s1 _ _ (same_new np _ _ q)) ?_ hx) fun z => ?_
    · rw [List.length_map, List.length_map, List.length_range]
      exact hz
    · exact (fun s : Same H _ => Same.free s nx) fun b o q => same_new np _ _ q
    · rw [ren_len, List.length_map, List.length_range] at z
      omega
  obtain ⟨fd, ps, F, hb⟩ := F
  have R := F.raw hb .nil (dvs := [])
  exact R.imp fun vs H Q E h => by rw [List.append_nil]; exact h
end
end K01
set_option Elab.async false
set_option linter.all false
set_option maxRecDepth 100000
set_option maxHeartbeats 4000000
namespace K01
open PySem PySem.Spec PyProof.Rows L2 Ms
def spWhole : Sp := fun vs H Q _ => ∃ i, vs = [.int i] ∧ Q (.bl true) H
def spCellL (K : PySem.W.Frag) : Sp := fun vs H Q _ => ∃ (a : Addr) (ns : List Int) (k : Nat), vs = [.ref a, .int (k : Nat)] ∧ SqL K H a (ns.map V.int) ∧ ∀ z : Int, Q (.int z) H
def spDigits (K : PySem.W.Frag) : Sp := fun vs H Q _ => ∃ (c : Int) (s : Addr) (ss : List Nat), vs = [.int c, .ref s] ∧ SqL K H s (nV ss) ∧ (∀ x ∈ ss, 0 < x ∧ x < 1073741824) ∧ ss.length ≤ 16777216 ∧
  ∀ H' p ds, Same H H' → H p = none → H' p = some (.lst (nV ds)) → ds.length = ss.length → (∀ i, i < ss.length → at0 ds i < at0 ss i) → Q (.ref p) H'
def spGroups (K : PySem.W.Frag) : Sp := fun vs H Q _ => ∃ (a : Addr) (r : List Nat), vs = [.ref a] ∧ SqL K H a (nV r) ∧ Row r ∧ 0 < r.length ∧ r.length ≤ 16777216 ∧
  ∀ H' p ls, Same H H' → H p = none → H' p = some (.lst (ls.map V.ref)) → Paired (fun l c => H' l = some (.lst (nV c))) ls (cellsOf r) → Q (.ref p) H'
def spNumbers (K : PySem.W.Frag) : Sp := fun vs H Q _ => ∃ (t l : Addr) (xs : List Nat), vs = [.ref t, .ref l] ∧ H t = some (.tup (nV xs)) ∧ SqL K H l (nV xs) ∧ xs.length ≤ 16777216 ∧ Q (.bl true) H
def spAgrees (K : PySem.W.Frag) : Sp := fun vs H Q _ => ∃ (p l : Addr) (r : List Nat), vs = [.ref p, .ref l] ∧ SightAt K H p r ∧ SqL K H l (nV r) ∧ ∀ H', Same H H' → Q (.bl true) H'
def spAnswers (K : PySem.W.Frag) : Sp := fun vs H Q _ => ∃ (p l k : Addr) (r ls : List Nat), vs = [.ref p, .ref l, .ref k] ∧ SightAt K H p r ∧ SqL K H l (nV r) ∧ SqL K H k (nV ls) ∧ (∀ x ∈ ls, x < r.length) ∧ ∀ H', Same H H' → Q (.bl true) H'
def spLooked : Sp := fun vs H Q _ => ∃ (n : Nat) (z : Int), vs = [.int (n : Nat), .int z] ∧ 0 < n ∧ n ≤ 16777216 ∧ ∀ H' p ls, Same H H' → H p = none → H' p = some (.lst (nV ls)) → (∀ x ∈ ls, x < n) → Q (.ref p) H'
theorem nz {j : Int} (h : decide (j ≠ 0) = true) : j ≠ 0 := of_decide_eq_true h
theorem modPos {a m : Int} (h : 0 < m) : 0 ≤ a.fmod m ∧ a.fmod m < m := ⟨Int.fmod_nonneg_of_pos _ h, Int.fmod_lt_of_pos _ h⟩
section
variable {P : Program} {w : World} {K : PySem.W.Frag} {mg : Str → Option Value} {base : Heap}
theorem ok__law_whole (T : Tx K mg) : Ok P w K mg base "_law_whole" 1 spWhole := by
  refine ok_of T.a__law_whole sc_law_whole (fun vs H Q E h => ?_) bi__law_whole fun cdv A outer s H vs Q E hr h => ?_
  · obtain ⟨i, rfl, _⟩ := h
    rfl
  obtain ⟨i, rfl, hQ⟩ := h
  refine ⟨_, (pss_one (ps_ret (pe_and (pe_callB (isK K) (by rfl) T.f_isinstance (by decide +kernel) (pa_cons (pv 0) (pa_cons (pe_bltn (v := .ty "int") (by rfl) T.f_int (by decide +kernel) rfl) pa_nil))) (pe_one (pe_not (pe_callB (isK K) (by rfl) T.f_isinstance (by decide +kernel) (pa_cons (pv 0) (pa_cons (pe_bltn (v := .ty "bool") (by rfl) T.f_bool (by decide +kernel) rfl) pa_nil)))))))), ?_⟩
  refine ⟨_, rfl, .int i, .ty "int", _, _, true, rfl, .ty _, .of (.base (.int i)), T.is_int_int, true, rfl, ?_⟩
  refine iteT ?_
  refine ⟨_, rfl, .int i, .ty "bool", _, _, false, rfl, .ty _, .of (.base (.int i)), T.is_int_bool, false, rfl, hQ⟩
theorem wok__law_whole (T : Tx K mg) : WOk P w K mg base "_law_whole" 1 spWhole := by
  obtain ⟨fd, F⟩ := T.d__law_whole
  refine ⟨⟨fd, ["value"], Ms.FunD.warm F sc_law_whole (fun vs H Q E h => ?_) (fun cdv A outer s H vs Q E hr h => ?_), F.bindsN bi__law_whole⟩, T.gd__law_whole, F.kp⟩
  · obtain ⟨i, rfl, _⟩ := h
    rfl
  obtain ⟨i, rfl, hQ⟩ := h
  refine ⟨_, (pss_one (ps_ret (pe_and (pe_callB (isK K) (by rfl) T.f_isinstance (by decide +kernel) (pa_cons (pv 0) (pa_cons (pe_bltn (v := .ty "int") (by rfl) T.f_int (by decide +kernel) rfl) pa_nil))) (pe_one (pe_not (pe_callB (isK K) (by rfl) T.f_isinstance (by decide +kernel) (pa_cons (pv 0) (pa_cons (pe_bltn (v := .ty "bool") (by rfl) T.f_bool (by decide +kernel) rfl) pa_nil)))))))), ?_⟩
  refine ⟨_, rfl, .int i, .ty "int", _, _, true, rfl, .ty _, .of (.base (.int i)), T.is_int_int, true, rfl, ?_⟩
  refine iteT ?_
  refine ⟨_, rfl, .int i, .ty "bool", _, _, false, rfl, .ty _, .of (.base (.int i)), T.is_int_bool, false, rfl, hQ⟩
theorem ok__law_cell (T : Tx K mg) : Ok P w K mg base "_law_cell" 1 (spCellL K) := by
  refine ok_of T.a__law_cell sc_law_cell (fun vs H Q E h => ?_) bi__law_cell fun cdv A outer s H vs Q E hr h => ?_
  · obtain ⟨a, ns, k, rfl, _⟩ := h
    rfl
  obtain ⟨a, ns, k, rfl, ha, hQ⟩ := h
  refine ⟨_, (pss_cons (ps_if (pt_cmpR op_lt (pv 1) (pe_callB (lenK K) (by rfl) T.f_len boot_len (pa_cons (pv 0) pa_nil)) (nomark _))
  (pss_one (ps_ret (pe_ix (ixL K) (pv 0) (pv 1) (fun _ _ => rfl))))
  pss_nil)
  (pss_cons (ps_set (i := 2) sc_law_cell.nd rfl (by first | exact Or.inl rfl | exact Or.inr rfl) pe_int)
  (pss_cons (ps_for PassesOwn.never rfl (pi_list (pv 0)) (pg_name (i := 3) sc_law_cell.nd rfl (by first | exact Or.inl rfl | exact Or.inr rfl))
  (pss_one (ps_set (i := 2) sc_law_cell.nd rfl (by first | exact Or.inl rfl | exact Or.inr rfl) (pe_op op_modN (pe_callTy call_int1 (by rfl) T.f_int (by decide +kernel) (pa_cons (pe_op op_add (pe_op op_mul (pv 2) pe_int) (pe_op op_modN (pe_callTy call_int1 (by rfl) T.f_int (by decide +kernel) (pa_cons (pv 3) pa_nil)) pe_int)) pa_nil)) pe_int))))
  (pss_one (ps_ret (pe_op op_modN (pe_callTy call_int1 (by rfl) T.f_int (by decide +kernel) (pa_cons (pe_op op_mul (pe_op op_mul (pe_op op_add (pv 2) pe_int) (pe_op op_add (pv 1) pe_int)) pe_int) pa_nil)) pe_int)))))), ?_⟩
  refine ⟨_, rfl, _, rfl, a, _, rfl, .inl ha, _, _, rfl, rfl, _, rfl, ?_⟩
  by_cases hk : k < ns.length
  · have e : decide (((k : Nat) : Int) < ((ns.map V.int).length : Nat)) = true := decide_eq_true (by rw [List.length_map]; omega)
    rw [e]
    refine iteT ⟨_, rfl, _, rfl, a, _, _, _, rfl, rfl, ha, atI_nat (by rw [List.getElem?_map, getE hk] <;> rfl), hQ _⟩
  · have e : decide (((k : Nat) : Int) < ((ns.map V.int).length : Nat)) = false := decide_eq_false (by rw [List.length_map]; omega)
    rw [e]
    refine iteF ?_
    refine ⟨_, rfl, a, rfl, ⟨_, ha⟩, for_list (xs := ns.map V.int) (fun i σ H1 => ∃ (sd : Int) (m : Option V), σ = [some (.ref a), some (.int (k : Nat)), some (.int sd), m] ∧ 0 ≤ sd ∧ sd < 1000003 ∧ H1 = H) ?_ ?_ ?_ ?_⟩
    · exact ⟨17, none, rfl, by decide, by decide, rfl⟩
    · rintro i σ H1 _ ⟨_, _, _, _, _, rfl⟩
      exact ha
    · rintro i x σ H1 hx ⟨sd, m, rfl, h1, h2, rfl⟩
      rw [List.getElem?_map] at hx
      cases en : ns[i]? with
      | none => rw [en] at hx; cases hx
      | some n =>
        rw [en] at hx
        cases hx
        refine ⟨_, rfl, _, _, rfl, rfl, .inl ⟨by omega, by omega⟩, _, rfl, .inl ⟨_, rfl, _, _, rfl, rfl, nz rfl, _, _, rfl, rfl, .inl ⟨_, rfl, _, _, rfl, rfl, nz rfl, ?_⟩⟩⟩
        obtain ⟨g1, g2⟩ := modPos (a := sd * 31 + n.fmod 1000003) (m := 1000003) (by decide)
        exact ⟨_, _, rfl, g1, g2, rfl⟩
    · rintro σ H1 ⟨sd, m, rfl, h1, h2, rfl⟩
      refine ⟨_, rfl, _, _, rfl, rfl, _, rfl, _, _, rfl, rfl, _, _, rfl, rfl, .inl ⟨by omega, by omega⟩, _, _, rfl, rfl, .inr ⟨by decide, by decide⟩, .inl ⟨_, rfl, _, _, rfl, rfl, nz rfl, hQ _⟩⟩
end
end K01
set_option Elab.async false
set_option linter.all false
set_option maxRecDepth 100000
set_option maxHeartbeats 4000000
namespace K01
open PySem PySem.Spec PyProof.Rows L2 Ms
theorem digit {a : Int} {n : Nat} (h : 0 < n) : ∃ d : Nat, ((d : Nat) : Int) = a.fmod (n : Nat) ∧ d < n := by
  obtain ⟨g1, g2⟩ := modPos (a := a) (m := (n : Nat)) (by omega)
  exact ⟨(a.fmod (n : Nat)).toNat, by omega, by omega⟩
theorem at0_snoc {l : List Nat} {d j : Nat} : at0 (l ++ [d]) j = if j = l.length then d else at0 l j := by
  unfold at0
  rw [List.getD_eq_getElem?_getD, List.getD_eq_getElem?_getD]
  by_cases e : j = l.length
  · rw [if_pos e, e]; simp
  · rw [if_neg e]
    rcases Nat.lt_or_ge j l.length with h | h
    · rw [List.getElem?_append_left h]
    · have h1 : (l ++ [d])[j]? = none := List.getElem?_eq_none (by rw [List.length_append, List.length_singleton]; omega)
      have h2 : l[j]? = none := List.getElem?_eq_none h
      rw [h1, h2]
section
variable {P : Program} {w : World} {K : PySem.W.Frag} {mg : Str → Option Value} {base : Heap}
theorem ok__law_digits (T : Tx K mg) : Ok P w K mg base "_law_digits" 1 (spDigits K) := by
  refine ok_of T.a__law_digits sc_law_digits (fun vs H Q E h => ?_) bi__law_digits fun cdv A outer s H vs Q E hr h => ?_
  · obtain ⟨c, s, ss, rfl, _⟩ := h
    rfl
  obtain ⟨c, s, ss, rfl, hs, hp, hz, hQ⟩ := h
  have hs1 : ∀ H1 : Hp, Same H H1 → SqL K H1 s (nV ss) := fun H1 q => Same.seq q hs
  refine ⟨_, (pss_cons (ps_set (i := 2) sc_law_digits.nd rfl (by first | exact Or.inl rfl | exact Or.inr rfl) (pe_lst pa_nil))
  (pss_cons (ps_set (i := 3) sc_law_digits.nd rfl (by first | exact Or.inl rfl | exact Or.inr rfl) (pe_callB (call_max2 rfl) (by rfl) T.f_max (by decide +kernel) (pa_cons pe_int (pa_cons (pe_op op_sub (pe_callTy call_int1 (by rfl) T.f_int (by decide +kernel) (pa_cons (pv 0) pa_nil)) (pe_op op_pow pe_int pe_int)) pa_nil))))
  (pss_cons (ps_set (i := 4) sc_law_digits.nd rfl (by first | exact Or.inl rfl | exact Or.inr rfl) (pe_op op_modN (pe_callTy call_int1 (by rfl) T.f_int (by decide +kernel) (pa_cons (pv 0) pa_nil)) pe_int))
  (pss_cons (ps_for PassesOwn.never rfl (pi_range1 rfl T.f_range (pa_cons (pe_callB (lenK K) (by rfl) T.f_len boot_len (pa_cons (pv 1) pa_nil)) pa_nil)) (pg_name (i := 5) sc_law_digits.nd rfl (by first | exact Or.inl rfl | exact Or.inr rfl))
  (pss_cons (ps_set (i := 4) sc_law_digits.nd rfl (by first | exact Or.inl rfl | exact Or.inr rfl) (pe_op op_modN (pe_callTy call_int1 (by rfl) T.f_int (by decide +kernel) (pa_cons (pe_op op_add (pe_op op_add (pe_op op_mul (pv 4) pe_int) (pe_op op_mul pe_int (pv 5))) pe_int) pa_nil)) pe_int))
    (pss_one (ps_if (pt_cmpR op_gt (pv 3) pe_int (nomark _))
    (pss_cons (ps_expr (pe_bm PySem.F.plainAttrs_list PySem.F.slot_list_append PySem.F.type_list_append mt_append (pv 2) (pa_cons (pe_op op_modN (pe_callTy call_int1 (by rfl) T.f_int (by decide +kernel) (pa_cons (pv 3) pa_nil)) (pe_ix (ixL K) (pv 1) (pv 5) (fun _ _ => rfl))) pa_nil)))
      (pss_one (ps_set (i := 3) sc_law_digits.nd rfl (by first | exact Or.inl rfl | exact Or.inr rfl) (pe_op op_fdivN (pe_callTy call_int1 (by rfl) T.f_int (by decide +kernel) (pa_cons (pv 3) pa_nil)) (pe_ix (ixL K) (pv 1) (pv 5) (fun _ _ => rfl))))))
    (pss_cons (ps_set (i := 6) sc_law_digits.nd rfl (by first | exact Or.inl rfl | exact Or.inr rfl) (pe_op op_modN (pe_callTy call_int1 (by rfl) T.f_int (by decide +kernel) (pa_cons (pe_op op_mul (pv 4) (pe_op op_add (pe_op op_fdivN (pv 4) pe_int) pe_int)) pa_nil)) pe_int))
      (pss_one (ps_expr (pe_bm PySem.F.plainAttrs_list PySem.F.slot_list_append PySem.F.type_list_append mt_append (pv 2) (pa_cons (pe_op op_modN (pe_op op_fdivN (pv 6) pe_int) (pe_ix (ixL K) (pv 1) (pv 5) (fun _ _ => rfl))) pa_nil)))))))))
  (pss_one (ps_ret (pv 2))))))), ?_⟩
  refine ⟨Nat.zero_le _, fun l nl => ?_⟩
  have s0 := same_new (o := .lst []) nl
  refine ⟨_, rfl, .inl ⟨_, rfl, _, _, rfl, rfl, ⟨by decide, by decide, by decide⟩, _, _, rfl, rfl, _, _, rfl, ?_⟩⟩
  have r0 : (0 : Int) ≤ if c - 10 ^ (18 : Int).toNat > 0 then c - 10 ^ (18 : Int).toNat else 0 := by
    by_cases e : c - 10 ^ (18 : Int).toNat > 0
    · rw [if_pos e]; omega
    · rw [if_neg e]; decide
  generalize (if c - 10 ^ (18 : Int).toNat > 0 then c - 10 ^ (18 : Int).toNat else 0) = rest0 at r0
  refine ⟨_, rfl, .inl ⟨_, rfl, _, _, rfl, rfl, nz rfl, ?_⟩⟩
  obtain ⟨g1, g2⟩ := modPos (a := c) (m := 2147483629) (by decide)
  dsimp only
  generalize c.fmod 2147483629 = seed0 at g1 g2
  refine ⟨_, rfl, s, _, rfl, .inl (hs1 _ s0), _, rfl, by omega, by rw [nV_len]; omega, ?_⟩
  have en : (((nV ss).length : Nat) : Int).toNat = ss.length := by rw [nV_len]; omega
  rw [en]
  refine for_it walk_range (fun i σ H1 => ∃ (rest seed : Int) (m5 m6 : Option V) (ds : List Nat), σ = [some (.int c), some (.ref s), some (.ref l), some (.int rest), some (.int seed), m5, m6] ∧ 0 ≤ rest ∧ 0 ≤ seed ∧ seed < 2147483647 ∧ Same H H1 ∧ H1 l = some (.lst (nV ds)) ∧ ds.length = i ∧ ∀ j, j < i → at0 ds j < at0 ss j) ?_ (fun _ _ _ _ _ => trivial) ?_ ?_
  · exact ⟨rest0, seed0, none, none, [], rfl, r0, g1, by omega, s0, upd_same .., rfl, fun j hj => absurd hj (Nat.not_lt_zero _)⟩
  · rintro i x σ H1 H2 hi ⟨rest, seed, m5, m6, ds, rfl, h1, h2, h3, s1, hl, hlen, hlt⟩ ⟨rfl, hx⟩
    have hx : x = .int (i : Nat) := hx.trans (congrArg V.int (Int.zero_add _))
    subst hx
    have hss := hs1 _ s1
    have szp := hp _ (List.mem_of_getElem? (of_at0 hi))
    refine ⟨_, rfl, _, _, rfl, rfl, .inl ⟨by omega, by omega⟩, _, rfl, _, _, rfl, rfl, .inl ⟨by decide, by decide⟩, _, _, rfl, rfl, _, _, rfl, rfl, .inl ⟨_, rfl, _, _, rfl, rfl, nz rfl, ?_⟩⟩
    obtain ⟨k1, k2⟩ := modPos (a := seed * 48271 + 974711 * (i : Nat) + 12345) (m := 2147483647) (by decide)
    dsimp only
    generalize (seed * 48271 + 974711 * ((i : Nat) : Int) + 12345).fmod 2147483647 = seed1 at k1 k2
    refine ⟨_, rfl, _, _, rfl, rfl, _, rfl, ?_⟩
    have ap : ∀ d : Nat, d < at0 ss i → Same H (upd H2 l (.lst (nV (ds ++ [d])))) ∧ upd H2 l (.lst (nV (ds ++ [d]))) l = some (.lst (nV (ds ++ [d]))) ∧ (ds ++ [d]).length = i + 1 ∧ ∀ j, j < i + 1 → at0 (ds ++ [d]) j < at0 ss j := fun d hd => by
      refine ⟨fun b o q => ?_, upd_same .., by rw [List.length_append, hlen, List.length_singleton], fun j hj => ?_⟩
      · rw [upd_ne (fun z => by rw [z, nl] at q; cases q)]
        exact s1 _ _ q
      · rw [at0_snoc]
        by_cases e : j = ds.length
        · rw [if_pos e, e, hlen]; exact hd
        · rw [if_neg e]
          exact hlt j (by omega)
    by_cases hr0 : (0 : Int) < rest
    · rw [show decide (rest > 0) = true from decide_eq_true hr0]
      refine iteT ?_
      obtain ⟨d, hd, hdl⟩ := digit (a := rest) szp.1
      refine ⟨_, rfl, .inl ⟨rfl, _, .inl (.inl hl)⟩, _, rfl, .inl ⟨_, rfl, _, rfl, _, rfl, s, _, _, _, rfl, rfl, hss, atI_nat (nV_at0 hi), _, _, rfl, rfl, by show ((at0 ss i : Nat) : Int) ≠ 0; omega, l, _, _, rfl, rfl, hl, by rw [nV_len, hlen]; exact fewS (by omega), ?_⟩⟩
      dsimp only
      rw [← hd, nV_snoc]
      obtain ⟨a1, a2, a3, a4⟩ := ap d hdl
      refine ⟨_, rfl, .inl ⟨_, rfl, _, rfl, _, rfl, s, _, _, _, rfl, rfl, hs1 _ a1, atI_nat (nV_at0 hi), _, _, rfl, rfl, ⟨by omega, by omega⟩, ?_⟩⟩
      exact ⟨_, seed1, _, _, ds ++ [d], rfl, Int.fdiv_nonneg (by omega) (by omega), k1, k2, a1, a2, a3, a4⟩
    · rw [show decide (rest > 0) = false from decide_eq_false hr0]
      refine iteF ?_
      refine ⟨_, rfl, _, rfl, _, _, rfl, rfl, ⟨by decide, by decide⟩, _, _, rfl, rfl, _, _, rfl, rfl, .inl ⟨by omega, by omega⟩, .inl ⟨_, rfl, _, _, rfl, rfl, nz rfl, ?_⟩⟩
      dsimp only
      generalize (seed1 * (seed1.fdiv 65537 + 3)).fmod 2147483629 = tw
      obtain ⟨d, hd, hdl⟩ := digit (a := tw.fdiv 19) szp.1
      refine ⟨_, rfl, .inl ⟨rfl, _, .inl (.inl hl)⟩, _, rfl, _, _, rfl, rfl, ⟨by decide, by decide⟩, _, rfl, _, rfl, s, _, _, _, rfl, rfl, hss, atI_nat (nV_at0 hi), _, _, rfl, rfl, by show ((at0 ss i : Nat) : Int) ≠ 0; omega, l, _, _, rfl, rfl, hl, by rw [nV_len, hlen]; exact fewS (by omega), ?_⟩
      dsimp only
      rw [← hd, nV_snoc]
      obtain ⟨a1, a2, a3, a4⟩ := ap d hdl
      exact ⟨rest, seed1, _, _, ds ++ [d], rfl, h1, k1, k2, a1, a2, a3, a4⟩
  · rintro σ H1 ⟨rest, seed, m5, m6, ds, rfl, h1, h2, h3, s1, hl, hlen, hlt⟩
    exact ⟨_, rfl, hQ H1 l ds s1 nl hl hlen hlt⟩
end
end K01
set_option Elab.async false
set_option linter.all false
set_option maxRecDepth 100000
set_option maxHeartbeats 4000000
namespace K01
open PySem PySem.Spec PyProof.Rows L2 Ms
def spMarks (K : PySem.W.Frag) : Sp := fun vs H Q _ => ∃ (a : Addr) (xs : List V) (r : List Nat), vs = [.ref a] ∧ xs.length ≤ 16777216 ∧ SqL K H a xs ∧
  ((∃ ns : List Int, xs = ns.map V.int ∧ r = ren ns) ∨ ∃ (ts : List Addr) (ps : List (Int × Int)), xs = ts.map V.ref ∧ r = ren ps ∧ Paired (fun t p => H t = some (pairV p)) ts ps) ∧
  ∀ H' p, Same H H' → H p = none → H' p = some (.lst (nV r)) → Q (.ref p) H'
section
variable {P : Program} {w : World} {K : PySem.W.Frag} {mg : Str → Option Value} {base : Heap}
theorem mar_KL (T : Tx K mg) {cdv : Value} {A : Around} {outer : List Env} {s : Shared} {H : Hp} {Q : VK} {E : XK} {a : Addr} {xs : List V} {r : List Nat} {ks : List Key} (hr : Rm 0 "_law_marks" s_law_marks (He.ga K "_law_marks") cdv A s)
    (hq0 : SqL K H a xs) (hz : xs.length ≤ sizeLine) (hk0 : KeyAt H .dK xs ks) (hr2 : ren ks = r) (hQ : ∀ H' p, Same H H' → H p = none → H' p = some (.lst (nV r)) → Q (.ref p) H') :
    Goal P w K mg base "_law_marks" s_law_marks ["marks", "numbers", "row", "mark"] (He.ga K "_law_marks") cdv A outer s H [.ref a] Q E := by
  have hlen := hk0.len
  have hkey := hk0.at_
  have hq1 : ∀ (H1 : Hp), Same H H1 → SqL K H1 a xs := fun H1 s => Same.seq s hq0
  refine ⟨_, (pss_cons (ps_set (i := 1) sc_law_marks.nd rfl (by first | exact Or.inl rfl | exact Or.inr rfl) pe_dnewK)
    (pss_cons (ps_set (i := 2) sc_law_marks.nd rfl (by first | exact Or.inl rfl | exact Or.inr rfl) (pe_lst pa_nil))
    (pss_cons (ps_for PassesOwn.never rfl (pi_list (pv 0)) (pg_name (i := 3) sc_law_marks.nd rfl (by first | exact Or.inl rfl | exact Or.inr rfl))
    (pss_cons (ps_if (pt_cmp (pc_dnotin (hu_of hr) (pv 3) (pv 1)))
      (pss_one (ps_dput (hu_of hr) (pv 1) (pv 3) (pe_callB call_lenD (by rfl) T.f_len boot_len (pa_cons (pv 1) pa_nil)) rfl))
      pss_nil)
      (pss_one (ps_expr (pe_bm PySem.F.plainAttrs_list PySem.F.slot_list_append PySem.F.type_list_append mt_append (pv 2) (pa_cons (pe_dget (hu_of hr) (pv 1) (pv 3) (fun _ _ => rfl)) pa_nil))))))
    (pss_one (ps_ret (pv 2)))))), ?_⟩
  refine fun d hd => ?_
  refine ⟨Nat.zero_le _, fun l hl => ?_⟩
  have hdl : d ≠ l := fun z => by rw [← z, upd_same] at hl; cases hl
  have nl : H l = none := by rw [upd_ne (fun z => hdl z.symm)] at hl; exact hl
  refine ⟨_, rfl, a, rfl, ⟨_, hq1 _ (Same.new2 hd nl)⟩, for_list (xs := xs) (PR K H a d l xs .dK ks) ?_ ?_ ?_ ?_⟩
  · exact ⟨none, rfl, Same.new2 hd nl, by rw [upd_ne hdl, upd_same] <;> rfl, by rw [upd_same] <;> rfl⟩
  · exact fun i σ H1 _ h => by obtain ⟨_, _, h1, _⟩ := h; exact hq1 _ h1
  · intro i x σ H1 hx h
    obtain ⟨m, rfl, s1, e1, e2⟩ := h
    obtain ⟨k, hk, g1, g2⟩ := hkey i x hx
    refine ⟨_, rfl, _, rfl, d, _, rfl, g1 _ _ _ s1 e1, _, rfl, ?_⟩
    have tk : ks.take (i + 1) = ks.take i ++ [k] := by rw [List.take_add_one, hk] <;> rfl
    have li : i < xs.length := ltE hx
    have lt : (tbl (firsts (ks.take i))).length ≤ i := by
      rw [tbl_len]
      exact Nat.le_trans (firsts_le _) (List.length_take_le ..)
    rw [valV_tbl]
    by_cases hin : k ∈ firsts (ks.take i)
    · rw [if_pos hin]
      refine iteF ?_
      refine ⟨_, rfl, .inl ⟨rfl, _, .inl (.inl e2)⟩, _, rfl, _, rfl, d, _, rfl, by rw [← valV_some hin]; exact g1 _ _ _ s1 e1, l, _, _, rfl, rfl, e2, by rw [nV_ren_take hk]; omega, ?_⟩
      refine ⟨_, rfl, fun b o q => ?_, ?_, ?_⟩
      · rw [upd_ne (fun z => by rw [z, nl] at q; cases q)]
        exact s1 b o q
      · rw [upd_ne hdl, tk, firsts_old ((mem_firsts _ _).mp hin)]
        exact e1
      · rw [upd_same, tk, ren_snoc]
        simp [nV]
    · rw [if_neg hin]
      refine iteT ?_
      refine ⟨_, rfl, d, _, rfl, e1, _, rfl, _, rfl, d, _, rfl, g2 _ _ _ _ s1 e1 (by omega), ?_⟩
      have vn : valV (tbl (firsts (ks.take i))) k = none := by rw [valV_tbl, if_neg hin]
      rw [putK_new _ vn, tbl_len, ← tbl_snoc, ← firsts_new (fun z => hin ((mem_firsts _ _).mpr z)), ← tk]
      have e1' : upd H1 d (.dK (tbl (firsts (ks.take (i + 1))))) d = some (.dK (tbl (firsts (ks.take (i + 1))))) := upd_same ..
      have e2' : upd H1 d (.dK (tbl (firsts (ks.take (i + 1))))) l = some (.lst (nV (ren (ks.take i)))) := by rw [upd_ne (fun z => hdl z.symm)]; exact e2
      have s2 : Same H (upd H1 d (.dK (tbl (firsts (ks.take (i + 1)))))) := fun b o q => by
        rw [upd_ne (fun z => by rw [z, hd] at q; cases q)]
        exact s1 b o q
      have hin2 : k ∈ firsts (ks.take (i + 1)) := (mem_firsts _ _).mpr (by rw [tk]; exact List.mem_append_right _ (List.mem_singleton.mpr rfl))
      refine ⟨_, rfl, .inl ⟨rfl, _, .inl (.inl e2')⟩, _, rfl, _, rfl, d, _, rfl, by rw [← valV_some hin2]; exact g1 _ _ _ s2 e1', l, _, _, rfl, rfl, e2', by rw [nV_ren_take hk]; omega, ?_⟩
      refine ⟨_, rfl, fun b o q => ?_, ?_, ?_⟩
      · rw [upd_ne (fun z => by rw [z, nl] at q; cases q)]
        exact s2 b o q
      · rw [upd_ne hdl]
        exact e1'
      · rw [upd_same, tk, ren_snoc, ix_self]
        simp [nV]
  · intro σ H1 h
    obtain ⟨m, rfl, s1, e1, e2⟩ := h
    have full : ks.take xs.length = ks := by rw [← hlen]; exact List.take_length
    rw [full, hr2] at e2
    exact ⟨_, rfl, hQ H1 l s1 nl e2⟩

theorem mar_TL (T : Tx K mg) {cdv : Value} {A : Around} {outer : List Env} {s : Shared} {H : Hp} {Q : VK} {E : XK} {a : Addr} {xs : List V} {r : List Nat} {ks : List (List Key)} (hr : Rm 0 "_law_marks" s_law_marks (He.ga K "_law_marks") cdv A s)
    (hq0 : SqL K H a xs) (hz : xs.length ≤ sizeLine) (hk0 : KeyAt H .dT xs ks) (hr2 : ren ks = r) (hQ : ∀ H' p, Same H H' → H p = none → H' p = some (.lst (nV r)) → Q (.ref p) H') :
    Goal P w K mg base "_law_marks" s_law_marks ["marks", "numbers", "row", "mark"] (He.ga K "_law_marks") cdv A outer s H [.ref a] Q E := by
  have hlen := hk0.len
  have hkey := hk0.at_
  have hq1 : ∀ (H1 : Hp), Same H H1 → SqL K H1 a xs := fun H1 s => Same.seq s hq0
  refine ⟨_, (pss_cons (ps_set (i := 1) sc_law_marks.nd rfl (by first | exact Or.inl rfl | exact Or.inr rfl) pe_dnewT)
    (pss_cons (ps_set (i := 2) sc_law_marks.nd rfl (by first | exact Or.inl rfl | exact Or.inr rfl) (pe_lst pa_nil))
    (pss_cons (ps_for PassesOwn.never rfl (pi_list (pv 0)) (pg_name (i := 3) sc_law_marks.nd rfl (by first | exact Or.inl rfl | exact Or.inr rfl))
    (pss_cons (ps_if (pt_cmp (pc_dnotin (hu_of hr) (pv 3) (pv 1)))
      (pss_one (ps_dput (hu_of hr) (pv 1) (pv 3) (pe_callB call_len_dT (by rfl) T.f_len boot_len (pa_cons (pv 1) pa_nil)) rfl))
      pss_nil)
      (pss_one (ps_expr (pe_bm PySem.F.plainAttrs_list PySem.F.slot_list_append PySem.F.type_list_append mt_append (pv 2) (pa_cons (pe_dget (hu_of hr) (pv 1) (pv 3) (fun _ _ => rfl)) pa_nil))))))
    (pss_one (ps_ret (pv 2)))))), ?_⟩
  refine fun d hd => ?_
  refine ⟨Nat.zero_le _, fun l hl => ?_⟩
  have hdl : d ≠ l := fun z => by rw [← z, upd_same] at hl; cases hl
  have nl : H l = none := by rw [upd_ne (fun z => hdl z.symm)] at hl; exact hl
  refine ⟨_, rfl, a, rfl, ⟨_, hq1 _ (Same.new2 hd nl)⟩, for_list (xs := xs) (PR K H a d l xs .dT ks) ?_ ?_ ?_ ?_⟩
  · exact ⟨none, rfl, Same.new2 hd nl, by rw [upd_ne hdl, upd_same] <;> rfl, by rw [upd_same] <;> rfl⟩
  · exact fun i σ H1 _ h => by obtain ⟨_, _, h1, _⟩ := h; exact hq1 _ h1
  · intro i x σ H1 hx h
    obtain ⟨m, rfl, s1, e1, e2⟩ := h
    obtain ⟨k, hk, g1, g2⟩ := hkey i x hx
    refine ⟨_, rfl, _, rfl, d, _, rfl, g1 _ _ _ s1 e1, _, rfl, ?_⟩
    have tk : ks.take (i + 1) = ks.take i ++ [k] := by rw [List.take_add_one, hk] <;> rfl
    have li : i < xs.length := ltE hx
    have lt : (tbl (firsts (ks.take i))).length ≤ i := by
      rw [tbl_len]
      exact Nat.le_trans (firsts_le _) (List.length_take_le ..)
    rw [valV_tbl]
    by_cases hin : k ∈ firsts (ks.take i)
    · rw [if_pos hin]
      refine iteF ?_
      refine ⟨_, rfl, .inl ⟨rfl, _, .inl (.inl e2)⟩, _, rfl, _, rfl, d, _, rfl, by rw [← valV_some hin]; exact g1 _ _ _ s1 e1, l, _, _, rfl, rfl, e2, by rw [nV_ren_take hk]; omega, ?_⟩
      refine ⟨_, rfl, fun b o q => ?_, ?_, ?_⟩
      · rw [upd_ne (fun z => by rw [z, nl] at q; cases q)]
        exact s1 b o q
      · rw [upd_ne hdl, tk, firsts_old ((mem_firsts _ _).mp hin)]
        exact e1
      · rw [upd_same, tk, ren_snoc]
        simp [nV]
    · rw [if_neg hin]
      refine iteT ?_
      refine ⟨_, rfl, d, _, rfl, e1, _, rfl, _, rfl, d, _, rfl, g2 _ _ _ _ s1 e1 (by omega), ?_⟩
      have vn : valV (tbl (firsts (ks.take i))) k = none := by rw [valV_tbl, if_neg hin]
      rw [putK_new _ vn, tbl_len, ← tbl_snoc, ← firsts_new (fun z => hin ((mem_firsts _ _).mpr z)), ← tk]
      have e1' : upd H1 d (.dT (tbl (firsts (ks.take (i + 1))))) d = some (.dT (tbl (firsts (ks.take (i + 1))))) := upd_same ..
      have e2' : upd H1 d (.dT (tbl (firsts (ks.take (i + 1))))) l = some (.lst (nV (ren (ks.take i)))) := by rw [upd_ne (fun z => hdl z.symm)]; exact e2
      have s2 : Same H (upd H1 d (.dT (tbl (firsts (ks.take (i + 1)))))) := fun b o q => by
        rw [upd_ne (fun z => by rw [z, hd] at q; cases q)]
        exact s1 b o q
      have hin2 : k ∈ firsts (ks.take (i + 1)) := (mem_firsts _ _).mpr (by rw [tk]; exact List.mem_append_right _ (List.mem_singleton.mpr rfl))
      refine ⟨_, rfl, .inl ⟨rfl, _, .inl (.inl e2')⟩, _, rfl, _, rfl, d, _, rfl, by rw [← valV_some hin2]; exact g1 _ _ _ s2 e1', l, _, _, rfl, rfl, e2', by rw [nV_ren_take hk]; omega, ?_⟩
      refine ⟨_, rfl, fun b o q => ?_, ?_, ?_⟩
      · rw [upd_ne (fun z => by rw [z, nl] at q; cases q)]
        exact s2 b o q
      · rw [upd_ne hdl]
        exact e1'
      · rw [upd_same, tk, ren_snoc, ix_self]
        simp [nV]
  · intro σ H1 h
    obtain ⟨m, rfl, s1, e1, e2⟩ := h
    have full : ks.take xs.length = ks := by rw [← hlen]; exact List.take_length
    rw [full, hr2] at e2
    exact ⟨_, rfl, hQ H1 l s1 nl e2⟩

theorem ok__law_marks (T : Tx K mg) : Ok P w K mg base "_law_marks" 1 (spMarks K) := by
  refine ok_of T.a__law_marks sc_law_marks (fun vs H Q E h => ?_) bi__law_marks fun cdv A outer s H vs Q E hr h => ?_
  · obtain ⟨a, xs, r, rfl, _⟩ := h
    rfl
  obtain ⟨a, xs, r, rfl, hz, hq, h, hQ⟩ := h
  have hz2 : xs.length ≤ sizeLine := Nat.le_trans hz (by decide)
  rcases h with ⟨ns, rfl, rfl⟩ | ⟨ts, ps, rfl, rfl, hp⟩
  · exact mar_KL T hr hq hz2 (key_int H ns) (ren_map int_inl) hQ
  · exact mar_TL T hr hq hz2 (key_pair hp) (ren_map kp_inj) hQ
end
end K01
set_option Elab.async false
set_option linter.all false
set_option maxRecDepth 100000
set_option maxHeartbeats 4000000
namespace K01
open PySem PySem.Spec PyProof.Rows L2 Ms
section
variable {P : Program} {w : World} {K : PySem.W.Frag} {mg : Str → Option Value} {base : Heap}
theorem ok__law_groups (T : Tx K mg) : Ok P w K mg base "_law_groups" 1 (spGroups K) := by
  refine ok_of T.a__law_groups sc_law_groups (fun vs H Q E h => ?_) bi__law_groups fun cdv A outer s H vs Q E hr h => ?_
  · obtain ⟨a, r, rfl, _⟩ := h
    rfl
  obtain ⟨a, r, rfl, ha, hrow, hpos, hz, hQ⟩ := h
  have ha1 : ∀ H1 : Hp, Same H H1 → SqL K H1 a (nV r) := fun H1 q => Same.seq q ha
  refine ⟨_, (pss_cons (ps_setLc (i := 1) (own := [("k", 2)]) (g := gName 2) rfl sc_law_groups.nd rfl rfl (sw_true rfl rfl rfl (by decide +kernel)) (pi_range1 rfl T.f_range (pa_cons (pe_op op_add (pe_callB (maxK K (hc := rfl)) (by rfl) T.f_max (by decide +kernel) (pa_cons (pv 0) pa_nil)) pe_int) pa_nil)) (blkOk_by (N := ["row", "groups", "k", "group"]) (sc := defScope s_law_groups) (by decide +kernel)) (fun _ _ _ _ _ => (pg_name (i := 2) sc_law_groups.nd rfl (by first | exact Or.inl rfl | exact Or.inr rfl))) (fun _ _ _ _ _ => pts_nil) (fun _ _ _ _ _ => (pe_lst pa_nil)))
  (pss_cons (ps_for PassesOwn.never rfl (pi_range1 rfl T.f_range (pa_cons (pe_callB (lenK K) (by rfl) T.f_len boot_len (pa_cons (pv 0) pa_nil)) pa_nil)) (pg_name (i := 2) sc_law_groups.nd rfl (by first | exact Or.inl rfl | exact Or.inr rfl))
  (pss_cons (ps_set (i := 3) sc_law_groups.nd rfl (by first | exact Or.inl rfl | exact Or.inr rfl) (pe_ix (ixL K) (pv 1) (pe_ix (ixL K) (pv 0) (pv 2) (fun _ _ => rfl)) (fun _ _ => rfl)))
    (pss_one (ps_expr (pe_bm PySem.F.plainAttrs_list PySem.F.slot_list_append PySem.F.type_list_append mt_append (pv 3) (pa_cons (pv 2) pa_nil))))))
  (pss_one (ps_ret (pv 1))))), ?_⟩
  refine ⟨_, rfl, a, r.map fun n => ((n : Nat) : Int), rfl, by rw [← nV_int]; exact ha, by rw [List.length_map]; exact hpos, fun mx hmx hle => ?_⟩
  have cpos : 0 < cnt r := by
    have q : at0 r 0 < cnt r := (row_mem hrow).mp (List.mem_of_getElem? (of_at0 hpos))
    omega
  have ecnt : mx + 1 = (cnt r : Nat) := by
    obtain ⟨n, hn, rfl⟩ := List.mem_map.mp hmx
    have h1 := (row_mem hrow).mp hn
    have h2 := hle (((cnt r - 1 : Nat) : Nat) : Int) (List.mem_map.mpr ⟨_, (row_mem hrow).mpr (by omega), rfl⟩)
    omega
  have cle : cnt r ≤ r.length := firsts_le r
  refine ⟨_, _, rfl, rfl, _, rfl, by omega, by omega, fun D nD => ?_⟩
  have et : (mx + 1).toNat = cnt r := by omega
  rw [et]
  refine lc_it walk_range (fun i H1 => ∃ ls : List Addr, H1 D = some (.lst (ls.map V.ref)) ∧ ls.length = i ∧ ls.Nodup ∧ Same H H1 ∧ ∀ l ∈ ls, H1 l = some (.lst []) ∧ H l = none) ?_ (fun _ _ _ _ => trivial) ?_ ?_
  · exact ⟨[], upd_same .., rfl, List.nodup_nil, same_new nD, fun l hl => by cases hl⟩
  · rintro i x H1 H2 hi ⟨ls, h1, h2, h3, h4, h5⟩ ⟨rfl, hx⟩
    refine ⟨rfl, Nat.zero_le _, fun l nl => ?_⟩
    have lD : l ≠ D := fun z => by rw [z, h1] at nl; cases nl
    refine ⟨ls.map V.ref, by rw [upd_ne lD.symm]; exact h1, by rw [List.length_map, h2]; exact fewS (by omega), ls ++ [l], ?_, by rw [List.length_append, h2, List.length_singleton], ?_, fun b o q => ?_, fun l' hl' => ?_⟩
    · rw [upd_same, List.map_append, List.map_singleton]
    · exact List.nodup_append.mpr ⟨h3, List.nodup_cons.mpr ⟨List.not_mem_nil, List.nodup_nil⟩, fun x hx y hy e => by
        rw [List.mem_singleton.mp hy] at e
        rw [e] at hx
        have q := (h5 l hx).1
        rw [nl] at q
        cases q⟩
    · rw [upd_ne (fun z => by rw [z, nD] at q; cases q)]
      exact same_new nl _ _ (h4 _ _ q)
    · rcases List.mem_append.mp hl' with z | z
      · obtain ⟨q1, q2⟩ := h5 _ z
        refine ⟨?_, q2⟩
        rw [upd_ne (fun e => by rw [e, h1] at q1; cases ls with
          | nil => cases z
          | cons => cases q1)]
        exact same_new nl _ _ q1
      · rw [List.mem_singleton.mp z]
        exact ⟨by rw [upd_ne lD, upd_same], h4.free nl⟩
  · rintro H1 ⟨ls, h1, h2, h3, h4, h5⟩
    have la : ∀ m, m < cnt r → ls[m]? = some (ls.getD m 0) := fun m hm => by
      rw [List.getD_eq_getElem?_getD, getE (by rw [h2]; exact hm)] <;> rfl
    have inj : ∀ m m', m < cnt r → m' < cnt r → ls.getD m 0 = ls.getD m' 0 → m = m' := fun m m' hm hm' e => by
      have q1 := la m hm
      have q2 := la m' hm'
      rw [e] at q1
      exact (List.getElem?_inj (by rw [h2]; exact hm) h3).mp (q1.trans q2.symm)
    have lne : ∀ m, m < cnt r → ls.getD m 0 ≠ D := fun m hm e => by
      have q := (h5 _ (List.mem_of_getElem? (la m hm))).1
      rw [e, h1] at q
      cases ls with
      | nil => rw [← h2] at hm; exact absurd hm (Nat.not_lt_zero _)
      | cons => cases q
    refine ⟨_, rfl, a, _, rfl, .inl (ha1 _ h4), _, rfl, by omega, by rw [nV_len]; omega, ?_⟩
    have en : (((nV r).length : Nat) : Int).toNat = r.length := by rw [nV_len]; omega
    rw [en]
    refine for_it walk_range (fun i σ H2 => ∃ m2 m3, σ = [some (.ref a), some (.ref D), m2, m3] ∧ H2 D = some (.lst (ls.map V.ref)) ∧ Same H H2 ∧ ∀ m, m < cnt r → H2 (ls.getD m 0) = some (.lst (nV (places m (r.take i))))) ?_ (fun _ _ _ _ _ => trivial) ?_ ?_
    · exact ⟨none, none, rfl, h1, h4, fun m hm => (h5 _ (List.mem_of_getElem? (la m hm))).1⟩
    · rintro i x σ H2 H3 hi ⟨m2, m3, rfl, k1, k2, k3⟩ ⟨rfl, hx⟩
      have hx : x = .int (i : Nat) := hx.trans (congrArg V.int (Int.zero_add _))
      subst hx
      have hm : at0 r i < cnt r := (row_mem hrow).mp (List.mem_of_getElem? (of_at0 hi))
      have g := k3 _ hm
      refine ⟨_, rfl, _, rfl, _, rfl, a, _, _, _, rfl, rfl, ha1 _ k2, atI_nat (nV_at0 hi), D, _, _, _, rfl, rfl, .inl (.inl k1), atI_nat (v := .ref (ls.getD (at0 r i) 0)) (by rw [List.getElem?_map, la _ hm] <;> rfl), ?_⟩
      refine ⟨_, rfl, .inl ⟨rfl, _, .inl (.inl g)⟩, _, rfl, _, _, _, rfl, rfl, g, ?_, ?_⟩
      · rw [nV_len]
        have := places_len (at0 r i) (r.take i)
        rw [List.length_take] at this
        exact fewS (by omega)
      rw [nV_snoc]
      refine ⟨_, _, rfl, by rw [upd_ne (lne _ hm).symm]; exact k1, fun b o q => ?_, fun m hm' => ?_⟩
      · have q2 := (h5 _ (List.mem_of_getElem? (la _ hm))).2
        rw [upd_ne (fun z => by rw [z, q2] at q; cases q)]
        exact k2 _ _ q
      · have tk : r.take (i + 1) = r.take i ++ [at0 r i] := by rw [List.take_add_one, of_at0 hi] <;> rfl
        rw [tk, places_snoc]
        by_cases e : m = at0 r i
        · rw [if_pos e, e, upd_same, List.length_take]
          have : min i r.length = i := by omega
          rw [this]
        · rw [if_neg e, upd_ne fun z => e (inj _ _ hm' hm z)]
          exact k3 _ hm'
    · rintro σ H2 ⟨m2, m3, rfl, k1, k2, k3⟩
      refine ⟨_, rfl, hQ H2 D ls k2 nD k1 ?_⟩
      rw [row_cells hrow]
      refine pair_of (by rw [h2, List.length_map, List.length_range]) fun i x y e1 e2 => ?_
      have hi : i < cnt r := by rw [← h2]; exact ltE e1
      rw [List.getElem?_map, List.getElem?_range hi] at e2
      have e3 := k3 i hi
      rw [List.take_length] at e3
      rw [← Option.some.inj e2, ← Option.some.inj ((la i hi).symm.trans e1)]
      exact e3
theorem ok__law_numbers (T : Tx K mg) : Ok P w K mg base "_law_numbers" 2 (spNumbers K) := by
  have O__law_whole : Ok P w K mg base "_law_whole" 1 spWhole := ok__law_whole T
  refine ok_of T.a__law_numbers sc_law_numbers (fun vs H Q E h => ?_) bi__law_numbers fun cdv A outer s H vs Q E hr h => ?_
  · obtain ⟨t, l, xs, rfl, _⟩ := h
    rfl
  obtain ⟨t, l, xs, rfl, ht, hl, hz, hQ⟩ := h
  refine ⟨_, (pss_cons (ps_if (PW.pt (pw_or (pt_not (pt_val (pe_callB (isK K) (by rfl) T.f_isinstance (by decide +kernel) (pa_cons (pv 0) (pa_cons (pe_bltn (v := .ty "tuple") (by rfl) T.f_tuple (by decide +kernel) rfl) pa_nil))))) (pw_or1 (pt_cmpR op_ne (pe_callB (lenK K) (by rfl) T.f_len boot_len (pa_cons (pv 0) pa_nil)) (pe_callB (lenK K) (by rfl) T.f_len boot_len (pa_cons (pv 1) pa_nil)) (nomark _)))))
  (pss_one (ps_ret pe_bl))
  pss_nil)
  (pss_cons (ps_for PassesOwn.never rfl (pi_range1 rfl T.f_range (pa_cons (pe_callB (lenK K) (by rfl) T.f_len boot_len (pa_cons (pv 1) pa_nil)) pa_nil)) (pg_name (i := 2) sc_law_numbers.nd rfl (by first | exact Or.inl rfl | exact Or.inr rfl))
  (pss_one (ps_if (PW.pt (pw_or (pt_not (pt_val (pe_c (E := EN) O__law_whole hr (by decide) (fun σ => passN σ) (pa_cons (pe_ix (ixT K) (pv 0) (pv 2) (fun _ _ => rfl)) pa_nil)))) (pw_or1 (pt_cmpR op_ne (pe_ix (ixT K) (pv 0) (pv 2) (fun _ _ => rfl)) (pe_ix (ixL K) (pv 1) (pv 2) (fun _ _ => rfl)) (nomark _)))))
    (pss_one (ps_ret pe_bl))
    pss_nil)))
  (pss_one (ps_ret pe_bl)))), ?_⟩
  refine ⟨_, rfl, .ref t, .ty "tuple", _, _, true, rfl, .ty _, .of (.base (.tup ht)), T.is_tuple_tuple, true, rfl, ?_⟩
  refine iteF ?_
  refine ⟨_, rfl, t, _, rfl, .inr (.inl (.inl ht)), _, rfl, l, _, rfl, .inl hl, rfl, _, rfl, ?_⟩
  have ne : (!decide (V.int ((nV xs).length : Nat) = V.int ((nV xs).length : Nat))) = false := by simp
  rw [ne]
  refine iteF ?_
  refine ⟨_, rfl, l, _, rfl, .inl hl, _, rfl, by omega, by rw [nV_len]; omega, ?_⟩
  have en : (((nV xs).length : Nat) : Int).toNat = xs.length := by rw [nV_len]; omega
  rw [en]
  refine for_it walk_range (fun i σ H2 => ∃ m, σ = [some (.ref t), some (.ref l), m] ∧ H2 = H) ?_ (fun _ _ _ _ _ => trivial) ?_ ?_
  · exact ⟨none, rfl, rfl⟩
  · rintro i x σ H2 H3 hi ⟨m, rfl, rfl⟩ ⟨rfl, hx⟩
    have hx : x = .int (i : Nat) := hx.trans (congrArg V.int (Int.zero_add _))
    subst hx
    refine ⟨_, rfl, _, rfl, t, _, _, _, rfl, rfl, .inl (.inl ht), atI_nat (nV_at0 hi), _, rfl, true, rfl, ?_⟩
    refine iteF ?_
    refine ⟨_, rfl, _, rfl, t, _, _, _, rfl, rfl, .inl (.inl ht), atI_nat (nV_at0 hi), _, rfl, _, rfl, l, _, _, _, rfl, rfl, hl, atI_nat (nV_at0 hi), rfl, _, rfl, ?_⟩
    have ne : (!decide (V.int (at0 xs i : Nat) = V.int (at0 xs i : Nat))) = false := by simp
    rw [ne]
    exact iteF ⟨_, rfl, rfl⟩
  · rintro σ H2 ⟨m, rfl, rfl⟩
    exact hQ
end
end K01
set_option Elab.async false
set_option linter.all false
set_option maxRecDepth 100000
set_option maxHeartbeats 4000000
namespace K01
open PySem PySem.Spec PyProof.Rows L2 Ms
theorem spNumbers_in {K : PySem.W.Frag} {H : Hp} {Q : VK} {E : XK} {t l : Addr} {xs : List Nat} (ht : H t = some (.tup (nV xs))) (hl : SqL K H l (nV xs)) (hz : xs.length ≤ 16777216) (hQ : Q (.bl true) H) : spNumbers K [.ref t, .ref l] H Q E := ⟨t, l, xs, rfl, ht, hl, hz, hQ⟩
theorem SightAt.ins {K : PySem.W.Frag} {H : Hp} {p : Addr} {r : List Nat} (h : SightAt K H p r) : ∃ dx fs, H p = some (.ins (CS K) dx fs) := let ⟨dx, _, _, e, _⟩ := h.ex; ⟨dx, _, e⟩
theorem pget {α β : Type} {F : α → β → Prop} {xs : List α} {ys : List β} (h : Paired F xs ys) {i : Nat} {y : β} (e : ys[i]? = some y) : ∃ x, xs[i]? = some x ∧ F x y := by
  have l := Paired.length h
  have hi : i < xs.length := by rw [l]; exact ltE e
  obtain ⟨z, e2, f⟩ := LiI.paired_get h (getE hi)
  rw [e] at e2
  cases e2
  exact ⟨_, getE hi, f⟩
section
variable {P : Program} {w : World} {K : PySem.W.Frag} {mg : Str → Option Value} {base : Heap}
theorem ok__law_agrees (T : Tx K mg) : Ok P w K mg base "_law_agrees" 3 (spAgrees K) := by
  have O__law_whole : Ok P w K mg base "_law_whole" 1 spWhole := ok__law_whole T
  have O__law_groups : Ok P w K mg base "_law_groups" 1 (spGroups K) := ok__law_groups T
  have O__law_numbers : Ok P w K mg base "_law_numbers" 2 (spNumbers K) := ok__law_numbers T
  obtain ⟨fdP, psP, FP, bP⟩ := fn_cells (P := P) (w := w) (base := base) T
  refine ok_of T.a__law_agrees sc_law_agrees (fun vs H Q E h => ?_) bi__law_agrees fun cdv A outer s H vs Q E hr h => ?_
  · obtain ⟨p, l, r, rfl, _⟩ := h
    rfl
  obtain ⟨p, l, r, rfl, hp, hl, hQ⟩ := h
  refine ⟨_, (pss_cons (ps_if (PW.pt (pw_or (pt_not (pt_val (pe_callB (isK K) (by rfl) T.f_isinstance (by decide +kernel) (pa_cons (pv 0) (pa_cons (pe_glob (v := .ref (He.ga K "Sight")) rfl T.g_Sight rfl) pa_nil))))) (pw_or (pt_not (pt_val (pe_c (E := EN) O__law_whole hr (by decide) (fun σ => passN σ) (pa_cons (pe_fld (pv 0) rfl) pa_nil)))) (pw_or1 (pt_cmpR op_ne (pe_fld (pv 0) rfl) (pe_callB (lenK K) (by rfl) T.f_len boot_len (pa_cons (pv 1) pa_nil)) (nomark _))))))
  (pss_one (ps_ret pe_bl))
  pss_nil)
  (pss_cons (ps_set (i := 2) sc_law_agrees.nd rfl (by first | exact Or.inl rfl | exact Or.inr rfl) (pe_c (E := EN) O__law_groups hr (by decide) (fun σ => passN σ) (pa_cons (pv 1) pa_nil)))
  (pss_cons (ps_set (i := 3) sc_law_agrees.nd rfl (by first | exact Or.inl rfl | exact Or.inr rfl) (pe_prop (pv 0) T.c_Sight T.p_cells FP (hr.mono (by decide)) bP .nil passF (by rfl)))
  (pss_cons (ps_if (PW.pt (pw_or (pt_not (pt_val (pe_c (E := EN) O__law_numbers hr (by decide) (fun σ => passN σ) (pa_cons (pe_fld (pv 0) rfl) (pa_cons (pv 1) pa_nil))))) (pw_or (pt_not (pt_val (pe_callB (isK K) (by rfl) T.f_isinstance (by decide +kernel) (pa_cons (pv 3) (pa_cons (pe_bltn (v := .ty "tuple") (by rfl) T.f_tuple (by decide +kernel) rfl) pa_nil))))) (pw_or1 (pt_cmpR op_ne (pe_callB (lenK K) (by rfl) T.f_len boot_len (pa_cons (pv 3) pa_nil)) (pe_callB (lenK K) (by rfl) T.f_len boot_len (pa_cons (pv 2) pa_nil)) (nomark _))))))
  (pss_one (ps_ret pe_bl))
  pss_nil)
  (pss_cons (ps_for PassesOwn.never rfl (pi_range1 rfl T.f_range (pa_cons (pe_callB (lenK K) (by rfl) T.f_len boot_len (pa_cons (pv 2) pa_nil)) pa_nil)) (pg_name (i := 4) sc_law_agrees.nd rfl (by first | exact Or.inl rfl | exact Or.inr rfl))
  (pss_one (ps_if (pt_not (pt_val (pe_c (E := EN) O__law_numbers hr (by decide) (fun σ => passN σ) (pa_cons (pe_ix (ixT K) (pv 3) (pv 4) (fun _ _ => rfl)) (pa_cons (pe_ix (ixL K) (pv 2) (pv 4) (fun _ _ => rfl)) pa_nil)))))
    (pss_one (ps_ret pe_bl))
    pss_nil)))
  (pss_one (ps_ret pe_bl))))))), ?_⟩
  obtain ⟨dx, t, c, e1, e2, e3⟩ := hp.ex
  refine ⟨_, rfl, .ref p, .ref (CS K), _, _, true, rfl, .own _, .of (.base (.ins e1 T.c_Sight T.cl_Sight.ca T.cl_Sight.cg T.cl_Sight.ct T.cl_Sight.ob)), T.is_Sight_Sight, true, rfl, ?_⟩
  refine iteF ?_
  refine ⟨_, rfl, p, _, dx, _, _, rfl, e1, T.c_Sight, T.n_size, rfl, _, rfl, true, rfl, ?_⟩
  refine iteF ?_
  refine ⟨_, rfl, p, _, dx, _, _, rfl, e1, T.c_Sight, T.n_size, rfl, _, rfl, l, _, rfl, .inl hl, rfl, _, rfl, ?_⟩
  have ne : (!decide (V.int (r.length : Nat) = V.int ((nV r).length : Nat))) = false := by rw [nV_len]; simp
  rw [ne]
  refine iteF ?_
  refine ⟨_, rfl, l, r, rfl, hl, hp.row, hp.pos, hp.few, fun H1 g ls s1 ng hg hls => ?_⟩
  obtain ⟨ts, c1, c2⟩ := e3.same s1
  refine ⟨_, rfl, p, dx, _, rfl, s1 _ _ e1, p, r, rfl, hp.same s1, fun c' hc' => ?_⟩
  obtain ⟨ts, c1, c2⟩ := hc'
  refine ⟨_, rfl, p, _, dx, _, _, rfl, s1 _ _ e1, T.c_Sight, T.n_marks, rfl, _, rfl, ?_⟩
  refine ⟨t, l, r, rfl, s1 _ _ e2, Same.seq s1 hl, hp.few, true, rfl, ?_⟩
  refine iteF ?_
  refine ⟨_, rfl, .ref c', .ty "tuple", _, _, true, rfl, .ty _, .of (.base (.tup c1)), T.is_tuple_tuple, true, rfl, ?_⟩
  refine iteF ?_
  have lt : ts.length = ls.length := by rw [Paired.length c2, Paired.length hls]
  refine ⟨_, rfl, c', _, rfl, .inr (.inl (.inl c1)), _, rfl, g, _, rfl, .inl (.inl (.inl hg)), rfl, _, rfl, ?_⟩
  have ne : (!decide (V.int ((ts.map V.ref).length : Nat) = V.int ((ls.map V.ref).length : Nat))) = false := by rw [List.length_map, List.length_map, lt]; simp
  rw [ne]
  refine iteF ?_
  have lsl : ls.length ≤ 16777216 := by
    rw [Paired.length hls, row_cells hp.row, List.length_map, List.length_range]
    exact Nat.le_trans (firsts_le r) hp.few
  refine ⟨_, rfl, g, _, rfl, .inl (.inl (.inl hg)), _, rfl, by omega, by rw [List.length_map]; omega, ?_⟩
  have en : (((ls.map V.ref).length : Nat) : Int).toNat = ls.length := by rw [List.length_map]; omega
  rw [en]
  refine for_it walk_range (fun i σ H2 => ∃ m, σ = [some (.ref p), some (.ref l), some (.ref g), some (.ref c'), m] ∧ H2 = H1) ?_ (fun _ _ _ _ _ => trivial) ?_ ?_
  · exact ⟨none, rfl, rfl⟩
  · rintro i x σ H2 H3 hi ⟨m, rfl, rfl⟩ ⟨rfl, hx⟩
    have hx : x = .int (i : Nat) := hx.trans (congrArg V.int (Int.zero_add _))
    subst hx
    have hic : i < (cellsOf r).length := by rw [← Paired.length hls]; exact hi
    obtain ⟨a1, b1, d1⟩ := pget c2 (getE hic)
    obtain ⟨a2, b2, d2⟩ := pget hls (getE hic)
    have few : ((cellsOf r)[i]).length ≤ 16777216 := by
      have q : (cellsOf r)[i] ∈ cellsOf r := List.getElem_mem hic
      generalize (cellsOf r)[i] = cc at q
      unfold cellsOf at q
      obtain ⟨m, _, e⟩ := List.mem_map.mp q
      rw [← e]
      exact Nat.le_trans (places_len m r) hp.few
    refine ⟨_, rfl, _, rfl, c', _, _, .ref a1, rfl, rfl, .inl (.inl c1), atI_nat (by rw [List.getElem?_map, b1] <;> rfl), _, rfl, _, rfl, g, _, _, .ref a2, rfl, rfl, .inl (.inl hg), atI_nat (by rw [List.getElem?_map, b2] <;> rfl), a1, a2, _, rfl, d1, .inl (.inl d2), few, true, rfl, ?_⟩
    exact iteF ⟨_, rfl, rfl⟩
  · rintro σ H2 ⟨m, rfl, rfl⟩
    exact hQ _ s1
end
end K01
set_option Elab.async false
set_option linter.all false
set_option maxRecDepth 100000
set_option maxHeartbeats 4000000
namespace K01
open PySem PySem.Spec PyProof.Rows L2 Ms
def spErr (K : PySem.W.Frag) : Sp := fun vs H Q _ => ∃ (e : Addr) (m n : Nat), vs = [.ref e, .int (m : Nat), .int (n : Nat)] ∧ IsEx (SD K) (some [("two", .int (n : Nat)), ("one", .int (m : Nat))]) e H ∧ ∀ H', Same H H' → Q (.bl true) H'
theorem isEx_same {D e : Addr} {fs : Option (List (Str × V))} {H H' : Hp} (s : Same H H') (h : IsEx D fs e H) : IsEx D fs e H' := by
  cases fs with
  | none => exact s _ _ h
  | some l =>
    obtain ⟨dd, h1, h2⟩ := h
    exact ⟨dd, s _ _ h1, s _ _ h2⟩
section
variable {P : Program} {w : World} {K : PySem.W.Frag} {mg : Str → Option Value} {base : Heap}
theorem wok__law_error (T : Tx K mg) : WOk P w K mg base "_law_error" 2 (spErr K) := by
  have W : WOk P w K mg base "_law_whole" 1 spWhole := wok__law_whole T
  obtain ⟨fd, F⟩ := T.d__law_error
  refine ⟨⟨fd, _, Ms.FunD.warm F sc_law_error (fun vs H Q E h => ?_) (fun cdv A outer s H vs Q E hr h => ?_), F.bindsN bi__law_error⟩, T.gd__law_error, F.kp⟩
  · obtain ⟨e, m, n, rfl, _⟩ := h
    rfl
  obtain ⟨e, m, n, rfl, he, hQ⟩ := h
  refine ⟨_, (pss_cons (ps_if (PW.pt (pw_or (pt_not (pt_val (pe_callB (isK K) (by rfl) T.f_isinstance (by decide +kernel) (pa_cons (pv 0) (pa_cons (pe_glob (v := .ref (He.ga K "SizesDiffer")) rfl T.g_SizesDiffer rfl) pa_nil))))) (pw_or1 (pt_not (pt_val (pe_callB (isK K) (by rfl) T.f_isinstance (by decide +kernel) (pa_cons (pv 0) (pa_cons (pe_bltn (v := .ty "ValueError") (by rfl) T.f_ValueError (by decide +kernel) rfl) pa_nil))))))))
    (pss_one (ps_ret pe_bl))
    pss_nil)
    (pss_cons (ps_if (PW.pt (pw_or (pt_val (pe_callB (isTK K) (by rfl) T.f_isinstance (by decide +kernel) (pa_cons (pv 0) (pa_cons (pe_tup (pa_cons (pe_glob (v := .ref (He.ga K "NoDeals")) rfl T.g_NoDeals rfl) (pa_cons (pe_glob (v := .ref (He.ga K "BadLength")) rfl T.g_BadLength rfl) pa_nil))) pa_nil)))) (pw_or (pt_not (pt_val (pe_w W hr (by decide) (pa_cons (pe_exf (pv 0)) pa_nil)))) (pw_or1 (pt_not (pt_val (pe_w W hr (by decide) (pa_cons (pe_exf (pv 0)) pa_nil))))))))
    (pss_one (ps_ret pe_bl))
    pss_nil)
    (pss_one (ps_ret (pe_and (pe_cmpR op_eq (pe_exf (pv 0)) (pv 1) (nomark _)) (pe_one (pe_cmpR op_eq (pe_exf (pv 0)) (pv 2) (nomark _)))))))), ?_⟩
  refine ⟨_, rfl, .ref e, .ref (SD K), _, _, true, rfl, .own _, .ex he T.ec_SizesDiffer, T.is_SizesDiffer_SizesDiffer, true, rfl, ?_⟩
  refine iteF ?_
  refine ⟨_, rfl, .ref e, .ty "ValueError", _, _, true, rfl, .ty _, .ex he T.ec_SizesDiffer, T.is_SizesDiffer_ValueError, true, rfl, ?_⟩
  refine iteF ?_
  refine ⟨_, rfl, by show 2 ≤ sizeLine; decide, fun t nt => ?_⟩
  have s1 := same_new (o := .tup [.ref (ND K), .ref (He.ga K "BadLength")]) nt
  have he1 := isEx_same s1 he
  refine ⟨.ref e, t, _, _, _, false, rfl, upd_same .., .cons (.own _) (.cons (.own _) .nil), .ex he1 T.ec_SizesDiffer, ?_, false, rfl, ?_⟩
  · unfold PySem.W.kitAny
    rw [T.is_SizesDiffer_NoDeals]
    unfold PySem.W.kitAny
    rw [T.is_SizesDiffer_BadLength]
    rfl
  refine iteF ?_
  refine ⟨_, rfl, e, SD K, _, _, rfl, he1, T.ec_SizesDiffer, T.nS_one, rfl, _, rfl, true, rfl, ?_⟩
  refine iteF ?_
  refine ⟨_, rfl, e, SD K, _, _, rfl, he1, T.ec_SizesDiffer, T.nS_two, rfl, _, rfl, true, rfl, ?_⟩
  refine iteF ?_
  refine ⟨_, rfl, e, SD K, _, _, rfl, he1, T.ec_SizesDiffer, T.nS_one, rfl, _, rfl, rfl, _, rfl, ?_⟩
  have q1 : decide (V.int (m : Nat) = V.int (m : Nat)) = true := by simp
  have q2 : decide (V.int (n : Nat) = V.int (n : Nat)) = true := by simp
  rw [q1]
  refine iteT ?_
  refine ⟨_, rfl, e, SD K, _, _, rfl, he1, T.ec_SizesDiffer, T.nS_two, rfl, _, rfl, rfl, ?_⟩
  rw [q2]
  exact hQ _ s1
end
end K01
set_option Elab.async false
set_option linter.all false
set_option maxRecDepth 100000
set_option maxHeartbeats 4000000
/-! Ms, plain: the first pair that one row joins and the other parts. -/
namespace Ms
section
variable {κ : Type} [DecidableEq κ]
theorem places_mem {m : κ} {l : List κ} {x : Nat} : x ∈ places m l ↔ l[x]? = some m := by
  unfold places
  rw [List.mem_filter, List.mem_range, decide_eq_true_eq]
  exact ⟨fun h => h.2, fun h => ⟨ltE h, h⟩⟩
theorem places_asc (m : κ) (l : List κ) : (places m l).Pairwise (· < ·) := by
  unfold places
  exact List.Pairwise.filter _ List.pairwise_lt_range
/-- smaller numbers stand ahead -/
theorem ren_before (l : List κ) : ∀ (x m i : Nat), (ren l)[x]? = some m → i < m → ∃ y, y < x ∧ (ren l)[y]? = some i := by
  induction l using snoc_ind with
  | h0 => intro x m i h; cases h
  | hs l k ih =>
    intro x m i h hi
    rw [ren_snoc] at h ⊢
    have up : ∀ {y : Nat}, y < (ren l).length → (ren l ++ [(firsts l).idxOf k])[y]? = (ren l)[y]? := fun hy => List.getElem?_append_left hy
    rcases Nat.lt_or_ge x (ren l).length with hx | hx
    · rw [up hx] at h
      obtain ⟨y, hy, e⟩ := ih x m i h hi
      exact ⟨y, hy, by rw [up (ltE e)]; exact e⟩
    · have lx := ltE h
      rw [List.length_append, List.length_singleton] at lx
      have ex : x = (ren l).length := by omega
      rw [ex, List.getElem?_append_right (Nat.le_refl _), Nat.sub_self] at h
      have em : (firsts l).idxOf k = m := by simpa using h
      have hle : (firsts l).idxOf k ≤ (firsts l).length := List.idxOf_le_length
      have hmem : i ∈ ren l := by
        rw [← mem_firsts, firsts_ren, List.mem_range]
        omega
      obtain ⟨y, hy⟩ := List.mem_iff_getElem?.mp hmem
      exact ⟨y, by rw [ex]; exact ltE hy, by rw [up (ltE hy)]; exact hy⟩
end
/-- d and o are one in f and two in g -/
def UP (f g : List Nat) (d o : Nat) : Prop := d < o ∧ o < f.length ∧ at0 f d = at0 f o ∧ at0 g d ≠ at0 g o
def Fst (f g : List Nat) : Option (Nat × Nat) → Prop
  | none => ∀ d o, ¬ UP f g d o
  | some (d, o) => UP f g d o ∧ ∀ d' o', UP f g d' o' → d < d' ∨ (d = d' ∧ o ≤ o')
theorem Fst.uniq {f g : List Nat} {r r' : Option (Nat × Nat)} (h : Fst f g r) (h' : Fst f g r') : r = r' := by
  cases r with
  | none => cases r' with
    | none => rfl
    | some p => exact absurd h'.1 (h _ _)
  | some p => cases r' with
    | none => exact absurd h.1 (h' _ _)
    | some p' =>
      obtain ⟨d, o⟩ := p
      obtain ⟨d', o'⟩ := p'
      have a := h.2 _ _ h'.1
      have b := h'.2 _ _ h.1
      have e1 : d = d' := by omega
      have e2 : o = o' := by omega
      rw [e1, e2]
theorem up_alike {f g f' g' : List Nat} (hf : Alike f f') (hg : Alike g g') (e : f.length = g.length) {d o : Nat} : UP f g d o ↔ UP f' g' d o := by
  unfold UP
  refine and_congr_right fun h1 => ?_
  rw [← hf.1]
  refine and_congr_right fun h2 => ?_
  have d1 : d < f.length := by omega
  have k1 := hf.2 d o _ _ _ _ (of_at0 d1) (of_at0 h2) (of_at0 (hf.1 ▸ d1)) (of_at0 (hf.1 ▸ h2))
  have k2 := hg.2 d o _ _ _ _ (of_at0 (e ▸ d1)) (of_at0 (e ▸ h2)) (of_at0 (hg.1 ▸ e ▸ d1)) (of_at0 (hg.1 ▸ e ▸ h2))
  exact and_congr k1 (not_congr k2)
theorem fst_alike {f g f' g' : List Nat} (hf : Alike f f') (hg : Alike g g') (e : f.length = g.length) {r : Option (Nat × Nat)} : Fst f g r ↔ Fst f' g' r := by
  cases r with
  | none => exact forall_congr' fun d => forall_congr' fun o => not_congr (up_alike hf hg e)
  | some p =>
    obtain ⟨d, o⟩ := p
    exact and_congr (up_alike hf hg e) (forall_congr' fun d => forall_congr' fun o => imp_congr (up_alike hf hg e) Iff.rfl)
/-- no pair: g is as coarse as f -/
theorem fst_none {f g : List Nat} (e : f.length = g.length) : Fst f g none ↔ ∀ (i j a c d : Nat), f[i]? = some a → f[j]? = some a → g[i]? = some c → g[j]? = some d → c = d := by
  constructor
  · intro h i j a c d h1 h2 h3 h4
    rcases Nat.lt_trichotomy i j with l | l | l
    · by_cases z : c = d
      · exact z
      · exact absurd ⟨l, ltE h2, by rw [at0_of h1, at0_of h2], by rw [at0_of h3, at0_of h4]; exact z⟩ (h i j)
    · subst l
      rw [h3] at h4
      exact Option.some.inj h4
    · by_cases z : c = d
      · exact z
      · exact absurd ⟨l, ltE h1, by rw [at0_of h1, at0_of h2], by rw [at0_of h3, at0_of h4]; exact fun q => z q.symm⟩ (h j i)
  · rintro h d o ⟨h1, h2, h3, h4⟩
    have d1 : d < f.length := by omega
    exact h4 (h d o _ _ _ (of_at0 d1) (by rw [h3]; exact of_at0 h2) (of_at0 (e ▸ d1)) (of_at0 (e ▸ h2)))
end Ms
set_option Elab.async false
set_option linter.all false
set_option maxRecDepth 100000
set_option maxHeartbeats 4000000
namespace K01
open PySem PySem.Spec PyProof.Rows L2 Ms
/-- a pair of deals, or none, as a value -/
def PV (H : Hp) (r : Option (Nat × Nat)) (v : V) : Prop := match r with
  | none => v = .non
  | some (d, o) => ∃ t, v = .ref t ∧ H t = some (.tup [.int (d : Nat), .int (o : Nat)])
theorem PV.same {H H' : Hp} (s : ∀ b o, H b = some o → H' b = some o) {r : Option (Nat × Nat)} {v : V} (h : PV H r v) : PV H' r v := by
  cases r with
  | none => exact h
  | some p => exact let ⟨t, e, q⟩ := h; ⟨t, e, s _ _ q⟩
def spUnlike (K : PySem.W.Frag) : Sp := fun vs H Q E => ∃ p q f g, vs = [.ref p, .ref q] ∧ SightAt K H p f ∧ SightAt K H q g ∧ (f.length = g.length → ∀ r v H', Fst f g r → PV H' r v → Same H H' → Q v H') ∧ (f.length ≠ g.length → Differ K H E f.length g.length)
def spTells (K : PySem.W.Frag) : Sp := fun vs H Q E => ∃ p q f g, vs = [.ref p, .ref q] ∧ SightAt K H p f ∧ SightAt K H q g ∧ (f.length = g.length → ∀ r H', Fst f g r → Same H H' → Q (.bl (decide (r = none))) H') ∧ (f.length ≠ g.length → Differ K H E f.length g.length)
def spRestr (K : PySem.W.Frag) : Sp := fun vs H Q _ => ∃ p l f ds, vs = [.ref p, .ref l] ∧ SightAt K H p f ∧ (SqL K H l (nV ds) ∨ SqT K H l (nV ds)) ∧ 0 < ds.length ∧ ds.length ≤ 16777216 ∧ (∀ x ∈ ds, x < f.length) ∧ ∀ H' x, Same H H' → H x = none → SightAt K H' x (ren (ds.map fun i => at0 f i)) → Q (.ref x) H'
def spCross (K : PySem.W.Frag) : Sp := fun vs H Q _ => ∃ p q f g, vs = [.ref p, .ref q] ∧ SightAt K H p f ∧ SightAt K H q g ∧ f.length * g.length ≤ 16777216 ∧ ∀ H' x, Same H H' → H x = none → SightAt K H' x (ren (f.flatMap fun a => g.map fun b => (a, b))) → Q (.ref x) H'
section
variable {P : Program} {w : World} {K : PySem.W.Frag} {mg : Str → Option Value} {base : Heap}
theorem ok_unlike_pair (T : Tx K mg) : Ok P w K mg base "unlike_pair" 3 (spUnlike K) := by
  obtain ⟨fd, ps, F, hb⟩ := fn_sd (P := P) (w := w) (base := base) T
  obtain ⟨fdP, psP, FP, bP⟩ := fn_cells (P := P) (w := w) (base := base) T
  refine ok_ofX T.a_unlike_pair scunlike_pair (fun vs H Q E h => ?_) bi_unlike_pair fun cdv A outer s H vs Q E hr h => ?_
  · obtain ⟨p, q, f, g, rfl, _⟩ := h
    rfl
  obtain ⟨p, q, f, g, rfl, hp, hq, h1, h2⟩ := h
  refine ⟨_, (pss_cons (ps_if (pt_cmpR op_ne (pe_fld (pv 0) rfl) (pe_fld (pv 1) rfl) (nomark _))
    (pss_one (ps_raise rfl (takes_of rfl rfl rfl rfl) (pmk_oex (dvs := []) T.oe_SizesDiffer T.ie_SizesDiffer.1 T.ie_SizesDiffer.2 F (hr.mono (by decide)) hb .nil passF (by rfl) T.g_SizesDiffer (pa_cons (pe_fld (pv 0) rfl) (pa_cons (pe_fld (pv 1) rfl) pa_nil)))))
    pss_nil)
    (pss_cons (ps_for (passes_of rfl) rfl (pi_tup (pe_prop (pv 0) T.c_Sight T.p_cells FP (hr.mono (by decide)) bP .nil passF (by rfl))) (pg_name (i := 2) scunlike_pair.nd rfl (by first | exact Or.inl rfl | exact Or.inr rfl))
    (pss_one (ps_for (passes_of rfl) rfl (pi_tup (pv 2)) (pg_name (i := 3) scunlike_pair.nd rfl (by first | exact Or.inl rfl | exact Or.inr rfl))
      (pss_one (ps_if (pt_cmpR op_ne (pe_ix (ixT K) (pe_fld (pv 1) rfl) (pv 3) (fun _ _ => rfl)) (pe_ix (ixT K) (pe_fld (pv 1) rfl) (pe_ix (ixT K) (pv 2) pe_int (fun _ _ => rfl)) (fun _ _ => rfl)) (nomark _))
        (pss_one (ps_ret (pe_tup (pa_cons (pe_ix (ixT K) (pv 2) pe_int (fun _ _ => rfl)) (pa_cons (pv 3) pa_nil)))))
        pss_nil)))))
    (pss_one (ps_ret pe_non)))), ?_⟩
  obtain ⟨dx, tt, c, e1, e2, e3⟩ := hp.ex
  obtain ⟨dy, tu, cu, e4, e5, _⟩ := hq.ex
  refine ⟨_, rfl, p, _, dx, _, _, rfl, e1, T.c_Sight, T.n_size, rfl, _, rfl, q, _, dy, _, _, rfl, e4, T.c_Sight, T.n_size, rfl, rfl, _, rfl, ?_⟩
  by_cases e : f.length = g.length
  · have z : (!decide (V.int (f.length : Nat) = V.int (g.length : Nat))) = false := by rw [e]; simp
    rw [z]
    refine iteF ?_
    refine ⟨_, rfl, p, dx, _, rfl, e1, p, f, rfl, hp, fun cc hcc => ?_⟩
    obtain ⟨ts, c1, c2⟩ := hcc
    have rf := hp.row
    have lc : ts.length = cnt f := by rw [Paired.length c2, row_cells rf, List.length_map, List.length_range]
    refine ⟨cc, rfl, ⟨_, .inl (.inl c1)⟩, for_tup (xs := ts.map V.ref) (fun i σ H1 => ∃ m2 m3, σ = [some (.ref p), some (.ref q), m2, m3] ∧ H1 = H ∧ ∀ x y, x < f.length → y < f.length → at0 f x = at0 f y → at0 f x < i → at0 g x = at0 g y) ?_ ?_ ?_ ?_⟩
    · exact ⟨none, none, rfl, rfl, fun x y _ _ _ z => absurd z (Nat.not_lt_zero _)⟩
    · rintro i σ H1 _ ⟨_, _, _, rfl, _⟩
      exact .inl (.inl c1)
    · rintro i x0 σ H1 hx0 ⟨m2, m3, rfl, rfl, inv⟩
      obtain ⟨t, ht, rfl⟩ := (show ∃ r, ts[i]? = some r ∧ x0 = .ref r by
        rw [List.getElem?_map] at hx0
        cases e : ts[i]? with
        | none => rw [e] at hx0; cases hx0
        | some r => rw [e] at hx0; exact ⟨r, rfl, (Option.some.inj hx0).symm⟩)
      have hi : i < cnt f := by rw [← lc]; exact ltE ht
      obtain ⟨cs, hcs, hct⟩ := LiI.paired_get c2 ht
      have ecs : cs = places i f := by
        rw [row_cells rf, List.getElem?_map, List.getElem?_range hi] at hcs
        exact (Option.some.inj hcs).symm
      subst ecs
      have pm : ∀ {x}, x ∈ places i f ↔ (x < f.length ∧ at0 f x = i) := fun {x} => by
        rw [places_mem]
        exact ⟨fun z => ⟨ltE z, at0_of z⟩, fun z => by rw [of_at0 z.1, z.2]⟩
      have asc := places_asc i f
      obtain ⟨x, hx⟩ := List.mem_iff_getElem?.mp ((row_mem rf).mpr hi)
      have hne : 0 < (places i f).length := List.length_pos_of_mem (places_mem.mpr hx)
      have c0m := (pm.mp (List.getElem_mem hne))
      have c0 : (places i f)[0]? = some (places i f)[0] := getE hne
      generalize hc0 : (places i f)[0] = c00 at c0 c0m
      have c0le : ∀ y ∈ places i f, c00 ≤ y := fun y hy => by
        obtain ⟨j, hj⟩ := List.mem_iff_getElem?.mp hy
        rcases Nat.eq_zero_or_pos j with z | z
        · rw [z, c0] at hj
          exact Nat.le_of_eq (Option.some.inj hj)
        · have q1 := List.pairwise_iff_getElem.mp asc 0 j hne (ltE hj) z
          rw [hc0] at q1
          rw [getE (ltE hj)] at hj
          rw [← Option.some.inj hj]
          exact Nat.le_of_lt q1
      refine ⟨_, rfl, t, rfl, ⟨_, .inl (.inl hct)⟩, for_tup (xs := nV (places i f)) (fun j σ H2 => ∃ m3, σ = [some (.ref p), some (.ref q), some (.ref t), m3] ∧ H2 = H1 ∧ ∀ j' y, j' < j → (places i f)[j']? = some y → at0 g y = at0 g c00) ?_ ?_ ?_ ?_⟩
      · exact ⟨m3, rfl, rfl, fun j' y z => absurd z (Nat.not_lt_zero _)⟩
      · rintro j σ H2 _ ⟨_, _, rfl, _⟩
        exact .inl (.inl hct)
      · rintro j y0 σ H2 hy0 ⟨m3, rfl, rfl, inv2⟩
        obtain ⟨y, hy, rfl⟩ := of_nV hy0
        have ym := pm.mp (List.mem_of_getElem? hy)
        refine ⟨_, rfl, q, _, dy, _, _, rfl, e4, T.c_Sight, T.n_marks, rfl, _, rfl, tu, _, _, _, rfl, rfl, .inl (.inl e5), atI_nat (nV_at0 (e ▸ ym.1)), _, rfl, q, _, dy, _, _, rfl, e4, T.c_Sight, T.n_marks, rfl, _, rfl, t, _, _, _, rfl, rfl, .inl (.inl hct), atI_nat (j := 0) (nV_at c0), tu, _, _, _, rfl, rfl, .inl (.inl e5), atI_nat (nV_at0 (e ▸ c0m.1)), rfl, _, rfl, ?_⟩
        by_cases eg : at0 g y = at0 g c00
        · have z : (!decide (V.int (at0 g y : Nat) = V.int (at0 g c00 : Nat))) = false := by rw [eg]; simp
          rw [z]
          refine iteF ⟨_, rfl, rfl, fun j' y' hj' hy' => ?_⟩
          rcases Nat.lt_or_ge j' j with l | l
          · exact inv2 j' y' l hy'
          · have ej : j' = j := by omega
            rw [ej, hy] at hy'
            rw [← Option.some.inj hy']
            exact eg
        · have z : (!decide (V.int (at0 g y : Nat) = V.int (at0 g c00 : Nat))) = true := by
            have n : ¬ V.int (at0 g y : Nat) = V.int (at0 g c00 : Nat) := fun z => eg (ci _ _ (V.int.inj z))
            rw [decide_eq_false n] <;> rfl
          rw [z]
          refine iteT ?_
          refine ⟨_, rfl, t, _, _, _, rfl, rfl, .inl (.inl hct), atI_nat (j := 0) (nV_at c0), _, rfl, by show 2 ≤ sizeLine; decide, fun t2 nt2 => ?_⟩
          have cy : c00 < y := by
            have q1 := c0le y (List.mem_of_getElem? hy)
            rcases Nat.lt_or_ge c00 y with l | l
            · exact l
            · have : c00 = y := by omega
              rw [this] at eg
              exact absurd rfl eg
          refine h1 e (some (c00, y)) _ _ ⟨⟨cy, ym.1, by rw [c0m.2, ym.2], fun z => eg z.symm⟩, fun d' o' hu => ?_⟩ ⟨t2, rfl, upd_same ..⟩ (fun b o q => by rw [upd_ne (fun z => by rw [z, nt2] at q; cases q)]; exact q)
          obtain ⟨u1, u2, u3, u4⟩ := hu
          have d1 : d' < f.length := by omega
          rcases Nat.lt_trichotomy (at0 f d') i with l | l | l
          · exact absurd (inv d' o' d1 u2 u3 l) u4
          · have dm := pm.mpr ⟨d1, l⟩
            have om := pm.mpr ⟨u2, by rw [← u3]; exact l⟩
            rcases Nat.lt_or_ge c00 d' with l2 | l2
            · exact .inl l2
            · have ed : c00 = d' := by have := c0le d' dm; omega
              refine .inr ⟨ed, ?_⟩
              obtain ⟨jo, hjo⟩ := List.mem_iff_getElem?.mp om
              rcases Nat.lt_or_ge jo j with l3 | l3
              · have := inv2 jo o' l3 hjo
                rw [← ed] at u4
                exact absurd this.symm u4
              · rcases Nat.lt_or_ge j jo with l4 | l4
                · have q1 := List.pairwise_iff_getElem.mp asc j jo (ltE hy) (ltE hjo) l4
                  rw [getE (ltE hy)] at hy
                  rw [getE (ltE hjo)] at hjo
                  rw [Option.some.inj hy, Option.some.inj hjo] at q1
                  exact Nat.le_of_lt q1
                · have : jo = j := by omega
                  rw [this, hy] at hjo
                  exact Nat.le_of_eq (Option.some.inj hjo)
          · obtain ⟨y', hy1, hy2⟩ := ren_before f d' (at0 f d') i (by rw [show ren f = f from rf]; exact of_at0 d1) l
            rw [show ren f = f from rf] at hy2
            have := c0le y' (places_mem.mpr hy2)
            exact .inl (by omega)
      · rintro σ H2 ⟨m3, rfl, rfl, inv2⟩
        rw [nV_len] at inv2
        refine ⟨_, _, rfl, rfl, fun x y hx hy hxy hlt => ?_⟩
        rcases Nat.lt_or_ge (at0 f x) i with l | l
        · exact inv x y hx hy hxy l
        · have ex : at0 f x = i := by omega
          obtain ⟨j1, g1⟩ := List.mem_iff_getElem?.mp (pm.mpr ⟨hx, ex⟩)
          obtain ⟨j2, g2⟩ := List.mem_iff_getElem?.mp (pm.mpr ⟨hy, by rw [← hxy]; exact ex⟩)
          rw [inv2 j1 x (ltE g1) g1, inv2 j2 y (ltE g2) g2]
    · rintro σ H1 ⟨m2, m3, rfl, rfl, inv⟩
      rw [List.length_map, lc] at inv
      refine h1 e none _ _ (fun d o hu => ?_) rfl (fun b o q => q)
      obtain ⟨u1, u2, u3, u4⟩ := hu
      have d1 : d < f.length := by omega
      exact u4 (inv d o d1 u2 u3 ((row_mem rf).mp (List.mem_of_getElem? (of_at0 d1))))
  · have z : (!decide (V.int (f.length : Nat) = V.int (g.length : Nat))) = true := by
      have n : ¬ V.int (f.length : Nat) = V.int (g.length : Nat) := fun z => e (ci _ _ (V.int.inj z))
      rw [decide_eq_false n] <;> rfl
    rw [z]
    refine iteT ?_
    refine ⟨_, rfl, p, _, dx, _, _, rfl, e1, T.c_Sight, T.n_size, rfl, _, rfl, q, _, dy, _, _, rfl, e4, T.c_Sight, T.n_size, rfl, by show 2 ≤ 1000; decide, fun a na => ?_⟩
    refine ⟨a, _, _, rfl, upd_same .., fun d nd ne => ⟨rfl, d, [("two", .int (g.length : Nat)), ("one", .int (f.length : Nat))], ?_, upd_same .., ?_, ?_⟩⟩
    · rw [upd_ne ne.symm, upd_same]
    · rw [upd_ne ne] at nd
      exact nd
    · refine h2 e d _ (by rw [upd_ne ne] at nd; exact nd) (upd_same ..) fun b hb => ?_
      rw [upd_ne hb]
      by_cases hba : b = a
      · rw [hba, del_same, na]
      · rw [del_ne hba, upd_ne hb, upd_ne hba, upd_ne hb, upd_ne hba]
theorem ok_tells (T : Tx K mg) : Ok P w K mg base "tells" 4 (spTells K) := by
  have O_unlike_pair : Ok P w K mg base "unlike_pair" 3 (spUnlike K) := ok_unlike_pair T
  refine ok_ofX T.a_tells sctells (fun vs H Q E h => ?_) bi_tells fun cdv A outer s H vs Q E hr h => ?_
  · obtain ⟨p, q, f, g, rfl, _⟩ := h
    rfl
  obtain ⟨p, q, f, g, rfl, hp, hq, h1, h2⟩ := h
  refine ⟨_, (pss_one (ps_ret (pe_cmpR op_isN (pe_c O_unlike_pair hr (by decide) (passAt (takes_of rfl rfl rfl rfl)) (pa_cons (pv 0) (pa_cons (pv 1) pa_nil))) pe_non (nomark _)))), ?_⟩
  refine ⟨_, rfl, _, rfl, p, q, f, g, rfl, hp, hq, fun e r v H' hr' hv hs => ?_, fun e d H' nd hd ho => h2 e d H' nd hd ho⟩
  refine ⟨rfl, ?_⟩
  have ed : decide (v = V.non) = decide (r = none) := by
    cases r with
    | none => rw [show v = .non from hv]; simp
    | some p =>
      obtain ⟨t, ev, _⟩ := hv
      rw [ev]
      simp
  rw [ed]
  exact h1 e r H' hr' hs
end
end K01
set_option Elab.async false
set_option linter.all false
set_option maxRecDepth 100000
set_option maxHeartbeats 4000000
namespace K01
open PySem PySem.Spec PyProof.Rows L2 Ms
theorem take_map {α β : Type} {h : α → β} {l : List α} {i : Nat} {x : α} (e : l[i]? = some x) : (l.take (i + 1)).map h = (l.take i).map h ++ [h x] := by
  rw [List.take_add_one, e, List.map_append] <;> rfl
theorem same2 {H H1 H2 : Hp} (a : Same H H1) (b : Same H1 H2) : Same H H2 := fun c o q => b _ _ (a _ _ q)
theorem same_put {H H1 : Hp} {p : Addr} {o : HO} (h : H p = none) (s : Same H H1) : Same H (upd H1 p o) := fun b q e => by
  rw [upd_ne (fun z => by rw [z, h] at e; cases e)]
  exact s _ _ e
theorem iV_snoc (l : List Int) (d : Int) : l.map V.int ++ [V.int d] = (l ++ [d]).map V.int := by rw [List.map_append] <;> rfl
theorem zip_at {f g : List Nat} {i a b : Nat} (h1 : f[i]? = some a) (h2 : g[i]? = some b) : (f.zip g)[i]? = some (a, b) := List.getElem?_zip_eq_some.mpr ⟨h1, h2⟩
abbrev ip (p : Nat × Nat) : Int × Int := (((p.1 : Nat) : Int), ((p.2 : Nat) : Int))
theorem ip_inj (a b : Nat × Nat) (z : ip a = ip b) : a = b := Prod.ext (ci _ _ (Prod.mk.inj z).1) (ci _ _ (Prod.mk.inj z).2)
theorem fm_len (g : List Nat) : ∀ l : List Nat, (l.flatMap fun a => g.map fun b => (a, b)).length = l.length * g.length
  | [] => by simp
  | a :: l => by
    rw [List.flatMap_cons, List.length_append, fm_len g l, List.length_map, List.length_cons, Nat.add_mul]
    omega
section
variable {P : Program} {w : World} {K : PySem.W.Frag} {mg : Str → Option Value} {base : Heap}
theorem ok_restricted (T : Tx K mg) : Ok P w K mg base "restricted" 4 (spRestr K) := by
  have O_Sightu__initu_ : COk P w K mg base "Sight" 2 (spInit K) := cok T
  refine ok_of T.a_restricted screstricted (fun vs H Q E h => ?_) bi_restricted fun cdv A outer s H vs Q E hr h => ?_
  · obtain ⟨p, l, f, ds, rfl, _⟩ := h
    rfl
  obtain ⟨p, l, f, ds, rfl, hp, hl, hpos, hz, hlt, hQ⟩ := h
  have big : (16777216 : Nat) ≤ sizeLine := by decide
  rcases hl with hl | hl
  · refine ⟨_, (pss_one (ps_ret (pe_nK K (E := EN) O_Sightu__initu_ hr (by decide) (fun σ => passN σ) (pa_cons (pe_lc (own := [("deal", 2)]) (g := gName 2) rfl screstricted.nd (pi_list (pv 1)) (blkOk_by (N := ["sight", "deals", "deal"]) (sc := defScope srestricted) (by decide +kernel)) (fun _ _ _ _ _ => (pg_name (i := 2) screstricted.nd rfl (by first | exact Or.inl rfl | exact Or.inr rfl))) (fun _ _ _ _ _ => pts_nil) (fun _ _ _ _ _ => (pe_ix (ixT K) (pe_fldK K (pv 0)) (pv 2) (fun _ _ => rfl)))) pa_nil)))), ?_⟩
    obtain ⟨dx, tt, c, e1, e2, _⟩ := hp.ex
    refine ⟨_, rfl, l, rfl, ⟨_, hl⟩, fun D nD => ?_⟩
    refine lc_it (walk_list (K := K) (a := l) (xs := nV ds)) (fun i H1 => H1 D = some (.lst (nV ((ds.take i).map fun i => at0 f i))) ∧ Same H H1) ⟨upd_same .., same_new nD⟩ (fun i H1 _ h => Same.seq h.2 hl) ?_ ?_
    · rintro i x0 H1 H2 hi ⟨q1, q2⟩ ⟨rfl, hx⟩
      obtain ⟨x, hx2, rfl⟩ := of_nV hx
      rw [nV_len] at hi
      refine ⟨rfl, _, rfl, p, _, dx, _, _, rfl, q2 _ _ e1, T.c_Sight, T.n_marks, rfl, _, rfl, tt, _, _, _, rfl, rfl, .inl (.inl (q2 _ _ e2)), atI_nat (nV_at0 (hlt x (List.mem_of_getElem? hx2))), _, q1, by rw [nV_len, List.length_map, List.length_take]; omega, ?_, same_put nD q2⟩
      rw [upd_same, nV_snoc, take_map hx2]
    rintro H1 ⟨q1, q2⟩
    rw [nV_len, List.take_length] at q1
    have hm : MarksAt K H1 D (ren (ds.map fun i => at0 f i)) := ⟨_, by rw [nV_len, List.length_map]; exact hz, .inl ⟨_, nV_int _, (ren_map ci).symm, .inl (.inl (.inl q1))⟩⟩
    refine make_fin hm (fun _ H2 x s2 nx hx => hQ H2 x (same2 q2 s2) (q2.free nx) hx) (fun e => absurd e (by rw [ren_len, List.length_map]; omega))
  · refine ⟨_, (pss_one (ps_ret (pe_nK K (E := EN) O_Sightu__initu_ hr (by decide) (fun σ => passN σ) (pa_cons (pe_lc (own := [("deal", 2)]) (g := gName 2) rfl screstricted.nd (pi_tup (pv 1)) (blkOk_by (N := ["sight", "deals", "deal"]) (sc := defScope srestricted) (by decide +kernel)) (fun _ _ _ _ _ => (pg_name (i := 2) screstricted.nd rfl (by first | exact Or.inl rfl | exact Or.inr rfl))) (fun _ _ _ _ _ => pts_nil) (fun _ _ _ _ _ => (pe_ix (ixT K) (pe_fldK K (pv 0)) (pv 2) (fun _ _ => rfl)))) pa_nil)))), ?_⟩
    obtain ⟨dx, tt, c, e1, e2, _⟩ := hp.ex
    refine ⟨_, rfl, l, rfl, ⟨_, hl⟩, fun D nD => ?_⟩
    refine lc_it (walk_tup (K := K) (a := l) (xs := nV ds)) (fun i H1 => H1 D = some (.lst (nV ((ds.take i).map fun i => at0 f i))) ∧ Same H H1) ⟨upd_same .., same_new nD⟩ (fun i H1 _ h => Same.sqT h.2 hl) ?_ ?_
    · rintro i x0 H1 H2 hi ⟨q1, q2⟩ ⟨rfl, hx⟩
      obtain ⟨x, hx2, rfl⟩ := of_nV hx
      rw [nV_len] at hi
      refine ⟨rfl, _, rfl, p, _, dx, _, _, rfl, q2 _ _ e1, T.c_Sight, T.n_marks, rfl, _, rfl, tt, _, _, _, rfl, rfl, .inl (.inl (q2 _ _ e2)), atI_nat (nV_at0 (hlt x (List.mem_of_getElem? hx2))), _, q1, by rw [nV_len, List.length_map, List.length_take]; omega, ?_, same_put nD q2⟩
      rw [upd_same, nV_snoc, take_map hx2]
    rintro H1 ⟨q1, q2⟩
    rw [nV_len, List.take_length] at q1
    have hm : MarksAt K H1 D (ren (ds.map fun i => at0 f i)) := ⟨_, by rw [nV_len, List.length_map]; exact hz, .inl ⟨_, nV_int _, (ren_map ci).symm, .inl (.inl (.inl q1))⟩⟩
    refine make_fin hm (fun _ H2 x s2 nx hx => hQ H2 x (same2 q2 s2) (q2.free nx) hx) (fun e => absurd e (by rw [ren_len, List.length_map]; omega))
/-- pairs that are made -/
def Prs (H H1 : Hp) (D : Addr) (ps : List (Nat × Nat)) : Prop := ∃ ts : List Addr, H1 D = some (.lst (ts.map V.ref)) ∧ Paired (fun t p => H1 t = some (pairV p)) ts (ps.map ip) ∧ Same H H1
theorem Prs.put {H H1 : Hp} {D t : Addr} {ps : List (Nat × Nat)} {ts : List Addr} (nD : H D = none) (h1 : H1 D = some (.lst (ts.map V.ref))) (h2 : Paired (fun t p => H1 t = some (pairV p)) ts (ps.map ip)) (h3 : Same H H1) (nt : H1 t = none) (p : Nat × Nat) :
    Prs H (upd (upd H1 t (pairV (ip p))) D (.lst (ts.map V.ref ++ [.ref t]))) D (ps ++ [p]) := by
  have tD : t ≠ D := fun e => by rw [e, h1] at nt; cases nt
  refine ⟨ts ++ [t], by rw [upd_same, List.map_append] <;> rfl, ?_, same_put nD (same2 h3 (same_new nt))⟩
  rw [List.map_append]
  refine psnoc (pimp (fun t' c _ q => ?_) h2) ?_
  · rw [upd_ne (fun e => by rw [e, h1] at q; cases q)]
    exact same_new nt _ _ q
  · rw [upd_ne tD, upd_same]
theorem ok_crossed (T : Tx K mg) : Ok P w K mg base "crossed" 4 (spCross K) := by
  have O_Sightu__initu_ : COk P w K mg base "Sight" 2 (spInit K) := cok T
  refine ok_of T.a_crossed sccrossed (fun vs H Q E h => ?_) bi_crossed fun cdv A outer s H vs Q E hr h => ?_
  · obtain ⟨p, q, f, g, rfl, _⟩ := h
    rfl
  obtain ⟨p, q, f, g, rfl, hp, hq, hz, hQ⟩ := h
  have big : (16777216 : Nat) ≤ sizeLine := by decide
  refine ⟨_, (pss_one (ps_ret (pe_nK K (E := EN) O_Sightu__initu_ hr (by decide) (fun σ => passN σ) (pa_cons (pe_lc2 (own := [("mark", 2), ("other", 3)]) (vs1 := [3]) rfl sccrossed.nd (pi_tup (pe_fld (pv 0) rfl)) (blkOk_by (N := ["one", "two", "mark", "other"]) (sc := defScope scrossed) (by decide +kernel)) (by decide) (fun _ _ _ _ _ => (pg_name (i := 2) sccrossed.nd rfl (by first | exact Or.inl rfl | exact Or.inr rfl))) (fun _ _ _ _ _ => pts_nil) (fun _ _ _ _ _ => (pi_tupK K (pe_fldK K (pv 1)))) (fun _ _ _ _ _ => (pg_name (i := 3) sccrossed.nd rfl (by first | exact Or.inl rfl | exact Or.inr rfl))) (fun _ _ _ _ _ => pts_nil) (fun _ _ _ _ _ => (pe_tup (pa_cons (pv 2) (pa_cons (pv 3) pa_nil))))) pa_nil)))), ?_⟩
  obtain ⟨dx, tt, c, e1, e2, _⟩ := hp.ex
  obtain ⟨dy, tu, cu, e4, e5, _⟩ := hq.ex
  have fl : ∀ i, (((f.take i).flatMap fun a => g.map fun b => (a, b)).length) = (f.take i).length * g.length := fun i => fm_len _ _
  refine ⟨_, rfl, p, _, dx, _, _, rfl, e1, T.c_Sight, T.n_marks, rfl, tt, rfl, ⟨_, .inl (.inl e2)⟩, fun D nD => ?_⟩
  refine lc2_it (walk_tup (K := K) (a := tt) (xs := nV f)) (fun i H1 => Prs H H1 D ((f.take i).flatMap fun a => g.map fun b => (a, b))) ⟨[], upd_same .., .nil, same_new nD⟩ (fun i H1 _ h => ?_) ?_ ?_
  · obtain ⟨_, _, _, h3⟩ := h
    exact .inl (.inl (h3 _ _ e2))
  · rintro i x0 H1 H2 hi h1 ⟨rfl, hx⟩
    obtain ⟨x, hx2, rfl⟩ := of_nV hx
    rw [nV_len] at hi
    refine ⟨rfl, ?_⟩
    obtain ⟨ts0, _, _, s3⟩ := id h1
    refine ⟨_, rfl, q, _, dy, _, _, rfl, s3 _ _ e4, T.c_Sight, T.n_marks, rfl, tu, rfl, ⟨_, .inl (.inl (s3 _ _ e5))⟩, ?_⟩
    refine in2_it (walk_tup (K := K) (a := tu) (xs := nV g)) (fun j H3 => Prs H H3 D (((f.take i).flatMap fun a => g.map fun b => (a, b)) ++ (g.take j).map fun b => (x, b))) ?_ (fun j H3 _ h => ?_) ?_ ?_
    · rw [List.take_zero, List.map_nil, List.append_nil]
      exact h1
    · obtain ⟨_, _, _, h3⟩ := h
      exact .inl (.inl (h3 _ _ e5))
    · rintro j y0 H3 H4 hj ⟨ts, t1, t2, t3⟩ ⟨rfl, hy⟩
      obtain ⟨y, hy2, rfl⟩ := of_nV hy
      rw [nV_len] at hj
      refine ⟨rfl, _, rfl, _, rfl, by show 2 ≤ sizeLine; decide, fun t nt => ?_⟩
      have lts : ts.length < 16777216 := by
        rw [Paired.length t2, List.length_map, List.length_append, fl, List.length_map, List.length_take, List.length_take]
        have m1 : min i f.length = i := by omega
        have m2 : min j g.length = j := by omega
        rw [m1, m2]
        have : (i + 1) * g.length ≤ f.length * g.length := Nat.mul_le_mul_right _ hi
        rw [Nat.add_mul] at this
        omega
      refine ⟨_, same_new nt _ _ t1, by rw [List.length_map]; omega, ?_⟩
      have q := Prs.put nD t1 t2 t3 nt (x, y)
      rw [List.append_assoc] at q
      rw [take_map (h := fun b => (x, b)) hy2]
      exact q
    · intro H3 h3
      rw [nV_len, List.take_length] at h3
      have e : (f.take (i + 1)).flatMap (fun a => g.map fun b => (a, b)) = (f.take i).flatMap (fun a => g.map fun b => (a, b)) ++ g.map fun b => (x, b) := by
        rw [List.take_add_one, hx2, List.flatMap_append]
        simp
      show Prs H H3 D _
      rw [e]
      exact h3
  · rintro H1 ⟨ts, t1, t2, t3⟩
    rw [nV_len, List.take_length] at t2
    have lp : (f.flatMap fun a => g.map fun b => (a, b)).length = f.length * g.length := by
      have := fl f.length
      rw [List.take_length] at this
      exact this
    have pos : 0 < f.length * g.length := Nat.mul_pos hp.pos hq.pos
    have hm : MarksAt K H1 D (ren (f.flatMap fun a => g.map fun b => (a, b))) := ⟨_, by rw [List.length_map, Paired.length t2, List.length_map, lp]; exact hz, .inr ⟨ts, _, rfl, (ren_map ip_inj).symm, t2, .inl (.inl t1)⟩⟩
    refine make_fin hm (fun _ H2 x s2 nx hx => hQ H2 x (same2 t3 s2) (t3.free nx) hx) (fun e => absurd e (by rw [ren_len, lp]; omega))
end
end K01
set_option Elab.async false
set_option linter.all false
set_option maxRecDepth 100000
set_option maxHeartbeats 4000000
namespace K01
open PySem PySem.Spec PyProof.Rows L2 Ms
def spPair (K : PySem.W.Frag) : Sp := fun vs H Q _ => ∃ (a b : Addr) (f g : List Nat), vs = [.ref a, .ref b] ∧ SqL K H a (nV f) ∧ SqL K H b (nV g) ∧ f.length = g.length ∧ f.length ≤ 16777216 ∧ ∀ H' r v, Same H H' → Fst f g r → PV H' r v → Q v H'
section
variable {P : Program} {w : World} {K : PySem.W.Frag} {mg : Str → Option Value} {base : Heap}
theorem ok__law_pair (T : Tx K mg) : Ok P w K mg base "_law_pair" 1 (spPair K) := by
  refine ok_of T.a__law_pair sc_law_pair (fun vs H Q E h => ?_) bi__law_pair fun cdv A outer s H vs Q E hr h => ?_
  · obtain ⟨a, b, f, g, rfl, _⟩ := h
    rfl
  obtain ⟨a, b, f, g, rfl, ha, hb, e, hz, hQ⟩ := h
  have big : (16777216 : Nat) ≤ sizeLine := by decide
  refine ⟨_, (pss_cons (ps_for PassesOwn.never rfl (pi_range1 rfl T.f_range (pa_cons (pe_callB (lenK K) (by rfl) T.f_len boot_len (pa_cons (pv 0) pa_nil)) pa_nil)) (pg_name (i := 2) sc_law_pair.nd rfl (by first | exact Or.inl rfl | exact Or.inr rfl))
  (pss_one (ps_for PassesOwn.never rfl (pi_range2 rfl T.f_range (pa_cons (pe_op op_add (pv 2) pe_int) (pa_cons (pe_callB (lenK K) (by rfl) T.f_len boot_len (pa_cons (pv 0) pa_nil)) pa_nil))) (pg_name (i := 3) sc_law_pair.nd rfl (by first | exact Or.inl rfl | exact Or.inr rfl))
    (pss_one (ps_if (PW.pt (pw_and (pt_cmpR op_eq (pe_ix (ixL K) (pv 0) (pv 2) (fun _ _ => rfl)) (pe_ix (ixL K) (pv 0) (pv 3) (fun _ _ => rfl)) (nomark _)) (pw_and1 (pt_cmpR op_ne (pe_ix (ixL K) (pv 1) (pv 2) (fun _ _ => rfl)) (pe_ix (ixL K) (pv 1) (pv 3) (fun _ _ => rfl)) (nomark _)))))
      (pss_one (ps_ret (pe_tup (pa_cons (pv 2) (pa_cons (pv 3) pa_nil)))))
      pss_nil)))))
  (pss_one (ps_ret pe_non))), ?_⟩
  refine ⟨_, rfl, a, _, rfl, .inl ha, _, rfl, by rw [nV_len]; omega, by rw [nV_len]; omega, ?_⟩
  have en : (((nV f).length : Nat) : Int).toNat = f.length := by rw [nV_len]; omega
  rw [en]
  refine for_it walk_range (fun i σ H1 => ∃ m2 m3, σ = [some (.ref a), some (.ref b), m2, m3] ∧ H1 = H ∧ ∀ d o, d < i → ¬ UP f g d o) ⟨none, none, rfl, rfl, fun d o z => absurd z (Nat.not_lt_zero _)⟩ (fun _ _ _ _ _ => trivial) ?_ ?_
  · rintro i x σ H1 H2 hi ⟨m2, m3, rfl, rfl, inv⟩ ⟨rfl, hx⟩
    have hx : x = .int (i : Nat) := hx.trans (congrArg V.int (Int.zero_add _))
    subst hx
    refine ⟨_, rfl, _, _, rfl, rfl, _, rfl, a, _, rfl, .inl ha, _, _, rfl, ⟨by omega, by omega, by rw [nV_len]; omega, by rw [nV_len]; omega⟩, ?_⟩
    have en : ((((nV f).length : Nat) : Int) - (((i : Nat) : Int) + 1)).toNat = f.length - (i + 1) := by rw [nV_len]; omega
    rw [en]
    have step : ∀ j o, (∀ o, o < i + 1 + j → ¬ UP f g i o) → ¬ UP f g i (i + 1 + j) → o < i + 1 + (j + 1) → ¬ UP f g i o := fun j o h1 h2 h3 => by
      rcases Nat.lt_or_ge o (i + 1 + j) with l | l
      · exact h1 o l
      · have eo : o = i + 1 + j := by omega
        rw [eo]
        exact h2
    refine for_it walk_range (fun j σ Hj => ∃ m3, σ = [some (.ref a), some (.ref b), some (.int (i : Nat)), m3] ∧ Hj = H2 ∧ ∀ o, o < i + 1 + j → ¬ UP f g i o) ⟨m3, rfl, rfl, fun o z u => absurd u.1 (by omega)⟩ (fun _ _ _ _ _ => trivial) ?_ ?_
    · rintro j x σ H2 H3 hj ⟨m3, rfl, rfl, inv2⟩ ⟨rfl, hx⟩
      have hx : x = .int ((i + 1 + j : Nat) : Nat) := hx.trans (congrArg V.int (by omega))
      subst hx
      have ho : i + 1 + j < f.length := by omega
      refine ⟨_, rfl, _, rfl, a, _, _, _, rfl, rfl, ha, atI_nat (nV_at0 hi), _, rfl, _, rfl, a, _, _, _, rfl, rfl, ha, atI_nat (nV_at0 ho), rfl, _, rfl, ?_⟩
      by_cases h1 : at0 f i = at0 f (i + 1 + j)
      · have z : decide (V.int (at0 f i : Nat) = V.int (at0 f (i + 1 + j) : Nat)) = true := by rw [h1]; simp
        rw [z]
        refine iteT ?_
        refine ⟨_, rfl, _, rfl, b, _, _, _, rfl, rfl, hb, atI_nat (nV_at0 (e ▸ hi)), _, rfl, _, rfl, b, _, _, _, rfl, rfl, hb, atI_nat (nV_at0 (e ▸ ho)), rfl, _, rfl, ?_⟩
        by_cases h2 : at0 g i = at0 g (i + 1 + j)
        · have z : (!decide (V.int (at0 g i : Nat) = V.int (at0 g (i + 1 + j) : Nat))) = false := by rw [h2]; simp
          rw [z]
          exact iteF ⟨_, rfl, rfl, fun o => step j o inv2 fun u => u.2.2.2 h2⟩
        · have z : (!decide (V.int (at0 g i : Nat) = V.int (at0 g (i + 1 + j) : Nat))) = true := by
            have n : ¬ V.int (at0 g i : Nat) = V.int (at0 g (i + 1 + j) : Nat) := fun z => h2 (ci _ _ (V.int.inj z))
            rw [decide_eq_false n] <;> rfl
          rw [z]
          refine iteT ?_
          refine ⟨_, rfl, _, rfl, by show 2 ≤ sizeLine; decide, fun t nt => ?_⟩
          refine hQ _ (some (i, i + 1 + j)) _ (same_new nt) ⟨⟨by omega, ho, h1, h2⟩, fun d o u => ?_⟩ ⟨t, rfl, upd_same ..⟩
          rcases Nat.lt_trichotomy d i with l | l | l
          · exact absurd u (inv d o l)
          · subst l
            rcases Nat.lt_or_ge o (d + 1 + j) with l2 | l2
            · exact absurd u (inv2 o l2)
            · exact .inr ⟨rfl, l2⟩
          · exact .inl l
      · have z : decide (V.int (at0 f i : Nat) = V.int (at0 f (i + 1 + j) : Nat)) = false := decide_eq_false fun z => h1 (ci _ _ (V.int.inj z))
        rw [z]
        exact iteF (iteF ⟨_, rfl, rfl, fun o => step j o inv2 fun u => h1 u.2.2.1⟩)
    · rintro σ H2 ⟨m3, rfl, rfl, inv2⟩
      refine ⟨_, _, rfl, rfl, fun d o hd u => ?_⟩
      rcases Nat.lt_or_ge d i with l | l
      · exact inv d o l u
      · have ed : d = i := by omega
        subst ed
        exact inv2 o (by have := u.2.1; omega) u
  · rintro σ H1 ⟨m2, m3, rfl, rfl, inv⟩
    exact hQ _ none _ (fun _ _ q => q) (fun d o u => inv d o (by have := u.1; have := u.2.1; omega) u) rfl
end
end K01
set_option Elab.async false
set_option linter.all false
set_option maxRecDepth 100000
set_option maxHeartbeats 4000000
namespace K01
open PySem PySem.Spec PyProof.Rows L2 Ms
def spAsks (K : PySem.W.Frag) : Sp := fun vs H Q _ => ∃ p q v f g r, vs = [.ref p, .ref q, v] ∧ SightAt K H p f ∧ SightAt K H q g ∧ f.length = g.length ∧ Fst f g r ∧ PV H r v ∧ ∀ H', Same H H' → Q (.bl true) H'
theorem pr_shaped (a b : Int) : SeqAt.shaped (.tuple [.int a, .int b]) = true := by
  unfold SeqAt.shaped
  simp [PyData.canLay0, PyData.canLayAll0, PyData.depth, PyData.depthAll]
section
variable {P : Program} {w : World} {K : PySem.W.Frag} {mg : Str → Option Value} {base : Heap}
theorem ok__law_asks (T : Tx K mg) : Ok P w K mg base "_law_asks" 5 (spAsks K) := by
  have O_unlike_pair : Ok P w K mg base "unlike_pair" 3 (spUnlike K) := ok_unlike_pair T
  have O_tells : Ok P w K mg base "tells" 4 (spTells K) := ok_tells T
  have O__law_whole : Ok P w K mg base "_law_whole" 1 spWhole := ok__law_whole T
  refine ok_of T.a__law_asks sc_law_asks (fun vs H Q E h => ?_) bi__law_asks fun cdv A outer s H vs Q E hr h => ?_
  · obtain ⟨p, q, v, f, g, r, rfl, _⟩ := h
    rfl
  obtain ⟨p, q, v, f, g, r, rfl, hp, hq, e, hf, hv, hQ⟩ := h
  refine ⟨_, (pss_cons (ps_set (i := 3) sc_law_asks.nd rfl (by first | exact Or.inl rfl | exact Or.inr rfl) (pe_c (E := EN) O_unlike_pair hr (by decide) (fun σ => passN σ) (pa_cons (pv 0) (pa_cons (pv 1) pa_nil))))
  (pss_cons (ps_set (i := 4) sc_law_asks.nd rfl (by first | exact Or.inl rfl | exact Or.inr rfl) (pe_c (E := EN) O_tells hr (by decide) (fun σ => passN σ) (pa_cons (pv 0) (pa_cons (pv 1) pa_nil))))
  (pss_cons (ps_if (PW.pt (pw_or (pt_not (pt_val (pe_callB (isK K) (by rfl) T.f_isinstance (by decide +kernel) (pa_cons (pv 4) (pa_cons (pe_bltn (v := .ty "bool") (by rfl) T.f_bool (by decide +kernel) rfl) pa_nil))))) (pw_or1 (pt_cmpR op_ne (pv 4) (pe_cmpR op_isN (pv 2) pe_non (nomark _)) (nomark _)))))
  (pss_one (ps_ret pe_bl))
  pss_nil)
  (pss_cons (ps_if (pt_cmpR op_isN (pv 2) pe_non (nomark _))
  (pss_one (ps_ret (pe_cmpR op_isN (pv 3) pe_non (nomark _))))
  pss_nil)
  (pss_cons (ps_if (PW.pt (pw_or (pt_not (pt_val (pe_callB (isK K) (by rfl) T.f_isinstance (by decide +kernel) (pa_cons (pv 3) (pa_cons (pe_bltn (v := .ty "tuple") (by rfl) T.f_tuple (by decide +kernel) rfl) pa_nil))))) (pw_or (pt_cmpR op_ne (pe_callB (lenK K) (by rfl) T.f_len boot_len (pa_cons (pv 3) pa_nil)) pe_int (nomark _)) (pw_or (pt_not (pt_val (pe_c (E := EN) O__law_whole hr (by decide) (fun σ => passN σ) (pa_cons (pe_ix (ixT K) (pv 3) pe_int (fun _ _ => rfl)) pa_nil)))) (pw_or1 (pt_not (pt_val (pe_c (E := EN) O__law_whole hr (by decide) (fun σ => passN σ) (pa_cons (pe_ix (ixT K) (pv 3) pe_int (fun _ _ => rfl)) pa_nil)))))))))
  (pss_one (ps_ret pe_bl))
  pss_nil)
  (pss_one (ps_ret (pe_cmpR (eqK K (hu := hr.units)) (pv 3) (pv 2) (nomark _))))))))), ?_⟩
  refine ⟨_, rfl, _, rfl, p, q, f, g, rfl, hp, hq, fun _ r1 u H1 hf1 hu s1 => ?_, fun z => absurd e z⟩
  obtain rfl := Fst.uniq hf hf1
  refine ⟨_, rfl, _, rfl, p, q, f, g, rfl, hp.same s1, hq.same s1, fun _ r2 H2 hf2 s2 => ?_, fun z => absurd e z⟩
  obtain rfl := Fst.uniq hf hf2
  have sB := same2 s1 s2
  have hu := hu.same s2
  have hv := hv.same sB
  have ed : ∀ {v : V}, PV H2 r v → decide (v = V.non) = decide (r = none) := fun {v} hv => by
    cases r with
    | none => rw [show v = .non from hv]; simp
    | some p =>
      obtain ⟨t, ev, _⟩ := hv
      rw [ev]
      simp
  refine ⟨_, rfl, .bl _, .ty "bool", _, _, true, rfl, .ty _, .of (.base (.bl _)), T.is_bool_bool, true, rfl, ?_⟩
  refine iteF ?_
  refine ⟨_, rfl, _, rfl, rfl, rfl, _, rfl, ?_⟩
  rw [ed hv]
  have z : (!decide (V.bl (decide (r = none)) = V.bl (decide (r = none)))) = false := by simp
  rw [z]
  refine iteF ?_
  refine ⟨_, rfl, rfl, _, rfl, ?_⟩
  rw [ed hv]
  cases r with
  | none =>
    refine iteT ?_
    refine ⟨_, rfl, rfl, ?_⟩
    rw [ed hu]
    exact hQ _ sB
  | some c =>
    obtain ⟨i, j⟩ := c
    obtain ⟨t, rfl, ht⟩ := hv
    obtain ⟨t2, rfl, ht2⟩ := hu
    refine iteF ?_
    refine ⟨_, rfl, .ref t2, .ty "tuple", _, _, true, rfl, .ty _, .of (.base (.tup ht2)), T.is_tuple_tuple, true, rfl, ?_⟩
    refine iteF ?_
    refine ⟨_, rfl, t2, _, rfl, .inr (.inl (.inl ht2)), rfl, _, rfl, ?_⟩
    refine iteF ?_
    refine ⟨_, rfl, t2, _, _, _, rfl, rfl, .inl (.inl ht2), atI_nat (j := 0) rfl, _, rfl, true, rfl, ?_⟩
    refine iteF ?_
    refine ⟨_, rfl, t2, _, _, _, rfl, rfl, .inl (.inl ht2), atI_nat (j := 1) rfl, _, rfl, true, rfl, ?_⟩
    refine iteF ?_
    have dp : ∀ t, H2 t = some (.tup [.int (i : Nat), .int (j : Nat)]) → Dp K H2 (.ref t) (.tuple [.int (i : Nat), .int (j : Nat)]) := fun t h => .tup (.inl (.inl h)) (.cons (.int _) (.cons (.int _) .nil))
    refine ⟨_, rfl, _, rfl, _, _, dp _ ht2, dp _ ht, pr_shaped _ _, pr_shaped _ _, ?_⟩
    rw [show PyData.eqv (.tuple [.int (i : Nat), .int (j : Nat)]) (.tuple [.int (i : Nat), .int (j : Nat)]) = true from by simp [PyData.eqv, PyData.eqvAll]]
    exact hQ _ sB
end
end K01
set_option Elab.async false
set_option linter.all false
set_option maxRecDepth 100000
set_option maxHeartbeats 4000000
namespace K01
open PySem PySem.Spec PyProof.Rows L2 Ms
def spDiffers (K : PySem.W.Frag) : Sp := fun vs H Q _ => ∃ p q r t, vs = [.ref p, .ref q, .int (r.length : Nat), .int (t.length : Nat)] ∧ SightAt K H p r ∧ SightAt K H q t ∧ r.length ≠ t.length ∧ ∀ H', Same H H' → Q (.bl true) H'
section
variable {P : Program} {w : World} {K : PySem.W.Frag} {mg : Str → Option Value} {base : Heap}
theorem ok__law_differs (T : Tx K mg) : Ok P w K mg base "_law_differs" 5 (spDiffers K) := by
  have O_unlike_pair : Ok P w K mg base "unlike_pair" 3 (spUnlike K) := ok_unlike_pair T
  have O_tells : Ok P w K mg base "tells" 4 (spTells K) := ok_tells T
  have W : WOk P w K mg base "_law_error" 2 (spErr K) := wok__law_error T
  refine ok_of T.a__law_differs sc_law_differs (fun vs H Q E h => ?_) bi__law_differs fun cdv A outer s H vs Q E hr h => ?_
  · obtain ⟨p, q, r, t, rfl, _⟩ := h
    rfl
  obtain ⟨p, q, r, t, rfl, hp, hq, hne, hQ⟩ := h
  refine ⟨_, (pss_cons (ps_set (i := 4) sc_law_differs.nd rfl (by first | exact Or.inl rfl | exact Or.inr rfl) pe_int)
  (pss_cons (ps_try (i := 5) rfl rfl sc_law_differs.nd rfl rfl ⟨rfl, by decide, .inl T.g_DealError⟩ rfl takes0
      (fun W1 pn xe tk _ => (pss_one (ps_expr (pe_c O_tells hr (by decide) (passAt tk) (pa_cons (pv 0) (pa_cons (pv 1) pa_nil))))))
      (fun a pn => (pss_one (ps_set (i := 4) sc_law_differs.nd rfl (by first | exact Or.inl rfl | exact Or.inr rfl) (pe_op op_add (pv 4) (pe_callTy call_int1 (by rfl) T.f_int (by decide +kernel) (pa_cons (pe_w W (roomW_mark hr _) (by decide) (pa_cons (pv 5) (pa_cons (pv 2) (pa_cons (pv 3) pa_nil)))) pa_nil)))))))
  (pss_cons (ps_try (i := 5) rfl rfl sc_law_differs.nd rfl rfl ⟨rfl, by decide, .inl T.g_DealError⟩ rfl takes0
      (fun W1 pn xe tk _ => (pss_one (ps_expr (pe_c O_unlike_pair hr (by decide) (passAt tk) (pa_cons (pv 0) (pa_cons (pv 1) pa_nil))))))
      (fun a pn => (pss_one (ps_set (i := 4) sc_law_differs.nd rfl (by first | exact Or.inl rfl | exact Or.inr rfl) (pe_op op_add (pv 4) (pe_callTy call_int1 (by rfl) T.f_int (by decide +kernel) (pa_cons (pe_w W (roomW_mark hr _) (by decide) (pa_cons (pv 5) (pa_cons (pv 2) (pa_cons (pv 3) pa_nil)))) pa_nil)))))))
  (pss_one (ps_ret (pe_cmpR op_eq (pv 4) pe_int (nomark _))))))), ?_⟩
  refine ⟨_, rfl, _, rfl, p, q, r, t, rfl, hp, hq, fun e => absurd e hne, fun _ d H1 nd hd ho => ?_⟩
  have s1 : Same H H1 := fun b o z => by rw [ho b (fun y => by rw [y, nd] at z; cases z)]; exact z
  refine ⟨true, T.x_SizesDiffer, fun _ e ne => ?_, fun q => nomatch q⟩
  have s2 := same_new (o := exT e (.ref (SD K)) (some d)) ne
  refine ⟨_, rfl, _, rfl, _, rfl, _, rfl, e, r.length, t.length, rfl, ⟨d, upd_same .., s2 _ _ hd⟩, fun H2 s3 => ?_⟩
  refine .inr ⟨_, rfl, _, _, rfl, rfl, ?_⟩
  have sA : Same H H2 := same2 s1 (same2 s2 s3)
  refine ⟨_, rfl, _, rfl, p, q, r, t, rfl, hp.same sA, hq.same sA, fun e => absurd e hne, fun _ d2 H3 nd2 hd2 ho2 => ?_⟩
  have s4 : Same H2 H3 := fun b o z => by rw [ho2 b (fun y => by rw [y, nd2] at z; cases z)]; exact z
  refine ⟨true, T.x_SizesDiffer, fun _ e2 ne2 => ?_, fun q => nomatch q⟩
  have s5 := same_new (o := exT e2 (.ref (SD K)) (some d2)) ne2
  refine ⟨_, rfl, _, rfl, _, rfl, _, rfl, e2, r.length, t.length, rfl, ⟨d2, upd_same .., s5 _ _ hd2⟩, fun H4 s6 => ?_⟩
  refine .inr ⟨_, rfl, _, _, rfl, rfl, ?_⟩
  have sB : Same H2 H4 := same2 s4 (same2 s5 s6)
  refine ⟨_, rfl, rfl, ?_⟩
  exact hQ _ (same2 sA sB)
end
end K01
set_option Elab.async false
set_option linter.all false
set_option maxRecDepth 100000
set_option maxHeartbeats 4000000
namespace K01
open PySem PySem.Spec PyProof.Rows L2 Ms
theorem pick {zs : List Int} {n : Nat} (h : n < zs.length) : (zs.map V.int)[n]? = some (.int (zs.getD n 0)) ∧ zs.getD n 0 ∈ zs := by
  rw [List.getElem?_map, getE h, List.getD_eq_getElem?_getD, getE h]
  exact ⟨rfl, List.getElem_mem h⟩
theorem rep_n (sn wn : Nat) : (List.replicate ((sn : Nat) : Int).toNat [V.int (wn : Nat)]).flatten = nV (List.replicate sn wn) := by
  have q : ((sn : Nat) : Int).toNat = sn := by omega
  rw [q]
  simp [nV]
theorem fdiv_n (a b : Nat) (h : 0 < b) : ((a : Nat) : Int).fdiv (b : Nat) = ((a / b : Nat) : Int) := by
  rw [Int.fdiv_eq_ediv_of_nonneg _ (by omega)]
  exact (Int.natCast_ediv a b).symm
def spDraw (K : PySem.W.Frag) : Sp := fun vs H Q _ => ∃ (a : Addr) (ns : List Int), vs = [.ref a] ∧ SqL K H a (ns.map V.int) ∧ ∀ H' p a' b' one two, Same H H' → H p = none → H' p = some (.lst [.ref a', .ref b']) → H' a' = some (.lst (nV one)) → H' b' = some (.lst (nV two)) →
  one.length = two.length → 0 < one.length → one.length ≤ 300 → Q (.ref p) H'
section
variable {P : Program} {w : World} {K : PySem.W.Frag} {mg : Str → Option Value} {base : Heap}
theorem ok__law_draw (T : Tx K mg) : Ok P w K mg base "_law_draw" 2 (spDraw K) := by
  have O__law_digits : Ok P w K mg base "_law_digits" 1 (spDigits K) := ok__law_digits T
  have O__law_cell : Ok P w K mg base "_law_cell" 1 (spCellL K) := ok__law_cell T
  refine ok_of T.a__law_draw sc_law_draw (fun vs H Q E h => ?_) bi__law_draw fun cdv A outer s H vs Q E hr h => ?_
  · obtain ⟨a, ns, rfl, _⟩ := h
    rfl
  obtain ⟨a, ns, rfl, ha, hQ⟩ := h
  have big : (16777216 : Nat) ≤ sizeLine := by decide
  refine ⟨_, (pss_cons (ps_set (i := 1) sc_law_draw.nd rfl (by first | exact Or.inl rfl | exact Or.inr rfl) (pe_c (E := EN) O__law_digits hr (by decide) (fun σ => passN σ) (pa_cons (pe_c (E := EN) O__law_cell hr (by decide) (fun σ => passN σ) (pa_cons (pv 0) (pa_cons pe_int pa_nil))) (pa_cons (pe_lst (pa_cons pe_int (pa_cons pe_int (pa_cons pe_int (pa_cons pe_int (pa_cons pe_int (pa_cons pe_int pa_nil))))))) pa_nil))))
  (pss_cons (ps_set (i := 2) sc_law_draw.nd rfl (by first | exact Or.inl rfl | exact Or.inr rfl) (pe_ix (ixL K) (pe_lst (pa_cons pe_int (pa_cons pe_int (pa_cons pe_int (pa_cons pe_int (pa_cons pe_int (pa_cons pe_int (pa_cons pe_int (pa_cons pe_int (pa_cons pe_int (pa_cons pe_int (pa_cons pe_int (pa_cons pe_int pa_nil))))))))))))) (pe_ix (ixL K) (pv 1) pe_int (fun _ _ => rfl)) (fun _ _ => rfl)))
  (pss_cons (ps_if (pt_cmpR op_eq (pe_ix (ixL K) (pv 1) pe_int (fun _ _ => rfl)) pe_int (nomark _))
  (pss_one (ps_set (i := 2) sc_law_draw.nd rfl (by first | exact Or.inl rfl | exact Or.inr rfl) (pe_op op_add pe_int (pe_ix (ixL K) (pv 1) pe_int (fun _ _ => rfl)))))
  pss_nil)
  (pss_cons (ps_if (pt_cmpR op_eq (pe_ix (ixL K) (pv 1) pe_int (fun _ _ => rfl)) pe_int (nomark _))
  (pss_one (ps_set (i := 2) sc_law_draw.nd rfl (by first | exact Or.inl rfl | exact Or.inr rfl) (pe_op op_add pe_int (pe_ix (ixL K) (pv 1) pe_int (fun _ _ => rfl)))))
  pss_nil)
  (pss_cons (ps_set (i := 3) sc_law_draw.nd rfl (by first | exact Or.inl rfl | exact Or.inr rfl) (pe_ix (ixL K) (pe_lst (pa_cons pe_int (pa_cons pe_int (pa_cons (pe_op op_add (pe_op op_fdivN (pv 2) pe_int) pe_int) (pa_cons pe_int (pa_cons (pv 2) (pa_cons pe_int (pa_cons (pe_op op_add (pe_op op_fdivN (pv 2) pe_int) pe_int) (pa_cons pe_int pa_nil))))))))) (pe_ix (ixL K) (pv 1) pe_int (fun _ _ => rfl)) (fun _ _ => rfl)))
  (pss_cons (ps_set (i := 4) sc_law_draw.nd rfl (by first | exact Or.inl rfl | exact Or.inr rfl) (pe_c (E := EN) O__law_digits hr (by decide) (fun σ => passN σ) (pa_cons (pe_c (E := EN) O__law_cell hr (by decide) (fun σ => passN σ) (pa_cons (pv 0) (pa_cons pe_int pa_nil))) (pa_cons (pe_op op_rep (pe_lst (pa_cons (pv 3) pa_nil)) (pv 2)) pa_nil))))
  (pss_cons (ps_if (pt_cmpR op_eq (pe_ix (ixL K) (pv 1) pe_int (fun _ _ => rfl)) pe_int (nomark _))
  (pss_one (ps_ret (pe_lst (pa_cons (pv 4) (pa_cons (pe_c (E := EN) O__law_digits hr (by decide) (fun σ => passN σ) (pa_cons (pe_c (E := EN) O__law_cell hr (by decide) (fun σ => passN σ) (pa_cons (pv 0) (pa_cons pe_int pa_nil))) (pa_cons (pe_op op_rep (pe_lst (pa_cons (pv 2) pa_nil)) (pv 2)) pa_nil))) pa_nil)))))
  pss_nil)
  (pss_cons (ps_if (pt_cmpR op_eq (pe_ix (ixL K) (pv 1) pe_int (fun _ _ => rfl)) pe_int (nomark _))
  (pss_one (ps_ret (pe_lst (pa_cons (pv 4) (pa_cons (pe_c (E := EN) O__law_digits hr (by decide) (fun σ => passN σ) (pa_cons (pe_c (E := EN) O__law_cell hr (by decide) (fun σ => passN σ) (pa_cons (pv 0) (pa_cons pe_int pa_nil))) (pa_cons (pe_op op_rep (pe_lst (pa_cons (pe_op op_add (pe_op op_fdivN (pv 3) pe_int) pe_int) pa_nil)) (pv 2)) pa_nil))) pa_nil)))))
  pss_nil)
  (pss_cons (ps_set (i := 5) sc_law_draw.nd rfl (by first | exact Or.inl rfl | exact Or.inr rfl) (pe_c (E := EN) O__law_digits hr (by decide) (fun σ => passN σ) (pa_cons (pe_c (E := EN) O__law_cell hr (by decide) (fun σ => passN σ) (pa_cons (pv 0) (pa_cons pe_int pa_nil))) (pa_cons (pe_op op_rep (pe_lst (pa_cons (pe_op op_add (pe_op op_fdivN (pv 3) pe_int) pe_int) pa_nil)) (pv 3)) pa_nil))))
  (pss_cons (ps_setLc (i := 6) (own := [("mark", 7)]) (g := gName 7) rfl sc_law_draw.nd rfl rfl (sw_true rfl rfl rfl (by decide +kernel)) (pi_list (pv 4)) (blkOk_by (N := ["script", "shape", "size", "wide", "first", "codes", "second", "mark", "place"]) (sc := defScope s_law_draw) (by decide +kernel)) (fun _ _ _ _ _ => (pg_name (i := 7) sc_law_draw.nd rfl (by first | exact Or.inl rfl | exact Or.inr rfl))) (fun _ _ _ _ _ => pts_nil) (fun _ _ _ _ _ => (pe_ix (ixL K) (pv 5) (pv 7) (fun _ _ => rfl))))
  (pss_cons (ps_if (pt_cmpR op_gt (pe_ix (ixL K) (pv 1) pe_int (fun _ _ => rfl)) pe_int (nomark _))
  (pss_cons (ps_set (i := 8) sc_law_draw.nd rfl (by first | exact Or.inl rfl | exact Or.inr rfl) (pe_op op_modN (pe_callTy call_int1 (by rfl) T.f_int (by decide +kernel) (pa_cons (pe_c (E := EN) O__law_cell hr (by decide) (fun σ => passN σ) (pa_cons (pv 0) (pa_cons pe_int pa_nil))) pa_nil)) (pv 2)))
    (pss_one (ps_asg (pe_op op_modN (pe_callTy call_int1 (by rfl) T.f_int (by decide +kernel) (pa_cons (pe_op op_add (pe_op op_add (pe_ix (ixL K) (pv 6) (pv 8) (fun _ _ => rfl)) pe_int) (pe_op op_modN (pe_callTy call_int1 (by rfl) T.f_int (by decide +kernel) (pa_cons (pe_c (E := EN) O__law_cell hr (by decide) (fun σ => passN σ) (pa_cons (pv 0) (pa_cons pe_int pa_nil))) pa_nil)) (pe_op op_add (pe_op op_fdivN (pv 3) pe_int) pe_int))) pa_nil)) (pe_op op_add (pe_op op_fdivN (pv 3) pe_int) pe_int)) (pg_sub (pv 6) (pv 8) set_list))))
  pss_nil)
  (pss_one (ps_ret (pe_lst (pa_cons (pv 4) (pa_cons (pv 6) pa_nil)))))))))))))))), ?_⟩
  refine ⟨_, rfl, a, ns, 0, rfl, ha, fun c0 => ?_⟩
  refine ⟨by show 6 ≤ sizeLine; decide, fun l0 nl0 => ?_⟩
  have s0 := same_new (o := .lst [.int 8, .int 12, .int 40, .int 260, .int 8, .int 6]) nl0
  refine ⟨c0, l0, [8, 12, 40, 260, 8, 6], rfl, .inl (.inl (upd_same ..)), by decide, by decide, fun H1 p ds s1 np hp hlen hlt => ?_⟩
  have sH1 := same2 s0 s1
  have np0 : H p = none := s0.free np
  have dlt : ∀ i, i < 6 → i < ds.length := fun i hi => by rw [hlen]; exact hi
  refine ⟨by show 12 ≤ sizeLine; decide, fun q2 nq2 => ?_⟩
  have h1' := hlt 1 (by decide)
  obtain ⟨k1, k2⟩ := pick (zs := [6, 8, 4, 9, 5, 10, 7, 3, 2, 11, 12, 1]) (n := at0 ds 1) h1'
  have kb : ∀ z ∈ ([6, 8, 4, 9, 5, 10, 7, 3, 2, 11, 12, 1] : List Int), 0 < z ∧ z < 41 := by decide
  have hsz := kb _ k2
  have sA := same_put (o := .lst [.int 6, .int 8, .int 4, .int 9, .int 5, .int 10, .int 7, .int 3, .int 2, .int 11, .int 12, .int 1]) (sH1.free nq2) sH1
  have hp2 : upd H1 q2 (.lst [.int 6, .int 8, .int 4, .int 9, .int 5, .int 10, .int 7, .int 3, .int 2, .int 11, .int 12, .int 1]) p = some (.lst (nV ds)) := same_new nq2 _ _ hp
  refine ⟨_, rfl, p, _, _, _, rfl, rfl, .inl (.inl hp2), atI_nat (j := 1) (nV_at0 (i := 1) (dlt 1 (by decide))), q2, _, _, _, rfl, rfl, .inl (.inl (upd_same ..)), atI_nat k1, ?_⟩
  generalize ([6, 8, 4, 9, 5, 10, 7, 3, 2, 11, 12, 1] : List Int).getD (at0 ds 1) 0 = size at hsz
  generalize upd H1 q2 (.lst [.int 6, .int 8, .int 4, .int 9, .int 5, .int 10, .int 7, .int 3, .int 2, .int 11, .int 12, .int 1]) = H2 at sA hp2
  have d2 : at0 ds 2 < 40 := hlt 2 (by decide)
  have d3 : at0 ds 3 < 260 := hlt 3 (by decide)
  have rd : ∀ i, i < 6 → ∀ {H' : Hp}, Same H2 H' → SqL K H' p (nV ds) ∧ atI (nV ds) ((i : Nat) : Int) = some (.int (at0 ds i : Nat)) := fun i hi H' s => ⟨.inl (.inl (s _ _ hp2)), atI_nat (nV_at0 (dlt i hi))⟩
  have hsz : 0 < size ∧ size ≤ 300 := ⟨hsz.1, by omega⟩
  refine ⟨_, rfl, p, _, _, _, rfl, rfl, .inl (.inl hp2), atI_nat (j := 0) (nV_at0 (i := 0) (dlt 0 (by decide))), rfl, _, rfl, ?_⟩
  refine ite2 (fun _ => ?_) (fun _ => ?_)
  · refine ⟨_, rfl, p, _, _, _, rfl, rfl, .inl (.inl hp2), atI_nat (j := 2) (nV_at0 (i := 2) (dlt 2 (by decide))), _, _, rfl, rfl, ?_⟩
    have hsz : 0 < 1 + ((at0 ds 2 : Nat) : Int) ∧ 1 + ((at0 ds 2 : Nat) : Int) ≤ 300 := ⟨by omega, by omega⟩
    dsimp only
    generalize (1 + ((at0 ds 2 : Nat) : Int)) = sz at hsz
    refine ⟨_, rfl, p, _, _, _, rfl, rfl, .inl (.inl hp2), atI_nat (j := 0) (nV_at0 (i := 0) (dlt 0 (by decide))), rfl, _, rfl, ?_⟩
    refine ite2 (fun _ => ?_) (fun _ => ?_)
    · refine ⟨_, rfl, p, _, _, _, rfl, rfl, .inl (.inl hp2), atI_nat (j := 3) (nV_at0 (i := 3) (dlt 3 (by decide))), _, _, rfl, rfl, ?_⟩
      have hsz : 0 < 41 + ((at0 ds 3 : Nat) : Int) ∧ 41 + ((at0 ds 3 : Nat) : Int) ≤ 300 := ⟨by omega, by omega⟩
      dsimp only
      generalize (41 + ((at0 ds 3 : Nat) : Int)) = sz at hsz
      obtain ⟨sn, rfl⟩ : ∃ sn : Nat, sz = (sn : Nat) := ⟨sz.toNat, by omega⟩
      have e2 : ∀ n : Nat, ((n : Nat) : Int).fdiv 2 + 1 = ((n / 2 + 1 : Nat) : Int) := fun n => by
        have q : ((n : Nat) : Int).fdiv 2 = ((n / 2 : Nat) : Int) := fdiv_n n 2 (by decide)
        rw [q] <;> rfl
      have e22 : ∀ n : Nat, ((n : Nat) : Int).fdiv 2 + 2 = ((n / 2 + 2 : Nat) : Int) := fun n => by
        have q : ((n : Nat) : Int).fdiv 2 = ((n / 2 : Nat) : Int) := fdiv_n n 2 (by decide)
        rw [q] <;> rfl
      have e3 : ((sn : Nat) : Int).fdiv 3 + 1 = ((sn / 3 + 1 : Nat) : Int) := by
        have q : ((sn : Nat) : Int).fdiv 3 = ((sn / 3 : Nat) : Int) := fdiv_n sn 3 (by decide)
        rw [q] <;> rfl
      refine ⟨_, rfl, _, _, rfl, rfl, ⟨by decide, by decide⟩, _, _, rfl, rfl, _, rfl, _, rfl, _, _, rfl, rfl, ⟨by decide, by decide⟩, _, _, rfl, rfl, by show 8 ≤ sizeLine; decide, fun q4 nq4 => ?_⟩
      dsimp only
      rw [e2, e3]
      have ew : ([V.int 3, V.int 2, V.int ((sn / 2 + 1 : Nat) : Int), V.int 4, V.int ((sn : Nat) : Int), V.int 5, V.int ((sn / 3 + 1 : Nat) : Int), V.int 3] : List V) = nV [3, 2, sn / 2 + 1, 4, sn, 5, sn / 3 + 1, 3] := rfl
      rw [ew]
      have h4 : at0 ds 4 < 8 := hlt 4 (by decide)
      obtain ⟨wn, hwn⟩ : ∃ wn, ([3, 2, sn / 2 + 1, 4, sn, 5, sn / 3 + 1, 3] : List Nat)[at0 ds 4]? = some wn := ⟨_, getE h4⟩
      have hw : 0 < wn ∧ wn < 400 := by
        have q := List.mem_of_getElem? hwn
        simp only [List.mem_cons, List.not_mem_nil, or_false] at q
        omega
      have sB := same_put (o := .lst (nV [3, 2, sn / 2 + 1, 4, sn, 5, sn / 3 + 1, 3])) (sA.free nq4) sA
      have s24 := same_new (o := .lst (nV [3, 2, sn / 2 + 1, 4, sn, 5, sn / 3 + 1, 3])) nq4
      refine ⟨_, rfl, p, _, _, _, rfl, rfl, (rd 4 (by decide) s24).1, (rd 4 (by decide) s24).2, q4, _, _, _, rfl, rfl, .inl (.inl (upd_same ..)), atI_nat (nV_at hwn), ?_⟩
      generalize upd H2 q4 (.lst (nV [3, 2, sn / 2 + 1, 4, sn, 5, sn / 3 + 1, 3])) = H4 at sB s24
      refine ⟨_, rfl, a, ns, 1, rfl, Same.seq sB ha, fun c5 => ?_⟩
      refine ⟨_, rfl, by show 1 ≤ sizeLine; decide, fun l5 nl5 => ?_⟩
      refine ⟨_, rfl, l5, _, _, rfl, rfl, upd_same .., by omega, by omega, by show 1 * ((sn : Nat) : Int).toNat ≤ sizeLine; omega, fun p5' np5' => ?_⟩
      rw [rep_n]
      have s5' : Same H4 (upd (upd H4 l5 (.lst [V.int (wn : Nat)])) p5' (.lst (nV (List.replicate sn (wn))))) := same2 (same_new nl5) (same_new np5')
      refine ⟨c5, p5', List.replicate sn (wn), rfl, .inl (.inl (upd_same ..)), fun x hx => ?_, by rw [List.length_replicate]; omega, fun H5 p5 ds5 sq5 np5 hp5 hl5 hlt5 => ?_⟩
      · rw [(List.mem_replicate.mp hx).2]
        omega
      rw [List.length_replicate] at hl5 hlt5
      have s5 : Same H4 H5 := same2 s5' sq5
      have s50 := same2 sB s5
      have s25 := same2 s24 s5
      have mlt : ∀ x ∈ ds5, x < wn := fun x hx => by
        obtain ⟨i, hi⟩ := List.mem_iff_getElem?.mp hx
        have li : i < sn := by rw [← hl5]; exact ltE hi
        have q := hlt5 i li
        rw [at0_of hi, at0_of (List.getElem?_replicate_of_lt li)] at q
        exact q
      refine ⟨_, rfl, p, _, _, _, rfl, rfl, (rd 5 (by decide) s25).1, (rd 5 (by decide) s25).2, rfl, _, rfl, ?_⟩
      refine ite2 (fun _ => ?_) (fun _ => ?_)
      · refine ⟨_, rfl, ?_⟩
        refine ⟨_, rfl, a, ns, 2, rfl, Same.seq s50 ha, fun c6 => ?_⟩
        refine ⟨_, rfl, by show 1 ≤ sizeLine; decide, fun l6 nl6 => ?_⟩
        refine ⟨_, rfl, l6, _, _, rfl, rfl, upd_same .., by omega, by omega, by show 1 * ((sn : Nat) : Int).toNat ≤ sizeLine; omega, fun p6' np6' => ?_⟩
        rw [rep_n]
        have s6' : Same H5 (upd (upd H5 l6 (.lst [V.int (sn : Nat)])) p6' (.lst (nV (List.replicate sn (sn))))) := same2 (same_new nl6) (same_new np6')
        refine ⟨c6, p6', List.replicate sn (sn), rfl, .inl (.inl (upd_same ..)), fun x hx => ?_, by rw [List.length_replicate]; omega, fun H6 p6 ds6 sq6 np6 hp6 hl6 hlt6 => ?_⟩
        · rw [(List.mem_replicate.mp hx).2]
          omega
        rw [List.length_replicate] at hl6 hlt6
        have s6 : Same H5 H6 := same2 s6' sq6
        have s60 := same2 s50 s6
        refine ⟨by show 2 ≤ sizeLine; decide, fun q nq => ?_⟩
        exact hQ _ q p5 p6 ds5 ds6 (same2 s60 (same_new nq)) (s60.free nq) (upd_same ..) (same_new nq _ _ (s6 _ _ hp5)) (same_new nq _ _ hp6) (by rw [hl5, hl6]) (by omega) (by omega)
      refine ⟨_, rfl, p, _, _, _, rfl, rfl, (rd 5 (by decide) s25).1, (rd 5 (by decide) s25).2, rfl, _, rfl, ?_⟩
      refine ite2 (fun _ => ?_) (fun _ => ?_)
      · refine ⟨_, rfl, ?_⟩
        refine ⟨_, rfl, a, ns, 2, rfl, Same.seq s50 ha, fun c6 => ?_⟩
        refine ⟨_, rfl, _, _, rfl, rfl, ⟨by decide, by decide⟩, _, _, rfl, rfl, by show 1 ≤ sizeLine; decide, fun l6 nl6 => ?_⟩
        dsimp only
        rw [e22]
        refine ⟨_, rfl, l6, _, _, rfl, rfl, upd_same .., by omega, by omega, by show 1 * ((sn : Nat) : Int).toNat ≤ sizeLine; omega, fun p6' np6' => ?_⟩
        rw [rep_n]
        have s6' : Same H5 (upd (upd H5 l6 (.lst [V.int (wn / 2 + 2 : Nat)])) p6' (.lst (nV (List.replicate sn (wn / 2 + 2))))) := same2 (same_new nl6) (same_new np6')
        refine ⟨c6, p6', List.replicate sn (wn / 2 + 2), rfl, .inl (.inl (upd_same ..)), fun x hx => ?_, by rw [List.length_replicate]; omega, fun H6 p6 ds6 sq6 np6 hp6 hl6 hlt6 => ?_⟩
        · rw [(List.mem_replicate.mp hx).2]
          omega
        rw [List.length_replicate] at hl6 hlt6
        have s6 : Same H5 H6 := same2 s6' sq6
        have s60 := same2 s50 s6
        refine ⟨by show 2 ≤ sizeLine; decide, fun q nq => ?_⟩
        exact hQ _ q p5 p6 ds5 ds6 (same2 s60 (same_new nq)) (s60.free nq) (upd_same ..) (same_new nq _ _ (s6 _ _ hp5)) (same_new nq _ _ hp6) (by rw [hl5, hl6]) (by omega) (by omega)
      refine ⟨_, rfl, a, ns, 2, rfl, Same.seq s50 ha, fun c7 => ?_⟩
      refine ⟨_, rfl, _, _, rfl, rfl, ⟨by decide, by decide⟩, _, _, rfl, rfl, by show 1 ≤ sizeLine; decide, fun l7 nl7 => ?_⟩
      dsimp only
      rw [e2]
      refine ⟨_, rfl, l7, _, _, rfl, rfl, upd_same .., by omega, by omega, by show 1 * ((wn : Nat) : Int).toNat ≤ sizeLine; omega, fun p7' np7' => ?_⟩
      rw [rep_n]
      have s7' : Same H5 (upd (upd H5 l7 (.lst [V.int (wn / 2 + 1 : Nat)])) p7' (.lst (nV (List.replicate wn (wn / 2 + 1))))) := same2 (same_new nl7) (same_new np7')
      refine ⟨c7, p7', List.replicate wn (wn / 2 + 1), rfl, .inl (.inl (upd_same ..)), fun x hx => ?_, by rw [List.length_replicate]; omega, fun H7 p7 ds7 sq7 np7 hp7 hl7 hlt7 => ?_⟩
      · rw [(List.mem_replicate.mp hx).2]
        omega
      rw [List.length_replicate] at hl7 hlt7
      have s7 : Same H5 H7 := same2 s7' sq7
      have s70 := same2 s50 s7
      have hp5' := s7 _ _ hp5
      refine ⟨_, rfl, p5, rfl, ⟨_, .inl (.inl hp5')⟩, fun D nD => ?_⟩
      refine lc_it (walk_list (K := K) (a := p5) (xs := nV ds5)) (fun i H11 => ∃ ms : List Nat, H11 D = some (.lst (nV ms)) ∧ ms.length = i ∧ Same H7 H11) ⟨[], upd_same .., rfl, same_new nD⟩ (fun i H11 _ h => ?_) ?_ ?_
      · obtain ⟨_, _, _, m3⟩ := h
        exact .inl (.inl (m3 _ _ hp5'))
      · rintro i x0 H11 H12 hi ⟨ms, m1, m2, m3⟩ ⟨rfl, hx⟩
        obtain ⟨x, hx2, rfl⟩ := of_nV hx
        rw [nV_len, hl5] at hi
        have xlt := mlt x (List.mem_of_getElem? hx2)
        refine ⟨rfl, _, rfl, _, rfl, p7, _, _, _, rfl, rfl, .inl (.inl (m3 _ _ hp7)), atI_nat (nV_at0 (by rw [hl7]; exact xlt)), ?_⟩
        refine ⟨_, m1, by rw [nV_len, m2]; exact fewS (by omega), ms ++ [at0 ds7 x], ?_, by rw [List.length_append, m2, List.length_singleton], same_put nD m3⟩
        rw [upd_same, nV_snoc]
      rintro H11 ⟨ms, m1, m2, m3⟩
      rw [nV_len, hl5] at m2
      have sB1 := same2 s70 m3
      have nD0 : H D = none := s70.free nD
      have hp5'' := m3 _ _ hp5'
      refine ⟨_, rfl, p, _, _, _, rfl, rfl, (rd 5 (by decide) (same2 s25 (same2 s7 m3))).1, (rd 5 (by decide) (same2 s25 (same2 s7 m3))).2, _, _, rfl, rfl, _, rfl, ?_⟩
      refine ite2 (fun _ => ?_) (fun _ => ?_)
      · refine ⟨_, rfl, a, ns, 3, rfl, Same.seq sB1 ha, fun c8 => ?_⟩
        refine .inl ⟨_, rfl, _, rfl, _, _, rfl, rfl, by show ((sn : Nat) : Int) ≠ 0; omega, ?_⟩
        dsimp only
        obtain ⟨pn, hpn, lpn⟩ : ∃ pn : Nat, c8.fmod ((sn : Nat) : Int) = (pn : Nat) ∧ pn < sn := by
          obtain ⟨z1, z2⟩ := modPos (a := c8) (m := ((sn : Nat) : Int)) (by omega)
          exact ⟨(c8.fmod ((sn : Nat) : Int)).toNat, by omega, by omega⟩
        rw [hpn]
        refine ⟨_, rfl, _, rfl, D, _, _, _, rfl, rfl, .inl (.inl m1), atI_nat (nV_at0 (by rw [m2]; exact lpn)), _, _, rfl, rfl, _, rfl, a, ns, 4, rfl, Same.seq sB1 ha, fun c9 => ?_⟩
        refine .inl ⟨_, rfl, _, rfl, _, _, rfl, rfl, ⟨by decide, by decide⟩, _, _, rfl, rfl, _, _, rfl, rfl, ?_, _, _, rfl, rfl, .inl ⟨_, rfl, _, rfl, _, _, rfl, rfl, ⟨by decide, by decide⟩, _, _, rfl, rfl, _, _, rfl, rfl, ?_, ?_⟩⟩
        · rw [e2]
          omega
        · rw [e22]
          omega
        dsimp only
        rw [e22]
        obtain ⟨v, hv⟩ : ∃ v : Nat, (((at0 ms pn : Nat) : Int) + 1 + c9.fmod (((wn : Nat) : Int).fdiv 2 + 1)).fmod ((wn / 2 + 2 : Nat) : Int) = (v : Nat) := by
          obtain ⟨z1, z2⟩ := modPos (a := ((at0 ms pn : Nat) : Int) + 1 + c9.fmod (((wn : Nat) : Int).fdiv 2 + 1)) (m := ((wn / 2 + 2 : Nat) : Int)) (by omega)
          exact ⟨_, (Int.toNat_of_nonneg z1).symm⟩
        rw [hv]
        refine ⟨_, rfl, _, rfl, D, _, _, _, rfl, rfl, m1, ixN_n (by rw [nV_len, m2]; exact lpn), ?_⟩
        rw [nV_set]
        have sC := same_put (o := .lst (nV (ms.set pn v))) nD0 sB1
        have hpD := same_put (o := .lst (nV (ms.set pn v))) nD m3 _ _ hp5'
        have hD : upd H11 D (.lst (nV (ms.set pn v))) D = some (.lst (nV (ms.set pn v))) := upd_same ..
        generalize upd H11 D (.lst (nV (ms.set pn v))) = H12 at sC hpD hD
        refine ⟨_, rfl, _, rfl, by show 2 ≤ sizeLine; decide, fun q nq => ?_⟩
        exact hQ _ q p5 D ds5 (ms.set pn v) (same2 sC (same_new nq)) (sC.free nq) (upd_same ..) (same_new nq _ _ hpD) (same_new nq _ _ hD) (by rw [hl5, List.length_set, m2]) (by omega) (by omega)
      · refine ⟨_, rfl, _, rfl, by show 2 ≤ sizeLine; decide, fun q nq => ?_⟩
        exact hQ _ q p5 D ds5 ms (same2 sB1 (same_new nq)) (sB1.free nq) (upd_same ..) (same_new nq _ _ hp5'') (same_new nq _ _ m1) (by rw [hl5, m2]) (by omega) (by omega)
    · obtain ⟨sn, rfl⟩ : ∃ sn : Nat, sz = (sn : Nat) := ⟨sz.toNat, by omega⟩
      have e2 : ∀ n : Nat, ((n : Nat) : Int).fdiv 2 + 1 = ((n / 2 + 1 : Nat) : Int) := fun n => by
        have q : ((n : Nat) : Int).fdiv 2 = ((n / 2 : Nat) : Int) := fdiv_n n 2 (by decide)
        rw [q] <;> rfl
      have e22 : ∀ n : Nat, ((n : Nat) : Int).fdiv 2 + 2 = ((n / 2 + 2 : Nat) : Int) := fun n => by
        have q : ((n : Nat) : Int).fdiv 2 = ((n / 2 : Nat) : Int) := fdiv_n n 2 (by decide)
        rw [q] <;> rfl
      have e3 : ((sn : Nat) : Int).fdiv 3 + 1 = ((sn / 3 + 1 : Nat) : Int) := by
        have q : ((sn : Nat) : Int).fdiv 3 = ((sn / 3 : Nat) : Int) := fdiv_n sn 3 (by decide)
        rw [q] <;> rfl
      refine ⟨_, rfl, _, _, rfl, rfl, ⟨by decide, by decide⟩, _, _, rfl, rfl, _, rfl, _, rfl, _, _, rfl, rfl, ⟨by decide, by decide⟩, _, _, rfl, rfl, by show 8 ≤ sizeLine; decide, fun q4 nq4 => ?_⟩
      dsimp only
      rw [e2, e3]
      have ew : ([V.int 3, V.int 2, V.int ((sn / 2 + 1 : Nat) : Int), V.int 4, V.int ((sn : Nat) : Int), V.int 5, V.int ((sn / 3 + 1 : Nat) : Int), V.int 3] : List V) = nV [3, 2, sn / 2 + 1, 4, sn, 5, sn / 3 + 1, 3] := rfl
      rw [ew]
      have h4 : at0 ds 4 < 8 := hlt 4 (by decide)
      obtain ⟨wn, hwn⟩ : ∃ wn, ([3, 2, sn / 2 + 1, 4, sn, 5, sn / 3 + 1, 3] : List Nat)[at0 ds 4]? = some wn := ⟨_, getE h4⟩
      have hw : 0 < wn ∧ wn < 400 := by
        have q := List.mem_of_getElem? hwn
        simp only [List.mem_cons, List.not_mem_nil, or_false] at q
        omega
      have sB := same_put (o := .lst (nV [3, 2, sn / 2 + 1, 4, sn, 5, sn / 3 + 1, 3])) (sA.free nq4) sA
      have s24 := same_new (o := .lst (nV [3, 2, sn / 2 + 1, 4, sn, 5, sn / 3 + 1, 3])) nq4
      refine ⟨_, rfl, p, _, _, _, rfl, rfl, (rd 4 (by decide) s24).1, (rd 4 (by decide) s24).2, q4, _, _, _, rfl, rfl, .inl (.inl (upd_same ..)), atI_nat (nV_at hwn), ?_⟩
      generalize upd H2 q4 (.lst (nV [3, 2, sn / 2 + 1, 4, sn, 5, sn / 3 + 1, 3])) = H4 at sB s24
      refine ⟨_, rfl, a, ns, 1, rfl, Same.seq sB ha, fun c5 => ?_⟩
      refine ⟨_, rfl, by show 1 ≤ sizeLine; decide, fun l5 nl5 => ?_⟩
      refine ⟨_, rfl, l5, _, _, rfl, rfl, upd_same .., by omega, by omega, by show 1 * ((sn : Nat) : Int).toNat ≤ sizeLine; omega, fun p5' np5' => ?_⟩
      rw [rep_n]
      have s5' : Same H4 (upd (upd H4 l5 (.lst [V.int (wn : Nat)])) p5' (.lst (nV (List.replicate sn (wn))))) := same2 (same_new nl5) (same_new np5')
      refine ⟨c5, p5', List.replicate sn (wn), rfl, .inl (.inl (upd_same ..)), fun x hx => ?_, by rw [List.length_replicate]; omega, fun H5 p5 ds5 sq5 np5 hp5 hl5 hlt5 => ?_⟩
      · rw [(List.mem_replicate.mp hx).2]
        omega
      rw [List.length_replicate] at hl5 hlt5
      have s5 : Same H4 H5 := same2 s5' sq5
      have s50 := same2 sB s5
      have s25 := same2 s24 s5
      have mlt : ∀ x ∈ ds5, x < wn := fun x hx => by
        obtain ⟨i, hi⟩ := List.mem_iff_getElem?.mp hx
        have li : i < sn := by rw [← hl5]; exact ltE hi
        have q := hlt5 i li
        rw [at0_of hi, at0_of (List.getElem?_replicate_of_lt li)] at q
        exact q
      refine ⟨_, rfl, p, _, _, _, rfl, rfl, (rd 5 (by decide) s25).1, (rd 5 (by decide) s25).2, rfl, _, rfl, ?_⟩
      refine ite2 (fun _ => ?_) (fun _ => ?_)
      · refine ⟨_, rfl, ?_⟩
        refine ⟨_, rfl, a, ns, 2, rfl, Same.seq s50 ha, fun c6 => ?_⟩
        refine ⟨_, rfl, by show 1 ≤ sizeLine; decide, fun l6 nl6 => ?_⟩
        refine ⟨_, rfl, l6, _, _, rfl, rfl, upd_same .., by omega, by omega, by show 1 * ((sn : Nat) : Int).toNat ≤ sizeLine; omega, fun p6' np6' => ?_⟩
        rw [rep_n]
        have s6' : Same H5 (upd (upd H5 l6 (.lst [V.int (sn : Nat)])) p6' (.lst (nV (List.replicate sn (sn))))) := same2 (same_new nl6) (same_new np6')
        refine ⟨c6, p6', List.replicate sn (sn), rfl, .inl (.inl (upd_same ..)), fun x hx => ?_, by rw [List.length_replicate]; omega, fun H6 p6 ds6 sq6 np6 hp6 hl6 hlt6 => ?_⟩
        · rw [(List.mem_replicate.mp hx).2]
          omega
        rw [List.length_replicate] at hl6 hlt6
        have s6 : Same H5 H6 := same2 s6' sq6
        have s60 := same2 s50 s6
        refine ⟨by show 2 ≤ sizeLine; decide, fun q nq => ?_⟩
        exact hQ _ q p5 p6 ds5 ds6 (same2 s60 (same_new nq)) (s60.free nq) (upd_same ..) (same_new nq _ _ (s6 _ _ hp5)) (same_new nq _ _ hp6) (by rw [hl5, hl6]) (by omega) (by omega)
      refine ⟨_, rfl, p, _, _, _, rfl, rfl, (rd 5 (by decide) s25).1, (rd 5 (by decide) s25).2, rfl, _, rfl, ?_⟩
      refine ite2 (fun _ => ?_) (fun _ => ?_)
      · refine ⟨_, rfl, ?_⟩
        refine ⟨_, rfl, a, ns, 2, rfl, Same.seq s50 ha, fun c6 => ?_⟩
        refine ⟨_, rfl, _, _, rfl, rfl, ⟨by decide, by decide⟩, _, _, rfl, rfl, by show 1 ≤ sizeLine; decide, fun l6 nl6 => ?_⟩
        dsimp only
        rw [e22]
        refine ⟨_, rfl, l6, _, _, rfl, rfl, upd_same .., by omega, by omega, by show 1 * ((sn : Nat) : Int).toNat ≤ sizeLine; omega, fun p6' np6' => ?_⟩
        rw [rep_n]
        have s6' : Same H5 (upd (upd H5 l6 (.lst [V.int (wn / 2 + 2 : Nat)])) p6' (.lst (nV (List.replicate sn (wn / 2 + 2))))) := same2 (same_new nl6) (same_new np6')
        refine ⟨c6, p6', List.replicate sn (wn / 2 + 2), rfl, .inl (.inl (upd_same ..)), fun x hx => ?_, by rw [List.length_replicate]; omega, fun H6 p6 ds6 sq6 np6 hp6 hl6 hlt6 => ?_⟩
        · rw [(List.mem_replicate.mp hx).2]
          omega
        rw [List.length_replicate] at hl6 hlt6
        have s6 : Same H5 H6 := same2 s6' sq6
        have s60 := same2 s50 s6
        refine ⟨by show 2 ≤ sizeLine; decide, fun q nq => ?_⟩
        exact hQ _ q p5 p6 ds5 ds6 (same2 s60 (same_new nq)) (s60.free nq) (upd_same ..) (same_new nq _ _ (s6 _ _ hp5)) (same_new nq _ _ hp6) (by rw [hl5, hl6]) (by omega) (by omega)
      refine ⟨_, rfl, a, ns, 2, rfl, Same.seq s50 ha, fun c7 => ?_⟩
      refine ⟨_, rfl, _, _, rfl, rfl, ⟨by decide, by decide⟩, _, _, rfl, rfl, by show 1 ≤ sizeLine; decide, fun l7 nl7 => ?_⟩
      dsimp only
      rw [e2]
      refine ⟨_, rfl, l7, _, _, rfl, rfl, upd_same .., by omega, by omega, by show 1 * ((wn : Nat) : Int).toNat ≤ sizeLine; omega, fun p7' np7' => ?_⟩
      rw [rep_n]
      have s7' : Same H5 (upd (upd H5 l7 (.lst [V.int (wn / 2 + 1 : Nat)])) p7' (.lst (nV (List.replicate wn (wn / 2 + 1))))) := same2 (same_new nl7) (same_new np7')
      refine ⟨c7, p7', List.replicate wn (wn / 2 + 1), rfl, .inl (.inl (upd_same ..)), fun x hx => ?_, by rw [List.length_replicate]; omega, fun H7 p7 ds7 sq7 np7 hp7 hl7 hlt7 => ?_⟩
      · rw [(List.mem_replicate.mp hx).2]
        omega
      rw [List.length_replicate] at hl7 hlt7
      have s7 : Same H5 H7 := same2 s7' sq7
      have s70 := same2 s50 s7
      have hp5' := s7 _ _ hp5
      refine ⟨_, rfl, p5, rfl, ⟨_, .inl (.inl hp5')⟩, fun D nD => ?_⟩
      refine lc_it (walk_list (K := K) (a := p5) (xs := nV ds5)) (fun i H11 => ∃ ms : List Nat, H11 D = some (.lst (nV ms)) ∧ ms.length = i ∧ Same H7 H11) ⟨[], upd_same .., rfl, same_new nD⟩ (fun i H11 _ h => ?_) ?_ ?_
      · obtain ⟨_, _, _, m3⟩ := h
        exact .inl (.inl (m3 _ _ hp5'))
      · rintro i x0 H11 H12 hi ⟨ms, m1, m2, m3⟩ ⟨rfl, hx⟩
        obtain ⟨x, hx2, rfl⟩ := of_nV hx
        rw [nV_len, hl5] at hi
        have xlt := mlt x (List.mem_of_getElem? hx2)
        refine ⟨rfl, _, rfl, _, rfl, p7, _, _, _, rfl, rfl, .inl (.inl (m3 _ _ hp7)), atI_nat (nV_at0 (by rw [hl7]; exact xlt)), ?_⟩
        refine ⟨_, m1, by rw [nV_len, m2]; exact fewS (by omega), ms ++ [at0 ds7 x], ?_, by rw [List.length_append, m2, List.length_singleton], same_put nD m3⟩
        rw [upd_same, nV_snoc]
      rintro H11 ⟨ms, m1, m2, m3⟩
      rw [nV_len, hl5] at m2
      have sB1 := same2 s70 m3
      have nD0 : H D = none := s70.free nD
      have hp5'' := m3 _ _ hp5'
      refine ⟨_, rfl, p, _, _, _, rfl, rfl, (rd 5 (by decide) (same2 s25 (same2 s7 m3))).1, (rd 5 (by decide) (same2 s25 (same2 s7 m3))).2, _, _, rfl, rfl, _, rfl, ?_⟩
      refine ite2 (fun _ => ?_) (fun _ => ?_)
      · refine ⟨_, rfl, a, ns, 3, rfl, Same.seq sB1 ha, fun c8 => ?_⟩
        refine .inl ⟨_, rfl, _, rfl, _, _, rfl, rfl, by show ((sn : Nat) : Int) ≠ 0; omega, ?_⟩
        dsimp only
        obtain ⟨pn, hpn, lpn⟩ : ∃ pn : Nat, c8.fmod ((sn : Nat) : Int) = (pn : Nat) ∧ pn < sn := by
          obtain ⟨z1, z2⟩ := modPos (a := c8) (m := ((sn : Nat) : Int)) (by omega)
          exact ⟨(c8.fmod ((sn : Nat) : Int)).toNat, by omega, by omega⟩
        rw [hpn]
        refine ⟨_, rfl, _, rfl, D, _, _, _, rfl, rfl, .inl (.inl m1), atI_nat (nV_at0 (by rw [m2]; exact lpn)), _, _, rfl, rfl, _, rfl, a, ns, 4, rfl, Same.seq sB1 ha, fun c9 => ?_⟩
        refine .inl ⟨_, rfl, _, rfl, _, _, rfl, rfl, ⟨by decide, by decide⟩, _, _, rfl, rfl, _, _, rfl, rfl, ?_, _, _, rfl, rfl, .inl ⟨_, rfl, _, rfl, _, _, rfl, rfl, ⟨by decide, by decide⟩, _, _, rfl, rfl, _, _, rfl, rfl, ?_, ?_⟩⟩
        · rw [e2]
          omega
        · rw [e22]
          omega
        dsimp only
        rw [e22]
        obtain ⟨v, hv⟩ : ∃ v : Nat, (((at0 ms pn : Nat) : Int) + 1 + c9.fmod (((wn : Nat) : Int).fdiv 2 + 1)).fmod ((wn / 2 + 2 : Nat) : Int) = (v : Nat) := by
          obtain ⟨z1, z2⟩ := modPos (a := ((at0 ms pn : Nat) : Int) + 1 + c9.fmod (((wn : Nat) : Int).fdiv 2 + 1)) (m := ((wn / 2 + 2 : Nat) : Int)) (by omega)
          exact ⟨_, (Int.toNat_of_nonneg z1).symm⟩
        rw [hv]
        refine ⟨_, rfl, _, rfl, D, _, _, _, rfl, rfl, m1, ixN_n (by rw [nV_len, m2]; exact lpn), ?_⟩
        rw [nV_set]
        have sC := same_put (o := .lst (nV (ms.set pn v))) nD0 sB1
        have hpD := same_put (o := .lst (nV (ms.set pn v))) nD m3 _ _ hp5'
        have hD : upd H11 D (.lst (nV (ms.set pn v))) D = some (.lst (nV (ms.set pn v))) := upd_same ..
        generalize upd H11 D (.lst (nV (ms.set pn v))) = H12 at sC hpD hD
        refine ⟨_, rfl, _, rfl, by show 2 ≤ sizeLine; decide, fun q nq => ?_⟩
        exact hQ _ q p5 D ds5 (ms.set pn v) (same2 sC (same_new nq)) (sC.free nq) (upd_same ..) (same_new nq _ _ hpD) (same_new nq _ _ hD) (by rw [hl5, List.length_set, m2]) (by omega) (by omega)
      · refine ⟨_, rfl, _, rfl, by show 2 ≤ sizeLine; decide, fun q nq => ?_⟩
        exact hQ _ q p5 D ds5 ms (same2 sB1 (same_new nq)) (sB1.free nq) (upd_same ..) (same_new nq _ _ hp5'') (same_new nq _ _ m1) (by rw [hl5, m2]) (by omega) (by omega)
  · generalize size = sz at hsz
    refine ⟨_, rfl, p, _, _, _, rfl, rfl, .inl (.inl hp2), atI_nat (j := 0) (nV_at0 (i := 0) (dlt 0 (by decide))), rfl, _, rfl, ?_⟩
    refine ite2 (fun _ => ?_) (fun _ => ?_)
    · refine ⟨_, rfl, p, _, _, _, rfl, rfl, .inl (.inl hp2), atI_nat (j := 3) (nV_at0 (i := 3) (dlt 3 (by decide))), _, _, rfl, rfl, ?_⟩
      have hsz : 0 < 41 + ((at0 ds 3 : Nat) : Int) ∧ 41 + ((at0 ds 3 : Nat) : Int) ≤ 300 := ⟨by omega, by omega⟩
      dsimp only
      generalize (41 + ((at0 ds 3 : Nat) : Int)) = sz at hsz
      obtain ⟨sn, rfl⟩ : ∃ sn : Nat, sz = (sn : Nat) := ⟨sz.toNat, by omega⟩
      have e2 : ∀ n : Nat, ((n : Nat) : Int).fdiv 2 + 1 = ((n / 2 + 1 : Nat) : Int) := fun n => by
        have q : ((n : Nat) : Int).fdiv 2 = ((n / 2 : Nat) : Int) := fdiv_n n 2 (by decide)
        rw [q] <;> rfl
      have e22 : ∀ n : Nat, ((n : Nat) : Int).fdiv 2 + 2 = ((n / 2 + 2 : Nat) : Int) := fun n => by
        have q : ((n : Nat) : Int).fdiv 2 = ((n / 2 : Nat) : Int) := fdiv_n n 2 (by decide)
        rw [q] <;> rfl
      have e3 : ((sn : Nat) : Int).fdiv 3 + 1 = ((sn / 3 + 1 : Nat) : Int) := by
        have q : ((sn : Nat) : Int).fdiv 3 = ((sn / 3 : Nat) : Int) := fdiv_n sn 3 (by decide)
        rw [q] <;> rfl
      refine ⟨_, rfl, _, _, rfl, rfl, ⟨by decide, by decide⟩, _, _, rfl, rfl, _, rfl, _, rfl, _, _, rfl, rfl, ⟨by decide, by decide⟩, _, _, rfl, rfl, by show 8 ≤ sizeLine; decide, fun q4 nq4 => ?_⟩
      dsimp only
      rw [e2, e3]
      have ew : ([V.int 3, V.int 2, V.int ((sn / 2 + 1 : Nat) : Int), V.int 4, V.int ((sn : Nat) : Int), V.int 5, V.int ((sn / 3 + 1 : Nat) : Int), V.int 3] : List V) = nV [3, 2, sn / 2 + 1, 4, sn, 5, sn / 3 + 1, 3] := rfl
      rw [ew]
      have h4 : at0 ds 4 < 8 := hlt 4 (by decide)
      obtain ⟨wn, hwn⟩ : ∃ wn, ([3, 2, sn / 2 + 1, 4, sn, 5, sn / 3 + 1, 3] : List Nat)[at0 ds 4]? = some wn := ⟨_, getE h4⟩
      have hw : 0 < wn ∧ wn < 400 := by
        have q := List.mem_of_getElem? hwn
        simp only [List.mem_cons, List.not_mem_nil, or_false] at q
        omega
      have sB := same_put (o := .lst (nV [3, 2, sn / 2 + 1, 4, sn, 5, sn / 3 + 1, 3])) (sA.free nq4) sA
      have s24 := same_new (o := .lst (nV [3, 2, sn / 2 + 1, 4, sn, 5, sn / 3 + 1, 3])) nq4
      refine ⟨_, rfl, p, _, _, _, rfl, rfl, (rd 4 (by decide) s24).1, (rd 4 (by decide) s24).2, q4, _, _, _, rfl, rfl, .inl (.inl (upd_same ..)), atI_nat (nV_at hwn), ?_⟩
      generalize upd H2 q4 (.lst (nV [3, 2, sn / 2 + 1, 4, sn, 5, sn / 3 + 1, 3])) = H4 at sB s24
      refine ⟨_, rfl, a, ns, 1, rfl, Same.seq sB ha, fun c5 => ?_⟩
      refine ⟨_, rfl, by show 1 ≤ sizeLine; decide, fun l5 nl5 => ?_⟩
      refine ⟨_, rfl, l5, _, _, rfl, rfl, upd_same .., by omega, by omega, by show 1 * ((sn : Nat) : Int).toNat ≤ sizeLine; omega, fun p5' np5' => ?_⟩
      rw [rep_n]
      have s5' : Same H4 (upd (upd H4 l5 (.lst [V.int (wn : Nat)])) p5' (.lst (nV (List.replicate sn (wn))))) := same2 (same_new nl5) (same_new np5')
      refine ⟨c5, p5', List.replicate sn (wn), rfl, .inl (.inl (upd_same ..)), fun x hx => ?_, by rw [List.length_replicate]; omega, fun H5 p5 ds5 sq5 np5 hp5 hl5 hlt5 => ?_⟩
      · rw [(List.mem_replicate.mp hx).2]
        omega
      rw [List.length_replicate] at hl5 hlt5
      have s5 : Same H4 H5 := same2 s5' sq5
      have s50 := same2 sB s5
      have s25 := same2 s24 s5
      have mlt : ∀ x ∈ ds5, x < wn := fun x hx => by
        obtain ⟨i, hi⟩ := List.mem_iff_getElem?.mp hx
        have li : i < sn := by rw [← hl5]; exact ltE hi
        have q := hlt5 i li
        rw [at0_of hi, at0_of (List.getElem?_replicate_of_lt li)] at q
        exact q
      refine ⟨_, rfl, p, _, _, _, rfl, rfl, (rd 5 (by decide) s25).1, (rd 5 (by decide) s25).2, rfl, _, rfl, ?_⟩
      refine ite2 (fun _ => ?_) (fun _ => ?_)
      · refine ⟨_, rfl, ?_⟩
        refine ⟨_, rfl, a, ns, 2, rfl, Same.seq s50 ha, fun c6 => ?_⟩
        refine ⟨_, rfl, by show 1 ≤ sizeLine; decide, fun l6 nl6 => ?_⟩
        refine ⟨_, rfl, l6, _, _, rfl, rfl, upd_same .., by omega, by omega, by show 1 * ((sn : Nat) : Int).toNat ≤ sizeLine; omega, fun p6' np6' => ?_⟩
        rw [rep_n]
        have s6' : Same H5 (upd (upd H5 l6 (.lst [V.int (sn : Nat)])) p6' (.lst (nV (List.replicate sn (sn))))) := same2 (same_new nl6) (same_new np6')
        refine ⟨c6, p6', List.replicate sn (sn), rfl, .inl (.inl (upd_same ..)), fun x hx => ?_, by rw [List.length_replicate]; omega, fun H6 p6 ds6 sq6 np6 hp6 hl6 hlt6 => ?_⟩
        · rw [(List.mem_replicate.mp hx).2]
          omega
        rw [List.length_replicate] at hl6 hlt6
        have s6 : Same H5 H6 := same2 s6' sq6
        have s60 := same2 s50 s6
        refine ⟨by show 2 ≤ sizeLine; decide, fun q nq => ?_⟩
        exact hQ _ q p5 p6 ds5 ds6 (same2 s60 (same_new nq)) (s60.free nq) (upd_same ..) (same_new nq _ _ (s6 _ _ hp5)) (same_new nq _ _ hp6) (by rw [hl5, hl6]) (by omega) (by omega)
      refine ⟨_, rfl, p, _, _, _, rfl, rfl, (rd 5 (by decide) s25).1, (rd 5 (by decide) s25).2, rfl, _, rfl, ?_⟩
      refine ite2 (fun _ => ?_) (fun _ => ?_)
      · refine ⟨_, rfl, ?_⟩
        refine ⟨_, rfl, a, ns, 2, rfl, Same.seq s50 ha, fun c6 => ?_⟩
        refine ⟨_, rfl, _, _, rfl, rfl, ⟨by decide, by decide⟩, _, _, rfl, rfl, by show 1 ≤ sizeLine; decide, fun l6 nl6 => ?_⟩
        dsimp only
        rw [e22]
        refine ⟨_, rfl, l6, _, _, rfl, rfl, upd_same .., by omega, by omega, by show 1 * ((sn : Nat) : Int).toNat ≤ sizeLine; omega, fun p6' np6' => ?_⟩
        rw [rep_n]
        have s6' : Same H5 (upd (upd H5 l6 (.lst [V.int (wn / 2 + 2 : Nat)])) p6' (.lst (nV (List.replicate sn (wn / 2 + 2))))) := same2 (same_new nl6) (same_new np6')
        refine ⟨c6, p6', List.replicate sn (wn / 2 + 2), rfl, .inl (.inl (upd_same ..)), fun x hx => ?_, by rw [List.length_replicate]; omega, fun H6 p6 ds6 sq6 np6 hp6 hl6 hlt6 => ?_⟩
        · rw [(List.mem_replicate.mp hx).2]
          omega
        rw [List.length_replicate] at hl6 hlt6
        have s6 : Same H5 H6 := same2 s6' sq6
        have s60 := same2 s50 s6
        refine ⟨by show 2 ≤ sizeLine; decide, fun q nq => ?_⟩
        exact hQ _ q p5 p6 ds5 ds6 (same2 s60 (same_new nq)) (s60.free nq) (upd_same ..) (same_new nq _ _ (s6 _ _ hp5)) (same_new nq _ _ hp6) (by rw [hl5, hl6]) (by omega) (by omega)
      refine ⟨_, rfl, a, ns, 2, rfl, Same.seq s50 ha, fun c7 => ?_⟩
      refine ⟨_, rfl, _, _, rfl, rfl, ⟨by decide, by decide⟩, _, _, rfl, rfl, by show 1 ≤ sizeLine; decide, fun l7 nl7 => ?_⟩
      dsimp only
      rw [e2]
      refine ⟨_, rfl, l7, _, _, rfl, rfl, upd_same .., by omega, by omega, by show 1 * ((wn : Nat) : Int).toNat ≤ sizeLine; omega, fun p7' np7' => ?_⟩
      rw [rep_n]
      have s7' : Same H5 (upd (upd H5 l7 (.lst [V.int (wn / 2 + 1 : Nat)])) p7' (.lst (nV (List.replicate wn (wn / 2 + 1))))) := same2 (same_new nl7) (same_new np7')
      refine ⟨c7, p7', List.replicate wn (wn / 2 + 1), rfl, .inl (.inl (upd_same ..)), fun x hx => ?_, by rw [List.length_replicate]; omega, fun H7 p7 ds7 sq7 np7 hp7 hl7 hlt7 => ?_⟩
      · rw [(List.mem_replicate.mp hx).2]
        omega
      rw [List.length_replicate] at hl7 hlt7
      have s7 : Same H5 H7 := same2 s7' sq7
      have s70 := same2 s50 s7
      have hp5' := s7 _ _ hp5
      refine ⟨_, rfl, p5, rfl, ⟨_, .inl (.inl hp5')⟩, fun D nD => ?_⟩
      refine lc_it (walk_list (K := K) (a := p5) (xs := nV ds5)) (fun i H11 => ∃ ms : List Nat, H11 D = some (.lst (nV ms)) ∧ ms.length = i ∧ Same H7 H11) ⟨[], upd_same .., rfl, same_new nD⟩ (fun i H11 _ h => ?_) ?_ ?_
      · obtain ⟨_, _, _, m3⟩ := h
        exact .inl (.inl (m3 _ _ hp5'))
      · rintro i x0 H11 H12 hi ⟨ms, m1, m2, m3⟩ ⟨rfl, hx⟩
        obtain ⟨x, hx2, rfl⟩ := of_nV hx
        rw [nV_len, hl5] at hi
        have xlt := mlt x (List.mem_of_getElem? hx2)
        refine ⟨rfl, _, rfl, _, rfl, p7, _, _, _, rfl, rfl, .inl (.inl (m3 _ _ hp7)), atI_nat (nV_at0 (by rw [hl7]; exact xlt)), ?_⟩
        refine ⟨_, m1, by rw [nV_len, m2]; exact fewS (by omega), ms ++ [at0 ds7 x], ?_, by rw [List.length_append, m2, List.length_singleton], same_put nD m3⟩
        rw [upd_same, nV_snoc]
      rintro H11 ⟨ms, m1, m2, m3⟩
      rw [nV_len, hl5] at m2
      have sB1 := same2 s70 m3
      have nD0 : H D = none := s70.free nD
      have hp5'' := m3 _ _ hp5'
      refine ⟨_, rfl, p, _, _, _, rfl, rfl, (rd 5 (by decide) (same2 s25 (same2 s7 m3))).1, (rd 5 (by decide) (same2 s25 (same2 s7 m3))).2, _, _, rfl, rfl, _, rfl, ?_⟩
      refine ite2 (fun _ => ?_) (fun _ => ?_)
      · refine ⟨_, rfl, a, ns, 3, rfl, Same.seq sB1 ha, fun c8 => ?_⟩
        refine .inl ⟨_, rfl, _, rfl, _, _, rfl, rfl, by show ((sn : Nat) : Int) ≠ 0; omega, ?_⟩
        dsimp only
        obtain ⟨pn, hpn, lpn⟩ : ∃ pn : Nat, c8.fmod ((sn : Nat) : Int) = (pn : Nat) ∧ pn < sn := by
          obtain ⟨z1, z2⟩ := modPos (a := c8) (m := ((sn : Nat) : Int)) (by omega)
          exact ⟨(c8.fmod ((sn : Nat) : Int)).toNat, by omega, by omega⟩
        rw [hpn]
        refine ⟨_, rfl, _, rfl, D, _, _, _, rfl, rfl, .inl (.inl m1), atI_nat (nV_at0 (by rw [m2]; exact lpn)), _, _, rfl, rfl, _, rfl, a, ns, 4, rfl, Same.seq sB1 ha, fun c9 => ?_⟩
        refine .inl ⟨_, rfl, _, rfl, _, _, rfl, rfl, ⟨by decide, by decide⟩, _, _, rfl, rfl, _, _, rfl, rfl, ?_, _, _, rfl, rfl, .inl ⟨_, rfl, _, rfl, _, _, rfl, rfl, ⟨by decide, by decide⟩, _, _, rfl, rfl, _, _, rfl, rfl, ?_, ?_⟩⟩
        · rw [e2]
          omega
        · rw [e22]
          omega
        dsimp only
        rw [e22]
        obtain ⟨v, hv⟩ : ∃ v : Nat, (((at0 ms pn : Nat) : Int) + 1 + c9.fmod (((wn : Nat) : Int).fdiv 2 + 1)).fmod ((wn / 2 + 2 : Nat) : Int) = (v : Nat) := by
          obtain ⟨z1, z2⟩ := modPos (a := ((at0 ms pn : Nat) : Int) + 1 + c9.fmod (((wn : Nat) : Int).fdiv 2 + 1)) (m := ((wn / 2 + 2 : Nat) : Int)) (by omega)
          exact ⟨_, (Int.toNat_of_nonneg z1).symm⟩
        rw [hv]
        refine ⟨_, rfl, _, rfl, D, _, _, _, rfl, rfl, m1, ixN_n (by rw [nV_len, m2]; exact lpn), ?_⟩
        rw [nV_set]
        have sC := same_put (o := .lst (nV (ms.set pn v))) nD0 sB1
        have hpD := same_put (o := .lst (nV (ms.set pn v))) nD m3 _ _ hp5'
        have hD : upd H11 D (.lst (nV (ms.set pn v))) D = some (.lst (nV (ms.set pn v))) := upd_same ..
        generalize upd H11 D (.lst (nV (ms.set pn v))) = H12 at sC hpD hD
        refine ⟨_, rfl, _, rfl, by show 2 ≤ sizeLine; decide, fun q nq => ?_⟩
        exact hQ _ q p5 D ds5 (ms.set pn v) (same2 sC (same_new nq)) (sC.free nq) (upd_same ..) (same_new nq _ _ hpD) (same_new nq _ _ hD) (by rw [hl5, List.length_set, m2]) (by omega) (by omega)
      · refine ⟨_, rfl, _, rfl, by show 2 ≤ sizeLine; decide, fun q nq => ?_⟩
        exact hQ _ q p5 D ds5 ms (same2 sB1 (same_new nq)) (sB1.free nq) (upd_same ..) (same_new nq _ _ hp5'') (same_new nq _ _ m1) (by rw [hl5, m2]) (by omega) (by omega)
    · obtain ⟨sn, rfl⟩ : ∃ sn : Nat, sz = (sn : Nat) := ⟨sz.toNat, by omega⟩
      have e2 : ∀ n : Nat, ((n : Nat) : Int).fdiv 2 + 1 = ((n / 2 + 1 : Nat) : Int) := fun n => by
        have q : ((n : Nat) : Int).fdiv 2 = ((n / 2 : Nat) : Int) := fdiv_n n 2 (by decide)
        rw [q] <;> rfl
      have e22 : ∀ n : Nat, ((n : Nat) : Int).fdiv 2 + 2 = ((n / 2 + 2 : Nat) : Int) := fun n => by
        have q : ((n : Nat) : Int).fdiv 2 = ((n / 2 : Nat) : Int) := fdiv_n n 2 (by decide)
        rw [q] <;> rfl
      have e3 : ((sn : Nat) : Int).fdiv 3 + 1 = ((sn / 3 + 1 : Nat) : Int) := by
        have q : ((sn : Nat) : Int).fdiv 3 = ((sn / 3 : Nat) : Int) := fdiv_n sn 3 (by decide)
        rw [q] <;> rfl
      refine ⟨_, rfl, _, _, rfl, rfl, ⟨by decide, by decide⟩, _, _, rfl, rfl, _, rfl, _, rfl, _, _, rfl, rfl, ⟨by decide, by decide⟩, _, _, rfl, rfl, by show 8 ≤ sizeLine; decide, fun q4 nq4 => ?_⟩
      dsimp only
      rw [e2, e3]
      have ew : ([V.int 3, V.int 2, V.int ((sn / 2 + 1 : Nat) : Int), V.int 4, V.int ((sn : Nat) : Int), V.int 5, V.int ((sn / 3 + 1 : Nat) : Int), V.int 3] : List V) = nV [3, 2, sn / 2 + 1, 4, sn, 5, sn / 3 + 1, 3] := rfl
      rw [ew]
      have h4 : at0 ds 4 < 8 := hlt 4 (by decide)
      obtain ⟨wn, hwn⟩ : ∃ wn, ([3, 2, sn / 2 + 1, 4, sn, 5, sn / 3 + 1, 3] : List Nat)[at0 ds 4]? = some wn := ⟨_, getE h4⟩
      have hw : 0 < wn ∧ wn < 400 := by
        have q := List.mem_of_getElem? hwn
        simp only [List.mem_cons, List.not_mem_nil, or_false] at q
        omega
      have sB := same_put (o := .lst (nV [3, 2, sn / 2 + 1, 4, sn, 5, sn / 3 + 1, 3])) (sA.free nq4) sA
      have s24 := same_new (o := .lst (nV [3, 2, sn / 2 + 1, 4, sn, 5, sn / 3 + 1, 3])) nq4
      refine ⟨_, rfl, p, _, _, _, rfl, rfl, (rd 4 (by decide) s24).1, (rd 4 (by decide) s24).2, q4, _, _, _, rfl, rfl, .inl (.inl (upd_same ..)), atI_nat (nV_at hwn), ?_⟩
      generalize upd H2 q4 (.lst (nV [3, 2, sn / 2 + 1, 4, sn, 5, sn / 3 + 1, 3])) = H4 at sB s24
      refine ⟨_, rfl, a, ns, 1, rfl, Same.seq sB ha, fun c5 => ?_⟩
      refine ⟨_, rfl, by show 1 ≤ sizeLine; decide, fun l5 nl5 => ?_⟩
      refine ⟨_, rfl, l5, _, _, rfl, rfl, upd_same .., by omega, by omega, by show 1 * ((sn : Nat) : Int).toNat ≤ sizeLine; omega, fun p5' np5' => ?_⟩
      rw [rep_n]
      have s5' : Same H4 (upd (upd H4 l5 (.lst [V.int (wn : Nat)])) p5' (.lst (nV (List.replicate sn (wn))))) := same2 (same_new nl5) (same_new np5')
      refine ⟨c5, p5', List.replicate sn (wn), rfl, .inl (.inl (upd_same ..)), fun x hx => ?_, by rw [List.length_replicate]; omega, fun H5 p5 ds5 sq5 np5 hp5 hl5 hlt5 => ?_⟩
      · rw [(List.mem_replicate.mp hx).2]
        omega
      rw [List.length_replicate] at hl5 hlt5
      have s5 : Same H4 H5 := same2 s5' sq5
      have s50 := same2 sB s5
      have s25 := same2 s24 s5
      have mlt : ∀ x ∈ ds5, x < wn := fun x hx => by
        obtain ⟨i, hi⟩ := List.mem_iff_getElem?.mp hx
        have li : i < sn := by rw [← hl5]; exact ltE hi
        have q := hlt5 i li
        rw [at0_of hi, at0_of (List.getElem?_replicate_of_lt li)] at q
        exact q
      refine ⟨_, rfl, p, _, _, _, rfl, rfl, (rd 5 (by decide) s25).1, (rd 5 (by decide) s25).2, rfl, _, rfl, ?_⟩
      refine ite2 (fun _ => ?_) (fun _ => ?_)
      · refine ⟨_, rfl, ?_⟩
        refine ⟨_, rfl, a, ns, 2, rfl, Same.seq s50 ha, fun c6 => ?_⟩
        refine ⟨_, rfl, by show 1 ≤ sizeLine; decide, fun l6 nl6 => ?_⟩
        refine ⟨_, rfl, l6, _, _, rfl, rfl, upd_same .., by omega, by omega, by show 1 * ((sn : Nat) : Int).toNat ≤ sizeLine; omega, fun p6' np6' => ?_⟩
        rw [rep_n]
        have s6' : Same H5 (upd (upd H5 l6 (.lst [V.int (sn : Nat)])) p6' (.lst (nV (List.replicate sn (sn))))) := same2 (same_new nl6) (same_new np6')
        refine ⟨c6, p6', List.replicate sn (sn), rfl, .inl (.inl (upd_same ..)), fun x hx => ?_, by rw [List.length_replicate]; omega, fun H6 p6 ds6 sq6 np6 hp6 hl6 hlt6 => ?_⟩
        · rw [(List.mem_replicate.mp hx).2]
          omega
        rw [List.length_replicate] at hl6 hlt6
        have s6 : Same H5 H6 := same2 s6' sq6
        have s60 := same2 s50 s6
        refine ⟨by show 2 ≤ sizeLine; decide, fun q nq => ?_⟩
        exact hQ _ q p5 p6 ds5 ds6 (same2 s60 (same_new nq)) (s60.free nq) (upd_same ..) (same_new nq _ _ (s6 _ _ hp5)) (same_new nq _ _ hp6) (by rw [hl5, hl6]) (by omega) (by omega)
      refine ⟨_, rfl, p, _, _, _, rfl, rfl, (rd 5 (by decide) s25).1, (rd 5 (by decide) s25).2, rfl, _, rfl, ?_⟩
      refine ite2 (fun _ => ?_) (fun _ => ?_)
      · refine ⟨_, rfl, ?_⟩
        refine ⟨_, rfl, a, ns, 2, rfl, Same.seq s50 ha, fun c6 => ?_⟩
        refine ⟨_, rfl, _, _, rfl, rfl, ⟨by decide, by decide⟩, _, _, rfl, rfl, by show 1 ≤ sizeLine; decide, fun l6 nl6 => ?_⟩
        dsimp only
        rw [e22]
        refine ⟨_, rfl, l6, _, _, rfl, rfl, upd_same .., by omega, by omega, by show 1 * ((sn : Nat) : Int).toNat ≤ sizeLine; omega, fun p6' np6' => ?_⟩
        rw [rep_n]
        have s6' : Same H5 (upd (upd H5 l6 (.lst [V.int (wn / 2 + 2 : Nat)])) p6' (.lst (nV (List.replicate sn (wn / 2 + 2))))) := same2 (same_new nl6) (same_new np6')
        refine ⟨c6, p6', List.replicate sn (wn / 2 + 2), rfl, .inl (.inl (upd_same ..)), fun x hx => ?_, by rw [List.length_replicate]; omega, fun H6 p6 ds6 sq6 np6 hp6 hl6 hlt6 => ?_⟩
        · rw [(List.mem_replicate.mp hx).2]
          omega
        rw [List.length_replicate] at hl6 hlt6
        have s6 : Same H5 H6 := same2 s6' sq6
        have s60 := same2 s50 s6
        refine ⟨by show 2 ≤ sizeLine; decide, fun q nq => ?_⟩
        exact hQ _ q p5 p6 ds5 ds6 (same2 s60 (same_new nq)) (s60.free nq) (upd_same ..) (same_new nq _ _ (s6 _ _ hp5)) (same_new nq _ _ hp6) (by rw [hl5, hl6]) (by omega) (by omega)
      refine ⟨_, rfl, a, ns, 2, rfl, Same.seq s50 ha, fun c7 => ?_⟩
      refine ⟨_, rfl, _, _, rfl, rfl, ⟨by decide, by decide⟩, _, _, rfl, rfl, by show 1 ≤ sizeLine; decide, fun l7 nl7 => ?_⟩
      dsimp only
      rw [e2]
      refine ⟨_, rfl, l7, _, _, rfl, rfl, upd_same .., by omega, by omega, by show 1 * ((wn : Nat) : Int).toNat ≤ sizeLine; omega, fun p7' np7' => ?_⟩
      rw [rep_n]
      have s7' : Same H5 (upd (upd H5 l7 (.lst [V.int (wn / 2 + 1 : Nat)])) p7' (.lst (nV (List.replicate wn (wn / 2 + 1))))) := same2 (same_new nl7) (same_new np7')
      refine ⟨c7, p7', List.replicate wn (wn / 2 + 1), rfl, .inl (.inl (upd_same ..)), fun x hx => ?_, by rw [List.length_replicate]; omega, fun H7 p7 ds7 sq7 np7 hp7 hl7 hlt7 => ?_⟩
      · rw [(List.mem_replicate.mp hx).2]
        omega
      rw [List.length_replicate] at hl7 hlt7
      have s7 : Same H5 H7 := same2 s7' sq7
      have s70 := same2 s50 s7
      have hp5' := s7 _ _ hp5
      refine ⟨_, rfl, p5, rfl, ⟨_, .inl (.inl hp5')⟩, fun D nD => ?_⟩
      refine lc_it (walk_list (K := K) (a := p5) (xs := nV ds5)) (fun i H11 => ∃ ms : List Nat, H11 D = some (.lst (nV ms)) ∧ ms.length = i ∧ Same H7 H11) ⟨[], upd_same .., rfl, same_new nD⟩ (fun i H11 _ h => ?_) ?_ ?_
      · obtain ⟨_, _, _, m3⟩ := h
        exact .inl (.inl (m3 _ _ hp5'))
      · rintro i x0 H11 H12 hi ⟨ms, m1, m2, m3⟩ ⟨rfl, hx⟩
        obtain ⟨x, hx2, rfl⟩ := of_nV hx
        rw [nV_len, hl5] at hi
        have xlt := mlt x (List.mem_of_getElem? hx2)
        refine ⟨rfl, _, rfl, _, rfl, p7, _, _, _, rfl, rfl, .inl (.inl (m3 _ _ hp7)), atI_nat (nV_at0 (by rw [hl7]; exact xlt)), ?_⟩
        refine ⟨_, m1, by rw [nV_len, m2]; exact fewS (by omega), ms ++ [at0 ds7 x], ?_, by rw [List.length_append, m2, List.length_singleton], same_put nD m3⟩
        rw [upd_same, nV_snoc]
      rintro H11 ⟨ms, m1, m2, m3⟩
      rw [nV_len, hl5] at m2
      have sB1 := same2 s70 m3
      have nD0 : H D = none := s70.free nD
      have hp5'' := m3 _ _ hp5'
      refine ⟨_, rfl, p, _, _, _, rfl, rfl, (rd 5 (by decide) (same2 s25 (same2 s7 m3))).1, (rd 5 (by decide) (same2 s25 (same2 s7 m3))).2, _, _, rfl, rfl, _, rfl, ?_⟩
      refine ite2 (fun _ => ?_) (fun _ => ?_)
      · refine ⟨_, rfl, a, ns, 3, rfl, Same.seq sB1 ha, fun c8 => ?_⟩
        refine .inl ⟨_, rfl, _, rfl, _, _, rfl, rfl, by show ((sn : Nat) : Int) ≠ 0; omega, ?_⟩
        dsimp only
        obtain ⟨pn, hpn, lpn⟩ : ∃ pn : Nat, c8.fmod ((sn : Nat) : Int) = (pn : Nat) ∧ pn < sn := by
          obtain ⟨z1, z2⟩ := modPos (a := c8) (m := ((sn : Nat) : Int)) (by omega)
          exact ⟨(c8.fmod ((sn : Nat) : Int)).toNat, by omega, by omega⟩
        rw [hpn]
        refine ⟨_, rfl, _, rfl, D, _, _, _, rfl, rfl, .inl (.inl m1), atI_nat (nV_at0 (by rw [m2]; exact lpn)), _, _, rfl, rfl, _, rfl, a, ns, 4, rfl, Same.seq sB1 ha, fun c9 => ?_⟩
        refine .inl ⟨_, rfl, _, rfl, _, _, rfl, rfl, ⟨by decide, by decide⟩, _, _, rfl, rfl, _, _, rfl, rfl, ?_, _, _, rfl, rfl, .inl ⟨_, rfl, _, rfl, _, _, rfl, rfl, ⟨by decide, by decide⟩, _, _, rfl, rfl, _, _, rfl, rfl, ?_, ?_⟩⟩
        · rw [e2]
          omega
        · rw [e22]
          omega
        dsimp only
        rw [e22]
        obtain ⟨v, hv⟩ : ∃ v : Nat, (((at0 ms pn : Nat) : Int) + 1 + c9.fmod (((wn : Nat) : Int).fdiv 2 + 1)).fmod ((wn / 2 + 2 : Nat) : Int) = (v : Nat) := by
          obtain ⟨z1, z2⟩ := modPos (a := ((at0 ms pn : Nat) : Int) + 1 + c9.fmod (((wn : Nat) : Int).fdiv 2 + 1)) (m := ((wn / 2 + 2 : Nat) : Int)) (by omega)
          exact ⟨_, (Int.toNat_of_nonneg z1).symm⟩
        rw [hv]
        refine ⟨_, rfl, _, rfl, D, _, _, _, rfl, rfl, m1, ixN_n (by rw [nV_len, m2]; exact lpn), ?_⟩
        rw [nV_set]
        have sC := same_put (o := .lst (nV (ms.set pn v))) nD0 sB1
        have hpD := same_put (o := .lst (nV (ms.set pn v))) nD m3 _ _ hp5'
        have hD : upd H11 D (.lst (nV (ms.set pn v))) D = some (.lst (nV (ms.set pn v))) := upd_same ..
        generalize upd H11 D (.lst (nV (ms.set pn v))) = H12 at sC hpD hD
        refine ⟨_, rfl, _, rfl, by show 2 ≤ sizeLine; decide, fun q nq => ?_⟩
        exact hQ _ q p5 D ds5 (ms.set pn v) (same2 sC (same_new nq)) (sC.free nq) (upd_same ..) (same_new nq _ _ hpD) (same_new nq _ _ hD) (by rw [hl5, List.length_set, m2]) (by omega) (by omega)
      · refine ⟨_, rfl, _, rfl, by show 2 ≤ sizeLine; decide, fun q nq => ?_⟩
        exact hQ _ q p5 D ds5 ms (same2 sB1 (same_new nq)) (sB1.free nq) (upd_same ..) (same_new nq _ _ hp5'') (same_new nq _ _ m1) (by rw [hl5, m2]) (by omega) (by omega)
end
end K01
set_option Elab.async false
set_option linter.all false
set_option maxRecDepth 100000
set_option maxHeartbeats 4000000
/-! Ms, plain: which sight tells which, by what is common and what is pooled. -/
namespace Ms
theorem row_uniq {f g u v : List Nat} (hu : Row u) (hv : Row v) (ju : Joins f g u) (jv : Joins f g v) : u = v := by
  have q := (ren_alike (ju.alike jv)).1
  rw [show ren u = u from hu, show ren v = v from hv] at q
  exact q
theorem zip_at {f g : List Nat} {i a b : Nat} (h1 : f[i]? = some a) (h2 : g[i]? = some b) : (f.zip g)[i]? = some (a, b) := List.getElem?_zip_eq_some.mpr ⟨h1, h2⟩
theorem zswap : ∀ f g : List Nat, g.zip f = (f.zip g).map Prod.swap
  | [], g => by cases g <;> rfl
  | _ :: _, [] => rfl
  | a :: f, b :: g => by
    show (b, a) :: g.zip f = (b, a) :: (f.zip g).map Prod.swap
    rw [zswap f g]
theorem ren_zip_swap (f g : List Nat) : ren (g.zip f) = ren (f.zip g) := by
  rw [zswap]
  exact ren_map fun a b z => Prod.swap_inj.mp z
theorem ren_zip_fine {f u : List Nat} (hf : Row f) (e : f.length = u.length) (h : ∀ (i j a c d : Nat), f[i]? = some a → f[j]? = some a → u[i]? = some c → u[j]? = some d → c = d) : ren (f.zip u) = f := by
  have al : Alike (f.zip u) f := ⟨by rw [List.length_zip]; omega, fun i j a b c d h1 h2 h3 h4 => by
    obtain ⟨k1, k2⟩ := List.getElem?_zip_eq_some.mp h1
    obtain ⟨k3, k4⟩ := List.getElem?_zip_eq_some.mp h2
    rw [h3] at k1
    rw [h4] at k3
    constructor
    · intro z
      rw [Option.some.inj k1, Option.some.inj k3, z]
    · intro z
      subst z
      have q := h i j c _ _ h3 h4 k2 k4
      exact Prod.ext ((Option.some.inj k1).symm.trans (Option.some.inj k3)) q⟩
  rw [(ren_alike al).1]
  exact hf
theorem joins_coarse {f g u : List Nat} (j : Joins f g u) {i k a c d : Nat} (h1 : f[i]? = some a) (h2 : f[k]? = some a) (h3 : u[i]? = some c) (h4 : u[k]? = some d) : c = d :=
  (j.2 i k c d h3 h4).mpr (.of (.inl ⟨ltE h1, ltE h2, by rw [h1, h2]⟩))
theorem joins_self (g : List Nat) : Joins g g g := joins_fine rfl fun i j a c d h1 h2 h3 h4 => by
  rw [h3] at h1
  rw [h4] at h2
  exact (Option.some.inj h1).trans (Option.some.inj h2).symm
theorem tell_and {f g : List Nat} {r : Option (Nat × Nat)} (hf : Row f) (e : f.length = g.length) (h : Fst f g r) : decide (ren (f.zip g) = f) = decide (r = none) := by
  cases r with
  | none => rw [ren_zip_fine hf e ((fst_none e).mp h)]; simp
  | some p =>
    obtain ⟨d, o⟩ := p
    obtain ⟨⟨h1, h2, h3, h4⟩, _⟩ := h
    have d1 : d < f.length := by omega
    have n : ren (f.zip g) ≠ f := fun z => by
      have q := (alike_ren (f.zip g)).2 d o _ _ (at0 f d) (at0 f o) (zip_at (of_at0 d1) (of_at0 (e ▸ d1))) (zip_at (of_at0 h2) (of_at0 (e ▸ h2))) (by rw [z]; exact of_at0 d1) (by rw [z]; exact of_at0 h2)
      exact h4 (Prod.mk.inj (q.mpr h3)).2
    rw [decide_eq_false n, decide_eq_false (fun z => nomatch z)]
theorem tell_or {f g u : List Nat} {r : Option (Nat × Nat)} (hg : Row g) (hu : Row u) (e : f.length = g.length) (j : Joins f g u) (h : Fst f g r) : decide (u = g) = decide (r = none) := by
  cases r with
  | none => rw [row_uniq hu hg j (joins_fine e ((fst_none e).mp h))]; simp
  | some p =>
    obtain ⟨d, o⟩ := p
    obtain ⟨⟨h1, h2, h3, h4⟩, _⟩ := h
    have d1 : d < f.length := by omega
    have n : u ≠ g := fun z => by
      rw [z] at j
      exact h4 (joins_coarse j (of_at0 d1) (by rw [h3]; exact of_at0 h2) (of_at0 (e ▸ d1)) (of_at0 (e ▸ h2)))
    rw [decide_eq_false n, decide_eq_false (fun z => nomatch z)]
theorem tell_self (f : List Nat) : Fst f f none := (fst_none rfl).mpr fun i j a c d h1 h2 h3 h4 => by
  rw [h1] at h3
  rw [h2] at h4
  exact (Option.some.inj h3).symm.trans (Option.some.inj h4)
theorem tell_joins {f g u : List Nat} (j : Joins f g u) : Fst f u none := (fst_none j.1.symm).mpr fun _ _ _ _ _ h1 h2 h3 h4 => joins_coarse j h1 h2 h3 h4
theorem tell_pool {f g : List Nat} (e : f.length = g.length) : Fst (ren (f.zip g)) g none := (fst_none (by rw [ren_len, List.length_zip]; omega)).mpr fun i j a c d h1 h2 h3 h4 => by
  have l1 : i < f.length := e ▸ ltE h3
  have l2 : j < f.length := e ▸ ltE h4
  have q := (alike_ren (f.zip g)).2 i j _ _ a a (zip_at (of_at0 l1) h3) (zip_at (of_at0 l2) h4) h1 h2
  exact (Prod.mk.inj (q.mpr rfl)).2
theorem tell_nothing {f : List Nat} {n : Nat} (e : f.length = n) : Fst f (ren (List.replicate n (0 : Int))) none := (fst_none (by rw [ren_len, List.length_replicate]; exact e)).mpr fun i j a c d h1 h2 h3 h4 => by
  have l1 : i < n := e ▸ ltE h1
  have l2 : j < n := e ▸ ltE h2
  exact ((alike_ren (List.replicate n (0 : Int))).2 i j 0 0 c d (List.getElem?_replicate_of_lt l1) (List.getElem?_replicate_of_lt l2) h3 h4).mp rfl
theorem tell_every {g : List Nat} {n : Nat} (e : n = g.length) : Fst (ren ((List.range n).map fun i => ((i : Nat) : Int))) g none := (fst_none (by rw [ren_len, List.length_map, List.length_range]; exact e)).mpr fun i j a c d h1 h2 h3 h4 => by
  have l1 : i < n := e ▸ ltE h3
  have l2 : j < n := e ▸ ltE h4
  have q := (alike_ren ((List.range n).map fun i => ((i : Nat) : Int))).2 i j (i : Int) (j : Int) a a (by rw [List.getElem?_map, List.getElem?_range l1] <;> rfl) (by rw [List.getElem?_map, List.getElem?_range l2] <;> rfl) h1 h2
  have ij : (i : Int) = (j : Int) := q.mpr rfl
  have ij : i = j := by omega
  subst ij
  rw [h3] at h4
  exact Option.some.inj h4
end Ms
set_option Elab.async false
set_option linter.all false
set_option maxRecDepth 100000
set_option maxHeartbeats 4000000
namespace K01
open PySem PySem.Spec PyProof.Rows L2 Ms
def spPart (K : PySem.W.Frag) : Sp := fun vs H Q _ => ∃ (a : Addr) (ns : List Int), vs = [.ref a] ∧ SqL K H a (ns.map V.int) ∧ ∀ H', SqL K H' a (ns.map V.int) → Q (.bl true) H'
theorem pv_none {H : Hp} {r : Option (Nat × Nat)} {v : V} (hv : PV H r v) : decide (v = V.non) = decide (r = none) := by
  cases r with
  | none => rw [show v = .non from hv]; simp
  | some p =>
    obtain ⟨t, ev, _⟩ := hv
    rw [ev]
    simp
/-- what stands while the first part runs -/
structure A1 (K : PySem.W.Frag) (H : Hp) (a : Addr) (ns : List Int) (R a1 b1 : Addr) (A B : List Nat) (p1 p2 : Addr) (f g : List Nat) (r : Option (Nat × Nat)) (v : V) (r' : Option (Nat × Nat)) (v' : V) : Prop where
  sc : SqL K H a (ns.map V.int)
  hR : H R = some (.lst [.ref a1, .ref b1])
  hA : H a1 = some (.lst (nV A))
  hB : H b1 = some (.lst (nV B))
  one : SightAt K H p1 f
  two : SightAt K H p2 g
  due : PV H r v
  back : PV H r' v'
theorem A1.same {K : PySem.W.Frag} {H H' : Hp} {a : Addr} {ns : List Int} {R a1 b1 : Addr} {A B : List Nat} {p1 p2 : Addr} {f g : List Nat} {r : Option (Nat × Nat)} {v : V} {r' : Option (Nat × Nat)} {v' : V} (c : A1 K H a ns R a1 b1 A B p1 p2 f g r v r' v') (s : Same H H') : A1 K H' a ns R a1 b1 A B p1 p2 f g r v r' v' :=
  ⟨Same.seq s c.sc, s _ _ c.hR, s _ _ c.hA, s _ _ c.hB, c.one.same s, c.two.same s, c.due.same s, c.back.same s⟩
section
variable {P : Program} {w : World} {K : PySem.W.Frag} {mg : Str → Option Value} {base : Heap}
theorem ok__law_parta (T : Tx K mg) : Ok P w K mg base "_law_parta" 6 (spPart K) := by
  have O__law_draw : Ok P w K mg base "_law_draw" 2 (spDraw K) := ok__law_draw T
  have O__law_cell : Ok P w K mg base "_law_cell" 1 (spCellL K) := ok__law_cell T
  have O__law_pair : Ok P w K mg base "_law_pair" 1 (spPair K) := ok__law_pair T
  have O__law_asks : Ok P w K mg base "_law_asks" 5 (spAsks K) := ok__law_asks T
  have O__law_differs : Ok P w K mg base "_law_differs" 5 (spDiffers K) := ok__law_differs T
  have O_Sightu__initu_ : COk P w K mg base "Sight" 2 (spInit K) := cok T
  have O_Sightu__andu_ : BOk P w K mg base "Sight" "__and__" 4 (spAnd K) := bok_and T
  have O_Sightu__oru_ : BOk P w K mg base "Sight" "__or__" 4 (spOr K) := bok_or T
  have O_Sightu__equ_ : BOk P w K mg base "Sight" "__eq__" 1 (spEq K) := bok_eq T
  have F1 : FnR P w K mg base (L2.CX P w) 4 (recAt K "classmethod" "Sight" "nothing") (spNothing K) := fr_nothing T
  have F2 : FnR P w K mg base (L2.CX P w) 4 (recAt K "classmethod" "Sight" "everything") (spEvery K) := fr_every T
  refine ok_of T.a__law_parta sc_law_parta (fun vs H Q E h => ?_) bi__law_parta fun cdv A outer s H vs Q E hr h => ?_
  · obtain ⟨a, ns, rfl, _⟩ := h
    rfl
  obtain ⟨a, ns, rfl, ha, hQ⟩ := h
  have big : (16777216 : Nat) ≤ sizeLine := by decide
  refine ⟨_, (pss_cons (ps_set (i := 1) sc_law_parta.nd rfl (by first | exact Or.inl rfl | exact Or.inr rfl) (pe_c (E := EN) O__law_draw hr (by decide) (fun σ => passN σ) (pa_cons (pv 0) pa_nil)))
  (pss_cons (ps_set (i := 2) sc_law_parta.nd rfl (by first | exact Or.inl rfl | exact Or.inr rfl) (pe_callB (lenK K) (by rfl) T.f_len boot_len (pa_cons (pe_ix (ixL K) (pv 1) pe_int (fun _ _ => rfl)) pa_nil)))
  (pss_cons (ps_set (i := 3) sc_law_parta.nd rfl (by first | exact Or.inl rfl | exact Or.inr rfl) (pe_c (E := EN) O__law_cell hr (by decide) (fun σ => passN σ) (pa_cons (pv 0) (pa_cons pe_int pa_nil))))
  (pss_cons (ps_set (i := 4) sc_law_parta.nd rfl (by first | exact Or.inl rfl | exact Or.inr rfl) (pe_nK K (E := EN) O_Sightu__initu_ hr (by decide) (fun σ => passN σ) (pa_cons (pe_lc (own := [("mark", 5)]) (g := gName 5) rfl sc_law_parta.nd (pi_list (pe_ix (ixL K) (pv 1) pe_int (fun _ _ => rfl))) (blkOk_by (N := ["script", "rows", "size", "low", "one", "mark", "two", "due", "back", "other", "longer"]) (sc := defScope s_law_parta) (by decide +kernel)) (fun _ _ _ _ _ => (pg_name (i := 5) sc_law_parta.nd rfl (by first | exact Or.inl rfl | exact Or.inr rfl))) (fun _ _ _ _ _ => pts_nil) (fun _ _ _ _ _ => (pe_op op_sub (pv 3) (pv 5)))) pa_nil)))
  (pss_cons (ps_set (i := 6) sc_law_parta.nd rfl (by first | exact Or.inl rfl | exact Or.inr rfl) (pe_nK K (E := EN) O_Sightu__initu_ hr (by decide) (fun σ => passN σ) (pa_cons (pe_callTy (tupK K) (by rfl) T.f_tuple (by decide +kernel) (pa_cons (pe_lc (own := [("mark", 5)]) (g := gName 5) rfl sc_law_parta.nd (pi_list (pe_ix (ixL K) (pv 1) pe_int (fun _ _ => rfl))) (blkOk_by (N := ["script", "rows", "size", "low", "one", "mark", "two", "due", "back", "other", "longer"]) (sc := defScope s_law_parta) (by decide +kernel)) (fun _ _ _ _ _ => (pg_name (i := 5) sc_law_parta.nd rfl (by first | exact Or.inl rfl | exact Or.inr rfl))) (fun _ _ _ _ _ => pts_nil) (fun _ _ _ _ _ => (pe_op op_add (pv 3) (pe_op op_mul pe_int (pv 5))))) pa_nil)) pa_nil)))
  (pss_cons (ps_set (i := 7) sc_law_parta.nd rfl (by first | exact Or.inl rfl | exact Or.inr rfl) (pe_c (E := EN) O__law_pair hr (by decide) (fun σ => passN σ) (pa_cons (pe_ix (ixL K) (pv 1) pe_int (fun _ _ => rfl)) (pa_cons (pe_ix (ixL K) (pv 1) pe_int (fun _ _ => rfl)) pa_nil))))
  (pss_cons (ps_set (i := 8) sc_law_parta.nd rfl (by first | exact Or.inl rfl | exact Or.inr rfl) (pe_c (E := EN) O__law_pair hr (by decide) (fun σ => passN σ) (pa_cons (pe_ix (ixL K) (pv 1) pe_int (fun _ _ => rfl)) (pa_cons (pe_ix (ixL K) (pv 1) pe_int (fun _ _ => rfl)) pa_nil))))
  (pss_cons (ps_if (PW.pt (pw_or (pt_not (pt_val (pe_c (E := EN) O__law_asks hr (by decide) (fun σ => passN σ) (pa_cons (pv 4) (pa_cons (pv 6) (pa_cons (pv 7) pa_nil)))))) (pw_or1 (pt_not (pt_val (pe_c (E := EN) O__law_asks hr (by decide) (fun σ => passN σ) (pa_cons (pv 6) (pa_cons (pv 4) (pa_cons (pv 8) pa_nil)))))))))
  (pss_one (ps_ret pe_bl))
  pss_nil)
  (pss_cons (ps_if (PW.pt (pw_or (pt_cmpR op_ne (pe_eqSK K (E := EN) O_Sightu__equ_ hr (by decide) (fun σ => passN σ) (pe_binK K (E := EN) O_Sightu__andu_ rfl hr (by decide) (fun σ => passN σ) (pv 4) (pv 6)) (pv 4)) (pe_cmpR op_isN (pv 7) pe_non (nomark _)) (nomark _)) (pw_or1 (pt_cmpR op_ne (pe_eqSK K (E := EN) O_Sightu__equ_ hr (by decide) (fun σ => passN σ) (pe_binK K (E := EN) O_Sightu__oru_ rfl hr (by decide) (fun σ => passN σ) (pv 4) (pv 6)) (pv 6)) (pe_cmpR op_isN (pv 7) pe_non (nomark _)) (nomark _)))))
  (pss_one (ps_ret pe_bl))
  pss_nil)
  (pss_cons (ps_if (PW.pt (pw_or (pt_cmpR op_ne (pe_eqSK K (E := EN) O_Sightu__equ_ hr (by decide) (fun σ => passN σ) (pe_binK K (E := EN) O_Sightu__andu_ rfl hr (by decide) (fun σ => passN σ) (pv 4) (pv 6)) (pv 6)) (pe_cmpR op_isN (pv 8) pe_non (nomark _)) (nomark _)) (pw_or1 (pt_cmpR op_ne (pe_eqSK K (E := EN) O_Sightu__equ_ hr (by decide) (fun σ => passN σ) (pe_binK K (E := EN) O_Sightu__oru_ rfl hr (by decide) (fun σ => passN σ) (pv 4) (pv 6)) (pv 4)) (pe_cmpR op_isN (pv 8) pe_non (nomark _)) (nomark _)))))
  (pss_one (ps_ret pe_bl))
  pss_nil)
  (pss_cons (ps_for PassesOwn.never rfl (pi_list (pe_lst (pa_cons (pv 4) (pa_cons (pe_binK K (E := EN) O_Sightu__oru_ rfl hr (by decide) (fun σ => passN σ) (pv 4) (pv 6)) (pa_cons (pe_binK K (E := EN) O_Sightu__oru_ rfl hr (by decide) (fun σ => passN σ) (pv 6) (pv 4)) (pa_cons (ClX.pe_cmeth (pe_glob (v := .ref (He.ga K "Sight")) rfl T.g_Sight rfl) T.r_Sight T.cm_nothing F1 (hr.mono (by decide)) passF (pa_cons (pv 2) pa_nil)) pa_nil)))))) (pg_name (i := 9) sc_law_parta.nd rfl (by first | exact Or.inl rfl | exact Or.inr rfl))
  (pss_one (ps_if (pt_not (pt_val (pe_c (E := EN) O__law_asks hr (by decide) (fun σ => passN σ) (pa_cons (pv 4) (pa_cons (pv 9) (pa_cons pe_non pa_nil))))))
    (pss_one (ps_ret pe_bl))
    pss_nil)))
  (pss_cons (ps_for PassesOwn.never rfl (pi_list (pe_lst (pa_cons (pv 6) (pa_cons (pe_binK K (E := EN) O_Sightu__andu_ rfl hr (by decide) (fun σ => passN σ) (pv 4) (pv 6)) (pa_cons (pe_binK K (E := EN) O_Sightu__andu_ rfl hr (by decide) (fun σ => passN σ) (pv 6) (pv 4)) (pa_cons (ClX.pe_cmeth (pe_glob (v := .ref (He.ga K "Sight")) rfl T.g_Sight rfl) T.r_Sight T.cm_everything F2 (hr.mono (by decide)) passF (pa_cons (pv 2) pa_nil)) pa_nil)))))) (pg_name (i := 9) sc_law_parta.nd rfl (by first | exact Or.inl rfl | exact Or.inr rfl))
  (pss_one (ps_if (pt_not (pt_val (pe_c (E := EN) O__law_asks hr (by decide) (fun σ => passN σ) (pa_cons (pv 9) (pa_cons (pv 6) (pa_cons pe_non pa_nil))))))
    (pss_one (ps_ret pe_bl))
    pss_nil)))
  (pss_cons (ps_set (i := 10) sc_law_parta.nd rfl (by first | exact Or.inl rfl | exact Or.inr rfl) (pe_nK K (E := EN) O_Sightu__initu_ hr (by decide) (fun σ => passN σ) (pa_cons (pe_op op_cat (pe_ix (ixL K) (pv 1) pe_int (fun _ _ => rfl)) (pe_lst (pa_cons (pe_ix (ixL K) (pe_ix (ixL K) (pv 1) pe_int (fun _ _ => rfl)) pe_int (fun _ _ => rfl)) pa_nil))) pa_nil)))
  (pss_cons (ps_if (PW.pt (pw_or (pt_not (pt_val (pe_c (E := EN) O__law_differs hr (by decide) (fun σ => passN σ) (pa_cons (pv 4) (pa_cons (pv 10) (pa_cons (pv 2) (pa_cons (pe_op op_add (pv 2) pe_int) pa_nil))))))) (pw_or1 (pt_not (pt_val (pe_c (E := EN) O__law_differs hr (by decide) (fun σ => passN σ) (pa_cons (pv 10) (pa_cons (pv 6) (pa_cons (pe_op op_add (pv 2) pe_int) (pa_cons (pv 2) pa_nil))))))))))
  (pss_one (ps_ret pe_bl))
  pss_nil)
  (pss_one (ps_ret (pe_and (pe_c (E := EN) O__law_asks hr (by decide) (fun σ => passN σ) (pa_cons (pv 4) (pa_cons (pv 6) (pa_cons (pv 7) pa_nil)))) (pe_one (pe_c (E := EN) O__law_asks hr (by decide) (fun σ => passN σ) (pa_cons (pv 6) (pa_cons (pv 4) (pa_cons (pv 8) pa_nil)))))))))))))))))))))), ?_⟩
  refine ⟨_, rfl, a, ns, rfl, ha, fun H3 R a1 b1 A B s03 nR hR3 hA3 hB3 hlen hpos hle => ?_⟩
  refine ⟨_, rfl, R, _, _, .ref a1, rfl, rfl, .inl (.inl hR3), atI_nat (j := 0) rfl, a1, _, rfl, .inl (.inl (.inl hA3)), ?_⟩
  rw [nV_len, ← ren_len A]
  refine ⟨_, rfl, a, ns, 5, rfl, Same.seq s03 ha, fun low => ?_⟩
  have rf := row_ren A
  have rg := row_ren B
  have lf : (ren A).length = A.length := ren_len A
  have lg : (ren B).length = A.length := by rw [ren_len, hlen]
  -- one
  refine ⟨_, rfl, R, _, _, .ref a1, rfl, rfl, .inl (.inl hR3), atI_nat (j := 0) rfl, a1, rfl, ⟨_, .inl (.inl hA3)⟩, fun D nD => ?_⟩
  refine lc_it (walk_list (K := K) (a := a1) (xs := nV A)) (fun i H4 => H4 D = some (.lst (((A.take i).map fun x => low - ((x : Nat) : Int)).map V.int)) ∧ Same H3 H4) ⟨upd_same .., same_new nD⟩ (fun i H4 _ h => .inl (.inl (h.2 _ _ hA3))) ?_ ?_
  · rintro i x0 H4 H5 hi ⟨q1, q2⟩ ⟨rfl, hx⟩
    obtain ⟨x, hx2, rfl⟩ := of_nV hx
    rw [nV_len] at hi
    refine ⟨rfl, _, rfl, _, rfl, _, _, rfl, rfl, _, q1, by rw [List.length_map, List.length_map, List.length_take]; omega, ?_, same_put nD q2⟩
    rw [upd_same, iV_snoc, take_map hx2]
  rintro H4 ⟨q1, q2⟩
  rw [nV_len, List.take_length] at q1
  have hm1 : MarksAt K H4 D (ren A) := ⟨_, by rw [List.length_map, List.length_map]; omega, .inl ⟨_, rfl, (ren_map (f := fun x : Nat => low - ((x : Nat) : Int)) fun x y z => by omega).symm, .inl (.inl (.inl q1))⟩⟩
  refine make_fin hm1 (fun _ H5 p1 s5 np1 h1 => ?_) (fun e => absurd e (by omega))
  -- two
  have s35 := same2 q2 s5
  have hR5 := s35 _ _ hR3
  have hB5 := s35 _ _ hB3
  refine ⟨_, rfl, R, _, _, .ref b1, rfl, rfl, .inl (.inl hR5), atI_nat (j := 1) rfl, b1, rfl, ⟨_, .inl (.inl hB5)⟩, fun D2 nD2 => ?_⟩
  refine lc_it (walk_list (K := K) (a := b1) (xs := nV B)) (fun i H6 => H6 D2 = some (.lst (((B.take i).map fun x => low + 2 * ((x : Nat) : Int)).map V.int)) ∧ Same H5 H6) ⟨upd_same .., same_new nD2⟩ (fun i H6 _ h => .inl (.inl (h.2 _ _ hB5))) ?_ ?_
  · rintro i x0 H6 H7 hi ⟨q3, q4⟩ ⟨rfl, hx⟩
    obtain ⟨x, hx2, rfl⟩ := of_nV hx
    rw [nV_len] at hi
    refine ⟨rfl, _, rfl, _, rfl, _, _, rfl, rfl, .inl ⟨by decide, by decide⟩, _, _, rfl, rfl, _, q3, by rw [List.length_map, List.length_map, List.length_take]; omega, ?_, same_put nD2 q4⟩
    rw [upd_same, iV_snoc, take_map hx2]
  rintro H6 ⟨q3, q4⟩
  rw [nV_len, List.take_length] at q3
  refine ⟨D2, _, rfl, .inl ⟨.inl (.inl q3), fun tp ntp => ?_⟩⟩
  have stp := same_new (o := .tup ((B.map fun x => low + 2 * ((x : Nat) : Int)).map V.int)) ntp
  have hm2 : MarksAt K (upd H6 tp (.tup ((B.map fun x => low + 2 * ((x : Nat) : Int)).map V.int))) tp (ren B) := ⟨_, by rw [List.length_map, List.length_map]; omega, .inl ⟨_, rfl, (ren_map (f := fun x : Nat => low + 2 * ((x : Nat) : Int)) fun x y z => by omega).symm, .inr (.inl (.inl (upd_same ..)))⟩⟩
  refine make_fin hm2 (fun _ H7 p2 s7' np2 h2 => ?_) (fun e => absurd e (by omega))
  have s57 : Same H5 H7 := same2 q4 (same2 stp s7')
  have s37 := same2 s35 s57
  -- due, back
  refine ⟨_, rfl, R, _, _, .ref a1, rfl, rfl, .inl (.inl (s37 _ _ hR3)), atI_nat (j := 0) rfl, _, rfl, R, _, _, .ref b1, rfl, rfl, .inl (.inl (s37 _ _ hR3)), atI_nat (j := 1) rfl, ?_⟩
  refine ⟨a1, b1, A, B, rfl, .inl (.inl (s37 _ _ hA3)), .inl (.inl (s37 _ _ hB3)), hlen, by omega, fun H8 r v s78 hF hv => ?_⟩
  have s38 := same2 s37 s78
  refine ⟨_, rfl, R, _, _, .ref b1, rfl, rfl, .inl (.inl (s38 _ _ hR3)), atI_nat (j := 1) rfl, _, rfl, R, _, _, .ref a1, rfl, rfl, .inl (.inl (s38 _ _ hR3)), atI_nat (j := 0) rfl, ?_⟩
  refine ⟨b1, a1, B, A, rfl, .inl (.inl (s38 _ _ hB3)), .inl (.inl (s38 _ _ hA3)), hlen.symm, by omega, fun H9 r' v' s89 hG hv' => ?_⟩
  have s39 := same2 s38 s89
  have hF := (fst_alike (alike_ren A) (alike_ren B) hlen).mp hF
  have hG := (fst_alike (alike_ren B) (alike_ren A) hlen.symm).mp hG
  have C : A1 K H9 a ns R a1 b1 A B p1 p2 (ren A) (ren B) r v r' v' := ⟨Same.seq (same2 s03 s39) ha, s39 _ _ hR3, s39 _ _ hA3, s39 _ _ hB3, SightAt.same (same2 s57 (same2 s78 s89)) h1, SightAt.same (same2 s78 s89) h2, hv.same s89, hv'⟩
  clear h1 h2 hm1 hm2
  have lpos : 0 < (ren A).length := by omega
  have lle : (ren A).length ≤ 300 := by omega
  generalize ren A = f at rf lf C hF hG lpos lle
  generalize ren B = g at rg lg C hF hG
  have lfg : f.length = g.length := by omega
  -- asked
  refine ⟨_, rfl, _, rfl, _, rfl, p1, p2, v, f, g, r, rfl, C.one, C.two, lfg, hF, C.due, fun HA sA => ⟨true, rfl, ?_⟩⟩
  refine iteF ?_
  have C := C.same sA
  refine ⟨_, rfl, _, rfl, _, rfl, p2, p1, v', g, f, r', rfl, C.two, C.one, lfg.symm, hG, C.back, fun HB sB => ⟨true, rfl, ?_⟩⟩
  refine iteF ?_
  have C := C.same sB
  obtain ⟨dx, fs, ex⟩ := SightAt.ins C.one
  obtain ⟨dy, gs, ey⟩ := SightAt.ins C.two
  refine ⟨_, rfl, _, rfl, p1, p2, dx, dy, fs, gs, rfl, rfl, ex, ey, p1, p2, _, _, rfl, C.one, C.two, fun _ => ⟨by omega, fun HX x sx hx => ?_⟩, fun e => absurd lfg e⟩
  have C := C.same sx
  obtain ⟨dz, hs, ez⟩ := SightAt.ins hx
  obtain ⟨dx, fs, ex⟩ := SightAt.ins C.one
  refine ⟨_, rfl, x, dz, hs, _, rfl, ez, .base (.ins ex T.c_Sight T.cl_Sight.ca T.cl_Sight.cg T.cl_Sight.ct T.cl_Sight.ob), T.nf_Sight, x, _, .ref p1, rfl, hx, .inl ⟨p1, _, rfl, C.one, ?_⟩⟩
  refine ⟨_, rfl, rfl, rfl, _, rfl, ?_⟩
  rw [tell_and rf lfg hF, pv_none C.due]
  have z : (!decide (V.bl (decide (r = none)) = V.bl (decide (r = none)))) = false := by simp
  rw [z]
  refine iteF ?_
  obtain ⟨dx, fs, ex⟩ := SightAt.ins C.one
  obtain ⟨dy, gs, ey⟩ := SightAt.ins C.two
  refine ⟨_, rfl, _, rfl, p1, p2, dx, dy, fs, gs, rfl, rfl, ex, ey, p1, p2, _, _, rfl, C.one, C.two, fun _ HX x ux sx nx hx jx => ?_, fun e => absurd lfg e⟩
  have C := C.same sx
  obtain ⟨dz, hs, ez⟩ := SightAt.ins hx
  obtain ⟨dx, fs, ex⟩ := SightAt.ins C.two
  refine ⟨_, rfl, x, dz, hs, _, rfl, ez, .base (.ins ex T.c_Sight T.cl_Sight.ca T.cl_Sight.cg T.cl_Sight.ct T.cl_Sight.ob), T.nf_Sight, x, _, .ref p2, rfl, hx, .inl ⟨p2, _, rfl, C.two, ?_⟩⟩
  refine ⟨_, rfl, rfl, rfl, _, rfl, ?_⟩
  rw [tell_or rg hx.row lfg jx hF, pv_none C.due]
  have z : (!decide (V.bl (decide (r = none)) = V.bl (decide (r = none)))) = false := by simp
  rw [z]
  refine iteF ?_
  obtain ⟨dx, fs, ex⟩ := SightAt.ins C.one
  obtain ⟨dy, gs, ey⟩ := SightAt.ins C.two
  refine ⟨_, rfl, _, rfl, p1, p2, dx, dy, fs, gs, rfl, rfl, ex, ey, p1, p2, _, _, rfl, C.one, C.two, fun _ => ⟨by omega, fun HX x sx hx => ?_⟩, fun e => absurd lfg e⟩
  have C := C.same sx
  obtain ⟨dz, hs, ez⟩ := SightAt.ins hx
  obtain ⟨dx, fs, ex⟩ := SightAt.ins C.two
  refine ⟨_, rfl, x, dz, hs, _, rfl, ez, .base (.ins ex T.c_Sight T.cl_Sight.ca T.cl_Sight.cg T.cl_Sight.ct T.cl_Sight.ob), T.nf_Sight, x, _, .ref p2, rfl, hx, .inl ⟨p2, _, rfl, C.two, ?_⟩⟩
  refine ⟨_, rfl, rfl, rfl, _, rfl, ?_⟩
  rw [← ren_zip_swap f g, tell_and rg lfg.symm hG, pv_none C.back]
  have z : (!decide (V.bl (decide (r' = none)) = V.bl (decide (r' = none)))) = false := by simp
  rw [z]
  refine iteF ?_
  obtain ⟨dx, fs, ex⟩ := SightAt.ins C.one
  obtain ⟨dy, gs, ey⟩ := SightAt.ins C.two
  refine ⟨_, rfl, _, rfl, p1, p2, dx, dy, fs, gs, rfl, rfl, ex, ey, p1, p2, _, _, rfl, C.one, C.two, fun _ HX x ux sx nx hx jx => ?_, fun e => absurd lfg e⟩
  have C := C.same sx
  obtain ⟨dz, hs, ez⟩ := SightAt.ins hx
  obtain ⟨dx, fs, ex⟩ := SightAt.ins C.one
  refine ⟨_, rfl, x, dz, hs, _, rfl, ez, .base (.ins ex T.c_Sight T.cl_Sight.ca T.cl_Sight.cg T.cl_Sight.ct T.cl_Sight.ob), T.nf_Sight, x, _, .ref p1, rfl, hx, .inl ⟨p1, _, rfl, C.one, ?_⟩⟩
  refine ⟨_, rfl, rfl, rfl, _, rfl, ?_⟩
  rw [tell_or rf hx.row lfg.symm (jx.swap lfg) hG, pv_none C.back]
  have z : (!decide (V.bl (decide (r' = none)) = V.bl (decide (r' = none)))) = false := by simp
  rw [z]
  refine iteF ?_
  obtain ⟨dx, fs, ex⟩ := SightAt.ins C.one
  obtain ⟨dy, gs, ey⟩ := SightAt.ins C.two
  refine ⟨_, rfl, _, rfl, _, rfl, p1, p2, dx, dy, fs, gs, rfl, rfl, ex, ey, p1, p2, _, _, rfl, C.one, C.two, fun _ HX x xu sx nx hx jx => ?_, fun e => absurd lfg e⟩
  have C := C.same sx
  obtain ⟨dx, fs, ex⟩ := SightAt.ins C.one
  obtain ⟨dy, gs, ey⟩ := SightAt.ins C.two
  refine ⟨_, rfl, _, rfl, p2, p1, dy, dx, gs, fs, rfl, rfl, ey, ex, p2, p1, _, _, rfl, C.two, C.one, fun _ HY y yu sy ny hy jy => ?_, fun e => absurd lfg.symm e⟩
  have C := C.same sy
  refine ⟨rfl, _, rfl, f.length, rfl, lpos, by omega, fun HZ zz sz nz' hz => ?_⟩
  have C := C.same sz
  refine ⟨by show 4 ≤ sizeLine; decide, fun L nL => ?_⟩
  have sL := same_new (o := .lst [.ref p1, .ref x, .ref y, .ref zz]) nL
  have hL : upd HZ L (.lst [.ref p1, .ref x, .ref y, .ref zz]) L = some (.lst [.ref p1, .ref x, .ref y, .ref zz]) := upd_same ..
  have C := C.same sL
  have hx := SightAt.same (same2 sy (same2 sz sL)) hx
  have hy := SightAt.same (same2 sz sL) hy
  have hz := SightAt.same sL hz
  generalize upd HZ L (.lst [.ref p1, .ref x, .ref y, .ref zz]) = HL at C hL hx hy hz
  have each : ∀ e ∈ [V.ref p1, .ref x, .ref y, .ref zz], ∃ q u, e = .ref q ∧ SightAt K HL q u ∧ f.length = u.length ∧ Fst f u none := fun e he => by
    simp only [List.mem_cons, List.not_mem_nil, or_false] at he
    rcases he with rfl | rfl | rfl | rfl
    · exact ⟨_, _, rfl, C.one, rfl, tell_self f⟩
    · exact ⟨_, _, rfl, hx, jx.1.symm, tell_joins jx⟩
    · exact ⟨_, _, rfl, hy, (jy.1.trans lfg.symm).symm, tell_joins (jy.swap lfg.symm)⟩
    · exact ⟨_, _, rfl, hz, by rw [ren_len, List.length_replicate], tell_nothing rfl⟩
  generalize [V.ref p1, .ref x, .ref y, .ref zz] = xs at hL each
  refine ⟨L, rfl, ⟨_, .inl (.inl hL)⟩, for_list (xs := xs) (fun i σ HS => ∃ m9, σ = [some (.ref a), some (.ref R), some (.int (f.length : Nat)), some (.int low), some (.ref p1), none, some (.ref p2), some v, some v', m9, none] ∧ Same HL HS) ?_ ?_ ?_ ?_⟩
  · exact ⟨none, rfl, fun b o q => q⟩
  · rintro i σ HS _ ⟨_, _, q⟩
    exact .inl (.inl (q _ _ hL))
  · rintro i x σ HS hx ⟨m9, rfl, q⟩
    obtain ⟨q1, u, rfl, hu, eu, hF1⟩ := each x (List.mem_of_getElem? hx)
    refine ⟨_, rfl, _, rfl, p1, q1, .non, f, u, none, rfl, C.one.same q, hu.same q, eu, hF1, rfl, fun HT st => ⟨true, rfl, ?_⟩⟩
    exact iteF ⟨_, rfl, same2 q st⟩
  rintro σ HS ⟨m91, rfl, q⟩
  have C := C.same q
  clear each hL hx hy hz
  obtain ⟨dx, fs, ex⟩ := SightAt.ins C.one
  obtain ⟨dy, gs, ey⟩ := SightAt.ins C.two
  refine ⟨_, rfl, _, rfl, _, rfl, p1, p2, dx, dy, fs, gs, rfl, rfl, ex, ey, p1, p2, _, _, rfl, C.one, C.two, fun _ => ⟨by omega, fun HX x sx hx => ?_⟩, fun e => absurd lfg e⟩
  have C := C.same sx
  obtain ⟨dx, fs, ex⟩ := SightAt.ins C.one
  obtain ⟨dy, gs, ey⟩ := SightAt.ins C.two
  refine ⟨_, rfl, _, rfl, p2, p1, dy, dx, gs, fs, rfl, rfl, ey, ex, p2, p1, _, _, rfl, C.two, C.one, fun _ => ⟨by omega, fun HY y sy hy => ?_⟩, fun e => absurd lfg.symm e⟩
  have C := C.same sy
  refine ⟨rfl, _, rfl, f.length, rfl, lpos, by omega, fun HZ zz sz nz' hz => ?_⟩
  have C := C.same sz
  refine ⟨by show 4 ≤ sizeLine; decide, fun L nL => ?_⟩
  have sL := same_new (o := .lst [.ref p2, .ref x, .ref y, .ref zz]) nL
  have hL : upd HZ L (.lst [.ref p2, .ref x, .ref y, .ref zz]) L = some (.lst [.ref p2, .ref x, .ref y, .ref zz]) := upd_same ..
  have C := C.same sL
  have hx := SightAt.same (same2 sy (same2 sz sL)) hx
  have hy := SightAt.same (same2 sz sL) hy
  have hz := SightAt.same sL hz
  generalize upd HZ L (.lst [.ref p2, .ref x, .ref y, .ref zz]) = HL at C hL hx hy hz
  have each : ∀ e ∈ [V.ref p2, .ref x, .ref y, .ref zz], ∃ q u, e = .ref q ∧ SightAt K HL q u ∧ f.length = u.length ∧ Fst u g none := fun e he => by
    simp only [List.mem_cons, List.not_mem_nil, or_false] at he
    rcases he with rfl | rfl | rfl | rfl
    · exact ⟨_, _, rfl, C.two, lfg, tell_self g⟩
    · exact ⟨_, _, rfl, hx, by rw [ren_len, List.length_zip]; omega, tell_pool lfg⟩
    · exact ⟨_, _, rfl, hy, by rw [ren_len, List.length_zip]; omega, by rw [ren_zip_swap]; exact tell_pool lfg⟩
    · exact ⟨_, _, rfl, hz, by rw [ren_len, List.length_map, List.length_range], tell_every lfg⟩
  generalize [V.ref p2, .ref x, .ref y, .ref zz] = xs at hL each
  refine ⟨L, rfl, ⟨_, .inl (.inl hL)⟩, for_list (xs := xs) (fun i σ HS => ∃ m9, σ = [some (.ref a), some (.ref R), some (.int (f.length : Nat)), some (.int low), some (.ref p1), none, some (.ref p2), some v, some v', m9, none] ∧ Same HL HS) ?_ ?_ ?_ ?_⟩
  · exact ⟨m91, rfl, fun b o q => q⟩
  · rintro i σ HS _ ⟨_, _, q⟩
    exact .inl (.inl (q _ _ hL))
  · rintro i x σ HS hx ⟨m9, rfl, q⟩
    obtain ⟨q1, u, rfl, hu, eu, hF1⟩ := each x (List.mem_of_getElem? hx)
    refine ⟨_, rfl, _, rfl, q1, p2, .non, u, g, none, rfl, hu.same q, C.two.same q, by omega, hF1, rfl, fun HT st => ⟨true, rfl, ?_⟩⟩
    exact iteF ⟨_, rfl, same2 q st⟩
  rintro σ HS2 ⟨m92, rfl, q⟩
  have C := C.same q
  clear each hL hx hy hz
  -- longer
  refine ⟨_, rfl, R, _, _, .ref a1, rfl, rfl, .inl (.inl C.hR), atI_nat (j := 0) rfl, _, rfl, R, _, _, .ref a1, rfl, rfl, .inl (.inl C.hR), atI_nat (j := 0) rfl, a1, _, _, .int (at0 A 0 : Nat), rfl, rfl, .inl (.inl C.hA), atI_nat (j := 0) (nV_at0 hpos), by show 1 ≤ sizeLine; decide, fun l nl => ?_⟩
  have sl := same_new (o := .lst [.int (at0 A 0 : Nat)]) nl
  refine ⟨a1, l, _, _, rfl, rfl, sl _ _ C.hA, upd_same .., by rw [nV_len]; show A.length + 1 ≤ sizeLine; omega, fun Lg nLg => ?_⟩
  rw [nV_snoc]
  have sLg := same_new (o := .lst (nV (A ++ [at0 A 0]))) nLg
  have C := C.same (same2 sl sLg)
  have hLg : upd (upd HS2 l (.lst [.int (at0 A 0 : Nat)])) Lg (.lst (nV (A ++ [at0 A 0]))) Lg = some (.lst (nV (A ++ [at0 A 0]))) := upd_same ..
  generalize upd (upd HS2 l (.lst [.int (at0 A 0 : Nat)])) Lg (.lst (nV (A ++ [at0 A 0]))) = HG at C hLg
  have ell : (A ++ [at0 A 0]).length = f.length + 1 := by rw [List.length_append, List.length_singleton]; omega
  generalize A ++ [at0 A 0] = long at hLg ell
  have hm3 : MarksAt K HG Lg (ren long) := ⟨_, by rw [nV_len]; omega, .inl ⟨_, nV_int long, (ren_map ci).symm, .inl (.inl (.inl hLg))⟩⟩
  refine make_fin hm3 (fun _ HW p3 sW np3 h3 => ?_) (fun e => absurd e (by rw [ren_len]; omega))
  have C := C.same sW
  have el3 : ((f.length : Nat) : Int) + 1 = ((ren long).length : Nat) := by rw [ren_len, ell]; rfl
  refine ⟨_, rfl, _, rfl, _, rfl, _, rfl, _, _, rfl, rfl, ?_⟩
  dsimp only
  rw [el3]
  refine ⟨p1, p3, f, ren long, rfl, C.one, h3, by rw [ren_len]; omega, fun HX sx => ⟨true, rfl, ?_⟩⟩
  refine iteF ?_
  have C := C.same sx
  have h3 := SightAt.same sx h3
  refine ⟨_, rfl, _, rfl, _, rfl, _, _, rfl, rfl, _, rfl, ?_⟩
  dsimp only
  rw [el3, show ((f.length : Nat) : Int) = ((g.length : Nat) : Int) from by rw [lfg]]
  refine ⟨p3, p2, ren long, g, rfl, h3, C.two, by rw [ren_len]; omega, fun HX sx => ⟨true, rfl, ?_⟩⟩
  refine iteF ?_
  have C := C.same sx
  -- once more
  refine ⟨_, rfl, _, rfl, _, rfl, p1, p2, v, f, g, r, rfl, C.one, C.two, lfg, hF, C.due, fun HA sA => ⟨true, rfl, ?_⟩⟩
  refine iteT ?_
  have C := C.same sA
  refine ⟨_, rfl, _, rfl, _, rfl, p2, p1, v', g, f, r', rfl, C.two, C.one, lfg.symm, hG, C.back, fun HB sB => ?_⟩
  have C := C.same sB
  exact hQ _ C.sc

end
end K01
set_option Elab.async false
set_option linter.all false
set_option maxRecDepth 100000
set_option maxHeartbeats 4000000
namespace K01
open PySem PySem.Spec PyProof.Rows L2 Ms
def RowsAt (H : Hp) (R : Addr) (ms : List Nat) : Prop := ∃ (ls : List Addr) (rs : List (List Nat)), H R = some (.lst (ls.map V.ref)) ∧ Paired (fun l r => l ≠ R ∧ H l = some (.lst (nV r))) ls rs ∧ rs.map List.length = ms
theorem RowsAt.put {H1 H2 : Hp} {R l : Addr} {ms : List Nat} {r : List Nat} (h : RowsAt H1 R ms) (s : Same H1 H2) (nl : H1 l = none) (hl : H2 l = some (.lst (nV r))) : ∃ xs, H2 R = some (.lst xs) ∧ xs.length = ms.length ∧ RowsAt (upd H2 R (.lst (xs ++ [.ref l]))) R (ms ++ [r.length]) := by
  obtain ⟨ls, rs, h1, h2, h3⟩ := h
  have lR : l ≠ R := fun e => by rw [e, h1] at nl; cases nl
  refine ⟨_, s _ _ h1, by rw [List.length_map, Paired.length h2, ← h3, List.length_map], ls ++ [l], rs ++ [r], by rw [upd_same, List.map_append] <;> rfl, psnoc (pimp (fun t c _ q => ⟨q.1, by rw [upd_ne q.1]; exact s _ _ q.2⟩) h2) ⟨lR, by rw [upd_ne lR]; exact hl⟩, by rw [List.map_append, h3] <;> rfl⟩
def spDrawX (K : PySem.W.Frag) : Sp := fun vs H Q _ => ∃ (a : Addr) (ns : List Int), vs = [.ref a] ∧ SqL K H a (ns.map V.int) ∧ ∀ H' p a' b' one two, Same H H' → H p = none → H' p = some (.lst [.ref a', .ref b']) → H' a' = some (.lst (nV one)) → H' b' = some (.lst (nV two)) →
  0 < one.length → 0 < two.length → one.length * two.length ≤ 2000 → Q (.ref p) H'
theorem sizes_ok (m n : Nat) (h1 : 0 < m) (h2 : 0 < n) (h3 : m ≤ 40) (h4 : n ≤ 40) : 0 < m ∧ 0 < n ∧ m * n ≤ 2000 :=
  ⟨h1, h2, Nat.le_trans (Nat.mul_le_mul h3 h4) (by decide)⟩
theorem mul_le {m n : Nat} (h1 : 0 < m) (h2 : 0 < n) (h : m * n ≤ 2000) : m ≤ 2000 ∧ n ≤ 2000 :=
  ⟨Nat.le_trans (Nat.le_mul_of_pos_right m h2) h, Nat.le_trans (Nat.le_mul_of_pos_left n h1) h⟩
section
variable {P : Program} {w : World} {K : PySem.W.Frag} {mg : Str → Option Value} {base : Heap}
theorem ok__law_draw_x (T : Tx K mg) : Ok P w K mg base "_law_draw_x" 2 (spDrawX K) := by
  have O__law_digits : Ok P w K mg base "_law_digits" 1 (spDigits K) := ok__law_digits T
  have O__law_cell : Ok P w K mg base "_law_cell" 1 (spCellL K) := ok__law_cell T
  refine ok_of T.a__law_draw_x sc_law_draw_x (fun vs H Q E h => ?_) bi__law_draw_x fun cdv A outer s H vs Q E hr h => ?_
  · obtain ⟨a, ns, rfl, _⟩ := h
    rfl
  obtain ⟨a, ns, rfl, ha, hQ⟩ := h
  have big : (16777216 : Nat) ≤ sizeLine := by decide
  refine ⟨_, (pss_cons (ps_set (i := 1) sc_law_draw_x.nd rfl (by first | exact Or.inl rfl | exact Or.inr rfl) (pe_c (E := EN) O__law_digits hr (by decide) (fun σ => passN σ) (pa_cons (pe_c (E := EN) O__law_cell hr (by decide) (fun σ => passN σ) (pa_cons (pv 0) (pa_cons pe_int pa_nil))) (pa_cons (pe_lst (pa_cons pe_int (pa_cons pe_int (pa_cons pe_int (pa_cons pe_int (pa_cons pe_int (pa_cons pe_int (pa_cons pe_int (pa_cons pe_int pa_nil))))))))) pa_nil))))
  (pss_cons (ps_set (i := 2) sc_law_draw_x.nd rfl (by first | exact Or.inl rfl | exact Or.inr rfl) (pe_lst (pa_cons (pe_ix (ixL K) (pe_lst (pa_cons pe_int (pa_cons pe_int (pa_cons pe_int (pa_cons pe_int (pa_cons pe_int (pa_cons pe_int (pa_cons pe_int (pa_cons pe_int (pa_cons pe_int (pa_cons pe_int (pa_cons pe_int (pa_cons pe_int pa_nil))))))))))))) (pe_ix (ixL K) (pv 1) pe_int (fun _ _ => rfl)) (fun _ _ => rfl)) (pa_cons (pe_ix (ixL K) (pe_lst (pa_cons pe_int (pa_cons pe_int (pa_cons pe_int (pa_cons pe_int (pa_cons pe_int (pa_cons pe_int (pa_cons pe_int (pa_cons pe_int (pa_cons pe_int (pa_cons pe_int (pa_cons pe_int (pa_cons pe_int pa_nil))))))))))))) (pe_ix (ixL K) (pv 1) pe_int (fun _ _ => rfl)) (fun _ _ => rfl)) pa_nil))))
  (pss_cons (ps_if (pt_cmpR op_eq (pe_ix (ixL K) (pv 1) pe_int (fun _ _ => rfl)) pe_int (nomark _))
  (pss_one (ps_asg (pe_op op_add pe_int (pe_ix (ixL K) (pv 1) pe_int (fun _ _ => rfl))) (pg_sub (pv 2) pe_int set_list)))
  pss_nil)
  (pss_cons (ps_if (pt_cmpR op_eq (pe_ix (ixL K) (pv 1) pe_int (fun _ _ => rfl)) pe_int (nomark _))
  (pss_one (ps_asg (pe_op op_add pe_int (pe_ix (ixL K) (pv 1) pe_int (fun _ _ => rfl))) (pg_sub (pv 2) pe_int set_list)))
  pss_nil)
  (pss_cons (ps_if (PW.pt (pw_and (pt_cmpR op_eq (pe_ix (ixL K) (pv 1) pe_int (fun _ _ => rfl)) pe_int (nomark _)) (pw_and1 (pt_cmpR op_eq (pe_ix (ixL K) (pv 1) pe_int (fun _ _ => rfl)) pe_int (nomark _)))))
  (pss_one (ps_set (i := 2) sc_law_draw_x.nd rfl (by first | exact Or.inl rfl | exact Or.inr rfl) (pe_ix (ixL K) (pe_lst (pa_cons (pe_lst (pa_cons pe_int (pa_cons pe_int pa_nil))) (pa_cons (pe_lst (pa_cons pe_int (pa_cons pe_int pa_nil))) (pa_cons (pe_lst (pa_cons pe_int (pa_cons pe_int pa_nil))) (pa_cons (pe_lst (pa_cons pe_int (pa_cons pe_int pa_nil))) pa_nil))))) (pe_op op_modN (pe_callTy call_int1 (by rfl) T.f_int (by decide +kernel) (pa_cons (pe_ix (ixL K) (pv 1) pe_int (fun _ _ => rfl)) pa_nil)) pe_int) (fun _ _ => rfl))))
  pss_nil)
  (pss_cons (ps_set (i := 3) sc_law_draw_x.nd rfl (by first | exact Or.inl rfl | exact Or.inr rfl) (pe_lst pa_nil))
  (pss_cons (ps_for PassesOwn.never rfl (pi_range1 rfl T.f_range (pa_cons pe_int pa_nil)) (pg_name (i := 4) sc_law_draw_x.nd rfl (by first | exact Or.inl rfl | exact Or.inr rfl))
  (pss_cons (ps_set (i := 5) sc_law_draw_x.nd rfl (by first | exact Or.inl rfl | exact Or.inr rfl) (pe_ix (ixL K) (pe_lst (pa_cons pe_int (pa_cons pe_int (pa_cons (pe_ix (ixL K) (pv 2) (pv 4) (fun _ _ => rfl)) (pa_cons (pe_op op_add (pe_op op_fdivN (pe_ix (ixL K) (pv 2) (pv 4) (fun _ _ => rfl)) pe_int) pe_int) (pa_cons pe_int (pa_cons (pe_ix (ixL K) (pv 2) (pv 4) (fun _ _ => rfl)) pa_nil))))))) (pe_ix (ixL K) (pv 1) (pe_op op_add pe_int (pv 4)) (fun _ _ => rfl)) (fun _ _ => rfl)))
    (pss_one (ps_expr (pe_bm PySem.F.plainAttrs_list PySem.F.slot_list_append PySem.F.type_list_append mt_append (pv 3) (pa_cons (pe_c (E := EN) O__law_digits hr (by decide) (fun σ => passN σ) (pa_cons (pe_c (E := EN) O__law_cell hr (by decide) (fun σ => passN σ) (pa_cons (pv 0) (pa_cons (pe_op op_add pe_int (pv 4)) pa_nil))) (pa_cons (pe_op op_rep (pe_lst (pa_cons (pv 5) pa_nil)) (pe_ix (ixL K) (pv 2) (pv 4) (fun _ _ => rfl))) pa_nil))) pa_nil))))))
  (pss_one (ps_ret (pv 3)))))))))), ?_⟩
  refine ⟨_, rfl, a, ns, 0, rfl, ha, fun c0 => ?_⟩
  refine ⟨by show 8 ≤ sizeLine; decide, fun l0 nl0 => ?_⟩
  have s0 := same_new (o := .lst [.int 8, .int 8, .int 12, .int 28, .int 12, .int 28, .int 6, .int 6]) nl0
  refine ⟨c0, l0, [8, 8, 12, 28, 12, 28, 6, 6], rfl, .inl (.inl (upd_same ..)), by decide, by decide, fun H1 p ds s1 np hp1 hlen hlt => ?_⟩
  have sH1 := same2 s0 s1
  have np0 : H p = none := s0.free np
  have dlt : ∀ i, i < 8 → i < ds.length := fun i hi => by rw [hlen]; exact hi
  have rd : ∀ i, i < 8 → ∀ {H' : Hp}, Same H1 H' → SqL K H' p (nV ds) ∧ atI (nV ds) ((i : Nat) : Int) = some (.int (at0 ds i : Nat)) := fun i hi H' s => ⟨.inl (.inl (s _ _ hp1)), atI_nat (nV_at0 (dlt i hi))⟩
  have d3 : at0 ds 3 < 28 := hlt 3 (by decide)
  have d5 : at0 ds 5 < 28 := hlt 5 (by decide)
  have d6 : at0 ds 6 < 6 := hlt 6 (by decide)
  have d7 : at0 ds 7 < 6 := hlt 7 (by decide)
  -- sizes
  refine ⟨by show 12 ≤ sizeLine; decide, fun q2 nq2 => ?_⟩
  obtain ⟨m, km⟩ : ∃ m, ([5, 4, 6, 3, 7, 9, 2, 8, 12, 11, 10, 1] : List Nat)[at0 ds 2]? = some m := ⟨_, getE (hlt 2 (by decide))⟩
  obtain ⟨n, kn⟩ : ∃ n, ([4, 3, 5, 6, 2, 7, 8, 10, 9, 1, 12, 11] : List Nat)[at0 ds 4]? = some n := ⟨_, getE (hlt 4 (by decide))⟩
  have hm : 0 < m ∧ m ≤ 40 := by
    have q := List.mem_of_getElem? km
    simp only [List.mem_cons, List.not_mem_nil, or_false] at q
    omega
  have hn : 0 < n ∧ n ≤ 40 := by
    have q := List.mem_of_getElem? kn
    simp only [List.mem_cons, List.not_mem_nil, or_false] at q
    omega
  have e1 : ([.int 5, .int 4, .int 6, .int 3, .int 7, .int 9, .int 2, .int 8, .int 12, .int 11, .int 10, .int 1] : List V) = nV [5, 4, 6, 3, 7, 9, 2, 8, 12, 11, 10, 1] := rfl
  have e2' : ([.int 4, .int 3, .int 5, .int 6, .int 2, .int 7, .int 8, .int 10, .int 9, .int 1, .int 12, .int 11] : List V) = nV [4, 3, 5, 6, 2, 7, 8, 10, 9, 1, 12, 11] := rfl
  rw [e1]
  have sA := same_new (o := .lst (nV [5, 4, 6, 3, 7, 9, 2, 8, 12, 11, 10, 1])) nq2
  refine ⟨_, rfl, p, _, _, _, rfl, rfl, (rd 2 (by decide) sA).1, (rd 2 (by decide) sA).2, q2, _, _, _, rfl, rfl, .inl (.inl (upd_same ..)), atI_nat (nV_at km), ?_⟩
  generalize upd H1 q2 (.lst (nV [5, 4, 6, 3, 7, 9, 2, 8, 12, 11, 10, 1])) = HA at sA
  refine ⟨by show 12 ≤ sizeLine; decide, fun q3 nq3 => ?_⟩
  rw [e2']
  have sB := same2 sA (same_new (o := .lst (nV [4, 3, 5, 6, 2, 7, 8, 10, 9, 1, 12, 11])) nq3)
  refine ⟨_, rfl, p, _, _, _, rfl, rfl, (rd 4 (by decide) sB).1, (rd 4 (by decide) sB).2, q3, _, _, _, rfl, rfl, .inl (.inl (upd_same ..)), atI_nat (nV_at kn), ?_⟩
  generalize upd HA q3 (.lst (nV [4, 3, 5, 6, 2, 7, 8, 10, 9, 1, 12, 11])) = HB at sB
  refine ⟨by show 2 ≤ sizeLine; decide, fun S nS => ?_⟩
  have nS0 : H1 S = none := sB.free nS
  have e3 : ([.int (m : Nat), .int (n : Nat)] : List V) = nV [m, n] := rfl
  rw [e3]
  have sC := same2 sB (same_new (o := .lst (nV [m, n])) nS)
  have hS : upd HB S (.lst (nV [m, n])) S = some (.lst (nV [m, n])) := upd_same ..
  generalize upd HB S (.lst (nV [m, n])) = HC at sC hS
  refine ⟨_, rfl, p, _, _, _, rfl, rfl, (rd 0 (by decide) sC).1, (rd 0 (by decide) sC).2, rfl, _, rfl, ?_⟩
  refine ite2 (fun h0 => ?_) (fun h0 => ?_)
  · refine ⟨_, rfl, p, _, _, _, rfl, rfl, (rd 3 (by decide) sC).1, (rd 3 (by decide) sC).2, _, _, rfl, rfl, _, rfl, S, _, _, 0, rfl, rfl, hS, rfl, ?_⟩
    have e4 : (nV [m, n]).set 0 (.int (13 + ((at0 ds 3 : Nat) : Int))) = nV [13 + at0 ds 3, n] := rfl
    dsimp only
    rw [e4]
    have sC : Same H1 (upd HC S (.lst (nV [13 + at0 ds 3, n]))) := same_put nS0 sC
    have hS : upd HC S (.lst (nV [13 + at0 ds 3, n])) S = some (.lst (nV [13 + at0 ds 3, n])) := upd_same ..
    have hm : 0 < 13 + at0 ds 3 ∧ 13 + at0 ds 3 ≤ 40 := ⟨by omega, by omega⟩
    generalize upd HC S (.lst (nV [13 + at0 ds 3, n])) = HC at sC hS
    generalize 13 + at0 ds 3 = m at sC hS hm
    refine ⟨_, rfl, p, _, _, _, rfl, rfl, (rd 1 (by decide) sC).1, (rd 1 (by decide) sC).2, rfl, _, rfl, ?_⟩
    refine ite2 (fun h1 => ?_) (fun h1 => ?_)
    · refine ⟨_, rfl, p, _, _, _, rfl, rfl, (rd 5 (by decide) sC).1, (rd 5 (by decide) sC).2, _, _, rfl, rfl, _, rfl, S, _, _, 1, rfl, rfl, hS, rfl, ?_⟩
      have e4 : (nV [m, n]).set 1 (.int (13 + ((at0 ds 5 : Nat) : Int))) = nV [m, 13 + at0 ds 5] := rfl
      dsimp only
      rw [e4]
      have sC : Same H1 (upd HC S (.lst (nV [m, 13 + at0 ds 5]))) := same_put nS0 sC
      have hS : upd HC S (.lst (nV [m, 13 + at0 ds 5])) S = some (.lst (nV [m, 13 + at0 ds 5])) := upd_same ..
      have hn : 0 < 13 + at0 ds 5 ∧ 13 + at0 ds 5 ≤ 40 := ⟨by omega, by omega⟩
      generalize upd HC S (.lst (nV [m, 13 + at0 ds 5])) = HC at sC hS
      generalize 13 + at0 ds 5 = n at sC hS hn
      refine ⟨_, rfl, p, _, _, _, rfl, rfl, (rd 0 (by decide) sC).1, (rd 0 (by decide) sC).2, rfl, _, rfl, ?_⟩
      rw [h0]
      refine iteT ?_
      refine ⟨_, rfl, p, _, _, _, rfl, rfl, (rd 1 (by decide) sC).1, (rd 1 (by decide) sC).2, rfl, _, rfl, ?_⟩
      rw [h1]
      refine iteT ?_
      refine ⟨by show 2 ≤ sizeLine; decide, fun z1 nz1 => ⟨by show 2 ≤ sizeLine; decide, fun z2 nz2 => ⟨by show 2 ≤ sizeLine; decide, fun z3 nz3 => ⟨by show 2 ≤ sizeLine; decide, fun z4 nz4 => ⟨by show 4 ≤ sizeLine; decide, fun z5 nz5 => ?_⟩⟩⟩⟩⟩
      clear hS
      have u1 : ∀ {G : Hp} {z : Addr} {l : List V}, upd G z (.lst l) z = some (.lst l) := upd_same ..
      have g4 := same_new (o := .lst [.int 1, .int 2000]) nz4
      have g3 := same_new (o := .lst [.int 2000, .int 1]) nz3
      have g2 := same_new (o := .lst [.int 50, .int 40]) nz2
      have g5 := same_new (o := .lst [.ref z1, .ref z2, .ref z3, .ref z4]) nz5
      have k1 := g5 _ _ (g4 _ _ (g3 _ _ (g2 _ _ (u1 (G := HC) (z := z1) (l := [.int 40, .int 50])))))
      have k2 := g5 _ _ (g4 _ _ (g3 _ _ (u1 (z := z2) (l := [.int 50, .int 40]))))
      have k3 := g5 _ _ (g4 _ _ (u1 (z := z3) (l := [.int 2000, .int 1])))
      have k4 := g5 _ _ (u1 (z := z4) (l := [.int 1, .int 2000]))
      have sC := same2 sC (same2 (same_new (o := .lst [.int 40, .int 50]) nz1) (same2 g2 (same2 g3 (same2 g4 g5))))
      have k5 : upd (upd (upd (upd (upd HC z1 (.lst [.int 40, .int 50])) z2 (.lst [.int 50, .int 40])) z3 (.lst [.int 2000, .int 1])) z4 (.lst [.int 1, .int 2000])) z5 (.lst [.ref z1, .ref z2, .ref z3, .ref z4]) z5 = some (.lst [.ref z1, .ref z2, .ref z3, .ref z4]) := upd_same ..
      refine ⟨_, rfl, p, _, _, _, rfl, rfl, (rd 6 (by decide) sC).1, (rd 6 (by decide) sC).2, .inl ⟨_, rfl, _, _, rfl, rfl, nz rfl, ?_⟩⟩
      obtain ⟨d, hd, ld⟩ := digit (a := ((at0 ds 6 : Nat) : Int)) (n := 4) (by decide)
      have hd : ((d : Nat) : Int) = ((at0 ds 6 : Nat) : Int).fmod 4 := hd
      dsimp only
      rw [← hd]
      have sel : ∃ S m n, ([.ref z1, .ref z2, .ref z3, .ref z4] : List V)[d]? = some (.ref S) ∧ upd (upd (upd (upd (upd HC z1 (.lst [.int 40, .int 50])) z2 (.lst [.int 50, .int 40])) z3 (.lst [.int 2000, .int 1])) z4 (.lst [.int 1, .int 2000])) z5 (.lst [.ref z1, .ref z2, .ref z3, .ref z4]) S = some (.lst (nV [m, n])) ∧ 0 < m ∧ 0 < n ∧ m * n ≤ 2000 := by
        rcases (by omega : d = 0 ∨ d = 1 ∨ d = 2 ∨ d = 3) with rfl | rfl | rfl | rfl
        · exact ⟨z1, 40, 50, rfl, k1, by decide, by decide, by decide⟩
        · exact ⟨z2, 50, 40, rfl, k2, by decide, by decide, by decide⟩
        · exact ⟨z3, 2000, 1, rfl, k3, by decide, by decide, by decide⟩
        · exact ⟨z4, 1, 2000, rfl, k4, by decide, by decide, by decide⟩
      clear k1 k2 k3 k4 g2 g3 g4 g5 hm hn
      obtain ⟨S, m, n, sel, hS, mp, nq, mn⟩ := sel
      refine ⟨z5, _, _, _, rfl, rfl, .inl (.inl k5), atI_nat sel, ?_⟩
      generalize upd (upd (upd (upd (upd HC z1 (.lst [.int 40, .int 50])) z2 (.lst [.int 50, .int 40])) z3 (.lst [.int 2000, .int 1])) z4 (.lst [.int 1, .int 2000])) z5 (.lst [.ref z1, .ref z2, .ref z3, .ref z4]) = HC at sC hS
      refine ⟨Nat.zero_le _, fun RW nRW => ?_⟩
      have nRW0 : H1 RW = none := sC.free nRW
      have s0R : Same HC (upd HC RW (.lst [])) := same_new nRW
      have hRW : RowsAt (upd HC RW (.lst [])) RW [] := ⟨[], [], upd_same .., .nil, rfl⟩
      refine ⟨_, rfl, by decide, by decide, ?_⟩
      refine for_it (n := 2) walk_range (fun i σ HI => ∃ m4 m5, σ = [some (.ref a), some (.ref p), some (.ref S), some (.ref RW), m4, m5] ∧ Same HC HI ∧ RowsAt HI RW ([m, n].take i)) ⟨none, none, rfl, s0R, hRW⟩ (fun _ _ _ _ _ => trivial) ?_ ?_
      · rintro i x σ HI HJ hi ⟨m4, m5, rfl, sI, rI⟩ ⟨rfl, hx⟩
        have hx : x = .int (i : Nat) := hx.trans (congrArg V.int (Int.zero_add _))
        subst hx
        obtain ⟨z, hz⟩ : ∃ z, ([m, n] : List Nat)[i]? = some z := ⟨_, getE hi⟩
        have hz' : 0 < z ∧ z ≤ 2000 := by
          have q := List.mem_of_getElem? hz
          simp only [List.mem_cons, List.not_mem_nil, or_false] at q
          have := mul_le mp nq mn
          omega
        have hS' := sI _ _ hS
        have e2 : ∀ n : Nat, ((n : Nat) : Int).fdiv 2 + 1 = ((n / 2 + 1 : Nat) : Int) := fun n => by
          have q : ((n : Nat) : Int).fdiv 2 = ((n / 2 : Nat) : Int) := fdiv_n n 2 (by decide)
          rw [q] <;> rfl
        refine ⟨_, rfl, _, rfl, S, _, _, _, rfl, rfl, .inl (.inl hS'), atI_nat (nV_at hz), _, rfl, _, rfl, S, _, _, _, rfl, rfl, .inl (.inl hS'), atI_nat (nV_at hz), _, _, rfl, rfl, ⟨by decide, by decide⟩, _, _, rfl, rfl, _, rfl, _, rfl, S, _, _, _, rfl, rfl, .inl (.inl hS'), atI_nat (nV_at hz), by show 6 ≤ sizeLine; decide, fun q4 nq4 => ?_⟩
        dsimp only
        rw [e2]
        have ew : ([.int 3, .int 2, .int ((z : Nat) : Int), .int ((z / 2 + 1 : Nat) : Int), .int 4, .int ((z : Nat) : Int)] : List V) = nV [3, 2, z, z / 2 + 1, 4, z] := rfl
        rw [ew]
        have i6 : at0 ds (6 + i) < 6 := by
          rcases (by omega : i = 0 ∨ i = 1) with rfl | rfl
          · exact d6
          · exact d7
        obtain ⟨wn, hwn⟩ : ∃ wn, ([3, 2, z, z / 2 + 1, 4, z] : List Nat)[at0 ds (6 + i)]? = some wn := ⟨_, getE i6⟩
        have hw : 0 < wn ∧ wn < 4000 := by
          have q := List.mem_of_getElem? hwn
          simp only [List.mem_cons, List.not_mem_nil, or_false] at q
          omega
        have sJ := same2 sI (same_new (o := .lst (nV [3, 2, z, z / 2 + 1, 4, z])) nq4)
        obtain ⟨ls0, rs0, r01, r02, r03⟩ := id rI
        have r01 := same_new (o := .lst (nV [3, 2, z, z / 2 + 1, 4, z])) nq4 _ _ r01
        have s4 := same_new (o := .lst (nV [3, 2, z, z / 2 + 1, 4, z])) nq4
        have e6 : (6 : Int) + ((i : Nat) : Int) = ((6 + i : Nat) : Int) := by push_cast; rfl
        have e7 : (1 : Int) + ((i : Nat) : Int) = ((1 + i : Nat) : Int) := by push_cast; rfl
        refine ⟨_, rfl, _, rfl, _, _, rfl, rfl, p, _, _, _, rfl, rfl, (rd (6 + i) (by omega) (same2 sC sJ)).1, e6 ▸ (rd (6 + i) (by omega) (same2 sC sJ)).2, q4, _, _, _, rfl, rfl, .inl (.inl (upd_same ..)), atI_nat (nV_at hwn), ?_⟩
        generalize hHJ : upd _ q4 (.lst (nV [3, 2, z, z / 2 + 1, 4, z])) = HK at sJ r01 s4
        have hSK := sJ _ _ hS
        have sJ0 := same2 sH1 (same2 sC sJ)
        refine ⟨_, rfl, .inl ⟨rfl, _, .inl (.inl r01)⟩, _, rfl, _, rfl, _, _, rfl, rfl, ?_⟩
        dsimp only
        rw [e7]
        refine ⟨a, ns, (1 + i), rfl, Same.seq sJ0 ha, fun c6 => ?_⟩
        refine ⟨_, rfl, by show 1 ≤ sizeLine; decide, fun l6 nl6 => ?_⟩
        refine ⟨_, rfl, _, rfl, S, _, _, _, rfl, rfl, .inl (.inl (same_new nl6 _ _ hSK)), atI_nat (nV_at hz), l6, _, _, rfl, rfl, upd_same .., by omega, by omega, by show 1 * ((z : Nat) : Int).toNat ≤ sizeLine; omega, fun p6' np6' => ?_⟩
        rw [rep_n]
        have s6' : Same HK (upd (upd HK l6 (.lst [V.int (wn : Nat)])) p6' (.lst (nV (List.replicate z (wn))))) := same2 (same_new nl6) (same_new np6')
        refine ⟨c6, p6', List.replicate z (wn), rfl, .inl (.inl (upd_same ..)), fun x hx => ?_, by rw [List.length_replicate]; omega, fun H6 p6 ds6 sq6 np6 hp6 hl6 hlt6 => ?_⟩
        · rw [(List.mem_replicate.mp hx).2]
          omega
        rw [List.length_replicate] at hl6 hlt6
        have s6 : Same HK H6 := same2 s6' sq6
        have sK := same2 sJ0 s6
        obtain ⟨xs, x1, x2, x3⟩ := rI.put (same2 s4 s6) (s4.free (s6'.free np6)) hp6
        refine ⟨RW, xs, _, rfl, rfl, x1, fewS (by rw [x2, List.length_take]; omega), ?_⟩
        refine ⟨_, _, rfl, same_put nRW (same2 sJ s6), ?_⟩
        rw [hl6] at x3
        rw [List.take_add_one, hz]
        exact x3
      · rintro σ HI ⟨m4, m5, rfl, sI, ls, rs, r1, r2, r3⟩
        have r3 : rs.map List.length = [m, n] := r3
        rcases rs with _ | ⟨x1, _ | ⟨x2, _ | ⟨x3, xs⟩⟩⟩
        · cases r3
        · cases r3
        · cases r2 with
          | cons a1 r2 => cases r2 with
            | cons a2 r2 => cases r2
                            simp only [List.map_cons, List.map_nil, List.cons.injEq, and_true] at r3
                            obtain ⟨rfl, rfl⟩ := r3
                            exact ⟨_, rfl, hQ _ RW _ _ x1 x2 (same2 sH1 (same2 sC sI)) (sH1.free nRW0) r1 a1.2 a2.2 mp nq mn⟩
        · cases r3
    · refine ⟨_, rfl, p, _, _, _, rfl, rfl, (rd 0 (by decide) sC).1, (rd 0 (by decide) sC).2, rfl, _, rfl, ?_⟩
      rw [h0]
      refine iteT ?_
      refine ⟨_, rfl, p, _, _, _, rfl, rfl, (rd 1 (by decide) sC).1, (rd 1 (by decide) sC).2, rfl, _, rfl, ?_⟩
      refine ite2 (fun q => absurd q h1) (fun _ => ?_)
      obtain ⟨mp, nq, mn⟩ := sizes_ok m n hm.1 hn.1 hm.2 hn.2
      refine ⟨Nat.zero_le _, fun RW nRW => ?_⟩
      have nRW0 : H1 RW = none := sC.free nRW
      have s0R : Same HC (upd HC RW (.lst [])) := same_new nRW
      have hRW : RowsAt (upd HC RW (.lst [])) RW [] := ⟨[], [], upd_same .., .nil, rfl⟩
      refine ⟨_, rfl, by decide, by decide, ?_⟩
      refine for_it (n := 2) walk_range (fun i σ HI => ∃ m4 m5, σ = [some (.ref a), some (.ref p), some (.ref S), some (.ref RW), m4, m5] ∧ Same HC HI ∧ RowsAt HI RW ([m, n].take i)) ⟨none, none, rfl, s0R, hRW⟩ (fun _ _ _ _ _ => trivial) ?_ ?_
      · rintro i x σ HI HJ hi ⟨m4, m5, rfl, sI, rI⟩ ⟨rfl, hx⟩
        have hx : x = .int (i : Nat) := hx.trans (congrArg V.int (Int.zero_add _))
        subst hx
        obtain ⟨z, hz⟩ : ∃ z, ([m, n] : List Nat)[i]? = some z := ⟨_, getE hi⟩
        have hz' : 0 < z ∧ z ≤ 2000 := by
          have q := List.mem_of_getElem? hz
          simp only [List.mem_cons, List.not_mem_nil, or_false] at q
          have := mul_le mp nq mn
          omega
        have hS' := sI _ _ hS
        have e2 : ∀ n : Nat, ((n : Nat) : Int).fdiv 2 + 1 = ((n / 2 + 1 : Nat) : Int) := fun n => by
          have q : ((n : Nat) : Int).fdiv 2 = ((n / 2 : Nat) : Int) := fdiv_n n 2 (by decide)
          rw [q] <;> rfl
        refine ⟨_, rfl, _, rfl, S, _, _, _, rfl, rfl, .inl (.inl hS'), atI_nat (nV_at hz), _, rfl, _, rfl, S, _, _, _, rfl, rfl, .inl (.inl hS'), atI_nat (nV_at hz), _, _, rfl, rfl, ⟨by decide, by decide⟩, _, _, rfl, rfl, _, rfl, _, rfl, S, _, _, _, rfl, rfl, .inl (.inl hS'), atI_nat (nV_at hz), by show 6 ≤ sizeLine; decide, fun q4 nq4 => ?_⟩
        dsimp only
        rw [e2]
        have ew : ([.int 3, .int 2, .int ((z : Nat) : Int), .int ((z / 2 + 1 : Nat) : Int), .int 4, .int ((z : Nat) : Int)] : List V) = nV [3, 2, z, z / 2 + 1, 4, z] := rfl
        rw [ew]
        have i6 : at0 ds (6 + i) < 6 := by
          rcases (by omega : i = 0 ∨ i = 1) with rfl | rfl
          · exact d6
          · exact d7
        obtain ⟨wn, hwn⟩ : ∃ wn, ([3, 2, z, z / 2 + 1, 4, z] : List Nat)[at0 ds (6 + i)]? = some wn := ⟨_, getE i6⟩
        have hw : 0 < wn ∧ wn < 4000 := by
          have q := List.mem_of_getElem? hwn
          simp only [List.mem_cons, List.not_mem_nil, or_false] at q
          omega
        have sJ := same2 sI (same_new (o := .lst (nV [3, 2, z, z / 2 + 1, 4, z])) nq4)
        obtain ⟨ls0, rs0, r01, r02, r03⟩ := id rI
        have r01 := same_new (o := .lst (nV [3, 2, z, z / 2 + 1, 4, z])) nq4 _ _ r01
        have s4 := same_new (o := .lst (nV [3, 2, z, z / 2 + 1, 4, z])) nq4
        have e6 : (6 : Int) + ((i : Nat) : Int) = ((6 + i : Nat) : Int) := by push_cast; rfl
        have e7 : (1 : Int) + ((i : Nat) : Int) = ((1 + i : Nat) : Int) := by push_cast; rfl
        refine ⟨_, rfl, _, rfl, _, _, rfl, rfl, p, _, _, _, rfl, rfl, (rd (6 + i) (by omega) (same2 sC sJ)).1, e6 ▸ (rd (6 + i) (by omega) (same2 sC sJ)).2, q4, _, _, _, rfl, rfl, .inl (.inl (upd_same ..)), atI_nat (nV_at hwn), ?_⟩
        generalize hHJ : upd _ q4 (.lst (nV [3, 2, z, z / 2 + 1, 4, z])) = HK at sJ r01 s4
        have hSK := sJ _ _ hS
        have sJ0 := same2 sH1 (same2 sC sJ)
        refine ⟨_, rfl, .inl ⟨rfl, _, .inl (.inl r01)⟩, _, rfl, _, rfl, _, _, rfl, rfl, ?_⟩
        dsimp only
        rw [e7]
        refine ⟨a, ns, (1 + i), rfl, Same.seq sJ0 ha, fun c6 => ?_⟩
        refine ⟨_, rfl, by show 1 ≤ sizeLine; decide, fun l6 nl6 => ?_⟩
        refine ⟨_, rfl, _, rfl, S, _, _, _, rfl, rfl, .inl (.inl (same_new nl6 _ _ hSK)), atI_nat (nV_at hz), l6, _, _, rfl, rfl, upd_same .., by omega, by omega, by show 1 * ((z : Nat) : Int).toNat ≤ sizeLine; omega, fun p6' np6' => ?_⟩
        rw [rep_n]
        have s6' : Same HK (upd (upd HK l6 (.lst [V.int (wn : Nat)])) p6' (.lst (nV (List.replicate z (wn))))) := same2 (same_new nl6) (same_new np6')
        refine ⟨c6, p6', List.replicate z (wn), rfl, .inl (.inl (upd_same ..)), fun x hx => ?_, by rw [List.length_replicate]; omega, fun H6 p6 ds6 sq6 np6 hp6 hl6 hlt6 => ?_⟩
        · rw [(List.mem_replicate.mp hx).2]
          omega
        rw [List.length_replicate] at hl6 hlt6
        have s6 : Same HK H6 := same2 s6' sq6
        have sK := same2 sJ0 s6
        obtain ⟨xs, x1, x2, x3⟩ := rI.put (same2 s4 s6) (s4.free (s6'.free np6)) hp6
        refine ⟨RW, xs, _, rfl, rfl, x1, fewS (by rw [x2, List.length_take]; omega), ?_⟩
        refine ⟨_, _, rfl, same_put nRW (same2 sJ s6), ?_⟩
        rw [hl6] at x3
        rw [List.take_add_one, hz]
        exact x3
      · rintro σ HI ⟨m4, m5, rfl, sI, ls, rs, r1, r2, r3⟩
        have r3 : rs.map List.length = [m, n] := r3
        rcases rs with _ | ⟨x1, _ | ⟨x2, _ | ⟨x3, xs⟩⟩⟩
        · cases r3
        · cases r3
        · cases r2 with
          | cons a1 r2 => cases r2 with
            | cons a2 r2 => cases r2
                            simp only [List.map_cons, List.map_nil, List.cons.injEq, and_true] at r3
                            obtain ⟨rfl, rfl⟩ := r3
                            exact ⟨_, rfl, hQ _ RW _ _ x1 x2 (same2 sH1 (same2 sC sI)) (sH1.free nRW0) r1 a1.2 a2.2 mp nq mn⟩
        · cases r3
  · refine ⟨_, rfl, p, _, _, _, rfl, rfl, (rd 1 (by decide) sC).1, (rd 1 (by decide) sC).2, rfl, _, rfl, ?_⟩
    refine ite2 (fun h1 => ?_) (fun h1 => ?_)
    · refine ⟨_, rfl, p, _, _, _, rfl, rfl, (rd 5 (by decide) sC).1, (rd 5 (by decide) sC).2, _, _, rfl, rfl, _, rfl, S, _, _, 1, rfl, rfl, hS, rfl, ?_⟩
      have e4 : (nV [m, n]).set 1 (.int (13 + ((at0 ds 5 : Nat) : Int))) = nV [m, 13 + at0 ds 5] := rfl
      dsimp only
      rw [e4]
      have sC : Same H1 (upd HC S (.lst (nV [m, 13 + at0 ds 5]))) := same_put nS0 sC
      have hS : upd HC S (.lst (nV [m, 13 + at0 ds 5])) S = some (.lst (nV [m, 13 + at0 ds 5])) := upd_same ..
      have hn : 0 < 13 + at0 ds 5 ∧ 13 + at0 ds 5 ≤ 40 := ⟨by omega, by omega⟩
      generalize upd HC S (.lst (nV [m, 13 + at0 ds 5])) = HC at sC hS
      generalize 13 + at0 ds 5 = n at sC hS hn
      refine ⟨_, rfl, p, _, _, _, rfl, rfl, (rd 0 (by decide) sC).1, (rd 0 (by decide) sC).2, rfl, _, rfl, ?_⟩
      refine ite2 (fun q => absurd q h0) (fun _ => iteF ?_)
      obtain ⟨mp, nq, mn⟩ := sizes_ok m n hm.1 hn.1 hm.2 hn.2
      refine ⟨Nat.zero_le _, fun RW nRW => ?_⟩
      have nRW0 : H1 RW = none := sC.free nRW
      have s0R : Same HC (upd HC RW (.lst [])) := same_new nRW
      have hRW : RowsAt (upd HC RW (.lst [])) RW [] := ⟨[], [], upd_same .., .nil, rfl⟩
      refine ⟨_, rfl, by decide, by decide, ?_⟩
      refine for_it (n := 2) walk_range (fun i σ HI => ∃ m4 m5, σ = [some (.ref a), some (.ref p), some (.ref S), some (.ref RW), m4, m5] ∧ Same HC HI ∧ RowsAt HI RW ([m, n].take i)) ⟨none, none, rfl, s0R, hRW⟩ (fun _ _ _ _ _ => trivial) ?_ ?_
      · rintro i x σ HI HJ hi ⟨m4, m5, rfl, sI, rI⟩ ⟨rfl, hx⟩
        have hx : x = .int (i : Nat) := hx.trans (congrArg V.int (Int.zero_add _))
        subst hx
        obtain ⟨z, hz⟩ : ∃ z, ([m, n] : List Nat)[i]? = some z := ⟨_, getE hi⟩
        have hz' : 0 < z ∧ z ≤ 2000 := by
          have q := List.mem_of_getElem? hz
          simp only [List.mem_cons, List.not_mem_nil, or_false] at q
          have := mul_le mp nq mn
          omega
        have hS' := sI _ _ hS
        have e2 : ∀ n : Nat, ((n : Nat) : Int).fdiv 2 + 1 = ((n / 2 + 1 : Nat) : Int) := fun n => by
          have q : ((n : Nat) : Int).fdiv 2 = ((n / 2 : Nat) : Int) := fdiv_n n 2 (by decide)
          rw [q] <;> rfl
        refine ⟨_, rfl, _, rfl, S, _, _, _, rfl, rfl, .inl (.inl hS'), atI_nat (nV_at hz), _, rfl, _, rfl, S, _, _, _, rfl, rfl, .inl (.inl hS'), atI_nat (nV_at hz), _, _, rfl, rfl, ⟨by decide, by decide⟩, _, _, rfl, rfl, _, rfl, _, rfl, S, _, _, _, rfl, rfl, .inl (.inl hS'), atI_nat (nV_at hz), by show 6 ≤ sizeLine; decide, fun q4 nq4 => ?_⟩
        dsimp only
        rw [e2]
        have ew : ([.int 3, .int 2, .int ((z : Nat) : Int), .int ((z / 2 + 1 : Nat) : Int), .int 4, .int ((z : Nat) : Int)] : List V) = nV [3, 2, z, z / 2 + 1, 4, z] := rfl
        rw [ew]
        have i6 : at0 ds (6 + i) < 6 := by
          rcases (by omega : i = 0 ∨ i = 1) with rfl | rfl
          · exact d6
          · exact d7
        obtain ⟨wn, hwn⟩ : ∃ wn, ([3, 2, z, z / 2 + 1, 4, z] : List Nat)[at0 ds (6 + i)]? = some wn := ⟨_, getE i6⟩
        have hw : 0 < wn ∧ wn < 4000 := by
          have q := List.mem_of_getElem? hwn
          simp only [List.mem_cons, List.not_mem_nil, or_false] at q
          omega
        have sJ := same2 sI (same_new (o := .lst (nV [3, 2, z, z / 2 + 1, 4, z])) nq4)
        obtain ⟨ls0, rs0, r01, r02, r03⟩ := id rI
        have r01 := same_new (o := .lst (nV [3, 2, z, z / 2 + 1, 4, z])) nq4 _ _ r01
        have s4 := same_new (o := .lst (nV [3, 2, z, z / 2 + 1, 4, z])) nq4
        have e6 : (6 : Int) + ((i : Nat) : Int) = ((6 + i : Nat) : Int) := by push_cast; rfl
        have e7 : (1 : Int) + ((i : Nat) : Int) = ((1 + i : Nat) : Int) := by push_cast; rfl
        refine ⟨_, rfl, _, rfl, _, _, rfl, rfl, p, _, _, _, rfl, rfl, (rd (6 + i) (by omega) (same2 sC sJ)).1, e6 ▸ (rd (6 + i) (by omega) (same2 sC sJ)).2, q4, _, _, _, rfl, rfl, .inl (.inl (upd_same ..)), atI_nat (nV_at hwn), ?_⟩
        generalize hHJ : upd _ q4 (.lst (nV [3, 2, z, z / 2 + 1, 4, z])) = HK at sJ r01 s4
        have hSK := sJ _ _ hS
        have sJ0 := same2 sH1 (same2 sC sJ)
        refine ⟨_, rfl, .inl ⟨rfl, _, .inl (.inl r01)⟩, _, rfl, _, rfl, _, _, rfl, rfl, ?_⟩
        dsimp only
        rw [e7]
        refine ⟨a, ns, (1 + i), rfl, Same.seq sJ0 ha, fun c6 => ?_⟩
        refine ⟨_, rfl, by show 1 ≤ sizeLine; decide, fun l6 nl6 => ?_⟩
        refine ⟨_, rfl, _, rfl, S, _, _, _, rfl, rfl, .inl (.inl (same_new nl6 _ _ hSK)), atI_nat (nV_at hz), l6, _, _, rfl, rfl, upd_same .., by omega, by omega, by show 1 * ((z : Nat) : Int).toNat ≤ sizeLine; omega, fun p6' np6' => ?_⟩
        rw [rep_n]
        have s6' : Same HK (upd (upd HK l6 (.lst [V.int (wn : Nat)])) p6' (.lst (nV (List.replicate z (wn))))) := same2 (same_new nl6) (same_new np6')
        refine ⟨c6, p6', List.replicate z (wn), rfl, .inl (.inl (upd_same ..)), fun x hx => ?_, by rw [List.length_replicate]; omega, fun H6 p6 ds6 sq6 np6 hp6 hl6 hlt6 => ?_⟩
        · rw [(List.mem_replicate.mp hx).2]
          omega
        rw [List.length_replicate] at hl6 hlt6
        have s6 : Same HK H6 := same2 s6' sq6
        have sK := same2 sJ0 s6
        obtain ⟨xs, x1, x2, x3⟩ := rI.put (same2 s4 s6) (s4.free (s6'.free np6)) hp6
        refine ⟨RW, xs, _, rfl, rfl, x1, fewS (by rw [x2, List.length_take]; omega), ?_⟩
        refine ⟨_, _, rfl, same_put nRW (same2 sJ s6), ?_⟩
        rw [hl6] at x3
        rw [List.take_add_one, hz]
        exact x3
      · rintro σ HI ⟨m4, m5, rfl, sI, ls, rs, r1, r2, r3⟩
        have r3 : rs.map List.length = [m, n] := r3
        rcases rs with _ | ⟨x1, _ | ⟨x2, _ | ⟨x3, xs⟩⟩⟩
        · cases r3
        · cases r3
        · cases r2 with
          | cons a1 r2 => cases r2 with
            | cons a2 r2 => cases r2
                            simp only [List.map_cons, List.map_nil, List.cons.injEq, and_true] at r3
                            obtain ⟨rfl, rfl⟩ := r3
                            exact ⟨_, rfl, hQ _ RW _ _ x1 x2 (same2 sH1 (same2 sC sI)) (sH1.free nRW0) r1 a1.2 a2.2 mp nq mn⟩
        · cases r3
    · refine ⟨_, rfl, p, _, _, _, rfl, rfl, (rd 0 (by decide) sC).1, (rd 0 (by decide) sC).2, rfl, _, rfl, ?_⟩
      refine ite2 (fun q => absurd q h0) (fun _ => iteF ?_)
      obtain ⟨mp, nq, mn⟩ := sizes_ok m n hm.1 hn.1 hm.2 hn.2
      refine ⟨Nat.zero_le _, fun RW nRW => ?_⟩
      have nRW0 : H1 RW = none := sC.free nRW
      have s0R : Same HC (upd HC RW (.lst [])) := same_new nRW
      have hRW : RowsAt (upd HC RW (.lst [])) RW [] := ⟨[], [], upd_same .., .nil, rfl⟩
      refine ⟨_, rfl, by decide, by decide, ?_⟩
      refine for_it (n := 2) walk_range (fun i σ HI => ∃ m4 m5, σ = [some (.ref a), some (.ref p), some (.ref S), some (.ref RW), m4, m5] ∧ Same HC HI ∧ RowsAt HI RW ([m, n].take i)) ⟨none, none, rfl, s0R, hRW⟩ (fun _ _ _ _ _ => trivial) ?_ ?_
      · rintro i x σ HI HJ hi ⟨m4, m5, rfl, sI, rI⟩ ⟨rfl, hx⟩
        have hx : x = .int (i : Nat) := hx.trans (congrArg V.int (Int.zero_add _))
        subst hx
        obtain ⟨z, hz⟩ : ∃ z, ([m, n] : List Nat)[i]? = some z := ⟨_, getE hi⟩
        have hz' : 0 < z ∧ z ≤ 2000 := by
          have q := List.mem_of_getElem? hz
          simp only [List.mem_cons, List.not_mem_nil, or_false] at q
          have := mul_le mp nq mn
          omega
        have hS' := sI _ _ hS
        have e2 : ∀ n : Nat, ((n : Nat) : Int).fdiv 2 + 1 = ((n / 2 + 1 : Nat) : Int) := fun n => by
          have q : ((n : Nat) : Int).fdiv 2 = ((n / 2 : Nat) : Int) := fdiv_n n 2 (by decide)
          rw [q] <;> rfl
        refine ⟨_, rfl, _, rfl, S, _, _, _, rfl, rfl, .inl (.inl hS'), atI_nat (nV_at hz), _, rfl, _, rfl, S, _, _, _, rfl, rfl, .inl (.inl hS'), atI_nat (nV_at hz), _, _, rfl, rfl, ⟨by decide, by decide⟩, _, _, rfl, rfl, _, rfl, _, rfl, S, _, _, _, rfl, rfl, .inl (.inl hS'), atI_nat (nV_at hz), by show 6 ≤ sizeLine; decide, fun q4 nq4 => ?_⟩
        dsimp only
        rw [e2]
        have ew : ([.int 3, .int 2, .int ((z : Nat) : Int), .int ((z / 2 + 1 : Nat) : Int), .int 4, .int ((z : Nat) : Int)] : List V) = nV [3, 2, z, z / 2 + 1, 4, z] := rfl
        rw [ew]
        have i6 : at0 ds (6 + i) < 6 := by
          rcases (by omega : i = 0 ∨ i = 1) with rfl | rfl
          · exact d6
          · exact d7
        obtain ⟨wn, hwn⟩ : ∃ wn, ([3, 2, z, z / 2 + 1, 4, z] : List Nat)[at0 ds (6 + i)]? = some wn := ⟨_, getE i6⟩
        have hw : 0 < wn ∧ wn < 4000 := by
          have q := List.mem_of_getElem? hwn
          simp only [List.mem_cons, List.not_mem_nil, or_false] at q
          omega
        have sJ := same2 sI (same_new (o := .lst (nV [3, 2, z, z / 2 + 1, 4, z])) nq4)
        obtain ⟨ls0, rs0, r01, r02, r03⟩ := id rI
        have r01 := same_new (o := .lst (nV [3, 2, z, z / 2 + 1, 4, z])) nq4 _ _ r01
        have s4 := same_new (o := .lst (nV [3, 2, z, z / 2 + 1, 4, z])) nq4
        have e6 : (6 : Int) + ((i : Nat) : Int) = ((6 + i : Nat) : Int) := by push_cast; rfl
        have e7 : (1 : Int) + ((i : Nat) : Int) = ((1 + i : Nat) : Int) := by push_cast; rfl
        refine ⟨_, rfl, _, rfl, _, _, rfl, rfl, p, _, _, _, rfl, rfl, (rd (6 + i) (by omega) (same2 sC sJ)).1, e6 ▸ (rd (6 + i) (by omega) (same2 sC sJ)).2, q4, _, _, _, rfl, rfl, .inl (.inl (upd_same ..)), atI_nat (nV_at hwn), ?_⟩
        generalize hHJ : upd _ q4 (.lst (nV [3, 2, z, z / 2 + 1, 4, z])) = HK at sJ r01 s4
        have hSK := sJ _ _ hS
        have sJ0 := same2 sH1 (same2 sC sJ)
        refine ⟨_, rfl, .inl ⟨rfl, _, .inl (.inl r01)⟩, _, rfl, _, rfl, _, _, rfl, rfl, ?_⟩
        dsimp only
        rw [e7]
        refine ⟨a, ns, (1 + i), rfl, Same.seq sJ0 ha, fun c6 => ?_⟩
        refine ⟨_, rfl, by show 1 ≤ sizeLine; decide, fun l6 nl6 => ?_⟩
        refine ⟨_, rfl, _, rfl, S, _, _, _, rfl, rfl, .inl (.inl (same_new nl6 _ _ hSK)), atI_nat (nV_at hz), l6, _, _, rfl, rfl, upd_same .., by omega, by omega, by show 1 * ((z : Nat) : Int).toNat ≤ sizeLine; omega, fun p6' np6' => ?_⟩
        rw [rep_n]
        have s6' : Same HK (upd (upd HK l6 (.lst [V.int (wn : Nat)])) p6' (.lst (nV (List.replicate z (wn))))) := same2 (same_new nl6) (same_new np6')
        refine ⟨c6, p6', List.replicate z (wn), rfl, .inl (.inl (upd_same ..)), fun x hx => ?_, by rw [List.length_replicate]; omega, fun H6 p6 ds6 sq6 np6 hp6 hl6 hlt6 => ?_⟩
        · rw [(List.mem_replicate.mp hx).2]
          omega
        rw [List.length_replicate] at hl6 hlt6
        have s6 : Same HK H6 := same2 s6' sq6
        have sK := same2 sJ0 s6
        obtain ⟨xs, x1, x2, x3⟩ := rI.put (same2 s4 s6) (s4.free (s6'.free np6)) hp6
        refine ⟨RW, xs, _, rfl, rfl, x1, fewS (by rw [x2, List.length_take]; omega), ?_⟩
        refine ⟨_, _, rfl, same_put nRW (same2 sJ s6), ?_⟩
        rw [hl6] at x3
        rw [List.take_add_one, hz]
        exact x3
      · rintro σ HI ⟨m4, m5, rfl, sI, ls, rs, r1, r2, r3⟩
        have r3 : rs.map List.length = [m, n] := r3
        rcases rs with _ | ⟨x1, _ | ⟨x2, _ | ⟨x3, xs⟩⟩⟩
        · cases r3
        · cases r3
        · cases r2 with
          | cons a1 r2 => cases r2 with
            | cons a2 r2 => cases r2
                            simp only [List.map_cons, List.map_nil, List.cons.injEq, and_true] at r3
                            obtain ⟨rfl, rfl⟩ := r3
                            exact ⟨_, rfl, hQ _ RW _ _ x1 x2 (same2 sH1 (same2 sC sI)) (sH1.free nRW0) r1 a1.2 a2.2 mp nq mn⟩
        · cases r3
end
end K01
set_option Elab.async false
set_option linter.all false
set_option maxRecDepth 100000
set_option maxHeartbeats 4000000
namespace K01
open PySem PySem.Spec PyProof.Rows L2 Ms
def spDeals (K : PySem.W.Frag) : Sp := fun vs H Q _ => ∃ (a : Addr) (ns : List Int) (n : Nat), vs = [.ref a, .int (n : Nat)] ∧ SqL K H a (ns.map V.int) ∧ 0 < n ∧ n ≤ 2000 ∧ ∀ H' p ds, Same H H' → H p = none → H' p = some (.lst (nV ds)) → 0 < ds.length → ds.length ≤ n → (∀ x ∈ ds, x < n) → Q (.ref p) H'
theorem cut_head (os : List Nat) (k : Nat) : cutV (nV os) none (some ((k : Nat) : Int)) = nV (os.take k) := by
  unfold cutV
  rw [HT.sIx_nat, HT.sIx_none, List.drop_zero, nV_len, Nat.sub_zero]
  unfold nV
  rw [List.map_take]
  rcases Nat.le_total k os.length with h | h
  · rw [Nat.min_eq_left h]
  · rw [Nat.min_eq_right h, List.take_of_length_le (by rw [List.length_map]; exact Nat.le_refl _), List.take_of_length_le (by rw [List.length_map]; exact h)]
section
variable {P : Program} {w : World} {K : PySem.W.Frag} {mg : Str → Option Value} {base : Heap}
theorem ok__law_deals (T : Tx K mg) : Ok P w K mg base "_law_deals" 2 (spDeals K) := by
  have O__law_digits : Ok P w K mg base "_law_digits" 1 (spDigits K) := ok__law_digits T
  have O__law_cell : Ok P w K mg base "_law_cell" 1 (spCellL K) := ok__law_cell T
  refine ok_of T.a__law_deals sc_law_deals (fun vs H Q E h => ?_) bi__law_deals fun cdv A outer s H vs Q E hr h => ?_
  · obtain ⟨a, ns, n, rfl, _⟩ := h
    rfl
  obtain ⟨a, ns, n, rfl, ha, n0, n1, hQ⟩ := h
  have big : (16777216 : Nat) ≤ sizeLine := by decide
  refine ⟨_, (pss_cons (ps_set (i := 2) sc_law_deals.nd rfl (by first | exact Or.inl rfl | exact Or.inr rfl) (pe_c (E := EN) O__law_digits hr (by decide) (fun σ => passN σ) (pa_cons (pe_c (E := EN) O__law_cell hr (by decide) (fun σ => passN σ) (pa_cons (pv 0) (pa_cons pe_int pa_nil))) (pa_cons (pe_op op_cat (pe_lst (pa_cons (pv 1) pa_nil)) (pe_lc (own := [("k", 3)]) (g := gName 3) rfl sc_law_deals.nd (pi_range1 rfl T.f_range (pa_cons (pv 1) pa_nil)) (blkOk_by (N := ["script", "size", "turns", "k", "order"]) (sc := defScope s_law_deals) (by decide +kernel)) (fun _ _ _ _ _ => (pg_name (i := 3) sc_law_deals.nd rfl (by first | exact Or.inl rfl | exact Or.inr rfl))) (fun _ _ _ _ _ => pts_nil) (fun _ _ _ _ _ => (pe_op op_add (pv 3) pe_int)))) pa_nil))))
  (pss_cons (ps_set (i := 4) sc_law_deals.nd rfl (by first | exact Or.inl rfl | exact Or.inr rfl) (pe_lst pa_nil))
  (pss_cons (ps_for PassesOwn.never rfl (pi_range1 rfl T.f_range (pa_cons (pv 1) pa_nil)) (pg_name (i := 3) sc_law_deals.nd rfl (by first | exact Or.inl rfl | exact Or.inr rfl))
  (pss_one (ps_expr (pe_bm PySem.F.plainAttrs_list PySem.F.slot_list_insert PySem.F.type_list_insert mt_insert (pv 4) (pa_cons (pe_ix (ixL K) (pv 2) (pe_op op_add (pv 3) pe_int) (fun _ _ => rfl)) (pa_cons (pv 3) pa_nil))))))
  (pss_one (ps_ret (pe_slice sl_list (pv 4) po_none (po_some (pe_op op_add (pe_ix (ixL K) (pv 2) pe_int (fun _ _ => rfl)) pe_int)))))))), ?_⟩
  refine ⟨_, rfl, a, ns, 3, rfl, ha, fun c3 => ?_⟩
  refine ⟨_, rfl, by show 1 ≤ sizeLine; decide, fun l nl => ?_⟩
  have sl := same_new (o := .lst [.int (n : Nat)]) nl
  have hl : upd H l (.lst [.int (n : Nat)]) l = some (.lst [.int (n : Nat)]) := upd_same ..
  generalize upd H l (.lst [.int (n : Nat)]) = H1 at sl hl
  refine ⟨_, rfl, _, rfl, by omega, by omega, fun D nD => ?_⟩
  have en : ((n : Nat) : Int).toNat = n := by omega
  rw [en]
  refine lc_it walk_range (fun i H2 => H2 D = some (.lst (nV ((List.range i).map (· + 1)))) ∧ Same H1 H2) ⟨upd_same .., same_new nD⟩ (fun _ _ _ _ => trivial) ?_ ?_
  · rintro i x H4 H5 hi ⟨q1, q2⟩ ⟨rfl, hx⟩
    have hx : x = .int (i : Nat) := hx.trans (congrArg V.int (Int.zero_add _))
    subst hx
    refine ⟨rfl, _, rfl, _, _, rfl, rfl, _, q1, by rw [nV_len, List.length_map, List.length_range]; exact fewS (by omega), ?_, same_put nD q2⟩
    dsimp only
    rw [upd_same, show V.int (((i : Nat) : Int) + 1) = V.int ((i + 1 : Nat) : Int) from rfl, nV_snoc, List.range_succ, List.map_append] <;> rfl
  rintro H2 ⟨q1, q2⟩
  refine ⟨l, D, _, _, rfl, rfl, q2 _ _ hl, q1, by rw [nV_len, List.length_map, List.length_range]; show 1 + n ≤ sizeLine; omega, fun q nq => ?_⟩
  have ecat : ([.int (n : Nat)] : List V) ++ nV ((List.range n).map (· + 1)) = nV (n :: (List.range n).map (· + 1)) := rfl
  rw [ecat]
  have sq := same2 sl (same2 q2 (same_new (o := .lst (nV (n :: (List.range n).map (· + 1)))) nq))
  refine ⟨c3, q, n :: (List.range n).map (· + 1), rfl, .inl (.inl (upd_same ..)), fun x hx => ?_, by rw [List.length_cons, List.length_map, List.length_range]; omega, fun H3 p ds s3 np hp hlen hlt => ?_⟩
  · rcases List.mem_cons.mp hx with e | e
    · omega
    · obtain ⟨y, hy, rfl⟩ := List.mem_map.mp e
      have := List.mem_range.mp hy
      omega
  rw [List.length_cons, List.length_map, List.length_range] at hlen hlt
  have sH3 := same2 sq s3
  have t0 : at0 ds 0 < n := hlt 0 (by omega)
  have tk : ∀ k, k < n → at0 ds (k + 1) < k + 1 := fun k hk => by
    have q := hlt (k + 1) (by omega)
    have e : at0 (n :: (List.range n).map (· + 1)) (k + 1) = k + 1 := at0_of (by rw [List.getElem?_cons_succ, List.getElem?_map, List.getElem?_range hk] <;> rfl)
    rw [e] at q
    exact q
  refine ⟨Nat.zero_le _, fun O nO => ?_⟩
  have nO0 : H O = none := sH3.free nO
  refine ⟨_, rfl, _, rfl, by omega, by omega, ?_⟩
  rw [en]
  refine for_it walk_range (fun i σ H4 => ∃ m3 os, σ = [some (.ref a), some (.int (n : Nat)), some (.ref p), m3, some (.ref O)] ∧ H4 O = some (.lst (nV os)) ∧ os.length = i ∧ (∀ x ∈ os, x < n) ∧ Same H3 H4) ⟨none, [], rfl, upd_same .., rfl, fun x hx => (nomatch hx), same_new nO⟩ (fun _ _ _ _ _ => trivial) ?_ ?_
  · rintro i x σ H4 H5 hi ⟨m3, os, rfl, o1, o2, o3, o4⟩ ⟨rfl, hx⟩
    have hx : x = .int (i : Nat) := hx.trans (congrArg V.int (Int.zero_add _))
    subst hx
    have e1 : ((i : Nat) : Int) + 1 = ((i + 1 : Nat) : Int) := rfl
    refine ⟨_, rfl, .inl ⟨rfl, _, .inl (.inl o1)⟩, _, rfl, _, rfl, _, _, rfl, rfl, p, _, _, _, rfl, rfl, .inl (.inl (o4 _ _ hp)), e1 ▸ atI_nat (nV_at0 (i := i + 1) (by rw [hlen]; omega)), _, rfl, O, _, _, _, rfl, rfl, o1, by rw [nV_len, o2]; exact fewS (by omega), by omega, ?_, ?_⟩
    · have := tk i hi
      omega
    have et : ((at0 ds (i + 1) : Nat) : Int).toNat = at0 ds (i + 1) := by omega
    rw [et]
    have ei : (nV os).take (at0 ds (i + 1)) ++ [.int ((i : Nat) : Int)] ++ (nV os).drop (at0 ds (i + 1)) = nV (os.take (at0 ds (i + 1)) ++ [i] ++ os.drop (at0 ds (i + 1))) := by
      unfold nV
      rw [List.map_append, List.map_append, List.map_take, List.map_drop] <;> rfl
    rw [ei]
    have ti := tk i hi
    refine ⟨_, _, rfl, upd_same .., by rw [List.length_append, List.length_append, List.length_take, List.length_drop, List.length_singleton]; omega, fun x hx => ?_, same_put nO o4⟩
    rcases List.mem_append.mp hx with z | z
    · rcases List.mem_append.mp z with z | z
      · exact o3 x (List.mem_of_mem_take z)
      · rw [List.mem_singleton.mp z]
        exact hi
    · exact o3 x (List.mem_of_mem_drop z)
  · rintro σ H4 ⟨m3, os, rfl, o1, o2, o3, o4⟩
    refine ⟨_, rfl, _, rfl, p, _, _, _, rfl, rfl, .inl (.inl (o4 _ _ hp)), atI_nat (j := 0) (nV_at0 (i := 0) (by omega)), _, _, rfl, rfl, ?_⟩
    refine ⟨_, rfl, O, _, rfl, .inl (.inl o1), fun q nq => ?_⟩
    have e1 : ((at0 ds 0 : Nat) : Int) + 1 = ((at0 ds 0 + 1 : Nat) : Int) := rfl
    rw [e1, cut_head]
    have sF := same2 sH3 (same2 o4 (same_new (o := .lst (nV (os.take (at0 ds 0 + 1)))) nq))
    exact hQ _ q _ sF ((same2 sH3 o4).free nq) (upd_same ..) (by rw [List.length_take]; omega) (by rw [List.length_take]; omega) fun x hx => o3 x (List.mem_of_mem_take hx)
end
end K01
set_option Elab.async false
set_option linter.all false
set_option maxRecDepth 100000
set_option maxHeartbeats 4000000
/-! Ms, plain: rows of a product. -/
namespace Ms
section
variable {κ ι : Type} [DecidableEq κ] [DecidableEq ι]
/-- what a row picked of numbered marks is -/
theorem ren_pick {L : List κ} {ds : List Nat} {m : List ι} (hl : ds.length = m.length)
    (h : ∀ (i j d e : Nat) (x y : ι), ds[i]? = some d → ds[j]? = some e → m[i]? = some x → m[j]? = some y → ∃ u v, L[d]? = some u ∧ L[e]? = some v ∧ (u = v ↔ x = y)) :
    ren (ds.map fun d => at0 (ren L) d) = ren m := by
  refine (ren_alike ⟨by rw [List.length_map]; exact hl, fun i j a b c d h1 h2 h3 h4 => ?_⟩).1
  rw [List.getElem?_map] at h1 h2
  cases q1 : ds[i]? with
  | none => rw [q1] at h1; cases h1
  | some d1 => cases q2 : ds[j]? with
    | none => rw [q2] at h2; cases h2
    | some d2 =>
      rw [q1] at h1
      rw [q2] at h2
      obtain ⟨u, v, g1, g2, g3⟩ := h i j d1 d2 c d q1 q2 h3 h4
      have l1 : d1 < (ren L).length := by rw [ren_len]; exact ltE g1
      have l2 : d2 < (ren L).length := by rw [ren_len]; exact ltE g2
      have k := (alike_ren L).2 d1 d2 u v _ _ g1 g2 (of_at0 l1) (of_at0 l2)
      rw [← Option.some.inj h1, ← Option.some.inj h2]
      exact k.symm.trans g3
end
/-- the pairs of two rows, in order -/
abbrev prod (f g : List Nat) : List (Nat × Nat) := f.flatMap fun a => g.map fun b => (a, b)
theorem prod_at (g : List Nat) {j y : Nat} (hj : g[j]? = some y) : ∀ (f : List Nat) (k x : Nat), f[k]? = some x → (prod f g)[k * g.length + j]? = some (x, y)
  | [], k, x, h => by cases h
  | a :: f, 0, x, h => by
    have e : a = x := by simpa using h
    subst e
    rw [Nat.zero_mul, Nat.zero_add]
    show ((g.map fun b => (a, b)) ++ prod f g)[j]? = _
    rw [List.getElem?_append_left (by rw [List.length_map]; exact ltE hj), List.getElem?_map, hj] <;> rfl
  | a :: f, k + 1, x, h => by
    have h : f[k]? = some x := by simpa using h
    show ((g.map fun b => (a, b)) ++ prod f g)[(k + 1) * g.length + j]? = _
    rw [List.getElem?_append_right (by rw [List.length_map, Nat.add_mul]; omega), List.length_map]
    have e : (k + 1) * g.length + j - g.length = k * g.length + j := by rw [Nat.add_mul]; omega
    rw [e]
    exact prod_at g hj f k x h
theorem range_at {n i k : Nat} {h : Nat → Nat} (e : ((List.range n).map h)[i]? = some k) : i < n ∧ k = h i := by
  rw [List.getElem?_map] at e
  by_cases l : i < n
  · rw [List.getElem?_range l] at e
    exact ⟨l, (Option.some.inj e).symm⟩
  · rw [List.getElem?_eq_none (by rw [List.length_range]; omega)] at e
    cases e
theorem pick_first {f g : List Nat} (hf : Row f) {j : Nat} (hj : j < g.length) : ren (((List.range f.length).map fun k => k * g.length + j).map fun d => at0 (ren (prod f g)) d) = f := by
  rw [ren_pick (m := f) (by rw [List.length_map, List.length_range]) fun a b d e x y h1 h2 h3 h4 => ?_]
  · exact hf
  obtain ⟨l1, rfl⟩ := range_at h1
  obtain ⟨l2, rfl⟩ := range_at h2
  exact ⟨_, _, prod_at g (of_at0 hj) f a x h3, prod_at g (of_at0 hj) f b y h4, ⟨fun z => (Prod.mk.inj z).1, fun z => by rw [z]⟩⟩
theorem pick_second {f g : List Nat} (hg : Row g) {i : Nat} (hi : i < f.length) : ren (((List.range g.length).map fun k => i * g.length + k).map fun d => at0 (ren (prod f g)) d) = g := by
  rw [ren_pick (m := g) (by rw [List.length_map, List.length_range]) fun a b d e x y h1 h2 h3 h4 => ?_]
  · exact hg
  obtain ⟨l1, rfl⟩ := range_at h1
  obtain ⟨l2, rfl⟩ := range_at h2
  exact ⟨_, _, prod_at g h3 f i _ (of_at0 hi), prod_at g h4 f i _ (of_at0 hi), ⟨fun z => (Prod.mk.inj z).2, fun z => by rw [z]⟩⟩
theorem pick_all {f : List Nat} (hf : Row f) : ren ((List.range f.length).map fun d => at0 f d) = f := by
  have e : (List.range f.length).map (fun d => at0 f d) = f := by
    refine List.ext_getElem? fun i => ?_
    by_cases l : i < f.length
    · rw [List.getElem?_map, List.getElem?_range l, of_at0 l] <;> rfl
    · rw [List.getElem?_eq_none (by rw [List.length_map, List.length_range]; omega), List.getElem?_eq_none (by omega)]
  rw [e]
  exact hf
end Ms
set_option Elab.async false
set_option linter.all false
set_option maxRecDepth 100000
set_option maxHeartbeats 4000000
namespace K01
open PySem PySem.Spec PyProof.Rows L2 Ms
theorem papp {α β : Type} {R : α → β → Prop} {a c : List α} {b d : List β} (h : Paired R a b) (g : Paired R c d) : Paired R (a ++ c) (b ++ d) := by
  induction h with
  | nil => exact g
  | cons h1 _ ih => exact .cons h1 ih
def PrsAt (H : Hp) (D : Addr) (ps : List (Nat × Nat)) : Prop := ∃ ts : List Addr, H D = some (.lst (ts.map V.ref)) ∧ Paired (fun t p => H t = some (pairV p)) ts (ps.map ip)
theorem PrsAt.same {H H' : Hp} (s : Same H H') {D : Addr} {ps : List (Nat × Nat)} (h : PrsAt H D ps) : PrsAt H' D ps :=
  let ⟨ts, h1, h2⟩ := h
  ⟨ts, s _ _ h1, pimp (fun _ _ _ q => s _ _ q) h2⟩
/-- what stands while the second part runs -/
structure B2 (K : PySem.W.Frag) (H : Hp) (a : Addr) (ns : List Int) (pf pg p1 p2 : Addr) (f g : List Nat) : Prop where
  sc : SqL K H a (ns.map V.int)
  ff : H pf = some (.lst (nV f))
  gg : H pg = some (.lst (nV g))
  one : SightAt K H p1 f
  two : SightAt K H p2 g
theorem B2.same {K : PySem.W.Frag} {H H' : Hp} {a : Addr} {ns : List Int} {pf pg p1 p2 : Addr} {f g : List Nat} (c : B2 K H a ns pf pg p1 p2 f g) (s : Same H H') : B2 K H' a ns pf pg p1 p2 f g :=
  ⟨Same.seq s c.sc, s _ _ c.ff, s _ _ c.gg, c.one.same s, c.two.same s⟩
structure B3 (H : Hp) (pd pv pu : Addr) (f ds : List Nat) : Prop where
  dl : H pd = some (.lst (nV ds))
  gv : H pv = some (.lst (nV ds))
  du : H pu = some (.lst (nV (ren (ds.map fun i => at0 f i))))
theorem B3.same {H H' : Hp} {pd pv pu : Addr} {f ds : List Nat} (c : B3 H pd pv pu f ds) (s : Same H H') : B3 H' pd pv pu f ds := ⟨s _ _ c.dl, s _ _ c.gv, s _ _ c.du⟩
section
variable {P : Program} {w : World} {K : PySem.W.Frag} {mg : Str → Option Value} {base : Heap}
theorem ok__law_partb (T : Tx K mg) : Ok P w K mg base "_law_partb" 5 (spPart K) := by
  have O__law_draw_x : Ok P w K mg base "_law_draw_x" 2 (spDrawX K) := ok__law_draw_x T
  have O__law_marks : Ok P w K mg base "_law_marks" 1 (spMarks K) := ok__law_marks T
  have O__law_cell : Ok P w K mg base "_law_cell" 1 (spCellL K) := ok__law_cell T
  have O__law_deals : Ok P w K mg base "_law_deals" 2 (spDeals K) := ok__law_deals T
  have O__law_agrees : Ok P w K mg base "_law_agrees" 3 (spAgrees K) := ok__law_agrees T
  have O_Sightu__initu_ : COk P w K mg base "Sight" 2 (spInit K) := cok T
  have O_restricted : Ok P w K mg base "restricted" 4 (spRestr K) := ok_restricted T
  have O_crossed : Ok P w K mg base "crossed" 4 (spCross K) := ok_crossed T
  refine ok_of T.a__law_partb sc_law_partb (fun vs H Q E h => ?_) bi__law_partb fun cdv A outer s H vs Q E hr h => ?_
  · obtain ⟨a, ns, rfl, _⟩ := h
    rfl
  obtain ⟨a, ns, rfl, ha, hQ⟩ := h
  have big : (16777216 : Nat) ≤ sizeLine := by decide
  refine ⟨_, (pss_cons (ps_set (i := 1) sc_law_partb.nd rfl (by first | exact Or.inl rfl | exact Or.inr rfl) (pe_c (E := EN) O__law_draw_x hr (by decide) (fun σ => passN σ) (pa_cons (pv 0) pa_nil)))
  (pss_cons (ps_set (i := 2) sc_law_partb.nd rfl (by first | exact Or.inl rfl | exact Or.inr rfl) (pe_c (E := EN) O__law_marks hr (by decide) (fun σ => passN σ) (pa_cons (pe_ix (ixL K) (pv 1) pe_int (fun _ _ => rfl)) pa_nil)))
  (pss_cons (ps_set (i := 3) sc_law_partb.nd rfl (by first | exact Or.inl rfl | exact Or.inr rfl) (pe_c (E := EN) O__law_marks hr (by decide) (fun σ => passN σ) (pa_cons (pe_ix (ixL K) (pv 1) pe_int (fun _ _ => rfl)) pa_nil)))
  (pss_cons (ps_set (i := 4) sc_law_partb.nd rfl (by first | exact Or.inl rfl | exact Or.inr rfl) (pe_c (E := EN) O__law_cell hr (by decide) (fun σ => passN σ) (pa_cons (pv 0) (pa_cons pe_int pa_nil))))
  (pss_cons (ps_set (i := 5) sc_law_partb.nd rfl (by first | exact Or.inl rfl | exact Or.inr rfl) (pe_nK K (E := EN) O_Sightu__initu_ hr (by decide) (fun σ => passN σ) (pa_cons (pe_lc (own := [("mark", 6)]) (g := gName 6) rfl sc_law_partb.nd (pi_list (pe_ix (ixL K) (pv 1) pe_int (fun _ _ => rfl))) (blkOk_by (N := ["script", "rows", "first", "second", "low", "one", "mark", "two", "deals", "given", "due", "deal", "pairs", "turned", "other", "both", "j", "i", "k"]) (sc := defScope s_law_partb) (by decide +kernel)) (fun _ _ _ _ _ => (pg_name (i := 6) sc_law_partb.nd rfl (by first | exact Or.inl rfl | exact Or.inr rfl))) (fun _ _ _ _ _ => pts_nil) (fun _ _ _ _ _ => (pe_op op_add (pv 4) (pv 6)))) pa_nil)))
  (pss_cons (ps_set (i := 7) sc_law_partb.nd rfl (by first | exact Or.inl rfl | exact Or.inr rfl) (pe_nK K (E := EN) O_Sightu__initu_ hr (by decide) (fun σ => passN σ) (pa_cons (pe_callTy (tupK K) (by rfl) T.f_tuple (by decide +kernel) (pa_cons (pe_lc (own := [("mark", 6)]) (g := gName 6) rfl sc_law_partb.nd (pi_list (pe_ix (ixL K) (pv 1) pe_int (fun _ _ => rfl))) (blkOk_by (N := ["script", "rows", "first", "second", "low", "one", "mark", "two", "deals", "given", "due", "deal", "pairs", "turned", "other", "both", "j", "i", "k"]) (sc := defScope s_law_partb) (by decide +kernel)) (fun _ _ _ _ _ => (pg_name (i := 6) sc_law_partb.nd rfl (by first | exact Or.inl rfl | exact Or.inr rfl))) (fun _ _ _ _ _ => pts_nil) (fun _ _ _ _ _ => (pe_op op_sub (pv 6) (pv 4)))) pa_nil)) pa_nil)))
  (pss_cons (ps_set (i := 8) sc_law_partb.nd rfl (by first | exact Or.inl rfl | exact Or.inr rfl) (pe_c (E := EN) O__law_deals hr (by decide) (fun σ => passN σ) (pa_cons (pv 0) (pa_cons (pe_callB (lenK K) (by rfl) T.f_len boot_len (pa_cons (pv 2) pa_nil)) pa_nil))))
  (pss_cons (ps_set (i := 9) sc_law_partb.nd rfl (by first | exact Or.inl rfl | exact Or.inr rfl) (pe_callTy (lstK K) (by rfl) T.f_list (by decide +kernel) (pa_cons (pv 8) pa_nil)))
  (pss_cons (ps_set (i := 10) sc_law_partb.nd rfl (by first | exact Or.inl rfl | exact Or.inr rfl) (pe_c (E := EN) O__law_marks hr (by decide) (fun σ => passN σ) (pa_cons (pe_lc (own := [("deal", 11)]) (g := gName 11) rfl sc_law_partb.nd (pi_list (pv 8)) (blkOk_by (N := ["script", "rows", "first", "second", "low", "one", "mark", "two", "deals", "given", "due", "deal", "pairs", "turned", "other", "both", "j", "i", "k"]) (sc := defScope s_law_partb) (by decide +kernel)) (fun _ _ _ _ _ => (pg_name (i := 11) sc_law_partb.nd rfl (by first | exact Or.inl rfl | exact Or.inr rfl))) (fun _ _ _ _ _ => pts_nil) (fun _ _ _ _ _ => (pe_ix (ixL K) (pv 2) (pv 11) (fun _ _ => rfl)))) pa_nil)))
  (pss_cons (ps_if (PW.pt (pw_or (pt_not (pt_val (pe_c (E := EN) O__law_agrees hr (by decide) (fun σ => passN σ) (pa_cons (pe_c (E := EN) O_restricted hr (by decide) (fun σ => passN σ) (pa_cons (pv 5) (pa_cons (pv 9) pa_nil))) (pa_cons (pv 10) pa_nil))))) (pw_or1 (pt_not (pt_val (pe_c (E := EN) O__law_agrees hr (by decide) (fun σ => passN σ) (pa_cons (pe_c (E := EN) O_restricted hr (by decide) (fun σ => passN σ) (pa_cons (pv 5) (pa_cons (pe_callTy (tupK K) (by rfl) T.f_tuple (by decide +kernel) (pa_cons (pv 8) pa_nil)) pa_nil))) (pa_cons (pv 10) pa_nil))))))))
  (pss_one (ps_ret pe_bl))
  pss_nil)
  (pss_cons (ps_set (i := 12) sc_law_partb.nd rfl (by first | exact Or.inl rfl | exact Or.inr rfl) (pe_lst pa_nil))
  (pss_cons (ps_set (i := 13) sc_law_partb.nd rfl (by first | exact Or.inl rfl | exact Or.inr rfl) (pe_lst pa_nil))
  (pss_cons (ps_for PassesOwn.never rfl (pi_list (pv 2)) (pg_name (i := 6) sc_law_partb.nd rfl (by first | exact Or.inl rfl | exact Or.inr rfl))
  (pss_one (ps_set (i := 12) sc_law_partb.nd rfl (by first | exact Or.inl rfl | exact Or.inr rfl) (pe_op op_cat (pv 12) (pe_lc (own := [("other", 14)]) (g := gName 14) rfl sc_law_partb.nd (pi_list (pv 3)) (blkOk_by (N := ["script", "rows", "first", "second", "low", "one", "mark", "two", "deals", "given", "due", "deal", "pairs", "turned", "other", "both", "j", "i", "k"]) (sc := defScope s_law_partb) (by decide +kernel)) (fun _ _ _ _ _ => (pg_name (i := 14) sc_law_partb.nd rfl (by first | exact Or.inl rfl | exact Or.inr rfl))) (fun _ _ _ _ _ => pts_nil) (fun _ _ _ _ _ => (pe_tup (pa_cons (pv 6) (pa_cons (pv 14) pa_nil)))))))))
  (pss_cons (ps_for PassesOwn.never rfl (pi_list (pv 3)) (pg_name (i := 6) sc_law_partb.nd rfl (by first | exact Or.inl rfl | exact Or.inr rfl))
  (pss_one (ps_set (i := 13) sc_law_partb.nd rfl (by first | exact Or.inl rfl | exact Or.inr rfl) (pe_op op_cat (pv 13) (pe_lc (own := [("other", 14)]) (g := gName 14) rfl sc_law_partb.nd (pi_list (pv 2)) (blkOk_by (N := ["script", "rows", "first", "second", "low", "one", "mark", "two", "deals", "given", "due", "deal", "pairs", "turned", "other", "both", "j", "i", "k"]) (sc := defScope s_law_partb) (by decide +kernel)) (fun _ _ _ _ _ => (pg_name (i := 14) sc_law_partb.nd rfl (by first | exact Or.inl rfl | exact Or.inr rfl))) (fun _ _ _ _ _ => pts_nil) (fun _ _ _ _ _ => (pe_tup (pa_cons (pv 6) (pa_cons (pv 14) pa_nil)))))))))
  (pss_cons (ps_set (i := 15) sc_law_partb.nd rfl (by first | exact Or.inl rfl | exact Or.inr rfl) (pe_c (E := EN) O_crossed hr (by decide) (fun σ => passN σ) (pa_cons (pv 5) (pa_cons (pv 7) pa_nil))))
  (pss_cons (ps_if (PW.pt (pw_or (pt_not (pt_val (pe_c (E := EN) O__law_agrees hr (by decide) (fun σ => passN σ) (pa_cons (pv 15) (pa_cons (pe_c (E := EN) O__law_marks hr (by decide) (fun σ => passN σ) (pa_cons (pv 12) pa_nil)) pa_nil))))) (pw_or1 (pt_not (pt_val (pe_c (E := EN) O__law_agrees hr (by decide) (fun σ => passN σ) (pa_cons (pe_c (E := EN) O_crossed hr (by decide) (fun σ => passN σ) (pa_cons (pv 7) (pa_cons (pv 5) pa_nil))) (pa_cons (pe_c (E := EN) O__law_marks hr (by decide) (fun σ => passN σ) (pa_cons (pv 13) pa_nil)) pa_nil))))))))
  (pss_one (ps_ret pe_bl))
  pss_nil)
  (pss_cons (ps_set (i := 16) sc_law_partb.nd rfl (by first | exact Or.inl rfl | exact Or.inr rfl) (pe_op op_modN (pe_callTy call_int1 (by rfl) T.f_int (by decide +kernel) (pa_cons (pe_c (E := EN) O__law_cell hr (by decide) (fun σ => passN σ) (pa_cons (pv 0) (pa_cons pe_int pa_nil))) pa_nil)) (pe_callB (lenK K) (by rfl) T.f_len boot_len (pa_cons (pv 3) pa_nil))))
  (pss_cons (ps_set (i := 17) sc_law_partb.nd rfl (by first | exact Or.inl rfl | exact Or.inr rfl) (pe_op op_modN (pe_callTy call_int1 (by rfl) T.f_int (by decide +kernel) (pa_cons (pe_c (E := EN) O__law_cell hr (by decide) (fun σ => passN σ) (pa_cons (pv 0) (pa_cons pe_int pa_nil))) pa_nil)) (pe_callB (lenK K) (by rfl) T.f_len boot_len (pa_cons (pv 2) pa_nil))))
  (pss_cons (ps_if (pt_not (pt_val (pe_c (E := EN) O__law_agrees hr (by decide) (fun σ => passN σ) (pa_cons (pe_c (E := EN) O_restricted hr (by decide) (fun σ => passN σ) (pa_cons (pv 15) (pa_cons (pe_lc (own := [("k", 18)]) (g := gName 18) rfl sc_law_partb.nd (pi_range1 rfl T.f_range (pa_cons (pe_callB (lenK K) (by rfl) T.f_len boot_len (pa_cons (pv 2) pa_nil)) pa_nil)) (blkOk_by (N := ["script", "rows", "first", "second", "low", "one", "mark", "two", "deals", "given", "due", "deal", "pairs", "turned", "other", "both", "j", "i", "k"]) (sc := defScope s_law_partb) (by decide +kernel)) (fun _ _ _ _ _ => (pg_name (i := 18) sc_law_partb.nd rfl (by first | exact Or.inl rfl | exact Or.inr rfl))) (fun _ _ _ _ _ => pts_nil) (fun _ _ _ _ _ => (pe_op op_add (pe_op op_mul (pv 18) (pe_callB (lenK K) (by rfl) T.f_len boot_len (pa_cons (pv 3) pa_nil))) (pv 16)))) pa_nil))) (pa_cons (pv 2) pa_nil)))))
  (pss_one (ps_ret pe_bl))
  pss_nil)
  (pss_cons (ps_if (pt_not (pt_val (pe_c (E := EN) O__law_agrees hr (by decide) (fun σ => passN σ) (pa_cons (pe_c (E := EN) O_restricted hr (by decide) (fun σ => passN σ) (pa_cons (pv 15) (pa_cons (pe_lc (own := [("k", 18)]) (g := gName 18) rfl sc_law_partb.nd (pi_range1 rfl T.f_range (pa_cons (pe_callB (lenK K) (by rfl) T.f_len boot_len (pa_cons (pv 3) pa_nil)) pa_nil)) (blkOk_by (N := ["script", "rows", "first", "second", "low", "one", "mark", "two", "deals", "given", "due", "deal", "pairs", "turned", "other", "both", "j", "i", "k"]) (sc := defScope s_law_partb) (by decide +kernel)) (fun _ _ _ _ _ => (pg_name (i := 18) sc_law_partb.nd rfl (by first | exact Or.inl rfl | exact Or.inr rfl))) (fun _ _ _ _ _ => pts_nil) (fun _ _ _ _ _ => (pe_op op_add (pe_op op_mul (pv 17) (pe_callB (lenK K) (by rfl) T.f_len boot_len (pa_cons (pv 3) pa_nil))) (pv 18)))) pa_nil))) (pa_cons (pv 3) pa_nil)))))
  (pss_one (ps_ret pe_bl))
  pss_nil)
  (pss_cons (ps_if (PW.pt (pw_or (pt_not (pt_val (pe_c (E := EN) O__law_agrees hr (by decide) (fun σ => passN σ) (pa_cons (pe_c (E := EN) O_restricted hr (by decide) (fun σ => passN σ) (pa_cons (pv 5) (pa_cons (pe_lc (own := [("k", 18)]) (g := gName 18) rfl sc_law_partb.nd (pi_range1 rfl T.f_range (pa_cons (pe_callB (lenK K) (by rfl) T.f_len boot_len (pa_cons (pv 2) pa_nil)) pa_nil)) (blkOk_by (N := ["script", "rows", "first", "second", "low", "one", "mark", "two", "deals", "given", "due", "deal", "pairs", "turned", "other", "both", "j", "i", "k"]) (sc := defScope s_law_partb) (by decide +kernel)) (fun _ _ _ _ _ => (pg_name (i := 18) sc_law_partb.nd rfl (by first | exact Or.inl rfl | exact Or.inr rfl))) (fun _ _ _ _ _ => pts_nil) (fun _ _ _ _ _ => (pv 18))) pa_nil))) (pa_cons (pv 2) pa_nil))))) (pw_or1 (pt_cmpR (neK K (hu := hr.units)) (pv 9) (pv 8) (nomark _)))))
  (pss_one (ps_ret pe_bl))
  pss_nil)
  (pss_cons (ps_if (PW.pt (pw_or (pt_not (pt_val (pe_c (E := EN) O__law_agrees hr (by decide) (fun σ => passN σ) (pa_cons (pe_c (E := EN) O_restricted hr (by decide) (fun σ => passN σ) (pa_cons (pv 5) (pa_cons (pv 9) pa_nil))) (pa_cons (pv 10) pa_nil))))) (pw_or1 (pt_not (pt_val (pe_c (E := EN) O__law_agrees hr (by decide) (fun σ => passN σ) (pa_cons (pv 15) (pa_cons (pe_c (E := EN) O__law_marks hr (by decide) (fun σ => passN σ) (pa_cons (pv 12) pa_nil)) pa_nil))))))))
  (pss_one (ps_ret pe_bl))
  pss_nil)
  (pss_one (ps_ret (pe_and (pe_c (E := EN) O__law_agrees hr (by decide) (fun σ => passN σ) (pa_cons (pv 5) (pa_cons (pv 2) pa_nil))) (pe_one (pe_c (E := EN) O__law_agrees hr (by decide) (fun σ => passN σ) (pa_cons (pv 7) (pa_cons (pv 3) pa_nil))))))))))))))))))))))))))))), ?_⟩
  refine ⟨_, rfl, a, ns, rfl, ha, fun H1 R a1 b1 A B s1 nR hR hA hB pA pB pAB => ?_⟩
  obtain ⟨lA, lB⟩ := mul_le pA pB pAB
  refine ⟨_, rfl, R, _, _, .ref a1, rfl, rfl, .inl (.inl hR), atI_nat (j := 0) rfl, a1, nV A, ren A, rfl, by rw [nV_len]; omega, .inl (.inl hA), .inl ⟨_, nV_int A, (ren_map ci).symm⟩, fun H2 pf s2 nf hf => ?_⟩
  have hR2 := s2 _ _ hR
  refine ⟨_, rfl, R, _, _, .ref b1, rfl, rfl, .inl (.inl hR2), atI_nat (j := 1) rfl, b1, nV B, ren B, rfl, by rw [nV_len]; omega, .inl (.inl (s2 _ _ hB)), .inl ⟨_, nV_int B, (ren_map ci).symm⟩, fun H3 pg s3 ng hg => ?_⟩
  have rf := row_ren A
  have rg := row_ren B
  have lf : (ren A).length = A.length := ren_len A
  have lg : (ren B).length = B.length := ren_len B
  have hf3 := s3 _ _ hf
  have hR3 := s3 _ _ hR2
  have hA3 := s3 _ _ (s2 _ _ hA)
  have hB3 := s3 _ _ (s2 _ _ hB)
  have s03 := same2 s1 (same2 s2 s3)
  refine ⟨_, rfl, a, ns, 6, rfl, Same.seq s03 ha, fun low => ?_⟩
  -- one
  refine ⟨_, rfl, R, _, _, .ref a1, rfl, rfl, .inl (.inl hR3), atI_nat (j := 0) rfl, a1, rfl, ⟨_, .inl (.inl hA3)⟩, fun D nD => ?_⟩
  refine lc_it (walk_list (K := K) (a := a1) (xs := nV A)) (fun i H4 => H4 D = some (.lst (((A.take i).map fun x => low + ((x : Nat) : Int)).map V.int)) ∧ Same H3 H4) ⟨upd_same .., same_new nD⟩ (fun i H4 _ h => .inl (.inl (h.2 _ _ hA3))) ?_ ?_
  · rintro i x0 H4 H5 hi ⟨q1, q2⟩ ⟨rfl, hx⟩
    obtain ⟨x, hx2, rfl⟩ := of_nV hx
    rw [nV_len] at hi
    refine ⟨rfl, _, rfl, _, rfl, _, _, rfl, rfl, _, q1, by rw [List.length_map, List.length_map, List.length_take]; omega, ?_, same_put nD q2⟩
    rw [upd_same, iV_snoc, take_map hx2]
  rintro H4 ⟨q1, q2⟩
  rw [nV_len, List.take_length] at q1
  have hm1 : MarksAt K H4 D (ren A) := ⟨_, by rw [List.length_map, List.length_map]; omega, .inl ⟨_, rfl, (ren_map (f := fun x : Nat => low + ((x : Nat) : Int)) fun x y z => by omega).symm, .inl (.inl (.inl q1))⟩⟩
  refine make_fin hm1 (fun _ H5 p1 s5 np1 h1 => ?_) (fun e => absurd e (by omega))
  -- two
  have s35 := same2 q2 s5
  have hR5 := s35 _ _ hR3
  have hB5 := s35 _ _ hB3
  refine ⟨_, rfl, R, _, _, .ref b1, rfl, rfl, .inl (.inl hR5), atI_nat (j := 1) rfl, b1, rfl, ⟨_, .inl (.inl hB5)⟩, fun D2 nD2 => ?_⟩
  refine lc_it (walk_list (K := K) (a := b1) (xs := nV B)) (fun i H6 => H6 D2 = some (.lst (((B.take i).map fun x => ((x : Nat) : Int) - low).map V.int)) ∧ Same H5 H6) ⟨upd_same .., same_new nD2⟩ (fun i H6 _ h => .inl (.inl (h.2 _ _ hB5))) ?_ ?_
  · rintro i x0 H6 H7 hi ⟨q3, q4⟩ ⟨rfl, hx⟩
    obtain ⟨x, hx2, rfl⟩ := of_nV hx
    rw [nV_len] at hi
    refine ⟨rfl, _, rfl, _, rfl, _, _, rfl, rfl, _, q3, by rw [List.length_map, List.length_map, List.length_take]; omega, ?_, same_put nD2 q4⟩
    rw [upd_same, iV_snoc, take_map hx2]
  rintro H6 ⟨q3, q4⟩
  rw [nV_len, List.take_length] at q3
  refine ⟨D2, _, rfl, .inl ⟨.inl (.inl q3), fun tp ntp => ?_⟩⟩
  have stp := same_new (o := .tup ((B.map fun x => ((x : Nat) : Int) - low).map V.int)) ntp
  have hm2 : MarksAt K (upd H6 tp (.tup ((B.map fun x => ((x : Nat) : Int) - low).map V.int))) tp (ren B) := ⟨_, by rw [List.length_map, List.length_map]; omega, .inl ⟨_, rfl, (ren_map (f := fun x : Nat => ((x : Nat) : Int) - low) fun x y z => by omega).symm, .inr (.inl (.inl (upd_same ..)))⟩⟩
  refine make_fin hm2 (fun _ H7 p2 s7' np2 h2 => ?_) (fun e => absurd e (by omega))
  have s57 : Same H5 H7 := same2 q4 (same2 stp s7')
  have s37 := same2 s35 s57
  have C : B2 K H7 a ns pf pg p1 p2 (ren A) (ren B) := ⟨Same.seq (same2 s03 s37) ha, s37 _ _ hf3, s37 _ _ hg, h1.same s57, h2⟩
  clear h1 h2 hm1 hm2
  have pA : 0 < (ren A).length := by omega
  have pB : 0 < (ren B).length := by omega
  rw [← lf, ← lg] at pAB
  rw [← lf] at lA
  rw [← lg] at lB
  generalize ren A = f at rf C pA pAB lA
  generalize ren B = g at rg C pB pAB lB
  -- deals
  refine ⟨_, rfl, _, rfl, pf, _, rfl, .inl (.inl (.inl C.ff)), ?_⟩
  rw [nV_len]
  refine ⟨a, ns, f.length, rfl, C.sc, pA, lA, fun HA pd ds sA npd hpd d0 d1 d2 => ?_⟩
  have C := C.same sA
  refine ⟨_, rfl, pd, _, rfl, .inl (.inl (.inl hpd)), fun pv npv => ?_⟩
  have sv := same_new (o := .lst (nV ds)) npv
  have hpv : upd HA pv (.lst (nV ds)) pv = some (.lst (nV ds)) := upd_same ..
  have C := C.same sv
  have hpd := sv _ _ hpd
  generalize upd HA pv (.lst (nV ds)) = HB at C hpd hpv
  refine ⟨_, rfl, pd, rfl, ⟨_, .inl (.inl hpd)⟩, fun D3 nD3 => ?_⟩
  refine lc_it (walk_list (K := K) (a := pd) (xs := nV ds)) (fun i H4 => H4 D3 = some (.lst (nV ((ds.take i).map fun i => at0 f i))) ∧ Same HB H4) ⟨upd_same .., same_new nD3⟩ (fun i H4 _ h => .inl (.inl (h.2 _ _ hpd))) ?_ ?_
  · rintro i x0 H4 H5 hi ⟨q1, q2⟩ ⟨rfl, hx⟩
    obtain ⟨x, hx2, rfl⟩ := of_nV hx
    rw [nV_len] at hi
    refine ⟨rfl, _, rfl, _, rfl, pf, _, _, _, rfl, rfl, .inl (.inl (q2 _ _ C.ff)), atI_nat (nV_at0 (d2 x (List.mem_of_getElem? hx2))), _, q1, by rw [nV_len, List.length_map, List.length_take]; exact fewS (by omega), ?_, same_put nD3 q2⟩
    rw [upd_same, nV_snoc, take_map hx2]
  rintro HC ⟨q1, q2⟩
  rw [nV_len, List.take_length] at q1
  have C := C.same q2
  have hpd := q2 _ _ hpd
  have hpv := q2 _ _ hpv
  refine ⟨D3, _, ren (ds.map fun i => at0 f i), rfl, by rw [nV_len, List.length_map]; omega, .inl (.inl q1), .inl ⟨_, nV_int _, (ren_map ci).symm⟩, fun HD pu sD npu hpu => ?_⟩
  have C := C.same sD
  have E : B3 HD pd pv pu f ds := ⟨sD _ _ hpd, sD _ _ hpv, hpu⟩
  clear hpd hpv hpu q1
  -- restricted
  refine ⟨_, rfl, _, rfl, p1, pv, f, ds, rfl, C.one, .inl (.inl (.inl E.gv)), d0, by omega, d2, fun HX x sx nx hx => ?_⟩
  have C := C.same sx
  have E := E.same sx
  refine ⟨_, rfl, x, pu, _, rfl, hx, .inl (.inl E.du), fun HY sy => ⟨true, rfl, ?_⟩⟩
  refine iteF ?_
  have C := C.same sy
  have E := E.same sy
  refine ⟨_, rfl, _, rfl, pd, _, rfl, .inl ⟨.inl (.inl E.dl), fun tp ntp => ?_⟩⟩
  have stp := same_new (o := .tup (nV ds)) ntp
  refine ⟨p1, tp, f, ds, rfl, C.one.same stp, .inr (.inl (.inl (upd_same ..))), d0, by omega, d2, fun HX x sx nx hx => ?_⟩
  have C := C.same (same2 stp sx)
  have E := E.same (same2 stp sx)
  refine ⟨_, rfl, x, pu, _, rfl, hx, .inl (.inl E.du), fun HZ sy => ⟨true, rfl, ?_⟩⟩
  refine iteF ?_
  have C := C.same sy
  have E := E.same sy
  -- pairs, turned
  refine ⟨Nat.zero_le _, fun P0 nP0 => ?_⟩
  have sP0 := same_new (o := .lst []) nP0
  have hP0 : PrsAt (upd HZ P0 (.lst [])) P0 [] := ⟨[], upd_same .., .nil⟩
  refine ⟨Nat.zero_le _, fun T0 nT0 => ?_⟩
  have sT0 := same_new (o := .lst []) nT0
  have hT0 : PrsAt (upd (upd HZ P0 (.lst [])) T0 (.lst [])) T0 [] := ⟨[], upd_same .., .nil⟩
  have hP0 := hP0.same sT0
  have C := C.same (same2 sP0 sT0)
  have E := E.same (same2 sP0 sT0)
  generalize upd (upd HZ P0 (.lst [])) T0 (.lst []) = HL at C E hP0 hT0
  refine ⟨_, rfl, pf, rfl, ⟨_, .inl (.inl C.ff)⟩, for_list (xs := nV f) (fun i σ HS => ∃ PL m6, σ = [some (.ref a), some (.ref R), some (.ref pf), some (.ref pg), some (.int low), some (.ref p1), m6, some (.ref p2), some (.ref pd), some (.ref pv), some (.ref pu), none, some (.ref PL), some (.ref T0), none, none, none, none, none] ∧ PrsAt HS PL (prod (f.take i) g) ∧ Same HL HS) ?_ ?_ ?_ ?_⟩
  · exact ⟨P0, none, rfl, hP0, fun b o q => q⟩
  · rintro i σ HS _ ⟨_, _, _, _, q⟩
    exact .inl (.inl (q _ _ C.ff))
  · rintro i x0 σ HS hx0 ⟨PL, m6, rfl, hP, sS⟩
    obtain ⟨x, hx, rfl⟩ := of_nV hx0
    have li : i < f.length := ltE hx
    have hyy := sS _ _ C.gg
    refine ⟨_, rfl, _, rfl, pg, rfl, ⟨_, .inl (.inl hyy)⟩, fun D nD => ?_⟩
    refine lc_it (walk_list (K := K) (a := pg) (xs := nV g)) (fun j H3 => Prs HS H3 D ((g.take j).map fun b => (x, b))) ⟨[], upd_same .., .nil, same_new nD⟩ (fun j H3 _ h => ?_) ?_ ?_
    · obtain ⟨_, _, _, h3⟩ := h
      exact .inl (.inl (h3 _ _ hyy))
    · rintro j y0 H3 H4 hj ⟨ts, t1, t2, t3⟩ ⟨rfl, hy⟩
      obtain ⟨y, hy2, rfl⟩ := of_nV hy
      rw [nV_len] at hj
      refine ⟨rfl, _, rfl, _, rfl, by show 2 ≤ sizeLine; decide, fun t nt => ?_⟩
      have lts : ts.length < 16777216 := by
        rw [Paired.length t2, List.length_map, List.length_map, List.length_take]
        omega
      refine ⟨_, same_new nt _ _ t1, by rw [List.length_map]; omega, ?_⟩
      have q := Prs.put nD t1 t2 t3 nt (x, y)
      rw [take_map (h := fun b => (x, b)) hy2]
      exact q
    rintro H3 ⟨ts, t1, t2, t3⟩
    rw [nV_len, List.take_length] at t2
    obtain ⟨us, u1, u2⟩ := hP.same t3
    have lus : us.length = i * g.length := by
      rw [Paired.length u2, List.length_map, fm_len, List.length_take]
      have : min i f.length = i := by omega
      rw [this]
    have lts : ts.length = g.length := by rw [Paired.length t2, List.length_map, List.length_map]
    refine ⟨PL, D, _, _, rfl, rfl, u1, t1, ?_, fun q nq => ?_⟩
    · rw [List.length_map, List.length_map, lus, lts]
      have : (i + 1) * g.length ≤ f.length * g.length := Nat.mul_le_mul_right _ li
      rw [Nat.add_mul] at this
      have e2 : f.length * g.length ≤ 2000 := pAB
      omega
    have e : prod (f.take (i + 1)) g = prod (f.take i) g ++ g.map fun b => (x, b) := by
      unfold prod
      rw [List.take_add_one, hx, List.flatMap_append]
      simp
    refine ⟨q, _, rfl, ⟨us ++ ts, by rw [upd_same, List.map_append], ?_⟩, same2 sS (same2 t3 (same_new nq))⟩
    rw [e, List.map_append]
    exact papp (pimp (fun _ _ _ z => same_new nq _ _ z) u2) (pimp (fun _ _ _ z => same_new nq _ _ z) t2)
  rintro σ HL2 ⟨PL, m6, rfl, hPL, sPL⟩
  rw [nV_len, List.take_length] at hPL
  have C := C.same sPL
  have E := E.same sPL
  have hT0 := hT0.same sPL
  clear hP0
  refine ⟨_, rfl, pg, rfl, ⟨_, .inl (.inl C.gg)⟩, for_list (xs := nV g) (fun i σ HS => ∃ TL m6, σ = [some (.ref a), some (.ref R), some (.ref pf), some (.ref pg), some (.int low), some (.ref p1), m6, some (.ref p2), some (.ref pd), some (.ref pv), some (.ref pu), none, some (.ref PL), some (.ref TL), none, none, none, none, none] ∧ PrsAt HS TL (prod (g.take i) f) ∧ Same HL2 HS) ?_ ?_ ?_ ?_⟩
  · exact ⟨T0, m6, rfl, hT0, fun b o q => q⟩
  · rintro i σ HS _ ⟨_, _, _, _, q⟩
    exact .inl (.inl (q _ _ C.gg))
  · rintro i x0 σ HS hx0 ⟨TL, m6, rfl, hP, sS⟩
    obtain ⟨x, hx, rfl⟩ := of_nV hx0
    have li : i < g.length := ltE hx
    have hyy := sS _ _ C.ff
    refine ⟨_, rfl, _, rfl, pf, rfl, ⟨_, .inl (.inl hyy)⟩, fun D nD => ?_⟩
    refine lc_it (walk_list (K := K) (a := pf) (xs := nV f)) (fun j H3 => Prs HS H3 D ((f.take j).map fun b => (x, b))) ⟨[], upd_same .., .nil, same_new nD⟩ (fun j H3 _ h => ?_) ?_ ?_
    · obtain ⟨_, _, _, h3⟩ := h
      exact .inl (.inl (h3 _ _ hyy))
    · rintro j y0 H3 H4 hj ⟨ts, t1, t2, t3⟩ ⟨rfl, hy⟩
      obtain ⟨y, hy2, rfl⟩ := of_nV hy
      rw [nV_len] at hj
      refine ⟨rfl, _, rfl, _, rfl, by show 2 ≤ sizeLine; decide, fun t nt => ?_⟩
      have lts : ts.length < 16777216 := by
        rw [Paired.length t2, List.length_map, List.length_map, List.length_take]
        omega
      refine ⟨_, same_new nt _ _ t1, by rw [List.length_map]; omega, ?_⟩
      have q := Prs.put nD t1 t2 t3 nt (x, y)
      rw [take_map (h := fun b => (x, b)) hy2]
      exact q
    rintro H3 ⟨ts, t1, t2, t3⟩
    rw [nV_len, List.take_length] at t2
    obtain ⟨us, u1, u2⟩ := hP.same t3
    have lus : us.length = i * f.length := by
      rw [Paired.length u2, List.length_map, fm_len, List.length_take]
      have : min i g.length = i := by omega
      rw [this]
    have lts : ts.length = f.length := by rw [Paired.length t2, List.length_map, List.length_map]
    refine ⟨TL, D, _, _, rfl, rfl, u1, t1, ?_, fun q nq => ?_⟩
    · rw [List.length_map, List.length_map, lus, lts]
      have : (i + 1) * f.length ≤ g.length * f.length := Nat.mul_le_mul_right _ li
      rw [Nat.add_mul] at this
      have e2 : g.length * f.length ≤ 2000 := by rw [Nat.mul_comm]; exact pAB
      omega
    have e : prod (g.take (i + 1)) f = prod (g.take i) f ++ f.map fun b => (x, b) := by
      unfold prod
      rw [List.take_add_one, hx, List.flatMap_append]
      simp
    refine ⟨q, _, rfl, ⟨us ++ ts, by rw [upd_same, List.map_append], ?_⟩, same2 sS (same2 t3 (same_new nq))⟩
    rw [e, List.map_append]
    exact papp (pimp (fun _ _ _ z => same_new nq _ _ z) u2) (pimp (fun _ _ _ z => same_new nq _ _ z) t2)
  rintro σ HL22 ⟨TL, m6, rfl, hTL, sTL⟩
  rw [nV_len, List.take_length] at hTL
  have C := C.same sTL
  have E := E.same sTL
  have hPL := hPL.same sTL
  -- both
  have pBA : g.length * f.length ≤ 2000 := by rw [Nat.mul_comm]; exact pAB
  refine ⟨_, rfl, _, rfl, p1, p2, f, g, rfl, C.one, C.two, by omega, fun HX pb sx npb hb => ?_⟩
  have C := C.same sx
  have E := E.same sx
  have hPL := hPL.same sx
  have hTL := hTL.same sx
  have lpr : (prod f g).length = f.length * g.length := fm_len g f
  have lpr' : (prod g f).length = g.length * f.length := fm_len f g
  obtain ⟨us, u1, u2⟩ := id hPL
  have lus : us.length = f.length * g.length := by rw [Paired.length u2, List.length_map, lpr]
  refine ⟨_, rfl, _, rfl, PL, _, ren (prod f g), rfl, by rw [List.length_map]; omega, .inl (.inl u1), .inr ⟨us, (prod f g).map ip, rfl, (ren_map ip_inj).symm, u2⟩, fun HY pm sm npm hpm => ?_⟩
  have C := C.same sm
  have E := E.same sm
  have hb := SightAt.same sm hb
  refine ⟨pb, pm, _, rfl, hb, .inl (.inl hpm), fun HZ sz => ⟨true, rfl, ?_⟩⟩
  refine iteF ?_
  have C := C.same sz
  have E := E.same sz
  have hb := SightAt.same sz hb
  have hPL := hPL.same (same2 sm sz)
  have hTL := hTL.same (same2 sm sz)
  refine ⟨_, rfl, _, rfl, p2, p1, g, f, rfl, C.two, C.one, by omega, fun HX2 x sx2 nx hx => ?_⟩
  have C := C.same sx2
  have E := E.same sx2
  have hb := SightAt.same sx2 hb
  have hPL := hPL.same sx2
  obtain ⟨vs, v1, v2⟩ := hTL.same sx2
  have lvs : vs.length = g.length * f.length := by rw [Paired.length v2, List.length_map, lpr']
  refine ⟨_, rfl, TL, _, ren (prod g f), rfl, by rw [List.length_map]; omega, .inl (.inl v1), .inr ⟨vs, (prod g f).map ip, rfl, (ren_map ip_inj).symm, v2⟩, fun HY2 pm2 sm2 npm2 hpm2 => ?_⟩
  have C := C.same sm2
  have E := E.same sm2
  have hb := SightAt.same sm2 hb
  have hPL := hPL.same sm2
  refine ⟨x, pm2, _, rfl, SightAt.same sm2 hx, .inl (.inl hpm2), fun HZ2 sz2 => ⟨true, rfl, ?_⟩⟩
  refine iteF ?_
  have C := C.same sz2
  have E := E.same sz2
  have hb := SightAt.same sz2 hb
  have hPL := hPL.same sz2
  -- j, i
  refine ⟨_, rfl, a, ns, 4, rfl, C.sc, fun c4 => ?_⟩
  refine .inl ⟨_, rfl, _, rfl, pg, _, rfl, .inl (.inl (.inl C.gg)), _, _, rfl, rfl, ?_, ?_⟩
  · rw [nV_len]
    show ((g.length : Nat) : Int) ≠ 0
    omega
  rw [nV_len]
  obtain ⟨j, hj, lj⟩ := digit (a := c4) (n := g.length) pB
  dsimp only
  rw [← hj]
  refine ⟨_, rfl, a, ns, 5, rfl, C.sc, fun c5 => ?_⟩
  refine .inl ⟨_, rfl, _, rfl, pf, _, rfl, .inl (.inl (.inl C.ff)), _, _, rfl, rfl, ?_, ?_⟩
  · rw [nV_len]
    show ((f.length : Nat) : Int) ≠ 0
    omega
  rw [nV_len]
  obtain ⟨i, hi, li⟩ := digit (a := c5) (n := f.length) pA
  dsimp only
  rw [← hi]
  clear hj hi
  have bnd : ∀ k l, k < f.length → l < g.length → k * g.length + l < f.length * g.length := fun k l h1 h2 => by
    have : (k + 1) * g.length ≤ f.length * g.length := Nat.mul_le_mul_right _ h1
    rw [Nat.add_mul] at this
    omega
  -- the first sight
  refine ⟨_, rfl, _, rfl, pf, _, rfl, .inl (.inl (.inl C.ff)), _, rfl, by rw [nV_len]; omega, by rw [nV_len]; omega, fun D5 nD5 => ?_⟩
  have enf : (((nV f).length : Nat) : Int).toNat = f.length := by rw [nV_len]; omega
  have eng : (((nV g).length : Nat) : Int).toNat = g.length := by rw [nV_len]; omega
  rw [enf]
  refine lc_it walk_range (fun i H4 => H4 D5 = some (.lst (nV ((List.range i).map fun k => k * g.length + j))) ∧ Same HZ2 H4) ⟨upd_same .., same_new nD5⟩ (fun _ _ _ _ => trivial) ?_ ?_
  · rintro i x H4 H5 hi ⟨q1, q2⟩ ⟨rfl, hx⟩
    have hx : x = .int (i : Nat) := hx.trans (congrArg V.int (Int.zero_add _))
    subst hx
    refine ⟨rfl, _, rfl, _, rfl, pg, _, rfl, .inl (.inl (.inl (q2 _ _ C.gg))), _, _, rfl, rfl, .inl ⟨by omega, by omega⟩, _, rfl, _, _, rfl, rfl, _, q1, by rw [nV_len, List.length_map, List.length_range]; exact fewS (by omega), ?_, same_put nD5 q2⟩
    have ev : ((i : Nat) : Int) * (((nV g).length : Nat) : Int) + ((j : Nat) : Int) = ((i * g.length + j : Nat) : Int) := by rw [nV_len]; push_cast; rfl
    dsimp only
    rw [upd_same, ev, nV_snoc, List.range_succ, List.map_append] <;> rfl
  rintro H4 ⟨q1, q2⟩
  have C := C.same q2
  have E := E.same q2
  have hb := SightAt.same q2 hb
  have hPL := hPL.same q2
  refine ⟨pb, D5, _, _, rfl, hb, .inl (.inl (.inl q1)), by rw [List.length_map, List.length_range]; exact pA, by rw [List.length_map, List.length_range]; omega, fun x hx => ?_, fun HX3 x sx3 nx hx => ?_⟩
  · obtain ⟨k, hk, rfl⟩ := List.mem_map.mp hx
    rw [ren_len, lpr]
    exact bnd k j (List.mem_range.mp hk) lj
  rw [pick_first rf lj] at hx
  have C := C.same sx3
  refine ⟨_, rfl, x, pf, _, rfl, hx, .inl (.inl C.ff), fun HY3 sy3 => ⟨true, rfl, ?_⟩⟩
  refine iteF ?_
  have C := C.same sy3
  have E := E.same (same2 sx3 sy3)
  have hb := SightAt.same (same2 sx3 sy3) hb
  have hPL := hPL.same (same2 sx3 sy3)
  -- the second sight
  refine ⟨_, rfl, _, rfl, pg, _, rfl, .inl (.inl (.inl C.gg)), _, rfl, by rw [nV_len]; omega, by rw [nV_len]; omega, fun D6 nD6 => ?_⟩
  rw [eng]
  refine lc_it walk_range (fun k H4 => H4 D6 = some (.lst (nV ((List.range k).map fun k => i * g.length + k))) ∧ Same HY3 H4) ⟨upd_same .., same_new nD6⟩ (fun _ _ _ _ => trivial) ?_ ?_
  · rintro k x H4 H5 hk ⟨q1, q2⟩ ⟨rfl, hx⟩
    have hx : x = .int (k : Nat) := hx.trans (congrArg V.int (Int.zero_add _))
    subst hx
    refine ⟨rfl, _, rfl, _, rfl, pg, _, rfl, .inl (.inl (.inl (q2 _ _ C.gg))), _, _, rfl, rfl, .inl ⟨by omega, by omega⟩, _, rfl, _, _, rfl, rfl, _, q1, by rw [nV_len, List.length_map, List.length_range]; exact fewS (by omega), ?_, same_put nD6 q2⟩
    have ev : ((i : Nat) : Int) * (((nV g).length : Nat) : Int) + ((k : Nat) : Int) = ((i * g.length + k : Nat) : Int) := by rw [nV_len]; push_cast; rfl
    dsimp only
    rw [upd_same, ev, nV_snoc, List.range_succ, List.map_append] <;> rfl
  rintro H5 ⟨q3, q4⟩
  have C := C.same q4
  have E := E.same q4
  have hb := SightAt.same q4 hb
  have hPL := hPL.same q4
  refine ⟨pb, D6, _, _, rfl, hb, .inl (.inl (.inl q3)), by rw [List.length_map, List.length_range]; exact pB, by rw [List.length_map, List.length_range]; omega, fun x hx => ?_, fun HX4 x sx4 nx hx => ?_⟩
  · obtain ⟨k, hk, rfl⟩ := List.mem_map.mp hx
    rw [ren_len, lpr]
    exact bnd i k li (List.mem_range.mp hk)
  rw [pick_second rg li] at hx
  have C := C.same sx4
  refine ⟨_, rfl, x, pg, _, rfl, hx, .inl (.inl C.gg), fun HY4 sy4 => ⟨true, rfl, ?_⟩⟩
  refine iteF ?_
  have C := C.same sy4
  have E := E.same (same2 sx4 sy4)
  have hb := SightAt.same (same2 sx4 sy4) hb
  have hPL := hPL.same (same2 sx4 sy4)
  -- all of the first
  refine ⟨_, rfl, _, rfl, pf, _, rfl, .inl (.inl (.inl C.ff)), _, rfl, by rw [nV_len]; omega, by rw [nV_len]; omega, fun D7 nD7 => ?_⟩
  rw [enf]
  refine lc_it walk_range (fun k H4 => H4 D7 = some (.lst (nV (List.range k))) ∧ Same HY4 H4) ⟨upd_same .., same_new nD7⟩ (fun _ _ _ _ => trivial) ?_ ?_
  · rintro k x H4 H5 hk ⟨q1, q2⟩ ⟨rfl, hx⟩
    have hx : x = .int (k : Nat) := hx.trans (congrArg V.int (Int.zero_add _))
    subst hx
    refine ⟨rfl, _, rfl, _, q1, by rw [nV_len, List.length_range]; exact fewS (by omega), ?_, same_put nD7 q2⟩
    rw [upd_same, nV_snoc, List.range_succ]
  rintro H6 ⟨q5, q6⟩
  have C := C.same q6
  refine ⟨p1, D7, _, _, rfl, C.one, .inl (.inl (.inl q5)), by rw [List.length_range]; exact pA, by rw [List.length_range]; omega, fun x hx => List.mem_range.mp hx, fun HX5 x sx5 nx hx => ?_⟩
  rw [pick_all rf] at hx
  have C := C.same sx5
  refine ⟨_, rfl, x, pf, _, rfl, hx, .inl (.inl C.ff), fun HY5 sy5 => ⟨true, rfl, ?_⟩⟩
  refine iteF ?_
  have C := C.same sy5
  have E := E.same (same2 q6 (same2 sx5 sy5))
  have hb := SightAt.same (same2 q6 (same2 sx5 sy5)) hb
  have hPL := hPL.same (same2 q6 (same2 sx5 sy5))
  refine ⟨_, rfl, _, rfl, _, _, .lst (.inl (.inl E.gv)) (by rw [nV_int]; exact dpI _), .lst (.inl (.inl E.dl)) (by rw [nV_int]; exact dpI _), shI _, shI _, ?_⟩
  rw [eqvL, ints_eq]
  have z : (!decide (ds = ds)) = false := by simp
  rw [z]
  refine ⟨_, rfl, ?_⟩
  refine iteF ?_
  -- once more
  refine ⟨_, rfl, _, rfl, p1, pv, f, ds, rfl, C.one, .inl (.inl (.inl E.gv)), d0, by omega, d2, fun HX6 x sx6 nx hx => ?_⟩
  have C := C.same sx6
  have E := E.same sx6
  refine ⟨_, rfl, x, pu, _, rfl, hx, .inl (.inl E.du), fun HY6 sy6 => ⟨true, rfl, ?_⟩⟩
  refine iteF ?_
  have C := C.same sy6
  have hb := SightAt.same (same2 sx6 sy6) hb
  obtain ⟨us, u1, u2⟩ := hPL.same (same2 sx6 sy6)
  refine ⟨_, rfl, _, rfl, PL, _, ren (prod f g), rfl, by rw [List.length_map, Paired.length u2, List.length_map, lpr]; omega, .inl (.inl u1), .inr ⟨us, (prod f g).map ip, rfl, (ren_map ip_inj).symm, u2⟩, fun HZ6 pm6 sm6 npm6 hpm6 => ?_⟩
  have C := C.same sm6
  refine ⟨pb, pm6, _, rfl, SightAt.same sm6 hb, .inl (.inl hpm6), fun HZ7 sz7 => ⟨true, rfl, ?_⟩⟩
  refine iteF ?_
  have C := C.same sz7
  refine ⟨_, rfl, _, rfl, p1, pf, f, rfl, C.one, .inl (.inl C.ff), fun HA7 sa => ⟨true, rfl, ?_⟩⟩
  refine iteT ?_
  have C := C.same sa
  refine ⟨_, rfl, _, rfl, p2, pg, g, rfl, C.two, .inl (.inl C.gg), fun HB7 sb => ?_⟩
  exact hQ _ (C.same sb).sc
end
end K01
set_option Elab.async false
set_option linter.all false
set_option maxRecDepth 100000
set_option maxHeartbeats 4000000
namespace K01
open PySem PySem.Spec PyProof.Rows L2 Ms
section
variable {P : Program} {w : World} {K : PySem.W.Frag} {mg : Str → Option Value} {base : Heap}
theorem law_of (T : Tx K mg) {fd : FuncData} (F : FunD K "law" "law" (defArgs slaw) (defBody slaw) (defScope slaw) [] [] (He.ga K "law") fd) : FnOk P w K mg base CX0 7 (He.ga K "law") fd ["script"] (spPart K) := by
  have O__law_parta : Ok P w K mg base "_law_parta" 6 (spPart K) := ok__law_parta T
  have O__law_partb : Ok P w K mg base "_law_partb" 5 (spPart K) := ok__law_partb T
  refine F.ok sclaw (fun vs H Q E h => ?_) fun cdv A outer s H vs Q E hr h => ?_
  · obtain ⟨a, ns, rfl, _⟩ := h
    rfl
  obtain ⟨a, ns, rfl, ha, hQ⟩ := h
  refine ⟨_, PSs.nox (pss_cons (ps_if (pt_not (pt_val (pe_c (E := EN) O__law_parta hr (by decide) (fun σ => passN σ) (pa_cons (pv 0) pa_nil))))
  (pss_one (ps_ret pe_bl))
  pss_nil)
  (pss_one (ps_ret (pe_c (E := EN) O__law_partb hr (by decide) (fun σ => passN σ) (pa_cons (pv 0) pa_nil))))), ?_⟩
  refine ⟨_, rfl, a, ns, rfl, ha, fun H1 h1 => ⟨true, rfl, ?_⟩⟩
  refine iteF ?_
  exact ⟨_, rfl, a, ns, rfl, h1, hQ⟩
theorem facts {h : Heap} {f : Addr} (X : K.In h) (G : h.Ns mainGlobals mg) (hfa : mg ("law" : Str) = some (.ref f)) (c : SaysM fa fn K) :
    ∃ fd : FuncData, (∀ (s : Shared) (v : Value), BindsTo s fd ⟨[v], []⟩ [("script", v)]) ∧ ∀ base : Heap, K.In base → base.Ns mainGlobals mg → FnOk P w K mg base CX0 7 f fd ["script"] (spPart K) := by
  have T : Tx K mg := tx_of X G c
  have e := hfa.symm.trans T.gd_law
  cases e
  obtain ⟨fd, F⟩ := T.d_law
  have b := FunD.bindsA (ps := ["script"]) F bi_law
  refine ⟨fd, fun s v => b s [v] rfl, fun base _ _ => ?_⟩
  exact law_of T F
end
end K01
open PySem PySem.W PySem.Calls PyProof.Rows
theorem PySem.Challenge.cw_manysights_k01_tells_restricted_crossed_holds : PySem.Challenge.rw_manysights_k01_tells_restricted_crossed.Holds := by
  w_on; o_law
  refine HandSHeadRun.head_any (r := OpenLaw.row PySem.Challenge.rw_manysights_k01_tells_restricted_crossed) (q := view (OpenLaw.row PySem.Challenge.rw_manysights_k01_tells_restricted_crossed).prog [35]) (H := K01.hk) (ob := K01.ob) (M := 4000) (loose := K01.loose) (d := HandSHeadRun.topDef (OpenLaw.row PySem.Challenge.rw_manysights_k01_tells_restricted_crossed).prog 35) (kwd := []) K01.ob_eq
    (by kernel_rfl) (fun s => by kernel_rfl) K01.run (by kernel_rfl) (by kernel_rfl) (by kernel_rfl) (by rfl) (by first | assumption | decide +kernel) (by decide +kernel) ⟨rfl, rfl, rfl, rfl, rfl, by decide +kernel⟩ ?hw ?hc
  case hw => w_witness2
  case hc =>
    refine L2.walk_ofE (l := PySem.Challenge.rw_manysights_k01_tells_restricted_crossed) (n := 63) (k := 7) (x := "script") (CX := L2.CX0) rfl (by decide) (by kernel_rfl) ⟨by decide, by decide, by decide⟩ ?F (fun _ _ _ _ z => z)
    intro w mg fa h Y G hmg0
    obtain ⟨K, KX, c⟩ := Y
    have hmg : mg ("law" : PySem.Str) = some (.ref fa) := by
      have e : (HandSHeadRun.topDef (OpenLaw.row PySem.Challenge.rw_manysights_k01_tells_restricted_crossed).prog 35).name = ("law" : PySem.Str) := by kernel_rfl
      rw [← e]
      exact hmg0
    obtain ⟨fd, hb, hF⟩ := K01.facts (P := (PySem.Challenge.rw_manysights_k01_tells_restricted_crossed).prog) (w := w) KX G hmg c
    exact ⟨K, fd, K01.spPart K, KX, hb, fun H a ns hl _ hS => ⟨a, ns, rfl, hS, fun _ _ => rfl⟩, hF⟩
