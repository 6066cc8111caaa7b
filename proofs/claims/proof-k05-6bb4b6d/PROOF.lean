import PyProof.Rows.All
import Wide.All
import OpenK.AllK
import Wide.FinOn
import KE.KStateDown
import KE.KOpsOwn
import HandS.ForMost
import HandS.Exc
import HandS.TryOnly
import HandS.ExcOwn
import HandS.ExcInit
import HandS.ExcIs
import HandS.ExcField
import HandS.IsInst
import HandS.Property
import HandS.ClsMeth
import HandS.Zip
import HandS.Conv
import HandS.Defaults
import HandS.SetKeys
import HandS.TupLen
import HandS.Walk
import HandS.OwnEq
import HandS.WordsExc
import HandS.Head0
import HandS.Head1
import HandS.Head2
import HandS.HeadEnd
import HandS.HeadHook1
import HandS.HeadHook2
import KE.KExcIs
import KE.KDictZip
import KE.KItemsList
import KE.GoesNew
import HandS.Zip0
import HandS.ListItems
import KE.GoesMore
import KE.GoesEnum
import PyProof.Draws
import PyProof.EqKinds
import PyProof.DictMoreH
import HandS.Dict
import PyProof.WalkInts
import HandS.Iter
import HandS.Star
import HandS.TupMul
import KE.KDictPairs
import HandS.DictComp
import HandS.SortInts
import HandS.CallSlots
import HandS.SetFor
import HandS.Strs
import HandS.Deep
import PySem.Challenge.RW_manysights_k05_standings_compared
set_option Elab.async false
set_option linter.all false
set_option maxRecDepth 100000
set_option maxHeartbeats 4000000
/-! Ms, the core: rules of our own over the hand layer. -/
namespace Ms
open PySem PySem.Spec PyProof.Rows L2
abbrev St := L2.St

/-! ### no exception leaves -/
abbrev EN : St → XK := fun _ _ _ _ => False
theorem passN {X : Cx} (σ : St) : PassesAt (L2.CX X.prog X.w) X σ (fun _ _ _ => False) := fun _ _ _ _ _ _ c => by
  obtain ⟨_, _, _, _, _, _, _, _, _, _, _, _, h⟩ := c
  exact h.elim

/-! ### a def by its name -/
structure Ok (P : Program) (w : World) (K : PySem.W.Frag) (mg : Str → Option Value) (base : Heap) (x : Str) (k : Nat) (sp : Sp) : Prop where
  ex : ∃ fd ps, FnOk P w K mg base (L2.CX P w) k (He.ga K x) fd ps sp ∧ Binds K fd ps []
  mg : mg x = some (.ref (He.ga K x))
  kp : PySem.W.keepIn K (.ref (He.ga K x)) = true
/-- a method of the class named c -/
structure MOk (P : Program) (w : World) (K : PySem.W.Frag) (mg : Str → Option Value) (base : Heap) (c m : Str) (k : Nat) (sp : Sp) : Prop where
  ex : ∃ fd ps, FnOk P w K mg base (L2.CX P w) k (He.ma K (He.ga K c) m) fd ps sp ∧ Binds K fd ps []
  cl : Cls K (He.ga K c)
  me : Meth K (He.ga K c) m (He.ma K (He.ga K c) m)

section
variable {X : Cx} {k j : Nat} {sp : Sp} {E : St → XK} {x m c : Str} {p pos apos : Pos} {e o : Expr} {es : List Expr} {ta : TE} {t : TA}
/-- f(e, ..) -/
theorem pe_c (F : Ok X.prog X.w X.K X.mg X.base x k sp) (hr : Room j X.A) (hk : k ≤ j) (hx : ∀ σ, PassesAt (L2.CX X.prog X.w) X σ (E σ)) (ha : PA X (e :: es) t) (hg : Gl X x := by rfl)
    (hdb : (x == ("__debug__" : Str)) = false := by decide) (he : starEach (e :: es) X.env = (false, eval e X.env) :: starEach es X.env := by rfl) (hpl : (backTo pos (starEach es X.env)).any (·.1) = false := by rfl) :
    PE X (.Call (.Name x p) (e :: es) [] pos) (tCallS sp E t) := by
  obtain ⟨fd, ps, F1, hb⟩ := F.ex
  exact pe_callS F1 (hr.mono hk) hg F.mg F.kp hb hx ha hdb he hpl
def tMethS (C : Addr) (m : Str) (sp : Sp) (E : St → XK) (ta : TE) (t : TA) : TE := fun σ H Q => ta σ H fun x H1 => ∃ a dx fs, x = .ref a ∧ H1 a = some (.ins C dx fs) ∧ fs.lookup m = none ∧ t σ H1 fun vs H2 => sp (x :: vs) H2 Q (E σ)
/-- o.m(e, ..) -/
theorem pe_m {pl : Sem Bool} (F : MOk X.prog X.w X.K X.mg X.base c m k sp) (hr : Room j X.A) (hk : k ≤ j) (hx : ∀ σ, PassesAt (L2.CX X.prog X.w) X σ (E σ)) (he : PE X o ta) (ha : PA X (e :: es) t)
    (hst : starEach (e :: es) X.env = (false, eval e X.env) :: starEach es X.env := by rfl) (hpl : (backTo pos (starEach es X.env)).any (·.1) = false := by rfl)
    (ht : eval (.Call (.Attribute o m apos) (e :: es) [] pos) X.env = (do
      let ov ← eval o X.env
      standAt apos.atName
      let (f, first) ← holding [ov] (getMethod ov m pl)
      callWith pos f first (backTo pos (starEach (e :: es) X.env)) (backToKw pos (keywordEach [] X.env))) := by rfl) :
    PE X (.Call (.Attribute o m apos) (e :: es) [] pos) (tMethS (He.ga X.K c) m sp E ta t) := by
  obtain ⟨fd, ps, F1, hb⟩ := F.ex
  refine ⟨fun pins s σ H Q I h => ?_⟩
  refine PySem.W.methodCall_KW (pl := pl) (thn (he.run pins s σ H _ I h) fun u s1 ⟨x, H1, I1, rx, a, dx, fs, ex, ea, l, q⟩ => ?_) ht
  subst ex
  obtain rfl : u = Value.ref a := rx
  refine getmeth_ok I1 ea F.cl F.me l ?_
  refine PySem.W.callWith_K (first := [.ref a]) (h₀ := X.base) I.ok.mod.kin F.me.kp (thn (ha.run pos pins s1 σ H1 _ I1 q) fun us s2 ⟨vs, H2, I2, r, q2⟩ => ⟨I2.kIn, ?_⟩) hst hpl
  exact run_fnS (us := .ref a :: us) (vs := .ref a :: vs) F1 (hr.mono hk) hb (hx σ) I2 (.cons rfl r) q2

/-! ### a new instance -/
/-- the class named c, its __init__ -/
structure COk (P : Program) (w : World) (K : PySem.W.Frag) (mg : Str → Option Value) (base : Heap) (c : Str) (k : Nat) (sp : Sp) : Prop where
  ex : ∃ fd ps, FnOk P w K mg base (L2.CX P w) k (He.ma K (He.ga K c) "__init__") fd ps sp ∧ Binds K fd ps []
  mkr : Mk K (He.ga K c) (He.ma K (He.ga K c) "__init__")
  mg : mg c = some (.ref (He.ga K c))
def tMakeS (C : Addr) (sp : Sp) (E : St → XK) (t : TA) : TE := fun σ H Q => t σ H fun vs H1 => ∀ x dx, H1 x = none → H1 dx = none → dx ≠ x →
  sp (.ref x :: vs) (upd (upd H1 dx (.own x)) x (.ins C dx [])) (fun v H2 => v = .non ∧ Q (.ref x) H2) (E σ)
/-- what the maker's exception finds: the new instance is dropped -/
theorem run_makeS {pins : List (Addr × Obj)} {σ : St} {H : Hp} {s : Shared} {Q : VK} {us : List Value} {vs : List V} {C f : Addr} {fd : FuncData} {ps : List Str} {E : XK} (M : Mk X.K C f) (F : FnOk X.prog X.w X.K X.mg X.base (L2.CX X.prog X.w) k f fd ps sp) (hr : Room (k + 1) X.A) (hb : Binds X.K fd ps [])
    (hx : PassesAt (L2.CX X.prog X.w) X σ E) (I : Inv X pins σ H s) (r : Vals vs us)
    (h : ∀ x dx, H x = none → H dx = none → dx ≠ x → sp (.ref x :: vs) (upd (upd H dx (.own x)) x (.ins C dx [])) (fun v H2 => v = .non ∧ Q (.ref x) H2) E) :
    wpAny (model X.prog X.w) X.A (call (.ref C) us) (EP X pins σ Q) X.xe s := by
  have hq := h (s.heap.objs.size + 1) s.heap.objs.size (I.hok.fresh (Nat.le_succ _)) (I.hok.fresh (Nat.le_refl _)) (Nat.ne_of_lt (Nat.lt_succ_self _))
  have I2 := Inv.made (C := C) I
  have r2 : Vals (V.ref (s.heap.objs.size + 1) :: vs) (Value.ref (s.heap.objs.size + 1) :: us) := .cons rfl r
  have hl : (Value.ref (s.heap.objs.size + 1) :: us).length = ps.length := by
    have e := r2.length
    rw [F.len _ _ _ _ hq] at e
    exact e.symm
  have b := hb _ (Value.ref (s.heap.objs.size + 1) :: us) I2.kIn (by rw [List.append_nil]; exact hl)
  rw [List.append_nil] at b
  refine wpAny_call (make_map (f := f) I.kIn M.makes M.init (beq_iff_eq.mp M.fn) (codeAny_mono (F.run _ X.stack _ _ ⟨Value.ref (s.heap.objs.size + 1) :: us, []⟩ (Value.ref (s.heap.objs.size + 1) :: us) _ _ E (hr.make C us [])
    (I2.env0.make C us []) b r2 hq) fun r s' hq' => ?_))
  cases r with
  | error e => exact hx pins _ _ e s' I2 hq'
  | ok fl =>
    cases fl with
    | ret u =>
      obtain ⟨v, H', I3, rv, ev, q3⟩ := I2.after hq'
      subst ev
      exact ⟨rv, ⟨V.ref (s.heap.objs.size + 1), H', I3, rfl, q3⟩⟩
    | next => exact False.elim hq'
    | brk => exact False.elim hq'
    | cont => exact False.elim hq'
/-- C(e, ..) -/
theorem pe_n (F : COk X.prog X.w X.K X.mg X.base x k sp) (hr : Room j X.A) (hk : k + 1 ≤ j) (hx : ∀ σ, PassesAt (L2.CX X.prog X.w) X σ (E σ)) (ha : PA X (e :: es) t) (hg : Gl X x := by rfl)
    (hdb : (x == ("__debug__" : Str)) = false := by decide) (he : starEach (e :: es) X.env = (false, eval e X.env) :: starEach es X.env := by rfl) (hpl : (backTo pos (starEach es X.env)).any (·.1) = false := by rfl) :
    PE X (.Call (.Name x p) (e :: es) [] pos) (tMakeS (He.ga X.K x) sp E t) := by
  obtain ⟨fd, ps, F1, hb⟩ := F.ex
  refine ⟨fun pins s σ H Q I h => ?_⟩
  refine wpAny_Call_Name_kw (ld_glob I hg F.mg ?_ hdb)
  refine PySem.W.callWith_K (h₀ := X.base) I.ok.mod.kin F.mkr.kp (thn (ha.run pos pins s σ H _ I h) fun us s1 ⟨vs, H1, I1, r, q⟩ => ⟨I1.kIn, ?_⟩) he hpl
  exact run_makeS F.mkr F1 (hr.mono hk) hb (hx σ) I1 r q
/-- cls(e, ..), cls a local name that holds the class -/
theorem pe_nL {i : Nat} (F : COk X.prog X.w X.K X.mg X.base c k sp) (hr : Room j X.A) (hk : k + 1 ≤ j) (hx : ∀ σ, PassesAt (L2.CX X.prog X.w) X σ (E σ)) (ha : PA X (e :: es) t)
    (hN : X.N[i]? = some x) (hv : Vis X.env.scope x)
    (hdb : (x == ("__debug__" : Str)) = false := by decide) (hcd : (x == ("__classdict__" : Str)) = false := by decide) (he : starEach (e :: es) X.env = (false, eval e X.env) :: starEach es X.env := by rfl) (hpl : (backTo pos (starEach es X.env)).any (·.1) = false := by rfl) :
    PE X (.Call (.Name x p) (e :: es) [] pos) (fun σ H Q => σ[i]? = some (some (.ref (He.ga X.K c))) ∧ tMakeS (He.ga X.K c) sp E t σ H Q) := by
  obtain ⟨fd, ps, F1, hb⟩ := F.ex
  refine ⟨fun pins s σ H Q I h => ?_⟩
  obtain ⟨hs, ht⟩ := h
  refine wpAny_Call_Name_kw (thn ((pe_var (pos := p) hN hv hdb hcd).run pins s σ H (fun v H1 => v = .ref (He.ga X.K c) ∧ H1 = H) I ⟨.ref (He.ga X.K c), hs, rfl, rfl⟩) fun u s1 ⟨v, H1, I1, r1, q1⟩ => ?_)
  obtain ⟨rfl, rfl⟩ := q1
  cases r1
  refine PySem.W.callWith_K (h₀ := X.base) I.ok.mod.kin F.mkr.kp (thn (ha.run pos pins s1 σ _ _ I1 ht) fun us s2 ⟨vs, H2, I2, r, q⟩ => ⟨I2.kIn, ?_⟩) he hpl
  exact run_makeS F.mkr F1 (hr.mono hk) hb (hx σ) I2 r q

/-! ### operators of one's own -/
/-- one op two, both instances of the class named c -/
structure BOk (P : Program) (w : World) (K : PySem.W.Frag) (mg : Str → Option Value) (base : Heap) (c m : Str) (k : Nat) (sp : Sp) : Prop where
  ex : ∃ fd ps, FnOk P w K mg base (L2.CX P w) k (He.ma K (He.ga K c) m) fd ps sp ∧ Binds K fd ps []
  sf : PySem.W.selfFirst K (He.ga K c) = true
  fi : PySem.W.findIn K (.ref (He.ga K c)) m = some (some (.ref (He.ma K (He.ga K c) m)))
  fn : PySem.W.isFn K (.ref (He.ma K (He.ga K c) m)) = true
def tBinS (C : Addr) (sp : Sp) (E : St → XK) (ta tb : TE) : TE := fun σ H Q => ta σ H fun x H1 => tb σ H1 fun y H2 => ∃ a b dx dy fs gs, x = .ref a ∧ y = .ref b ∧ H2 a = some (.ins C dx fs) ∧ H2 b = some (.ins C dy gs) ∧ sp [x, y] H2 Q (E σ)
theorem cmpBack_rel {Q : Value → Shared → Prop} {v : V} {u : Value} {s : Shared} (r : RelV v u) (q : Q u s) : PySem.W.CmpBack Q u s := by
  cases v with
  | non => cases (show u = Value.none from r); exact q
  | bl b => cases (show u = Value.bool b from r); exact q
  | int i => obtain ⟨t, e⟩ := (show ∃ t, u = Value.int i t from r); subst e; exact q
  | str z => obtain ⟨t, e⟩ := (show ∃ t, u = Value.str z t from r); subst e; exact q
  | byt z => obtain ⟨t, e⟩ := (show ∃ t, u = Value.bytes z t from r); subst e; exact q
  | flt z => obtain ⟨t, e⟩ := (show ∃ t, u = Value.float z t from r); subst e; exact q
  | ref a => cases (show u = Value.ref a from r); exact q
  | ty n => cases (show u = Value.type n from r); exact q
theorem pe_bin {op : Operator} {a b : Expr} {ta tb : TE} (F : BOk X.prog X.w X.K X.mg X.base c m k sp) (ho : PySem.dunder op.info.2 = m) (hr : Room j X.A) (hk : k ≤ j) (hx : ∀ σ, PassesAt (L2.CX X.prog X.w) X σ (E σ)) (ha : PE X a ta) (hb' : PE X b tb) :
    PE X (.BinOp a op b pos) (tBinS (He.ga X.K c) sp E ta tb) := by
  obtain ⟨fd, ps, F1, hb⟩ := F.ex
  refine ⟨fun pins s σ H Q I h => ?_⟩
  refine wpAny_BinOp (binT ha hb' I h fun v u s2 x y H2 I2 rx ry q => ?_)
  obtain ⟨a1, b1, dx, dy, fs, gs, rfl, rfl, h1, h2, q⟩ := q
  cases rx
  cases ry
  obtain ⟨mA, J, _⟩ := ins_get I2.hok h1
  obtain ⟨mB, J', _⟩ := ins_get I2.hok h2
  obtain ⟨od, J, _⟩ := J.look
  obtain ⟨od', J', _⟩ := J'.look
  obtain ⟨mm, hF⟩ := I2.fr
  refine PySem.W.binop_K hF I2.ok.mod.kin J J'.type F.sf (by rw [ho]; exact F.fi) F.fn ?_
  exact thn (run_fnS (us := [.ref a1, .ref b1]) (vs := [.ref a1, .ref b1]) F1 (hr.mono hk) hb (hx σ) I2 (.cons rfl (.cons rfl .nil)) q) fun v s3 ⟨z, H3, I3, r3, q3⟩ => cmpBack_rel r3 ⟨z, H3, I3, r3, q3⟩
/-- one == y by the class's own __eq__, y anything -/
def tEqS (K : PySem.W.Frag) (C : Addr) (sp : Sp) (E : St → XK) (ta tb : TE) : TE := fun σ H Q => ta σ H fun x H1 => tb σ H1 fun y H2 => ∃ a dx fs t, x = .ref a ∧ H2 a = some (.ins C dx fs) ∧ TyX K H2 y t ∧ PySem.W.notFirst K C t = true ∧ sp [x, y] H2 Q (E σ)
theorem pe_eqS {a b : Expr} {ta tb : TE} (F : BOk X.prog X.w X.K X.mg X.base c "__eq__" k sp) (hr : Room j X.A) (hk : k ≤ j) (hx : ∀ σ, PassesAt (L2.CX X.prog X.w) X σ (E σ)) (ha : PE X a ta) (hb' : PE X b tb) :
    PE X (.Compare a [.Eq] [b] pos) (tEqS X.K (He.ga X.K c) sp E ta tb) := by
  obtain ⟨fd, ps, F1, hb⟩ := F.ex
  refine ⟨fun pins s σ H Q I h => ?_⟩
  refine wpAny_Compare1 (binT ha hb' I h fun v u s2 x y H2 I2 rx ry q => ?_) (nomark _)
  obtain ⟨a1, dx, fs, t, rfl, h1, ty, nf, q⟩ := q
  cases rx
  obtain ⟨mA, J, _⟩ := ins_get I2.hok h1
  obtain ⟨od, J, _⟩ := J.look
  obtain ⟨mm, hF⟩ := I2.fr
  obtain ⟨P, Z, pz, _⟩ := kit_of I2 ry ty
  show wpAny (model X.prog X.w) X.A (richCompare .Eq (.ref a1) u) (EP X pins σ Q) X.xe s2
  refine PySem.W.cmp_K (op := .Eq) (tb := t) hr.units0 hF I2.ok.mod.kin J (Z.ty _ _ I2.kIn pz) nf F.fi F.fn ?_
  exact thn (run_fnS (us := [.ref a1, u]) (vs := [.ref a1, y]) F1 (hr.mono hk) hb (hx σ) I2 (.cons rfl (.cons ry .nil)) q) fun v s3 ⟨z, H3, I3, r3, q3⟩ => cmpBack_rel r3 ⟨z, H3, I3, r3, q3⟩

/-! ### an own exception without __init__, made without arguments -/
theorem pmk_own0 {B : String} {bmB : List Value} {newId initId : String} {C : Addr} {x : Str} {p pos : Pos} (F : ExcBaseFacts B newId initId bmB) (q : PySem.W.excIn X.K C bmB newId = true) (gC : X.mg x = some (.ref C)) (kC : PySem.W.keepIn X.K (.ref C) = true) (r : Raises X (.ref C)) (hg : Gl X x)
    (hdb : (x == ("__debug__" : Str)) = false := by decide) : PMk X (.Call (.Name x p) [] [] pos) (fun _ H Q => Q (.ref C) none H) := by
  intro pins s σ H Q I h
  refine wpAny_Call_Name_kw (ld_glob I hg gC ?_ hdb)
  refine PySem.W.callWith_K0 I.kIn kC ?_
  obtain ⟨bm, N, nm, qn, bs, hdct, sn, sub, ab, col, dd, k0, k1, k2, k3, k5, mN, hC, hN, hni, T⟩ := exc_obj I.kIn q
  obtain ⟨hp, g, d, t, os⟩ := s
  refine wpAny_call_exc_subT F T hC hN hni (fun h' e hm => ?_) (Nat.zero_le _)
  exact mk_of I hm r h (I.hok.gone hm.new)
end
end Ms
set_option Elab.async false
set_option linter.all false
set_option maxRecDepth 100000
set_option maxHeartbeats 4000000
/-! Ms, exceptions: a caught exception is an object like others, so that defs may be handed it. -/
namespace Ms
open PySem PySem.Spec PyProof.Rows L2

/-- at a stands an exception of the class cls, its dict at d -/
def exT (a : Addr) (cls : Value) (d : Option Addr) : HO := .ext fun h => ∃ oe vs, h.get? a = some oe ∧ Zc cls d oe ∧ oe.data = .fields vs
theorem exT_not (a : Addr) (cls : Value) (d : Option Addr) {o : HO} (h : ∀ p, o ≠ .ext p) : exT a cls d ≠ o := fun z => h _ z.symm
theorem exT_ok {P : Program} {w : World} {H : Hp} {h : Heap} {a : Addr} {cls : Value} {d : Option Addr} {oe : Obj} {vs : Array Value} (e : h.get? a = some oe) (z : Zc cls d oe) (f : oe.data = .fields vs) : ObjOk P w H h a (exT a cls d) :=
  ⟨⟨oe, vs, e, z, f⟩, ⟨oe, e⟩, fun _ _ ⟨o, us, q, z, f⟩ k => ⟨o, us, k _ q, z, f⟩⟩
theorem exT_at {P : Program} {w : World} {H : Hp} {h : Heap} {a : Addr} {cls : Value} {d : Option Addr} (hok : HOk P w H h) (e : H a = some (exT a cls d)) : ∃ oe vs, h.get? a = some oe ∧ Zc cls d oe ∧ oe.data = .fields vs := by
  have x : ObjOk P w H h a (.ext fun h => ∃ oe vs, h.get? a = some oe ∧ Zc cls d oe ∧ oe.data = .fields vs) := hok a _ e
  exact x.1

section
variable {X : Cx} {pins : List (Addr × Obj)} {σ : St} {H : Hp} {s : Shared}
/-- an object of later than the frame's entry is known from now on -/
theorem track {a : Addr} {cls : Value} {d : Option Addr} {oe : Obj} {vs : Array Value} (I : Inv X pins σ H s) (new : X.s_0.heap.get? a = none) (e : s.heap.get? a = some oe) (z : Zc cls d oe) (f : oe.data = .fields vs) (na : H a = none)
    (nL : a ≠ X.env.locals) (np : ∀ p ∈ X.pn ++ pins, p.1 ≠ a) : Inv X pins σ (upd H a (exT a cls d)) s := by
  have off : ∀ {b : Addr} {o : Obj}, X.s_0.heap.get? b = some o → b ≠ a := fun {b o} q y => by
    rw [y, new] at q
    cases q
  have ne : ∀ {b : Addr} {o : HO}, H b = some o → b ≠ a := fun {b o} q y => by
    rw [y, na] at q
    cases q
  refine ⟨I.ok, I.os, I.bare, ⟨I.base.keep, I.base.slot, fun b o q n hx => ?_, I.base.there, fun b xs q => ?_, fun b o u q => ?_, fun b ps q => ?_⟩, I.loc, I.cell, ?_, fun x c q => ?_, fun p hp => ?_, fun b o q => ?_, I.len⟩
  · rw [upd_ne (off q)]
    exact I.base.free b o q n hx
  · have y := I.base.tups b xs q
    rw [upd_ne (ne y)]
    exact y
  · have y := I.base.frzs b o u q
    rw [upd_ne (ne y)]
    exact y
  · obtain ⟨more, y⟩ := I.base.tbls b ps q
    exact ⟨more, by rw [upd_ne (ne y)]; exact y⟩
  · rw [upd_ne (Ne.symm nL)]
    exact I.free
  · obtain ⟨v, o, ho, hd⟩ := I.cell x c q
    have nc : c ≠ a := fun y => by
      rw [y, e] at ho
      cases ho
      rw [f] at hd
      cases hd
    rw [upd_ne nc]
    exact I.freeC x c q
  · obtain ⟨y1, y2, y3⟩ := I.pin p hp
    exact ⟨y1, by rw [upd_ne (np p hp)]; exact y2, y3⟩
  · by_cases hb : b = a
    · subst hb
      rw [upd_same] at q
      cases q
      exact exT_ok e z f
    · rw [upd_ne hb] at q
      exact (I.hok b o q).stay (fun _ _ _ y => y) (fun c y => by rw [upd_ne (ne y)]; exact y) fun c xs y => by rw [upd_ne (ne y)]; exact y
/-- into an except suite, out of it -/
theorem toSuite (I : Inv X pins σ H s) (a : Addr) : Inv (X.suite a (X.pn ++ pins)) [] σ H s :=
  ⟨I.ok.suite _ _, I.os, I.bare, I.base, I.loc, I.cell, I.free, I.freeC, fun p hp => I.pin p (by rw [List.append_nil] at hp; exact hp), I.hok, I.len⟩
theorem ofSuite {a : Addr} {pn' : List (Addr × Obj)} (I : Inv (X.suite a (X.pn ++ pins)) pn' σ H s) (ok : X.Ok) : Inv X pins σ H s :=
  ⟨ok, I.os, I.bare, I.base, I.loc, I.cell, I.free, I.freeC, fun p hp => I.pin p (List.mem_append_left _ hp), I.hok, I.len⟩
end

/-- what the clause «except x as n» wishes of an exception of the body -/
def wTr (K : PySem.W.Frag) (c : Value) (i : Nat) (ts : TS) (Wout : WX) (D : Ends) : WX := fun cls d σ H =>
  ∃ b, PySem.W.exmOne K cls c = some b ∧ (b = true → ∀ a, H a = none → ts { nx := fun σ' H' => D.nx (σ'.set i none) H', rt := D.rt, bk := fun σ' H' => D.bk (σ'.set i none) H', ct := fun σ' H' => D.ct (σ'.set i none) H' } (σ.set i (some (.ref a))) (upd H a (exT a cls d))) ∧
    (b = false → Wout cls d σ H)

section
variable {X : Cx} {x n : Str} {c : Value} {i : Nat} {body suite : List Stmt} {b₀ : Stmt} {np pos pos' : Pos} {tb : WX → TS} {ts : TS} {Wout : WX}
theorem ps_try (hs : X.stack = X.env :: X.outer) (hf : X.env.frame = some X.env.locals) (hN : X.N.Nodup) (hi : X.N[i]? = some n) (hln : X.env.kindOf n = some .local) (hc : Names X x c) (hex : X.ex = []) (tk : Takes X Wout)
    (hb : ∀ (W : WX) (pn : List (Addr × Obj)) (xe : Value → Shared → Prop), Takes (X.tr pn xe) W → PassesOwn (model X.prog X.w) X.A X.env xe → PSs (X.tr pn xe) body (tb W))
    (hsu : ∀ (a : Addr) (pn : List (Addr × Obj)), PSs (X.suite a pn) (b₀ :: suite) ts) :
    PS X (.Try body [.ExceptHandler (some (.Name x np)) (some n) (b₀ :: suite) pos'] [] [] pos) (fun D σ H => tb (wTr X.K c i ts Wout D) D σ H) := by
  refine ⟨fun pins s σ H D I h => ?_⟩
  have ok := I.ok
  have hfr : X.A.frames = some (X.env :: X.outer) := by rw [ok.frames, hs]
  have hloc : Loc X.env.scope n := .inl hln
  refine wpAny_Try_except ?_
  have runs := (hb (wTr X.K c i ts Wout D) (X.pn ++ pins) (fun e s₁ => wpAny (model X.prog X.w) X.A (noteFrame e X.env) (fun _ s₂ => wpAny (model X.prog X.w) X.A (setFlight e none) (fun _ s₃ =>
    wpAny (model X.prog X.w) X.A (handleBy e X.env [.ExceptHandler (some (.Name x np)) (some n) (b₀ :: suite) pos']) (SP X pins D) X.xe s₃) X.xe s₂) X.xe s₁) (fun u s' xx => ?_) PassesOwn.looking).run [] s σ H D (I.toTry _) h
  · refine wpAny_mono runs (fun f s1 hsp => ?_) fun e s1 he => he
    cases f with
    | next =>
      obtain ⟨σ', H', J', q⟩ := hsp
      exact wpAny_execs_nil ⟨σ', H', J'.ofTry ok, q⟩
    | brk =>
      obtain ⟨σ', H', J', q⟩ := hsp
      exact ⟨σ', H', J'.ofTry ok, q⟩
    | cont =>
      obtain ⟨σ', H', J', q⟩ := hsp
      exact ⟨σ', H', J'.ofTry ok, q⟩
    | ret u =>
      obtain ⟨v, σ', H', J', r, q⟩ := hsp
      exact ⟨v, σ', H', J'.ofTry ok, r, q⟩
  -- the catch
  obtain ⟨a, B, sI, pins', σ', H', cls, d, rfl, J', nb, up, sky, na, os, ag, b, hb1, hyes, hno⟩ := xx
  have J : Inv X pins σ' H' sI := J'.ofTry ok
  have sky1 : Sky B (X.env :: X.outer) a (Zc cls d) X.env.locals s'.heap := hs ▸ sky
  show wpAny (model X.prog X.w) X.A (noteFrame (.ref a) X.env) _ _ _
  refine Sky.land Zc.steady hfr hf sky1 fun h3 fl3 up3 => ?_
  have J3 : Inv X pins σ' H' { s' with heap := h3 } := J.landed nb fl3.1 (up.trans up3) os ag
  obtain ⟨oe3, vs3, he3, hz3, hd3⟩ := fl3.there
  have nfr : a ∉ frs (X.env :: X.outer) := fun hm => by
    obtain ⟨_, o', e', hnf⟩ := fl3.2.2.1.mem hm
    rw [he3] at e'
    cases e'
    exact hnf _ hd3
  have nst : a ∉ frs X.stack := hs ▸ nfr
  have nL : a ≠ X.env.locals := fun z => nfr (List.mem_filterMap.mpr ⟨X.env, List.mem_cons_self, by rw [hf, z]⟩)
  have gone : B.get? a = none := fl3.2.1
  have newI : sI.heap.get? a = none := by
    cases q : sI.heap.get? a with
    | none => rfl
    | some o =>
      have z := nb a o q nst
      rw [gone] at z
      cases z
  have new : X.s_0.heap.get? a = none := by
    cases q : X.s_0.heap.get? a with
    | none => rfl
    | some o =>
      obtain ⟨o', z⟩ := J.base.there a o q (by rw [hex]; simp)
      rw [newI] at z
      cases z
  have npin : ∀ p ∈ X.pn ++ pins, p.1 ≠ a := fun p hp z => by
    obtain ⟨y, _⟩ := J.pin p hp
    rw [z, newI] at y
    cases y
  refine wpAny_handleBy_cons (codeAny_handlers_test ?_) (by intro q; cases q)
  have LT : PySem.W.Looks (model X.prog X.w) h3 (typeOf (.ref a)) cls := fun A Q E s k q => wpAny_typeOf_ref (k _ _ he3) (by rw [hz3.1]; exact q)
  have LM := PySem.W.exm_one (M := model X.prog X.w) (J3.kIn) LT hb1
  have test : ∀ {Q : Value → Shared → Prop} {E : Value → Shared → Prop}, Q c { s' with heap := h3 } → wpAny (model X.prog X.w) (X.A.mark (some (.ref a))) (eval (.Name x np) X.env) Q E { s' with heap := h3 } := fun {Q E} q => by
    obtain ⟨hg, hdbg, hm | ⟨hm, hv, hnn⟩⟩ := hc
    · exact ld_glob (X := X.suite a (X.pn ++ pins)) (toSuite J3 a) hg hm q hdbg
    · exact ld_blt (X := X.suite a (X.pn ++ pins)) (toSuite J3 a) hg hm hv q hnn hdbg
  refine test (LM.here ?_)
  cases b with
  | true =>
    refine codeAny_handlers_suite_as ?_
    refine HandSPX.lands_againZ fl3 fun h4 fl4 up4 => ?_
    obtain ⟨oe4, vs4, he4, hz4, hd4⟩ := fl4.there
    have J4 : Inv X pins σ' (upd H' a (exT a cls d)) { s' with heap := h4 } := track (J.landed nb fl4.1 ((up.trans up3).trans up4) os ag) new he4 hz4 hd4 na nL npin
    refine store_ok (X := X.suite a (X.pn ++ pins)) (v := .ref a) (toSuite J4 a) hN hi hloc rfl (fun s5 S5 => ?_) (.inr hln)
    refine wpAny_mono ((hsu a (X.pn ++ pins)).run [] s5 _ _ _ S5 (hyes rfl a na)) (fun f s6 hsp => ?_) (fun _ _ z => False.elim z)
    have end_ : ∀ {σ6 : St} {H6 : Hp} {Q : Shared → Prop}, Inv (X.suite a (X.pn ++ pins)) [] σ6 H6 s6 → (∀ s7, Inv X pins (σ6.set i none) H6 s7 → Q s7) →
        wpAny (model X.prog X.w) X.A (do bindName X.env n .none; unbindBehindTheSuite X.env n pos') (fun _ s7 => Q s7) X.xe s6 := fun {σ6 H6 Q} S6 hq => gone_ok (ofSuite S6 ok) hN hi hln hq
    cases f with
    | next =>
      obtain ⟨σ6, H6, S6, q6⟩ := hsp
      exact end_ S6 fun s7 J7 => ⟨_, _, J7, q6⟩
    | brk =>
      obtain ⟨σ6, H6, S6, q6⟩ := hsp
      exact end_ S6 fun s7 J7 => ⟨_, _, J7, q6⟩
    | cont =>
      obtain ⟨σ6, H6, S6, q6⟩ := hsp
      exact end_ S6 fun s7 J7 => ⟨_, _, J7, q6⟩
    | ret u =>
      obtain ⟨v6, σ6, H6, S6, r6, q6⟩ := hsp
      exact end_ S6 fun s7 J7 => ⟨_, _, _, J7, r6, q6⟩
  | false =>
    show wpAny _ X.A (handleBy (.ref a) X.env []) _ _ _
    refine wpAny_handleBy_nil ?_
    obtain ⟨k1, k2, k3, oe, vs, T, oT, ts', he, hz, hd, h1, hr⟩ := id fl3
    unfold PySem.passOn
    refine wpAny_bind (wpAny_field he hd h1 ?_)
    rw [if_neg (show ¬ ((Value.ref T == Value.none) = true) from by simp)]
    have fin : wpAny (model X.prog X.w) X.A (setFlight (.ref a) X.env.frame) (fun _ s4 => wpAny (model X.prog X.w) X.A (throw (.ref a) : Sem Flow) (SP X pins D) X.xe s4) X.xe { s' with heap := h3 } := by
      rw [hf]
      refine HandSPX.setFlight_upZ fl3 fun h4 hh4 up4 => wpAny_throw (tk _ _ ?_)
      exact ⟨a, B, sI, pins, σ', H', cls, d, rfl, J, nb, (up.trans up3).trans up4, .inr (.inr (by rw [hs]; exact hh4)), na, os, ag, hno rfl⟩
    first
      | exact wpAny_bind (wpAny_pure (wpAny_bind fin))
      | exact wpAny_bind fin
end

/-! ### what is asked of a value's type, exceptions too -/
/-- what K says of an exception class at D, for isinstance and for its fields -/
structure EC (K : PySem.W.Frag) (D : Addr) : Prop where
  cl : (PySem.W.clsIn K D).isSome = true
  ga : PySem.W.findIn K (.ref D) "__getattribute__" = some (some (.builtin "BaseException.__getattribute__"))
  gg : PySem.W.findIn K (.ref D) "__getattr__" = some none
  sb : PySem.W.subIn K (.ref D) (.type "BaseException") = some true
  ca : PySem.W.findIn K (.ref D) "__class__" = some (some (.builtin "object.__class__"))
  cg : PySem.W.specialIn K (.builtin "object.__class__") "__get__" = some (some (.builtin "getset_descriptor.__get__"))
  ct : PySem.W.takesIn K (.builtin "object.__class__") = some true
  ob : PySem.W.mroIn K D (.type "object") = some true
  hd : PySem.W.hasDictIn K D = true
/-- an exception of the class at D with these fields -/
def IsEx (D : Addr) (fs : Option (List (Str × V))) (a : Addr) (H : Hp) : Prop := match fs with
  | none => H a = some (exT a (.ref D) none)
  | some l => ∃ dd, H a = some (exT a (.ref D) (some dd)) ∧ H dd = some (.xd l)
inductive TyM (K : PySem.W.Frag) (H : Hp) : V → Value → Prop where
  | of {x : V} {t : Value} (h : TyX K H x t) : TyM K H x t
  | ex {a D : Addr} {fs : Option (List (Str × V))} (h : IsEx D fs a H) (c : EC K D) : TyM K H (.ref a) (.ref D)
section
variable {X : Cx} {pins : List (Addr × Obj)} {σ : St} {H : Hp} {s : Shared}
theorem ex_inst {a D : Addr} {fs : Option (List (Str × V))} (I : Inv X pins σ H s) (h : IsEx D fs a H) : ∃ ox od, PySem.W.InstAt s.heap a ox D od := by
  have mkI : ∀ {d : Option Addr} {od : Option Obj}, H a = some (exT a (.ref D) d) → (match d with | some dd => ∃ o, s.heap.get? dd = some o ∧ od = some o | none => od = none) → ∃ ox od, PySem.W.InstAt s.heap a ox D od := fun {d od} e k => by
    obtain ⟨oe, vs, ho, ⟨hc, hdd⟩, hv⟩ := exT_at I.hok e
    obtain ⟨oc, odd, oda, osl⟩ := oe
    dsimp only at hc hdd hv
    subst hc hdd hv
    cases odd with
    | none => exact ⟨_, none, ho, rfl, rfl, trivial⟩
    | some dd =>
      obtain ⟨o, h1, h2⟩ := k
      exact ⟨_, some o, ho, rfl, rfl, h1⟩
  cases fs with
  | none => exact mkI (d := none) (od := none) h rfl
  | some l =>
    obtain ⟨dd, h1, h2⟩ := h
    obtain ⟨mA, ⟨o, _, _, e, _⟩, _⟩ := (show ObjOk X.prog X.w H s.heap dd (.xd l) from I.hok dd _ h2)
    exact mkI (d := some dd) (od := some o) h1 ⟨o, e, rfl⟩
theorem kit_ofM {x : V} {u t : Value} (I : Inv X pins σ H s) (rx : RelV x u) (ty : TyM X.K H x t) : ∃ P : Heap → Prop, PySem.W.KitX X.K u t P ∧ P s.heap ∧ u ≠ .builtin "__main__.__loader__#opaque" := by
  cases ty with
  | of h => exact kit_of I rx h
  | @ex a D fs h c =>
    cases (show u = Value.ref a from rx)
    obtain ⟨ox, od, J⟩ := ex_inst I h
    exact ⟨_, PySem.W.kitx_exc c.cl c.ga c.gg c.sb c.ca c.cg c.ct c.ob, J, fun z => nomatch z⟩
end
/-- isinstance(x, c) -/
def rIs (K : PySem.W.Frag) : List V → Hp → VK → Prop := fun xs H Q => ∃ (x c : V) (t u : Value) (b : Bool), xs = [x, c] ∧ ClsV c u ∧ TyM K H x t ∧ PySem.W.kitOne K t u = some b ∧ Q (.bl b) H
/-- isinstance(x, (c, ..)) -/
def rIsT (K : PySem.W.Frag) : List V → Hp → VK → Prop := fun xs H Q => ∃ (x : V) (tp : Addr) (cs : List V) (t : Value) (us : List Value) (b : Bool), xs = [x, .ref tp] ∧ H tp = some (.tup cs) ∧ Paired ClsV cs us ∧ TyM K H x t ∧ PySem.W.kitAny K t us = some b ∧ Q (.bl b) H
section
variable {X : Cx}
theorem cr_is : CallR X (.builtin "isinstance") (rIs X.K) := fun pins s σ H xs us Q I r h => by
  obtain ⟨x, c, t, u, b, rfl, k, ty, e, q⟩ := h
  obtain ⟨u1, u2, rfl, r1, r2⟩ := vals2 r
  obtain rfl := k.eq r2
  obtain ⟨P, Z, p, hx⟩ := kit_ofM I r1 ty
  exact PySem.W.kia_one Z I.kIn p e hx fun tk => ⟨.bl b, H, I.tok tk, rfl, q⟩
theorem cr_isT : CallR X (.builtin "isinstance") (rIsT X.K) := fun pins s σ H xs us Q I r h => by
  obtain ⟨x, tp, cs, t, ws, b, rfl, hT, k, ty, e, q⟩ := h
  obtain ⟨u1, u2, rfl, r1, r2⟩ := vals2 r
  obtain rfl : u2 = Value.ref tp := r2
  obtain ⟨P, Z, p, hx⟩ := kit_ofM I r1 ty
  obtain ⟨_, its, rv, ⟨oc, od, dt, sl⟩, h1, h2, n, h3⟩ := (show ObjOk X.prog X.w H s.heap tp (.tup cs) from I.hok tp _ hT)
  obtain rfl := ClsV.all k rv
  simp only at h2 h3
  subst h2 h3
  exact PySem.W.kia_tup Z I.kIn p h1 e hx fun tk => ⟨.bl b, H, I.tok tk, rfl, q⟩
/-- e.f, e a known exception -/
def tExF (K : PySem.W.Frag) (ta : TE) (f : Str) : TE := fun σ H Q => ta σ H fun x H1 => ∃ a D l v, x = .ref a ∧ IsEx D (some l) a H1 ∧ EC K D ∧ PySem.W.findIn K (.ref D) f = some none ∧ l.lookup f = some v ∧ Q v H1
theorem pe_exf {e : Expr} {te : TE} {pos : Pos} {n : Str} (he : PE X e te) (hb : attributeBase e n X.env (eval e X.env) = eval e X.env := by rfl) : PE X (.Attribute e n pos) (tExF X.K te n) := by
  refine ⟨fun pins s σ H Q I h => ?_⟩
  refine attr_of hb (thn (he.run pins s σ H _ I h) fun u s1 hh => ?_)
  obtain ⟨x, H1, I1, rx, a, D, l, v, rfl, ⟨dd, h1, h2⟩, c, hno, hl, q⟩ := hh
  obtain rfl : u = Value.ref a := rx
  obtain ⟨oe, vs, ho, ⟨hc, hdd⟩, hv⟩ := exT_at I1.hok h1
  obtain ⟨mA, hns, hr⟩ := (show ObjOk X.prog X.w H1 s1.heap dd (.xd l) from I1.hok dd _ h2)
  obtain ⟨od, ho2, hl2⟩ := lookIn_ns hns
  obtain ⟨u, hu, ru⟩ := RelO.some_of (v := v) (o := mA n) (by rw [← hl]; exact hr n)
  have J : PySem.W.InstAt s1.heap a oe D (some od) := ⟨ho, hc, by unfold PySem.W.notCls; rw [hv] <;> rfl, by rw [hdd]; exact ho2⟩
  exact HandSPX.exc_get I1.kIn J c.ga c.gg c.sb (PySem.W.findObj_own c.hd hno rfl (by rw [hl2, hu])) (handed_of ru) ⟨v, H1, I1.tok _, ru, q⟩
end

/-! ### defs called in an except suite (they raise nothing, they loop over nothing) -/
structure RoomW (k : Nat) (A : Around) : Prop where
  dp : A.depth + 3 * k + 5 < recursionLimit
  un : A.units + 16 * k + 200 < cLine
theorem RoomW.mono {j k : Nat} {A : Around} (r : RoomW k A) (h : j ≤ k) : RoomW j A := ⟨by have := r.dp; omega, by have := r.un; omega⟩
theorem RoomW.deeper {k : Nat} {A : Around} (r : RoomW (k + 1) A) (env : Env) : RoomW k (A.deeper env) :=
  ⟨by have := r.dp; show A.depth + 1 + 3 * k + 5 < _; omega, by have := r.un; show A.units + 3 + 16 * k + 200 < _; omega⟩
theorem roomW_of {k : Nat} {A : Around} (r : Room k A) : RoomW k A := ⟨r.dp, r.un⟩
theorem roomW_mark {k : Nat} {A : Around} (r : Room k A) (o : Option Value) : RoomW k (A.mark o) := ⟨r.dp, r.un⟩
/-- a context that is not calm -/
abbrev warm (Y : Cx) (A : Around) : Cx := { Y with A := A, calm := false, xe := fun _ _ => False }
theorem Cx.Ok.warm {Y : Cx} (ok : Y.Ok) {A : Around} (hf : A.frames = Y.A.frames) : (Ms.warm Y A).Ok :=
  ⟨ok.mod, ok.kind, ok.glob, ok.blt, ok.above, ok.inj, ok.has, ok.cab, (fun z => absurd (show false = true from z) Bool.false_ne_true), by rw [← ok.frames]; exact hf, ok.stk, ok.exf, ok.bs, ok.bsz, ok.noex, ok.exfs, ok.funs, ok.frf⟩
theorem inv_warm {Y : Cx} {pins : List (Addr × Obj)} {σ : St} {H : Hp} {s : Shared} (I : Inv Y pins σ H s) {A : Around} (hf : A.frames = Y.A.frames) : Inv (Ms.warm Y A) pins σ H s :=
  ⟨Cx.Ok.warm I.ok hf, I.os, I.bare, I.base, I.loc, I.cell, I.free, I.freeC, I.pin, I.hok, I.len⟩
abbrev CXN : CXT := fun _ _ _ _ _ _ => False
structure FnW (P : Program) (w : World) (K : PySem.W.Frag) (mg : Str → Option Value) (base : Heap) (k : Nat) (f : Addr) (fd : FuncData) (ps : List Str) (sp : Sp) : Prop where
  len : ∀ vs H Q E, sp vs H Q E → vs.length = ps.length
  run : ∀ (A : Around) (outer : List Env) (s : Shared) (H : Hp) (args : Args) (us : List Value) (vs : List V) (Q : VK) (E : XK), RoomW k A → Env0 P w K mg base A outer s H → BindsTo s fd args (ps.zip us) → Vals vs us → sp vs H Q E →
    codeAny (model P w) A (.call (.ref f) args) (CR CXN outer P w H s Q E) s
/-- the context of such a def's body -/
abbrev cxW (P : Program) (w : World) (K : PySem.W.Frag) (mg : Str → Option Value) (base : Heap) (N : List Str) (qual : Str) (scope : Scope) (f : Addr) (cd : Value) (A : Around) (outer : List Env) (s : Shared) (H : Hp) (E : XK) : Cx :=
  warm (cxOf CXN P w K mg base N qual scope f cd { A with handled := none } outer s H E) (A.deeper (envOfC qual scope s.heap.objs.size f cd))
theorem FunD.warm {P : Program} {w : World} {K : PySem.W.Frag} {mg : Str → Option Value} {base : Heap} {x qual : Str} {params : Arguments} {body : List Stmt} {scope : Scope} {dvs : List V} {kws : List (Str × V)} {f : Addr} {fd : FuncData} {N ps : List Str} {k : Nat} {sp : Sp}
    (F : FunD K x qual params body scope dvs kws f fd) (S : FnScope N ps scope) (len : ∀ vs H Q E, sp vs H Q E → vs.length = ps.length)
    (hbody : ∀ (cdv : Value) (A : Around) (outer : List Env) (s : Shared) (H : Hp) (vs : List V) (Q : VK) (E : XK), RoomW k (A.deeper (envOfC qual scope s.heap.objs.size f cdv)) → sp vs H Q E →
      ∃ t, PSs (cxW P w K mg base N qual scope f cdv A outer s H E) body t ∧ t { nx := fun _ H' => Q .non H', rt := Q } (L2.start N vs) H) : FnW P w K mg base (k + 1) f fd ps sp := by
  obtain ⟨oc, od, dV, kV, doc, pm, an, cdv, ct, osl, rfl, lk, hcd, _, _⟩ := F.ex
  refine ⟨len, fun A outer s H args us vs Q E hr e0 hb r hsp => ?_⟩
  have KX : K.In s.heap := e0.mod.kin.keeps fun b o e => (e0.bs b o e).1
  have lim : s.heap.NoLimit := e0.mod.nolimit.keeps fun b o e => (e0.bs b o e).1
  have kinds : ∀ y ∈ ps.zip us, scope.names.lookup y.1 = some .local ∨ (scope.names.lookup y.1 = some .cell ∧ ((cellsFrom (s.heap.objs.size + 1) scope.names []).lookup y.1).isSome = true) := fun y hy => by
    obtain ⟨n, v⟩ := y
    rcases S.par n (List.of_mem_zip hy).1 with q | q
    · exact .inl q
    · exact .inr ⟨q, PySem.W.cellsFrom_some _ _ _ (.inl q)⟩
  have dep : A.depth < recursionLimit := by have := hr.dp; omega
  refine codeAny_call_function dep (KX _ _ lk) rfl S.co S.gen rfl (PySem.W.codeRec_of KX hcd) (hb _ _ _ _ ?_)
  refine wpAny_newFunctionEnv_cells S.kind kinds fun env he s1 x => ?_
  subst he
  refine ⟨lim.keeps x.toInCall.keep, codeAny_func ?_⟩
  obtain ⟨t, ht, hq⟩ := hbody cdv A outer s H vs Q E (hr.deeper _) hsp
  have e1 : Env0 P w K mg base { A with handled := none } outer s H := ⟨e0.frames, e0.mod, e0.bs, e0.bsz, e0.funs, e0.frf, e0.hok, e0.bare⟩
  have I0 := inv_start (CX := CXN) (E := E) S rfl e1 (len _ _ _ _ hsp) r x
  have I : Inv (cxW P w K mg base N qual scope f cdv A outer s H E) [] (L2.start N vs) H s1 := inv_warm I0 rfl
  refine wpAny_mono (ht.run [] s1 (L2.start N vs) H _ I hq) (fun fl s' hs => ?_) fun e s' hs => hs.elim
  have fin : ∀ {σ' : St} {H' : Hp} {v : V} {u : Value}, Inv (cxW P w K mg base N qual scope f cdv A outer s H E) [] σ' H' s' → RelV v u → Q v H' → CE outer P w H s Q u s' :=
    fun {σ' H' v u} J rv q => ⟨v, H', J.os, J.bare, J.base, J.hok, rv, q⟩
  cases fl with
  | ret u =>
    obtain ⟨v, σ', H', J, rv, q⟩ := hs
    exact fin J rv q
  | next =>
    obtain ⟨σ', H', J, q⟩ := hs
    exact fin (v := V.non) (u := Value.none) J rfl q
  | brk =>
    obtain ⟨_, _, _, q⟩ := hs
    exact False.elim q
  | cont =>
    obtain ⟨_, _, _, q⟩ := hs
    exact False.elim q
/-- .. by its name -/
structure WOk (P : Program) (w : World) (K : PySem.W.Frag) (mg : Str → Option Value) (base : Heap) (x : Str) (k : Nat) (sp : Sp) : Prop where
  ex : ∃ fd ps, FnW P w K mg base k (He.ga K x) fd ps sp ∧ Binds K fd ps []
  mg : mg x = some (.ref (He.ga K x))
  kp : PySem.W.keepIn K (.ref (He.ga K x)) = true
section
variable {X : Cx} {k j : Nat} {sp : Sp} {x : Str} {p pos : Pos} {e : Expr} {es : List Expr} {t : TA}
theorem pe_w (F : WOk X.prog X.w X.K X.mg X.base x k sp) (hr : RoomW j X.A) (hk : k ≤ j) (ha : PA X (e :: es) t) (hg : Gl X x := by rfl)
    (hdb : (x == ("__debug__" : Str)) = false := by decide) (he : starEach (e :: es) X.env = (false, eval e X.env) :: starEach es X.env := by rfl) (hpl : (backTo pos (starEach es X.env)).any (·.1) = false := by rfl) :
    PE X (.Call (.Name x p) (e :: es) [] pos) (tCallS sp EN t) := by
  obtain ⟨fd, ps, F1, hb⟩ := F.ex
  refine ⟨fun pins s σ H Q I h => ?_⟩
  refine wpAny_Call_Name_kw (ld_glob I hg F.mg ?_ hdb)
  refine PySem.W.callWith_K (h₀ := X.base) I.ok.mod.kin F.kp (thn (ha.run pos pins s σ H _ I h) fun us s1 ⟨vs, H1, I1, r, q⟩ => ⟨I1.kIn, ?_⟩) he hpl
  have hl : us.length = ps.length := by rw [← r.length]; exact F1.len _ _ _ _ q
  have b := hb s1 us I1.kIn (by rw [List.append_nil]; exact hl)
  rw [List.append_nil] at b
  refine wpAny_call (codeAny_mono (F1.run X.A X.stack s1 H1 ⟨us, []⟩ us vs Q _ (hr.mono hk) I1.env0 b r q) fun r s' hq => ?_)
  cases r with
  | error e => exact False.elim hq
  | ok fl =>
    cases fl with
    | ret u => exact I1.after hq
    | next => exact False.elim hq
    | brk => exact False.elim hq
    | cont => exact False.elim hq
end
end Ms
set_option Elab.async false
set_option linter.all false
set_option maxRecDepth 100000
set_option maxHeartbeats 4000000
/-! Ms, walks: list(zip(s, t)) and enumerate(t) of tuples. -/
namespace MsZ
open PySem RZ
open PySem.Sem (wp)
section
variable {prog : Program} {w : World} {A : Around} {E : Value → Shared → Prop} {s : Shared}
variable {z TI TO T i1 i2 l1 l2 : Addr} {f : Bool} {oT : Obj} {k1 k2 : Nat} {xs ys : Array Value}
/-- a zip of two tuples whose pair T is still out: the next pair -/
theorem held_item {x y : Value} {Q : Option Value → Shared → Prop} (D : ZipApart z TI TO i1 i2 l1 l2) (hz : IsZipHeld s.heap z TI TO T f) (hT : s.heap.get? T = some oT) (hTI : IsPair s.heap TI (.ref i1) (.ref i2))
    (h1 : s.heap.IsTupleIter i1 l1 k1) (h2 : s.heap.IsTupleIter i2 l2 k2) (hl1 : s.heap.IsTuple l1 xs) (hl2 : s.heap.IsTuple l2 ys) (hx : xs[k1]? = some x) (hy : ys[k2]? = some y)
    (hQ : ∀ h', IsZipHeld h' z TI TO T true → h'.IsTupleIter i1 l1 (k1 + 1) → h'.IsTupleIter i2 l2 (k2 + 1) → IsPair h' s.heap.objs.size x y → h'.objs.size = s.heap.objs.size + 1 →
      (∀ c o, c ≠ z → c ≠ i1 → c ≠ i2 → s.heap.get? c = some o → h'.get? c = some o) → Q (some (.ref s.heap.objs.size)) { s with heap := h' }) :
    wpAny (model prog w) A (pyNext (.ref z)) Q E s := by
  have ty : s.TypeIs (.ref z) "zip" := ⟨_, hz, rfl⟩
  unfold pyNext
  refine wpAny_bind (wpAny_attempt (wpAny_callSpecial?_slot (name := Str.ofString "__next__") ty F.slot_zip_next (wpAny_call_entry F.slot_zip_next ty F.entry_zip_next ?_ (F.args_zip_next_1 _))))
  show wpAny _ _ (field (.ref z) 2 >>= _) _ _ _
  refine wpAny_bind (wpAny_field hz rfl (x := .bool false) rfl ?_)
  show wpAny _ _ (field (.ref z) 3 >>= _) _ _ _
  refine wpAny_bind (wpAny_field hz rfl (x := .ref TI) rfl (wpAny_bind (wpAny_seqItems hTI rfl ?_)))
  show wpAny _ _ (Builtin.SmallTypes.ownedTupleIsFree (.ref z) >>= _) _ _ _
  refine wpAny_bind (wpAny_tupleHeld_zip hz hT fun g1 hz1 b1 => ?_)
  simp only [Bool.false_eq_true, if_false]
  rw [← Array.forIn_toList]
  simp only [List.forIn_cons, List.forIn_nil]
  refine wpAny_bind (wpAny_bind (wpAny_bind (wpAny_holding ?_)))
  show wpAny _ _ (Builtin.SmallTypes.nextOf (.ref i1) >>= _) _ _ _
  refine wpAny_bind (nextOf_tuple_item (s := { s with heap := g1 }) (h1.extBut b1.extBut D.i1z) (hl1.extBut b1.extBut D.l1z) hx fun g2 n1 b2 => wpAny_pure (wpAny_pure (wpAny_bind (wpAny_bind (wpAny_holding ?_)))))
  show wpAny _ _ (Builtin.SmallTypes.nextOf (.ref i2) >>= _) _ _ _
  refine wpAny_bind (nextOf_tuple_item (s := { s with heap := g2 }) ((h2.extBut b1.extBut D.i2z).extBut b2.extBut D.i12.symm) ((hl2.extBut b1.extBut D.l2z).extBut b2.extBut D.l2i1) hy fun g3 n2 b3 => wpAny_pure (wpAny_pure (wpAny_pure ?_)))
  show wpAny _ _ (newTuple [x, y] >>= _) _ _ _
  refine wpAny_bind (wpAny_newTuple (wpAny_pure ⟨_, rfl, wpAny_pure ?_⟩))
  have sz : g3.objs.size = s.heap.objs.size := by rw [b3.1, b2.1, b1.1]
  have hz3 : IsZipHeld g3 z TI TO T true := b3.extBut _ _ D.i2z.symm (b2.extBut _ _ D.i1z.symm hz1)
  have n13 : g3.IsTupleIter i1 l1 (k1 + 1) := n1.extBut b3.extBut D.i12
  have pr : IsPair (g3.push { cls := .type "tuple", data := .seq #[x, y] }) g3.objs.size x y := Heap.get?_push_size _ rfl
  have sz4 : (g3.push { cls := .type "tuple", data := .seq #[x, y] }).objs.size = g3.objs.size + 1 := Heap.size_push ..
  show Q (some (.ref g3.objs.size)) _
  rw [sz] at pr sz4 ⊢
  exact hQ _ (Heap.get?_push_of_some _ hz3) (n13.at fun o e => Heap.get?_push_of_some _ e) (n2.at fun o e => Heap.get?_push_of_some _ e) pr sz4 fun c o c1 c2 c3 e => Heap.get?_push_of_some _ (b3.extBut _ _ c3 (b2.extBut _ _ c2 (b1.extBut _ _ c1 e)))
/-- .. no further pair -/
theorem held_end {Q : Option Value → Shared → Prop} (hh : A.handled = none) (D : ZipApart z TI TO i1 i2 l1 l2) (hz : IsZipHeld s.heap z TI TO T f) (hT : s.heap.get? T = some oT) (hTI : IsPair s.heap TI (.ref i1) (.ref i2))
    (h1 : s.heap.IsTupleIter i1 l1 k1) (hl1 : s.heap.IsTuple l1 xs) (hx : xs[k1]? = none)
    (hQ : ∀ h', (∀ c o, c ≠ z → c ≠ i1 → c ≠ i2 → s.heap.get? c = some o → h'.get? c = some o) → Q none { s with heap := h' }) : wpAny (model prog w) A (pyNext (.ref z)) Q E s := by
  have ty : s.TypeIs (.ref z) "zip" := ⟨_, hz, rfl⟩
  unfold pyNext
  refine wpAny_bind (wpAny_attempt (wpAny_callSpecial?_slot (name := Str.ofString "__next__") ty F.slot_zip_next (wpAny_call_entry F.slot_zip_next ty F.entry_zip_next ?_ (F.args_zip_next_1 _))))
  show wpAny _ _ (field (.ref z) 2 >>= _) _ _ _
  refine wpAny_bind (wpAny_field hz rfl (x := .bool false) rfl ?_)
  show wpAny _ _ (field (.ref z) 3 >>= _) _ _ _
  refine wpAny_bind (wpAny_field hz rfl (x := .ref TI) rfl (wpAny_bind (wpAny_seqItems hTI rfl ?_)))
  show wpAny _ _ (Builtin.SmallTypes.ownedTupleIsFree (.ref z) >>= _) _ _ _
  refine wpAny_bind (wpAny_tupleHeld_zip hz hT fun g1 hz1 b1 => ?_)
  simp only [Bool.false_eq_true, if_false]
  rw [← Array.forIn_toList]
  simp only [List.forIn_cons, List.forIn_nil]
  refine wpAny_bind (wpAny_bind (wpAny_bind (wpAny_holding ?_)))
  show wpAny _ _ (Builtin.SmallTypes.nextOf (.ref i1) >>= _) _ _ _
  refine wpAny_bind (nextOf_tuple_end (s := { s with heap := g1 }) hh (h1.extBut b1.extBut D.i1z) (hl1.extBut b1.extBut D.l1z) hx fun g2 e b2 he => ?_)
  obtain ⟨o, ho, hc⟩ := he
  refine wpAny_bind (wpAny_isInstance (T := "StopIteration") (b := true) ⟨o, ho, hc⟩ isSubtype_stop ?_)
  exact wpAny_pure (hQ _ fun c o c1 c2 _ x => b2 _ _ c2 (b1.extBut _ _ c1 x))
end

/-- how far a zip has gone: nothing is out yet, or a pair T is -/
def St (h : Heap) (z TI TO i1 i2 l1 l2 S : Addr) (i : Nat) : Prop :=
  IsPair h TI (.ref i1) (.ref i2) ∧ h.IsTupleIter i1 l1 i ∧ h.IsTupleIter i2 l2 i ∧
    ((IsZip h z TI TO .none ∧ ∃ a b, IsPair h TO a b) ∨ ∃ T f oT, IsZipHeld h z TI TO T f ∧ h.get? T = some oT ∧ T ≠ z ∧ T ≠ i1 ∧ T ≠ i2 ∧ T ≠ S)
section
variable {prog : Program} {w : World} {A : Around} {E : Value → Shared → Prop} {s : Shared} {z TI TO i1 i2 l1 l2 S : Addr} {i : Nat} {xs ys : Array Value}
theorem St.at {h h' : Heap} (st : St h z TI TO i1 i2 l1 l2 S i) (nS : z ≠ S ∧ TI ≠ S ∧ TO ≠ S ∧ i1 ≠ S ∧ i2 ≠ S) (k : ∀ b o, b ≠ S → h.get? b = some o → h'.get? b = some o) : St h' z TI TO i1 i2 l1 l2 S i := by
  obtain ⟨a1, a2, a3, a4⟩ := st
  obtain ⟨n1, n2, n3, n4, n5⟩ := nS
  refine ⟨k _ _ n2 a1, a2.at fun o q => k _ o n4 q, a3.at fun o q => k _ o n5 q, ?_⟩
  rcases a4 with ⟨b1, a, b, b2⟩ | ⟨T, f, oT, b1, b2, c1, c2, c3, c4⟩
  · exact .inl ⟨k _ _ n1 b1, a, b, k _ _ n3 b2⟩
  · exact .inr ⟨T, f, oT, k _ _ n1 b1, k _ _ c4 b2, c1, c2, c3, c4⟩
theorem next_item {x y : Value} {Q : Option Value → Shared → Prop} (D : ZipApart z TI TO i1 i2 l1 l2) (st : St s.heap z TI TO i1 i2 l1 l2 S i) (hS : S < s.heap.objs.size)
    (hl1 : s.heap.IsTuple l1 xs) (hl2 : s.heap.IsTuple l2 ys) (hx : xs[i]? = some x) (hy : ys[i]? = some y)
    (hQ : ∀ h', St h' z TI TO i1 i2 l1 l2 S (i + 1) → IsPair h' s.heap.objs.size x y → (∀ c o, c ≠ z → c ≠ TO → c ≠ i1 → c ≠ i2 → s.heap.get? c = some o → h'.get? c = some o) → Q (some (.ref s.heap.objs.size)) { s with heap := h' }) :
    wpAny (model prog w) A (pyNext (.ref z)) Q E s := by
  obtain ⟨a1, a2, a3, a4⟩ := st
  have lt1 : i1 < s.heap.objs.size := by obtain ⟨_, e, _⟩ := a2; exact Heap.lt_size e
  have lt2 : i2 < s.heap.objs.size := by obtain ⟨_, e, _⟩ := a3; exact Heap.lt_size e
  rcases a4 with ⟨b1, a, b, b2⟩ | ⟨T, f, oT, b1, b2, c1, c2, c3, c4⟩
  · refine pyNext_zipT_item D b1 a1 b2 a2 a3 hl1 hl2 hx hy fun h' q1 q2 q3 q4 q5 q6 q7 => ?_
    refine hQ h' ⟨q7 _ _ D.TIz D.TITO D.TIi1 D.TIi2 a1, q3, q4, .inr ⟨_, false, _, q1, q5, Nat.ne_of_gt (Heap.lt_size b1), Nat.ne_of_gt lt1, Nat.ne_of_gt lt2, Nat.ne_of_gt hS⟩⟩ q5 q7
  · refine held_item D b1 b2 a1 a2 a3 hl1 hl2 hx hy fun h' q1 q3 q4 q5 q6 q7 => ?_
    exact hQ h' ⟨q7 _ _ D.TIz D.TIi1 D.TIi2 a1, q3, q4, .inr ⟨T, true, oT, q1, q7 _ _ c1 c2 c3 b2, c1, c2, c3, c4⟩⟩ q5 fun c o d1 _ d3 d4 e => q7 c o d1 d3 d4 e
theorem next_end {Q : Option Value → Shared → Prop} (hh : A.handled = none) (D : ZipApart z TI TO i1 i2 l1 l2) (st : St s.heap z TI TO i1 i2 l1 l2 S i)
    (hl1 : s.heap.IsTuple l1 xs) (hl2 : s.heap.IsTuple l2 ys) (hx : xs[i]? = none)
    (hQ : ∀ h', (∀ c o, c ≠ z → c ≠ TO → c ≠ i1 → c ≠ i2 → s.heap.get? c = some o → h'.get? c = some o) → Q none { s with heap := h' }) : wpAny (model prog w) A (pyNext (.ref z)) Q E s := by
  obtain ⟨a1, a2, a3, a4⟩ := st
  rcases a4 with ⟨b1, a, b, b2⟩ | ⟨T, f, oT, b1, b2, c1, c2, c3, c4⟩
  · exact pyNext_zipT_end hh D b1 a1 b2 a2 a3 hl1 hl2 (.inl hx) hQ
  · exact held_end hh D b1 b2 a1 a2 hl1 hx fun h' k => hQ h' fun c o d1 _ d3 d4 e => k c o d1 d3 d4 e

/-- the pairs made so far -/
structure Got (xs ys : Array Value) (lo : Addr) (h : Heap) (as : List Addr) : Prop where
  rise : as.Pairwise (· < ·)
  above : ∀ a ∈ as, lo < a
  pairs : ∀ (j : Nat) (a : Addr), as[j]? = some a → ∃ x y, xs[j]? = some x ∧ ys[j]? = some y ∧ IsPair h a x y
theorem Got.there {lo : Addr} {h : Heap} {as : List Addr} (g : Got xs ys lo h as) {a : Addr} (ha : a ∈ as) : a < h.objs.size := by
  obtain ⟨j, hj⟩ := List.mem_iff_getElem?.mp ha
  obtain ⟨_, _, _, _, e⟩ := g.pairs j a hj
  exact Heap.lt_size e
theorem loop {R : Result → Shared → Prop} (hh : A.handled = none) (D : ZipApart z TI TO i1 i2 l1 l2) (nS : z ≠ S ∧ TI ≠ S ∧ TO ≠ S ∧ i1 ≠ S ∧ i2 ≠ S) (nl : l1 ≠ S ∧ l2 ≠ S ∧ l1 ≠ TO ∧ l2 ≠ TO) (sz : xs.size = ys.size) (hn : xs.size ≤ sizeLine) (res : Value) {g0 : Heap} {lo : Addr} (hlo : z ≤ lo ∧ TO ≤ lo ∧ i1 ≤ lo ∧ i2 ≤ lo ∧ S ≤ lo)
    (hR : ∀ h' tk acc c as, (∀ b o, b ≠ S → b ≠ z → b ≠ TO → b ≠ i1 → b ≠ i2 → g0.get? b = some o → h'.get? b = some o) → h'.get? S = some { cls := .type "list", dict := none, data := .seq acc c, slots := #[] } → as.length = xs.size → Got xs ys lo h' as →
      acc.toList = as.map Value.ref → R (.ok (.ret res)) { s with heap := h', toks := tk }) :
    ∀ (k i : Nat) (h : Heap) (tk c : Nat) (acc : Array Value) (as : List Addr), xs.size - i = k → i ≤ xs.size → St h z TI TO i1 i2 l1 l2 S i → h.IsTuple l1 xs → h.IsTuple l2 ys → (∀ b o, b ≠ S → b ≠ z → b ≠ TO → b ≠ i1 → b ≠ i2 → g0.get? b = some o → h.get? b = some o) →
      h.get? S = some { cls := .type "list", dict := none, data := .seq acc c, slots := #[] } → acc.toList = as.map Value.ref → as.length = i → Got xs ys lo h as → lo < h.objs.size →
      codeAny (model prog w) A (.builtin "list.extend.loop" ⟨[.ref S, .ref z, res], []⟩) R { s with heap := h, toks := tk } := by
  obtain ⟨o1, o2, o3, o4, o5⟩ := hlo
  intro k
  induction k with
  | zero =>
    intro i h tk c acc as hk hi st e1 e2 keep hS hacc hal G hlt
    refine codeAny_builtin PySem.F.entry_extend_loop ?_
    rw [Around.under_plainId PySem.F.plain_extend_loop _]
    show wpAny _ A.in1 (pyNext (.ref z) >>= _) _ _ _
    refine wpAny_bind (next_end (s := { s with heap := h, toks := tk }) (A := A.in1) hh D st e1 e2 (by simp; omega) fun h' kp => ?_)
    obtain ⟨n1, n2, n3, n4, n5⟩ := nS
    refine wpAny_pure (hR h' tk acc c as (fun b o c1 c2 c3 c4 c5 e => kp b o c2 c3 c4 c5 (keep b o c1 c2 c3 c4 c5 e)) (kp S _ n1.symm n3.symm n4.symm n5.symm hS) (by omega) ⟨G.rise, G.above, fun j a hj => ?_⟩ hacc)
    obtain ⟨x, y, q1, q2, q3⟩ := G.pairs j a hj
    have la := G.above a (List.mem_of_getElem? hj)
    exact ⟨x, y, q1, q2, kp a _ (Nat.ne_of_gt (Nat.lt_of_le_of_lt o1 la)) (Nat.ne_of_gt (Nat.lt_of_le_of_lt o2 la)) (Nat.ne_of_gt (Nat.lt_of_le_of_lt o3 la)) (Nat.ne_of_gt (Nat.lt_of_le_of_lt o4 la)) q3⟩
  | succ k ih =>
    intro i h tk c acc as hk hi st e1 e2 keep hS hacc hal G hlt
    have ilt : i < xs.size := by omega
    have ilt2 : i < ys.size := by omega
    have asz : acc.size = i := by rw [← Array.length_toList, hacc, List.length_map, hal]
    have hSl : S < h.objs.size := Heap.lt_size hS
    refine codeAny_builtin PySem.F.entry_extend_loop ?_
    rw [Around.under_plainId PySem.F.plain_extend_loop _]
    show wpAny _ A.in1 (pyNext (.ref z) >>= _) _ _ _
    refine wpAny_bind (next_item (s := { s with heap := h, toks := tk }) D st hSl e1 e2 (x := xs[i]) (y := ys[i]) (by simp [ilt]) (by simp [ilt2]) fun h' st' pr kp => ?_)
    dsimp only at pr kp ⊢
    obtain ⟨n1, n2, n3, n4, n5⟩ := id nS
    have hS' := kp S _ n1.symm n3.symm n4.symm n5.symm hS
    have up : ∀ b o, b ≠ S → h'.get? b = some o → (h'.update S (Obj.mapSeq (·.push (Value.ref h.objs.size)))).get? b = some o := fun b o hb e => (Heap.get?_update_other _ _ (Ne.symm hb)).trans e
    have tup : ∀ {l : Addr} {vs : Array Value}, l ≠ S → l ≠ z → l ≠ TO → l ≠ i1 → l ≠ i2 → h.IsTuple l vs → (h'.update S (Obj.mapSeq (·.push (Value.ref h.objs.size)))).IsTuple l vs := fun {l vs} d1 d2 d3 d4 d5 q => q.at fun o e => up l o d1 (kp l o d2 d3 d4 d5 e)
    show wpAny _ A.in1 (updateSeq S (·.push (Value.ref h.objs.size)) >>= _) _ _ _
    refine wpAny_bind ?_
    refine wpAny_updateSeq hS' rfl (wpAny_pure ⟨plainId_quiet PySem.F.plain_extend_loop _, ih (i + 1) _ tk _ (acc.push (Value.ref h.objs.size)) (as ++ [h.objs.size]) (by omega) ilt (st'.at nS up)
      (tup nl.1 D.l1z nl.2.2.1 D.l1i1 D.l1i2 e1) (tup nl.2.1 D.l2z nl.2.2.2 D.l2i1 D.l2i2 e2) (fun b o c1 c2 c3 c4 c5 e => up b o c1 (kp b o c2 c3 c4 c5 (keep b o c1 c2 c3 c4 c5 e))) (Heap.get?_update_self _ hS' rfl)
      (by rw [Array.toList_push, hacc, List.map_append]; rfl) (by rw [List.length_append, hal]; rfl) ⟨?_, ?_, ?_⟩ ?_⟩) (by rw [asz]; omega) (by show (acc.push (Value.ref h.objs.size)).size ≤ sizeLine + 1; rw [Array.size_push, asz]; omega)
    · refine List.pairwise_append.mpr ⟨G.rise, List.pairwise_singleton _ _, fun a ha b hb => ?_⟩
      rw [List.mem_singleton.mp hb]
      exact G.there ha
    · intro a ha
      rcases List.mem_append.mp ha with ha | ha
      · exact G.above a ha
      · rw [List.mem_singleton.mp ha]
        exact hlt
    · intro j b hj
      rcases Nat.lt_trichotomy j as.length with h1 | h1 | h1
      · rw [List.getElem?_append_left h1] at hj
        obtain ⟨x, y, q1, q2, q3⟩ := G.pairs j b hj
        have lb := G.above b (List.mem_of_getElem? hj)
        exact ⟨x, y, q1, q2, up b _ (Nat.ne_of_gt (Nat.lt_of_le_of_lt o5 lb)) (kp b _ (Nat.ne_of_gt (Nat.lt_of_le_of_lt o1 lb)) (Nat.ne_of_gt (Nat.lt_of_le_of_lt o2 lb)) (Nat.ne_of_gt (Nat.lt_of_le_of_lt o3 lb)) (Nat.ne_of_gt (Nat.lt_of_le_of_lt o4 lb)) q3)⟩
      · subst h1
        obtain rfl : h.objs.size = b := by simpa using hj
        exact ⟨xs[as.length]'(by omega), ys[as.length]'(by omega), by simp, by simp, up _ _ (Nat.ne_of_gt hSl) (by simpa [hal] using pr)⟩
      · have hnone : (as ++ [h.objs.size])[j]? = none := List.getElem?_eq_none (by rw [List.length_append, List.length_singleton]; omega)
        rw [hnone] at hj
        cases hj
    · have e : (h'.update S (Obj.mapSeq (·.push (Value.ref h.objs.size)))).get? h.objs.size = _ := up _ _ (Nat.ne_of_gt hSl) pr
      exact Nat.lt_trans hlt (Heap.lt_size e)
end

/-! ### list(z) -/
theorem nz1 {a N S : Nat} (h : a < N) (q : N + 5 ≤ S) : a ≠ S := by omega
theorem nz2 {a N : Nat} (k : Nat) (h : a < N) : a ≠ N + k := by omega
theorem nz3 {b N : Nat} (k : Nat) (hk : k < 5) (h : b < N ∨ N + 5 ≤ b) : b ≠ N + k := by omega
theorem nz4 {b N S : Nat} (h : b < N + 5) (q : N + 5 ≤ S) : b ≠ S := by omega
theorem no_len : typeLookup (.type "zip") "__len__" = pure none := am_miss_of_fast (by decide +kernel)
theorem no_hint : typeLookup (.type "zip") "__length_hint__" = pure none := am_miss_of_fast (by decide +kernel)
section
variable {prog : Program} {w : World} {A : Around} {E : Value → Shared → Prop} {s : Shared} {z TI TO i1 i2 l1 l2 : Addr} {xs ys : Array Value}
theorem hint {Q : Bool → Shared → Prop} (hT : s.TypeIs (.ref z) "zip") (h : Q true s) : wpAny (model prog w) A (Builtin.List.listLengthHint (.ref z)) Q E s := by
  unfold Builtin.List.listLengthHint
  refine wpAny_bind (wpAny_specialOf hT no_len ?_)
  show wpAny _ _ (specialOf (.ref z) "__length_hint__" >>= _) _ _ _
  exact wpAny_bind (wpAny_specialOf hT no_hint (wpAny_pure h))
/-- what stands ahead of list(z): the zip is new, its parts lie just below it -/
structure Fresh (h : Heap) (N : Nat) (l1 l2 : Addr) (xs ys : Array Value) : Prop where
  z : IsZip h (N + 4) (N + 2) (N + 3) .none
  ti : IsPair h (N + 2) (.ref N) (.ref (N + 1))
  to : ∃ a b, IsPair h (N + 3) a b
  a1 : h.IsTupleIter N l1 0
  a2 : h.IsTupleIter (N + 1) l2 0
  b1 : h.IsTuple l1 xs
  b2 : h.IsTuple l2 ys
  sz : N + 5 ≤ h.objs.size
  lt : l1 < N ∧ l2 < N
  eq : xs.size = ys.size
  le : xs.size ≤ sizeLine
theorem Fresh.keeps {h h' : Heap} {N : Nat} (F : Fresh h N l1 l2 xs ys) (k : ∀ b o, b < N + 5 → h.get? b = some o → h'.get? b = some o) (sz : N + 5 ≤ h'.objs.size) : Fresh h' N l1 l2 xs ys := by
  obtain ⟨a, b, q⟩ := F.to
  have e : ∀ {b : Addr} {o : Obj}, b < N + 5 → h.get? b = some o → h'.get? b = some o := fun {b o} c d => k b o c d
  obtain ⟨m1, m2⟩ := F.lt
  exact ⟨e (Nat.lt_succ_self (N + 4)) F.z, e (show (N + 2 : Nat) < N + 5 by omega) F.ti, ⟨a, b, e (show (N + 3 : Nat) < N + 5 by omega) q⟩, F.a1.at fun o y => e (show (N : Nat) < N + 5 by omega) y, F.a2.at fun o y => e (show (N + 1 : Nat) < N + 5 by omega) y,
    F.b1.at fun o y => e (show l1 < N + 5 from Nat.lt_of_lt_of_le m1 (by omega)) y, F.b2.at fun o y => e (show l2 < N + 5 from Nat.lt_of_lt_of_le m2 (by omega)) y, sz, F.lt, F.eq, F.le⟩
theorem Fresh.apart {h : Heap} {N : Nat} (F : Fresh h N l1 l2 xs ys) : ZipApart (N + 4) (N + 2) (N + 3) N (N + 1) l1 l2 := PySem.W.ktu_apart N l1 l2 F.lt.1 F.lt.2
theorem extend {R : Result → Shared → Prop} {N : Nat} {S : Addr} (hh : A.handled = none) (F : Fresh s.heap N l1 l2 xs ys) (hS0 : N + 5 ≤ S) (res : Value) (c₀ : Nat) (hS : s.heap.get? S = some { cls := .type "list", data := .seq #[] c₀ })
    (hR : ∀ h' tk acc c as, (∀ b o, b ≠ S → b < N ∨ N + 5 ≤ b → s.heap.get? b = some o → h'.get? b = some o) → h'.get? S = some { cls := .type "list", dict := none, data := .seq acc c, slots := #[] } → as.length = xs.size → Got xs ys S h' as →
      acc.toList = as.map Value.ref → R (.ok (.ret res)) { s with heap := h', toks := tk }) :
    wpAny (model prog w) A.in1 (Builtin.List.listExtendWith (.ref S) (.ref (N + 4)) res)
      (fun fin s' => match fin with | .done f => R (.ok f) s' | .again c' => c'.quiet = true ∧ codeAny (model prog w) A c' R s') (fun e s' => R (.error e) s') s := by
  have hSl : S < s.heap.objs.size := Heap.lt_size hS
  have ty : ∀ {h : Heap} {g d t os}, IsZip h (N + 4) (N + 2) (N + 3) .none → (⟨h, g, d, t, os⟩ : Shared).TypeIs (.ref (N + 4)) "zip" := fun q => ⟨_, q, rfl⟩
  have nS : ((N + 4 : Nat) : Addr) ≠ S ∧ ((N + 2 : Nat) : Addr) ≠ S ∧ ((N + 3 : Nat) : Addr) ≠ S ∧ (N : Addr) ≠ S ∧ ((N + 1 : Nat) : Addr) ≠ S := by
    have q : N + 5 ≤ S := hS0
    refine ⟨?_, ?_, ?_, ?_, ?_⟩ <;> (show (_ : Nat) ≠ S; omega)
  have m1 : l1 < N := F.lt.1
  have m2 : l2 < N := F.lt.2
  have nl : l1 ≠ S ∧ l2 ≠ S ∧ l1 ≠ ((N + 3 : Nat) : Addr) ∧ l2 ≠ ((N + 3 : Nat) : Addr) := ⟨nz1 m1 hS0, nz1 m2 hS0, nz2 3 m1, nz2 3 m2⟩
  have lo : ((N + 4 : Nat) : Addr) ≤ S ∧ ((N + 3 : Nat) : Addr) ≤ S ∧ (N : Addr) ≤ S ∧ ((N + 1 : Nat) : Addr) ≤ S ∧ S ≤ S := by
    have q : N + 5 ≤ S := hS0
    refine ⟨?_, ?_, ?_, ?_, Nat.le_refl _⟩ <;> (show (_ : Nat) ≤ S; omega)
  have key : ∀ (h : Heap) (c₁ tk : Nat), (∀ b o, b ≠ S → s.heap.get? b = some o → h.get? b = some o) → S < h.objs.size →
      h.get? S = some { cls := .type "list", data := .seq #[] c₁ } → codeAny (model prog w) A (.builtin "list.extend.loop" ⟨[.ref S, .ref (N + 4), res], []⟩) R { s with heap := h, toks := tk } := by
    intro h c₁ tk hk hs1 hS₁
    obtain ⟨a, b, to⟩ := F.to
    refine loop (s := s) (g0 := s.heap) (lo := S) hh F.apart nS nl F.eq F.le res lo (fun h' tk' acc c as kp hS' hl G hacc => hR h' tk' acc c as (fun b o hb hr e => ?_) hS' hl G hacc) xs.size 0 h tk c₁ #[] [] (Nat.sub_zero _) (Nat.zero_le _)
      (St.at (h := s.heap) ⟨F.ti, F.a1, F.a2, .inl ⟨F.z, a, b, to⟩⟩ nS hk) (F.b1.at fun o e => hk l1 o nl.1 e) (F.b2.at fun o e => hk l2 o nl.2.1 e) (fun b o hb _ _ _ _ e => hk b o hb e) hS₁ rfl rfl
      ⟨List.Pairwise.nil, (fun _ ha => nomatch ha), (fun j a hj => by simp at hj)⟩ hs1
    exact kp b o hb (nz3 4 (by decide) hr) (nz3 3 (by decide) hr) (nz3 0 (by decide) hr) (nz3 1 (by decide) hr) e
  unfold Builtin.List.listExtendWith
  refine wpAny_bind (wpAny_typeOf (T := "zip") ⟨_, F.z, rfl⟩ ?_)
  have h1 : Builtin.List.listSameRef (.ref S) (.ref (N + 4)) = false := by
    have q : S ≠ ((N + 4 : Nat) : Addr) := nS.1.symm
    simp [Builtin.List.listSameRef]
    exact q
  have h2 : (Value.type "zip" == Value.type "list") = false := by decide
  have h3 : (Value.type "zip" == Value.type "tuple") = false := by decide
  simp only [h1, h2, h3, Bool.or_false, Bool.false_eq_true, if_false]
  refine wpAny_bind (wpAny_pyIter_zip F.z ?_)
  refine wpAny_bind (wpAny_holding (hint ⟨_, F.z, rfl⟩ ?_))
  refine wpAny_ite_split (fun _ => ?_) (fun hab => absurd rfl hab)
  refine wpAny_bind (wpAny_rule (wpAny_bind ?_))
  show wpAny _ _ (updateSeq S (·.push .none) >>= fun _ => updateSeq S (·.pop)) _ _ _
  refine wpAny_bind (wpAny_updateSeq hS rfl ?_)
  have hS₂ := Heap.get?_update_self (Obj.mapSeq (·.push Value.none)) hS rfl
  refine wpAny_updateSeq (hz := by seq_fits) hS₂ rfl ?_
  have hS₃ := Heap.get?_update_self (Obj.mapSeq (·.pop)) hS₂ rfl
  refine wpAny_pure ⟨plainId_quiet PySem.F.plain_extend_loop _, key _ _ _ (fun b o hb e => ?_) ?_ hS₃⟩
  · exact (Heap.get?_update_other _ _ (Ne.symm hb)).trans ((Heap.get?_update_other _ _ (Ne.symm hb)).trans e)
  · exact Heap.lt_size hS₃
theorem call_list_zip {Q : Value → Shared → Prop} {N : Nat} (hh : A.handled = none) (F : Fresh s.heap N l1 l2 xs ys)
    (hQ : ∀ h' tk acc c as, (∀ b o, b < N ∨ N + 5 ≤ b → s.heap.get? b = some o → h'.get? b = some o) → h'.get? s.heap.objs.size = some { cls := .type "list", dict := none, data := .seq acc c, slots := #[] } → as.length = xs.size → Got xs ys s.heap.objs.size h' as →
      acc.toList = as.map Value.ref → Q (.ref s.heap.objs.size) { s with heap := h', toks := tk }) :
    wpAny (model prog w) A (call (.type "list") [.ref (N + 4)]) Q E s := by
  refine callType_codes (Q₁ := fun obj s₁ => obj = .ref s.heap.objs.size ∧ s₁ = { s with heap := s.heap.push { cls := .type "list", data := .seq #[] } }) PySem.F.called_list (PySem.F.typeCall_list_1 _) PySem.F.entry_list_init
    (code_list_new _ ⟨rfl, rfl⟩) fun obj s₁ h₁ => ?_
  obtain ⟨rfl, rfl⟩ := h₁
  have hS : (s.heap.push { cls := .type "list", data := .seq #[] }).get? s.heap.objs.size = some { cls := .type "list", data := .seq #[] } := Heap.get?_push_size _ rfl
  have big : N + 5 ≤ s.heap.objs.size := F.sz
  have F1 : Fresh (s.heap.push { cls := .type "list", data := .seq #[] }) N l1 l2 xs ys := F.keeps (fun b o _ e => Heap.get?_push_of_some _ e) (by rw [Heap.size_push]; omega)
  refine ⟨⟨_, hS, rfl⟩, PySem.F.args_list_init_2 _ _, ?_⟩
  show wpAny _ _ (do let old ← Builtin.List.listItems (.ref s.heap.objs.size); Builtin.List.listUpdate (.ref s.heap.objs.size) (fun _ => #[]); letGo old.toList.reverse; Builtin.List.listExtendWith (.ref s.heap.objs.size) (.ref (N + 4)) .none) _ _ _
  refine wpAny_bind ?_
  unfold Builtin.List.listItems
  refine wpAny_bind (wpAny_seqItems hS rfl (wpAny_pure ?_))
  show wpAny _ _ (updateSeq s.heap.objs.size (fun _ => #[]) >>= fun _ => letGo (#[] : Array Value).toList.reverse >>= fun _ => Builtin.List.listExtendWith (.ref s.heap.objs.size) (.ref (N + 4)) .none) _ _ _
  refine wpAny_bind (wpAny_updateSeq hS rfl ?_)
  have hS₂ := Heap.get?_update_self (Obj.mapSeq (fun _ => (#[] : Array Value))) hS rfl
  have oth : ∀ b o, b ≠ s.heap.objs.size → (s.heap.push { cls := .type "list", data := .seq #[] }).get? b = some o → ((s.heap.push { cls := .type "list", data := .seq #[] }).update s.heap.objs.size (Obj.mapSeq (fun _ => (#[] : Array Value)))).get? b = some o :=
    fun b o hb e => (Heap.get?_update_other _ _ (Ne.symm hb)).trans e
  refine wpAny_bind (wpAny_letGo ?_)
  refine extend (A := A.in1) (N := N) (S := s.heap.objs.size) hh (F1.keeps (fun b o hb e => oth b o ?_ e) ?_) big .none _ hS₂ fun h' tk acc c as hk hS' hl G hacc => ⟨rfl, hQ h' tk acc c as (fun b o hb e => ?_) hS' hl G hacc⟩
  · exact nz4 hb big
  · exact Nat.le_trans big (Nat.le_of_lt (Heap.lt_size hS₂))
  · have nb : b ≠ s.heap.objs.size := Nat.ne_of_lt (Heap.lt_size e)
    exact hk b o nb hb (oth b o nb (Heap.get?_push_of_some _ e))
end
end MsZ
set_option Elab.async false
set_option linter.all false
set_option maxRecDepth 100000
set_option maxHeartbeats 4000000
/-! Ms: list(zip(s, t)) of two tuples. -/
namespace Ms
open PySem PySem.Spec PyProof.Rows L2
/-- pairs tracked at their addresses -/
def putP : Hp → List Addr → List (V × V) → Hp
  | H, a :: as, p :: ps => putP (upd H a (.tup [p.1, p.2])) as ps
  | H, _, _ => H
theorem putP_off {b : Addr} : ∀ (as : List Addr) (ps : List (V × V)) (H : Hp), b ∉ as → putP H as ps b = H b
  | [], _, _, _ => rfl
  | _ :: _, [], _, _ => rfl
  | a :: as, p :: ps, H, h => by
    show putP (upd H a (.tup [p.1, p.2])) as ps b = H b
    rw [putP_off as ps _ (fun z => h (List.mem_cons_of_mem _ z)), upd_ne (fun z => h (by rw [z]; exact List.mem_cons_self))]
theorem putP_at : ∀ (as : List Addr) (ps : List (V × V)) (H : Hp), as.length = ps.length → as.Nodup → Paired (fun (t : Addr) (p : V × V) => putP H as ps t = some (.tup [p.1, p.2])) as ps
  | [], [], _, _, _ => .nil
  | [], _ :: _, _, h, _ => by cases h
  | _ :: _, [], _, h, _ => by cases h
  | a :: as, p :: ps, H, h, hn => by
    have hn' := List.nodup_cons.mp hn
    refine .cons ?_ (putP_at as ps (upd H a (.tup [p.1, p.2])) (Nat.succ.inj h) hn'.2)
    show putP (upd H a (.tup [p.1, p.2])) as ps a = some (.tup [p.1, p.2])
    rw [putP_off as ps _ hn'.1, upd_same]
/-- what a list of new pairs asks -/
def NewPairs (H : Hp) (ps : List (V × V)) (Q : VK) : Prop := ∀ (H' : Hp) (p : Addr) (ts : List Addr), (∀ b o, H b = some o → H' b = some o) → H p = none → (∀ t ∈ ts, H t = none) → p ∉ ts → H' p = some (.lst (ts.map V.ref)) →
  Paired (fun (t : Addr) (q : V × V) => H' t = some (.tup [q.1, q.2])) ts ps → Q (.ref p) H'
def tLZip (K : PySem.W.Frag) (ta : TA) : TE := fun σ H Q => ta σ H fun vs H1 => ∃ (a b : Addr) (xs ys : List V), vs = [.ref a, .ref b] ∧ SqT K H1 a xs ∧ SqT K H1 b ys ∧ xs.length = ys.length ∧ NewPairs H1 (xs.zip ys) Q
section
variable {X : Cx}
theorem zip_laid {pins : List (Addr × Obj)} {σ : St} {H : Hp} {s s0 : Shared} {h' : Heap} {tk : Nat} {xs ys : List V} {us vs : List Value} {acc : Array Value} {c : Nat} {as : List Addr} (I : Inv X pins σ H s0) (hle : s0.heap.objs.size ≤ s.heap.objs.size) (es : { s with heap := h', toks := tk } = { s0 with heap := h', toks := tk }) (hz : xs.length ≤ sizeLine) (rx : Vals xs us) (ry : Vals ys vs) (hxy : xs.length = ys.length)
    (hk : ∀ b o, s0.heap.get? b = some o → h'.get? b = some o) (hS : h'.get? s.heap.objs.size = some { cls := .type "list", dict := none, data := .seq acc c, slots := #[] }) (hl : as.length = us.length) (hG : MsZ.Got us.toArray vs.toArray s.heap.objs.size h' as) (hacc : acc.toList = as.map Value.ref) :
    ∃ H' : Hp, (∀ b o, H b = some o → H' b = some o) ∧ H s.heap.objs.size = none ∧ (∀ t ∈ as, H t = none) ∧ s.heap.objs.size ∉ as ∧ H' s.heap.objs.size = some (.lst (as.map V.ref)) ∧ Paired (fun (t : Addr) (q : V × V) => H' t = some (.tup [q.1, q.2])) as (xs.zip ys) ∧ Inv X pins σ H' { s with heap := h', toks := tk } := by
  have lx := rx.length
  have ly := ry.length
  have hSn : s.heap.objs.size ∉ as := fun z => Nat.lt_irrefl _ (hG.above _ z)
  have nd : as.Nodup := List.Pairwise.imp (fun {a b} (h : a < b) => Nat.ne_of_lt h) hG.rise
  have new : ∀ t ∈ as, H t = none := fun t ht => I.hok.fresh (Nat.le_trans hle (Nat.le_of_lt (hG.above t ht)))
  have newS : H s.heap.objs.size = none := I.hok.fresh hle
  have lz : as.length = (xs.zip ys).length := by rw [List.length_zip]; omega
  have atP := putP_at as (xs.zip ys) (upd H s.heap.objs.size (.lst (as.map V.ref))) lz nd
  have off : ∀ b, b ∉ as → b ≠ s.heap.objs.size → putP (upd H s.heap.objs.size (.lst (as.map V.ref))) as (xs.zip ys) b = H b := fun b h1 h2 => by rw [putP_off as _ _ h1, upd_ne h2]
  have low : ∀ b o, s0.heap.get? b = some o → b ∉ as ∧ b ≠ s.heap.objs.size := fun b o e => ⟨fun z => absurd (Heap.lt_size e) (Nat.not_lt.mpr (Nat.le_trans hle (Nat.le_of_lt (hG.above b z)))), Nat.ne_of_lt (Nat.lt_of_lt_of_le (Heap.lt_size e) hle)⟩
  have kp : ∀ b u, H b = some u → (putP (upd H s.heap.objs.size (.lst (as.map V.ref))) as (xs.zip ys)) b = some u := fun b u e => by
    rw [off b (fun z => by rw [new b z] at e; cases e) (fun z => by rw [z, newS] at e; cases e)]
    exact e
  have eS : putP (upd H s.heap.objs.size (.lst (as.map V.ref))) as (xs.zip ys) s.heap.objs.size = some (.lst (as.map V.ref)) := by rw [putP_off as _ _ hSn, upd_same]
  refine ⟨putP (upd H s.heap.objs.size (.lst (as.map V.ref))) as (xs.zip ys), kp, newS, new, hSn, eS, atP, ?_⟩
  rw [es]
  refine I.call' (ch := []) rfl ⟨fun b o q _ _ _ => hk b o q, fun b o q _ _ _ => ⟨o.slots, hk b o q⟩, fun b o q n _ => ?_, fun b o q _ => ⟨o, hk b o q⟩, fun b xs q => kp b _ q, fun b o u q => kp b _ q, fun b ps q => ⟨#[], by rw [kp b _ q]; simp⟩⟩ (fun b u q => ?_) I.bare fun b z => by simp at z
  · obtain ⟨z1, z2⟩ := low b o q
    rw [off b z1 z2]
    exact n
  · by_cases hb : b ∈ as
    · obtain ⟨j, pk, e1, e2, e3⟩ := LiI.paired_ix atP hb
      rw [e3] at q
      cases q
      obtain ⟨x, y, f1, f2, f3⟩ := hG.pairs j b e1
      obtain ⟨g1, g2⟩ := List.getElem?_zip_eq_some.mp e2
      obtain ⟨u, k1, k2⟩ := LiI.paired_get rx g1
      obtain ⟨v, k3, k4⟩ := LiI.paired_get ry g2
      rw [List.getElem?_toArray] at f1 f2
      rw [f1] at k1
      rw [f2] at k3
      cases k1
      cases k3
      exact ⟨by show 2 ≤ sizeLine; decide, [x, y], .cons k2 (.cons k4 .nil), ⟨_, f3, rfl, _, rfl⟩⟩
    · by_cases hb2 : b = s.heap.objs.size
      · rw [hb2] at q ⊢
        rw [eS] at q
        cases q
        refine ⟨by rw [List.length_map]; omega, acc.toList, c, by rw [hacc]; exact LiI.vals_refs as, ?_⟩
        rw [Array.toArray_toList]
        exact hS
      · rw [off b hb hb2] at q
        exact (I.hok b u q).stay (fun d v _ y => hk d v y) (fun d y => kp d _ y) fun d xs y => kp d _ y
/-- list(zip(a, b)), both tuples of one length -/
theorem pe_lzip {e e2 : Expr} {ta : TA} {p p2 pos pos2 : Pos} (hg2 : Gl X "zip") (hm2 : X.mg "zip" = none) (hg : Gl X "list") (hm : X.mg "list" = none) (hv : bootBuiltins "list" = some (.type "list")) (ha : PA X [e, e2] ta) (hc : X.calm = true := by rfl)
    (hs2 : starEach [e, e2] X.env = (false, eval e X.env) :: starEach [e2] X.env := by rfl) (hpl2 : (backTo pos2 (starEach [e2] X.env)).any (·.1) = false := by rfl)
    (hs : starEach [.Call (.Name "zip" p2) [e, e2] [] pos2] X.env = (false, eval (.Call (.Name "zip" p2) [e, e2] [] pos2) X.env) :: starEach [] X.env := by rfl) :
    PE X (.Call (.Name "list" p) [.Call (.Name "zip" p2) [e, e2] [] pos2] [] pos) (tLZip X.K ta) := by
  refine ⟨fun pins s σ H Q I h => ?_⟩
  refine wpAny_Call_Name_kw (ld_blt I hg hm hv ?_)
  refine PyProof.Rows.callWith_type1 ?_ hs rfl
  rw [hs]
  show wpAny _ _ (spliced ((false, eval (.Call (.Name "zip" p2) [e, e2] [] pos2) X.env) :: backTo pos (starEach [] X.env))) _ _ s
  refine Calls.spliced_cons ?_
  refine Call_ (ld_blt I hg2 hm2 PyProof.Rows.boot_zip (PyProof.Rows.callWith_type1 (thn (ha.run pos2 pins s σ H _ I h) fun us s1 ⟨vs, H1, I1, r1, q1⟩ => ?_) hs2 hpl2))
  obtain ⟨a, b, xs, ys, ex, hqx, hqy, hl, q⟩ := q1
  subst ex
  obtain ⟨u1, u2, rfl, r, r'⟩ := vals2 r1
  cases r
  cases r'
  obtain ⟨its, rv, p1, hz⟩ := I1.tuple hqx
  obtain ⟨its2, rv2, p2', _⟩ := I1.tuple hqy
  have t1 : s1.heap.IsTuple a its.toArray := p1
  have t2 : s1.heap.IsTuple b its2.toArray := p2'
  obtain ⟨o1, ho1, _⟩ := id p1
  obtain ⟨o2, ho2, _⟩ := id p2'
  have lx := rv.length
  have ly := rv2.length
  refine RZ.call_zipT t1 t2 fun h' hz' hTI hTO h1 h2 hsz hk => ?_
  refine Calls.spliced_nil ?_
  have F : MsZ.Fresh h' s1.heap.objs.size a b its.toArray its2.toArray := ⟨hz', hTI, ⟨_, _, hTO⟩, h1, h2, t1.at fun o x => hk a o x, t2.at fun o x => hk b o x, Nat.le_of_eq hsz.symm, ⟨Heap.lt_size ho1, Heap.lt_size ho2⟩,
    by simp only [List.size_toArray]; omega, by simp only [List.size_toArray]; omega⟩
  refine MsZ.call_list_zip (s := { s1 with heap := h' }) (I.ok.hd hc) F fun h3 tk acc c as hk3 hS hl3 hG hacc => ?_
  obtain ⟨H', k1, k2, k3, k4, k5, k6, J⟩ := zip_laid (s := { s1 with heap := h' }) (s0 := s1) (tk := tk) I1 (by show s1.heap.objs.size ≤ h'.objs.size; omega) rfl hz rv rv2 hl (fun b o z => hk3 b o (.inl (Heap.lt_size z)) (hk b o z)) hS (by simpa using hl3) hG hacc
  exact ⟨.ref _, H', J, rfl, q H' _ as k1 k2 k3 k4 k5 k6⟩
end
end Ms
set_option Elab.async false
set_option linter.all false
set_option maxRecDepth 100000
set_option maxHeartbeats 4000000
/-! Ms: enumerate over a tuple. -/
namespace MsE
open PySem
open PySem.Sem (wp)
open AutoSeq1 (wpAny_loadPart')
theorem meets_new (l : Addr) (items : Array Value) (n : Nat) (dct : Option Addr) (sl : Array (Option Value)) :
    Meets (Builtin.«enumerate.__new__» ⟨[.type "enumerate", .ref l], []⟩) (fun _ R s => s.heap.get? l = some { cls := .type "tuple", dict := dct, data := .seq items n, slots := sl } ∧
      R (.ok (.ret (.ref (s.heap.push { cls := .type "tuple_iterator", data := .fields #[.ref l, .int 0 0] }).objs.size)))
        { s with heap := (s.heap.push { cls := .type "tuple_iterator", data := .fields #[.ref l, .int 0 0] }).push { cls := .type "enumerate", data := .fields #[.none, .bool false, .ref s.heap.objs.size, rawInt 0, .none, .none] } }) :=
  .of_wp fun prog w A R s h => by
    obtain ⟨hp, g, d, tk, os⟩ := s
    obtain ⟨hl, h⟩ := h
    have sub := sub_enumerate
    have t : Heap.IsTuple (Shared.heap ⟨hp, g, d, tk, os⟩) l items := ⟨_, hl, rfl, n, rfl⟩
    wp_walk using wpAny_loadPart' hl
    refine wpAny_stack_any fun st => wpAny_pure ?_
    split
    · rename_i c _ _ _ _ _
      cases (c == Value.type "enumerate")
      · wp_walk using wpAny_loadPart' hl, wpAny_pyIter_tuple t
        exact ⟨_, rfl, h⟩
      · wp_walk using wpAny_loadPart' hl, wpAny_pyIter_tuple t
        exact ⟨_, rfl, h⟩
    · wp_walk using wpAny_loadPart' hl, wpAny_pyIter_tuple t
      exact ⟨_, rfl, h⟩
section
variable {prog : Program} {w : World} {A : Around} {E : Value → Shared → Prop} {s : Shared}
theorem call_enum {l : Addr} {items : Array Value} {Q : Value → Shared → Prop} (hL : s.heap.IsTuple l items)
    (h : ∀ h', IsEnum h' (s.heap.objs.size + 1) s.heap.objs.size 0 .none → h'.IsTupleIter s.heap.objs.size l 0 → (∀ b o, s.heap.get? b = some o → h'.get? b = some o) → Q (.ref (s.heap.objs.size + 1)) { s with heap := h' }) :
    wpAny (model prog w) A (call (.type "enumerate") [.ref l]) Q E s := by
  obtain ⟨⟨c, dct, dt, sl⟩, hl, hc, n, hd⟩ := hL
  dsimp only at hc hd
  subst hc hd
  refine callType_new F.called_enumerate (by decide) (F.typeCall_enumerate_1 _) (F.newCall_enumerate_1 _) (fun obj => F.args_object_init_2 obj _) F.entry_enumerate_new (meets_new l items n dct sl) ⟨hl, ?_⟩
  have hz : (s.heap.push { cls := .type "tuple_iterator", data := .fields #[.ref l, .int 0 0] }).objs.size = s.heap.objs.size + 1 := Heap.size_push ..
  have he := Heap.get?_push_size (s.heap.push { cls := .type "tuple_iterator", data := .fields #[.ref l, .int 0 0] }) (o := { cls := .type "enumerate", data := .fields #[.none, .bool false, .ref s.heap.objs.size, rawInt 0, .none, .none] }) rfl
  rw [hz] at he
  show _ ∧ _
  rw [hz]
  exact ⟨⟨_, he, rfl⟩, h _ he ⟨_, Heap.get?_push_of_some _ (Heap.get?_push_size _ rfl), rfl, rfl⟩ fun b o x => Heap.get?_push_of_some _ (Heap.get?_push_of_some _ x)⟩
end
end MsE
namespace Ms
open PySem PySem.Spec PyProof.Rows L2
/-- enumerate(t): the tuple's items, each with its place in a new pair -/
def ItE (K : PySem.W.Frag) (a : Addr) : It :=
  ⟨fun i H => ∃ (xs : List V) (x : V), SqT K H a xs ∧ xs[i]? = some x, fun i H v H' => ∃ T x, v = .ref T ∧ H T = none ∧ H' = upd H T (.tup [.int (i : Nat), x]) ∧ ∀ xs, SqT K H a xs → xs[i]? = some x, fun i H => ∃ xs : List V, SqT K H a xs ∧ xs.length = i⟩
theorem turn_enumT {P : Program} {w : World} {K : PySem.W.Frag} {elts : List Expr} {kk : Nat} {tpos : Pos} (a e it : Addr) (hae : a ≠ e) (hai : a ≠ it) (hei : e ≠ it) :
    Turn P w K (.Tuple elts kk tpos) (ItE K a) [e, it] e (fun i h => (∃ old, IsEnum h e it ((i : Nat) : Int) old) ∧ h.IsTupleIter it a i) where
  mem := by simp
  obj := fun i h st b hb => by
    obtain ⟨⟨old, he⟩, ⟨o, ho, hc, hd⟩⟩ := st
    rcases (by simpa using hb : b = e ∨ b = it) with z | z
    · rw [z]; exact ⟨_, he, fun v q => nomatch q⟩
    · rw [z]; exact ⟨o, ho, fun v q => by rw [hd] at q; cases q⟩
  keep := fun i h h' st k => let ⟨⟨old, he⟩, hi⟩ := st; ⟨⟨old, k e (by simp) _ he⟩, hi.at fun o q => k it (by simp) o q⟩
  item := by
    intro X hP hw hK hc i pins s σ H E I hf st hg
    subst hP hw hK
    obtain ⟨⟨old, he⟩, hit⟩ := st
    obtain ⟨xs, x, hq, hx⟩ := hg
    obtain ⟨its, rv, p, hz⟩ := I.tuple hq
    obtain ⟨u, hu, ru⟩ := rv.get hx
    have t : s.heap.IsTuple a its.toArray := p
    have D := Draws.tuple (prog := X.prog) (w := X.w) (A := X.A.in1) (I.ok.hd hc) it a hai its.toArray
    have ni : i < its.toArray.size := by
      have q := List.getElem?_eq_some_iff.mp hu
      simpa using q.1
    have hel : e < s.heap.objs.size := Heap.lt_size he
    have hil : it < s.heap.objs.size := by obtain ⟨_, q, _⟩ := hit; exact Heap.lt_size q
    refine wpAny_pyNext_enum_itemC D he ⟨hit, t⟩ ni hei (by simp; exact ⟨hei, hae.symm⟩) fun y h' tk hy ho st' hT hsz hk => ?_
    have ey : y = u := by
      rw [List.getElem?_toArray, hu] at hy
      exact (Option.some.inj hy).symm
    subst ey
    refine ⟨_, rfl, wpAny_letOwnedTupleGo_enum (s := { s with heap := h', toks := tk + 1 }) ho fun h'' he' sb => ?_⟩
    have hT2 : h''.get? s.heap.objs.size = some { cls := .type "tuple", data := .seq #[.int i tk, y] } := (sb.2 _ (Nat.ne_of_gt hel)).trans hT
    have new : ObjOk X.prog X.w (upd H s.heap.objs.size (.tup [.int (i : Nat), x])) h'' s.heap.objs.size (.tup [.int (i : Nat), x]) :=
      ⟨by show 2 ≤ sizeLine; decide, [.int i tk, y], .cons ⟨_, rfl⟩ (.cons ru .nil), ⟨_, hT2, rfl, _, rfl⟩⟩
    have I1 : Inv X pins σ (upd H s.heap.objs.size (.tup [.int (i : Nat), x])) { s with heap := h'', toks := tk + 1 } :=
      I.turnedNew (ch := [e, it]) (fun b ob hb q => (sb.2 b (fun z => hb (by simp [z]))).trans (hk b ob (fun z => hb (by simp [z])) (fun z => hb (by simp [z])) q)) hf (Nat.le_refl _) new
    refine ⟨.ref s.heap.objs.size, _, I1, rfl, ⟨_, x, rfl, I.hok.fresh (Nat.le_refl _), rfl, fun ys hy => by rw [I.tuple_inj hy hq]; exact hx⟩, ⟨⟨y, ?_⟩, st'.1.at fun o q => (sb.2 it (Ne.symm hei)).trans q⟩, fun b hb => ?_⟩
    · have e1 : ((i + 1 : Nat) : Int) = (i : Int) + 1 := by omega
      rw [e1]; exact he'
    · have hb' : b < s.heap.objs.size := by
        rcases (by simpa using hb : b = e ∨ b = it) with z | z
        · rw [z]; exact hel
        · rw [z]; exact hil
      rw [upd_ne (Nat.ne_of_lt hb')]
      exact (hf b hb).1
  done := by
    intro X hP hw hK hc i pins s σ H E I hf st hg
    subst hP hw hK
    obtain ⟨⟨old, he⟩, hit⟩ := st
    obtain ⟨xs, hq, hx⟩ := hg
    obtain ⟨its, rv, p, hz⟩ := I.tuple hq
    have hl := rv.length
    have t : s.heap.IsTuple a its.toArray := p
    have D := Draws.tuple (prog := X.prog) (w := X.w) (A := X.A.in1) (I.ok.hd hc) it a hai its.toArray
    have ni : its.toArray.size = i := by simp; omega
    obtain ⟨f0, f1, f2, f3, f4, f5⟩ := hf it (by simp)
    exact wpAny_pyNext_enum_endD D he (by rw [ni]; exact ⟨hit, t⟩) fun h' eb => ⟨rfl, I.turned (t' := s.toks) (fun b o hb q => eb b o hb q) f0 f1 f3 f4 f5⟩
  self := fun A i s Q E st h => let ⟨⟨_, he⟩, _⟩ := st; wpAny_pyIter_enum he h
def iEnumT (K : PySem.W.Frag) (ta : TA) : TI := fun σ H R => ta σ H fun vs H1 => ∃ a xs, vs = [.ref a] ∧ SqT K H1 a xs ∧ R (ItE K a) H1
theorem pi_enumT {X : Cx} {e : Expr} {ta : TA} {p pos tpos : Pos} {elts : List Expr} {kk : Nat} (hg : Gl X "enumerate") (hm : X.mg "enumerate" = none) (ha : PA X [e] ta) (hs : starEach [e] X.env = [(false, eval e X.env)] := by rfl) :
    PI X (.Tuple elts kk tpos) (.Call (.Name "enumerate" p) [e] [] pos) (iEnumT X.K ta) := by
  refine ⟨fun pins s σ H R I h => ?_⟩
  refine Call_ (ld_blt I hg hm boot_enumerate (PyProof.Rows.callWith_type1 (thn (ha.run pos pins s σ H _ I h) fun us s1 ⟨vs, H1, I1, r1, q1⟩ => ?_) hs rfl))
  obtain ⟨a, xs, ex, hq, q⟩ := q1
  subst ex
  cases r1 with
  | cons r rr =>
    cases rr
    cases r
    obtain ⟨its, rv, p', hz⟩ := I1.tuple hq
    obtain ⟨o1, ho1, _⟩ := id p'
    have la : a < s1.heap.objs.size := Heap.lt_size ho1
    refine MsE.call_enum (items := its.toArray) p' fun h' he hit hk => wpAny_pyIter_enum he ?_
    have I2 : Inv X pins σ H1 { s1 with heap := h' } := I1.kept (t' := s1.toks) hk
    refine ⟨s1.heap.objs.size + 1, [s1.heap.objs.size + 1, s1.heap.objs.size], _, _, H1, rfl, I2, turn_enumT a (s1.heap.objs.size + 1) s1.heap.objs.size (Nat.ne_of_lt (Nat.lt_succ_of_lt la)) (Nat.ne_of_lt la) (Nat.succ_ne_self _), ⟨⟨.none, he⟩, hit⟩, fun b hb => ?_, q⟩
    have hle : s1.heap.objs.size ≤ b := by
      rcases (by simpa using hb : b = s1.heap.objs.size + 1 ∨ b = s1.heap.objs.size) with z | z
      · rw [z]; exact Nat.le_add_right _ _
      · rw [z]; exact Nat.le_refl _
    exact I1.fpOk hle (I1.hok.fresh hle)
theorem walk_enumT {K : PySem.W.Frag} {a : Addr} {xs : List V} : Walk (ItE K a) xs.length (fun H => SqT K H a xs) (YPair (fun i => some (.int (i : Nat))) (fun i => xs[i]?)) := by
  refine ⟨fun i _ hi q => ⟨xs, xs[i], q, by simp [hi]⟩, fun _ q => ⟨xs, q, rfl⟩, fun i H v H' _ q y => ?_⟩
  obtain ⟨T, x, h1, h2, h3, h4⟩ := y
  exact ⟨T, .int (i : Nat), x, h1, h2, h3, rfl, h4 xs q⟩
end Ms
set_option Elab.async false
set_option linter.all false
set_option maxRecDepth 100000
set_option maxHeartbeats 4000000
/-! Ms: from a def of the text to its promise. -/
namespace Ms
open PySem PySem.Spec PyProof.Rows L2
/-- the i-th statement of a class's body -/
def mem (s : Stmt) (i : Nat) : Stmt := match s with
  | .ClassDef (body := b) .. => b.getD i (.Pass ⟨0, 0, 0, 0⟩)
  | _ => .Pass ⟨0, 0, 0, 0⟩
/-- the def st stands at f -/
abbrev DefAt (K : PySem.W.Frag) (x qual : Str) (st : Stmt) (f : Addr) : Prop := ∃ fd, FunD K x qual (defArgs st) (defBody st) (defScope st) [] [] f fd
/-- its parameters are bound in their order -/
abbrev BindsIn (x qual : Str) (st : Stmt) (ps : List Str) : Prop := ∀ (kV doc pm : Value) (an : Option Addr) (cdv ct : Value) (us : List Value), us.length = ps.length → bindArgs (PySem.W.fnOf x qual (defArgs st) (defBody st) (defScope st) .none kV doc pm an cdv ct) ⟨us, []⟩ = pure (ps.zip us)
section
variable {P : Program} {w : World} {K : PySem.W.Frag} {mg : Str → Option Value} {base : Heap} {x qual : Str} {st : Stmt} {N ps : List Str} {k : Nat} {sp : Sp} {f : Addr}
/-- the body's term and its reading, no exception leaves it -/
abbrev Goal (P : Program) (w : World) (K : PySem.W.Frag) (mg : Str → Option Value) (base : Heap) (qual : Str) (st : Stmt) (N : List Str) (f : Addr) (cdv : Value) (A : Around) (outer : List Env) (s : Shared) (H : Hp) (vs : List V) (Q : VK) (E : XK) : Prop :=
  ∃ t, PSs (cxOf (L2.CX P w) P w K mg base N qual (defScope st) f cdv A outer s H E).nox (defBody st) t ∧ t { nx := fun _ H' => Q .non H', rt := Q } (L2.start N vs) H
/-- .. an exception may leave it -/
abbrev GoalX (P : Program) (w : World) (K : PySem.W.Frag) (mg : Str → Option Value) (base : Heap) (qual : Str) (st : Stmt) (N : List Str) (f : Addr) (cdv : Value) (A : Around) (outer : List Env) (s : Shared) (H : Hp) (vs : List V) (Q : VK) (E : XK) : Prop :=
  ∃ t, PSs (cxOf (L2.CX P w) P w K mg base N qual (defScope st) f cdv A outer s H E) (defBody st) t ∧ t { nx := fun _ H' => Q .non H', rt := Q } (L2.start N vs) H
abbrev Rm (k : Nat) (qual : Str) (st : Stmt) (f : Addr) (cdv : Value) (A : Around) (s : Shared) : Prop := Room k (A.deeper (envOfC qual (defScope st) s.heap.objs.size f cdv))
abbrev Body (P : Program) (w : World) (K : PySem.W.Frag) (mg : Str → Option Value) (base : Heap) (qual : Str) (st : Stmt) (N : List Str) (k : Nat) (f : Addr) (sp : Sp) : Prop :=
  ∀ (cdv : Value) (A : Around) (outer : List Env) (s : Shared) (H : Hp) (vs : List V) (Q : VK) (E : XK), Rm k qual st f cdv A s → sp vs H Q E → Goal P w K mg base qual st N f cdv A outer s H vs Q E
abbrev BodyX (P : Program) (w : World) (K : PySem.W.Frag) (mg : Str → Option Value) (base : Heap) (qual : Str) (st : Stmt) (N : List Str) (k : Nat) (f : Addr) (sp : Sp) : Prop :=
  ∀ (cdv : Value) (A : Around) (outer : List Env) (s : Shared) (H : Hp) (vs : List V) (Q : VK) (E : XK), Rm k qual st f cdv A s → sp vs H Q E → GoalX P w K mg base qual st N f cdv A outer s H vs Q E
theorem fn_okX (F : DefAt K x qual st f) (S : FnScope N ps (defScope st)) (len : ∀ vs H Q E, sp vs H Q E → vs.length = ps.length) (hb : BindsIn x qual st ps) (body : BodyX P w K mg base qual st N k f sp) : ∃ fd ps, FnOk P w K mg base (L2.CX P w) (k + 1) f fd ps sp ∧ Binds K fd ps [] := by
  obtain ⟨fd, F⟩ := F
  exact ⟨fd, ps, F.ok S len body, F.bindsN hb⟩
theorem fn_ok (F : DefAt K x qual st f) (S : FnScope N ps (defScope st)) (len : ∀ vs H Q E, sp vs H Q E → vs.length = ps.length) (hb : BindsIn x qual st ps) (body : Body P w K mg base qual st N k f sp) : ∃ fd ps, FnOk P w K mg base (L2.CX P w) (k + 1) f fd ps sp ∧ Binds K fd ps [] :=
  fn_okX F S len hb fun cdv A outer s H vs Q E hr h => let ⟨t, h1, h2⟩ := body cdv A outer s H vs Q E hr h; ⟨t, h1.nox, h2⟩
/-- a module's def by its name -/
structure At (K : PySem.W.Frag) (mg : Str → Option Value) (x : Str) (st : Stmt) : Prop where
  df : DefAt K x x st (He.ga K x)
  gl : mg x = some (.ref (He.ga K x))
theorem ok_of (D : At K mg x st) (S : FnScope N ps (defScope st)) (len : ∀ vs H Q E, sp vs H Q E → vs.length = ps.length) (hb : BindsIn x x st ps) (body : Body P w K mg base x st N k (He.ga K x) sp) : Ok P w K mg base x (k + 1) sp :=
  ⟨fn_ok D.df S len hb body, D.gl, let ⟨_, F⟩ := D.df; F.kp⟩
theorem ok_ofX (D : At K mg x st) (S : FnScope N ps (defScope st)) (len : ∀ vs H Q E, sp vs H Q E → vs.length = ps.length) (hb : BindsIn x x st ps) (body : BodyX P w K mg base x st N k (He.ga K x) sp) : Ok P w K mg base x (k + 1) sp :=
  ⟨fn_okX D.df S len hb body, D.gl, let ⟨_, F⟩ := D.df; F.kp⟩
/-- a method of a class by both names -/
structure MAt (K : PySem.W.Frag) (c m qual : Str) (st : Stmt) : Prop where
  df : DefAt K m qual st (He.ma K (He.ga K c) m)
  cl : Cls K (He.ga K c)
  me : Meth K (He.ga K c) m (He.ma K (He.ga K c) m)
theorem mok_of {c m : Str} (D : MAt K c m qual st) (S : FnScope N ps (defScope st)) (len : ∀ vs H Q E, sp vs H Q E → vs.length = ps.length) (hb : BindsIn m qual st ps) (body : Body P w K mg base qual st N k (He.ma K (He.ga K c) m) sp) : MOk P w K mg base c m (k + 1) sp :=
  ⟨fn_ok D.df S len hb body, D.cl, D.me⟩
end
/-- arguments bound one by one -/
theorem bi1 {x q : Str} {st : Stmt} {a : Str} (h : ∀ (kV doc pm : Value) (an : Option Addr) (cdv ct u : Value), bindArgs (PySem.W.fnOf x q (defArgs st) (defBody st) (defScope st) .none kV doc pm an cdv ct) ⟨[u], []⟩ = pure [(a, u)]) : BindsIn x q st [a] := fun kV doc pm an cdv ct us hl => match us, hl with
  | [u], _ => h kV doc pm an cdv ct u
theorem bi2 {x q : Str} {st : Stmt} {a b : Str} (h : ∀ (kV doc pm : Value) (an : Option Addr) (cdv ct u v : Value), bindArgs (PySem.W.fnOf x q (defArgs st) (defBody st) (defScope st) .none kV doc pm an cdv ct) ⟨[u, v], []⟩ = pure [(a, u), (b, v)]) : BindsIn x q st [a, b] := fun kV doc pm an cdv ct us hl => match us, hl with
  | [u, v], _ => h kV doc pm an cdv ct u v
theorem bi3 {x q : Str} {st : Stmt} {a b c : Str} (h : ∀ (kV doc pm : Value) (an : Option Addr) (cdv ct u v z : Value), bindArgs (PySem.W.fnOf x q (defArgs st) (defBody st) (defScope st) .none kV doc pm an cdv ct) ⟨[u, v, z], []⟩ = pure [(a, u), (b, v), (c, z)]) : BindsIn x q st [a, b, c] := fun kV doc pm an cdv ct us hl => match us, hl with
  | [u, v, z], _ => h kV doc pm an cdv ct u v z
theorem bi4 {x q : Str} {st : Stmt} {a b c d : Str} (h : ∀ (kV doc pm : Value) (an : Option Addr) (cdv ct u v z y : Value), bindArgs (PySem.W.fnOf x q (defArgs st) (defBody st) (defScope st) .none kV doc pm an cdv ct) ⟨[u, v, z, y], []⟩ = pure [(a, u), (b, v), (c, z), (d, y)]) : BindsIn x q st [a, b, c, d] := fun kV doc pm an cdv ct us hl => match us, hl with
  | [u, v, z, y], _ => h kV doc pm an cdv ct u v z y
/-! rules whose readings name the written part by itself -/
section
variable {X : Cx} (K : PySem.W.Frag) (e : X.K = K := by rfl)
def rTupOf (K : PySem.W.Frag) : List V → Hp → VK → Prop := fun xs H Q => ∃ p ys, xs = [.ref p] ∧ ((SqL K H p ys ∧ ∀ l, H l = none → Q (.ref l) (upd H l (.tup ys))) ∨ (SqT K H p ys ∧ Q (.ref p) H))
def rLstOf (K : PySem.W.Frag) : List V → Hp → VK → Prop := fun xs H Q => ∃ p ys, xs = [.ref p] ∧ (SqL K H p ys ∨ SqT K H p ys) ∧ ∀ l, H l = none → Q (.ref l) (upd H l (.lst ys))
def rLenOf (K : PySem.W.Frag) : List V → Hp → VK → Prop := fun xs H Q => ∃ p ys, xs = [.ref p] ∧ (SqL K H p ys ∨ SqT K H p ys) ∧ Q (.int ys.length) H
include e
theorem tupK : CallR X (.type "tuple") (rTupOf K) := by subst e; exact call_tuple_of
theorem lstK : CallR X (.type "list") (rLstOf K) := by subst e; exact call_list_of
theorem lenK : CallR X (.builtin "len") (rLenOf K) := by subst e; exact call_len_seq
theorem ixL : IxR X (rIxL K) := by subst e; exact ix_list
theorem ixT : IxR X (rIxT K) := by subst e; exact ix_tup
theorem isK : CallR X (.builtin "isinstance") (rIs K) := by subst e; exact cr_is
theorem isTK : CallR X (.builtin "isinstance") (rIsT K) := by subst e; exact cr_isT
theorem eqK (hu : X.A.units + 64 < cLine) : OpR X (compareOp .Eq) (rEqD K) := by subst e; exact op_eqD hu
theorem neK (hu : X.A.units + 64 < cLine) : OpR X (compareOp .NotEq) (rNeD K) := by subst e; exact op_neD hu
theorem maxK (hc : X.calm = true) : CallR X (.builtin "max") (rMax K) := by subst e; exact cr_max hc
end
section
variable {X : Cx} {k j : Nat} {sp : Sp} {E : L2.St → XK} {x m c : Str} {p pos apos : Pos} {e o : Expr} {es : List Expr} {ta tb : TE} {t : TA} (K : PySem.W.Frag)
theorem pe_nK (F : COk X.prog X.w X.K X.mg X.base x k sp) (hr : Room j X.A) (hk : k + 1 ≤ j) (hx : ∀ σ, PassesAt (L2.CX X.prog X.w) X σ (E σ)) (ha : PA X (e :: es) t) (hK : X.K = K := by rfl) (hg : Gl X x := by rfl)
    (hdb : (x == ("__debug__" : Str)) = false := by decide) (he : starEach (e :: es) X.env = (false, eval e X.env) :: starEach es X.env := by rfl) (hpl : (backTo pos (starEach es X.env)).any (·.1) = false := by rfl) :
    PE X (.Call (.Name x p) (e :: es) [] pos) (tMakeS (He.ga K x) sp E t) := by
  subst hK
  exact pe_n F hr hk hx ha hg hdb he hpl
theorem pe_mK {pl : Sem Bool} (F : MOk X.prog X.w X.K X.mg X.base c m k sp) (hr : Room j X.A) (hk : k ≤ j) (hx : ∀ σ, PassesAt (L2.CX X.prog X.w) X σ (E σ)) (he : PE X o ta) (ha : PA X (e :: es) t) (hK : X.K = K := by rfl)
    (hst : starEach (e :: es) X.env = (false, eval e X.env) :: starEach es X.env := by rfl) (hpl : (backTo pos (starEach es X.env)).any (·.1) = false := by rfl)
    (ht : eval (.Call (.Attribute o m apos) (e :: es) [] pos) X.env = (do
      let ov ← eval o X.env
      standAt apos.atName
      let (f, first) ← holding [ov] (getMethod ov m pl)
      callWith pos f first (backTo pos (starEach (e :: es) X.env)) (backToKw pos (keywordEach [] X.env))) := by rfl) :
    PE X (.Call (.Attribute o m apos) (e :: es) [] pos) (tMethS (He.ga K c) m sp E ta t) := by
  subst hK
  exact pe_m (pl := pl) F hr hk hx he ha hst hpl ht
theorem pe_binK {op : Operator} {a b : Expr} (F : BOk X.prog X.w X.K X.mg X.base c m k sp) (ho : PySem.dunder op.info.2 = m) (hr : Room j X.A) (hk : k ≤ j) (hx : ∀ σ, PassesAt (L2.CX X.prog X.w) X σ (E σ)) (ha : PE X a ta) (hb' : PE X b tb) (hK : X.K = K := by rfl) :
    PE X (.BinOp a op b pos) (tBinS (He.ga K c) sp E ta tb) := by
  subst hK
  exact pe_bin F ho hr hk hx ha hb'
theorem pe_eqSK {a b : Expr} (F : BOk X.prog X.w X.K X.mg X.base c "__eq__" k sp) (hr : Room j X.A) (hk : k ≤ j) (hx : ∀ σ, PassesAt (L2.CX X.prog X.w) X σ (E σ)) (ha : PE X a ta) (hb' : PE X b tb) (hK : X.K = K := by rfl) :
    PE X (.Compare a [.Eq] [b] pos) (tEqS K (He.ga K c) sp E ta tb) := by
  subst hK
  exact pe_eqS F hr hk hx ha hb'
end
section
variable {X : Cx} {T name id : String} {o e : Expr} {es : List Expr} {to : TE} {t : TA} {r : V → List V → Hp → VK → Prop} {apos cpos : Pos} (K : PySem.W.Frag)
theorem pe_bmK (pa : PlainAttrs T) (slot : Slot T name id) (hty : typeOf (.builtin id) = pure (.type "method_descriptor")) (hm : MtR X id r) (ho : PE X o to) (ha : PA X (e :: es) t) (hK : X.K = K := by rfl)
    (hbase : attributeBase o name X.env (eval o X.env) = eval o X.env := by rfl)
    (hfew : ((backTo cpos (starEach (e :: es) X.env)).all (fun x => !x.1) && (backToKw cpos (keywordEach [] X.env)).all (fun x => x.1.isSome) && decide ((e :: es).length + ([] : List Keyword).length + (if ([] : List Keyword).isEmpty then 0 else 1) < 30)) = true := by rfl)
    (hline : (apos.endLine == cpos.line) = true := by rfl) (hs : starEach (e :: es) X.env = (false, eval e X.env) :: starEach es X.env := by rfl) (hplain : (backTo cpos (starEach es X.env)).any (·.1) = false := by rfl) :
    PE X (.Call (.Attribute o name apos) (e :: es) [] cpos) (tBM K T r to t) := by
  subst hK
  exact pe_bm pa slot hty hm ho ha hbase hfew hline hs hplain
end
end Ms
set_option Elab.async false
set_option linter.all false
set_option maxRecDepth 100000
set_option maxHeartbeats 4000000
/-! Ms, the head: what the top has left, told by one run. -/
namespace Ms
open PySem PySem.Spec PyProof.Rows L2
abbrev Ck : Type := PySem.W.Frag → Bool
theorem and2 {a b : Bool} (h : (a && b) = true) : a = true ∧ b = true := by simpa using h
/-- the def behind a property, a classmethod, a staticmethod of the class named c -/
def recAt (K : PySem.W.Frag) (kind : String) (c m : Str) : Addr := match PySem.W.recIn K (He.ma K (He.ga K c) m) kind with
  | some (.ref g :: _) => g
  | _ => 0
def recB (K : PySem.W.Frag) (kind : String) (c m : Str) : Bool := match PySem.W.recIn K (He.ma K (He.ga K c) m) kind with
  | some (.ref g :: _) => decide (g = recAt K kind c m)
  | _ => false
theorem recB_ok {K : PySem.W.Frag} {kind : String} {c m : Str} (h : recB K kind c m = true) : ∃ rest, PySem.W.recIn K (He.ma K (He.ga K c) m) kind = some (.ref (recAt K kind c m) :: rest) := by
  unfold recB at h
  split at h
  · rename_i g rest e
    have q := of_decide_eq_true h
    rw [e, ← q]
    exact ⟨_, rfl⟩
  · cases h
def atB (K : PySem.W.Frag) (c m : Str) : Bool := He.eqO (PySem.W.findIn K (.ref (He.ga K c)) m) (some (some (.ref (He.ma K (He.ga K c) m))))
/-- a property -/
def ckProp (c m : Str) : Ck := fun K => atB K c m && (He.eqO (PySem.W.specialIn K (.ref (He.ma K (He.ga K c) m)) "__get__") (some (some (.builtin "property.__get__"))) && (decide (PySem.W.takesIn K (.ref (He.ma K (He.ga K c) m)) = some true) && recB K "property" c m))
theorem ckProp_ok {K : PySem.W.Frag} {c m : Str} (h : ckProp c m K = true) : PropOf K (He.ga K c) m (He.ma K (He.ga K c) m) (recAt K "property" c m) := by
  obtain ⟨h1, h⟩ := and2 h
  obtain ⟨h2, h⟩ := and2 h
  obtain ⟨h3, h4⟩ := and2 h
  exact ⟨He.eqO_ok h1, He.eqO_ok h2, of_decide_eq_true h3, recB_ok h4⟩
/-- the class is read as any class -/
def ckRead (c : Str) : Ck := fun K => PySem.W.readsIn K (He.ga K c) (.type "type") && He.eqO (PySem.W.specialIn K (.ref (He.ga K c)) "__getattribute__") (some (some (.builtin "type.__getattribute__")))
theorem ckRead_ok {K : PySem.W.Frag} {c : Str} (h : ckRead c K = true) : ClX.CRead K (He.ga K c) (.type "type") := by
  obtain ⟨h1, h2⟩ := and2 h
  exact ⟨h1, He.eqO_ok h2⟩
/-- a classmethod -/
def ckCm (c m : Str) : Ck := fun K => (match PySem.W.findCls K (.ref (He.ga K c)) (.type "type") m with
  | some (.get (.builtin n) (.ref p) .none (.ref d)) => decide (n = "classmethod.__get__") && (decide (p = He.ma K (He.ga K c) m) && decide (d = He.ga K c))
  | _ => false) && (recB K "classmethod" c m && PySem.W.fnIn K (recAt K "classmethod" c m))
theorem ckCm_ok {K : PySem.W.Frag} {c m : Str} (h : ckCm c m K = true) : ClX.CMet K (He.ga K c) (.type "type") m (He.ma K (He.ga K c) m) (recAt K "classmethod" c m) := by
  obtain ⟨h1, h⟩ := and2 h
  obtain ⟨h2, h3⟩ := and2 h
  refine ⟨?_, recB_ok h2, h3⟩
  split at h1
  · rename_i n p d e
    obtain ⟨a1, a⟩ := and2 h1
    obtain ⟨a2, a3⟩ := and2 a
    rw [e, of_decide_eq_true a1, of_decide_eq_true a2, of_decide_eq_true a3]
  · cases h1
/-- an own exception class with its own __init__ (or none) -/
def oexB (K : PySem.W.Frag) (C : Addr) : Bool := match K.lookup C with
  | some ⟨.type t, _, .cls cd, sl⟩ => (match cd.mro, sl.toList with
    | .ref D :: bm, [_, _, _, _, some (.builtin n), _] => decide (t = "type") && (decide (D = C) && (decide (n = "ValueError.__new__") && (!cd.hasDel && (cd.hasDict && PySem.HandSPX.refsVE bm))))
    | _, _ => false)
  | _ => false
theorem oexB_ok {K : PySem.W.Frag} {C : Addr} (h : oexB K C = true) : ∃ nm q N bs bm sn sub ab col dd k0 k1 k2 k3 k5, K.lookup C = some (excClassObj nm q C N bs bm true sn sub ab col dd k0 k1 k2 k3 k5 "ValueError.__new__") ∧ PySem.HandSPX.refsVE bm = true := by
  unfold oexB at h
  split at h
  · rename_i t dd cd sl e
    split at h
    · rename_i D bm k0 k1 k2 k3 n k5 em es
      obtain ⟨a1, h⟩ := and2 h
      obtain ⟨a2, h⟩ := and2 h
      obtain ⟨a3, h⟩ := and2 h
      obtain ⟨a4, h⟩ := and2 h
      obtain ⟨a5, a6⟩ := and2 h
      obtain ⟨n1, n2, n3, n4, n5, n6, n7, n8, n9, n10, n11⟩ := cd
      dsimp only at em a4 a5
      have d1 := of_decide_eq_true a1
      have d2 := of_decide_eq_true a2
      have d3 := of_decide_eq_true a3
      have d4 : n11 = false := by simpa using a4
      subst d1 d2 d3 d4 a5 em
      have esl : sl = #[k0, k1, k2, k3, some (.builtin "ValueError.__new__"), k5] := by
        obtain ⟨l⟩ := sl
        dsimp only at es
        rw [es]
      subst esl
      exact ⟨_, _, _, _, _, _, _, _, _, _, _, _, _, _, _, e, a6⟩
    · cases h
  · cases h
def ckOex (c : Str) : Ck := fun K => oexB K (He.ga K c) && (He.eqO (PySem.W.findIn K (.ref (He.ga K c)) "__setattr__") (some (some (.builtin "object.__setattr__"))) && (decide (PySem.W.subIn K (.ref (He.ga K c)) (.type "BaseException") = some true) &&
  (decide (PySem.W.typeIn K (.ref (He.ga K c)) = some (.type "type")) && PySem.W.keepIn K (.ref (He.ga K c)))))
theorem ckOex_ok {K : PySem.W.Frag} {c : Str} (h : ckOex c K = true) : OexC K (He.ga K c) := by
  obtain ⟨a1, h⟩ := and2 h
  obtain ⟨a2, h⟩ := and2 h
  obtain ⟨a3, h⟩ := and2 h
  obtain ⟨a4, a5⟩ := and2 h
  exact ⟨oexB_ok a1, He.eqO_ok a2, of_decide_eq_true a3, of_decide_eq_true a4, a5⟩
/-- .. its own __init__ -/
structure ExI (K : PySem.W.Frag) (mg : Str → Option Value) (c qual : Str) (st : Stmt) : Prop where
  o : OexC K (He.ga K c)
  iC : PySem.W.findIn K (.ref (He.ga K c)) "__init__" = some (some (.ref (He.ma K (He.ga K c) "__init__")))
  tI : PySem.W.typeIn K (.ref (He.ma K (He.ga K c) "__init__")) = some (.type "function")
  df : DefAt K "__init__" qual st (He.ma K (He.ga K c) "__init__")
  gl : mg c = some (.ref (He.ga K c))
def ckIni (c : Str) : Ck := fun K => atB K c "__init__" && decide (PySem.W.typeIn K (.ref (He.ma K (He.ga K c) "__init__")) = some (.type "function"))
theorem ckIni_ok {K : PySem.W.Frag} {c : Str} (h : ckIni c K = true) : PySem.W.findIn K (.ref (He.ga K c)) "__init__" = some (some (.ref (He.ma K (He.ga K c) "__init__"))) ∧ PySem.W.typeIn K (.ref (He.ma K (He.ga K c) "__init__")) = some (.type "function") := by
  obtain ⟨h1, h2⟩ := and2 h
  exact ⟨He.eqO_ok h1, of_decide_eq_true h2⟩
/-- an own exception class as isinstance and its fields ask -/
def ckEC (c : Str) : Ck := fun K => (PySem.W.clsIn K (He.ga K c)).isSome && (He.eqO (PySem.W.findIn K (.ref (He.ga K c)) "__getattribute__") (some (some (.builtin "BaseException.__getattribute__"))) && (He.eqO (PySem.W.findIn K (.ref (He.ga K c)) "__getattr__") (some none) &&
  (decide (PySem.W.subIn K (.ref (He.ga K c)) (.type "BaseException") = some true) && (He.eqO (PySem.W.findIn K (.ref (He.ga K c)) "__class__") (some (some (.builtin "object.__class__"))) && (He.eqO (PySem.W.specialIn K (.builtin "object.__class__") "__get__") (some (some (.builtin "getset_descriptor.__get__"))) &&
  (decide (PySem.W.takesIn K (.builtin "object.__class__") = some true) && (decide (PySem.W.mroIn K (He.ga K c) (.type "object") = some true) && PySem.W.hasDictIn K (He.ga K c))))))))
theorem ckEC_ok {K : PySem.W.Frag} {c : Str} (h : ckEC c K = true) : EC K (He.ga K c) := by
  obtain ⟨a1, h⟩ := and2 h
  obtain ⟨a2, h⟩ := and2 h
  obtain ⟨a3, h⟩ := and2 h
  obtain ⟨a4, h⟩ := and2 h
  obtain ⟨a5, h⟩ := and2 h
  obtain ⟨a6, h⟩ := and2 h
  obtain ⟨a7, h⟩ := and2 h
  obtain ⟨a8, a9⟩ := and2 h
  exact ⟨a1, He.eqO_ok a2, He.eqO_ok a3, of_decide_eq_true a4, He.eqO_ok a5, He.eqO_ok a6, of_decide_eq_true a7, of_decide_eq_true a8, a9⟩
/-- an own operator -/
structure Opr (K : PySem.W.Frag) (c m : Str) : Prop where
  sf : PySem.W.selfFirst K (He.ga K c) = true
  fi : PySem.W.findIn K (.ref (He.ga K c)) m = some (some (.ref (He.ma K (He.ga K c) m)))
  fn : PySem.W.isFn K (.ref (He.ma K (He.ga K c) m)) = true
def ckOpr (c m : Str) : Ck := fun K => PySem.W.selfFirst K (He.ga K c) && (atB K c m && PySem.W.isFn K (.ref (He.ma K (He.ga K c) m)))
theorem ckOpr_ok {K : PySem.W.Frag} {c m : Str} (h : ckOpr c m K = true) : Opr K c m := by
  obtain ⟨a1, h⟩ := and2 h
  obtain ⟨a2, a3⟩ := and2 h
  exact ⟨a1, He.eqO_ok a2, a3⟩
/-- what `x == y` asks of y's type -/
def ckNf (c : Str) (t : PySem.W.Frag → Value) : Ck := fun K => PySem.W.notFirst K (He.ga K c) (t K)
/-- isinstance's answers -/
def ckIs (t u : PySem.W.Frag → Value) (b : Bool) : Ck := fun K => decide (PySem.W.kitOne K (t K) (u K) = some b)
def ckExm (c d : Str) (b : Bool) : Ck := fun K => decide (PySem.W.exmOne K (.ref (He.ga K c)) (.ref (He.ga K d)) = some b)
/-- the class's own __class__, for isinstance of an instance -/
def ckCl (c : Str) : Ck := fun K => He.eqO (PySem.W.findIn K (.ref (He.ga K c)) "__class__") (some (some (.builtin "object.__class__"))) && (He.eqO (PySem.W.specialIn K (.builtin "object.__class__") "__get__") (some (some (.builtin "getset_descriptor.__get__"))) && (decide (PySem.W.takesIn K (.builtin "object.__class__") = some true) && decide (PySem.W.mroIn K (He.ga K c) (.type "object") = some true)))
structure ClC (K : PySem.W.Frag) (c : Str) : Prop where
  ca : PySem.W.findIn K (.ref (He.ga K c)) "__class__" = some (some (.builtin "object.__class__"))
  cg : PySem.W.specialIn K (.builtin "object.__class__") "__get__" = some (some (.builtin "getset_descriptor.__get__"))
  ct : PySem.W.takesIn K (.builtin "object.__class__") = some true
  ob : PySem.W.mroIn K (He.ga K c) (.type "object") = some true
theorem ckCl_ok {K : PySem.W.Frag} {c : Str} (h : ckCl c K = true) : ClC K c := by
  obtain ⟨a1, h⟩ := and2 h
  obtain ⟨a2, h⟩ := and2 h
  obtain ⟨a3, a4⟩ := and2 h
  exact ⟨He.eqO_ok a1, He.eqO_ok a2, of_decide_eq_true a3, of_decide_eq_true a4⟩
/-! ### defs anywhere -/
structure Df where
  at_ : PySem.W.Frag → Addr
  name : Str
  qual : Str
  st : Stmt
  dv : List V
/-- the def st with the defaults dv stands at f -/
abbrev DefAtD (K : PySem.W.Frag) (x qual : Str) (st : Stmt) (dv : List V) (f : Addr) : Prop := ∃ fd, FunD K x qual (defArgs st) (defBody st) (defScope st) dv [] f fd
def fnA (K : PySem.W.Frag) (a : Addr) : He.FnW := match K.lookup a with
  | some ⟨_, _, .func fd, _⟩ => some (fd.name, fd.qualname, fd.params, fd.body, fd.scope, fd.globals, fd.closure, fd.builtins)
  | _ => none
def Df.val (d : Df) : He.FnW := some (d.name, d.qual, defArgs d.st, .stmts (defBody d.st), defScope d.st, mainGlobals, [], builtinsNs)
def Df.ok (K : PySem.W.Frag) (d : Df) : Bool := PySem.W.keepIn K (.ref (d.at_ K)) && (match K.lookup (d.at_ K) with
  | some ⟨_, _, .func fd, _⟩ => PySem.W.codeIn K fd.code d.qual && He.dflB K fd.defaults d.dv
  | _ => false)
theorem Df.def_ {K : PySem.W.Frag} {d : Df} (e : fnA K (d.at_ K) = d.val) (c : d.ok K = true) : DefAtD K d.name d.qual d.st d.dv (d.at_ K) := by
  obtain ⟨kp, c2⟩ := and2 c
  unfold fnA at e
  cases q : K.lookup (d.at_ K) with
  | none => rw [q] at c2; cases c2
  | some o =>
    obtain ⟨oc, od, dt, osl⟩ := o
    rw [q] at c2 e
    cases dt with
    | func fd =>
      obtain ⟨n1, n2, n3, n4, n5, n6, n7, n8, n9, n10, n11, n12, n13, n14, n15⟩ := fd
      have e2 : (some (n1, n2, n3, n4, n5, n6, n7, n15) : He.FnW) = some (d.name, d.qual, defArgs d.st, .stmts (defBody d.st), defScope d.st, mainGlobals, [], builtinsNs) := e
      simp only [Option.some.injEq, Prod.mk.injEq] at e2
      obtain ⟨h1, h2, h3, h4, h5, h6, h7, h8⟩ := e2
      subst h1 h2 h3 h4 h5 h6 h7 h8
      obtain ⟨k1, k2⟩ := and2 (show (PySem.W.codeIn K n13 d.qual && He.dflB K n8 d.dv) = true from c2)
      exact ⟨_, ⟨oc, od, n8, n9, n10, n11, n12, n13, n14, osl, rfl, q, k1, He.dflB_ok k2, .inl rfl⟩, kp⟩
    | _ => cases c2
/-! ### the Hook -/
def asM (g : Addr → Option Obj) : Nat → List Addr
  | 0 => [mainGlobals, cStatics]
  | n + 1 => He.growD g (asM g n)
abbrev AlM : Type := Bool × List He.FnW
def obsM (fa : List Ck) (fn : List Df) (K : PySem.W.Frag) : AlM := (fa.all (fun f => f K) && fn.all fun d => d.ok K, fn.map fun d => fnA K (d.at_ K))
def valM (fn : List Df) : AlM := (true, fn.map Df.val)
def SaysM (fa : List Ck) (fn : List Df) (K : PySem.W.Frag) : Prop := obsM fa fn K = valM fn
def obsMG (n : Nat) (fa : List Ck) (fn : List Df) (g : Addr → Option Obj) : AlM := obsM fa fn (He.frG g (asM g n))
def hookM (n : Nat) (fa : List Ck) (fn : List Df) : PySem.W.Hook where
  α := AlM
  obs := fun s => obsMG n fa fn s.heap.get?
  val := fun _ => valM fn
  says := fun _ h => ∃ K : PySem.W.Frag, K.In h ∧ SaysM fa fn K
  of := fun _ _ e => ⟨_, He.frG_in, e⟩
  keeps := fun _ _ _ ⟨K, hK, c⟩ k => ⟨K, PySem.W.Frag.In.keeps hK k, c⟩
theorem obsMG_eq {n : Nat} {fa : List Ck} {fn : List Df} {g : Addr → Option Obj} {s : Shared} (h : ∀ a, g a = s.heap.get? a) : obsMG n fa fn g = (hookM n fa fn).obs s := by
  have e : g = s.heap.get? := funext h
  rw [e] <;> rfl
section
variable {fa : List Ck} {fn : List Df} {K : PySem.W.Frag}
theorem SaysM.both (c : SaysM fa fn K) : (∀ f ∈ fa, f K = true) ∧ (∀ d ∈ fn, d.ok K = true) ∧ fn.map (fun d => fnA K (d.at_ K)) = fn.map Df.val := by
  obtain ⟨h1, h2⟩ := Prod.mk.inj (show (fa.all (fun f => f K) && fn.all fun d => d.ok K, fn.map fun d => fnA K (d.at_ K)) = (true, fn.map Df.val) from c)
  obtain ⟨a, b⟩ := and2 h1
  exact ⟨List.all_eq_true.mp a, List.all_eq_true.mp b, h2⟩
theorem SaysM.fact (c : SaysM fa fn K) (i : Nat) {f : Ck} (h : fa[i]? = some f := by rfl) : f K = true := c.both.1 f (List.mem_of_getElem? h)
theorem SaysM.def_ (c : SaysM fa fn K) (i : Nat) {d : Df} (h : fn[i]? = some d := by rfl) : DefAtD K d.name d.qual d.st d.dv (d.at_ K) := by
  obtain ⟨_, c2, e⟩ := c.both
  have q : (fn.map fun d => fnA K (d.at_ K))[i]? = (fn.map Df.val)[i]? := by rw [e]
  rw [List.getElem?_map, List.getElem?_map, h] at q
  exact Df.def_ (Option.some.inj q) (c2 d (List.mem_of_getElem? h))
end
end Ms
set_option Elab.async false
set_option linter.all false
set_option maxRecDepth 100000
set_option maxHeartbeats 4000000
/-! Ms: names of five arguments. -/
namespace Ms
open PySem PySem.Spec PyProof.Rows L2
theorem bi5 {x q : Str} {st : Stmt} {a b c d e : Str} (h : ∀ (kV doc pm : Value) (an : Option Addr) (cdv ct u v z y t : Value), bindArgs (PySem.W.fnOf x q (defArgs st) (defBody st) (defScope st) .none kV doc pm an cdv ct) ⟨[u, v, z, y, t], []⟩ = pure [(a, u), (b, v), (c, z), (d, y), (e, t)]) : BindsIn x q st [a, b, c, d, e] := fun kV doc pm an cdv ct us hl => match us, hl with
  | [u, v, z, y, t], _ => h kV doc pm an cdv ct u v z y t
end Ms
set_option Elab.async false
set_option linter.all false
set_option maxRecDepth 100000
set_option maxHeartbeats 4000000
/-! one keyword-only parameter whose default is None. -/
namespace Ms
open PySem PySem.Spec PyProof.Rows L2
/-- the def at f has the keyword-only default None for x -/
def KwOne (K : PySem.W.Frag) (f : Addr) (x : Str) : Prop := ∃ oc od fd osl D, K.lookup f = some ⟨oc, od, .func fd, osl⟩ ∧ fd.kwdefaults = .ref D ∧ PySem.W.nsIn K D x = some (some .none)
def ckKw (c m x : Str) : Ck := fun K => match K.lookup (He.ma K (He.ga K c) m) with
  | some ⟨_, _, .func fd, _⟩ => (match fd.kwdefaults with
    | .ref D => decide (PySem.W.nsIn K D x = some (some .none))
    | _ => false)
  | _ => false
theorem ckKw_ok {K : PySem.W.Frag} {c m x : Str} (h : ckKw c m x K = true) : KwOne K (He.ma K (He.ga K c) m) x := by
  unfold ckKw at h
  split at h
  · rename_i oc od fd osl e
    split at h
    · rename_i D e2
      exact ⟨oc, od, fd, osl, D, e, e2, of_decide_eq_true h⟩
    · cases h
  · cases h
/-- the def with this default told -/
theorem kw_def {K : PySem.W.Frag} {x qual y : Str} {st : Stmt} {f : Addr} (D : DefAt K x qual st f) (h : KwOne K f y) : ∃ fd, FunD K x qual (defArgs st) (defBody st) (defScope st) [] [(y, .non)] f fd := by
  obtain ⟨fd, F⟩ := D
  obtain ⟨oc, od, dV, kV, doc, pm, an, cdv, ct, osl, rfl, lk, hcd, hD, hK⟩ := F.ex
  obtain ⟨oc', od', fd', osl', D', lk', e1, e2⟩ := h
  rw [lk] at lk'
  cases lk'
  have e1 : kV = .ref D' := e1
  subst e1
  exact ⟨_, ⟨oc, od, dV, .ref D', doc, pm, an, cdv, ct, osl, rfl, lk, hcd, hD, .inr ⟨D', rfl, fun q hq => by
    rw [List.mem_singleton.mp hq]
    exact ⟨.none, e2, rfl⟩⟩⟩, F.kp⟩
end Ms
namespace Ms
open PySem PySem.Spec PyProof.Rows L2
/-- a method called with n values (self too) and keywords ks -/
structure MNOk (P : Program) (w : World) (K : PySem.W.Frag) (mg : Str → Option Value) (base : Heap) (c m : Str) (k : Nat) (sp : Sp) (n : Nat) (ks : List Str) (gV : List V → List V → List V) : Prop where
  ex : ∃ fd ps g, FnOk P w K mg base (L2.CX P w) k (He.ma K (He.ga K c) m) fd ps sp ∧ KBn K fd ps n ks g gV
  cl : Cls K (He.ga K c)
  me : Meth K (He.ga K c) m (He.ma K (He.ga K c) m)
def tMethN (C : Addr) (m : Str) (sp : Sp) (E : St → XK) (n mk : Nat) (gV : List V → List V → List V) (ta : TE) (t tk : TA) : TE := fun σ H Q => ta σ H fun x H1 => ∃ a dx fs, x = .ref a ∧ H1 a = some (.ins C dx fs) ∧ fs.lookup m = none ∧ t σ H1 fun vs H2 => tk σ H2 fun zs H3 => vs.length + 1 = n ∧ zs.length = mk ∧ sp (gV (x :: vs) zs) H3 Q (E σ)
section
variable {X : Cx} {k j n : Nat} {sp : Sp} {E : St → XK} {m c : Str} {p pos apos : Pos} {e o : Expr} {es : List Expr} {kws : List Keyword} {ta : TE} {t tk : TA} {ks : List Str} {gV : List V → List V → List V}
theorem pe_mN (K : PySem.W.Frag) {pl : Sem Bool} (F : MNOk X.prog X.w K X.mg X.base c m k sp n ks gV) (hr : Room j X.A) (hk : k ≤ j) (hx : ∀ σ, PassesAt (L2.CX X.prog X.w) X σ (E σ)) (he : PE X o ta) (ha : PA X (e :: es) t) (hkw : PK X kws tk) (hK : X.K = K := by rfl)
    (hall : (backToKw pos (keywordEach kws X.env)).all (·.1.isSome) = true := by rfl) (hks : (backToKw pos (keywordEach kws X.env)).filterMap (·.1) = ks := by rfl)
    (hst : starEach (e :: es) X.env = (false, eval e X.env) :: starEach es X.env := by rfl)
    (hpl : ((backTo pos (starEach (e :: es) X.env)).any (·.1) || (backToKw pos (keywordEach kws X.env)).any (·.1.isNone)) = false := by rfl)
    (ht : eval (.Call (.Attribute o m apos) (e :: es) kws pos) X.env = (do
      let ov ← eval o X.env
      standAt apos.atName
      let (f, first) ← holding [ov] (getMethod ov m pl)
      callWith pos f first (backTo pos (starEach (e :: es) X.env)) (backToKw pos (keywordEach kws X.env))) := by rfl) :
    PE X (.Call (.Attribute o m apos) (e :: es) kws pos) (tMethN (He.ga K c) m sp E n ks.length gV ta t tk) := by
  subst hK
  obtain ⟨fd, ps, g, F1, hb⟩ := F.ex
  refine ⟨fun pins s σ H Q I h => ?_⟩
  refine PySem.W.methodCall_KW (pl := pl) (thn (he.run pins s σ H _ I h) fun u s1 ⟨x, H1, I1, rx, a, dx, fs, ex, ea, l, q⟩ => ?_) ht
  subst ex
  obtain rfl : u = Value.ref a := rx
  refine getmeth_ok I1 ea F.cl F.me l ?_
  refine PySem.W.callWith_KW (first := [.ref a]) (h₀ := X.base) I.ok.mod.kin F.me.kp hall (thn (ha.run pos pins s1 σ H1 _ I1 q) fun us s2 ⟨vs, H2, I2, r, q2⟩ => ?_) hpl hst
  refine thn (hkw.run pos pins s2 σ H2 _ I2 q2) fun ws s3 ⟨zs, H3, I3, rz, l1, l2, q3⟩ => ⟨I3.kIn, ?_⟩
  rw [hks]
  have r1 : Vals (V.ref a :: vs) (Value.ref a :: us) := .cons rfl r
  have r2 := hb.rel r1 rz
  refine wpAny_call (codeAny_mono (F1.run X.A X.stack s3 H3 ⟨Value.ref a :: us, ks.zip ws⟩ (g (Value.ref a :: us) ws) (gV (V.ref a :: vs) zs) Q (E σ) (hr.mono hk) I3.env0 (hb.to s3 (Value.ref a :: us) ws I3.kIn (by rw [← r1.length]; exact l1) (rz.length.symm.trans l2)) r2 q3) fun r s' hq => ?_)
  cases r with
  | error e => exact hx σ pins _ _ e s' I3 hq
  | ok fl =>
    cases fl with
    | ret u => exact I3.after hq
    | next => exact False.elim hq
    | brk => exact False.elim hq
    | cont => exact False.elim hq
end
/-- the keyword stands -/
theorem kbn_with {K : PySem.W.Frag} {x q y : Str} {st : Stmt} {a b c : Str} {f : Addr} {fd : FuncData} (F : FunD K x q (defArgs st) (defBody st) (defScope st) [] [(y, .non)] f fd)
    (h : ∀ (kV doc pm : Value) (an : Option Addr) (cdv ct u v z w : Value), bindArgs (PySem.W.fnOf x q (defArgs st) (defBody st) (defScope st) .none kV doc pm an cdv ct) ⟨[u, v, z], [(y, w)]⟩ = pure [(a, u), (b, v), (c, z), (y, w)]) :
    KBn K fd [a, b, c, y] 3 [y] (fun us ws => us ++ ws) (fun vs zs => vs ++ zs) := by
  obtain ⟨oc, od, dV, kV, doc, pm, an, cdv, ct, osl, rfl, lk, hcd, hD, hK⟩ := F.ex
  rcases hD with ⟨_, rfl⟩ | ⟨e, _⟩
  · refine ⟨fun s us ws X l1 l2 => ?_, fun r1 r2 => r1.append r2⟩
    match us, ws, l1, l2 with
    | [u, v, z], [w], _, _ => exact .of_eq (h kV doc pm an cdv ct u v z w)
  · exact absurd rfl e
/-- .. lacks -/
theorem kbn_without {K : PySem.W.Frag} {x q y : Str} {st : Stmt} {a b c : Str} {f : Addr} {fd : FuncData} (F : FunD K x q (defArgs st) (defBody st) (defScope st) [] [(y, .non)] f fd)
    (h : ∀ (D : Addr) (doc pm : Value) (an : Option Addr) (cdv ct u v z w : Value), KwChain D [(y, w)] (bindArgs (PySem.W.fnOf x q (defArgs st) (defBody st) (defScope st) .none (.ref D) doc pm an cdv ct) ⟨[u, v, z], []⟩) [(a, u), (b, v), (c, z), (y, w)]) :
    ∃ g, KBn K fd [a, b, c, y] 3 [] g (fun vs _ => vs ++ [.non]) := by
  obtain ⟨ds, hv, hb⟩ := F.binds0 (ps := [a, b, c, y]) 3 (by simp) rfl fun D doc pm an cdv ct us ks l1 l2 => by
    match us, ks, l1, l2 with
    | [u, v, z], [w], _, _ => exact h D doc pm an cdv ct u v z w
  refine ⟨fun us _ => us ++ ds, ⟨fun s us ws X l1 l2 => ?_, fun r1 _ => r1.append hv⟩⟩
  have e : ws = [] := List.eq_nil_of_length_eq_zero l2
  subst e
  exact hb s us X (by rw [List.length_append, l1, ← hv.length] <;> rfl)
end Ms
set_option Elab.async false
set_option linter.all false
set_option maxRecDepth 100000
set_option maxHeartbeats 4000000
/-! Ms: other == one, where one's class has an own __eq__ and other is of a builtin type. -/
namespace Ms
open PySem PySem.Spec PyProof.Rows L2
open PySem.AutoSeq1 (wpAny_loadPart')
open PySem.MeetsSeq
theorem int_eq_declines_ins (b : Int) (u : Tok) (l C dx : Addr) :
    Meets (Builtin.«int.__eq__» ⟨[.int b u, .ref l], []⟩) (fun _ R s => s.heap.get? l = some (PySem.W.instObj C dx) ∧ R (.ok (.ret .notImplemented)) s) :=
  .of_wp fun prog w A R s h => by obtain ⟨hp, g, d, tk, os⟩ := s; obtain ⟨hl, h⟩ := h; unfold PySem.W.instObj at hl; wp_walk using wpAny_loadPart' hl, wpAny_load hl; exact ⟨_, rfl, h⟩
theorem str_eq_declines_ins (b : Str) (u : Tok) (l C dx : Addr) :
    Meets (Builtin.«str.__eq__» ⟨[.str b u, .ref l], []⟩) (fun _ R s => s.heap.get? l = some (PySem.W.instObj C dx) ∧ R (.ok (.ret .notImplemented)) s) :=
  .of_wp fun prog w A R s h => by obtain ⟨hp, g, d, tk, os⟩ := s; obtain ⟨hl, h⟩ := h; unfold PySem.W.instObj at hl; wp_walk using wpAny_loadPart' hl, wpAny_load hl; exact ⟨_, rfl, h⟩
theorem list_eq_declines_ins (a l C dx : Addr) (items : Array Value) (n : Nat) (dd : Option Addr) (sl : Array (Option Value)) :
    Meets (Builtin.«list.__eq__» ⟨[.ref a, .ref l], []⟩) (fun _ R s => s.heap.get? a = some { cls := .type "list", dict := dd, data := .seq items n, slots := sl } ∧ s.heap.get? l = some (PySem.W.instObj C dx) ∧ (∀ M, PySem.W.Looks M s.heap (isSubtype (.ref C) (.type "list")) false) ∧ R (.ok (.ret .notImplemented)) s) :=
  .of_wp fun prog w A R s h => by
    obtain ⟨hp, g, d, tk, os⟩ := s; obtain ⟨hl, hx, hs, h⟩ := h; unfold PySem.W.instObj at hx
    wp_walk using wpAny_loadPart' hl, wpAny_load hl, wpAny_loadPart' hx, wpAny_load hx
    refine (hs (model prog w)).here ?_
    simp only [Bool.not_false, if_true]
    wp_walk
    exact ⟨_, rfl, h⟩
theorem tuple_eq_declines_ins (a l C dx : Addr) (items : Array Value) (n : Nat) (dd : Option Addr) (sl : Array (Option Value)) :
    Meets (Builtin.«tuple.__eq__» ⟨[.ref a, .ref l], []⟩) (fun _ R s => s.heap.get? a = some { cls := .type "tuple", dict := dd, data := .seq items n, slots := sl } ∧ s.heap.get? l = some (PySem.W.instObj C dx) ∧ (∀ M, PySem.W.Looks M s.heap (isSubtype (.ref C) (.type "tuple")) false) ∧ R (.ok (.ret .notImplemented)) s) :=
  .of_wp fun prog w A R s h => by
    obtain ⟨hp, g, d, tk, os⟩ := s; obtain ⟨hl, hx, hs, h⟩ := h; unfold PySem.W.instObj at hx
    wp_walk using wpAny_loadPart' hl, wpAny_load hl, wpAny_loadPart' hx, wpAny_load hx
    refine (hs (model prog w)).here ?_
    simp only [Bool.not_false, if_true]
    wp_walk
    exact ⟨_, rfl, h⟩
section
variable {prog : Program} {w : World} {A : Around} {E : Value → Shared → Prop} {s : Shared} {K : PySem.W.Frag} {x C L f : Addr} {h₀ : Heap} {m : Str → Option Value} {ox : Obj} {od : Option Obj} {a : Value} {Ta id : String}
open PySem.W in
theorem cmp_back {Q : Value → Shared → Prop} (hu : A.units < cLine) (F : Fr h₀ L s.heap m) (X₀ : K.In h₀) (I : InstAt s.heap x ox C od) (ha : s.TypeIs a Ta) (hsub : subIn K (.ref C) (.type Ta) = some false) (h1 : Slot Ta "__eq__" id)
    (hs : findIn K (.ref C) "__eq__" = some (some (.ref f))) (hf : isFn K (.ref f) = true)
    (hc : ∀ R : Value → Shared → Prop, R .notImplemented s → wpAny (model prog w) A (call (.builtin id) [a, .ref x]) R E s)
    (h : wpAny (model prog w) A (call (.ref f) [.ref x, a]) (PySem.W.CmpBack Q) E s) : wpAny (model prog w) A (richCompare .Eq a (.ref x)) Q E s := by
  have X := X₀.keeps F.keep
  have one : wpAny (model prog w) A (tryCompare (.ref x) "__eq__" a) (fun r s' => ∃ v, r = some v ∧ Q v s') E s := by
    unfold tryCompare
    refine wpAny_bind (ifBound_K X I hs hf (wpAny_mono h (fun v s' hv => ?_) fun _ _ e => e))
    cases v <;> first | exact hv.elim | exact wpAny_pure ⟨_, rfl, hv⟩
  unfold richCompare
  simp only [ha.oneThing_none]
  refine wpAny_holding (wpAny_bind (wpAny_cRoomFor hu ?_))
  refine wpAny_bind (wpAny_typeOf ha (wpAny_bind (I.type.here ?_)))
  have ne : (Value.type Ta != Value.ref C) = true := by simp
  simp only [ne, if_true]
  refine wpAny_bind ((looks_subIn X hsub).here ?_)
  simp only [Bool.false_eq_true, if_false, Bool.not_false, if_true]
  refine wpAny_bind (m := tryCompare a _ (.ref x)) (wpAny_tryCompare_declines ha h1 (hc _ ⟨rfl, ?_⟩))
  refine wpAny_bind (m := tryCompare (.ref x) _ a) (wpAny_mono one (fun r s' z => ?_) fun _ _ e => e)
  obtain ⟨v, rfl, hq⟩ := z
  exact wpAny_pure hq
end
inductive TyL (K : PySem.W.Frag) (H : Hp) : V → String → Prop where
  | non : TyL K H .non "NoneType"
  | int (i : Int) : TyL K H (.int i) "int"
  | str (x : Str) : TyL K H (.str x) "str"
  | lst {a : Addr} {xs : List V} (h : SqL K H a xs) : TyL K H (.ref a) "list"
  | tup {a : Addr} {xs : List V} (h : SqT K H a xs) : TyL K H (.ref a) "tuple"
/-- x == one: one's class has an own __eq__, x is of a builtin type; or x is an instance of a class with an own __eq__ -/
def tEqX (K : PySem.W.Frag) (C C' : Addr) (sp sp' : Sp) (E : L2.St → XK) (ta tb : TE) : TE := fun σ H Q => ta σ H fun x H1 => tb σ H1 fun y H2 =>
  (∃ a dx fs t, x = .ref a ∧ H2 a = some (.ins C' dx fs) ∧ TyX K H2 y t ∧ PySem.W.notFirst K C' t = true ∧ sp' [x, y] H2 Q (E σ)) ∨
  (∃ b dx fs T, y = .ref b ∧ H2 b = some (.ins C dx fs) ∧ TyL K H2 x T ∧ PySem.W.subIn K (.ref C) (.type T) = some false ∧ sp [y, x] H2 Q (E σ))
section
variable {X : Cx} {k k' j : Nat} {sp sp' : Sp} {E : L2.St → XK} {c c' : Str} {pos : Pos} {a b : Expr} {ta tb : TE}
theorem pe_eqX (K : PySem.W.Frag) (F : BOk X.prog X.w X.K X.mg X.base c "__eq__" k sp) (F' : BOk X.prog X.w X.K X.mg X.base c' "__eq__" k' sp') (hr : Room j X.A) (hk : k ≤ j) (hk' : k' ≤ j) (hx : ∀ σ, PassesAt (L2.CX X.prog X.w) X σ (E σ)) (ha : PE X a ta) (hb' : PE X b tb) (hK : X.K = K := by rfl) :
    PE X (.Compare a [.Eq] [b] pos) (tEqX K (He.ga K c) (He.ga K c') sp sp' E ta tb) := by
  subst hK
  obtain ⟨fd, ps, F1, hb⟩ := F.ex
  obtain ⟨fd', ps', F1', hb2⟩ := F'.ex
  refine ⟨fun pins s σ H Q I h => ?_⟩
  refine wpAny_Compare1 (binT ha hb' I h fun v u s2 x y H2 I2 rx ry q => ?_) (nomark _)
  obtain ⟨mm, hF⟩ := I2.fr
  show wpAny (model X.prog X.w) X.A (richCompare .Eq v u) (EP X pins σ Q) X.xe s2
  rcases q with ⟨a1, dx, fs, t, rfl, h1, ty, nf, q⟩ | ⟨b1, dx, fs, T, rfl, h1, ty, sb, q⟩
  · cases rx
    obtain ⟨mA, J, _⟩ := ins_get I2.hok h1
    obtain ⟨od, J, _⟩ := J.look
    obtain ⟨P, Z, pz, _⟩ := kit_of I2 ry ty
    refine PySem.W.cmp_K (op := .Eq) (tb := t) hr.units0 hF I2.ok.mod.kin J (Z.ty _ _ I2.kIn pz) nf F'.fi F'.fn ?_
    exact thn (run_fnS (us := [.ref a1, u]) (vs := [.ref a1, y]) F1' (hr.mono hk') hb2 (hx σ) I2 (.cons rfl (.cons ry .nil)) q) fun v s3 ⟨z, H3, I3, r3, q3⟩ => cmpBack_rel r3 ⟨z, H3, I3, r3, q3⟩
  cases ry
  obtain ⟨mA, J0, _⟩ := ins_get I2.hok h1
  obtain ⟨od, J, _⟩ := J0.look
  have ho := J0.obj
  have fin : wpAny (model X.prog X.w) X.A (call (.ref (He.ma X.K (He.ga X.K c) "__eq__")) [.ref b1, v]) (PySem.W.CmpBack (EP X pins σ Q)) X.xe s2 :=
    thn (run_fnS (us := [.ref b1, v]) (vs := [.ref b1, x]) F1 (hr.mono hk) hb (hx σ) I2 (.cons rfl (.cons rx .nil)) q) fun v s3 ⟨z, H3, I3, r3, q3⟩ => cmpBack_rel r3 ⟨z, H3, I3, r3, q3⟩
  have lk : ∀ M, PySem.W.Looks M s2.heap (isSubtype (.ref (He.ga X.K c)) (.type T)) false := fun M => PySem.W.looks_subIn I2.kIn sb
  cases ty with
  | non =>
    cases (show v = Value.none from rx)
    exact cmp_back hr.units0 hF I2.ok.mod.kin J rfl sb PySem.F.slot_NoneType_eq F.fi F.fn (fun R hR => call_gives PySem.F.slot_NoneType_eq rfl PySem.F.entry_NoneType_eq (PySem.F.args_NoneType_eq_2 _ _) (PySem.SeqAt.NoneType___eq___none_ref_0 _) hR) fin
  | int i =>
    obtain ⟨t, rfl⟩ := (show ∃ t, v = Value.int i t from rx)
    exact cmp_back hr.units0 hF I2.ok.mod.kin J (typeIs_int s2 i t) sb PySem.F.slot_int_eq F.fi F.fn (fun R hR => call_meets PySem.F.slot_int_eq (typeIs_int s2 i t) PySem.F.entry_int_eq (PySem.F.args_int_eq_2 _ _) (int_eq_declines_ins i t b1 _ dx) ⟨ho, hR⟩) fin
  | str i =>
    obtain ⟨t, rfl⟩ := (show ∃ t, v = Value.str i t from rx)
    exact cmp_back hr.units0 hF I2.ok.mod.kin J (typeIs_str s2 i t) sb PySem.F.slot_str_eq F.fi F.fn (fun R hR => call_meets PySem.F.slot_str_eq (typeIs_str s2 i t) PySem.F.entry_str_eq (PySem.F.args_str_eq_2 _ _) (str_eq_declines_ins i t b1 _ dx) ⟨ho, hR⟩) fin
  | lst h =>
    cases rx
    obtain ⟨its, rv, ⟨⟨oc, od', odat, osl⟩, n, e, e1, e2, e3⟩, _⟩ := I2.list h
    simp only at e1 e2 e3
    subst e1 e2 e3
    exact cmp_back hr.units0 hF I2.ok.mod.kin J ⟨_, e, rfl⟩ sb PySem.F.slot_list_eq F.fi F.fn (fun R hR => call_meets PySem.F.slot_list_eq ⟨_, e, rfl⟩ PySem.F.entry_list_eq (PySem.F.args_list_eq_2 _ _) (list_eq_declines_ins _ b1 _ dx _ n _ _) ⟨e, ho, lk, hR⟩) fin
  | tup h =>
    cases rx
    obtain ⟨its, rv, ⟨⟨oc, od', odat, osl⟩, e, e1, n, e3⟩, _⟩ := I2.tuple h
    simp only at e1 e3
    subst e1 e3
    exact cmp_back hr.units0 hF I2.ok.mod.kin J ⟨_, e, rfl⟩ sb PySem.F.slot_tuple_eq F.fi F.fn (fun R hR => call_meets PySem.F.slot_tuple_eq ⟨_, e, rfl⟩ PySem.F.entry_tuple_eq (PySem.F.args_tuple_eq_2 _ _) (tuple_eq_declines_ins _ b1 _ dx _ n _ _) ⟨e, ho, lk, hR⟩) fin
def rEqX (K : PySem.W.Frag) (C C' : Addr) (sp sp' : Sp) (E : XK) : R2 := fun x y H2 Q =>
  (∃ a dx fs t, x = .ref a ∧ H2 a = some (.ins C' dx fs) ∧ TyX K H2 y t ∧ PySem.W.notFirst K C' t = true ∧ sp' [x, y] H2 Q E) ∨
  (∃ b dx fs T, y = .ref b ∧ H2 b = some (.ins C dx fs) ∧ TyL K H2 x T ∧ PySem.W.subIn K (.ref C) (.type T) = some false ∧ sp [y, x] H2 Q E)
theorem op_eqX (K : PySem.W.Frag) {E : XK} (F : BOk X.prog X.w X.K X.mg X.base c "__eq__" k sp) (F' : BOk X.prog X.w X.K X.mg X.base c' "__eq__" k' sp') (hr : Room j X.A) (hk : k ≤ j) (hk' : k' ≤ j) (hx : ∀ σ, PassesAt (L2.CX X.prog X.w) X σ E) (hK : X.K = K := by rfl) :
    OpR X (compareOp .Eq) (rEqX K (He.ga K c) (He.ga K c') sp sp' E) := by
  subst hK
  obtain ⟨fd, ps, F1, hb⟩ := F.ex
  obtain ⟨fd', ps', F1', hb2⟩ := F'.ex
  intro pins s2 σ H2 x y v u Q I2 rx ry q
  obtain ⟨mm, hF⟩ := I2.fr
  show wpAny (model X.prog X.w) X.A (richCompare .Eq v u) (EP X pins σ Q) X.xe s2
  rcases q with ⟨a1, dx, fs, t, rfl, h1, ty, nf, q⟩ | ⟨b1, dx, fs, T, rfl, h1, ty, sb, q⟩
  · cases rx
    obtain ⟨mA, J, _⟩ := ins_get I2.hok h1
    obtain ⟨od, J, _⟩ := J.look
    obtain ⟨P, Z, pz, _⟩ := kit_of I2 ry ty
    refine PySem.W.cmp_K (op := .Eq) (tb := t) hr.units0 hF I2.ok.mod.kin J (Z.ty _ _ I2.kIn pz) nf F'.fi F'.fn ?_
    exact thn (run_fnS (E := fun _ => E) (us := [.ref a1, u]) (vs := [.ref a1, y]) F1' (hr.mono hk') hb2 (hx σ) I2 (.cons rfl (.cons ry .nil)) q) fun v s3 ⟨z, H3, I3, r3, q3⟩ => cmpBack_rel r3 ⟨z, H3, I3, r3, q3⟩
  cases ry
  obtain ⟨mA, J0, _⟩ := ins_get I2.hok h1
  obtain ⟨od, J, _⟩ := J0.look
  have ho := J0.obj
  have fin : wpAny (model X.prog X.w) X.A (call (.ref (He.ma X.K (He.ga X.K c) "__eq__")) [.ref b1, v]) (PySem.W.CmpBack (EP X pins σ Q)) X.xe s2 :=
    thn (run_fnS (E := fun _ => E) (us := [.ref b1, v]) (vs := [.ref b1, x]) F1 (hr.mono hk) hb (hx σ) I2 (.cons rfl (.cons rx .nil)) q) fun v s3 ⟨z, H3, I3, r3, q3⟩ => cmpBack_rel r3 ⟨z, H3, I3, r3, q3⟩
  have lk : ∀ M, PySem.W.Looks M s2.heap (isSubtype (.ref (He.ga X.K c)) (.type T)) false := fun M => PySem.W.looks_subIn I2.kIn sb
  cases ty with
  | non =>
    cases (show v = Value.none from rx)
    exact cmp_back hr.units0 hF I2.ok.mod.kin J rfl sb PySem.F.slot_NoneType_eq F.fi F.fn (fun R hR => call_gives PySem.F.slot_NoneType_eq rfl PySem.F.entry_NoneType_eq (PySem.F.args_NoneType_eq_2 _ _) (PySem.SeqAt.NoneType___eq___none_ref_0 _) hR) fin
  | int i =>
    obtain ⟨t, rfl⟩ := (show ∃ t, v = Value.int i t from rx)
    exact cmp_back hr.units0 hF I2.ok.mod.kin J (typeIs_int s2 i t) sb PySem.F.slot_int_eq F.fi F.fn (fun R hR => call_meets PySem.F.slot_int_eq (typeIs_int s2 i t) PySem.F.entry_int_eq (PySem.F.args_int_eq_2 _ _) (int_eq_declines_ins i t b1 _ dx) ⟨ho, hR⟩) fin
  | str i =>
    obtain ⟨t, rfl⟩ := (show ∃ t, v = Value.str i t from rx)
    exact cmp_back hr.units0 hF I2.ok.mod.kin J (typeIs_str s2 i t) sb PySem.F.slot_str_eq F.fi F.fn (fun R hR => call_meets PySem.F.slot_str_eq (typeIs_str s2 i t) PySem.F.entry_str_eq (PySem.F.args_str_eq_2 _ _) (str_eq_declines_ins i t b1 _ dx) ⟨ho, hR⟩) fin
  | lst h =>
    cases rx
    obtain ⟨its, rv, ⟨⟨oc, od', odat, osl⟩, n, e, e1, e2, e3⟩, _⟩ := I2.list h
    simp only at e1 e2 e3
    subst e1 e2 e3
    exact cmp_back hr.units0 hF I2.ok.mod.kin J ⟨_, e, rfl⟩ sb PySem.F.slot_list_eq F.fi F.fn (fun R hR => call_meets PySem.F.slot_list_eq ⟨_, e, rfl⟩ PySem.F.entry_list_eq (PySem.F.args_list_eq_2 _ _) (list_eq_declines_ins _ b1 _ dx _ n _ _) ⟨e, ho, lk, hR⟩) fin
  | tup h =>
    cases rx
    obtain ⟨its, rv, ⟨⟨oc, od', odat, osl⟩, e, e1, n, e3⟩, _⟩ := I2.tuple h
    simp only at e1 e3
    subst e1 e3
    exact cmp_back hr.units0 hF I2.ok.mod.kin J ⟨_, e, rfl⟩ sb PySem.F.slot_tuple_eq F.fi F.fn (fun R hR => call_meets PySem.F.slot_tuple_eq ⟨_, e, rfl⟩ PySem.F.entry_tuple_eq (PySem.F.args_tuple_eq_2 _ _) (tuple_eq_declines_ins _ b1 _ dx _ n _ _) ⟨e, ho, lk, hR⟩) fin
def rEqS (K : PySem.W.Frag) (C : Addr) (sp : Sp) (E : XK) : R2 := fun x y H2 Q => ∃ a dx fs t, x = .ref a ∧ H2 a = some (.ins C dx fs) ∧ TyX K H2 y t ∧ PySem.W.notFirst K C t = true ∧ sp [x, y] H2 Q E
theorem op_eqS (K : PySem.W.Frag) {E : XK} (F : BOk X.prog X.w X.K X.mg X.base c "__eq__" k sp) (hr : Room j X.A) (hk : k ≤ j) (hx : ∀ σ, PassesAt (L2.CX X.prog X.w) X σ E) (hK : X.K = K := by rfl) :
    OpR X (compareOp .Eq) (rEqS K (He.ga K c) sp E) := fun pins s2 σ H2 x y v u Q I2 rx ry q => op_eqX K F F hr hk hk hx hK pins s2 σ H2 x y v u Q I2 rx ry (.inl q)
end
def ckSb (c : Str) (t : String) : Ck := fun K => decide (PySem.W.subIn K (.ref (He.ga K c)) (.type t) = some false)
end Ms
set_option Elab.async false
set_option linter.all false
set_option maxRecDepth 100000
set_option maxHeartbeats 4000000
/-! K05: the text, what the head tells. -/
namespace K05
open PySem PySem.Spec PyProof.Rows L2 Ms
def top (i : Nat) : Stmt := PySem.Challenge.pw_manysights_k05_standings_compared.main.body.getD i (.Pass ⟨0, 0, 0, 0⟩)
abbrev s_wall : Stmt := top 0
theorem sc_wall : FnScope ["k"] ["k"] (defScope s_wall) := ⟨rfl, rfl, rfl, by decide +kernel, rfl, by decide +kernel, by decide +kernel⟩
abbrev sSizesDifferu__initu_ : Stmt := mem (top 4) 0
theorem scSizesDifferu__initu_ : FnScope ["self", "one", "two"] ["self", "one", "two"] (defScope sSizesDifferu__initu_) := ⟨rfl, rfl, rfl, by decide +kernel, rfl, by decide +kernel, by decide +kernel⟩
abbrev sBadCountu__initu_ : Stmt := mem (top 5) 0
theorem scBadCountu__initu_ : FnScope ["self", "count"] ["self", "count"] (defScope sBadCountu__initu_) := ⟨rfl, rfl, rfl, by decide +kernel, rfl, by decide +kernel, by decide +kernel⟩
abbrev sBadNameu__initu_ : Stmt := mem (top 6) 0
theorem scBadNameu__initu_ : FnScope ["self", "name"] ["self", "name"] (defScope sBadNameu__initu_) := ⟨rfl, rfl, rfl, by decide +kernel, rfl, by decide +kernel, by decide +kernel⟩
abbrev sTakenNameu__initu_ : Stmt := mem (top 7) 0
theorem scTakenNameu__initu_ : FnScope ["self", "name"] ["self", "name"] (defScope sTakenNameu__initu_) := ⟨rfl, rfl, rfl, by decide +kernel, rfl, by decide +kernel, by decide +kernel⟩
abbrev sBadLengthu__initu_ : Stmt := mem (top 8) 0
theorem scBadLengthu__initu_ : FnScope ["self", "count"] ["self", "count"] (defScope sBadLengthu__initu_) := ⟨rfl, rfl, rfl, by decide +kernel, rfl, by decide +kernel, by decide +kernel⟩
abbrev sBadDigitu__initu_ : Stmt := mem (top 9) 0
theorem scBadDigitu__initu_ : FnScope ["self", "index"] ["self", "index"] (defScope sBadDigitu__initu_) := ⟨rfl, rfl, rfl, by decide +kernel, rfl, by decide +kernel, by decide +kernel⟩
abbrev sBadWeightu__initu_ : Stmt := mem (top 10) 0
theorem scBadWeightu__initu_ : FnScope ["self", "index"] ["self", "index"] (defScope sBadWeightu__initu_) := ⟨rfl, rfl, rfl, by decide +kernel, rfl, by decide +kernel, by decide +kernel⟩
abbrev sUnknownNameu__initu_ : Stmt := mem (top 11) 0
theorem scUnknownNameu__initu_ : FnScope ["self", "name"] ["self", "name"] (defScope sUnknownNameu__initu_) := ⟨rfl, rfl, rfl, by decide +kernel, rfl, by decide +kernel, by decide +kernel⟩
abbrev sUnknownDealu__initu_ : Stmt := mem (top 14) 0
theorem scUnknownDealu__initu_ : FnScope ["self", "deal"] ["self", "deal"] (defScope sUnknownDealu__initu_) := ⟨rfl, rfl, rfl, by decide +kernel, rfl, by decide +kernel, by decide +kernel⟩
abbrev sis_whole : Stmt := top 18
theorem scis_whole : FnScope ["value"] ["value"] (defScope sis_whole) := ⟨rfl, rfl, rfl, by decide +kernel, rfl, by decide +kernel, by decide +kernel⟩
abbrev sis_digit : Stmt := top 19
theorem scis_digit : FnScope ["value"] ["value"] (defScope sis_digit) := ⟨rfl, rfl, rfl, by decide +kernel, rfl, by decide +kernel, by decide +kernel⟩
abbrev sis_name : Stmt := top 20
theorem scis_name : FnScope ["value", "sign"] ["value"] (defScope sis_name) := ⟨rfl, rfl, rfl, by decide +kernel, rfl, by decide +kernel, by decide +kernel⟩
abbrev scheck_name : Stmt := top 21
theorem sccheck_name : FnScope ["name"] ["name"] (defScope scheck_name) := ⟨rfl, rfl, rfl, by decide +kernel, rfl, by decide +kernel, by decide +kernel⟩
abbrev srenumbered : Stmt := top 23
theorem screnumbered : FnScope ["marks", "numbers", "found", "mark"] ["marks"] (defScope srenumbered) := ⟨rfl, rfl, rfl, by decide +kernel, rfl, by decide +kernel, by decide +kernel⟩
abbrev slisted_cells : Stmt := top 24
theorem sclisted_cells : FnScope ["marks", "found", "_", "deal", "mark", "cell"] ["marks"] (defScope slisted_cells) := ⟨rfl, rfl, rfl, by decide +kernel, rfl, by decide +kernel, by decide +kernel⟩
abbrev sjoined_marks : Stmt := top 25
theorem scjoined_marks : FnScope ["one", "two", "boss", "first", "mark", "other", "low", "high", "found", "root"] ["one", "two"] (defScope sjoined_marks) := ⟨rfl, rfl, rfl, by decide +kernel, rfl, by decide +kernel, by decide +kernel⟩
abbrev scheck_sizes : Stmt := top 26
theorem sccheck_sizes : FnScope ["one", "two"] ["one", "two"] (defScope scheck_sizes) := ⟨rfl, rfl, rfl, by decide +kernel, rfl, by decide +kernel, by decide +kernel⟩
abbrev sSightu__initu_ : Stmt := mem (top 27) 0
theorem scSightu__initu_ : FnScope ["self", "marks", "numbers"] ["self", "marks"] (defScope sSightu__initu_) := ⟨rfl, rfl, rfl, by decide +kernel, rfl, by decide +kernel, by decide +kernel⟩
abbrev sSight_nothing : Stmt := mem (top 27) 1
theorem scSight_nothing : FnScope ["cls", "size"] ["cls", "size"] (defScope sSight_nothing) := ⟨rfl, rfl, rfl, by decide +kernel, rfl, by decide +kernel, by decide +kernel⟩
abbrev sSight_everything : Stmt := mem (top 27) 2
theorem scSight_everything : FnScope ["cls", "size"] ["cls", "size"] (defScope sSight_everything) := ⟨rfl, rfl, rfl, by decide +kernel, rfl, by decide +kernel, by decide +kernel⟩
abbrev sSight_cells : Stmt := mem (top 27) 3
theorem scSight_cells : FnScope ["self"] ["self"] (defScope sSight_cells) := ⟨rfl, rfl, rfl, by decide +kernel, rfl, by decide +kernel, by decide +kernel⟩
abbrev sSight_cell_of : Stmt := mem (top 27) 4
theorem scSight_cell_of : FnScope ["self", "deal"] ["self", "deal"] (defScope sSight_cell_of) := ⟨rfl, rfl, rfl, by decide +kernel, rfl, by decide +kernel, by decide +kernel⟩
abbrev sSight_alike : Stmt := mem (top 27) 5
theorem scSight_alike : FnScope ["self", "one", "two"] ["self", "one", "two"] (defScope sSight_alike) := ⟨rfl, rfl, rfl, by decide +kernel, rfl, by decide +kernel, by decide +kernel⟩
abbrev sSightu__andu_ : Stmt := mem (top 27) 6
theorem scSightu__andu_ : FnScope ["self", "other", "pairs", "count"] ["self", "other"] (defScope sSightu__andu_) := ⟨rfl, rfl, rfl, by decide +kernel, rfl, by decide +kernel, by decide +kernel⟩
abbrev sSightu__oru_ : Stmt := mem (top 27) 7
theorem scSightu__oru_ : FnScope ["self", "other"] ["self", "other"] (defScope sSightu__oru_) := ⟨rfl, rfl, rfl, by decide +kernel, rfl, by decide +kernel, by decide +kernel⟩
abbrev sSightu__equ_ : Stmt := mem (top 27) 8
theorem scSightu__equ_ : FnScope ["self", "other"] ["self", "other"] (defScope sSightu__equ_) := ⟨rfl, rfl, rfl, by decide +kernel, rfl, by decide +kernel, by decide +kernel⟩
abbrev smade_standing : Stmt := top 29
theorem scmade_standing : FnScope ["deals", "facts", "parties", "places", "made", "row", "name", "sight", "weights", "_", "place", "deal"] ["deals", "facts", "parties", "places"] (defScope smade_standing) := ⟨rfl, rfl, rfl, by decide +kernel, rfl, by decide +kernel, by decide +kernel⟩
abbrev spicked : Stmt := top 30
theorem scpicked : FnScope ["row", "places", "place"] ["row", "places"] (defScope spicked) := ⟨rfl, rfl, rfl, by decide +kernel, rfl, by decide +kernel, by decide +kernel⟩
abbrev scheck_digits : Stmt := top 31
theorem sccheck_digits : FnScope ["digits", "index", "item"] ["digits"] (defScope scheck_digits) := ⟨rfl, rfl, rfl, by decide +kernel, rfl, by decide +kernel, by decide +kernel⟩
abbrev scheck_weights : Stmt := top 32
theorem sccheck_weights : FnScope ["weights", "index", "item"] ["weights"] (defScope scheck_weights) := ⟨rfl, rfl, rfl, by decide +kernel, rfl, by decide +kernel, by decide +kernel⟩
abbrev sStandingu__initu_ : Stmt := mem (top 33) 0
theorem scStandingu__initu_ : FnScope ["self", "count", "deal"] ["self", "count"] (defScope sStandingu__initu_) := ⟨rfl, rfl, rfl, by decide +kernel, rfl, by decide +kernel, by decide +kernel⟩
abbrev sStanding_key : Stmt := mem (top 33) 1
theorem scStanding_key : FnScope ["self"] ["self"] (defScope sStanding_key) := ⟨rfl, rfl, rfl, by decide +kernel, rfl, by decide +kernel, by decide +kernel⟩
abbrev sStandingu_party_triples : Stmt := mem (top 33) 2
theorem scStandingu_party_triples : FnScope ["self", "name"] ["self"] (defScope sStandingu_party_triples) := ⟨rfl, rfl, rfl, by decide +kernel, rfl, by decide +kernel, by decide +kernel⟩
abbrev sStanding_with_fact : Stmt := mem (top 33) 3
theorem scStanding_with_fact : FnScope ["self", "name", "digits", "row"] ["self", "name", "digits"] (defScope sStanding_with_fact) := ⟨rfl, rfl, rfl, by decide +kernel, rfl, by decide +kernel, by decide +kernel⟩
abbrev sStanding_with_party : Stmt := mem (top 33) 4
theorem scStanding_with_party : FnScope ["self", "name", "marks", "weights", "row", "triples"] ["self", "name", "marks", "weights"] (defScope sStanding_with_party) := ⟨rfl, rfl, rfl, by decide +kernel, rfl, by decide +kernel, by decide +kernel⟩
abbrev sStanding_without_fact : Stmt := mem (top 33) 5
theorem scStanding_without_fact : FnScope ["self", "name", "rest", "row"] ["self", "name"] (defScope sStanding_without_fact) := ⟨rfl, rfl, rfl, by decide +kernel, rfl, by decide +kernel, by decide +kernel⟩
abbrev sStanding_without_party : Stmt := mem (top 33) 6
theorem scStanding_without_party : FnScope ["self", "name", "rest", "row"] ["self", "name"] (defScope sStanding_without_party) := ⟨rfl, rfl, rfl, by decide +kernel, rfl, by decide +kernel, by decide +kernel⟩
abbrev sStanding_only : Stmt := mem (top 33) 7
theorem scStanding_only : FnScope ["self", "deals", "places", "deal", "facts", "name", "digits", "parties", "marks", "weights"] ["self", "deals"] (defScope sStanding_only) := ⟨rfl, rfl, rfl, by decide +kernel, rfl, by decide +kernel, by decide +kernel⟩
abbrev sStanding_digit : Stmt := mem (top 33) 8
theorem scStanding_digit : FnScope ["self", "fact", "deal"] ["self", "fact", "deal"] (defScope sStanding_digit) := ⟨rfl, rfl, rfl, by decide +kernel, rfl, by decide +kernel, by decide +kernel⟩
abbrev sStanding_digits : Stmt := mem (top 33) 9
theorem scStanding_digits : FnScope ["self", "fact"] ["self", "fact"] (defScope sStanding_digits) := ⟨rfl, rfl, rfl, by decide +kernel, rfl, by decide +kernel, by decide +kernel⟩
abbrev sStanding_sight : Stmt := mem (top 33) 10
theorem scStanding_sight : FnScope ["self", "party"] ["self", "party"] (defScope sStanding_sight) := ⟨rfl, rfl, rfl, by decide +kernel, rfl, by decide +kernel, by decide +kernel⟩
abbrev sStanding_weights : Stmt := mem (top 33) 11
theorem scStanding_weights : FnScope ["self", "party"] ["self", "party"] (defScope sStanding_weights) := ⟨rfl, rfl, rfl, by decide +kernel, rfl, by decide +kernel, by decide +kernel⟩
abbrev sStanding_position : Stmt := mem (top 33) 12
theorem scStanding_position : FnScope ["self", "deal"] ["self", "deal"] (defScope sStanding_position) := ⟨rfl, rfl, rfl, by decide +kernel, rfl, by decide +kernel, by decide +kernel⟩
abbrev sStandingu__containsu_ : Stmt := mem (top 33) 13
theorem scStandingu__containsu_ : FnScope ["self", "deal"] ["self", "deal"] (defScope sStandingu__containsu_) := ⟨rfl, rfl, rfl, by decide +kernel, rfl, by decide +kernel, by decide +kernel⟩
abbrev sStandingu__lenu_ : Stmt := mem (top 33) 14
theorem scStandingu__lenu_ : FnScope ["self"] ["self"] (defScope sStandingu__lenu_) := ⟨rfl, rfl, rfl, by decide +kernel, rfl, by decide +kernel, by decide +kernel⟩
abbrev sStandingu__iteru_ : Stmt := mem (top 33) 15
theorem scStandingu__iteru_ : FnScope ["self"] ["self"] (defScope sStandingu__iteru_) := ⟨rfl, rfl, rfl, by decide +kernel, rfl, by decide +kernel, by decide +kernel⟩
abbrev sStandingu__equ_ : Stmt := mem (top 33) 16
theorem scStandingu__equ_ : FnScope ["self", "other"] ["self", "other"] (defScope sStandingu__equ_) := ⟨rfl, rfl, rfl, by decide +kernel, rfl, by decide +kernel, by decide +kernel⟩
abbrev s_law_cell : Stmt := top 35
theorem sc_law_cell : FnScope ["script", "k", "seed", "cell"] ["script", "k"] (defScope s_law_cell) := ⟨rfl, rfl, rfl, by decide +kernel, rfl, by decide +kernel, by decide +kernel⟩
abbrev s_law_digits : Stmt := top 36
theorem sc_law_digits : FnScope ["cell", "sizes", "row", "rest", "size", "seed", "k", "twice"] ["cell", "sizes"] (defScope s_law_digits) := ⟨rfl, rfl, rfl, by decide +kernel, rfl, by decide +kernel, by decide +kernel⟩
abbrev s_law_marks : Stmt := top 37
theorem sc_law_marks : FnScope ["marks", "found", "row", "mark"] ["marks"] (defScope s_law_marks) := ⟨rfl, rfl, rfl, by decide +kernel, rfl, by decide +kernel, by decide +kernel⟩
abbrev s_law_only : Stmt := top 38
theorem sc_law_only : FnScope ["world", "places", "facts", "k", "fact", "callers", "party"] ["world", "places"] (defScope s_law_only) := ⟨rfl, rfl, rfl, by decide +kernel, rfl, by decide +kernel, by decide +kernel⟩
abbrev s_law_name : Stmt := top 39
theorem sc_law_name : FnScope ["cell", "letters", "signs", "row", "text", "k", "place", "sign"] ["cell"] (defScope s_law_name) := ⟨rfl, rfl, rfl, by decide +kernel, rfl, by decide +kernel, by decide +kernel⟩
abbrev s_law_draw_digits : Stmt := top 40
theorem sc_law_draw_digits : FnScope ["cell", "size", "row", "k"] ["cell", "size"] (defScope s_law_draw_digits) := ⟨rfl, rfl, rfl, by decide +kernel, rfl, by decide +kernel, by decide +kernel⟩
abbrev s_law_draw_party : Stmt := top 41
theorem sc_law_draw_party : FnScope ["cell", "size", "row", "wide", "factor", "marks", "k", "heavy"] ["cell", "size"] (defScope s_law_draw_party) := ⟨rfl, rfl, rfl, by decide +kernel, rfl, by decide +kernel, by decide +kernel⟩
abbrev s_law_world : Stmt := top 42
theorem sc_law_world : FnScope ["script", "shape", "deals", "deal", "k", "facts", "callers", "name", "fact", "row", "party"] ["script"] (defScope s_law_world) := ⟨rfl, rfl, rfl, by decide +kernel, rfl, by decide +kernel, by decide +kernel⟩
abbrev s_law_moved : Stmt := top 43
theorem sc_law_moved : FnScope ["one", "two"] ["one", "two"] (defScope s_law_moved) := ⟨rfl, rfl, rfl, by decide +kernel, rfl, by decide +kernel, by decide +kernel⟩
abbrev s_law_renamed : Stmt := top 44
theorem sc_law_renamed : FnScope ["rows", "at", "name", "row"] ["rows", "at", "name"] (defScope s_law_renamed) := ⟨rfl, rfl, rfl, by decide +kernel, rfl, by decide +kernel, by decide +kernel⟩
abbrev s_law_put : Stmt := top 45
theorem sc_law_put : FnScope ["row", "at", "item"] ["row", "at", "item"] (defScope s_law_put) := ⟨rfl, rfl, rfl, by decide +kernel, rfl, by decide +kernel, by decide +kernel⟩
abbrev s_law_varied : Stmt := top 46
theorem sc_law_varied : FnScope ["world", "cell", "row", "place", "deals", "facts", "callers", "name", "k", "deal", "at", "fact", "other", "names", "party", "mark", "number"] ["world", "cell"] (defScope s_law_varied) := ⟨rfl, rfl, rfl, by decide +kernel, rfl, by decide +kernel, by decide +kernel⟩
abbrev s_law_fresh : Stmt := top 47
theorem sc_law_fresh : FnScope ["rows", "names", "row", "name"] ["rows"] (defScope s_law_fresh) := ⟨rfl, rfl, rfl, by decide +kernel, rfl, by decide +kernel, by decide +kernel⟩
abbrev s_law_build : Stmt := top 48
theorem sc_law_build : FnScope ["world", "cell", "road", "deals", "count", "over", "k", "standing", "facts", "deal", "fact", "digits", "party", "marks", "mark", "heavy"] ["world", "cell"] (defScope s_law_build) := ⟨rfl, rfl, rfl, by decide +kernel, rfl, by decide +kernel, by decide +kernel⟩
abbrev s_law_plain : Stmt := top 49
theorem sc_law_plain : FnScope ["world", "party"] ["world"] (defScope s_law_plain) := ⟨rfl, rfl, rfl, by decide +kernel, rfl, by decide +kernel, by decide +kernel⟩
abbrev s_law_equals_nothing_else : Stmt := top 50
theorem sc_law_equals_nothing_else : FnScope ["standing", "others", "other"] ["standing"] (defScope s_law_equals_nothing_else) := ⟨rfl, rfl, rfl, by decide +kernel, rfl, by decide +kernel, by decide +kernel⟩
abbrev slaw : Stmt := top 51
theorem sclaw : FnScope ["script", "world", "worlds", "shape", "k", "made", "j", "same", "due"] ["script"] (defScope slaw) := ⟨rfl, rfl, rfl, by decide +kernel, rfl, by decide +kernel, by decide +kernel⟩
theorem bi_SizesDifferu__initu_ : BindsIn "__init__" "SizesDiffer.__init__" sSizesDifferu__initu_ ["self", "one", "two"] := bi3 fun _ _ _ _ _ _ _ _ _ => rfl
theorem bi_is_whole : BindsIn "is_whole" "is_whole" sis_whole ["value"] := bi1 fun _ _ _ _ _ _ _ => rfl
theorem bi_is_digit : BindsIn "is_digit" "is_digit" sis_digit ["value"] := bi1 fun _ _ _ _ _ _ _ => rfl
theorem bi_is_name : BindsIn "is_name" "is_name" sis_name ["value"] := bi1 fun _ _ _ _ _ _ _ => rfl
theorem bi_check_name : BindsIn "check_name" "check_name" scheck_name ["name"] := bi1 fun _ _ _ _ _ _ _ => rfl
theorem bi_renumbered : BindsIn "renumbered" "renumbered" srenumbered ["marks"] := bi1 fun _ _ _ _ _ _ _ => rfl
theorem bi_listed_cells : BindsIn "listed_cells" "listed_cells" slisted_cells ["marks"] := bi1 fun _ _ _ _ _ _ _ => rfl
theorem bi_joined_marks : BindsIn "joined_marks" "joined_marks" sjoined_marks ["one", "two"] := bi2 fun _ _ _ _ _ _ _ _ => rfl
theorem bi_check_sizes : BindsIn "check_sizes" "check_sizes" scheck_sizes ["one", "two"] := bi2 fun _ _ _ _ _ _ _ _ => rfl
theorem bi_Sightu__initu_ : BindsIn "__init__" "Sight.__init__" sSightu__initu_ ["self", "marks"] := bi2 fun _ _ _ _ _ _ _ _ => rfl
theorem bi_Sightu__equ_ : BindsIn "__eq__" "Sight.__eq__" sSightu__equ_ ["self", "other"] := bi2 fun _ _ _ _ _ _ _ _ => rfl
theorem bi_picked : BindsIn "picked" "picked" spicked ["row", "places"] := bi2 fun _ _ _ _ _ _ _ _ => rfl
theorem bi_check_digits : BindsIn "check_digits" "check_digits" scheck_digits ["digits"] := bi1 fun _ _ _ _ _ _ _ => rfl
theorem bi_check_weights : BindsIn "check_weights" "check_weights" scheck_weights ["weights"] := bi1 fun _ _ _ _ _ _ _ => rfl
theorem bi_Standingu__initu_ : BindsIn "__init__" "Standing.__init__" sStandingu__initu_ ["self", "count"] := bi2 fun _ _ _ _ _ _ _ _ => rfl
theorem bi_Standing_key : BindsIn "key" "Standing.key" sStanding_key ["self"] := bi1 fun _ _ _ _ _ _ _ => rfl
theorem bi_Standingu_party_triples : BindsIn "_party_triples" "Standing._party_triples" sStandingu_party_triples ["self"] := bi1 fun _ _ _ _ _ _ _ => rfl
theorem bi_Standing_with_fact : BindsIn "with_fact" "Standing.with_fact" sStanding_with_fact ["self", "name", "digits"] := bi3 fun _ _ _ _ _ _ _ _ _ => rfl
theorem bi_Standing_without_fact : BindsIn "without_fact" "Standing.without_fact" sStanding_without_fact ["self", "name"] := bi2 fun _ _ _ _ _ _ _ _ => rfl
theorem bi_Standing_without_party : BindsIn "without_party" "Standing.without_party" sStanding_without_party ["self", "name"] := bi2 fun _ _ _ _ _ _ _ _ => rfl
theorem bi_Standing_only : BindsIn "only" "Standing.only" sStanding_only ["self", "deals"] := bi2 fun _ _ _ _ _ _ _ _ => rfl
theorem bi_Standing_position : BindsIn "position" "Standing.position" sStanding_position ["self", "deal"] := bi2 fun _ _ _ _ _ _ _ _ => rfl
theorem bi_Standingu__equ_ : BindsIn "__eq__" "Standing.__eq__" sStandingu__equ_ ["self", "other"] := bi2 fun _ _ _ _ _ _ _ _ => rfl
theorem bi__law_cell : BindsIn "_law_cell" "_law_cell" s_law_cell ["script", "k"] := bi2 fun _ _ _ _ _ _ _ _ => rfl
theorem bi__law_digits : BindsIn "_law_digits" "_law_digits" s_law_digits ["cell", "sizes"] := bi2 fun _ _ _ _ _ _ _ _ => rfl
theorem bi__law_marks : BindsIn "_law_marks" "_law_marks" s_law_marks ["marks"] := bi1 fun _ _ _ _ _ _ _ => rfl
theorem bi__law_only : BindsIn "_law_only" "_law_only" s_law_only ["world", "places"] := bi2 fun _ _ _ _ _ _ _ _ => rfl
theorem bi__law_name : BindsIn "_law_name" "_law_name" s_law_name ["cell"] := bi1 fun _ _ _ _ _ _ _ => rfl
theorem bi__law_draw_digits : BindsIn "_law_draw_digits" "_law_draw_digits" s_law_draw_digits ["cell", "size"] := bi2 fun _ _ _ _ _ _ _ _ => rfl
theorem bi__law_draw_party : BindsIn "_law_draw_party" "_law_draw_party" s_law_draw_party ["cell", "size"] := bi2 fun _ _ _ _ _ _ _ _ => rfl
theorem bi__law_world : BindsIn "_law_world" "_law_world" s_law_world ["script"] := bi1 fun _ _ _ _ _ _ _ => rfl
theorem bi__law_moved : BindsIn "_law_moved" "_law_moved" s_law_moved ["one", "two"] := bi2 fun _ _ _ _ _ _ _ _ => rfl
theorem bi__law_renamed : BindsIn "_law_renamed" "_law_renamed" s_law_renamed ["rows", "at", "name"] := bi3 fun _ _ _ _ _ _ _ _ _ => rfl
theorem bi__law_put : BindsIn "_law_put" "_law_put" s_law_put ["row", "at", "item"] := bi3 fun _ _ _ _ _ _ _ _ _ => rfl
theorem bi__law_varied : BindsIn "_law_varied" "_law_varied" s_law_varied ["world", "cell"] := bi2 fun _ _ _ _ _ _ _ _ => rfl
theorem bi__law_fresh : BindsIn "_law_fresh" "_law_fresh" s_law_fresh ["rows"] := bi1 fun _ _ _ _ _ _ _ => rfl
theorem bi__law_build : BindsIn "_law_build" "_law_build" s_law_build ["world", "cell"] := bi2 fun _ _ _ _ _ _ _ _ => rfl
theorem bi__law_plain : BindsIn "_law_plain" "_law_plain" s_law_plain ["world"] := bi1 fun _ _ _ _ _ _ _ => rfl
theorem bi__law_equals_nothing_else : BindsIn "_law_equals_nothing_else" "_law_equals_nothing_else" s_law_equals_nothing_else ["standing"] := bi1 fun _ _ _ _ _ _ _ => rfl
theorem bi_law : BindsIn "law" "law" slaw ["script"] := bi1 fun _ _ _ _ _ _ _ => rfl
/-- what the head has left -/
structure Tx (K : PySem.W.Frag) (mg : Str → Option Value) : Prop where
  f_len : mg "len" = none
  f_tuple : mg "tuple" = none
  f_list : mg "list" = none
  f_range : mg "range" = none
  f_enumerate : mg "enumerate" = none
  f_zip : mg "zip" = none
  f_int : mg "int" = none
  f_bool : mg "bool" = none
  f_str : mg "str" = none
  f_dict : mg "dict" = none
  f_set : mg "set" = none
  f_sorted : mg "sorted" = none
  f_all : mg "all" = none
  f_max : mg "max" = none
  f_isinstance : mg "isinstance" = none
  g_DealError : mg "DealError" = some (.ref (He.ga K "DealError"))
  g_NoDeals : mg "NoDeals" = some (.ref (He.ga K "NoDeals"))
  g_SizesDiffer : mg "SizesDiffer" = some (.ref (He.ga K "SizesDiffer"))
  g_Sight : mg "Sight" = some (.ref (He.ga K "Sight"))
  g_Standing : mg "Standing" = some (.ref (He.ga K "Standing"))
  s_LETTERS : ∃ t, mg "LETTERS" = some (.str ("abcdefghijklmnopqrstuvwxyz" : Str) t)
  s_DIGITS : ∃ t, mg "DIGITS" = some (.str ("0123456789" : Str) t)
  c_Sight : Cls K (He.ga K "Sight")
  n_size : NoAttr K (He.ga K "Sight") "size"
  n_marks : NoAttr K (He.ga K "Sight") "marks"
  n_cells : NoAttr K (He.ga K "Sight") "_cells"
  k_Sight : Mk K (He.ga K "Sight") (He.ma K (He.ga K "Sight") "__init__")
  o_eq : Opr K "Sight" "__eq__"
  cl_Sight : ClC K "Sight"
  nf_NoneType : PySem.W.notFirst K (He.ga K "Sight") (.type "NoneType") = true
  nf_int : PySem.W.notFirst K (He.ga K "Sight") (.type "int") = true
  nf_bool : PySem.W.notFirst K (He.ga K "Sight") (.type "bool") = true
  nf_list : PySem.W.notFirst K (He.ga K "Sight") (.type "list") = true
  nf_tuple : PySem.W.notFirst K (He.ga K "Sight") (.type "tuple") = true
  nf_str : PySem.W.notFirst K (He.ga K "Sight") (.type "str") = true
  nf_Sight : PySem.W.notFirst K (He.ga K "Sight") (.ref (He.ga K "Sight")) = true
  nf_Standing : PySem.W.notFirst K (He.ga K "Sight") (.ref (He.ga K "Standing")) = true
  c_Standing : Cls K (He.ga K "Standing")
  nt_deals : NoAttr K (He.ga K "Standing") "deals"
  nt_facts : NoAttr K (He.ga K "Standing") "facts"
  nt_parties : NoAttr K (He.ga K "Standing") "parties"
  nt_fact_rows : NoAttr K (He.ga K "Standing") "_fact_rows"
  nt_party_rows : NoAttr K (He.ga K "Standing") "_party_rows"
  nt_digits : NoAttr K (He.ga K "Standing") "_digits"
  nt_sights : NoAttr K (He.ga K "Standing") "_sights"
  nt_weights : NoAttr K (He.ga K "Standing") "_weights"
  nt_places : NoAttr K (He.ga K "Standing") "_places"
  k_Standing : Mk K (He.ga K "Standing") (He.ma K (He.ga K "Standing") "__init__")
  os_eq : Opr K "Standing" "__eq__"
  cl_Standing : ClC K "Standing"
  nft_NoneType : PySem.W.notFirst K (He.ga K "Standing") (.type "NoneType") = true
  nft_int : PySem.W.notFirst K (He.ga K "Standing") (.type "int") = true
  nft_bool : PySem.W.notFirst K (He.ga K "Standing") (.type "bool") = true
  nft_list : PySem.W.notFirst K (He.ga K "Standing") (.type "list") = true
  nft_tuple : PySem.W.notFirst K (He.ga K "Standing") (.type "tuple") = true
  nft_str : PySem.W.notFirst K (He.ga K "Standing") (.type "str") = true
  nft_Sight : PySem.W.notFirst K (He.ga K "Standing") (.ref (He.ga K "Sight")) = true
  nft_Standing : PySem.W.notFirst K (He.ga K "Standing") (.ref (He.ga K "Standing")) = true
  sbt_NoneType : PySem.W.subIn K (.ref (He.ga K "Standing")) (.type "NoneType") = some false
  sbt_int : PySem.W.subIn K (.ref (He.ga K "Standing")) (.type "int") = some false
  sbt_str : PySem.W.subIn K (.ref (He.ga K "Standing")) (.type "str") = some false
  sbt_list : PySem.W.subIn K (.ref (He.ga K "Standing")) (.type "list") = some false
  sbt_tuple : PySem.W.subIn K (.ref (He.ga K "Standing")) (.type "tuple") = some false
  m_party_triples : Meth K (He.ga K "Standing") "_party_triples" (He.ma K (He.ga K "Standing") "_party_triples")
  m_with_fact : Meth K (He.ga K "Standing") "with_fact" (He.ma K (He.ga K "Standing") "with_fact")
  m_with_party : Meth K (He.ga K "Standing") "with_party" (He.ma K (He.ga K "Standing") "with_party")
  m_without_fact : Meth K (He.ga K "Standing") "without_fact" (He.ma K (He.ga K "Standing") "without_fact")
  m_without_party : Meth K (He.ga K "Standing") "without_party" (He.ma K (He.ga K "Standing") "without_party")
  m_only : Meth K (He.ga K "Standing") "only" (He.ma K (He.ga K "Standing") "only")
  m_position : Meth K (He.ga K "Standing") "position" (He.ma K (He.ga K "Standing") "position")
  p_key : PropOf K (He.ga K "Standing") "key" (He.ma K (He.ga K "Standing") "key") (recAt K "property" "Standing" "key")
  kw_weights : KwOne K (He.ma K (He.ga K "Standing") "with_party") "weights"
  is_Sight_Sight : PySem.W.kitOne K (.ref (He.ga K "Sight")) (.ref (He.ga K "Sight")) = some true
  is_Standing_Sight : PySem.W.kitOne K (.ref (He.ga K "Standing")) (.ref (He.ga K "Sight")) = some false
  is_Standing_Standing : PySem.W.kitOne K (.ref (He.ga K "Standing")) (.ref (He.ga K "Standing")) = some true
  is_NoneType_Standing : PySem.W.kitOne K (.type "NoneType") (.ref (He.ga K "Standing")) = some false
  is_int_Standing : PySem.W.kitOne K (.type "int") (.ref (He.ga K "Standing")) = some false
  is_str_Standing : PySem.W.kitOne K (.type "str") (.ref (He.ga K "Standing")) = some false
  is_tuple_Standing : PySem.W.kitOne K (.type "tuple") (.ref (He.ga K "Standing")) = some false
  is_list_Standing : PySem.W.kitOne K (.type "list") (.ref (He.ga K "Standing")) = some false
  is_Sight_Standing : PySem.W.kitOne K (.ref (He.ga K "Sight")) (.ref (He.ga K "Standing")) = some false
  is_int_int : PySem.W.kitOne K (.type "int") (.type "int") = some true
  is_int_bool : PySem.W.kitOne K (.type "int") (.type "bool") = some false
  is_tuple_tuple : PySem.W.kitOne K (.type "tuple") (.type "tuple") = some true
  is_bool_bool : PySem.W.kitOne K (.type "bool") (.type "bool") = some true
  is_str_str : PySem.W.kitOne K (.type "str") (.type "str") = some true
  x_NoDeals : PySem.W.exmOne K (.ref (He.ga K "NoDeals")) (.ref (He.ga K "DealError")) = some true
  ec_NoDeals : EC K (He.ga K "NoDeals")
  x_SizesDiffer : PySem.W.exmOne K (.ref (He.ga K "SizesDiffer")) (.ref (He.ga K "DealError")) = some true
  ec_SizesDiffer : EC K (He.ga K "SizesDiffer")
  e_NoDeals : PySem.W.excIn K (He.ga K "NoDeals") He.veBase "ValueError.__new__" = true ∧ PySem.W.keepIn K (.ref (He.ga K "NoDeals")) = true ∧ PySem.W.subIn K (.ref (He.ga K "NoDeals")) (.type "BaseException") = some true ∧ PySem.W.typeIn K (.ref (He.ga K "NoDeals")) = some (.type "type")
  oe_SizesDiffer : OexC K (He.ga K "SizesDiffer")
  ie_SizesDiffer : PySem.W.findIn K (.ref (He.ga K "SizesDiffer")) "__init__" = some (some (.ref (He.ma K (He.ga K "SizesDiffer") "__init__"))) ∧ PySem.W.typeIn K (.ref (He.ma K (He.ga K "SizesDiffer") "__init__")) = some (.type "function")
  nS_one : PySem.W.findIn K (.ref (He.ga K "SizesDiffer")) "one" = some none
  nS_two : PySem.W.findIn K (.ref (He.ga K "SizesDiffer")) "two" = some none
  gd_is_whole : mg "is_whole" = some (.ref (He.ga K "is_whole"))
  gd_is_digit : mg "is_digit" = some (.ref (He.ga K "is_digit"))
  gd_is_name : mg "is_name" = some (.ref (He.ga K "is_name"))
  gd_check_name : mg "check_name" = some (.ref (He.ga K "check_name"))
  gd_renumbered : mg "renumbered" = some (.ref (He.ga K "renumbered"))
  gd_listed_cells : mg "listed_cells" = some (.ref (He.ga K "listed_cells"))
  gd_joined_marks : mg "joined_marks" = some (.ref (He.ga K "joined_marks"))
  gd_check_sizes : mg "check_sizes" = some (.ref (He.ga K "check_sizes"))
  gd_made_standing : mg "made_standing" = some (.ref (He.ga K "made_standing"))
  gd_picked : mg "picked" = some (.ref (He.ga K "picked"))
  gd_check_digits : mg "check_digits" = some (.ref (He.ga K "check_digits"))
  gd_check_weights : mg "check_weights" = some (.ref (He.ga K "check_weights"))
  gd__law_cell : mg "_law_cell" = some (.ref (He.ga K "_law_cell"))
  gd__law_digits : mg "_law_digits" = some (.ref (He.ga K "_law_digits"))
  gd__law_marks : mg "_law_marks" = some (.ref (He.ga K "_law_marks"))
  gd__law_only : mg "_law_only" = some (.ref (He.ga K "_law_only"))
  gd__law_name : mg "_law_name" = some (.ref (He.ga K "_law_name"))
  gd__law_draw_digits : mg "_law_draw_digits" = some (.ref (He.ga K "_law_draw_digits"))
  gd__law_draw_party : mg "_law_draw_party" = some (.ref (He.ga K "_law_draw_party"))
  gd__law_world : mg "_law_world" = some (.ref (He.ga K "_law_world"))
  gd__law_moved : mg "_law_moved" = some (.ref (He.ga K "_law_moved"))
  gd__law_renamed : mg "_law_renamed" = some (.ref (He.ga K "_law_renamed"))
  gd__law_put : mg "_law_put" = some (.ref (He.ga K "_law_put"))
  gd__law_varied : mg "_law_varied" = some (.ref (He.ga K "_law_varied"))
  gd__law_fresh : mg "_law_fresh" = some (.ref (He.ga K "_law_fresh"))
  gd__law_build : mg "_law_build" = some (.ref (He.ga K "_law_build"))
  gd__law_plain : mg "_law_plain" = some (.ref (He.ga K "_law_plain"))
  gd__law_equals_nothing_else : mg "_law_equals_nothing_else" = some (.ref (He.ga K "_law_equals_nothing_else"))
  gd_law : mg "law" = some (.ref (He.ga K "law"))
  d_SizesDifferu__initu_ : DefAt K "__init__" "SizesDiffer.__init__" sSizesDifferu__initu_ (He.ma K (He.ga K "SizesDiffer") "__init__")
  d_is_whole : DefAt K "is_whole" "is_whole" sis_whole (He.ga K "is_whole")
  d_is_digit : DefAt K "is_digit" "is_digit" sis_digit (He.ga K "is_digit")
  d_is_name : DefAt K "is_name" "is_name" sis_name (He.ga K "is_name")
  d_check_name : DefAt K "check_name" "check_name" scheck_name (He.ga K "check_name")
  d_renumbered : DefAt K "renumbered" "renumbered" srenumbered (He.ga K "renumbered")
  d_listed_cells : DefAt K "listed_cells" "listed_cells" slisted_cells (He.ga K "listed_cells")
  d_joined_marks : DefAt K "joined_marks" "joined_marks" sjoined_marks (He.ga K "joined_marks")
  d_check_sizes : DefAt K "check_sizes" "check_sizes" scheck_sizes (He.ga K "check_sizes")
  d_Sightu__initu_ : DefAt K "__init__" "Sight.__init__" sSightu__initu_ (He.ma K (He.ga K "Sight") "__init__")
  d_Sightu__equ_ : DefAt K "__eq__" "Sight.__eq__" sSightu__equ_ (He.ma K (He.ga K "Sight") "__eq__")
  d_made_standing : DefAtD K "made_standing" "made_standing" smade_standing [V.non] (He.ga K "made_standing")
  d_picked : DefAt K "picked" "picked" spicked (He.ga K "picked")
  d_check_digits : DefAt K "check_digits" "check_digits" scheck_digits (He.ga K "check_digits")
  d_check_weights : DefAt K "check_weights" "check_weights" scheck_weights (He.ga K "check_weights")
  d_Standingu__initu_ : DefAt K "__init__" "Standing.__init__" sStandingu__initu_ (He.ma K (He.ga K "Standing") "__init__")
  d_Standing_key : DefAt K "key" "Standing.key" sStanding_key (recAt K "property" "Standing" "key")
  d_Standingu_party_triples : DefAt K "_party_triples" "Standing._party_triples" sStandingu_party_triples (He.ma K (He.ga K "Standing") "_party_triples")
  d_Standing_with_fact : DefAt K "with_fact" "Standing.with_fact" sStanding_with_fact (He.ma K (He.ga K "Standing") "with_fact")
  d_Standing_with_party : DefAt K "with_party" "Standing.with_party" sStanding_with_party (He.ma K (He.ga K "Standing") "with_party")
  d_Standing_without_fact : DefAt K "without_fact" "Standing.without_fact" sStanding_without_fact (He.ma K (He.ga K "Standing") "without_fact")
  d_Standing_without_party : DefAt K "without_party" "Standing.without_party" sStanding_without_party (He.ma K (He.ga K "Standing") "without_party")
  d_Standing_only : DefAt K "only" "Standing.only" sStanding_only (He.ma K (He.ga K "Standing") "only")
  d_Standing_position : DefAt K "position" "Standing.position" sStanding_position (He.ma K (He.ga K "Standing") "position")
  d_Standingu__equ_ : DefAt K "__eq__" "Standing.__eq__" sStandingu__equ_ (He.ma K (He.ga K "Standing") "__eq__")
  d__law_cell : DefAt K "_law_cell" "_law_cell" s_law_cell (He.ga K "_law_cell")
  d__law_digits : DefAt K "_law_digits" "_law_digits" s_law_digits (He.ga K "_law_digits")
  d__law_marks : DefAt K "_law_marks" "_law_marks" s_law_marks (He.ga K "_law_marks")
  d__law_only : DefAt K "_law_only" "_law_only" s_law_only (He.ga K "_law_only")
  d__law_name : DefAt K "_law_name" "_law_name" s_law_name (He.ga K "_law_name")
  d__law_draw_digits : DefAt K "_law_draw_digits" "_law_draw_digits" s_law_draw_digits (He.ga K "_law_draw_digits")
  d__law_draw_party : DefAt K "_law_draw_party" "_law_draw_party" s_law_draw_party (He.ga K "_law_draw_party")
  d__law_world : DefAt K "_law_world" "_law_world" s_law_world (He.ga K "_law_world")
  d__law_moved : DefAt K "_law_moved" "_law_moved" s_law_moved (He.ga K "_law_moved")
  d__law_renamed : DefAt K "_law_renamed" "_law_renamed" s_law_renamed (He.ga K "_law_renamed")
  d__law_put : DefAt K "_law_put" "_law_put" s_law_put (He.ga K "_law_put")
  d__law_varied : DefAt K "_law_varied" "_law_varied" s_law_varied (He.ga K "_law_varied")
  d__law_fresh : DefAt K "_law_fresh" "_law_fresh" s_law_fresh (He.ga K "_law_fresh")
  d__law_build : DefAt K "_law_build" "_law_build" s_law_build (He.ga K "_law_build")
  d__law_plain : DefAt K "_law_plain" "_law_plain" s_law_plain (He.ga K "_law_plain")
  d__law_equals_nothing_else : DefAt K "_law_equals_nothing_else" "_law_equals_nothing_else" s_law_equals_nothing_else (He.ga K "_law_equals_nothing_else")
  d_law : DefAt K "law" "law" slaw (He.ga K "law")
def fa : List Ck := [
  (fun K => (He.Fa.free "len").ok K),
  (fun K => (He.Fa.free "tuple").ok K),
  (fun K => (He.Fa.free "list").ok K),
  (fun K => (He.Fa.free "range").ok K),
  (fun K => (He.Fa.free "enumerate").ok K),
  (fun K => (He.Fa.free "zip").ok K),
  (fun K => (He.Fa.free "int").ok K),
  (fun K => (He.Fa.free "bool").ok K),
  (fun K => (He.Fa.free "str").ok K),
  (fun K => (He.Fa.free "dict").ok K),
  (fun K => (He.Fa.free "set").ok K),
  (fun K => (He.Fa.free "sorted").ok K),
  (fun K => (He.Fa.free "all").ok K),
  (fun K => (He.Fa.free "max").ok K),
  (fun K => (He.Fa.free "isinstance").ok K),
  (fun K => (He.Fa.glo "DealError").ok K),
  (fun K => (He.Fa.glo "NoDeals").ok K),
  (fun K => (He.Fa.glo "SizesDiffer").ok K),
  (fun K => (He.Fa.glo "Sight").ok K),
  (fun K => (He.Fa.glo "Standing").ok K),
  (fun K => (He.Fa.str "LETTERS" "abcdefghijklmnopqrstuvwxyz").ok K),
  (fun K => (He.Fa.str "DIGITS" "0123456789").ok K),
  (fun K => (He.Fa.cls "Sight").ok K),
  (fun K => (He.Fa.noat "Sight" "size").ok K),
  (fun K => (He.Fa.noat "Sight" "marks").ok K),
  (fun K => (He.Fa.noat "Sight" "_cells").ok K),
  (fun K => (He.Fa.mkr "Sight").ok K),
  (ckOpr "Sight" "__eq__"),
  (ckCl "Sight"),
  (ckNf "Sight" fun _ => .type "NoneType"),
  (ckNf "Sight" fun _ => .type "int"),
  (ckNf "Sight" fun _ => .type "bool"),
  (ckNf "Sight" fun _ => .type "list"),
  (ckNf "Sight" fun _ => .type "tuple"),
  (ckNf "Sight" fun _ => .type "str"),
  (ckNf "Sight" fun K => .ref (He.ga K "Sight")),
  (ckNf "Sight" fun K => .ref (He.ga K "Standing")),
  (fun K => (He.Fa.cls "Standing").ok K),
  (fun K => (He.Fa.noat "Standing" "deals").ok K),
  (fun K => (He.Fa.noat "Standing" "facts").ok K),
  (fun K => (He.Fa.noat "Standing" "parties").ok K),
  (fun K => (He.Fa.noat "Standing" "_fact_rows").ok K),
  (fun K => (He.Fa.noat "Standing" "_party_rows").ok K),
  (fun K => (He.Fa.noat "Standing" "_digits").ok K),
  (fun K => (He.Fa.noat "Standing" "_sights").ok K),
  (fun K => (He.Fa.noat "Standing" "_weights").ok K),
  (fun K => (He.Fa.noat "Standing" "_places").ok K),
  (fun K => (He.Fa.mkr "Standing").ok K),
  (ckOpr "Standing" "__eq__"),
  (ckCl "Standing"),
  (ckNf "Standing" fun _ => .type "NoneType"),
  (ckNf "Standing" fun _ => .type "int"),
  (ckNf "Standing" fun _ => .type "bool"),
  (ckNf "Standing" fun _ => .type "list"),
  (ckNf "Standing" fun _ => .type "tuple"),
  (ckNf "Standing" fun _ => .type "str"),
  (ckNf "Standing" fun K => .ref (He.ga K "Sight")),
  (ckNf "Standing" fun K => .ref (He.ga K "Standing")),
  (ckSb "Standing" "NoneType"),
  (ckSb "Standing" "int"),
  (ckSb "Standing" "str"),
  (ckSb "Standing" "list"),
  (ckSb "Standing" "tuple"),
  (fun K => (He.Fa.meth "Standing" "_party_triples").ok K),
  (fun K => (He.Fa.meth "Standing" "with_fact").ok K),
  (fun K => (He.Fa.meth "Standing" "with_party").ok K),
  (fun K => (He.Fa.meth "Standing" "without_fact").ok K),
  (fun K => (He.Fa.meth "Standing" "without_party").ok K),
  (fun K => (He.Fa.meth "Standing" "only").ok K),
  (fun K => (He.Fa.meth "Standing" "position").ok K),
  (ckProp "Standing" "key"),
  (ckKw "Standing" "with_party" "weights"),
  (ckIs (fun K => .ref (He.ga K "Sight")) (fun K => .ref (He.ga K "Sight")) true),
  (ckIs (fun K => .ref (He.ga K "Standing")) (fun K => .ref (He.ga K "Sight")) false),
  (ckIs (fun K => .ref (He.ga K "Standing")) (fun K => .ref (He.ga K "Standing")) true),
  (ckIs (fun K => .type "NoneType") (fun K => .ref (He.ga K "Standing")) false),
  (ckIs (fun K => .type "int") (fun K => .ref (He.ga K "Standing")) false),
  (ckIs (fun K => .type "str") (fun K => .ref (He.ga K "Standing")) false),
  (ckIs (fun K => .type "tuple") (fun K => .ref (He.ga K "Standing")) false),
  (ckIs (fun K => .type "list") (fun K => .ref (He.ga K "Standing")) false),
  (ckIs (fun K => .ref (He.ga K "Sight")) (fun K => .ref (He.ga K "Standing")) false),
  (ckIs (fun K => .type "int") (fun K => .type "int") true),
  (ckIs (fun K => .type "int") (fun K => .type "bool") false),
  (ckIs (fun K => .type "tuple") (fun K => .type "tuple") true),
  (ckIs (fun K => .type "bool") (fun K => .type "bool") true),
  (ckIs (fun K => .type "str") (fun K => .type "str") true),
  (ckExm "NoDeals" "DealError" true),
  (ckEC "NoDeals"),
  (ckExm "SizesDiffer" "DealError" true),
  (ckEC "SizesDiffer"),
  (fun K => (He.Fa.exc "NoDeals").ok K),
  (ckOex "SizesDiffer"),
  (ckIni "SizesDiffer"),
  (fun K => (He.Fa.noat "SizesDiffer" "one").ok K),
  (fun K => (He.Fa.noat "SizesDiffer" "two").ok K),
  (fun K => (He.Fa.glo "is_whole").ok K),
  (fun K => (He.Fa.glo "is_digit").ok K),
  (fun K => (He.Fa.glo "is_name").ok K),
  (fun K => (He.Fa.glo "check_name").ok K),
  (fun K => (He.Fa.glo "renumbered").ok K),
  (fun K => (He.Fa.glo "listed_cells").ok K),
  (fun K => (He.Fa.glo "joined_marks").ok K),
  (fun K => (He.Fa.glo "check_sizes").ok K),
  (fun K => (He.Fa.glo "made_standing").ok K),
  (fun K => (He.Fa.glo "picked").ok K),
  (fun K => (He.Fa.glo "check_digits").ok K),
  (fun K => (He.Fa.glo "check_weights").ok K),
  (fun K => (He.Fa.glo "_law_cell").ok K),
  (fun K => (He.Fa.glo "_law_digits").ok K),
  (fun K => (He.Fa.glo "_law_marks").ok K),
  (fun K => (He.Fa.glo "_law_only").ok K),
  (fun K => (He.Fa.glo "_law_name").ok K),
  (fun K => (He.Fa.glo "_law_draw_digits").ok K),
  (fun K => (He.Fa.glo "_law_draw_party").ok K),
  (fun K => (He.Fa.glo "_law_world").ok K),
  (fun K => (He.Fa.glo "_law_moved").ok K),
  (fun K => (He.Fa.glo "_law_renamed").ok K),
  (fun K => (He.Fa.glo "_law_put").ok K),
  (fun K => (He.Fa.glo "_law_varied").ok K),
  (fun K => (He.Fa.glo "_law_fresh").ok K),
  (fun K => (He.Fa.glo "_law_build").ok K),
  (fun K => (He.Fa.glo "_law_plain").ok K),
  (fun K => (He.Fa.glo "_law_equals_nothing_else").ok K),
  (fun K => (He.Fa.glo "law").ok K)]
def fn : List Df := [
  ⟨fun K => He.ma K (He.ga K "SizesDiffer") "__init__", "__init__", "SizesDiffer.__init__", sSizesDifferu__initu_, []⟩,
  ⟨fun K => He.ga K "is_whole", "is_whole", "is_whole", sis_whole, []⟩,
  ⟨fun K => He.ga K "is_digit", "is_digit", "is_digit", sis_digit, []⟩,
  ⟨fun K => He.ga K "is_name", "is_name", "is_name", sis_name, []⟩,
  ⟨fun K => He.ga K "check_name", "check_name", "check_name", scheck_name, []⟩,
  ⟨fun K => He.ga K "renumbered", "renumbered", "renumbered", srenumbered, []⟩,
  ⟨fun K => He.ga K "listed_cells", "listed_cells", "listed_cells", slisted_cells, []⟩,
  ⟨fun K => He.ga K "joined_marks", "joined_marks", "joined_marks", sjoined_marks, []⟩,
  ⟨fun K => He.ga K "check_sizes", "check_sizes", "check_sizes", scheck_sizes, []⟩,
  ⟨fun K => He.ma K (He.ga K "Sight") "__init__", "__init__", "Sight.__init__", sSightu__initu_, []⟩,
  ⟨fun K => He.ma K (He.ga K "Sight") "__eq__", "__eq__", "Sight.__eq__", sSightu__equ_, []⟩,
  ⟨fun K => He.ga K "made_standing", "made_standing", "made_standing", smade_standing, [V.non]⟩,
  ⟨fun K => He.ga K "picked", "picked", "picked", spicked, []⟩,
  ⟨fun K => He.ga K "check_digits", "check_digits", "check_digits", scheck_digits, []⟩,
  ⟨fun K => He.ga K "check_weights", "check_weights", "check_weights", scheck_weights, []⟩,
  ⟨fun K => He.ma K (He.ga K "Standing") "__init__", "__init__", "Standing.__init__", sStandingu__initu_, []⟩,
  ⟨fun K => recAt K "property" "Standing" "key", "key", "Standing.key", sStanding_key, []⟩,
  ⟨fun K => He.ma K (He.ga K "Standing") "_party_triples", "_party_triples", "Standing._party_triples", sStandingu_party_triples, []⟩,
  ⟨fun K => He.ma K (He.ga K "Standing") "with_fact", "with_fact", "Standing.with_fact", sStanding_with_fact, []⟩,
  ⟨fun K => He.ma K (He.ga K "Standing") "with_party", "with_party", "Standing.with_party", sStanding_with_party, []⟩,
  ⟨fun K => He.ma K (He.ga K "Standing") "without_fact", "without_fact", "Standing.without_fact", sStanding_without_fact, []⟩,
  ⟨fun K => He.ma K (He.ga K "Standing") "without_party", "without_party", "Standing.without_party", sStanding_without_party, []⟩,
  ⟨fun K => He.ma K (He.ga K "Standing") "only", "only", "Standing.only", sStanding_only, []⟩,
  ⟨fun K => He.ma K (He.ga K "Standing") "position", "position", "Standing.position", sStanding_position, []⟩,
  ⟨fun K => He.ma K (He.ga K "Standing") "__eq__", "__eq__", "Standing.__eq__", sStandingu__equ_, []⟩,
  ⟨fun K => He.ga K "_law_cell", "_law_cell", "_law_cell", s_law_cell, []⟩,
  ⟨fun K => He.ga K "_law_digits", "_law_digits", "_law_digits", s_law_digits, []⟩,
  ⟨fun K => He.ga K "_law_marks", "_law_marks", "_law_marks", s_law_marks, []⟩,
  ⟨fun K => He.ga K "_law_only", "_law_only", "_law_only", s_law_only, []⟩,
  ⟨fun K => He.ga K "_law_name", "_law_name", "_law_name", s_law_name, []⟩,
  ⟨fun K => He.ga K "_law_draw_digits", "_law_draw_digits", "_law_draw_digits", s_law_draw_digits, []⟩,
  ⟨fun K => He.ga K "_law_draw_party", "_law_draw_party", "_law_draw_party", s_law_draw_party, []⟩,
  ⟨fun K => He.ga K "_law_world", "_law_world", "_law_world", s_law_world, []⟩,
  ⟨fun K => He.ga K "_law_moved", "_law_moved", "_law_moved", s_law_moved, []⟩,
  ⟨fun K => He.ga K "_law_renamed", "_law_renamed", "_law_renamed", s_law_renamed, []⟩,
  ⟨fun K => He.ga K "_law_put", "_law_put", "_law_put", s_law_put, []⟩,
  ⟨fun K => He.ga K "_law_varied", "_law_varied", "_law_varied", s_law_varied, []⟩,
  ⟨fun K => He.ga K "_law_fresh", "_law_fresh", "_law_fresh", s_law_fresh, []⟩,
  ⟨fun K => He.ga K "_law_build", "_law_build", "_law_build", s_law_build, []⟩,
  ⟨fun K => He.ga K "_law_plain", "_law_plain", "_law_plain", s_law_plain, []⟩,
  ⟨fun K => He.ga K "_law_equals_nothing_else", "_law_equals_nothing_else", "_law_equals_nothing_else", s_law_equals_nothing_else, []⟩,
  ⟨fun K => He.ga K "law", "law", "law", slaw, []⟩]
theorem tx_of {K : PySem.W.Frag} {h : Heap} {mg : Str → Option Value} (X : K.In h) (G : h.Ns mainGlobals mg) (c : SaysM fa fn K) : Tx K mg where
  f_len := He.free_ok X G (c.fact 0)
  f_tuple := He.free_ok X G (c.fact 1)
  f_list := He.free_ok X G (c.fact 2)
  f_range := He.free_ok X G (c.fact 3)
  f_enumerate := He.free_ok X G (c.fact 4)
  f_zip := He.free_ok X G (c.fact 5)
  f_int := He.free_ok X G (c.fact 6)
  f_bool := He.free_ok X G (c.fact 7)
  f_str := He.free_ok X G (c.fact 8)
  f_dict := He.free_ok X G (c.fact 9)
  f_set := He.free_ok X G (c.fact 10)
  f_sorted := He.free_ok X G (c.fact 11)
  f_all := He.free_ok X G (c.fact 12)
  f_max := He.free_ok X G (c.fact 13)
  f_isinstance := He.free_ok X G (c.fact 14)
  g_DealError := He.glo_ok X G (c.fact 15)
  g_NoDeals := He.glo_ok X G (c.fact 16)
  g_SizesDiffer := He.glo_ok X G (c.fact 17)
  g_Sight := He.glo_ok X G (c.fact 18)
  g_Standing := He.glo_ok X G (c.fact 19)
  s_LETTERS := He.str_ok X G (c.fact 20)
  s_DIGITS := He.str_ok X G (c.fact 21)
  c_Sight := He.cls_ok (c.fact 22)
  n_size := He.noat_ok (c.fact 23)
  n_marks := He.noat_ok (c.fact 24)
  n_cells := He.noat_ok (c.fact 25)
  k_Sight := He.mkr_ok (c.fact 26)
  o_eq := ckOpr_ok (c.fact 27)
  cl_Sight := ckCl_ok (c.fact 28)
  nf_NoneType := (c.fact 29)
  nf_int := (c.fact 30)
  nf_bool := (c.fact 31)
  nf_list := (c.fact 32)
  nf_tuple := (c.fact 33)
  nf_str := (c.fact 34)
  nf_Sight := (c.fact 35)
  nf_Standing := (c.fact 36)
  c_Standing := He.cls_ok (c.fact 37)
  nt_deals := He.noat_ok (c.fact 38)
  nt_facts := He.noat_ok (c.fact 39)
  nt_parties := He.noat_ok (c.fact 40)
  nt_fact_rows := He.noat_ok (c.fact 41)
  nt_party_rows := He.noat_ok (c.fact 42)
  nt_digits := He.noat_ok (c.fact 43)
  nt_sights := He.noat_ok (c.fact 44)
  nt_weights := He.noat_ok (c.fact 45)
  nt_places := He.noat_ok (c.fact 46)
  k_Standing := He.mkr_ok (c.fact 47)
  os_eq := ckOpr_ok (c.fact 48)
  cl_Standing := ckCl_ok (c.fact 49)
  nft_NoneType := (c.fact 50)
  nft_int := (c.fact 51)
  nft_bool := (c.fact 52)
  nft_list := (c.fact 53)
  nft_tuple := (c.fact 54)
  nft_str := (c.fact 55)
  nft_Sight := (c.fact 56)
  nft_Standing := (c.fact 57)
  sbt_NoneType := of_decide_eq_true (c.fact 58)
  sbt_int := of_decide_eq_true (c.fact 59)
  sbt_str := of_decide_eq_true (c.fact 60)
  sbt_list := of_decide_eq_true (c.fact 61)
  sbt_tuple := of_decide_eq_true (c.fact 62)
  m_party_triples := He.meth_ok (c.fact 63)
  m_with_fact := He.meth_ok (c.fact 64)
  m_with_party := He.meth_ok (c.fact 65)
  m_without_fact := He.meth_ok (c.fact 66)
  m_without_party := He.meth_ok (c.fact 67)
  m_only := He.meth_ok (c.fact 68)
  m_position := He.meth_ok (c.fact 69)
  p_key := ckProp_ok (c.fact 70)
  kw_weights := ckKw_ok (c.fact 71)
  is_Sight_Sight := of_decide_eq_true (c.fact 72)
  is_Standing_Sight := of_decide_eq_true (c.fact 73)
  is_Standing_Standing := of_decide_eq_true (c.fact 74)
  is_NoneType_Standing := of_decide_eq_true (c.fact 75)
  is_int_Standing := of_decide_eq_true (c.fact 76)
  is_str_Standing := of_decide_eq_true (c.fact 77)
  is_tuple_Standing := of_decide_eq_true (c.fact 78)
  is_list_Standing := of_decide_eq_true (c.fact 79)
  is_Sight_Standing := of_decide_eq_true (c.fact 80)
  is_int_int := of_decide_eq_true (c.fact 81)
  is_int_bool := of_decide_eq_true (c.fact 82)
  is_tuple_tuple := of_decide_eq_true (c.fact 83)
  is_bool_bool := of_decide_eq_true (c.fact 84)
  is_str_str := of_decide_eq_true (c.fact 85)
  x_NoDeals := of_decide_eq_true (c.fact 86)
  ec_NoDeals := ckEC_ok (c.fact 87)
  x_SizesDiffer := of_decide_eq_true (c.fact 88)
  ec_SizesDiffer := ckEC_ok (c.fact 89)
  e_NoDeals := He.exc_ok (c.fact 90)
  oe_SizesDiffer := ckOex_ok (c.fact 91)
  ie_SizesDiffer := ckIni_ok (c.fact 92)
  nS_one := He.noat_ok (c.fact 93)
  nS_two := He.noat_ok (c.fact 94)
  gd_is_whole := He.glo_ok X G (c.fact 95)
  gd_is_digit := He.glo_ok X G (c.fact 96)
  gd_is_name := He.glo_ok X G (c.fact 97)
  gd_check_name := He.glo_ok X G (c.fact 98)
  gd_renumbered := He.glo_ok X G (c.fact 99)
  gd_listed_cells := He.glo_ok X G (c.fact 100)
  gd_joined_marks := He.glo_ok X G (c.fact 101)
  gd_check_sizes := He.glo_ok X G (c.fact 102)
  gd_made_standing := He.glo_ok X G (c.fact 103)
  gd_picked := He.glo_ok X G (c.fact 104)
  gd_check_digits := He.glo_ok X G (c.fact 105)
  gd_check_weights := He.glo_ok X G (c.fact 106)
  gd__law_cell := He.glo_ok X G (c.fact 107)
  gd__law_digits := He.glo_ok X G (c.fact 108)
  gd__law_marks := He.glo_ok X G (c.fact 109)
  gd__law_only := He.glo_ok X G (c.fact 110)
  gd__law_name := He.glo_ok X G (c.fact 111)
  gd__law_draw_digits := He.glo_ok X G (c.fact 112)
  gd__law_draw_party := He.glo_ok X G (c.fact 113)
  gd__law_world := He.glo_ok X G (c.fact 114)
  gd__law_moved := He.glo_ok X G (c.fact 115)
  gd__law_renamed := He.glo_ok X G (c.fact 116)
  gd__law_put := He.glo_ok X G (c.fact 117)
  gd__law_varied := He.glo_ok X G (c.fact 118)
  gd__law_fresh := He.glo_ok X G (c.fact 119)
  gd__law_build := He.glo_ok X G (c.fact 120)
  gd__law_plain := He.glo_ok X G (c.fact 121)
  gd__law_equals_nothing_else := He.glo_ok X G (c.fact 122)
  gd_law := He.glo_ok X G (c.fact 123)
  d_SizesDifferu__initu_ := c.def_ 0
  d_is_whole := c.def_ 1
  d_is_digit := c.def_ 2
  d_is_name := c.def_ 3
  d_check_name := c.def_ 4
  d_renumbered := c.def_ 5
  d_listed_cells := c.def_ 6
  d_joined_marks := c.def_ 7
  d_check_sizes := c.def_ 8
  d_Sightu__initu_ := c.def_ 9
  d_Sightu__equ_ := c.def_ 10
  d_made_standing := c.def_ 11
  d_picked := c.def_ 12
  d_check_digits := c.def_ 13
  d_check_weights := c.def_ 14
  d_Standingu__initu_ := c.def_ 15
  d_Standing_key := c.def_ 16
  d_Standingu_party_triples := c.def_ 17
  d_Standing_with_fact := c.def_ 18
  d_Standing_with_party := c.def_ 19
  d_Standing_without_fact := c.def_ 20
  d_Standing_without_party := c.def_ 21
  d_Standing_only := c.def_ 22
  d_Standing_position := c.def_ 23
  d_Standingu__equ_ := c.def_ 24
  d__law_cell := c.def_ 25
  d__law_digits := c.def_ 26
  d__law_marks := c.def_ 27
  d__law_only := c.def_ 28
  d__law_name := c.def_ 29
  d__law_draw_digits := c.def_ 30
  d__law_draw_party := c.def_ 31
  d__law_world := c.def_ 32
  d__law_moved := c.def_ 33
  d__law_renamed := c.def_ 34
  d__law_put := c.def_ 35
  d__law_varied := c.def_ 36
  d__law_fresh := c.def_ 37
  d__law_build := c.def_ 38
  d__law_plain := c.def_ 39
  d__law_equals_nothing_else := c.def_ 40
  d_law := c.def_ 41
theorem Tx.a_is_whole {K : PySem.W.Frag} {mg : Str → Option Value} (T : Tx K mg) : At K mg "is_whole" sis_whole := ⟨T.d_is_whole, T.gd_is_whole⟩
theorem Tx.a_is_digit {K : PySem.W.Frag} {mg : Str → Option Value} (T : Tx K mg) : At K mg "is_digit" sis_digit := ⟨T.d_is_digit, T.gd_is_digit⟩
theorem Tx.a_is_name {K : PySem.W.Frag} {mg : Str → Option Value} (T : Tx K mg) : At K mg "is_name" sis_name := ⟨T.d_is_name, T.gd_is_name⟩
theorem Tx.a_check_name {K : PySem.W.Frag} {mg : Str → Option Value} (T : Tx K mg) : At K mg "check_name" scheck_name := ⟨T.d_check_name, T.gd_check_name⟩
theorem Tx.a_renumbered {K : PySem.W.Frag} {mg : Str → Option Value} (T : Tx K mg) : At K mg "renumbered" srenumbered := ⟨T.d_renumbered, T.gd_renumbered⟩
theorem Tx.a_listed_cells {K : PySem.W.Frag} {mg : Str → Option Value} (T : Tx K mg) : At K mg "listed_cells" slisted_cells := ⟨T.d_listed_cells, T.gd_listed_cells⟩
theorem Tx.a_joined_marks {K : PySem.W.Frag} {mg : Str → Option Value} (T : Tx K mg) : At K mg "joined_marks" sjoined_marks := ⟨T.d_joined_marks, T.gd_joined_marks⟩
theorem Tx.a_check_sizes {K : PySem.W.Frag} {mg : Str → Option Value} (T : Tx K mg) : At K mg "check_sizes" scheck_sizes := ⟨T.d_check_sizes, T.gd_check_sizes⟩
theorem Tx.a_picked {K : PySem.W.Frag} {mg : Str → Option Value} (T : Tx K mg) : At K mg "picked" spicked := ⟨T.d_picked, T.gd_picked⟩
theorem Tx.a_check_digits {K : PySem.W.Frag} {mg : Str → Option Value} (T : Tx K mg) : At K mg "check_digits" scheck_digits := ⟨T.d_check_digits, T.gd_check_digits⟩
theorem Tx.a_check_weights {K : PySem.W.Frag} {mg : Str → Option Value} (T : Tx K mg) : At K mg "check_weights" scheck_weights := ⟨T.d_check_weights, T.gd_check_weights⟩
theorem Tx.a__law_cell {K : PySem.W.Frag} {mg : Str → Option Value} (T : Tx K mg) : At K mg "_law_cell" s_law_cell := ⟨T.d__law_cell, T.gd__law_cell⟩
theorem Tx.a__law_digits {K : PySem.W.Frag} {mg : Str → Option Value} (T : Tx K mg) : At K mg "_law_digits" s_law_digits := ⟨T.d__law_digits, T.gd__law_digits⟩
theorem Tx.a__law_marks {K : PySem.W.Frag} {mg : Str → Option Value} (T : Tx K mg) : At K mg "_law_marks" s_law_marks := ⟨T.d__law_marks, T.gd__law_marks⟩
theorem Tx.a__law_only {K : PySem.W.Frag} {mg : Str → Option Value} (T : Tx K mg) : At K mg "_law_only" s_law_only := ⟨T.d__law_only, T.gd__law_only⟩
theorem Tx.a__law_name {K : PySem.W.Frag} {mg : Str → Option Value} (T : Tx K mg) : At K mg "_law_name" s_law_name := ⟨T.d__law_name, T.gd__law_name⟩
theorem Tx.a__law_draw_digits {K : PySem.W.Frag} {mg : Str → Option Value} (T : Tx K mg) : At K mg "_law_draw_digits" s_law_draw_digits := ⟨T.d__law_draw_digits, T.gd__law_draw_digits⟩
theorem Tx.a__law_draw_party {K : PySem.W.Frag} {mg : Str → Option Value} (T : Tx K mg) : At K mg "_law_draw_party" s_law_draw_party := ⟨T.d__law_draw_party, T.gd__law_draw_party⟩
theorem Tx.a__law_world {K : PySem.W.Frag} {mg : Str → Option Value} (T : Tx K mg) : At K mg "_law_world" s_law_world := ⟨T.d__law_world, T.gd__law_world⟩
theorem Tx.a__law_moved {K : PySem.W.Frag} {mg : Str → Option Value} (T : Tx K mg) : At K mg "_law_moved" s_law_moved := ⟨T.d__law_moved, T.gd__law_moved⟩
theorem Tx.a__law_renamed {K : PySem.W.Frag} {mg : Str → Option Value} (T : Tx K mg) : At K mg "_law_renamed" s_law_renamed := ⟨T.d__law_renamed, T.gd__law_renamed⟩
theorem Tx.a__law_put {K : PySem.W.Frag} {mg : Str → Option Value} (T : Tx K mg) : At K mg "_law_put" s_law_put := ⟨T.d__law_put, T.gd__law_put⟩
theorem Tx.a__law_varied {K : PySem.W.Frag} {mg : Str → Option Value} (T : Tx K mg) : At K mg "_law_varied" s_law_varied := ⟨T.d__law_varied, T.gd__law_varied⟩
theorem Tx.a__law_fresh {K : PySem.W.Frag} {mg : Str → Option Value} (T : Tx K mg) : At K mg "_law_fresh" s_law_fresh := ⟨T.d__law_fresh, T.gd__law_fresh⟩
theorem Tx.a__law_build {K : PySem.W.Frag} {mg : Str → Option Value} (T : Tx K mg) : At K mg "_law_build" s_law_build := ⟨T.d__law_build, T.gd__law_build⟩
theorem Tx.a__law_plain {K : PySem.W.Frag} {mg : Str → Option Value} (T : Tx K mg) : At K mg "_law_plain" s_law_plain := ⟨T.d__law_plain, T.gd__law_plain⟩
theorem Tx.a__law_equals_nothing_else {K : PySem.W.Frag} {mg : Str → Option Value} (T : Tx K mg) : At K mg "_law_equals_nothing_else" s_law_equals_nothing_else := ⟨T.d__law_equals_nothing_else, T.gd__law_equals_nothing_else⟩
theorem Tx.a_law {K : PySem.W.Frag} {mg : Str → Option Value} (T : Tx K mg) : At K mg "law" slaw := ⟨T.d_law, T.gd_law⟩
end K05
set_option Elab.async false
set_option linter.all false
set_option maxRecDepth 100000
set_option maxHeartbeats 4000000
/-! d.setdefault(t, x) where the keys are tuples. -/
namespace Ms
open PySem PySem.Spec PyProof.Rows L2
section
variable {X : Cx} {pins : List (Addr × Obj)} {σ : St} {H : Hp} {s : Shared} {a b : Addr} {r : Value} {d : V} {k : List Key} {A : Around} {E : Value → Shared → Prop}
theorem d_setdT {kvs : List (List Key × V)} {Q : Value → Shared → Prop} (hu : A.units + 1 < cLine) (I : Inv X pins σ H s) (e : H a = some (.dT kvs)) (eb : H b = some (.tup (k.map kV))) (rd : RelV d r) (hl : kvs.length < sizeLine)
    (h1 : ∀ v, valV kvs k = some v → ∀ (w' : Value) (s' : Shared), Inv X pins σ H s' → RelV v w' → Q w' s')
    (h2 : valV kvs k = none → ∀ (w' : Value) (s' : Shared), Inv X pins σ (upd H a (.dT (putK kvs k d))) s' → RelV d w' → Q w' s') :
    wpAny (model X.prog X.w) A (call (.builtin "dict.setdefault") [.ref a, .ref b, r]) Q E s := by
  obtain ⟨z, hd, xs, rel, dd⟩ := dt_of I.hok e
  have hz : xs.length ≤ sizeLine := by rw [← Paired.length rel]; exact z
  refine call_setdefault_heap (hsz := hz) (knd := tupleKind (mixKind X.prog X.w)) (tupleKind_room_in1 hu) (key_of I.hok eb) hd dd (fun p hp => ?_) fun hn h' dd' hs => ?_
  · have q := rel.val k
    rw [hp] at q
    cases q0 : valV kvs k with
    | none =>
      rw [q0] at q
      exact (show False from q).elim
    | some v0 =>
      rw [q0] at q
      exact h1 v0 q0 _ _ (I.tok _) q
  · have q := rel.val k
    rw [hn] at q
    cases q0 : valV kvs k with
    | some v0 =>
      rw [q0] at q
      exact (show False from q).elim
    | none =>
      have hl2 : (putK kvs k d).length ≤ sizeLine := by
        have := length_putK kvs k d
        omega
      obtain ⟨q, es, ep, hq, g2, g3, g4, _, g5⟩ := dd'
      refine h2 q0 _ _ (d_write I (by rw [e]; exact True.intro) hs ⟨q, hq⟩ ⟨hl2, hd, _, (rel.put k eb rd).keeps fun c ys ec => ?_, q, es, ep, hq, g2, g3, g4, g5⟩) rd
      rw [upd_ne (ne_of ec e (fun z => nomatch z))]
      exact ec
end
/-- d.setdefault(y, z), y a tuple -/
def tDSetdT (td ty tx : TE) : TE := fun σ H Q => td σ H fun x H1 => ∃ a, x = .ref a ∧ IsD H1 a ∧ ty σ H1 fun y H2 => tx σ H2 fun z H3 => ∃ (kvs : List (List Key × V)) (k : List Key) (b : Addr), H3 a = some (.dT kvs) ∧ y = .ref b ∧ H3 b = some (.tup (k.map kV)) ∧ kvs.length < sizeLine ∧
  (∀ v, valV kvs k = some v → Q v H3) ∧ (valV kvs k = none → Q z (upd H3 a (.dT (putK kvs k z))))
section
variable {X : Cx} {o e f : Expr} {td ty tx : TE} {apos cpos : Pos}
theorem pe_dsetdT (hu : X.A.units + 1 < cLine) (ho : PE X o td) (he : PE X e ty) (hf : PE X f tx) (m : M2 X o "setdefault" apos e f cpos) : PE X (.Call (.Attribute o "setdefault" apos) [e, f] [] cpos) (tDSetdT td ty tx) := by
  refine ⟨fun pins s σ H Q I h => ?_⟩
  refine wpAny_Call_method m.base m.few m.line PySem.F.plainAttrs_dict PySem.F.slot_dict_setdefault PySem.F.type_dict_setdefault (thn (ho.run pins s σ H _ I h) fun u s1 ⟨x, H1, I1, rx, a, ex, d, q1⟩ => ?_)
  subst ex
  obtain rfl : u = Value.ref a := rx
  obtain ⟨t1, t2, _⟩ := isD_at I1 d
  refine ⟨t1, t2, ?_⟩
  rw [m.trees]
  refine Calls.callWith_builtin rfl (Calls.evalArgs_plain (Calls.spliced_cons (thn (he.run pins s1 σ H1 _ I1 q1) fun iv s2 ⟨y, H2, I2, ry, q2⟩ =>
    Calls.spliced_cons (thn (hf.run pins s2 σ H2 _ I2 q2) fun fv s3 ⟨z, H3, I3, rz, kvs, k, b, ea, ey, eb, hl, q3, q4⟩ => Calls.spliced_nil ?_))))
  subst ey
  obtain rfl : iv = Value.ref b := ry
  exact d_setdT hu I3 ea eb rz hl (fun v hv w' s4 I4 rw' => ⟨v, _, I4, rw', q3 v hv⟩) fun hn w' s4 I4 rw' => ⟨z, _, I4, rw', q4 hn⟩
end
end Ms
set_option Elab.async false
set_option linter.all false
set_option maxRecDepth 100000
set_option maxHeartbeats 4000000
/-! Ms, plain: numbers by first places, cells. -/
namespace Ms
theorem snoc_ind {α : Type} {C : List α → Prop} (h0 : C []) (hs : ∀ l a, C l → C (l ++ [a])) : ∀ l, C l := fun l => by
  have h : ∀ n (l : List α), l.length = n → C l := fun n => by
    induction n with
    | zero => intro l hl; rw [List.length_eq_zero_iff.mp hl]; exact h0
    | succ n ih =>
      intro l hl
      have ne : l ≠ [] := by intro z; rw [z] at hl; cases hl
      rw [← List.dropLast_concat_getLast ne]
      exact hs _ _ (ih _ (by rw [List.length_dropLast, hl]; rfl))
  exact h _ l rfl
section
variable {κ ι : Type} [DecidableEq κ] [DecidableEq ι]
/-- each once, by first places -/
def firsts (ks : List κ) : List κ := ks.foldl (fun acc k => if k ∈ acc then acc else acc ++ [k]) []
def ren (ks : List κ) : List Nat := ks.map fun k => (firsts ks).idxOf k
theorem firsts_nil : firsts ([] : List κ) = [] := rfl
theorem firsts_snoc (ks : List κ) (k : κ) : firsts (ks ++ [k]) = if k ∈ firsts ks then firsts ks else firsts ks ++ [k] := by
  unfold firsts
  rw [List.foldl_append] <;> rfl
theorem mem_firsts (ks : List κ) : ∀ k : κ, k ∈ firsts ks ↔ k ∈ ks := by
  induction ks using snoc_ind with
  | h0 => intro k; simp [firsts_nil]
  | hs l a ih =>
    intro k
    rw [firsts_snoc]
    by_cases h : a ∈ firsts l
    · rw [if_pos h, ih, List.mem_append, List.mem_singleton]
      exact ⟨.inl, fun z => z.elim id fun e => by rw [e]; exact (ih a).mp h⟩
    · rw [if_neg h, List.mem_append, List.mem_append, ih]
theorem firsts_nodup (ks : List κ) : (firsts ks).Nodup := by
  induction ks using snoc_ind with
  | h0 => exact List.nodup_nil
  | hs l a ih =>
    rw [firsts_snoc]
    by_cases h : a ∈ firsts l
    · rw [if_pos h]; exact ih
    · rw [if_neg h]
      exact List.nodup_append.mpr ⟨ih, List.nodup_cons.mpr ⟨List.not_mem_nil, List.nodup_nil⟩, fun x hx y hy e => h (by rw [List.mem_singleton] at hy; rw [← hy, ← e]; exact hx)⟩
theorem firsts_old {l : List κ} {k : κ} (h : k ∈ l) : firsts (l ++ [k]) = firsts l := by rw [firsts_snoc, if_pos ((mem_firsts l k).mpr h)]
theorem firsts_new {l : List κ} {k : κ} (h : ¬ k ∈ l) : firsts (l ++ [k]) = firsts l ++ [k] := by rw [firsts_snoc, if_neg fun z => h ((mem_firsts l k).mp z)]
theorem ix_snoc {l : List κ} {k j : κ} (h : j ∈ l) : (firsts (l ++ [k])).idxOf j = (firsts l).idxOf j := by
  by_cases hk : k ∈ l
  · rw [firsts_old hk]
  · rw [firsts_new hk, List.idxOf_append, if_pos ((mem_firsts l j).mpr h)]
theorem ix_self (l : List κ) (k : κ) : (firsts (l ++ [k])).idxOf k = (firsts l).idxOf k := by
  by_cases hk : k ∈ l
  · rw [firsts_old hk]
  · have hn : ¬ k ∈ firsts l := fun z => hk ((mem_firsts l k).mp z)
    rw [firsts_new hk, List.idxOf_append, if_neg hn, List.idxOf_eq_length hn]
    simp
theorem ren_snoc (l : List κ) (k : κ) : ren (l ++ [k]) = ren l ++ [(firsts l).idxOf k] := by
  unfold ren
  rw [List.map_append, List.map_singleton, ix_self]
  congr 1
  exact List.map_congr_left fun j hj => ix_snoc hj
theorem ren_nil : ren ([] : List κ) = [] := rfl
theorem ren_len (l : List κ) : (ren l).length = l.length := List.length_map ..
theorem ren_at {l : List κ} {i : Nat} {k : κ} (h : l[i]? = some k) : (ren l)[i]? = some ((firsts l).idxOf k) := by
  unfold ren
  rw [List.getElem?_map, h] <;> rfl
theorem ix_lt {l : List κ} {k : κ} (h : k ∈ l) : (firsts l).idxOf k < (firsts l).length := List.idxOf_lt_length_of_mem ((mem_firsts l k).mpr h)
theorem ix_inj {l : List κ} {k j : κ} (hk : k ∈ l) (hj : j ∈ l) (e : (firsts l).idxOf k = (firsts l).idxOf j) : k = j := by
  have h1 := List.getElem_idxOf (ix_lt hk)
  have h2 := List.getElem_idxOf (ix_lt hj)
  rw [← h1, ← h2]
  simp only [e]
/-- the pattern of equal places -/
def Alike (ks : List κ) (js : List ι) : Prop := ks.length = js.length ∧ ∀ (i j : Nat) (a b : κ) (c d : ι), ks[i]? = some a → ks[j]? = some b → js[i]? = some c → js[j]? = some d → (a = b ↔ c = d)
theorem Alike.symm {ks : List κ} {js : List ι} (h : Alike ks js) : Alike js ks := ⟨h.1.symm, fun i j a b c d h1 h2 h3 h4 => (h.2 i j c d a b h3 h4 h1 h2).symm⟩
theorem getE {α : Type} {l : List α} {i : Nat} (h : i < l.length) : l[i]? = some l[i] := List.getElem?_eq_getElem h
theorem ltE {α : Type} {l : List α} {i : Nat} {a : α} (h : l[i]? = some a) : i < l.length := (List.getElem?_eq_some_iff.mp h).1
theorem Alike.trans {μ : Type} [DecidableEq μ] {ks : List κ} {js : List ι} {ms : List μ} (h : Alike ks js) (g : Alike js ms) : Alike ks ms := ⟨h.1.trans g.1, fun i j a b c d h1 h2 h3 h4 => by
  have li : i < js.length := h.1 ▸ ltE h1
  have lj : j < js.length := h.1 ▸ ltE h2
  exact (h.2 i j _ _ _ _ h1 h2 (getE li) (getE lj)).trans (g.2 i j _ _ _ _ (getE li) (getE lj) h3 h4)⟩
theorem alike_ren (l : List κ) : Alike l (ren l) := ⟨(ren_len l).symm, fun i j a b c d h1 h2 h3 h4 => by
  rw [ren_at h1] at h3
  rw [ren_at h2] at h4
  rw [← Option.some.inj h3, ← Option.some.inj h4]
  exact ⟨fun e => by rw [e], fun e => ix_inj (List.mem_of_getElem? h1) (List.mem_of_getElem? h2) e⟩⟩
theorem alike_map {l : List κ} {f : κ → ι} (hf : ∀ a b, f a = f b → a = b) : Alike l (l.map f) := ⟨(List.length_map ..).symm, fun i j a b c d h1 h2 h3 h4 => by
  rw [List.getElem?_map, h1] at h3
  rw [List.getElem?_map, h2] at h4
  rw [← Option.some.inj h3, ← Option.some.inj h4]
  exact ⟨fun e => by rw [e], hf a b⟩⟩
theorem Alike.init {l : List κ} {k : κ} {m : List ι} {j : ι} (h : Alike (l ++ [k]) (m ++ [j])) : Alike l m := by
  obtain ⟨e, h⟩ := h
  have e' : l.length = m.length := by simpa using e
  refine ⟨e', fun p q a b c d h1 h2 h3 h4 => ?_⟩
  have up : ∀ {α : Type} {x : List α} {y a : α} {p : Nat}, x[p]? = some a → (x ++ [y])[p]? = some a := fun {α x y a p} z => by rw [List.getElem?_append_left (ltE z)]; exact z
  exact h p q a b c d (up h1) (up h2) (up h3) (up h4)
theorem ren_alike {ks : List κ} : ∀ {js : List ι}, Alike ks js → ren ks = ren js ∧ (firsts ks).length = (firsts js).length := by
  induction ks using snoc_ind with
  | h0 =>
    intro js h
    have e : js = [] := List.length_eq_zero_iff.mp h.1.symm
    rw [e]
    exact ⟨rfl, rfl⟩
  | hs l k ih =>
    intro js h
    have ne : js ≠ [] := fun z => by have := h.1; rw [z, List.length_append] at this; simp at this
    obtain ⟨m, j, rfl⟩ : ∃ m j, js = m ++ [j] := ⟨_, _, (List.dropLast_concat_getLast ne).symm⟩
    obtain ⟨r1, r2⟩ := ih h.init
    have el : l.length = m.length := h.init.1
    have last1 : (l ++ [k])[l.length]? = some k := by simp
    have last2 : (m ++ [j])[l.length]? = some j := by rw [el]; simp
    have up : ∀ {α : Type} {x : List α} {y a : α} {p : Nat}, x[p]? = some a → (x ++ [y])[p]? = some a := fun {α x y a p} z => by rw [List.getElem?_append_left (ltE z)]; exact z
    rw [ren_snoc, ren_snoc, r1]
    by_cases hk : k ∈ l
    · obtain ⟨p, hp⟩ := List.mem_iff_getElem?.mp hk
      have hp2 : p < m.length := el ▸ ltE hp
      have ej : m[p] = j := (h.2 p l.length k k _ _ (up hp) last1 (up (getE hp2)) last2).mp rfl
      have gj : m[p]? = some j := by rw [getE hp2, ej]
      have hj : j ∈ m := List.mem_of_getElem? gj
      have a1 := ren_at hp
      have a2 := ren_at gj
      rw [r1, a2] at a1
      rw [firsts_old hk, firsts_old hj, Option.some.inj a1]
      exact ⟨rfl, r2⟩
    · have hj : ¬ j ∈ m := fun z => by
        obtain ⟨p, hp⟩ := List.mem_iff_getElem?.mp z
        have hp2 : p < l.length := el ▸ ltE hp
        have ek : l[p] = k := (h.2 p l.length _ _ j j (up (getE hp2)) last1 (up hp) last2).mpr rfl
        exact hk (ek ▸ List.getElem_mem hp2)
      rw [firsts_new hk, firsts_new hj, List.idxOf_eq_length fun z => hk ((mem_firsts l k).mp z), List.idxOf_eq_length fun z => hj ((mem_firsts m j).mp z), r2]
      exact ⟨rfl, by rw [List.length_append, List.length_append, r2] <;> rfl⟩
theorem ren_ren (l : List κ) : ren (ren l) = ren l := (ren_alike (alike_ren l).symm).1
theorem ren_map {l : List κ} {f : κ → ι} (hf : ∀ a b, f a = f b → a = b) : ren (l.map f) = ren l := (ren_alike (alike_map hf).symm).1
/-- a row of numbers as a sight holds it -/
def Row (r : List Nat) : Prop := ren r = r
theorem row_ren (l : List κ) : Row (ren l) := ren_ren l
theorem firsts_ren (l : List κ) : firsts (ren l) = List.range (firsts l).length := by
  induction l using snoc_ind with
  | h0 => rfl
  | hs l k ih =>
    rw [ren_snoc]
    by_cases hk : k ∈ l
    · rw [firsts_old hk, firsts_old, ih]
      obtain ⟨p, hp⟩ := List.mem_iff_getElem?.mp hk
      exact List.mem_of_getElem? (ren_at hp)
    · have e := List.idxOf_eq_length fun z => hk ((mem_firsts l k).mp z)
      rw [e, firsts_new, ih, firsts_new hk, List.length_append, List.length_singleton, List.range_succ]
      intro z
      rw [← mem_firsts, ih, List.mem_range] at z
      exact Nat.lt_irrefl _ z
theorem ren_lt {l : List κ} {n : Nat} (h : n ∈ ren l) : n < (firsts l).length := by
  rw [← mem_firsts, firsts_ren, List.mem_range] at h
  exact h
theorem firsts_le (l : List κ) : (firsts l).length ≤ l.length := by
  induction l using snoc_ind with
  | h0 => exact Nat.le_refl _
  | hs l k ih =>
    rw [firsts_snoc, List.length_append, List.length_singleton]
    by_cases h : k ∈ firsts l
    · rw [if_pos h]; omega
    · rw [if_neg h, List.length_append, List.length_singleton]; omega
/-- where m stands -/
def places (m : κ) (ks : List κ) : List Nat := (List.range ks.length).filter fun i => decide (ks[i]? = some m)
def cellsOf (ks : List κ) : List (List Nat) := (firsts ks).map fun m => places m ks
theorem places_snoc (m : κ) (l : List κ) (k : κ) : places m (l ++ [k]) = if m = k then places m l ++ [l.length] else places m l := by
  unfold places
  rw [List.length_append, List.length_singleton, List.range_succ, List.filter_append]
  have e : (List.range l.length).filter (fun i => decide ((l ++ [k])[i]? = some m)) = (List.range l.length).filter fun i => decide (l[i]? = some m) := by
    refine List.filter_congr fun i hi => ?_
    rw [List.getElem?_append_left (List.mem_range.mp hi)]
  rw [e]
  by_cases h : m = k
  · rw [if_pos h, h]; simp
  · rw [if_neg h]
    have : ¬ k = m := fun z => h z.symm
    simp [this]
theorem places_out {m : κ} {l : List κ} (h : ¬ m ∈ l) : places m l = [] := by
  unfold places
  rw [List.filter_eq_nil_iff]
  intro i _
  simp only [decide_eq_true_eq]
  exact fun z => h (List.mem_of_getElem? z)
end
end Ms
set_option Elab.async false
set_option linter.all false
set_option maxRecDepth 100000
set_option maxHeartbeats 4000000
/-! Ms, plain: cells joined where they meet. -/
namespace Ms
inductive Eqv (G : Nat → Nat → Prop) : Nat → Nat → Prop where
  | of {a b : Nat} (h : G a b) : Eqv G a b
  | refl (a : Nat) : Eqv G a a
  | symm {a b : Nat} (h : Eqv G a b) : Eqv G b a
  | trans {a b c : Nat} (h : Eqv G a b) (g : Eqv G b c) : Eqv G a c
theorem Eqv.mono {G G' : Nat → Nat → Prop} (h : ∀ p q, G p q → Eqv G' p q) {a b : Nat} (e : Eqv G a b) : Eqv G' a b := by
  induction e with
  | of g => exact h _ _ g
  | refl a => exact .refl a
  | symm _ ih => exact ih.symm
  | trans _ _ i1 i2 => exact i1.trans i2
/-- two classes made one -/
def Mg (R : Nat → Nat → Prop) (u i a b : Nat) : Prop := R a b ∨ (R a u ∧ R i b) ∨ (R a i ∧ R u b)
theorem eqv_step {G G' : Nat → Nat → Prop} {u i : Nat} (h1 : ∀ p q, G p q → Eqv G' p q) (h2 : Eqv G' u i) (h3 : ∀ p q, G' p q → Mg (Eqv G) u i p q) (a b : Nat) : Eqv G' a b ↔ Mg (Eqv G) u i a b := by
  constructor
  · intro e
    induction e with
    | of g => exact h3 _ _ g
    | refl a => exact .inl (.refl a)
    | symm _ ih =>
      rcases ih with h | ⟨h, k⟩ | ⟨h, k⟩
      · exact .inl h.symm
      · exact .inr (.inr ⟨k.symm, h.symm⟩)
      · exact .inr (.inl ⟨k.symm, h.symm⟩)
    | trans _ _ i1 i2 =>
      rcases i1 with h | ⟨h, k⟩ | ⟨h, k⟩
      · rcases i2 with h' | ⟨h', k'⟩ | ⟨h', k'⟩
        · exact .inl (h.trans h')
        · exact .inr (.inl ⟨h.trans h', k'⟩)
        · exact .inr (.inr ⟨h.trans h', k'⟩)
      · rcases i2 with h' | ⟨h', k'⟩ | ⟨h', k'⟩
        · exact .inr (.inl ⟨h, k.trans h'⟩)
        · exact .inr (.inl ⟨h, k'⟩)
        · exact .inl (h.trans k')
      · rcases i2 with h' | ⟨h', k'⟩ | ⟨h', k'⟩
        · exact .inr (.inr ⟨h, k.trans h'⟩)
        · exact .inl (h.trans k')
        · exact .inr (.inr ⟨h, k'⟩)
  · have up : ∀ {p q}, Eqv G p q → Eqv G' p q := fun {p q} e => e.mono h1
    rintro (h | ⟨h, k⟩ | ⟨h, k⟩)
    · exact up h
    · exact ((up h).trans h2).trans (up k)
    · exact ((up h).trans h2.symm).trans (up k)
section
variable {κ ι : Type} [DecidableEq κ] [DecidableEq ι]
/-- places below m alike in one, places below n alike in two -/
def Gn (one : List κ) (m : Nat) (two : List ι) (n : Nat) (p q : Nat) : Prop := (p < m ∧ q < m ∧ one[p]? = one[q]?) ∨ (p < n ∧ q < n ∧ two[p]? = two[q]?)
theorem gn_swap {one : List κ} {two : List ι} {m n p q : Nat} : Gn one m two n p q ↔ Gn two n one m p q := Or.comm
/-- the first place of x -/
def ix1 (two : List ι) (x : ι) : Nat := two.idxOf x
theorem idx_first {two : List ι} {i : Nat} {x : ι} (h : two[i]? = some x) : ix1 two x ≤ i ∧ two[ix1 two x]? = some x := by
  unfold ix1
  have hx : x ∈ two := List.mem_of_getElem? h
  have l := List.idxOf_lt_length_of_mem hx
  refine ⟨?_, by rw [getE l, List.getElem_idxOf l]⟩
  rcases Nat.lt_or_ge i (two.idxOf x) with g | g
  · exfalso
    have q := List.not_of_lt_findIdx (p := fun y => y == x) (xs := two) (i := i) (by unfold List.idxOf at g; exact g)
    have li := ltE h
    rw [getE li] at h
    rw [Option.some.inj h] at q
    simp at q
  · exact g
/-- one more place of two -/
theorem gn_two {one : List κ} {two : List ι} {m i : Nat} {x : ι} (h : two[i]? = some x) (a b : Nat) : Eqv (Gn one m two (i + 1)) a b ↔ Mg (Eqv (Gn one m two i)) (ix1 two x) i a b := by
  obtain ⟨l, e⟩ := idx_first h
  refine eqv_step (fun p q g => .of ?_) (.of (.inr ⟨by omega, by omega, by rw [e, h]⟩)) (fun p q g => ?_) a b
  · rcases g with ⟨h1, h2, h3⟩ | ⟨h1, h2, h3⟩
    · exact .inl ⟨h1, h2, h3⟩
    · exact .inr ⟨by omega, by omega, h3⟩
  · rcases g with ⟨h1, h2, h3⟩ | ⟨h1, h2, h3⟩
    · exact .inl (.of (.inl ⟨h1, h2, h3⟩))
    · have key : ∀ q, q < i → two[q]? = some x → Eqv (Gn one m two i) (ix1 two x) q := fun q hq hx => by
        obtain ⟨l2, _⟩ := idx_first hx
        exact .of (.inr ⟨by omega, hq, by rw [e, hx]⟩)
      rcases Nat.lt_or_ge p i with hp | hp
      · rcases Nat.lt_or_ge q i with hq | hq
        · exact .inl (.of (.inr ⟨hp, hq, h3⟩))
        · have eq : q = i := by omega
          subst eq
          exact .inr (.inl ⟨(key p hp (by rw [h3, h])).symm, .refl _⟩)
      · have ep : p = i := by omega
        subst ep
        rcases Nat.lt_or_ge q p with hq | hq
        · exact .inr (.inr ⟨.refl _, key q hq (by rw [← h3, h])⟩)
        · have eq : q = p := by omega
          rw [eq]
          exact .inl (.refl _)
theorem gn_one {one : List κ} {two : List ι} {n i : Nat} {x : κ} (h : one[i]? = some x) (a b : Nat) : Eqv (Gn one (i + 1) two n) a b ↔ Mg (Eqv (Gn one i two n)) (ix1 one x) i a b := by
  have sw : ∀ m a b, Eqv (Gn one m two n) a b ↔ Eqv (Gn two n one m) a b := fun m a b => ⟨fun e => e.mono fun p q g => .of (gn_swap.mp g), fun e => e.mono fun p q g => .of (gn_swap.mpr g)⟩
  rw [sw, gn_two h]
  unfold Mg
  rw [← sw, ← sw, ← sw, ← sw, ← sw]
/-- the places that both rows join -/
def Jn (one : List κ) (two : List ι) (a b : Nat) : Prop := Eqv (Gn one one.length two two.length) a b
theorem jn_swap {one : List κ} {two : List ι} {a b : Nat} : Jn one two a b ↔ Jn two one a b :=
  ⟨fun e => e.mono fun p q g => .of (gn_swap.mp g), fun e => e.mono fun p q g => .of (gn_swap.mpr g)⟩
/-- a row whose places are alike where the two rows are joined -/
def Joins {μ : Type} (one : List κ) (two : List ι) (r : List μ) : Prop := r.length = one.length ∧ ∀ (i j : Nat) (a b : μ), r[i]? = some a → r[j]? = some b → (a = b ↔ Jn one two i j)
theorem Joins.alike {μ ν : Type} [DecidableEq μ] [DecidableEq ν] {one : List κ} {two : List ι} {r : List μ} {t : List ν} (h : Joins one two r) (g : Joins one two t) : Alike r t := ⟨h.1.trans g.1.symm, fun i j a b c d h1 h2 h3 h4 => (h.2 i j a b h1 h2).trans (g.2 i j c d h3 h4).symm⟩
theorem Joins.swap {μ : Type} {one : List κ} {two : List ι} {r : List μ} (e : one.length = two.length) (h : Joins one two r) : Joins two one r := ⟨h.1.trans e, fun i j a b h1 h2 => (h.2 i j a b h1 h2).trans jn_swap⟩
theorem Joins.ren {μ : Type} [DecidableEq μ] {one : List κ} {two : List ι} {r : List μ} (h : Joins one two r) : Joins one two (Ms.ren r) := by
  refine ⟨(ren_len r).trans h.1, fun i j a b h1 h2 => ?_⟩
  have l1 : i < r.length := by rw [← ren_len r]; exact ltE h1
  have l2 : j < r.length := by rw [← ren_len r]; exact ltE h2
  exact ((alike_ren r).2 i j _ _ _ _ (getE l1) (getE l2) h1 h2).symm.trans (h.2 i j _ _ (getE l1) (getE l2))
/-- where one is at least as fine, the join is two -/
theorem joins_fine {one : List κ} {two : List ι} (e : one.length = two.length) (h : ∀ (i j : Nat) (a : κ) (c d : ι), one[i]? = some a → one[j]? = some a → two[i]? = some c → two[j]? = some d → c = d) : Joins one two two := by
  refine ⟨e.symm, fun i j a b h1 h2 => ⟨fun z => .of (.inr ⟨ltE h1, ltE h2, by rw [h1, h2, z]⟩), fun z => ?_⟩⟩
  have key : ∀ {p q}, Jn one two p q → two[p]? = two[q]? := fun {p q} z => by
    induction z with
    | of g =>
      rcases g with ⟨g1, g2, g3⟩ | ⟨_, _, g3⟩
      · rw [getE g1, getE g2] at g3
        have k1 := getE (e ▸ g1 : _ < two.length)
        have k2 := getE (e ▸ g2 : _ < two.length)
        rw [k1, k2, h _ _ _ _ _ (getE g1) (by rw [getE g2]; exact g3.symm) k1 k2]
      · exact g3
    | refl a => rfl
    | symm _ ih => exact ih.symm
    | trans _ _ i1 i2 => exact i1.trans i2
  have q := key z
  rw [h1, h2] at q
  exact Option.some.inj q
end
/-! ### the forest of bosses -/
def at0 (l : List Nat) (i : Nat) : Nat := l.getD i 0
theorem at0_of {l : List Nat} {i x : Nat} (h : l[i]? = some x) : at0 l i = x := by
  unfold at0
  rw [List.getD_eq_getElem?_getD, h] <;> rfl
theorem of_at0 {l : List Nat} {i : Nat} (h : i < l.length) : l[i]? = some (at0 l i) := by
  rw [at0_of (getE h)]
  exact getE h
theorem at0_set {l : List Nat} {i v : Nat} (h : i < l.length) (x : Nat) : at0 (l.set i v) x = if x = i then v else at0 l x := by
  unfold at0
  rw [List.getD_eq_getElem?_getD, List.getD_eq_getElem?_getD, List.getElem?_set]
  by_cases e : i = x
  · subst e
    rw [if_pos rfl, if_pos rfl, if_pos h] <;> rfl
  · rw [if_neg e, if_neg fun z => e z.symm]
structure Forest (bs : List Nat) (r dp : Nat → Nat) : Prop where
  lt : ∀ x, x < bs.length → at0 bs x < bs.length
  up : ∀ x, x < bs.length → r (at0 bs x) = r x
  fix : ∀ x, x < bs.length → at0 bs x = x → r x = x
  dec : ∀ x, x < bs.length → at0 bs x ≠ x → dp (at0 bs x) < dp x
theorem Forest.root {bs : List Nat} {r dp : Nat → Nat} (F : Forest bs r dp) : ∀ (n x : Nat), dp x ≤ n → x < bs.length → r x < bs.length ∧ at0 bs (r x) = r x ∧ r (r x) = r x := by
  intro n
  induction n with
  | zero =>
    intro x hn hx
    by_cases e : at0 bs x = x
    · have q := F.fix x hx e
      rw [q]
      exact ⟨hx, e, q⟩
    · have := F.dec x hx e
      omega
  | succ n ih =>
    intro x hn hx
    by_cases e : at0 bs x = x
    · have q := F.fix x hx e
      rw [q]
      exact ⟨hx, e, q⟩
    · have h1 := F.dec x hx e
      rw [← F.up x hx]
      exact ih _ (by omega) (F.lt x hx)
/-- each its own boss -/
theorem forest_range (n : Nat) : Forest (List.range n) (fun x => x) (fun _ => 0) := by
  have e : ∀ x, x < (List.range n).length → at0 (List.range n) x = x := fun x h => at0_of (by rw [List.length_range] at h; exact List.getElem?_range h)
  exact ⟨fun x h => by rw [e x h]; exact h, fun x h => e x h, fun x _ _ => rfl, fun x h z => absurd (e x h) z⟩
/-- the path halved at x -/
theorem Forest.half {bs : List Nat} {r dp : Nat → Nat} (F : Forest bs r dp) {x : Nat} (hx : x < bs.length) (e : at0 bs x ≠ x) : Forest (bs.set x (at0 bs (at0 bs x))) r dp := by
  have l1 := F.lt x hx
  have d1 := F.dec x hx e
  have d2 : dp (at0 bs (at0 bs x)) ≤ dp (at0 bs x) := by
    by_cases z : at0 bs (at0 bs x) = at0 bs x
    · rw [z]; exact Nat.le_refl _
    · exact Nat.le_of_lt (F.dec _ l1 z)
  refine ⟨fun y hy => ?_, fun y hy => ?_, fun y hy => ?_, fun y hy => ?_⟩
  all_goals rw [List.length_set] at hy
  · rw [List.length_set, at0_set hx]
    by_cases z : y = x
    · rw [if_pos z]; exact F.lt _ l1
    · rw [if_neg z]; exact F.lt y hy
  · rw [at0_set hx]
    by_cases z : y = x
    · rw [if_pos z, F.up _ l1, F.up x hx, z]
    · rw [if_neg z]; exact F.up y hy
  · rw [at0_set hx]
    by_cases z : y = x
    · rw [if_pos z]
      intro q
      rw [q, z] at d2
      omega
    · rw [if_neg z]; exact F.fix y hy
  · rw [at0_set hx]
    by_cases z : y = x
    · rw [if_pos z, z]
      intro _
      omega
    · rw [if_neg z]; exact F.dec y hy
/-- the root hi gets the boss lo, a root -/
theorem Forest.link {bs : List Nat} {r dp : Nat → Nat} (F : Forest bs r dp) {lo hi : Nat} (h1 : lo < bs.length) (h2 : hi < bs.length) (e1 : at0 bs lo = lo) (e2 : at0 bs hi = hi) :
    ∃ r' dp', Forest (bs.set hi lo) r' dp' ∧ ∀ x, x < bs.length → r' x = if r x = hi then lo else r x := by
  have f1 := F.fix lo h1 e1
  have f2 := F.fix hi h2 e2
  by_cases z : lo = hi
  · refine ⟨r, dp, ?_, fun x _ => ?_⟩
    · have q : bs.set hi lo = bs := by
        refine List.ext_getElem? fun j => ?_
        rw [List.getElem?_set]
        by_cases w : hi = j
        · subst w
          rw [if_pos rfl, if_pos h2, of_at0 h2, e2, z]
        · rw [if_neg w]
      rw [q]
      exact F
    · by_cases w : r x = hi
      · rw [if_pos w, w, z]
      · rw [if_neg w]
  · refine ⟨fun x => if r x = hi then lo else r x, fun x => if r x = hi then dp x + dp lo + 1 else dp x, ⟨fun y hy => ?_, fun y hy => ?_, fun y hy => ?_, fun y hy => ?_⟩, fun x _ => rfl⟩
    all_goals rw [List.length_set] at hy
    · rw [List.length_set, at0_set h2]
      by_cases w : y = hi
      · rw [if_pos w]; exact h1
      · rw [if_neg w]; exact F.lt y hy
    · rw [at0_set h2]
      by_cases w : y = hi
      · rw [if_pos w, w, f1, f2, if_pos rfl, if_neg z]
      · rw [if_neg w, F.up y hy]
    · rw [at0_set h2]
      by_cases w : y = hi
      · rw [if_pos w]
        intro q
        exact absurd (q.trans w) z
      · rw [if_neg w]
        intro q
        have k := F.fix y hy q
        rw [k, if_neg w]
    · rw [at0_set h2]
      by_cases w : y = hi
      · rw [if_pos w, w, f1, f2, if_pos rfl, if_neg z]
        intro _
        omega
      · rw [if_neg w, F.up y hy]
        intro q
        have k := F.dec y hy q
        by_cases v : r y = hi
        · rw [if_pos v, if_pos v]; omega
        · rw [if_neg v, if_neg v]; exact k
end Ms
set_option Elab.async false
set_option linter.all false
/-! rows and how many cells they have. -/
namespace Ms
open PySem PySem.Spec PyProof.Rows L2
theorem pair_of {α β : Type} {F : α → β → Prop} : ∀ {xs : List α} {ys : List β}, xs.length = ys.length → (∀ (i : Nat) (x : α) (y : β), xs[i]? = some x → ys[i]? = some y → F x y) → Paired F xs ys
  | [], [], _, _ => .nil
  | [], _ :: _, h, _ => by cases h
  | _ :: _, [], h, _ => by cases h
  | x :: xs, y :: ys, h, k => .cons (k 0 x y rfl rfl) (pair_of (Nat.succ.inj h) fun i a b h1 h2 => k (i + 1) a b h1 h2)
/-- how many cells -/
def cnt (r : List Nat) : Nat := (firsts r).length
theorem row_firsts {r : List Nat} (h : Row r) : firsts r = List.range (cnt r) := by
  have q := firsts_ren r
  rw [show ren r = r from h] at q
  exact q
theorem row_cells {r : List Nat} (h : Row r) : cellsOf r = (List.range (cnt r)).map fun m => places m r := by
  unfold cellsOf
  rw [row_firsts h]
theorem row_mem {r : List Nat} (h : Row r) {m : Nat} : m ∈ r ↔ m < cnt r := by rw [← mem_firsts, row_firsts h, List.mem_range]
theorem places_len {κ : Type} [DecidableEq κ] (m : κ) (l : List κ) : (places m l).length ≤ l.length := by
  unfold places
  exact Nat.le_trans (List.length_filter_le _ _) (by rw [List.length_range]; exact Nat.le_refl _)
end Ms
set_option Elab.async false
set_option linter.all false
set_option maxRecDepth 100000
set_option maxHeartbeats 4000000
namespace K05
open PySem PySem.Spec PyProof.Rows L2 Ms
def nV (ns : List Nat) : List V := ns.map fun n => V.int (n : Nat)
theorem nV_at {l : List Nat} {i x : Nat} (h : l[i]? = some x) : (nV l)[i]? = some (.int (x : Nat)) := by
  unfold nV
  rw [List.getElem?_map, h] <;> rfl
theorem nV_at0 {l : List Nat} {i : Nat} (h : i < l.length) : (nV l)[i]? = some (.int (at0 l i : Nat)) := nV_at (of_at0 h)
theorem nV_len (l : List Nat) : (nV l).length = l.length := List.length_map ..
theorem nV_int (r : List Nat) : nV r = (r.map fun n => ((n : Nat) : Int)).map V.int := by
  unfold nV
  rw [List.map_map] <;> rfl
theorem nV_snoc (l : List Nat) (d : Nat) : nV l ++ [V.int (d : Nat)] = nV (l ++ [d]) := by
  unfold nV
  rw [List.map_append] <;> rfl
theorem fewS {n : Nat} (h : n < 16777216) : n < sizeLine := Nat.lt_of_lt_of_le h (by decide)
theorem same_new {H : Hp} {p : Addr} {o : HO} (h : H p = none) : Same H (upd H p o) := fun b q e => by
  rw [upd_ne (fun z => by rw [z, h] at e; cases e)]
  exact e
def pairV (p : Int × Int) : HO := .tup [.int p.1, .int p.2]
/-- numbers in a list or a tuple; pairs of numbers in a list -/
@[irreducible] def spRen (K : PySem.W.Frag) : Sp := fun vs H Q _ => ∃ a xs r, vs = [.ref a] ∧ xs.length ≤ sizeLine ∧
  ((∃ ns : List Int, xs = ns.map V.int ∧ r = ren ns ∧ (SqL K H a xs ∨ SqT K H a xs) ∧ ∀ H' p, Same H H' → H p = none → H' p = some (.tup (nV r)) → Q (.ref p) H') ∨
  ∃ (ts : List Addr) (ps : List (Int × Int)), xs = ts.map V.ref ∧ r = ren ps ∧ Paired (fun t p => H t = some (pairV p)) ts ps ∧ SqL K H a xs ∧ ∀ H' p, Same H H' → H p = none → H' p = some (.tup (nV r)) → Q (.ref p) H')
section
variable {κ : Type} [DecidableEq κ]
def tbl (ks : List κ) : List (κ × V) := ks.zipIdx.map fun p => (p.1, .int (p.2 : Nat))
theorem tbl_len (ks : List κ) : (tbl ks).length = ks.length := by simp [tbl]
theorem tbl_snoc (ks : List κ) (k : κ) : tbl (ks ++ [k]) = tbl ks ++ [(k, .int (ks.length : Nat))] := by simp [tbl, List.zipIdx_append]
theorem valV_tbl (ks : List κ) (k : κ) : valV (tbl ks) k = if k ∈ ks then some (.int (ks.idxOf k : Nat)) else none := by
  induction ks using snoc_ind with
  | h0 => rfl
  | hs l a ih =>
    rw [tbl_snoc]
    by_cases hk : k ∈ l
    · rw [if_pos hk] at ih
      rw [if_pos (List.mem_append_left _ hk), List.idxOf_append, if_pos hk]
      unfold valV at ih ⊢
      rw [List.find?_append]
      cases h : (tbl l).find? fun kv => decide (kv.1 = k) with
      | none => rw [h] at ih; cases ih
      | some q => rw [h] at ih; exact ih
    · rw [if_neg hk] at ih
      have h : (tbl l).find? (fun kv => decide (kv.1 = k)) = none := by
        unfold valV at ih
        exact Option.map_eq_none_iff.mp ih
      unfold valV
      rw [List.find?_append, h, List.idxOf_append, if_neg hk]
      by_cases e : a = k
      · subst e; simp
      · have e2 : ¬ k = a := fun z => e z.symm
        simp [e, e2, hk]
end
theorem int_inl (a b : Int) (h : (Sum.inl a : Key) = Sum.inl b) : a = b := Sum.inl.inj h
theorem Same.new2 {H : Hp} {d l : Addr} {o u : HO} (hd : H d = none) (hl : H l = none) : Same H (upd (upd H d o) l u) := fun b q e => by
  rw [upd_ne (fun z => by rw [z, hl] at e; cases e), upd_ne (fun z => by rw [z, hd] at e; cases e)]
  exact e
theorem ix_out {κ : Type} [DecidableEq κ] {l : List κ} {k : κ} (h : ¬ k ∈ l) : l.idxOf k = l.length := List.idxOf_eq_length h
theorem valV_some {κ : Type} [DecidableEq κ] {ks : List κ} {k : κ} (h : k ∈ ks) : valV (tbl ks) k = some (.int (ks.idxOf k : Nat)) := by rw [valV_tbl, if_pos h]
theorem nV_ren_take {κ : Type} [DecidableEq κ] {ks : List κ} {i : Nat} {k : κ} (h : ks[i]? = some k) : (nV (ren (ks.take i))).length = i := by
  unfold nV
  have := ltE h
  rw [List.length_map, ren_len, List.length_take]
  omega
/-- the loop's state -/
def PR {κ : Type} [DecidableEq κ] (K : PySem.W.Frag) (H : Hp) (a d l : Addr) (xs : List V) (mk : List (κ × V) → HO) (ks : List κ) (i : Nat) (σ : L2.St) (H1 : Hp) : Prop :=
  ∃ m, σ = [some (.ref a), some (.ref d), some (.ref l), m] ∧ Same H H1 ∧ H1 d = some (mk (tbl (firsts (ks.take i)))) ∧ H1 l = some (.lst (nV (ren (ks.take i))))
theorem Same.sqT {K : PySem.W.Frag} {H H' : Hp} {a : Addr} {xs : List V} (e : Same H H') (h : SqT K H a xs) : SqT K H' a xs := by
  rcases h with (h | ⟨o, h⟩) | h
  · exact .inl (.inl (e _ _ h))
  · exact .inl (.inr ⟨o, e _ _ h⟩)
  · exact .inr h
/-- the keys of the row, place by place -/
structure KeyIs {κ : Type} [DecidableEq κ] (F : κ → V → Prop) (xs : List V) (ks : List κ) : Prop where
  len : ks.length = xs.length
  at_ : ∀ (i : Nat) (x : V), xs[i]? = some x → ∃ k : κ, ks[i]? = some k ∧ F k x
theorem kis_int (ns : List Int) : KeyIs (fun k x => x = kV k) (ns.map V.int) (ns.map (Sum.inl : Int → Key)) := by
  refine ⟨by simp, fun i x hx => ?_⟩
  rw [List.getElem?_map] at hx
  cases e : ns[i]? with
  | none => rw [e] at hx; cases hx
  | some n =>
    rw [e] at hx
    cases hx
    exact ⟨.inl n, by rw [List.getElem?_map, e] <;> rfl, rfl⟩
abbrev kp (p : Int × Int) : List Key := [.inl p.1, .inl p.2]
theorem kp_inj (a b : Int × Int) (e : kp a = kp b) : a = b := by
  simp only [kp, List.cons.injEq, Sum.inl.injEq, and_true] at e
  exact Prod.ext e.1 e.2
theorem kis_pair {H : Hp} {ts : List Addr} {ps : List (Int × Int)} (hp : Paired (fun t p => H t = some (pairV p)) ts ps) : KeyIs (fun k x => ∃ b, x = .ref b ∧ H b = some (.tup (k.map kV))) (ts.map V.ref) (ps.map kp) := by
  refine ⟨by simp [Paired.length hp], fun i x hx => ?_⟩
  rw [List.getElem?_map] at hx
  cases e : ts[i]? with
  | none => rw [e] at hx; cases hx
  | some t =>
    rw [e] at hx
    cases hx
    obtain ⟨p, e2, e3⟩ := LiI.paired_get hp e
    exact ⟨kp p, by rw [List.getElem?_map, e2] <;> rfl, t, rfl, e3⟩
/-- where a key is found in the dict, by the place in the row -/
structure KeyAt {κ : Type} [DecidableEq κ] (H : Hp) (mk : List (κ × V) → HO) (xs : List V) (ks : List κ) : Prop where
  len : ks.length = xs.length
  at_ : ∀ (i : Nat) (x : V), xs[i]? = some x → ∃ k : κ, ks[i]? = some k ∧ (∀ (H1 : Hp) (kvs : List (κ × V)) (d : Addr), Same H H1 → H1 d = some (mk kvs) → DGet H1 d x (valV kvs k)) ∧
    ∀ (H1 : Hp) (kvs : List (κ × V)) (d : Addr) (v : V), Same H H1 → H1 d = some (mk kvs) → kvs.length < sizeLine → DPut H1 d x v (upd H1 d (mk (putK kvs k v)))
theorem key_int (H : Hp) (ns : List Int) : KeyAt H .dK (ns.map V.int) (ns.map (Sum.inl : Int → Key)) := by
  refine ⟨by simp, fun i x hx => ?_⟩
  rw [List.getElem?_map] at hx
  cases e : ns[i]? with
  | none => rw [e] at hx; cases hx
  | some n =>
    rw [e] at hx
    cases hx
    exact ⟨.inl n, by rw [List.getElem?_map, e] <;> rfl, fun H1 kvs d _ h => DGet.k (k := Sum.inl n) h, fun H1 kvs d v _ h hl => DPut.k (k := Sum.inl n) h hl⟩
theorem key_pair {H : Hp} {ts : List Addr} {ps : List (Int × Int)} (hp : Paired (fun t p => H t = some (pairV p)) ts ps) : KeyAt H .dT (ts.map V.ref) (ps.map kp) := by
  refine ⟨by simp [Paired.length hp], fun i x hx => ?_⟩
  rw [List.getElem?_map] at hx
  cases e : ts[i]? with
  | none => rw [e] at hx; cases hx
  | some t =>
    rw [e] at hx
    cases hx
    obtain ⟨p, e2, e3⟩ := LiI.paired_get hp e
    exact ⟨kp p, by rw [List.getElem?_map, e2] <;> rfl, fun H1 kvs d s h => DGet.t (k := kp p) h (s _ _ e3), fun H1 kvs d v s h hl => DPut.t (k := kp p) h (s _ _ e3) hl⟩
section
variable {P : Program} {w : World} {K : PySem.W.Frag} {mg : Str → Option Value} {base : Heap}
theorem ren_KL (T : Tx K mg) {cdv : Value} {A : Around} {outer : List Env} {s : Shared} {H : Hp} {Q : VK} {E : XK} {a : Addr} {xs : List V} {r : List Nat} {ks : List Key} (hr : Rm 0 "renumbered" srenumbered (He.ga K "renumbered") cdv A s)
    (hq0 : SqL K H a xs) (hz : xs.length ≤ sizeLine) (hk0 : KeyIs (fun k x => x = kV k) xs ks) (hr2 : ren ks = r) (hQ : ∀ H' p, Same H H' → H p = none → H' p = some (.tup (nV r)) → Q (.ref p) H') :
    Goal P w K mg base "renumbered" srenumbered ["marks", "numbers", "found", "mark"] (He.ga K "renumbered") cdv A outer s H [.ref a] Q E := by
  have hlen := hk0.len
  have hkey := hk0.at_
  have hq1 : ∀ (H1 : Hp), Same H H1 → SqL K H1 a xs := fun H1 s => Same.seq s hq0
  refine ⟨_, (pss_cons (ps_set (i := 1) screnumbered.nd rfl (by first | exact Or.inl rfl | exact Or.inr rfl) pe_dnewK)
    (pss_cons (ps_set (i := 2) screnumbered.nd rfl (by first | exact Or.inl rfl | exact Or.inr rfl) (pe_lst pa_nil))
    (pss_cons (ps_for PassesOwn.never rfl (pi_list (pv 0)) (pg_name (i := 3) screnumbered.nd rfl (by first | exact Or.inl rfl | exact Or.inr rfl))
    (pss_one (ps_expr (pe_bm PySem.F.plainAttrs_list PySem.F.slot_list_append PySem.F.type_list_append mt_append (pv 2) (pa_cons (pe_dsetd (pv 1) (pv 3) (pe_callB call_lenD (by rfl) T.f_len boot_len (pa_cons (pv 1) pa_nil)) ⟨rfl, rfl, rfl, rfl⟩) pa_nil)))))
    (pss_one (ps_ret (pe_callTy (tupK K) (by rfl) T.f_tuple (by decide +kernel) (pa_cons (pv 2) pa_nil))))))), ?_⟩
  refine fun d hd => ?_
  refine ⟨Nat.zero_le _, fun l hl => ?_⟩
  have hdl : d ≠ l := fun z => by rw [← z, upd_same] at hl; cases hl
  have nl : H l = none := by rw [upd_ne (fun z => hdl z.symm)] at hl; exact hl
  refine ⟨_, rfl, a, rfl, ⟨_, hq1 _ (Same.new2 hd nl)⟩, for_list (xs := xs) (PR K H a d l xs .dK ks) ?_ ?_ ?_ ?_⟩
  · exact ⟨none, rfl, Same.new2 hd nl, by rw [upd_ne hdl, upd_same] <;> rfl, by rw [upd_same] <;> rfl⟩
  · exact fun i σ H1 _ h => by obtain ⟨_, _, h1, _⟩ := h; exact hq1 _ h1
  · intro i x σ H1 hx h
    obtain ⟨m, rfl, s1, e1, e2⟩ := h
    obtain ⟨k, hk, rfl⟩ := hkey i x hx
    have tk : ks.take (i + 1) = ks.take i ++ [k] := by rw [List.take_add_one, hk] <;> rfl
    have li : i < xs.length := ltE hx
    have lt : (tbl (firsts (ks.take i))).length ≤ i := by
      rw [tbl_len]
      exact Nat.le_trans (firsts_le _) (List.length_take_le ..)
    refine ⟨_, rfl, .inl ⟨rfl, _, .inl (.inl e2)⟩, _, rfl, d, rfl, .inl ⟨_, .inl e1⟩, _, rfl, _, rfl, d, _, rfl, e1, _, k, e1, rfl, by omega, fun v hv => ?_, fun hv => ?_⟩
    · rw [valV_tbl] at hv
      by_cases hin : k ∈ firsts (ks.take i)
      · rw [if_pos hin] at hv
        cases hv
        refine ⟨l, _, _, rfl, rfl, e2, by rw [nV_ren_take hk]; omega, ?_⟩
        refine ⟨_, rfl, fun b o q => ?_, ?_, ?_⟩
        · rw [upd_ne (fun z => by rw [z, nl] at q; cases q)]
          exact s1 b o q
        · rw [upd_ne hdl, tk, firsts_old ((mem_firsts _ _).mp hin)]
          exact e1
        · rw [upd_same, tk, ren_snoc]
          simp [nV]
      · rw [if_neg hin] at hv
        cases hv
    · have hin : ¬ k ∈ firsts (ks.take i) := fun z => by rw [valV_tbl, if_pos z] at hv; cases hv
      rw [putK_new _ hv]
      have e2' : ∀ u, upd H1 d u l = some (.lst (nV (ren (ks.take i)))) := fun u => by rw [upd_ne (fun z => hdl z.symm)]; exact e2
      refine ⟨l, _, _, rfl, rfl, e2' _, by rw [nV_ren_take hk]; omega, ?_⟩
      refine ⟨_, rfl, fun b o q => ?_, ?_, ?_⟩
      · rw [upd_ne (fun z => by rw [z, nl] at q; cases q), upd_ne (fun z => by rw [z, hd] at q; cases q)]
        exact s1 b o q
      · rw [upd_ne hdl, upd_same, tk, firsts_new (fun z => hin ((mem_firsts _ _).mpr z)), tbl_snoc, tbl_len]
      · rw [upd_same, tk, ren_snoc, tbl_len, ix_out hin]
        simp [nV]
  · intro σ H1 h
    obtain ⟨m, rfl, s1, e1, e2⟩ := h
    refine ⟨_, rfl, l, _, rfl, .inl ⟨.inl (.inl e2), fun t ht => ?_⟩⟩
    have full : ks.take xs.length = ks := by rw [← hlen]; exact List.take_length
    rw [full, hr2]
    exact hQ _ t (fun b o q => by rw [upd_ne (fun z => by rw [z, s1.free ht] at q; cases q)]; exact s1 b o q) (s1.free ht) (upd_same ..)
theorem ren_TL (T : Tx K mg) {cdv : Value} {A : Around} {outer : List Env} {s : Shared} {H : Hp} {Q : VK} {E : XK} {a : Addr} {xs : List V} {r : List Nat} {ks : List (List Key)} (hr : Rm 0 "renumbered" srenumbered (He.ga K "renumbered") cdv A s)
    (hq0 : SqL K H a xs) (hz : xs.length ≤ sizeLine) (hk0 : KeyIs (fun k x => ∃ b, x = .ref b ∧ H b = some (.tup (k.map kV))) xs ks) (hr2 : ren ks = r) (hQ : ∀ H' p, Same H H' → H p = none → H' p = some (.tup (nV r)) → Q (.ref p) H') :
    Goal P w K mg base "renumbered" srenumbered ["marks", "numbers", "found", "mark"] (He.ga K "renumbered") cdv A outer s H [.ref a] Q E := by
  have hlen := hk0.len
  have hkey := hk0.at_
  have hq1 : ∀ (H1 : Hp), Same H H1 → SqL K H1 a xs := fun H1 s => Same.seq s hq0
  refine ⟨_, (pss_cons (ps_set (i := 1) screnumbered.nd rfl (by first | exact Or.inl rfl | exact Or.inr rfl) pe_dnewT)
    (pss_cons (ps_set (i := 2) screnumbered.nd rfl (by first | exact Or.inl rfl | exact Or.inr rfl) (pe_lst pa_nil))
    (pss_cons (ps_for PassesOwn.never rfl (pi_list (pv 0)) (pg_name (i := 3) screnumbered.nd rfl (by first | exact Or.inl rfl | exact Or.inr rfl))
    (pss_one (ps_expr (pe_bm PySem.F.plainAttrs_list PySem.F.slot_list_append PySem.F.type_list_append mt_append (pv 2) (pa_cons (pe_dsetdT (hu_of hr) (pv 1) (pv 3) (pe_callB call_len_dT (by rfl) T.f_len boot_len (pa_cons (pv 1) pa_nil)) ⟨rfl, rfl, rfl, rfl⟩) pa_nil)))))
    (pss_one (ps_ret (pe_callTy (tupK K) (by rfl) T.f_tuple (by decide +kernel) (pa_cons (pv 2) pa_nil))))))), ?_⟩
  refine fun d hd => ?_
  refine ⟨Nat.zero_le _, fun l hl => ?_⟩
  have hdl : d ≠ l := fun z => by rw [← z, upd_same] at hl; cases hl
  have nl : H l = none := by rw [upd_ne (fun z => hdl z.symm)] at hl; exact hl
  refine ⟨_, rfl, a, rfl, ⟨_, hq1 _ (Same.new2 hd nl)⟩, for_list (xs := xs) (PR K H a d l xs .dT ks) ?_ ?_ ?_ ?_⟩
  · exact ⟨none, rfl, Same.new2 hd nl, by rw [upd_ne hdl, upd_same] <;> rfl, by rw [upd_same] <;> rfl⟩
  · exact fun i σ H1 _ h => by obtain ⟨_, _, h1, _⟩ := h; exact hq1 _ h1
  · intro i x σ H1 hx h
    obtain ⟨m, rfl, s1, e1, e2⟩ := h
    obtain ⟨k, hk, b, rfl, hb⟩ := hkey i x hx
    have tk : ks.take (i + 1) = ks.take i ++ [k] := by rw [List.take_add_one, hk] <;> rfl
    have li : i < xs.length := ltE hx
    have lt : (tbl (firsts (ks.take i))).length ≤ i := by
      rw [tbl_len]
      exact Nat.le_trans (firsts_le _) (List.length_take_le ..)
    refine ⟨_, rfl, .inl ⟨rfl, _, .inl (.inl e2)⟩, _, rfl, d, rfl, .inr ⟨_, .inl e1⟩, _, rfl, _, rfl, d, _, rfl, e1, _, k, b, e1, rfl, s1 _ _ hb, by omega, fun v hv => ?_, fun hv => ?_⟩
    · rw [valV_tbl] at hv
      by_cases hin : k ∈ firsts (ks.take i)
      · rw [if_pos hin] at hv
        cases hv
        refine ⟨l, _, _, rfl, rfl, e2, by rw [nV_ren_take hk]; omega, ?_⟩
        refine ⟨_, rfl, fun b o q => ?_, ?_, ?_⟩
        · rw [upd_ne (fun z => by rw [z, nl] at q; cases q)]
          exact s1 b o q
        · rw [upd_ne hdl, tk, firsts_old ((mem_firsts _ _).mp hin)]
          exact e1
        · rw [upd_same, tk, ren_snoc]
          simp [nV]
      · rw [if_neg hin] at hv
        cases hv
    · have hin : ¬ k ∈ firsts (ks.take i) := fun z => by rw [valV_tbl, if_pos z] at hv; cases hv
      rw [putK_new _ hv]
      have e2' : ∀ u, upd H1 d u l = some (.lst (nV (ren (ks.take i)))) := fun u => by rw [upd_ne (fun z => hdl z.symm)]; exact e2
      refine ⟨l, _, _, rfl, rfl, e2' _, by rw [nV_ren_take hk]; omega, ?_⟩
      refine ⟨_, rfl, fun b o q => ?_, ?_, ?_⟩
      · rw [upd_ne (fun z => by rw [z, nl] at q; cases q), upd_ne (fun z => by rw [z, hd] at q; cases q)]
        exact s1 b o q
      · rw [upd_ne hdl, upd_same, tk, firsts_new (fun z => hin ((mem_firsts _ _).mpr z)), tbl_snoc, tbl_len]
      · rw [upd_same, tk, ren_snoc, tbl_len, ix_out hin]
        simp [nV]
  · intro σ H1 h
    obtain ⟨m, rfl, s1, e1, e2⟩ := h
    refine ⟨_, rfl, l, _, rfl, .inl ⟨.inl (.inl e2), fun t ht => ?_⟩⟩
    have full : ks.take xs.length = ks := by rw [← hlen]; exact List.take_length
    rw [full, hr2]
    exact hQ _ t (fun b o q => by rw [upd_ne (fun z => by rw [z, s1.free ht] at q; cases q)]; exact s1 b o q) (s1.free ht) (upd_same ..)
theorem ren_KT (T : Tx K mg) {cdv : Value} {A : Around} {outer : List Env} {s : Shared} {H : Hp} {Q : VK} {E : XK} {a : Addr} {xs : List V} {r : List Nat} {ks : List Key} (hr : Rm 0 "renumbered" srenumbered (He.ga K "renumbered") cdv A s)
    (hq0 : SqT K H a xs) (hz : xs.length ≤ sizeLine) (hk0 : KeyIs (fun k x => x = kV k) xs ks) (hr2 : ren ks = r) (hQ : ∀ H' p, Same H H' → H p = none → H' p = some (.tup (nV r)) → Q (.ref p) H') :
    Goal P w K mg base "renumbered" srenumbered ["marks", "numbers", "found", "mark"] (He.ga K "renumbered") cdv A outer s H [.ref a] Q E := by
  have hlen := hk0.len
  have hkey := hk0.at_
  have hq1 : ∀ (H1 : Hp), Same H H1 → SqT K H1 a xs := fun H1 s => Same.sqT s hq0
  refine ⟨_, (pss_cons (ps_set (i := 1) screnumbered.nd rfl (by first | exact Or.inl rfl | exact Or.inr rfl) pe_dnewK)
    (pss_cons (ps_set (i := 2) screnumbered.nd rfl (by first | exact Or.inl rfl | exact Or.inr rfl) (pe_lst pa_nil))
    (pss_cons (ps_for PassesOwn.never rfl (pi_tup (pv 0)) (pg_name (i := 3) screnumbered.nd rfl (by first | exact Or.inl rfl | exact Or.inr rfl))
    (pss_one (ps_expr (pe_bm PySem.F.plainAttrs_list PySem.F.slot_list_append PySem.F.type_list_append mt_append (pv 2) (pa_cons (pe_dsetd (pv 1) (pv 3) (pe_callB call_lenD (by rfl) T.f_len boot_len (pa_cons (pv 1) pa_nil)) ⟨rfl, rfl, rfl, rfl⟩) pa_nil)))))
    (pss_one (ps_ret (pe_callTy (tupK K) (by rfl) T.f_tuple (by decide +kernel) (pa_cons (pv 2) pa_nil))))))), ?_⟩
  refine fun d hd => ?_
  refine ⟨Nat.zero_le _, fun l hl => ?_⟩
  have hdl : d ≠ l := fun z => by rw [← z, upd_same] at hl; cases hl
  have nl : H l = none := by rw [upd_ne (fun z => hdl z.symm)] at hl; exact hl
  refine ⟨_, rfl, a, rfl, ⟨_, hq1 _ (Same.new2 hd nl)⟩, for_tup (xs := xs) (PR K H a d l xs .dK ks) ?_ ?_ ?_ ?_⟩
  · exact ⟨none, rfl, Same.new2 hd nl, by rw [upd_ne hdl, upd_same] <;> rfl, by rw [upd_same] <;> rfl⟩
  · exact fun i σ H1 _ h => by obtain ⟨_, _, h1, _⟩ := h; exact hq1 _ h1
  · intro i x σ H1 hx h
    obtain ⟨m, rfl, s1, e1, e2⟩ := h
    obtain ⟨k, hk, rfl⟩ := hkey i x hx
    have tk : ks.take (i + 1) = ks.take i ++ [k] := by rw [List.take_add_one, hk] <;> rfl
    have li : i < xs.length := ltE hx
    have lt : (tbl (firsts (ks.take i))).length ≤ i := by
      rw [tbl_len]
      exact Nat.le_trans (firsts_le _) (List.length_take_le ..)
    refine ⟨_, rfl, .inl ⟨rfl, _, .inl (.inl e2)⟩, _, rfl, d, rfl, .inl ⟨_, .inl e1⟩, _, rfl, _, rfl, d, _, rfl, e1, _, k, e1, rfl, by omega, fun v hv => ?_, fun hv => ?_⟩
    · rw [valV_tbl] at hv
      by_cases hin : k ∈ firsts (ks.take i)
      · rw [if_pos hin] at hv
        cases hv
        refine ⟨l, _, _, rfl, rfl, e2, by rw [nV_ren_take hk]; omega, ?_⟩
        refine ⟨_, rfl, fun b o q => ?_, ?_, ?_⟩
        · rw [upd_ne (fun z => by rw [z, nl] at q; cases q)]
          exact s1 b o q
        · rw [upd_ne hdl, tk, firsts_old ((mem_firsts _ _).mp hin)]
          exact e1
        · rw [upd_same, tk, ren_snoc]
          simp [nV]
      · rw [if_neg hin] at hv
        cases hv
    · have hin : ¬ k ∈ firsts (ks.take i) := fun z => by rw [valV_tbl, if_pos z] at hv; cases hv
      rw [putK_new _ hv]
      have e2' : ∀ u, upd H1 d u l = some (.lst (nV (ren (ks.take i)))) := fun u => by rw [upd_ne (fun z => hdl z.symm)]; exact e2
      refine ⟨l, _, _, rfl, rfl, e2' _, by rw [nV_ren_take hk]; omega, ?_⟩
      refine ⟨_, rfl, fun b o q => ?_, ?_, ?_⟩
      · rw [upd_ne (fun z => by rw [z, nl] at q; cases q), upd_ne (fun z => by rw [z, hd] at q; cases q)]
        exact s1 b o q
      · rw [upd_ne hdl, upd_same, tk, firsts_new (fun z => hin ((mem_firsts _ _).mpr z)), tbl_snoc, tbl_len]
      · rw [upd_same, tk, ren_snoc, tbl_len, ix_out hin]
        simp [nV]
  · intro σ H1 h
    obtain ⟨m, rfl, s1, e1, e2⟩ := h
    refine ⟨_, rfl, l, _, rfl, .inl ⟨.inl (.inl e2), fun t ht => ?_⟩⟩
    have full : ks.take xs.length = ks := by rw [← hlen]; exact List.take_length
    rw [full, hr2]
    exact hQ _ t (fun b o q => by rw [upd_ne (fun z => by rw [z, s1.free ht] at q; cases q)]; exact s1 b o q) (s1.free ht) (upd_same ..)
theorem ok_renumbered (T : Tx K mg) : Ok P w K mg base "renumbered" 1 (spRen K) := by
  refine ok_of T.a_renumbered screnumbered (fun vs H Q E h => ?_) bi_renumbered fun cdv A outer s H vs Q E hr h => ?_
  · unfold spRen at h
    obtain ⟨a, xs, r, rfl, _⟩ := h
    rfl
  unfold spRen at h
  obtain ⟨a, xs, r, rfl, hz, h⟩ := h
  rcases h with ⟨ns, rfl, rfl, hq | hq, hQ⟩ | ⟨ts, ps, rfl, rfl, hp, hq, hQ⟩
  · exact ren_KL T hr hq hz (kis_int ns) (ren_map int_inl) hQ
  · exact ren_KT T hr hq hz (kis_int ns) (ren_map int_inl) hQ
  · exact ren_TL T hr hq hz (kis_pair hp) (ren_map kp_inj) hQ
end
end K05
set_option Elab.async false
set_option linter.all false
set_option maxRecDepth 100000
set_option maxHeartbeats 4000000
/-! max(t) of a tuple of ints. -/
namespace Ms
open PySem PySem.Spec PyProof.Rows L2
section
variable {prog : Program} {w : World} {A : Around} {E : Value → Shared → Prop} {s : Shared} {l : Addr} {xs : Array (Int × Tok)}
theorem max_intTup {Q : Value → Shared → Prop} (hh : A.handled = none) (hl : s.heap.IsTuple l (intItems xs)) (hne : 0 < xs.size)
    (h : ∀ v h' tk, (intItems xs)[argBest (fun i j => decide (numAt xs i > numAt xs j)) (xs.size - 1)]? = some v → (∀ b o, s.heap.get? b = some o → h'.get? b = some o) → Q v { s with heap := h', toks := tk }) :
    wpAny (model prog w) A (call (.builtin "max") [.ref l]) Q E s := by
  have hlt : l < s.heap.objs.size := by obtain ⟨_, e, _⟩ := hl; exact Heap.lt_size e
  refine call_max_walk (wpAny_pyIter_tuple hl ?_)
  refine ⟨_, [_, l], [_], _, _, _, _, rfl, Walks.tuple (A := A.in1) hh _ l (Nat.ne_of_lt hlt) (intItems xs), ⟨⟨_, Heap.get?_push_size _ rfl, rfl, rfl⟩, hl.push _⟩, fun c hc => ?_, by simpa [intItems] using hne, CmpOf.ints_gt (numAt xs) (fun _ _ => intItems_at), fun v h' tk hP hk => ?_⟩
  · show c < (s.heap.push _).objs.size
    rw [Heap.size_push]
    rcases List.mem_cons.mp hc with rfl | hc
    · exact Nat.lt_succ_self _
    · rcases List.mem_cons.mp hc with rfl | hc
      · exact Nat.lt_succ_of_lt hlt
      · cases hc
  · refine h v h' tk (by simpa [intItems] using hP) fun b o e => ?_
    refine hk b o (fun hm => ?_) (Heap.get?_push_of_some _ e)
    rcases List.mem_cons.mp hm with e1 | hm
    · exact absurd (e1 ▸ Heap.lt_size e) (Nat.lt_irrefl _)
    · cases hm
theorem maxT_raw {its : List Value} {ns : List Int} {Q : Value → Shared → Prop} (hh : A.handled = none) (hl : s.heap.IsTuple l its.toArray) (hi : IntsAre its ns) (hne : 0 < ns.length)
    (h : ∀ h' tk M t', (∀ b o, s.heap.get? b = some o → h'.get? b = some o) → M ∈ ns → (∀ a, a ∈ ns → a ≤ M) → Q (.int M t') { s with heap := h', toks := tk }) : wpAny (model prog w) A (call (.builtin "max") [.ref l]) Q E s := by
  obtain ⟨xs, e⟩ := hi.allInts.items
  have hn : numsOf (intItems xs).toList = ns := by rw [← e]; exact hi.numsOf
  rw [nums_intItems] at hn
  subst hn
  rw [e] at hl
  have hsz : 0 < xs.size := by simpa using hne
  refine max_intTup hh hl hsz fun v h' tk hv hk => ?_
  obtain ⟨t, rfl⟩ := intItems_at hv
  obtain ⟨h1, h2⟩ := argBest_gt (numAt xs) (xs.size - 1)
  refine h h' tk _ t hk ?_ fun a ha => ?_
  · rw [numAt_eq]; exact PySem.getD_mem (by rw [List.length_map, Array.length_toList]; omega)
  · obtain ⟨j, hj, rfl⟩ := mem_getD ha
    rw [List.length_map, Array.length_toList] at hj
    rw [← numAt_eq]; exact h2 j (by omega)
end
section
variable {X : Cx}
/-- max of a tuple of ints -/
def rMaxT (K : PySem.W.Frag) : List V → Hp → VK → Prop := fun vs H Q => ∃ (a : Addr) (ns : List Int), vs = [V.ref a] ∧ SqT K H a (ns.map V.int) ∧ 0 < ns.length ∧ ∀ m, m ∈ ns → (∀ y, y ∈ ns → y ≤ m) → Q (.int m) H
theorem maxTK (K : PySem.W.Frag) (e : X.K = K := by rfl) (hc : X.calm = true) : CallR X (.builtin "max") (rMaxT K) := by
  subst e
  intro pins s σ H vs us Q I r h
  obtain ⟨a, ns, rfl, hs, hne, q⟩ := h
  obtain ⟨its, rv, hl, _⟩ := I.tuple hs
  rw [Vals.ref1 r]
  exact maxT_raw (I.ok.hd hc) hl rv.ints hne fun h' tk m t' hk h1 h2 => ⟨.int _, H, I.kept hk, ⟨_, rfl⟩, q m h1 h2⟩
end
end Ms
set_option Elab.async false
set_option linter.all false
set_option maxRecDepth 100000
set_option maxHeartbeats 4000000
namespace K05
open PySem PySem.Spec PyProof.Rows L2 Ms
theorem pimp {α β : Type} {F G : α → β → Prop} : ∀ {xs : List α} {ys : List β}, (∀ x y, x ∈ xs → F x y → G x y) → Paired F xs ys → Paired G xs ys
  | _, _, _, .nil => .nil
  | _, _, h, .cons r t => .cons (h _ _ List.mem_cons_self r) (pimp (fun x y m => h x y (List.mem_cons_of_mem _ m)) t)
theorem psnoc {α β : Type} {F : α → β → Prop} : ∀ {xs : List α} {ys : List β} {x : α} {y : β}, Paired F xs ys → F x y → Paired F (xs ++ [x]) (ys ++ [y])
  | _, _, _, _, .nil, h => .cons h .nil
  | _, _, _, _, .cons r t, h => .cons r (psnoc t h)
/-- the cells' tuple at p -/
def CellsAt (H : Hp) (p : Addr) (cs : List (List Nat)) : Prop := ∃ ts : List Addr, H p = some (.tup (ts.map V.ref)) ∧ Paired (fun t c => H t = some (.tup (nV c))) ts cs
theorem CellsAt.same {H H' : Hp} (s : Same H H') {p : Addr} {cs : List (List Nat)} (h : CellsAt H p cs) : CellsAt H' p cs := let ⟨ts, h1, h2⟩ := h; ⟨ts, s _ _ h1, pimp (fun _ _ _ z => s _ _ z) h2⟩
def spCells (K : PySem.W.Frag) : Sp := fun vs H Q _ => ∃ a r, vs = [.ref a] ∧ SqT K H a (nV r) ∧ r.length ≤ 16777216 ∧ Row r ∧ 0 < r.length ∧ ∀ H' p, Same H H' → H p = none → CellsAt H' p (cellsOf r) → Q (.ref p) H'
section
variable {κ ι : Type} [DecidableEq κ] [DecidableEq ι]
theorem valV_of (g : κ → V) (k : κ) : ∀ ks : List κ, valV (ks.map fun j => (j, g j)) k = if k ∈ ks then some (g k) else none
  | [] => rfl
  | j :: ks => by
    rw [List.map_cons]
    by_cases h : j = k
    · subst h
      rw [valV_pos (p := (j, g j)) rfl, if_pos List.mem_cons_self]
    · have h2 : ¬ k = j := fun z => h z.symm
      rw [valV_neg (p := (j, g j)) h, valV_of g k ks]
      simp [List.mem_cons, h2]
theorem firsts_map {f : κ → ι} (hf : ∀ a b, f a = f b → a = b) (ks : List κ) : firsts (ks.map f) = (firsts ks).map f := by
  induction ks using snoc_ind with
  | h0 => rfl
  | hs l k ih =>
    rw [List.map_append, List.map_singleton, firsts_snoc, firsts_snoc, ih]
    by_cases h : k ∈ firsts l
    · rw [if_pos h, if_pos (List.mem_map_of_mem h)]
    · rw [if_neg h, if_neg, List.map_append, List.map_singleton]
      intro z
      obtain ⟨j, hj, e⟩ := List.mem_map.mp z
      exact h (hf _ _ e ▸ hj)
theorem places_map {f : κ → ι} (hf : ∀ a b, f a = f b → a = b) (m : κ) (ks : List κ) : places (f m) (ks.map f) = places m ks := by
  unfold places
  rw [List.length_map]
  refine List.filter_congr fun i _ => ?_
  rw [List.getElem?_map]
  congr 1
  cases h : ks[i]? with
  | none => simp
  | some k =>
    simp only [Option.map_some, Option.some.injEq, eq_iff_iff]
    exact ⟨hf k m, fun e => by rw [e]⟩
theorem cells_map {f : κ → ι} (hf : ∀ a b, f a = f b → a = b) (ks : List κ) : cellsOf (ks.map f) = cellsOf ks := by
  unfold cellsOf
  rw [firsts_map hf, List.map_map]
  exact List.map_congr_left fun m _ => places_map hf m ks
end
abbrev kn (n : Nat) : Key := .inl (n : Int)
theorem kn_inj (a b : Nat) (h : kn a = kn b) : a = b := by
  have := Sum.inl.inj h
  omega
/-- the cells that are made -/
def PCl (Hf : Hp) (D : Addr) (cs : List (List Nat)) (i : Nat) (H1 : Hp) : Prop :=
  ∃ ts : List Addr, H1 D = some (.lst (ts.map V.ref)) ∧ Paired (fun t c => H1 t = some (.tup (nV c))) ts (cs.take i) ∧ Same Hf H1 ∧ ∀ t ∈ ts, Hf t = none
section
variable {P : Program} {w : World} {K : PySem.W.Frag} {mg : Str → Option Value} {base : Heap}
theorem ok_listed_cells (T : Tx K mg) : Ok P w K mg base "listed_cells" 1 (spCells K) := by
  refine ok_of T.a_listed_cells sclisted_cells (fun vs H Q E h => ?_) bi_listed_cells fun cdv A outer s H vs Q E hr h => ?_
  · obtain ⟨a, r, rfl, _⟩ := h
    rfl
  obtain ⟨a, r, rfl, ha, hz, hrow, hpos, hQ⟩ := h
  have ha1 : ∀ H1 : Hp, Same H H1 → SqT K H1 a (nV r) := fun H1 q => Same.sqT q ha
  refine ⟨_, (pss_cons (ps_setLc (i := 1) (own := [("_", 2)]) (g := gName 2) rfl sclisted_cells.nd rfl rfl (sw_true rfl rfl rfl (by decide +kernel)) (pi_range1 rfl T.f_range (pa_cons (pe_op op_add (pe_callB (maxTK K (hc := rfl)) (by rfl) T.f_max (by decide +kernel) (pa_cons (pv 0) pa_nil)) pe_int) pa_nil)) (blkOk_by (N := ["marks", "found", "_", "deal", "mark", "cell"]) (sc := defScope slisted_cells) (by decide +kernel)) (fun _ _ _ _ _ => (pg_name (i := 2) sclisted_cells.nd rfl (by first | exact Or.inl rfl | exact Or.inr rfl))) (fun _ _ _ _ _ => pts_nil) (fun _ _ _ _ _ => (pe_lst pa_nil)))
  (pss_cons (ps_for PassesOwn.never rfl (pi_enumT (by rfl) T.f_enumerate (pa_cons (pv 0) pa_nil)) (pg_tup rfl (pgs_cons (pg_name (i := 3) sclisted_cells.nd rfl (by first | exact Or.inl rfl | exact Or.inr rfl)) (pgs_cons (pg_name (i := 4) sclisted_cells.nd rfl (by first | exact Or.inl rfl | exact Or.inr rfl)) pgs_nil)))
  (pss_one (ps_expr (pe_bm PySem.F.plainAttrs_list PySem.F.slot_list_append PySem.F.type_list_append mt_append (pe_ix (ixL K) (pv 1) (pv 4) (fun _ _ => rfl)) (pa_cons (pv 3) pa_nil)))))
  (pss_one (ps_ret (pe_callTy (tupK K) (by rfl) T.f_tuple (by decide +kernel) (pa_cons (pe_lc (own := [("cell", 5)]) (g := gName 5) rfl sclisted_cells.nd (pi_list (pv 1)) (blkOk_by (N := ["marks", "found", "_", "deal", "mark", "cell"]) (sc := defScope slisted_cells) (by decide +kernel)) (fun _ _ _ _ _ => (pg_name (i := 5) sclisted_cells.nd rfl (by first | exact Or.inl rfl | exact Or.inr rfl))) (fun _ _ _ _ _ => pts_nil) (fun _ _ _ _ _ => (pe_callTy (tupK K) (by rfl) T.f_tuple (by decide +kernel) (pa_cons (pv 5) pa_nil)))) pa_nil)))))), ?_⟩
  refine ⟨_, rfl, a, r.map fun n => ((n : Nat) : Int), rfl, by rw [← nV_int]; exact ha, by rw [List.length_map]; exact hpos, fun mx hmx hle => ?_⟩
  have cpos : 0 < cnt r := by
    have q : at0 r 0 < cnt r := (row_mem hrow).mp (List.mem_of_getElem? (of_at0 hpos))
    omega
  have ecnt : mx + 1 = (cnt r : Nat) := by
    obtain ⟨n, hn, rfl⟩ := List.mem_map.mp hmx
    have h1 := (row_mem hrow).mp hn
    have h2 := hle (((cnt r - 1 : Nat) : Nat) : Int) (List.mem_map.mpr ⟨_, (row_mem hrow).mpr (by omega), rfl⟩)
    omega
  have cle : cnt r ≤ r.length := firsts_le r
  have big : (16777216 : Nat) ≤ sizeLine := by decide
  refine ⟨_, _, rfl, rfl, _, rfl, by omega, by omega, fun D nD => ?_⟩
  have et : (mx + 1).toNat = cnt r := by omega
  rw [et]
  refine lc_it walk_range (fun i H1 => ∃ ls : List Addr, H1 D = some (.lst (ls.map V.ref)) ∧ ls.length = i ∧ ls.Nodup ∧ Same H H1 ∧ ∀ l ∈ ls, H1 l = some (.lst []) ∧ H l = none) ?_ (fun _ _ _ _ => trivial) ?_ ?_
  · exact ⟨[], upd_same .., rfl, List.nodup_nil, same_new nD, fun l hl => by cases hl⟩
  · rintro i x H1 H2 hi ⟨ls, h1, h2, h3, h4, h5⟩ ⟨rfl, hx⟩
    refine ⟨rfl, Nat.zero_le _, fun l nl => ?_⟩
    have lD : l ≠ D := fun z => by rw [z, h1] at nl; cases nl
    refine ⟨ls.map V.ref, by rw [upd_ne lD.symm]; exact h1, by rw [List.length_map, h2]; omega, ls ++ [l], ?_, by rw [List.length_append, h2, List.length_singleton], ?_, fun b o q => ?_, fun l' hl' => ?_⟩
    · rw [upd_same, List.map_append, List.map_singleton]
    · exact List.nodup_append.mpr ⟨h3, List.nodup_cons.mpr ⟨List.not_mem_nil, List.nodup_nil⟩, fun x hx y hy e => by
        rw [List.mem_singleton.mp hy] at e
        rw [e] at hx
        have q := (h5 l hx).1
        rw [nl] at q
        cases q⟩
    · rw [upd_ne (fun z => by rw [z, nD] at q; cases q)]
      exact same_new nl _ _ (h4 _ _ q)
    · rcases List.mem_append.mp hl' with z | z
      · obtain ⟨q1, q2⟩ := h5 _ z
        refine ⟨?_, q2⟩
        rw [upd_ne (fun e => by rw [e, h1] at q1; cases ls with
          | nil => cases z
          | cons => cases q1)]
        exact same_new nl _ _ q1
      · rw [List.mem_singleton.mp z]
        exact ⟨by rw [upd_ne lD, upd_same], h4.free nl⟩
  · rintro H1 ⟨ls, h1, h2, h3, h4, h5⟩
    have la : ∀ m, m < cnt r → ls[m]? = some (ls.getD m 0) := fun m hm => by
      rw [List.getD_eq_getElem?_getD, getE (by rw [h2]; exact hm)] <;> rfl
    have inj : ∀ m m', m < cnt r → m' < cnt r → ls.getD m 0 = ls.getD m' 0 → m = m' := fun m m' hm hm' e => by
      have q1 := la m hm
      have q2 := la m' hm'
      rw [e] at q1
      exact (List.getElem?_inj (by rw [h2]; exact hm) h3).mp (q1.trans q2.symm)
    have lne : ∀ m, m < cnt r → ls.getD m 0 ≠ D := fun m hm e => by
      have q := (h5 _ (List.mem_of_getElem? (la m hm))).1
      rw [e, h1] at q
      cases ls with
      | nil => rw [← h2] at hm; exact absurd hm (Nat.not_lt_zero _)
      | cons => cases q
    refine ⟨_, rfl, a, nV r, rfl, ha1 _ h4, for_it (walk_enumT (xs := nV r)) (fun i σ H2 => ∃ m3 m4, σ = [some (.ref a), some (.ref D), none, m3, m4, none] ∧ H2 D = some (.lst (ls.map V.ref)) ∧ Same H H2 ∧ ∀ m, m < cnt r → H2 (ls.getD m 0) = some (.lst (nV (places m (r.take i))))) ?_ ?_ ?_ ?_⟩
    · exact ⟨none, none, rfl, h1, h4, fun m hm => (h5 _ (List.mem_of_getElem? (la m hm))).1⟩
    · exact fun i σ H1 _ h => by obtain ⟨_, _, _, _, h1, _⟩ := h; exact ha1 _ h1
    · rintro i v σ H2 H3 hi ⟨m3, m4, rfl, k1, k2, k3⟩ y
      obtain ⟨Tt, x0, x1, rfl, nT, rfl, hx0, hx1⟩ := y
      cases hx0
      have hi : i < r.length := by rw [nV_len] at hi; exact hi
      have ex : x1 = .int (at0 r i : Nat) := by
        have q := nV_at0 hi
        rw [show (nV r)[i]? = some x1 from hx1] at q
        exact Option.some.inj q
      subst ex
      have hm : at0 r i < cnt r := (row_mem hrow).mp (List.mem_of_getElem? (of_at0 hi))
      have s2 : Same H2 (upd H2 Tt (.tup [.int (i : Nat), .int (at0 r i : Nat)])) := same_new nT
      refine ⟨Tt, _, rfl, .inl (.inl (upd_same ..)), rfl, _, _, rfl, _, _, rfl, rfl, ?_⟩
      generalize hH3 : upd H2 Tt (.tup [.int (i : Nat), .int (at0 r i : Nat)]) = H3 at s2
      have g := s2 _ _ (k3 _ hm)
      refine ⟨_, rfl, _, rfl, D, _, _, _, rfl, rfl, .inl (.inl (s2 _ _ k1)), atI_nat (v := .ref (ls.getD (at0 r i) 0)) (by rw [List.getElem?_map, la _ hm] <;> rfl), ?_⟩
      refine ⟨.inl ⟨rfl, _, .inl (.inl g)⟩, _, rfl, _, _, _, rfl, rfl, g, ?_, ?_⟩
      · rw [nV_len]
        have := places_len (at0 r i) (r.take i)
        rw [List.length_take] at this
        omega
      rw [nV_snoc]
      refine ⟨_, _, rfl, by rw [upd_ne (lne _ hm).symm]; exact s2 _ _ k1, fun b o q => ?_, fun m hm' => ?_⟩
      · have q2 := (h5 _ (List.mem_of_getElem? (la _ hm))).2
        rw [upd_ne (fun z => by rw [z, q2] at q; cases q)]
        exact s2 _ _ (k2 _ _ q)
      · have tk : r.take (i + 1) = r.take i ++ [at0 r i] := by rw [List.take_add_one, of_at0 hi] <;> rfl
        rw [tk, places_snoc]
        by_cases e : m = at0 r i
        · rw [if_pos e, e, upd_same, List.length_take]
          have : min i r.length = i := by omega
          rw [this]
        · rw [if_neg e, upd_ne fun z => e (inj _ _ hm' hm z)]
          exact s2 _ _ (k3 _ hm')
    · rintro σ H2 ⟨m3, m4, rfl, k1, k2, k3⟩
      have e3 : ∀ m, m < cnt r → H2 (ls.getD m 0) = some (.lst (nV (places m r))) := fun m hm => by
        have q := k3 m hm
        rw [show r.take (nV r).length = r by rw [nV_len]; exact List.take_length] at q
        exact q
      refine ⟨_, rfl, D, rfl, ⟨_, .inl (.inl k1)⟩, fun D2 nD2 => ?_⟩
      have dD : D2 ≠ D := fun z => by rw [z, k1] at nD2; cases nD2
      refine lc_it (walk_list (xs := ls.map V.ref)) (PCl H2 D2 (cellsOf r)) ⟨[], upd_same .., .nil, same_new nD2, fun t ht => nomatch ht⟩ (fun i H3 _ h => by obtain ⟨_, _, _, h3, _⟩ := h; exact .inl (.inl (h3 _ _ k1))) ?_ ?_
      · rintro i x H4 H3 hi ⟨ts, g1, g2, g3, g4⟩ ⟨rfl, hx⟩
        have hi : i < cnt r := by rw [List.length_map, h2] at hi; exact hi
        rw [List.getElem?_map, la i hi] at hx
        cases hx
        refine ⟨rfl, ?_⟩
        refine ⟨_, rfl, _, _, rfl, .inl ⟨.inl (.inl (g3 _ _ (e3 i hi))), fun t nt => ?_⟩⟩
        have tD : D2 ≠ t := fun z => by rw [← z, g1] at nt; cases nt
        have s4 : Same H3 (upd H3 t (.tup (nV (places i r)))) := same_new nt
        have lts : ts.length = i := by
          rw [Paired.length g2, List.length_take, row_cells hrow, List.length_map, List.length_range]
          omega
        refine ⟨_, s4 _ _ g1, by rw [List.length_map]; omega, ts ++ [t], ?_, ?_, fun b o q => ?_, fun t' ht' => ?_⟩
        · rw [upd_same, List.map_append, List.map_singleton]
        · have tc : (cellsOf r).take (i + 1) = (cellsOf r).take i ++ [places i r] := by
            rw [List.take_add_one, row_cells hrow, List.getElem?_map, List.getElem?_range hi] <;> rfl
          rw [tc]
          refine psnoc (pimp (fun t' c _ z => ?_) g2) ?_
          · rw [upd_ne (fun q => by rw [q, g1] at z; cases z)]
            exact s4 _ _ z
          · rw [upd_ne (fun z => tD z.symm), upd_same]
        · rw [upd_ne (fun z => by rw [z, nD2] at q; cases q)]
          exact s4 _ _ (g3 _ _ q)
        · rcases List.mem_append.mp ht' with z | z
          · exact g4 _ z
          · rw [List.mem_singleton.mp z]
            exact g3.free nt
      · rintro H3 ⟨ts, g1, g2, g3, g4⟩
        refine ⟨D2, _, rfl, .inl ⟨.inl (.inl g1), fun p np => ?_⟩⟩
        have s5 : Same H (upd H3 p (.tup (ts.map V.ref))) := fun b o q => same_new np _ _ (g3 _ _ (k2 _ _ q))
        refine hQ _ p s5 ((show Same H H3 from fun b o q => g3 _ _ (k2 _ _ q)).free np) ⟨ts, upd_same .., ?_⟩
        have lt : (cellsOf r).take (ls.map V.ref).length = cellsOf r := by
          refine List.take_of_length_le ?_
          rw [row_cells hrow, List.length_map, List.length_map, List.length_range, h2]
          exact Nat.le_refl _
        rw [lt] at g2
        refine pimp (fun t c ht z => ?_) g2
        exact same_new np _ _ z
end
end K05
set_option Elab.async false
set_option linter.all false
set_option maxRecDepth 100000
set_option maxHeartbeats 4000000
namespace K05
open PySem PySem.Spec PyProof.Rows L2 Ms RZ
theorem ixN_n {n j : Nat} (h : j < n) : ixN n (j : Int) = some j := by
  unfold ixN
  rw [if_pos (by omega), if_pos (by omega)]
  simp
theorem nV_set (l : List Nat) (i v : Nat) : (nV l).set i (.int (v : Nat)) = nV (l.set i v) := by
  unfold nV
  rw [List.map_set]
theorem of_nV {l : List Nat} {i : Nat} {x : V} (h : (nV l)[i]? = some x) : ∃ n, l[i]? = some n ∧ x = .int (n : Nat) := by
  unfold nV at h
  rw [List.getElem?_map] at h
  cases e : l[i]? with
  | none => rw [e] at h; cases h
  | some n => rw [e] at h; exact ⟨n, rfl, (Option.some.inj h).symm⟩
/-- while boss[x] != x: boss[x] = boss[boss[x]]; x = boss[x] -/
def tfind (K : PySem.W.Frag) (s : Nat) : TS := tWhile (tTest (tOp rNe (tOp (rIxL K) (tVar 2) (tVar s)) (tVar s))) (tSeq (tAsg (tOp (rIxL K) (tVar 2) (tOp (rIxL K) (tVar 2) (tVar s))) (gSub (tVar 2) (tVar s) rSetL)) (tAsg (tOp (rIxL K) (tVar 2) (tVar s)) (gName s)))
theorem find_run {K : PySem.W.Frag} {s : Nat} (h2 : s ≠ 2) {D : Ends} {σ : L2.St} {H : Hp} {l : Addr} {bs : List Nat} {r dp : Nat → Nat} {x : Nat} (F : Forest bs r dp) (hl : H l = some (.lst (nV bs))) (s2 : σ[2]? = some (some (.ref l))) (ss : σ[s]? = some (some (.int (x : Nat)))) (hx : x < bs.length)
    (hQ : ∀ bs' H', Forest bs' r dp → bs'.length = bs.length → at0 bs' (r x) = r x → H' l = some (.lst (nV bs')) → (∀ b, b ≠ l → H' b = H b) → D.nx (σ.set s (some (.int (r x : Nat)))) H') : tfind K s D σ H := by
  refine ⟨fun m σ' H' => ∃ bs' y, m = dp y ∧ Forest bs' r dp ∧ bs'.length = bs.length ∧ y < bs.length ∧ r y = r x ∧ σ' = σ.set s (some (.int (y : Nat))) ∧ H' l = some (.lst (nV bs')) ∧ ∀ b, b ≠ l → H' b = H b, ⟨_, bs, x, rfl, F, rfl, hx, rfl, ?_, hl, fun _ _ => rfl⟩, ?_⟩
  · refine List.ext_getElem? fun j => ?_
    rw [List.getElem?_set]
    by_cases e : s = j
    · subst e
      rw [if_pos rfl, if_pos (ltE ss), ss]
    · rw [if_neg e]
  · rintro m σ' H' ⟨bs', y, rfl, F', hlen, hy, hr, rfl, hl', ho⟩
    have l2 : ∀ v : Option V, (σ.set s v)[2]? = some (some (.ref l)) := fun v => by rw [List.getElem?_set_ne h2]; exact s2
    have ls : ∀ v : Option V, (σ.set s v)[s]? = some v := fun v => by rw [List.getElem?_set_self (ltE ss)]
    have hy' : y < bs'.length := by rw [hlen]; exact hy
    refine ⟨_, l2 _, _, ls _, l, _, _, _, rfl, rfl, .inl (.inl hl'), atI_nat (nV_at0 hy'), _, ls _, rfl, _, rfl, ?_⟩
    by_cases e : at0 bs' y = y
    · have q : (!decide (V.int (at0 bs' y : Nat) = V.int (y : Nat))) = false := by rw [e]; simp
      rw [q]
      refine iteF ?_
      have q2 := F'.fix y hy' e
      have q3 := hQ bs' H' F' hlen (by rw [← hr, q2]; exact e) hl' ho
      rw [← hr, q2] at q3
      exact q3
    · have q : (!decide (V.int (at0 bs' y : Nat) = V.int (y : Nat))) = true := by
        have : ¬ V.int (at0 bs' y : Nat) = V.int (y : Nat) := fun z => e (by have := V.int.inj z; omega)
        rw [decide_eq_false this] <;> rfl
      rw [q]
      have l1 := F'.lt y hy'
      have F2 := F'.half hy' e
      have d1 := F'.dec y hy' e
      refine iteT ⟨fun σ1 H1 => ∃ m', m' < dp y ∧ ∃ bs' y, m' = dp y ∧ Forest bs' r dp ∧ bs'.length = bs.length ∧ y < bs.length ∧ r y = r x ∧ σ1 = σ.set s (some (.int (y : Nat))) ∧ H1 l = some (.lst (nV bs')) ∧ ∀ b, b ≠ l → H1 b = H b, fun _ _ z => z, ?_⟩
      refine ⟨_, l2 _, _, l2 _, _, ls _, l, _, _, _, rfl, rfl, .inl (.inl hl'), atI_nat (nV_at0 hy'), l, _, _, _, rfl, rfl, .inl (.inl hl'), atI_nat (nV_at0 l1), ?_⟩
      refine ⟨_, l2 _, _, ls _, l, _, _, _, rfl, rfl, hl', ixN_n (by rw [nV_len]; exact hy'), ?_⟩
      rw [nV_set]
      have g : upd H' l (.lst (nV (bs'.set y (at0 bs' (at0 bs' y))))) l = some (.lst (nV (bs'.set y (at0 bs' (at0 bs' y))))) := upd_same ..
      have hy2 : y < (bs'.set y (at0 bs' (at0 bs' y))).length := by rw [List.length_set]; exact hy'
      refine ⟨_, l2 _, _, ls _, l, _, _, _, rfl, rfl, .inl (.inl g), atI_nat (nV_at0 hy2), ?_⟩
      rw [at0_set hy', if_pos rfl]
      have l3 := F'.lt _ l1
      have d2 : dp (at0 bs' (at0 bs' y)) ≤ dp (at0 bs' y) := by
        by_cases z : at0 bs' (at0 bs' y) = at0 bs' y
        · rw [z]; exact Nat.le_refl _
        · exact Nat.le_of_lt (F'.dec _ l1 z)
      refine ⟨dp (at0 bs' (at0 bs' y)), by omega, _, _, rfl, F2, by rw [List.length_set]; exact hlen, by rw [← hlen]; exact l3, by rw [F'.up _ l1, F'.up y hy']; exact hr, by rw [List.set_set], g, fun b hb => ?_⟩
      rw [upd_ne hb]
      exact ho b hb
/-- low = first[other]; .. boss[high] = low -/
def tjoin (K : PySem.W.Frag) : TS := tSeq (tAsg (tDGet (tVar 3) (tVar 5)) (gName 6)) (tSeq (tfind K 6) (tSeq (tAsg (tVar 4) (gName 7)) (tSeq (tfind K 7) (tAsg (tVar 6) (gSub (tVar 2) (tVar 7) rSetL)))))
theorem join_run {K : PySem.W.Frag} {D : Ends} {H : Hp} {a b l d : Addr} {m3 m4 : Option V} {bs : List Nat} {r dp : Nat → Nat} {x y v : Nat} (F : Forest bs r dp) (hl : H l = some (.lst (nV bs))) (hx : x < bs.length) (hv : v < bs.length) (hd : DGet H d (.int (y : Nat)) (some (.int (v : Nat)))) (dl : d ≠ l)
    (hQ : ∀ bs' r' H' m3 m4, (∃ dp, Forest bs' r' dp) → bs'.length = bs.length → (∀ z, z < bs.length → r' z = if r z = r x then r v else r z) → H' l = some (.lst (nV bs')) → (∀ b, b ≠ l → H' b = H b) →
      D.nx [some (.ref a), some (.ref b), some (.ref l), some (.ref d), some (.int (x : Nat)), some (.int (y : Nat)), m3, m4, none, none] H') :
    tjoin K D [some (.ref a), some (.ref b), some (.ref l), some (.ref d), some (.int (x : Nat)), some (.int (y : Nat)), m3, m4, none, none] H := by
  refine ⟨_, rfl, _, rfl, d, _, rfl, hd, ?_⟩
  show tfind K 6 _ _ _
  refine find_run (x := v) (by decide) F hl rfl rfl hv fun bs1 H1 F1 e1 t1 l1 o1 => ?_
  refine ⟨_, rfl, ?_⟩
  show tfind K 7 _ _ _
  refine find_run (x := x) (by decide) F1 l1 rfl rfl (by rw [e1]; exact hx) fun bs2 H2 F2 e2 t2 l2 o2 => ?_
  obtain ⟨k1, k2, _⟩ := F2.root _ v (Nat.le_refl _) (by rw [e2, e1]; exact hv)
  obtain ⟨k3, k4, _⟩ := F2.root _ x (Nat.le_refl _) (by rw [e2, e1]; exact hx)
  obtain ⟨r', dp', F3, hr'⟩ := F2.link k1 k3 k2 k4
  refine ⟨_, rfl, _, rfl, _, rfl, l, _, _, _, rfl, rfl, l2, ixN_n (by rw [nV_len]; exact k3), ?_⟩
  rw [nV_set]
  exact hQ _ r' _ _ _ ⟨dp', F3⟩ (by rw [List.length_set, e2, e1]) (fun z hz => hr' z (by rw [e2, e1]; exact hz)) (upd_same ..) fun c hc => by rw [upd_ne hc, o2 c hc, o1 c hc]
theorem walk_zipT {K : PySem.W.Frag} {a b : Addr} {xs ys : List V} (hn : xs.length = ys.length) : Walk (ItzT K a b) xs.length (fun H => SqT K H a xs ∧ SqT K H b ys) (YPair (fun i => xs[i]?) (fun i => ys[i]?)) := by
  refine ⟨fun i _ hi q => ?_, fun _ q => ⟨xs, ys, q.1, q.2, .inl (Nat.le_refl _)⟩, fun i H v H' _ q y => ?_⟩
  · have h2 : i < ys.length := hn ▸ hi
    exact ⟨xs, ys, xs[i], ys[i], q.1, q.2, getE hi, getE h2⟩
  · obtain ⟨T, x, z, h1, h2, h3, h4, h5⟩ := y
    exact ⟨T, x, z, h1, h2, h3, h4 xs q.1, h5 ys q.2⟩
def spJoin (K : PySem.W.Frag) : Sp := fun vs H Q _ => ∃ a b one two, vs = [.ref a, .ref b] ∧ SqT K H a (nV one) ∧ SqT K H b (nV two) ∧ one.length = two.length ∧ (∀ x ∈ one, x < one.length) ∧ one.length ≤ 16777216 ∧ ∀ H' p r, Same H H' → H p = none → H' p = some (.lst (nV r)) → Joins one two r → Q (.ref p) H'
/-- the rows joined so far -/
structure PJ (H : Hp) (a b l d : Addr) (one two : List Nat) (i : Nat) (bs : List Nat) (r : Nat → Nat) (H1 : Hp) : Prop where
  same : Same H H1
  boss : H1 l = some (.lst (nV bs))
  dict : H1 d = some (.dK ((firsts ((two.map kn).take i)).map fun k => (k, .int (at0 one (ix1 (two.map kn) k) : Nat))))
  fo : ∃ dp, Forest bs r dp
  len : bs.length = one.length
  pat : ∀ p q, p < one.length → q < one.length → (r (at0 one p) = r (at0 one q) ↔ Eqv (Gn one one.length (two.map kn) i) p q)
theorem jn_map {one two : List Nat} (p q : Nat) : Eqv (Gn one one.length (two.map kn) two.length) p q ↔ Jn one two p q := by
  have key : ∀ p q, Gn one one.length (two.map kn) two.length p q ↔ Gn one one.length two two.length p q := fun p q => by
    unfold Gn
    refine or_congr Iff.rfl (and_congr_right fun h1 => and_congr_right fun h2 => ?_)
    rw [List.getElem?_map, List.getElem?_map, getE h1, getE h2]
    simp only [Option.map_some, Option.some.injEq]
    exact ⟨fun e => kn_inj _ _ e, fun e => by rw [e]⟩
  exact ⟨fun e => e.mono fun p q g => .of ((key p q).mp g), fun e => e.mono fun p q g => .of ((key p q).mpr g)⟩
section
variable {P : Program} {w : World} {K : PySem.W.Frag} {mg : Str → Option Value} {base : Heap}
theorem ok_joined_marks (T : Tx K mg) : Ok P w K mg base "joined_marks" 1 (spJoin K) := by
  refine ok_of T.a_joined_marks scjoined_marks (fun vs H Q E h => ?_) bi_joined_marks fun cdv A outer s H vs Q E hr h => ?_
  · obtain ⟨a, b, one, two, rfl, _⟩ := h
    rfl
  obtain ⟨a, b, one, two, rfl, ha, hb, hlen, hlt, hz, hQ⟩ := h
  have ha1 : ∀ H1 : Hp, Same H H1 → SqT K H1 a (nV one) := fun H1 s => Same.sqT s ha
  have hb1 : ∀ H1 : Hp, Same H H1 → SqT K H1 b (nV two) := fun H1 s => Same.sqT s hb
  refine ⟨_, (pss_cons (ps_set (i := 2) scjoined_marks.nd rfl (by first | exact Or.inl rfl | exact Or.inr rfl) (pe_listRg rfl (by rfl) T.f_list (prg_1 (by rfl) T.f_range (pe_callB (lenK K) (by rfl) T.f_len boot_len (pa_cons (pv 0) pa_nil)))))
  (pss_cons (ps_set (i := 3) scjoined_marks.nd rfl (by first | exact Or.inl rfl | exact Or.inr rfl) pe_dnewK)
  (pss_cons (ps_for PassesOwn.never rfl (pi_zipA (by rfl) T.f_zip (pa_cons (pv 0) (pa_cons (pv 1) pa_nil))) (pg_tup rfl (pgs_cons (pg_name (i := 4) scjoined_marks.nd rfl (by first | exact Or.inl rfl | exact Or.inr rfl)) (pgs_cons (pg_name (i := 5) scjoined_marks.nd rfl (by first | exact Or.inl rfl | exact Or.inr rfl)) pgs_nil)))
  (pss_cons (ps_if (pt_cmp (pc_dnotin (hu_of hr) (pv 5) (pv 3)))
    (pss_one (ps_dput (hu_of hr) (pv 3) (pv 5) (pv 4) rfl))
    pss_nil)
    (pss_cons (ps_set (i := 6) scjoined_marks.nd rfl (by first | exact Or.inl rfl | exact Or.inr rfl) (pe_dget (hu_of hr) (pv 3) (pv 5) (fun _ _ => rfl)))
    (pss_cons (ps_while PassesOwn.never (pt_cmpR op_ne (pe_ix (ixL K) (pv 2) (pv 6) (fun _ _ => rfl)) (pv 6) (nomark _))
    (pss_cons (ps_asg (pe_ix (ixL K) (pv 2) (pe_ix (ixL K) (pv 2) (pv 6) (fun _ _ => rfl)) (fun _ _ => rfl)) (pg_sub (pv 2) (pv 6) set_list))
      (pss_one (ps_set (i := 6) scjoined_marks.nd rfl (by first | exact Or.inl rfl | exact Or.inr rfl) (pe_ix (ixL K) (pv 2) (pv 6) (fun _ _ => rfl))))))
    (pss_cons (ps_set (i := 7) scjoined_marks.nd rfl (by first | exact Or.inl rfl | exact Or.inr rfl) (pv 4))
    (pss_cons (ps_while PassesOwn.never (pt_cmpR op_ne (pe_ix (ixL K) (pv 2) (pv 7) (fun _ _ => rfl)) (pv 7) (nomark _))
    (pss_cons (ps_asg (pe_ix (ixL K) (pv 2) (pe_ix (ixL K) (pv 2) (pv 7) (fun _ _ => rfl)) (fun _ _ => rfl)) (pg_sub (pv 2) (pv 7) set_list))
      (pss_one (ps_set (i := 7) scjoined_marks.nd rfl (by first | exact Or.inl rfl | exact Or.inr rfl) (pe_ix (ixL K) (pv 2) (pv 7) (fun _ _ => rfl))))))
    (pss_one (ps_asg (pv 6) (pg_sub (pv 2) (pv 7) set_list)))))))))
  (pss_cons (ps_set (i := 8) scjoined_marks.nd rfl (by first | exact Or.inl rfl | exact Or.inr rfl) (pe_lst pa_nil))
  (pss_cons (ps_for PassesOwn.never rfl (pi_tup (pv 0)) (pg_name (i := 4) scjoined_marks.nd rfl (by first | exact Or.inl rfl | exact Or.inr rfl))
  (pss_cons (ps_set (i := 9) scjoined_marks.nd rfl (by first | exact Or.inl rfl | exact Or.inr rfl) (pv 4))
    (pss_cons (ps_while PassesOwn.never (pt_cmpR op_ne (pe_ix (ixL K) (pv 2) (pv 9) (fun _ _ => rfl)) (pv 9) (nomark _))
    (pss_cons (ps_asg (pe_ix (ixL K) (pv 2) (pe_ix (ixL K) (pv 2) (pv 9) (fun _ _ => rfl)) (fun _ _ => rfl)) (pg_sub (pv 2) (pv 9) set_list))
      (pss_one (ps_set (i := 9) scjoined_marks.nd rfl (by first | exact Or.inl rfl | exact Or.inr rfl) (pe_ix (ixL K) (pv 2) (pv 9) (fun _ _ => rfl))))))
    (pss_one (ps_expr (pe_bm PySem.F.plainAttrs_list PySem.F.slot_list_append PySem.F.type_list_append mt_append (pv 8) (pa_cons (pv 9) pa_nil)))))))
  (pss_one (ps_ret (pv 8)))))))), ?_⟩
  refine ⟨_, rfl, a, _, rfl, .inr ha, _, rfl, ⟨by omega, by omega, by rw [nV_len]; omega, by rw [nV_len]; omega, by rw [nV_len]; omega⟩, fun l nl => ?_⟩
  refine fun d nd => ?_
  have dl : d ≠ l := fun z => by rw [z, upd_same] at nd; cases nd
  have nd1 : H d = none := by rw [upd_ne dl] at nd; exact nd
  have erg : rgV 0 ((nV one).length : Nat) = nV (List.range one.length) := by
    unfold rgV nV
    rw [List.length_map]
    simp
  rw [erg]
  refine ⟨_, rfl, _, rfl, a, b, nV one, nV two, rfl, .inr ⟨ha1 _ (Same.new2 nl nd1), hb1 _ (Same.new2 nl nd1), ?_⟩⟩
  refine for_it (walk_zipT (xs := nV one) (ys := nV two) (by rw [nV_len, nV_len]; exact hlen)) (fun i σ H1 => ∃ m1 m2 m3 m4 bs r, σ = [some (.ref a), some (.ref b), some (.ref l), some (.ref d), m1, m2, m3, m4, none, none] ∧ PJ H a b l d one two i bs r H1) ?_ ?_ ?_ ?_
  · refine ⟨none, none, none, none, List.range one.length, fun x => x, rfl, Same.new2 nl nd1, by rw [upd_ne (fun z => dl z.symm), upd_same], upd_same .., ⟨_, forest_range _⟩, List.length_range, fun p q hp hq => ⟨fun e => .of (.inl ⟨hp, hq, by rw [of_at0 hp, of_at0 hq, e]⟩), fun e => ?_⟩⟩
    have key : ∀ {p q}, Eqv (Gn one one.length (two.map kn) 0) p q → one[p]? = one[q]? := fun {p q} z => by
      induction z with
      | of g =>
        rcases g with ⟨_, _, g⟩ | ⟨g, _, _⟩
        · exact g
        · omega
      | refl a => rfl
      | symm _ ih => exact ih.symm
      | trans _ _ i1 i2 => exact i1.trans i2
    have q := key e
    rw [of_at0 hp, of_at0 hq] at q
    exact Option.some.inj q
  · rintro i σ H1 _ ⟨m1, m2, m3, m4, bs, r, _, J⟩
    exact ⟨ha1 _ J.same, hb1 _ J.same⟩
  · rintro i v σ H1 H2 hi ⟨m1, m2, m3, m4, bs, r, rfl, J⟩ ⟨Tt, x0, y0, rfl, nT, rfl, hx0, hy0⟩
    obtain ⟨x, hx, rfl⟩ := of_nV (show (nV one)[i]? = some x0 from hx0)
    obtain ⟨y, hy, rfl⟩ := of_nV (show (nV two)[i]? = some y0 from hy0)
    rw [nV_len] at hi
    have hky : (two.map kn)[i]? = some (kn y) := by rw [List.getElem?_map, hy] <;> rfl
    generalize hks : two.map kn = ks at *
    have lks : ks.length = one.length := by rw [← hks, List.length_map, hlen]
    have tk : ks.take (i + 1) = ks.take i ++ [kn y] := by rw [List.take_add_one, hky] <;> rfl
    have s2 : Same H1 (upd H1 Tt (.tup [.int (x : Nat), .int (y : Nat)])) := fun b o e => by rw [upd_ne (fun z => by rw [z, nT] at e; cases e)]; exact e
    refine ⟨Tt, _, rfl, .inl (.inl (upd_same ..)), rfl, _, _, rfl, _, _, rfl, rfl, ?_⟩
    generalize hH2 : upd H1 Tt (.tup [.int (x : Nat), .int (y : Nat)]) = H2 at s2
    have dict2 := J.dict
    rw [hks] at dict2
    have dict2 := s2 _ _ dict2
    have boss2 := s2 _ _ J.boss
    have pat2 := J.pat
    rw [hks] at pat2
    obtain ⟨dp, Fo⟩ := J.fo
    have hix := idx_first hky
    have hui : ix1 ks (kn y) < one.length := by omega
    have xlt : x < bs.length := by rw [J.len]; exact hlt x (List.mem_of_getElem? hx)
    have vlt : at0 one (ix1 ks (kn y)) < bs.length := by rw [J.len]; exact hlt _ (List.mem_of_getElem? (of_at0 hui))
    have rest : ∀ {D : Ends} (H3 : Hp), (∀ σ H1, (∃ m1 m2 m3 m4 bs r, σ = [some (.ref a), some (.ref b), some (.ref l), some (.ref d), m1, m2, m3, m4, none, none] ∧ PJ H a b l d one two (i + 1) bs r H1) → D.nx σ H1) → Same H H3 → H3 l = some (.lst (nV bs)) → H3 d = some (.dK ((firsts (ks.take (i + 1))).map fun k => (k, .int (at0 one (ix1 ks k) : Nat)))) →
        tjoin K D [some (.ref a), some (.ref b), some (.ref l), some (.ref d), some (.int (x : Nat)), some (.int (y : Nat)), m3, m4, none, none] H3 := by
      intro D H3 hD s3 b3 d3
      have gd : DGet H3 d (.int (y : Nat)) (some (.int (at0 one (ix1 ks (kn y)) : Nat))) := by
        have q := DGet.k (k := kn y) d3
        rw [valV_of, if_pos ((mem_firsts _ _).mpr (by rw [tk]; exact List.mem_append_right _ (List.mem_singleton.mpr rfl)))] at q
        exact q
      refine join_run Fo b3 xlt vlt gd dl fun bs' r' H' m3' m4' hF hl' hr' hb' ho' => hD _ _ ⟨_, _, m3', m4', bs', r', rfl, ?_⟩
      refine ⟨fun c o q => ?_, hb', ?_, hF, by rw [hl', J.len], fun p q hp hq => ?_⟩
      · rw [ho' c (fun z => by rw [z, nl] at q; cases q)]
        exact s3 _ _ q
      · rw [ho' d dl, hks]
        exact d3
      · have lt1 : ∀ p, p < one.length → at0 one p < bs.length := fun p hp => by rw [J.len]; exact hlt _ (List.mem_of_getElem? (of_at0 hp))
        rw [hr' _ (lt1 p hp), hr' _ (lt1 q hq), hks, gn_two hky]
        have ex : x = at0 one i := (at0_of hx).symm
        have P1 := fun p q hp hq => pat2 p q hp hq
        unfold Mg
        rw [← P1 p q hp hq, ← P1 p _ hp hui, ← P1 i q hi hq, ← P1 p i hp hi, ← P1 _ q hui hq, ex]
        generalize r (at0 one p) = A
        generalize r (at0 one q) = B
        generalize r (at0 one i) = C
        generalize r (at0 one (ix1 ks (kn y))) = D
        by_cases h1 : A = C
        · by_cases h2 : B = C
          · rw [if_pos h1, if_pos h2]
            exact ⟨fun _ => .inl (h1.trans h2.symm), fun _ => rfl⟩
          · rw [if_pos h1, if_neg h2]
            exact ⟨fun z => .inr (.inr ⟨h1, z⟩), fun z => by rcases z with z | ⟨z1, z2⟩ | ⟨z1, z2⟩ <;> omega⟩
        · by_cases h2 : B = C
          · rw [if_neg h1, if_pos h2]
            exact ⟨fun z => .inr (.inl ⟨z, h2.symm⟩), fun z => by rcases z with z | ⟨z1, z2⟩ | ⟨z1, z2⟩ <;> omega⟩
          · rw [if_neg h1, if_neg h2]
            exact ⟨.inl, fun z => by rcases z with z | ⟨z1, z2⟩ | ⟨z1, z2⟩ <;> omega⟩
    refine ⟨_, rfl, _, rfl, d, _, rfl, DGet.k (k := kn y) dict2, _, rfl, ?_⟩
    rw [valV_of]
    by_cases hin : kn y ∈ firsts (ks.take i)
    · rw [if_pos hin]
      refine iteF ?_
      show tjoin K _ _ _
      have he : firsts (ks.take (i + 1)) = firsts (ks.take i) := by rw [tk, firsts_old ((mem_firsts _ _).mp hin)]
      exact rest H2 (fun _ _ z => z) (fun b o q => s2 _ _ (J.same _ _ q)) boss2 (by rw [he]; exact dict2)
    · rw [if_neg hin]
      refine iteT ?_
      have vn : valV ((firsts (ks.take i)).map fun k => (k, V.int (at0 one (ix1 ks k) : Nat))) (kn y) = none := by rw [valV_of, if_neg hin]
      have lt : (firsts (ks.take i)).length ≤ i := Nat.le_trans (firsts_le _) (List.length_take_le ..)
      refine ⟨_, rfl, _, rfl, _, rfl, d, _, rfl, DPut.k (k := kn y) dict2 (by rw [List.length_map]; have : (16777216 : Nat) ≤ sizeLine := by decide
                                                                              omega), ?_⟩
      rw [putK_new _ vn]
      have hu : ix1 ks (kn y) = i := by
        obtain ⟨l1, e1⟩ := idx_first hky
        rcases Nat.lt_or_ge (ix1 ks (kn y)) i with g | g
        · exfalso
          refine hin ((mem_firsts _ _).mpr (List.mem_of_getElem? (i := ix1 ks (kn y)) ?_))
          rw [List.getElem?_take_of_lt g]
          exact e1
        · omega
      show tjoin K _ _ _
      refine rest _ (fun _ _ z => z) (fun b o q => ?_) ?_ ?_
      · rw [upd_ne (fun z => by rw [z, nd1] at q; cases q)]
        exact s2 _ _ (J.same _ _ q)
      · rw [upd_ne (fun z => dl z.symm)]
        exact boss2
      · rw [upd_same, tk, firsts_new (fun z => hin ((mem_firsts _ _).mpr z)), List.map_append, List.map_singleton, hu, at0_of hx]
  · rintro σ H1 ⟨m1, m2, m3, m4, bs, r, rfl, J⟩
    rw [nV_len] at J
    obtain ⟨dp, Fo⟩ := J.fo
    refine ⟨by show 0 ≤ sizeLine; decide, fun f nf => ?_⟩
    have fl : f ≠ l := fun z => by rw [z, J.boss] at nf; cases nf
    have sf : Same H (upd H1 f (.lst [])) := fun b o q => by
      have q1 := J.same _ _ q
      rw [upd_ne (fun z => by rw [z, nf] at q1; cases q1)]
      exact q1
    have nf0 : H f = none := J.same.free nf
    refine ⟨_, rfl, a, rfl, ⟨_, ha1 _ sf⟩, for_tup (xs := nV one) (fun i σ H2 => ∃ m1 m2 m3 m4 m9 bs', σ = [some (.ref a), some (.ref b), some (.ref l), some (.ref d), m1, m2, m3, m4, some (.ref f), m9] ∧ Same H H2 ∧ H2 l = some (.lst (nV bs')) ∧ Forest bs' r dp ∧ bs'.length = one.length ∧ H2 f = some (.lst (nV ((one.take i).map r)))) ?_ ?_ ?_ ?_⟩
    · exact ⟨m1, m2, m3, m4, none, bs, rfl, sf, by rw [upd_ne (fun z => fl z.symm)]; exact J.boss, Fo, J.len, upd_same ..⟩
    · rintro i σ H2 _ ⟨_, _, _, _, _, _, _, h, _⟩
      exact ha1 _ h
    · rintro i x0 σ H2 hx0 ⟨m1, m2, m3, m4, m9, bs', rfl, s2, b2, F2, e2, f2⟩
      obtain ⟨x, hx, rfl⟩ := of_nV hx0
      have hi := ltE hx
      have xlt : x < bs'.length := by rw [e2]; exact hlt x (List.mem_of_getElem? hx)
      refine ⟨_, rfl, ?_⟩
      show tfind K 9 _ _ _
      refine find_run (x := x) (by decide) F2 b2 rfl rfl xlt fun bs3 H3 F3 e3 _ l3 o3 => ?_
      have f3 : H3 f = some (.lst (nV ((one.take i).map r))) := by rw [o3 f fl]; exact f2
      refine ⟨_, rfl, .inl ⟨rfl, _, .inl (.inl f3)⟩, _, rfl, f, _, _, rfl, rfl, f3, ?_, ?_⟩
      · rw [nV_len, List.length_map, List.length_take]
        have : (16777216 : Nat) ≤ sizeLine := by decide
        omega
      · refine ⟨_, m2, m3, m4, _, bs3, rfl, fun c o q => ?_, ?_, F3, by rw [e3, e2], ?_⟩
        · rw [upd_ne (fun z => by rw [z, nf0] at q; cases q), o3 c (fun z => by rw [z, nl] at q; cases q)]
          exact s2 _ _ q
        · rw [upd_ne (fun z => fl z.symm)]
          exact l3
        · rw [upd_same, List.take_add_one, hx, List.map_append]
          unfold nV
          rw [List.map_append] <;> rfl
    · rintro σ H2 ⟨m1, m2, m3, m4, m9, bs', rfl, s2, b2, F2, e2, f2⟩
      rw [nV_len, List.take_length] at f2
      refine ⟨_, rfl, hQ _ f (one.map r) s2 nf0 f2 ⟨List.length_map .., fun p q x y hp hq => ?_⟩⟩
      have lp : p < one.length := by have := ltE hp; rw [List.length_map] at this; exact this
      have lq : q < one.length := by have := ltE hq; rw [List.length_map] at this; exact this
      rw [List.getElem?_map, of_at0 lp] at hp
      rw [List.getElem?_map, of_at0 lq] at hq
      rw [← Option.some.inj hp, ← Option.some.inj hq, J.pat p q lp lq, hlen]
      rw [← hlen]
      have q := jn_map (one := one) (two := two) p q
      rw [← hlen] at q
      exact q
end
end K05
set_option Elab.async false
set_option linter.all false
set_option maxRecDepth 100000
set_option maxHeartbeats 4000000
/-! Ms: rows of numbers compared. -/
namespace Ms
open PySem PySem.Spec PyProof.Rows L2
def dI (ns : List Int) : List PyData := ns.map PyData.int
theorem dpI {K : PySem.W.Frag} {H : Hp} : ∀ ns : List Int, DpAll K H (ns.map V.int) (dI ns)
  | [] => .nil
  | n :: ns => .cons (.int n) (dpI ns)
theorem layI : ∀ ns : List Int, PyData.canLayAll0 (dI ns) = true
  | [] => by simp [dI, PyData.canLayAll0]
  | n :: ns => by
    have ih := layI ns
    unfold dI at ih ⊢
    simp only [List.map_cons, PyData.canLayAll0, PyData.canLay0, ih, Bool.and_self]
theorem depI : ∀ ns : List Int, PyData.depthAll (dI ns) = 0
  | [] => by simp [dI, PyData.depthAll]
  | n :: ns => by
    have ih := depI ns
    unfold dI at ih ⊢
    simp only [List.map_cons, PyData.depthAll, PyData.depth, ih] <;> rfl
theorem eqvI : ∀ ns ms : List Int, PyData.eqvAll (dI ns) (dI ms) = decide (ns = ms)
  | [], [] => by simp [dI, PyData.eqvAll]
  | [], _ :: _ => by simp [dI, PyData.eqvAll]
  | _ :: _, [] => by simp [dI, PyData.eqvAll]
  | n :: ns, m :: ms => by
    have ih := eqvI ns ms
    unfold dI at ih ⊢
    simp only [List.map_cons, PyData.eqvAll, PyData.eqv, ih]
    by_cases h : n = m
    · subst h; simp
    · simp [h]
theorem shI (ns : List Int) : SeqAt.shaped (.list (dI ns)) = true := by
  unfold SeqAt.shaped
  simp only [PyData.canLay0, layI, PyData.depth, depI, Bool.true_and]
  decide
theorem shT (ns : List Int) : SeqAt.shaped (.tuple (dI ns)) = true := by
  unfold SeqAt.shaped
  simp only [PyData.canLay0, layI, PyData.depth, depI, Bool.true_and]
  decide
theorem eqvL (ns ms : List Int) : PyData.eqv (.list (dI ns)) (.list (dI ms)) = decide (ns = ms) := by
  rw [← eqvI] <;> simp [PyData.eqv]
theorem eqvT (ns ms : List Int) : PyData.eqv (.tuple (dI ns)) (.tuple (dI ms)) = decide (ns = ms) := by
  rw [← eqvI] <;> simp [PyData.eqv]
/-! rows of rows -/
def dR (rs : List (List Int)) : List PyData := rs.map fun r => .list (dI r)
theorem layR : ∀ rs : List (List Int), PyData.canLayAll0 (dR rs) = true
  | [] => by simp [dR, PyData.canLayAll0]
  | r :: rs => by
    have ih := layR rs
    unfold dR at ih ⊢
    simp only [List.map_cons, PyData.canLayAll0, PyData.canLay0, layI, ih, Bool.and_self]
theorem depR : ∀ rs : List (List Int), PyData.depthAll (dR rs) ≤ 1
  | [] => by simp [dR, PyData.depthAll]
  | r :: rs => by
    have ih := depR rs
    unfold dR at ih ⊢
    simp only [List.map_cons, PyData.depthAll, PyData.depth, depI]
    omega
theorem eqvR : ∀ rs ts : List (List Int), PyData.eqvAll (dR rs) (dR ts) = decide (rs = ts)
  | [], [] => by simp [dR, PyData.eqvAll]
  | [], _ :: _ => by simp [dR, PyData.eqvAll]
  | _ :: _, [] => by simp [dR, PyData.eqvAll]
  | r :: rs, t :: ts => by
    have ih := eqvR rs ts
    unfold dR at ih ⊢
    simp only [List.map_cons, PyData.eqvAll, eqvL, ih]
    by_cases h : r = t
    · subst h; simp
    · simp [h]
theorem shR (rs : List (List Int)) : SeqAt.shaped (.list (dR rs)) = true := by
  unfold SeqAt.shaped
  have h := depR rs
  have e : PyData.depth (.list (dR rs)) ≤ 64 := by
    unfold PyData.depth
    omega
  have l : PyData.canLay0 (.list (dR rs)) = true := by
    unfold PyData.canLay0
    exact layR rs
  rw [l, decide_eq_true e] <;> rfl
theorem eqvLR (rs ts : List (List Int)) : PyData.eqv (.list (dR rs)) (.list (dR ts)) = decide (rs = ts) := by
  rw [← eqvR] <;> simp [PyData.eqv]
theorem dpR {K : PySem.W.Frag} {H : Hp} {as : List Addr} {rs : List (List Int)} (h : Paired (fun a r => SqL K H a (r.map V.int)) as rs) : DpAll K H (as.map V.ref) (dR rs) := by
  induction h with
  | nil => exact .nil
  | cons r _ ih => exact .cons (.lst r (dpI _)) ih
end Ms
set_option Elab.async false
set_option linter.all false
set_option maxRecDepth 100000
set_option maxHeartbeats 4000000
namespace K05
open PySem PySem.Spec PyProof.Rows L2 Ms
abbrev CS (K : PySem.W.Frag) : Addr := He.ga K "Sight"
abbrev SD (K : PySem.W.Frag) : Addr := He.ga K "SizesDiffer"
abbrev ND (K : PySem.W.Frag) : Addr := He.ga K "NoDeals"
/-- a sight at p: the row of its marks -/
structure SightAt (K : PySem.W.Frag) (H : Hp) (p : Addr) (r : List Nat) : Prop where
  ex : ∃ dx t c, H p = some (.ins (CS K) dx [("size", .int (r.length : Nat)), ("marks", .ref t), ("_cells", .ref c)]) ∧ H t = some (.tup (nV r)) ∧ CellsAt H c (cellsOf r)
  row : Row r
  pos : 0 < r.length
  few : r.length ≤ 16777216
theorem SightAt.same {K : PySem.W.Frag} {H H' : Hp} (s : Same H H') {p : Addr} {r : List Nat} (h : SightAt K H p r) : SightAt K H' p r :=
  let ⟨dx, t, c, h1, h2, h3⟩ := h.ex
  ⟨⟨dx, t, c, s _ _ h1, s _ _ h2, h3.same s⟩, h.row, h.pos, h.few⟩
theorem row_lt {r : List Nat} (h : Row r) : ∀ x ∈ r, x < r.length := fun x hx => by
  rw [← show ren r = r from h] at hx
  have h1 := ren_lt hx
  have h2 := firsts_le r
  omega
/-- marks in a list or a tuple, or pairs of them in a list -/
def MarksAt (K : PySem.W.Frag) (H : Hp) (a : Addr) (r : List Nat) : Prop := ∃ xs : List V, xs.length ≤ 16777216 ∧ ((∃ ns : List Int, xs = ns.map V.int ∧ r = ren ns ∧ (SqL K H a xs ∨ SqT K H a xs)) ∨
  ∃ (ts : List Addr) (ps : List (Int × Int)), xs = ts.map V.ref ∧ r = ren ps ∧ Paired (fun t p => H t = some (pairV p)) ts ps ∧ SqL K H a xs)
theorem MarksAt.same {K : PySem.W.Frag} {H H' : Hp} (s : Same H H') {a : Addr} {r : List Nat} (h : MarksAt K H a r) : MarksAt K H' a r := by
  obtain ⟨xs, hz, h⟩ := h
  refine ⟨xs, hz, ?_⟩
  rcases h with ⟨ns, e1, e2, h | h⟩ | ⟨ts, ps, e1, e2, h, g⟩
  · exact .inl ⟨ns, e1, e2, .inl (Same.seq s h)⟩
  · exact .inl ⟨ns, e1, e2, .inr (Same.sqT s h)⟩
  · exact .inr ⟨ts, ps, e1, e2, pimp (fun _ _ _ z => s _ _ z) h, Same.seq s g⟩
theorem MarksAt.few {K : PySem.W.Frag} {H : Hp} {a : Addr} {r : List Nat} (h : MarksAt K H a r) : r.length ≤ 16777216 ∧ Row r := by
  obtain ⟨xs, hz, h⟩ := h
  rcases h with ⟨ns, rfl, rfl, _⟩ | ⟨ts, ps, rfl, rfl, h, _⟩
  · rw [List.length_map] at hz
    exact ⟨by rw [ren_len]; exact hz, row_ren _⟩
  · rw [List.length_map] at hz
    exact ⟨by rw [ren_len, ← Paired.length h]; exact hz, row_ren _⟩
theorem MarksAt.sp {K : PySem.W.Frag} {H : Hp} {a : Addr} {r : List Nat} {Q : VK} {E : XK} (h : MarksAt K H a r) (hQ : ∀ H' p, Same H H' → H p = none → H' p = some (.tup (nV r)) → Q (.ref p) H') : spRen K [.ref a] H Q E := by
  obtain ⟨xs, hz, h⟩ := h
  have big : (16777216 : Nat) ≤ sizeLine := by decide
  unfold spRen
  refine ⟨a, xs, r, rfl, Nat.le_trans hz big, ?_⟩
  rcases h with ⟨ns, e1, e2, h⟩ | ⟨ts, ps, e1, e2, h, g⟩
  · exact .inl ⟨ns, e1, e2, h, hQ⟩
  · exact .inr ⟨ts, ps, e1, e2, h, g, hQ⟩
/-! ### SizesDiffer -/
def spSD (K : PySem.W.Frag) : Sp := fun vs H Q _ => ∃ a x y, vs = [.ref a, x, y] ∧ H a = some (exo a (SD K) none) ∧
  ∀ d, H d = none → d ≠ a → Q .non (upd (upd (upd H d (exd d [("one", x)])) a (exo a (SD K) (some d))) d (exd d [("two", y), ("one", x)]))
section
variable {P : Program} {w : World} {K : PySem.W.Frag} {mg : Str → Option Value} {base : Heap}
theorem fn_sd (T : Tx K mg) : ∃ fd ps, FnOk P w K mg base (L2.CX P w) 1 (He.ma K (SD K) "__init__") fd ps (spSD K) ∧ Binds K fd ps [] := by
  refine fn_ok T.d_SizesDifferu__initu_ scSizesDifferu__initu_ (fun vs H Q E h => ?_) bi_SizesDifferu__initu_ fun cdv A outer s H vs Q E hr h => ?_
  · obtain ⟨a, x, y, rfl, _⟩ := h
    rfl
  obtain ⟨a, x, y, rfl, ha, hQ⟩ := h
  refine ⟨_, pss_cons (ps_ost (pv 0) (pv 1)) (pss_one (ps_ost (pv 0) (pv 2))), ?_⟩
  refine ⟨_, rfl, _, rfl, a, SD K, rfl, T.oe_SizesDiffer, T.nS_one, .inl ⟨ha, fun d nd ne => ?_⟩⟩
  refine ⟨_, rfl, _, rfl, a, SD K, rfl, T.oe_SizesDiffer, T.nS_two, .inr ⟨d, [("one", x)], upd_same .., ?_, by show 1 ≤ 900; decide, hQ d nd ne⟩⟩
  rw [upd_ne ne, upd_same]
/-- raise SizesDiffer(one.size, two.size), unless they are of one size -/
def spCheck (K : PySem.W.Frag) : Sp := fun vs H Q E => ∃ p q r t, vs = [.ref p, .ref q] ∧ SightAt K H p r ∧ SightAt K H q t ∧ (r.length = t.length → Q .non H) ∧
  (r.length ≠ t.length → ∀ d H', H d = none → H' d = some (.xd [("two", .int (t.length : Nat)), ("one", .int (r.length : Nat))]) → (∀ b, b ≠ d → H' b = H b) → E (.ref (SD K)) (some d) H')
theorem passF {X : Cx} : Passes (L2.CX X.prog X.w) X (fun _ _ _ => False) := fun pins σ H s e s' I c => (passN (X := X) σ) pins H s e s' I c
theorem ok_check_sizes (T : Tx K mg) : Ok P w K mg base "check_sizes" 3 (spCheck K) := by
  obtain ⟨fd, ps, F, hb⟩ := fn_sd (P := P) (w := w) (base := base) T
  refine ok_ofX T.a_check_sizes sccheck_sizes (fun vs H Q E h => ?_) bi_check_sizes fun cdv A outer s H vs Q E hr h => ?_
  · obtain ⟨p, q, r, t, rfl, _⟩ := h
    rfl
  obtain ⟨p, q, r, t, rfl, hp, hq, h1, h2⟩ := h
  refine ⟨_, (pss_one (ps_if (pt_cmpR op_ne (pe_fld (pv 0) rfl) (pe_fld (pv 1) rfl) (nomark _))
    (pss_one (ps_raise rfl (takes_of rfl rfl rfl rfl) (pmk_oex (dvs := []) T.oe_SizesDiffer T.ie_SizesDiffer.1 T.ie_SizesDiffer.2 F (hr.mono (by decide)) hb .nil passF (by rfl) T.g_SizesDiffer (pa_cons (pe_fld (pv 0) rfl) (pa_cons (pe_fld (pv 1) rfl) pa_nil)))))
    pss_nil)), ?_⟩
  obtain ⟨dx, tt, c, e1, _, _⟩ := hp.ex
  obtain ⟨dy, tu, cu, e2, _, _⟩ := hq.ex
  refine ⟨_, rfl, p, _, dx, _, _, rfl, e1, T.c_Sight, T.n_size, rfl, _, rfl, q, _, dy, _, _, rfl, e2, T.c_Sight, T.n_size, rfl, rfl, _, rfl, ?_⟩
  by_cases e : r.length = t.length
  · have z : (!decide (V.int (r.length : Nat) = V.int (t.length : Nat))) = false := by rw [e]; simp
    rw [z]
    exact iteF (h1 e)
  · have z : (!decide (V.int (r.length : Nat) = V.int (t.length : Nat))) = true := by
      have n : ¬ V.int (r.length : Nat) = V.int (t.length : Nat) := fun z => e (by have := V.int.inj z; omega)
      rw [decide_eq_false n] <;> rfl
    rw [z]
    refine iteT ?_
    refine ⟨_, rfl, p, _, dx, _, _, rfl, e1, T.c_Sight, T.n_size, rfl, _, rfl, q, _, dy, _, _, rfl, e2, T.c_Sight, T.n_size, rfl, by show 2 ≤ 1000; decide, fun a na => ?_⟩
    refine ⟨a, _, _, rfl, upd_same .., fun d nd ne => ⟨rfl, d, [("two", .int (t.length : Nat)), ("one", .int (r.length : Nat))], ?_, upd_same .., ?_, ?_⟩⟩
    · rw [upd_ne ne.symm, upd_same]
    · rw [upd_ne ne] at nd
      exact nd
    · refine h2 e d _ (by rw [upd_ne ne] at nd; exact nd) (upd_same ..) fun b hb => ?_
      rw [upd_ne hb]
      by_cases hba : b = a
      · rw [hba, del_same, na]
      · rw [del_ne hba, upd_ne hb, upd_ne hba, upd_ne hb, upd_ne hba]
/-! ### a new sight -/
def spInit (K : PySem.W.Frag) : Sp := fun vs H Q E => ∃ x dx a r, vs = [.ref x, .ref a] ∧ H x = some (.ins (CS K) dx []) ∧ MarksAt K H a r ∧
  (0 < r.length → ∀ H', (∀ b o, b ≠ x → H b = some o → H' b = some o) → (∃ t c, H' x = some (.ins (CS K) dx [("size", .int (r.length : Nat)), ("marks", .ref t), ("_cells", .ref c)]) ∧ H' t = some (.tup (nV r)) ∧ CellsAt H' c (cellsOf r)) → Q .non H') ∧
  (r.length = 0 → ∀ H', Same H H' → E (.ref (ND K)) none H')
theorem fn_init (T : Tx K mg) : ∃ fd ps, FnOk P w K mg base (L2.CX P w) 2 (He.ma K (CS K) "__init__") fd ps (spInit K) ∧ Binds K fd ps [] := by
  have O_renumbered : Ok P w K mg base "renumbered" 1 (spRen K) := ok_renumbered T
  have O_listed_cells : Ok P w K mg base "listed_cells" 1 (spCells K) := ok_listed_cells T
  refine fn_okX T.d_Sightu__initu_ scSightu__initu_ (fun vs H Q E h => ?_) bi_Sightu__initu_ fun cdv A outer s H vs Q E hr h => ?_
  · obtain ⟨x, dx, a, r, rfl, _⟩ := h
    rfl
  obtain ⟨x, dx, a, r, rfl, hx, hm, h1, h2⟩ := h
  obtain ⟨e1, e2, e3, e4⟩ := T.e_NoDeals
  refine ⟨_, (pss_cons (ps_set (i := 2) scSightu__initu_.nd rfl (by first | exact Or.inl rfl | exact Or.inr rfl) (pe_c (E := EN) O_renumbered hr (by decide) (fun σ => passN σ) (pa_cons (pv 1) pa_nil)))
  (pss_cons (ps_if (pt_cmpR op_eq (pe_callB (lenK K) (by rfl) T.f_len boot_len (pa_cons (pv 2) pa_nil)) pe_int (nomark _))
  (pss_one (ps_raise rfl (takes_of rfl rfl rfl rfl) (pmk_own0 PySem.F.excBase_ValueError e1 T.g_NoDeals e2 (raises_own e3 e4) (by rfl))))
  pss_nil)
  (pss_cons (ps_fld (pv 0) (pe_callB (lenK K) (by rfl) T.f_len boot_len (pa_cons (pv 2) pa_nil)) rfl)
  (pss_cons (ps_fld (pv 0) (pv 2) rfl)
  (pss_one (ps_fld (pv 0) (pe_c (E := EN) O_listed_cells hr (by decide) (fun σ => passN σ) (pa_cons (pv 2) pa_nil)) rfl)))))), ?_⟩
  refine ⟨_, rfl, ?_⟩
  show spRen K [V.ref a] H _ _
  refine hm.sp fun H1 t s1 nt ht => ?_
  refine ⟨_, rfl, t, _, rfl, .inr (.inl (.inl ht)), rfl, _, rfl, ?_⟩
  by_cases e : r.length = 0
  · have z : decide (V.int ((nV r).length : Nat) = V.int 0) = true := by rw [nV_len, e]; simp
    rw [z]
    exact iteT (h2 e H1 s1)
  · have z : decide (V.int ((nV r).length : Nat) = V.int 0) = false := by
      have n : ¬ V.int ((nV r).length : Nat) = V.int 0 := fun z => e (by have := V.int.inj z; rw [nV_len] at this; omega)
      exact decide_eq_false n
    rw [z]
    refine iteF ?_
    have x1 := s1 _ _ hx
    have tx : t ≠ x := fun z => by rw [z, hx] at nt; cases nt
    refine ⟨_, rfl, t, _, rfl, .inr (.inl (.inl ht)), _, rfl, x, _, dx, _, rfl, x1, T.c_Sight, T.n_size, by show 0 < 1000; decide, ?_⟩
    refine ⟨_, rfl, _, rfl, x, _, dx, _, rfl, upd_same .., T.c_Sight, T.n_marks, by show 1 < 1000; decide, ?_⟩
    have t2 : ∀ o o', upd (upd H1 x o) x o' t = some (.tup (nV r)) := fun o o' => by rw [upd_ne tx, upd_ne tx]; exact ht
    refine ⟨_, rfl, t, r, rfl, .inl (.inl (t2 _ _)), hm.few.1, hm.few.2, by omega, fun H2 c s2 nc hc => ?_⟩
    refine ⟨_, rfl, x, _, dx, _, rfl, s2 _ _ (upd_same ..), T.c_Sight, T.n_cells, by show 2 < 1000; decide, ?_⟩
    rw [nV_len]
    have keep : ∀ b o, b ≠ x → upd (upd H1 x (.ins (CS K) dx (putF "size" (.int ((nV r).length : Nat)) []))) x (.ins (CS K) dx (putF "marks" (.ref t) (putF "size" (.int ((nV r).length : Nat)) []))) b = some o → H2 b = some o := fun b o _ q => s2 _ _ q
    have ne : ∀ {b : Addr} {xs : List V}, H2 b = some (.tup xs) → b ≠ x := fun {b xs} q z => by
      rw [z, s2 _ _ (upd_same ..)] at q
      cases q
    have t3 := s2 _ _ (t2 (.ins (CS K) dx (putF "size" (.int ((nV r).length : Nat)) [])) (.ins (CS K) dx (putF "marks" (.ref t) (putF "size" (.int ((nV r).length : Nat)) []))))
    refine h1 (by omega) _ (fun b o hb q => ?_) ⟨t, c, upd_same .., by rw [upd_ne tx]; exact t3, ?_⟩
    · rw [upd_ne hb]
      exact s2 _ _ (by rw [upd_ne hb, upd_ne hb]; exact s1 _ _ q)
    · obtain ⟨ts, c1, c2⟩ := hc
      exact ⟨ts, by rw [upd_ne (ne c1)]; exact c1, pimp (fun t c _ z => by rw [upd_ne (ne z)]; exact z) c2⟩
theorem cok (T : Tx K mg) : COk P w K mg base "Sight" 2 (spInit K) := ⟨fn_init T, T.k_Sight, T.g_Sight⟩
/-- what Sight(marks) asks -/
theorem make_run {t : TA} {E : L2.St → XK} {σ : L2.St} {H : Hp} {Q : VK} (h : t σ H fun vs H1 => ∃ a r, vs = [.ref a] ∧ MarksAt K H1 a r ∧ (0 < r.length → ∀ H' p, Same H1 H' → H1 p = none → SightAt K H' p r → Q (.ref p) H') ∧ (r.length = 0 → ∀ H', Same H1 H' → E σ (.ref (ND K)) none H'))
    (mono : ∀ σ H Q Q', (∀ vs H1, Q vs H1 → Q' vs H1) → t σ H Q → t σ H Q') : tMakeS (CS K) (spInit K) E t σ H Q := by
  refine mono σ H _ _ (fun vs H1 z => ?_) h
  obtain ⟨a, r, rfl, hm, h1, h2⟩ := z
  intro x dx nx nd ne
  have xx : upd (upd H1 dx (.own x)) x (.ins (CS K) dx []) x = some (.ins (CS K) dx []) := upd_same ..
  have s0 : Same H1 (upd (upd H1 dx (.own x)) x (.ins (CS K) dx [])) := fun b o q => by
    rw [upd_ne (fun z => by rw [z, nx] at q; cases q), upd_ne (fun z => by rw [z, nd] at q; cases q)]
    exact q
  refine ⟨x, dx, a, r, rfl, xx, hm.same s0, fun hp H' k ⟨t, c, g1, g2, g3⟩ => ⟨rfl, h1 hp H' x (fun b o q => k b o (fun z => by rw [z, nx] at q; cases q) (s0 _ _ q)) nx ⟨⟨dx, t, c, g1, g2, g3⟩, hm.few.2, hp, hm.few.1⟩⟩, fun e H' s1 => h2 e H' (fun b o q => s1 _ _ (s0 _ _ q))⟩
end
end K05
set_option Elab.async false
set_option linter.all false
set_option maxRecDepth 100000
set_option maxHeartbeats 4000000
namespace K05
open PySem PySem.Spec PyProof.Rows L2 Ms
/-- Sight(marks), behind its argument -/
theorem make_fin {K : PySem.W.Frag} {H : Hp} {R : Addr → Hp → Prop} {E : XK} {a : Addr} {r : List Nat} (hm : MarksAt K H a r) (h1 : 0 < r.length → ∀ H' p, Same H H' → H p = none → SightAt K H' p r → R p H') (h2 : r.length = 0 → ∀ H', Same H H' → E (.ref (ND K)) none H') :
    ∀ x dx, H x = none → H dx = none → dx ≠ x → spInit K [.ref x, .ref a] (upd (upd H dx (.own x)) x (.ins (CS K) dx [])) (fun v H2 => v = .non ∧ R x H2) E := by
  intro x dx nx nd ne
  have s0 : Same H (upd (upd H dx (.own x)) x (.ins (CS K) dx [])) := fun b o q => by
    rw [upd_ne (fun z => by rw [z, nx] at q; cases q), upd_ne (fun z => by rw [z, nd] at q; cases q)]
    exact q
  exact ⟨x, dx, a, r, rfl, upd_same .., hm.same s0, fun hp H' k ⟨t, c, g1, g2, g3⟩ => ⟨rfl, h1 hp H' x (fun b o q => k b o (fun z => by rw [z, nx] at q; cases q) (s0 _ _ q)) nx ⟨⟨dx, t, c, g1, g2, g3⟩, hm.few.2, hp, hm.few.1⟩⟩, fun e H' s1 => h2 e H' (fun b o q => s1 _ _ (s0 _ _ q))⟩
theorem cells_at {r : List Nat} (h : Row r) {i : Nat} (hi : i < r.length) : (cellsOf r)[at0 r i]? = some (places (at0 r i) r) := by
  have e : firsts r = List.range (firsts r).length := by
    have q := firsts_ren r
    rw [show ren r = r from h] at q
    exact q
  have l : at0 r i < (firsts r).length := by
    have q := of_at0 hi
    rw [← show ren r = r from h] at q
    have q2 := ren_lt (List.mem_of_getElem? q)
    rw [show ren r = r from h] at q2
    exact q2
  unfold cellsOf
  rw [List.getElem?_map, e, List.getElem?_range l] <;> rfl
/-- numbers of a sight by its cells -/
def spGet (K : PySem.W.Frag) : Sp := fun vs H Q _ => ∃ p r, vs = [.ref p] ∧ SightAt K H p r ∧ ∀ c, CellsAt H c (cellsOf r) → Q (.ref c) H
def spCellOf (K : PySem.W.Frag) : Sp := fun vs H Q _ => ∃ (p : Addr) (r : List Nat) (i : Nat), vs = [.ref p, .int (i : Nat)] ∧ SightAt K H p r ∧ i < r.length ∧ ∀ c, H c = some (.tup (nV (places (at0 r i) r))) → Q (.ref c) H
def spAlike (K : PySem.W.Frag) : Sp := fun vs H Q _ => ∃ (p : Addr) (r : List Nat) (i j : Nat), vs = [.ref p, .int (i : Nat), .int (j : Nat)] ∧ SightAt K H p r ∧ i < r.length ∧ j < r.length ∧ Q (.bl (decide (at0 r i = at0 r j))) H
def spEq (K : PySem.W.Frag) : Sp := fun vs H Q _ => ∃ p r y, vs = [.ref p, y] ∧ SightAt K H p r ∧ ((∃ q t, y = .ref q ∧ SightAt K H q t ∧ Q (.bl (decide (r = t))) H) ∨ ∃ ty, TyX K H y ty ∧ PySem.W.kitOne K ty (.ref (CS K)) = some false ∧ Q (.bl false) H)
/-- the error of two sizes -/
def Differ (K : PySem.W.Frag) (H : Hp) (E : XK) (m n : Nat) : Prop := ∀ d H', H d = none → H' d = some (.xd [("two", .int (n : Nat)), ("one", .int (m : Nat))]) → (∀ b, b ≠ d → H' b = H b) → E (.ref (SD K)) (some d) H'
def spAnd (K : PySem.W.Frag) : Sp := fun vs H Q E => ∃ p q r t, vs = [.ref p, .ref q] ∧ SightAt K H p r ∧ SightAt K H q t ∧ (r.length = t.length → ∀ H' x, Same H H' → H x = none → SightAt K H' x (ren (r.zip t)) → Q (.ref x) H') ∧ (r.length ≠ t.length → Differ K H E r.length t.length)
def spOr (K : PySem.W.Frag) : Sp := fun vs H Q E => ∃ p q r t, vs = [.ref p, .ref q] ∧ SightAt K H p r ∧ SightAt K H q t ∧ (r.length = t.length → ∀ H' x u, Same H H' → H x = none → SightAt K H' x u → Joins r t u → Q (.ref x) H') ∧ (r.length ≠ t.length → Differ K H E r.length t.length)
def spNothing (K : PySem.W.Frag) : Sp := fun vs H Q _ => ∃ n : Nat, vs = [.ref (CS K), .int (n : Nat)] ∧ 0 < n ∧ n ≤ 16777216 ∧ ∀ H' x, Same H H' → H x = none → SightAt K H' x (ren (List.replicate n (0 : Int))) → Q (.ref x) H'
def spEvery (K : PySem.W.Frag) : Sp := fun vs H Q _ => ∃ n : Nat, vs = [.ref (CS K), .int (n : Nat)] ∧ 0 < n ∧ n ≤ 16777216 ∧ ∀ H' x, Same H H' → H x = none → SightAt K H' x (ren ((List.range n).map fun i => ((i : Nat) : Int))) → Q (.ref x) H'
theorem ci (a b : Nat) (h : ((a : Nat) : Int) = (b : Int)) : a = b := by omega
section
variable {P : Program} {w : World} {K : PySem.W.Frag} {mg : Str → Option Value} {base : Heap}
theorem ints_eq (r t : List Nat) : decide ((r.map fun n => ((n : Nat) : Int)) = t.map fun n => ((n : Nat) : Int)) = decide (r = t) := by
  by_cases h : r = t
  · rw [h]; simp
  · rw [decide_eq_false h, decide_eq_false]
    intro z
    exact h ((List.map_inj_right ci).mp z)
theorem bok_eq (T : Tx K mg) : BOk P w K mg base "Sight" "__eq__" 1 (spEq K) := by
  refine ⟨fn_ok T.d_Sightu__equ_ scSightu__equ_ (fun vs H Q E h => ?_) bi_Sightu__equ_ fun cdv A outer s H vs Q E hr h => ?_, T.o_eq.sf, T.o_eq.fi, T.o_eq.fn⟩
  · obtain ⟨p, r, y, rfl, _⟩ := h
    rfl
  obtain ⟨p, r, y, rfl, hp, h⟩ := h
  refine ⟨_, (pss_one (ps_ret (pe_and (pe_callB (isK K) (by rfl) T.f_isinstance (by decide +kernel) (pa_cons (pv 1) (pa_cons (pe_glob (v := .ref (He.ga K "Sight")) rfl T.g_Sight rfl) pa_nil))) (pe_one (pe_cmpR (eqK K (hu := hr.units)) (pe_fld (pv 0) rfl) (pe_fld (pv 1) rfl) (nomark _)))))), ?_⟩
  obtain ⟨dx, t, c, e1, e2, _⟩ := hp.ex
  rcases h with ⟨q, u, rfl, hq, hQ⟩ | ⟨ty, h1, h2, hQ⟩
  · obtain ⟨dy, t', c', g1, g2, _⟩ := hq.ex
    refine ⟨_, rfl, .ref q, .ref (CS K), _, _, true, rfl, .own _, .of (.base (.ins g1 T.c_Sight T.cl_Sight.ca T.cl_Sight.cg T.cl_Sight.ct T.cl_Sight.ob)), T.is_Sight_Sight, true, rfl, ?_⟩
    refine iteT ?_
    refine ⟨_, rfl, p, _, dx, _, _, rfl, e1, T.c_Sight, T.n_marks, rfl, _, rfl, q, _, dy, _, _, rfl, g1, T.c_Sight, T.n_marks, rfl, _, _, .tup (.inl (.inl e2)) (by rw [nV_int]; exact dpI _), .tup (.inl (.inl g2)) (by rw [nV_int]; exact dpI _), shT _, shT _, ?_⟩
    rw [eqvT, ints_eq]
    exact hQ
  · refine ⟨_, rfl, y, .ref (CS K), ty, _, false, rfl, .own _, .of h1, h2, false, rfl, ?_⟩
    exact iteF hQ
end
end K05
set_option Elab.async false
set_option linter.all false
set_option maxRecDepth 100000
set_option maxHeartbeats 4000000
namespace K05
open PySem PySem.Spec PyProof.Rows L2 Ms
def spWhole : Sp := fun vs H Q _ => ∃ i, vs = [.int i] ∧ Q (.bl true) H
def spCellL (K : PySem.W.Frag) : Sp := fun vs H Q _ => ∃ (a : Addr) (ns : List Int) (k : Nat), vs = [.ref a, .int (k : Nat)] ∧ SqL K H a (ns.map V.int) ∧ ∀ z : Int, Q (.int z) H
def spDigits (K : PySem.W.Frag) : Sp := fun vs H Q _ => ∃ (c : Int) (s : Addr) (ss : List Nat), vs = [.int c, .ref s] ∧ SqL K H s (nV ss) ∧ (∀ x ∈ ss, 0 < x ∧ x < 1073741824) ∧ ss.length ≤ 16777216 ∧
  ∀ H' p ds, Same H H' → H p = none → H' p = some (.lst (nV ds)) → ds.length = ss.length → (∀ i, i < ss.length → at0 ds i < at0 ss i) → Q (.ref p) H'
def spGroups (K : PySem.W.Frag) : Sp := fun vs H Q _ => ∃ (a : Addr) (r : List Nat), vs = [.ref a] ∧ SqL K H a (nV r) ∧ Row r ∧ 0 < r.length ∧ r.length ≤ 16777216 ∧
  ∀ H' p ls, Same H H' → H p = none → H' p = some (.lst (ls.map V.ref)) → Paired (fun l c => H' l = some (.lst (nV c))) ls (cellsOf r) → Q (.ref p) H'
def spNumbers (K : PySem.W.Frag) : Sp := fun vs H Q _ => ∃ (t l : Addr) (xs : List Nat), vs = [.ref t, .ref l] ∧ H t = some (.tup (nV xs)) ∧ SqL K H l (nV xs) ∧ xs.length ≤ 16777216 ∧ Q (.bl true) H
def spAgrees (K : PySem.W.Frag) : Sp := fun vs H Q _ => ∃ (p l : Addr) (r : List Nat), vs = [.ref p, .ref l] ∧ SightAt K H p r ∧ SqL K H l (nV r) ∧ ∀ H', Same H H' → Q (.bl true) H'
def spAnswers (K : PySem.W.Frag) : Sp := fun vs H Q _ => ∃ (p l k : Addr) (r ls : List Nat), vs = [.ref p, .ref l, .ref k] ∧ SightAt K H p r ∧ SqL K H l (nV r) ∧ SqL K H k (nV ls) ∧ (∀ x ∈ ls, x < r.length) ∧ ∀ H', Same H H' → Q (.bl true) H'
def spLooked : Sp := fun vs H Q _ => ∃ (n : Nat) (z : Int), vs = [.int (n : Nat), .int z] ∧ 0 < n ∧ n ≤ 16777216 ∧ ∀ H' p ls, Same H H' → H p = none → H' p = some (.lst (nV ls)) → (∀ x ∈ ls, x < n) → Q (.ref p) H'
theorem nz {j : Int} (h : decide (j ≠ 0) = true) : j ≠ 0 := of_decide_eq_true h
theorem modPos {a m : Int} (h : 0 < m) : 0 ≤ a.fmod m ∧ a.fmod m < m := ⟨Int.fmod_nonneg_of_pos _ h, Int.fmod_lt_of_pos _ h⟩
section
variable {P : Program} {w : World} {K : PySem.W.Frag} {mg : Str → Option Value} {base : Heap}
theorem ok__law_cell (T : Tx K mg) : Ok P w K mg base "_law_cell" 1 (spCellL K) := by
  refine ok_of T.a__law_cell sc_law_cell (fun vs H Q E h => ?_) bi__law_cell fun cdv A outer s H vs Q E hr h => ?_
  · obtain ⟨a, ns, k, rfl, _⟩ := h
    rfl
  obtain ⟨a, ns, k, rfl, ha, hQ⟩ := h
  refine ⟨_, (pss_cons (ps_if (pt_cmpR op_lt (pv 1) (pe_callB (lenK K) (by rfl) T.f_len boot_len (pa_cons (pv 0) pa_nil)) (nomark _))
  (pss_one (ps_ret (pe_ix (ixL K) (pv 0) (pv 1) (fun _ _ => rfl))))
  pss_nil)
  (pss_cons (ps_set (i := 2) sc_law_cell.nd rfl (by first | exact Or.inl rfl | exact Or.inr rfl) pe_int)
  (pss_cons (ps_for PassesOwn.never rfl (pi_list (pv 0)) (pg_name (i := 3) sc_law_cell.nd rfl (by first | exact Or.inl rfl | exact Or.inr rfl))
  (pss_one (ps_set (i := 2) sc_law_cell.nd rfl (by first | exact Or.inl rfl | exact Or.inr rfl) (pe_op op_modN (pe_callTy call_int1 (by rfl) T.f_int (by decide +kernel) (pa_cons (pe_op op_add (pe_op op_mul (pv 2) pe_int) (pe_op op_modN (pe_callTy call_int1 (by rfl) T.f_int (by decide +kernel) (pa_cons (pv 3) pa_nil)) pe_int)) pa_nil)) pe_int))))
  (pss_one (ps_ret (pe_op op_modN (pe_callTy call_int1 (by rfl) T.f_int (by decide +kernel) (pa_cons (pe_op op_mul (pe_op op_mul (pe_op op_add (pv 2) pe_int) (pe_op op_add (pv 1) pe_int)) pe_int) pa_nil)) pe_int)))))), ?_⟩
  refine ⟨_, rfl, _, rfl, a, _, rfl, .inl ha, _, _, rfl, rfl, _, rfl, ?_⟩
  by_cases hk : k < ns.length
  · have e : decide (((k : Nat) : Int) < ((ns.map V.int).length : Nat)) = true := decide_eq_true (by rw [List.length_map]; omega)
    rw [e]
    refine iteT ⟨_, rfl, _, rfl, a, _, _, _, rfl, rfl, ha, atI_nat (by rw [List.getElem?_map, getE hk] <;> rfl), hQ _⟩
  · have e : decide (((k : Nat) : Int) < ((ns.map V.int).length : Nat)) = false := decide_eq_false (by rw [List.length_map]; omega)
    rw [e]
    refine iteF ?_
    refine ⟨_, rfl, a, rfl, ⟨_, ha⟩, for_list (xs := ns.map V.int) (fun i σ H1 => ∃ (sd : Int) (m : Option V), σ = [some (.ref a), some (.int (k : Nat)), some (.int sd), m] ∧ 0 ≤ sd ∧ sd < 1000003 ∧ H1 = H) ?_ ?_ ?_ ?_⟩
    · exact ⟨17, none, rfl, by decide, by decide, rfl⟩
    · rintro i σ H1 _ ⟨_, _, _, _, _, rfl⟩
      exact ha
    · rintro i x σ H1 hx ⟨sd, m, rfl, h1, h2, rfl⟩
      rw [List.getElem?_map] at hx
      cases en : ns[i]? with
      | none => rw [en] at hx; cases hx
      | some n =>
        rw [en] at hx
        cases hx
        refine ⟨_, rfl, _, _, rfl, rfl, .inl ⟨by omega, by omega⟩, _, rfl, .inl ⟨_, rfl, _, _, rfl, rfl, nz rfl, _, _, rfl, rfl, .inl ⟨_, rfl, _, _, rfl, rfl, nz rfl, ?_⟩⟩⟩
        obtain ⟨g1, g2⟩ := modPos (a := sd * 31 + n.fmod 1000003) (m := 1000003) (by decide)
        exact ⟨_, _, rfl, g1, g2, rfl⟩
    · rintro σ H1 ⟨sd, m, rfl, h1, h2, rfl⟩
      refine ⟨_, rfl, _, _, rfl, rfl, _, rfl, _, _, rfl, rfl, _, _, rfl, rfl, .inl ⟨by omega, by omega⟩, _, _, rfl, rfl, .inr ⟨by decide, by decide⟩, .inl ⟨_, rfl, _, _, rfl, rfl, nz rfl, hQ _⟩⟩
end
end K05
set_option Elab.async false
set_option linter.all false
set_option maxRecDepth 100000
set_option maxHeartbeats 4000000
/-! a row that is a list or a tuple: walked, walked with numbers, looked up. -/
namespace Ms
open PySem PySem.Spec PyProof.Rows L2
/-- a list or a tuple -/
def SqB (K : PySem.W.Frag) (b : Bool) (H : Hp) (a : Addr) (xs : List V) : Prop := if b = true then SqL K H a xs else SqT K H a xs
theorem SqB.either {K : PySem.W.Frag} {b : Bool} {H : Hp} {a : Addr} {xs : List V} (h : SqB K b H a xs) : SqL K H a xs ∨ SqT K H a xs := by
  cases b
  · exact .inr h
  · exact .inl h
theorem SqB.lst {K : PySem.W.Frag} {H : Hp} {a : Addr} {xs : List V} (h : SqL K H a xs) : SqB K true H a xs := h
theorem SqB.tup {K : PySem.W.Frag} {H : Hp} {a : Addr} {xs : List V} (h : SqT K H a xs) : SqB K false H a xs := h
section
variable {X : Cx} {tg : Expr}
def iSeq (K : PySem.W.Frag) (tl : TE) : TI := fun σ H R => tl σ H fun x H1 => ∃ a b xs, x = .ref a ∧ SqB K b H1 a xs ∧ ∀ J, Walk J xs.length (fun H => SqB K b H a xs) (YAt xs) → R J H1
theorem pi_seq (K : PySem.W.Frag) {l : Expr} {tl : TE} (hl : PE X l tl) (e : X.K = K := by rfl) : PI X tg l (iSeq K tl) := by
  subst e
  refine ⟨fun pins s σ H R I h => ?_⟩
  refine thn (hl.run pins s σ H _ I h) fun v s1 ⟨x, H1, I1, r1, q1⟩ => ?_
  obtain ⟨a, b, xs, e, hq, q⟩ := q1
  subst e
  cases r1
  cases b
  · obtain ⟨its, rv, p, hz⟩ := I1.tuple hq
    refine wpAny_pyIter_tuple (show s1.heap.IsTuple a its.toArray from p) ?_
    refine ⟨s1.heap.objs.size, [s1.heap.objs.size], _, _, H1, rfl, I1.kept (t' := s1.toks) fun b o e => Heap.get?_push_of_some _ e, turn_tuple a _, ⟨_, Heap.get?_push_size _ rfl, rfl, rfl⟩, fun b hb => ?_, q _ walk_tup⟩
    have e : b = s1.heap.objs.size := by simpa using hb
    subst e
    exact I1.fpOk (Nat.le_refl _) (I1.hok.fresh (Nat.le_refl _))
  · obtain ⟨its, rv, p, hz⟩ := I1.list hq
    refine wpAny_pyIter_list p.isList ?_
    refine ⟨s1.heap.objs.size, [s1.heap.objs.size], _, _, H1, rfl, I1.kept (t' := s1.toks) fun b o e => Heap.get?_push_of_some _ e, turn_list a _, ⟨_, Heap.get?_push_size _ rfl, rfl, rfl⟩, fun b hb => ?_, q _ walk_list⟩
    have e : b = s1.heap.objs.size := by simpa using hb
    subst e
    exact I1.fpOk (Nat.le_refl _) (I1.hok.fresh (Nat.le_refl _))
def iEnumS (K : PySem.W.Frag) (ta : TA) : TI := fun σ H R => ta σ H fun vs H1 => ∃ a b xs, vs = [.ref a] ∧ SqB K b H1 a xs ∧ ∀ J, Walk J xs.length (fun H => SqB K b H a xs) (YPair (fun i => some (.int (i : Nat))) (fun i => xs[i]?)) → R J H1
theorem pi_enumS (K : PySem.W.Frag) {e : Expr} {ta : TA} {p pos tpos : Pos} {elts : List Expr} {kk : Nat} (hg : Gl X "enumerate") (hm : X.mg "enumerate" = none) (ha : PA X [e] ta) (hs : starEach [e] X.env = [(false, eval e X.env)] := by rfl) (hK : X.K = K := by rfl) :
    PI X (.Tuple elts kk tpos) (.Call (.Name "enumerate" p) [e] [] pos) (iEnumS K ta) := by
  subst hK
  refine ⟨fun pins s σ H R I h => ?_⟩
  refine Call_ (ld_blt I hg hm boot_enumerate (PyProof.Rows.callWith_type1 (thn (ha.run pos pins s σ H _ I h) fun us s1 ⟨vs, H1, I1, r1, q1⟩ => ?_) hs rfl))
  obtain ⟨a, b, xs, ex, hq, q⟩ := q1
  subst ex
  cases r1 with
  | cons r rr =>
    cases rr
    cases r
    cases b
    · obtain ⟨its, rv, p', hz⟩ := I1.tuple hq
      obtain ⟨o1, ho1, _⟩ := id p'
      have la : a < s1.heap.objs.size := Heap.lt_size ho1
      refine MsE.call_enum (items := its.toArray) p' fun h' he hit hk => wpAny_pyIter_enum he ?_
      have I2 : Inv X pins σ H1 { s1 with heap := h' } := I1.kept (t' := s1.toks) hk
      refine ⟨s1.heap.objs.size + 1, [s1.heap.objs.size + 1, s1.heap.objs.size], _, _, H1, rfl, I2, turn_enumT a (s1.heap.objs.size + 1) s1.heap.objs.size (Nat.ne_of_lt (Nat.lt_succ_of_lt la)) (Nat.ne_of_lt la) (Nat.succ_ne_self _), ⟨⟨.none, he⟩, hit⟩, fun b hb => ?_, q _ walk_enumT⟩
      have hle : s1.heap.objs.size ≤ b := by
        rcases (by simpa using hb : b = s1.heap.objs.size + 1 ∨ b = s1.heap.objs.size) with z | z
        · rw [z]; exact Nat.le_add_right _ _
        · rw [z]; exact Nat.le_refl _
      exact I1.fpOk hle (I1.hok.fresh hle)
    · obtain ⟨its, rv, p', hz⟩ := I1.list hq
      refine call_enumerate_list p'.isList fun h' he hit hsz hk => wpAny_pyIter_enum he ?_
      have I2 : Inv X pins σ H1 { s1 with heap := h' } := I1.kept (t' := s1.toks) hk
      refine ⟨s1.heap.objs.size + 1, [s1.heap.objs.size + 1, s1.heap.objs.size], _, _, H1, rfl, I2, turn_enum a (s1.heap.objs.size + 1) s1.heap.objs.size, ⟨⟨.none, he⟩, hit, Nat.succ_ne_self _⟩, fun b hb => ?_, q _ walk_enum⟩
      have e' : b = s1.heap.objs.size + 1 ∨ b = s1.heap.objs.size := by simpa using hb
      have hle : s1.heap.objs.size ≤ b := by
        rcases e' with z | z
        · rw [z]; exact Nat.le_add_right _ _
        · rw [z]; exact Nat.le_refl _
      exact I1.fpOk hle (I1.hok.fresh hle)
/-- an item of a list or a tuple -/
def rIxQ (K : PySem.W.Frag) : R2 := fun x y H Q => ∃ p b xs i v, x = .ref p ∧ y = .int i ∧ SqB K b H p xs ∧ atI xs i = some v ∧ Q v H
theorem ixQ (K : PySem.W.Frag) (e : X.K = K := by rfl) : IxR X (rIxQ K) := by
  have hl : IxR X (rIxL K) := ixL K e
  have ht : IxR X (rIxT K) := ixT K e
  intro value slice pins s σ H x y v u Q I rx ry h hsub
  obtain ⟨p, b, xs, i, w, e1, e2, hs, h1, h2⟩ := h
  cases b
  · exact ht value slice pins s σ H x y v u Q I rx ry ⟨p, xs, i, w, e1, e2, hs, h1, h2⟩ hsub
  · exact hl value slice pins s σ H x y v u Q I rx ry ⟨p, xs, i, w, e1, e2, hs, h1, h2⟩ hsub
end
end Ms
set_option Elab.async false
set_option linter.all false
set_option maxRecDepth 100000
set_option maxHeartbeats 4000000
/-! Ms: more rules that name the written part by itself; a comprehension of two fors. -/
namespace Ms
open PySem PySem.Spec PyProof.Rows L2
section
variable {X : Cx} {tg e o : Expr} {te ta : TE} {f : Str} {pos : Pos} (K : PySem.W.Frag)
theorem pe_fldK (ha : PE X o ta) (hK : X.K = K := by rfl) (hab : attributeBase o f X.env (eval o X.env) = eval o X.env := by rfl) : PE X (.Attribute o f pos) (tFld K ta f) := by
  subst hK
  exact pe_fld ha hab
theorem pi_tupK (he : PE X e te) (hK : X.K = K := by rfl) : PI X tg e (iTup K te) := by
  subst hK
  exact pi_tup he
theorem pi_listK (he : PE X e te) (hK : X.K = K := by rfl) : PI X tg e (iList K te) := by
  subst hK
  exact pi_list he
end
section
variable {J J1 : It} {n n1 : Nat} {G G1 : Hp → Prop} {Y Y1 : Nat → Hp → V → Hp → Prop}
/-- the inner walk of a comprehension of two fors -/
def In2 (J1 : It) (g1 : TG) (tt1 : TT) (te : TE) (vs1 : List Nat) (D : Addr) (σ2 : L2.St) (Nx : Hp → Prop) (H4 : Hp) : Prop :=
  ∃ W1 : Nat → Nat → Hp → Prop, (∃ m, W1 0 m H4) ∧ ∀ j k H, W1 j k H →
    (J1.stop j H ∧ Nx H) ∨ (J1.go j H ∧ ∃ Nx1 : Hp → Prop, (∀ H', Nx1 H' → ∃ k', k' < k ∧ W1 (j + 1) k' H') ∧ ∀ x H', J1.yld j H x H' → g1 x (wipe σ2 vs1) H' fun σ3 H5 => wipe σ3 vs1 = wipe σ2 vs1 ∧ tt1 σ3 H5 fun b H6 =>
      if b = true then te σ3 H6 fun y H7 => ∃ acc, H7 D = some (.lst acc) ∧ acc.length < sizeLine ∧ Nx1 (upd H7 D (.lst (acc ++ [y]))) else Nx1 H6)
theorem in2_it (w : Walk J1 n1 G1 Y1) {g1 : TG} {tt1 : TT} {te : TE} {vs1 : List Nat} {D : Addr} {σ2 : L2.St} {Nx : Hp → Prop} {H4 : Hp} (Pv : Nat → Hp → Prop) (h0 : Pv 0 H4) (hG : ∀ i H, i ≤ n1 → Pv i H → G1 H)
    (hs : ∀ i x H H', i < n1 → Pv i H → Y1 i H x H' → g1 x (wipe σ2 vs1) H' fun σ3 H5 => wipe σ3 vs1 = wipe σ2 vs1 ∧ tt1 σ3 H5 fun b H6 =>
      if b = true then te σ3 H6 fun y H7 => ∃ acc, H7 D = some (.lst acc) ∧ acc.length < sizeLine ∧ Pv (i + 1) (upd H7 D (.lst (acc ++ [y]))) else Pv (i + 1) H6) (hd : ∀ H, Pv n1 H → Nx H) : In2 J1 g1 tt1 te vs1 D σ2 Nx H4 := by
  refine ⟨fun i m H => m = n1 - i ∧ i ≤ n1 ∧ Pv i H, ⟨n1, by simp, Nat.zero_le _, h0⟩, ?_⟩
  rintro i m H ⟨rfl, hi, p⟩
  have q := hG i H hi p
  by_cases hlt : i < n1
  · exact .inr ⟨w.goes i H hlt q, Pv (i + 1), fun H' p' => ⟨n1 - (i + 1), by omega, rfl, hlt, p'⟩, fun x H' y => hs i x H H' hlt p (w.yields i H x H' hlt q y)⟩
  · have e : i = n1 := by omega
    subst e
    exact .inl ⟨w.stops H q, hd H p⟩
theorem lc2_it (w : Walk J n G Y) {g : TG} {tt : TT} {wi1 : TI} {g1 : TG} {tt1 : TT} {te : TE} {vs vs1 : List Nat} {σ : L2.St} {H1 : Hp} {D : Addr} {Qd : Hp → Prop} (Pv : Nat → Hp → Prop) (h0 : Pv 0 (upd H1 D (.lst []))) (hG : ∀ i H, i ≤ n → Pv i H → G H)
    (hs : ∀ i x H H', i < n → Pv i H → Y i H x H' → g x (wipe σ vs) H' fun σ2 H2 => wipe σ2 vs = wipe σ vs ∧ tt σ2 H2 fun b H3 =>
      if b = true then wi1 σ2 H3 fun J1 H4 => In2 J1 g1 tt1 te vs1 D σ2 (Pv (i + 1)) H4 else Pv (i + 1) H3) (hd : ∀ H, Pv n H → Qd H) :
    ∃ W : Nat → Nat → Hp → Prop, (∃ m, W 0 m (upd H1 D (.lst []))) ∧ ∀ i m H, W i m H →
      (J.stop i H ∧ Qd H) ∨ (J.go i H ∧ ∃ Nx : Hp → Prop, (∀ H', Nx H' → ∃ m', m' < m ∧ W (i + 1) m' H') ∧ ∀ x H', J.yld i H x H' → g x (wipe σ vs) H' fun σ2 H2 => wipe σ2 vs = wipe σ vs ∧ tt σ2 H2 fun b H3 =>
        if b = true then wi1 σ2 H3 fun J1 H4 => In2 J1 g1 tt1 te vs1 D σ2 Nx H4 else Nx H3) := by
  refine ⟨fun i m H => m = n - i ∧ i ≤ n ∧ Pv i H, ⟨n, by simp, Nat.zero_le _, h0⟩, ?_⟩
  rintro i m H ⟨rfl, hi, p⟩
  have q := hG i H hi p
  by_cases hlt : i < n
  · exact .inr ⟨w.goes i H hlt q, Pv (i + 1), fun H' p' => ⟨n - (i + 1), by omega, rfl, hlt, p'⟩, fun x H' y => hs i x H H' hlt p (w.yields i H x H' hlt q y)⟩
  · have e : i = n := by omega
    subst e
    exact .inl ⟨w.stops H q, hd H p⟩
end
end Ms
set_option Elab.async false
set_option linter.all false
set_option maxRecDepth 100000
set_option maxHeartbeats 4000000
/-! Ms: rules for tables: statements that are never reached, tuples told in full, dict of pairs, a method called with a keyword. -/
namespace Ms
open PySem PySem.Spec PyProof.Rows L2
/-- a statement that is never reached -/
theorem ps_dead {X : Cx} {st : Stmt} : PS X st (fun _ _ _ => False) := ⟨fun _ _ _ _ _ _ h => h.elim⟩
/-- a tuple whose object is told -/
def FT (H : Hp) (a : Addr) (xs : List V) : Prop := ∃ ob : Obj, H a = some (.frz ob (.tup xs)) ∧ ob.dict = none
theorem FT.same {H H' : Hp} (s : Same H H') {a : Addr} {xs : List V} (h : FT H a xs) : FT H' a xs := let ⟨ob, h1, h2⟩ := h; ⟨ob, s _ _ h1, h2⟩
theorem FT.sq {K : PySem.W.Frag} {H : Hp} {a : Addr} {xs : List V} (h : FT H a xs) : SqT K H a xs := let ⟨ob, h1, _⟩ := h; .inl (.inr ⟨ob, h1⟩)
theorem FT.rd {H : Hp} {a : Addr} {xs : List V} (h : FT H a xs) : Rd H a (.tup xs) := let ⟨ob, h1, _⟩ := h; .inr ⟨ob, h1⟩
section
variable {X : Cx} {k : Nat} {es : List Expr} {t : TA} {pos : Pos} {x1 : Nat}
def tTupF (t : TA) : TE := fun σ H Q => t σ H fun xs H1 => xs.length ≤ sizeLine ∧ ∀ p H2, H1 p = none → Same H1 H2 → FT H2 p xs → (∀ b, b ≠ p → H2 b = H1 b) → Q (.ref p) H2
theorem ft_new {H : Hp} {p : Addr} {ob : Obj} {xs : List V} (h : H p = none) (hd : ob.dict = none) : Same H (upd H p (.frz ob (.tup xs))) ∧ FT (upd H p (.frz ob (.tup xs))) p xs :=
  ⟨fun b q e => by rw [upd_ne (fun z => by rw [z, h] at e; cases e)]; exact e, ob, upd_same .., hd⟩
theorem pe_tupF {x1} (h : PA X es t) : PE X (.Tuple es x1 pos) (tTupF t) := by
  refine ⟨fun pins s σ H Q I hq => ?_⟩
  refine wpAny_Tuple_spliced (thn (h.run pos pins s σ H _ I hq) fun us s1 ⟨xs, H1, I1, r, z, q⟩ => ⟨by rw [← r.length]; exact z, ?_⟩)
  have hf : H1 s1.heap.objs.size = none := I1.hok.fresh (Nat.le_refl _)
  obtain ⟨n1, n2⟩ := ft_new (H := H1) (p := s1.heap.objs.size) (ob := { cls := .type "tuple", data := .seq us.toArray }) (xs := xs) hf rfl
  refine ⟨.ref s1.heap.objs.size, _, I1.laid (t' := s1.toks) (fun b u e => Heap.get?_push_of_some _ e) (Nat.le_refl _) ?_, rfl, q _ _ hf n1 n2 fun b hb => upd_ne hb⟩
  exact ⟨Heap.get?_push_size _ rfl, z, us, r, ⟨_, Heap.get?_push_size _ rfl, rfl, _, rfl⟩⟩
/-- tuple(xs): a list's is new -/
def rTupF (K : PySem.W.Frag) : List V → Hp → VK → Prop := fun xs H Q => ∃ p ys, xs = [.ref p] ∧ ((SqL K H p ys ∧ ∀ l H2, H l = none → Same H H2 → FT H2 l ys → (∀ b, b ≠ l → H2 b = H b) → Q (.ref l) H2) ∨ (SqT K H p ys ∧ Q (.ref p) H))
theorem tupF_raw : CallR X (.type "tuple") (rTupF X.K) := by
  intro pins s σ H xs us Q I r h
  obtain ⟨p, ys, rfl, h⟩ := h
  obtain ⟨u, rfl, rx⟩ := vals1 r
  cases rx
  rcases h with ⟨hq, q⟩ | ⟨hq, q⟩
  · obtain ⟨its, r', pl, hz⟩ := I.list hq
    have hlen := r'.length
    refine call_tuple_list pl.isList (fun h' kp => ?_) (by simp only [List.size_toArray] <;> omega)
    have I1 : Inv X pins σ H { s with heap := h' } := I.kept (t' := s.toks) kp
    have hf : H h'.objs.size = none := I1.hok.fresh (Nat.le_refl _)
    obtain ⟨n1, n2⟩ := ft_new (H := H) (p := h'.objs.size) (ob := { cls := .type "tuple", data := .seq its.toArray }) (xs := ys) hf rfl
    have I2 : Inv X pins σ (upd H h'.objs.size (.frz { cls := .type "tuple", data := .seq its.toArray } (.tup ys))) { s with heap := h'.push { cls := .type "tuple", data := .seq its.toArray } } :=
      I1.laid (t' := s.toks) (fun b o e => Heap.get?_push_of_some _ e) (Nat.le_refl _) ⟨Heap.get?_push_size _ rfl, hz, its, r', IsTup.new _ _⟩
    exact ⟨.ref h'.objs.size, _, I2, rfl, q _ _ hf n1 n2 fun b hb => upd_ne hb⟩
  · obtain ⟨its, r', pl, hz⟩ := I.tuple hq
    exact call_tuple_same pl ⟨.ref p, H, I, rfl, q⟩
theorem tupF (K : PySem.W.Frag) (e : X.K = K := by rfl) : CallR X (.type "tuple") (rTupF K) := by subst e; exact tupF_raw
/-- the pairs of a sequence, as the library tells them -/
theorem pairs_two {pins : List (Addr × Obj)} {σ : L2.St} {H : Hp} {s : Shared} (I : Inv X pins σ H s) {ps : List Addr} {kvs : List (Key × V)} (h : Paired (fun p kv => SqT X.K H p [kV kv.1, kv.2]) ps kvs) :
    ∃ (prs : List (Key × Value)) (vs : List (Value × Value)), KV kvs prs ∧ prs.length = ps.length ∧ vs.length = ps.length ∧ ∀ (j : Nat) (k v : Value), vs[j]? = some (k, v) → ps[j]? = some (ps.getD j 0) ∧ PairAt s.heap (ps.getD j 0) k v ∧ ∃ key, prs[j]? = some (key, v) ∧ keyIs key k = true := by
  obtain ⟨prs, r, hl, hp⟩ := pairs_of I h
  have us : ∃ vs : List (Value × Value), vs.length = prs.length ∧ ∀ (j : Nat) (k v : Value), vs[j]? = some (k, v) → ∃ (b : Addr), ps[j]? = some b ∧ IsTup s.heap b #[k, v] ∧ ∃ key, prs[j]? = some (key, v) ∧ keyIs key k = true := by
    clear r hl h
    induction prs generalizing ps with
    | nil => exact ⟨[], rfl, fun j k v e => by simp at e⟩
    | cons q prs ih =>
      obtain ⟨b, u, e1, e2, e3⟩ := hp 0 q rfl
      cases ps with
      | nil => simp at e1
      | cons p ps =>
        obtain ⟨vs, l1, l2⟩ := ih (ps := ps) fun j q e => by
          obtain ⟨b, u, z1, z2, z3⟩ := hp (j + 1) q (by simpa using e)
          exact ⟨b, u, by simpa using z1, z2, z3⟩
        refine ⟨(u, q.2) :: vs, by rw [List.length_cons, List.length_cons, l1], fun j k v e => ?_⟩
        cases j with
        | zero =>
          cases e
          exact ⟨b, e1, e2, q.1, rfl, e3⟩
        | succ j =>
          obtain ⟨b, z1, z2, z3⟩ := l2 j k v (by simpa using e)
          exact ⟨b, by simpa using z1, z2, by simpa using z3⟩
  obtain ⟨vs, l1, l2⟩ := us
  refine ⟨prs, vs, r, hl, l1.trans hl, fun j k v e => ?_⟩
  obtain ⟨b, z1, z2, z3⟩ := l2 j k v e
  have eb : ps.getD j 0 = b := by rw [List.getD_eq_getElem?_getD, z1] <;> rfl
  obtain ⟨o, o1, o2, n, o3⟩ := z2
  exact ⟨by rw [eb]; exact z1, by rw [eb]; exact .inl ⟨o, o1, o2, n, o3⟩, z3⟩
/-- dict(xs) of a list or a told tuple of pairs -/
def rDictQ (K : PySem.W.Frag) : List V → Hp → VK → Prop := fun xs H Q => ∃ (a : Addr) (ps : List Addr) (kvs : List (Key × V)), xs = [.ref a] ∧ (SqL K H a (ps.map V.ref) ∨ FT H a (ps.map V.ref)) ∧ Paired (fun p kv => SqT K H p [kV kv.1, kv.2]) ps kvs ∧
    ∀ p, H p = none → Q (.ref p) (upd H p (.dK (mergeK [] kvs)))
theorem dictQ (K : PySem.W.Frag) (hcalm : X.calm = true) (e : X.K = K := by rfl) : CallR X (.type "dict") (rDictQ K) := by
  subst e
  intro pins s σ H xs us Q I r q
  obtain ⟨a, ps, kvs, ex, hq, hp, q⟩ := q
  rcases hq with hq | ⟨ob, hq, hd⟩
  · exact call_dictP hcalm pins s σ H xs us Q I r ⟨a, ps, kvs, ex, hq, hp, q⟩
  subst ex
  obtain ⟨u, eu, rx⟩ := vals1 r
  subst eu
  cases rx
  obtain ⟨g1, hz, its, rv, o, ho, hc, n, hdat⟩ := I.hok a _ hq
  rw [g1] at ho
  cases ho
  have ei := refs_at rv
  subst ei
  rw [List.length_map] at hz
  obtain ⟨prs, vs, rel, hl, hl2, hpr⟩ := pairs_two I hp
  refine PySem.call_dict_pairs (knd := mixKind X.prog X.w) (kvs := prs) (PairArg.tuple (prog := X.prog) (w := X.w) a (ps.map Value.ref).toArray (fun j => ps.getD j 0) vs) (I.ok.hd hcalm) ⟨⟨ob, n, g1, hc, hd, hdat⟩, by simp [hl2], fun j k v e => ?_⟩ ⟨by rw [hl, hl2], fun j k v e => ?_⟩ (by rw [hl2]; exact hz) fun h' tk hd' k => ?_
  · obtain ⟨z1, z2, _⟩ := hpr j k v e
    exact ⟨by rw [List.getElem?_toArray, List.getElem?_map, z1] <;> rfl, z2⟩
  · obtain ⟨_, _, key, z3, z4⟩ := hpr j k v e
    exact ⟨key, z3, z4⟩
  · have hm : (s.heap.objs.size == sysModules) = false := beq_eq_false_iff_ne.mpr (Nat.ne_of_gt I.big)
    have hlen : (mergeK [] kvs).length ≤ sizeLine := by
      refine Nat.le_trans (length_mergeK kvs []) ?_
      rw [List.length_nil, Nat.zero_add, rel.length, hl]
      exact hz
    exact ⟨.ref s.heap.objs.size, upd H s.heap.objs.size (.dK (mergeK [] kvs)), I.laid (t' := tk) (fun b o e => k b o (List.not_mem_nil) e) (Nat.le_refl _) (show ObjOk X.prog X.w _ _ _ (.dK (mergeK [] kvs)) from ⟨hlen, hm, merged [] prs, KV.merge rel .nil, hd'⟩), rfl, q _ (I.hok.fresh (Nat.le_refl _))⟩
end
end Ms
set_option Elab.async false
set_option linter.all false
set_option maxRecDepth 100000
set_option maxHeartbeats 4000000
namespace K05
open PySem PySem.Spec PyProof.Rows L2 Ms
theorem same2 {H H1 H2 : Hp} (a : Same H H1) (b : Same H1 H2) : Same H H2 := fun c o q => b _ _ (a _ _ q)
theorem same_put {H H1 : Hp} {p : Addr} {o : HO} (h : H p = none) (s : Same H H1) : Same H (upd H1 p o) := fun b q e => by
  rw [upd_ne (fun z => by rw [z, h] at e; cases e)]
  exact s b q e
abbrev LETS : Str := "abcdefghijklmnopqrstuvwxyz"
abbrev DIGS : Str := "0123456789"
def Sgn (c : Nat) : Prop := c ∈ LETS.cps.toList ∨ c ∈ DIGS.cps.toList
/-- a name -/
structure Name (z : Str) : Prop where
  lo : 1 ≤ z.cps.size
  hi : z.cps.size ≤ 8
  fst : ∃ c, z.cps[0]? = some c ∧ c ∈ LETS.cps.toList
  all : ∀ (i : Nat) (c : Nat), z.cps[i]? = some c → Sgn c
def spWh : Sp := fun vs H Q _ => ∃ i, vs = [.int i] ∧ Q (.bl true) H
def spDig : Sp := fun vs H Q _ => ∃ i, vs = [.int i] ∧ 0 ≤ i ∧ i ≤ 9 ∧ Q (.bl true) H
def spName : Sp := fun vs H Q _ => ∃ z, vs = [.str z] ∧ Name z ∧ ∀ H', Same H H' → Q (.bl true) H'
def spCkName : Sp := fun vs H Q _ => ∃ z, vs = [.str z] ∧ Name z ∧ ∀ H', Same H H' → Q .non H'
section
variable {P : Program} {w : World} {K : PySem.W.Frag} {mg : Str → Option Value} {base : Heap}
theorem ok_is_whole (T : Tx K mg) : Ok P w K mg base "is_whole" 1 spWh := by
  refine ok_of T.a_is_whole scis_whole (fun vs H Q E h => ?_) bi_is_whole fun cdv A outer s H vs Q E hr h => ?_
  · obtain ⟨i, rfl, _⟩ := h
    rfl
  obtain ⟨i, rfl, hQ⟩ := h
  refine ⟨_, (pss_one (ps_ret (pe_and (pe_callB (isK K) (by rfl) T.f_isinstance (by decide +kernel) (pa_cons (pv 0) (pa_cons (pe_bltn (v := .ty "int") (by rfl) T.f_int (by decide +kernel) rfl) pa_nil))) (pe_one (pe_not (pe_callB (isK K) (by rfl) T.f_isinstance (by decide +kernel) (pa_cons (pv 0) (pa_cons (pe_bltn (v := .ty "bool") (by rfl) T.f_bool (by decide +kernel) rfl) pa_nil)))))))), ?_⟩
  refine ⟨_, rfl, .int i, .ty "int", _, _, true, rfl, .ty _, .of (.base (.int i)), T.is_int_int, true, rfl, ?_⟩
  refine iteT ?_
  refine ⟨_, rfl, .int i, .ty "bool", _, _, false, rfl, .ty _, .of (.base (.int i)), T.is_int_bool, false, rfl, hQ⟩
theorem ok_is_digit (T : Tx K mg) : Ok P w K mg base "is_digit" 2 spDig := by
  have O_is_whole : Ok P w K mg base "is_whole" 1 spWh := ok_is_whole T
  refine ok_of T.a_is_digit scis_digit (fun vs H Q E h => ?_) bi_is_digit fun cdv A outer s H vs Q E hr h => ?_
  · obtain ⟨i, rfl, _⟩ := h
    rfl
  obtain ⟨i, rfl, h0, h1, hQ⟩ := h
  refine ⟨_, (pss_one (ps_ret (pe_and (pe_c (E := EN) O_is_whole hr (by decide) (fun σ => passN σ) (pa_cons (pv 0) pa_nil)) (pe_one (pe_chain op_le op_le pe_int (pv 0) pe_int))))), ?_⟩
  refine ⟨_, rfl, i, rfl, true, rfl, ?_⟩
  refine iteT ⟨_, rfl, _, _, rfl, rfl, _, rfl, ?_⟩
  rw [decide_eq_true h0]
  refine iteT ⟨_, _, rfl, rfl, ?_⟩
  dsimp only
  rw [decide_eq_true h1]
  exact hQ
theorem ok_is_name (T : Tx K mg) : Ok P w K mg base "is_name" 1 spName := by
  obtain ⟨tL, hLETTERS⟩ := T.s_LETTERS
  obtain ⟨tD, hDIGITS⟩ := T.s_DIGITS
  refine ok_of T.a_is_name scis_name (fun vs H Q E h => ?_) bi_is_name fun cdv A outer s H vs Q E hr h => ?_
  · obtain ⟨z, rfl, _⟩ := h
    rfl
  obtain ⟨z, rfl, nm, hQ⟩ := h
  have zl : z.length ≤ sizeLine := Nat.le_trans (show z.cps.size ≤ 8 from nm.hi) (by decide)
  have d1 : decide ((1 : Int) ≤ ((z.length : Nat) : Int)) = true := decide_eq_true (by have : 1 ≤ z.length := nm.lo; omega)
  have d2 : decide (((z.length : Nat) : Int) ≤ 8) = true := decide_eq_true (by have : z.length ≤ 8 := nm.hi; omega)
  obtain ⟨c0, e0, m0⟩ := nm.fst
  refine ⟨_, (pss_cons (ps_if (PW.pt (pw_or (pt_not (pt_val (pe_callB (isK K) (by rfl) T.f_isinstance (by decide +kernel) (pa_cons (pv 0) (pa_cons (pe_bltn (v := .ty "str") (by rfl) T.f_str (by decide +kernel) rfl) pa_nil))))) (pw_or1 (pt_not (pt_chain op_le op_le pe_int (pe_callB call_len_str (by rfl) T.f_len boot_len (pa_cons (pv 0) pa_nil)) pe_int)))))
  (pss_one (ps_ret pe_bl))
  pss_nil)
  (pss_one (ps_ret (pe_and (pe_cmpR op_in_sign (pe_ix ix_str (pv 0) pe_int (fun _ _ => rfl)) (pe_glob (v := .str ("abcdefghijklmnopqrstuvwxyz" : Str)) rfl hLETTERS ⟨_, rfl⟩) (by rfl)) (pe_one (pe_callB (cr_all rfl) (by rfl) T.f_all (by decide +kernel) (pa_cons (pe_lc (own := [("sign", 1)]) (g := gName 1) rfl scis_name.nd (pi_str (pv 0)) (blkOk_by (N := ["value", "sign"]) (sc := defScope sis_name) (by decide +kernel)) (fun _ _ _ _ _ => (pg_name (i := 1) scis_name.nd rfl (by first | exact Or.inl rfl | exact Or.inr rfl))) (fun _ _ _ _ _ => pts_nil) (fun _ _ _ _ _ => (pe_or (pe_cmpR op_in_sign (pv 1) (pe_glob (v := .str ("abcdefghijklmnopqrstuvwxyz" : Str)) rfl hLETTERS ⟨_, rfl⟩) (by rfl)) (pe_one (pe_cmpR op_in_sign (pv 1) (pe_glob (v := .str ("0123456789" : Str)) rfl hDIGITS ⟨_, rfl⟩) (by rfl)))))) pa_nil))))))), ?_⟩
  refine ⟨_, rfl, .str z, .ty "str", _, _, true, rfl, .ty _, .of (.base (.str z)), T.is_str_str, true, rfl, ?_⟩
  refine iteF ?_
  refine ⟨_, rfl, z, rfl, zl, _, _, rfl, rfl, _, rfl, ?_⟩
  rw [d1]
  refine iteT ⟨_, _, rfl, rfl, _, rfl, ?_⟩
  rw [d2]
  refine iteF ?_
  refine ⟨_, rfl, z, 0, c0, rfl, rfl, zl, atI_nat (j := 0) (by rw [← Array.getElem?_toList] at e0; exact e0), c0, LETS, rfl, rfl, _, rfl, ?_⟩
  rw [decide_eq_true m0]
  refine iteT ⟨_, rfl, z, rfl, fun L nL => ?_⟩
  refine lc_it walk_str (fun i H1 => H1 L = some (.lst ((List.replicate i true).map V.bl)) ∧ Same H H1) ⟨upd_same .., same_new nL⟩ (fun _ _ _ _ => trivial) ?_ ?_
  · rintro i x H0 H1 hi ⟨q1, q2⟩ ⟨rfl, c, e, rfl⟩
    have step : H1 L = some (.lst ((List.replicate i true).map V.bl)) ∧ ((List.replicate i true).map V.bl).length < sizeLine ∧ upd H1 L (.lst ((List.replicate i true).map V.bl ++ [V.bl true])) L = some (.lst ((List.replicate (i + 1) true).map V.bl)) ∧ Same H (upd H1 L (.lst ((List.replicate i true).map V.bl ++ [V.bl true]))) := by
      refine ⟨q1, ?_, ?_, same_put nL q2⟩
      · rw [List.length_map, List.length_replicate]
        exact Nat.lt_of_lt_of_le hi (Nat.le_trans nm.hi (by decide))
      · rw [upd_same, List.replicate_succ', List.map_append] <;> rfl
    refine ⟨rfl, ?_⟩
    refine ⟨_, rfl, c, LETS, rfl, rfl, _, rfl, ?_⟩
    by_cases m : c ∈ LETS.cps.toList
    · rw [decide_eq_true m]
      exact iteT ⟨_, step⟩
    · rw [decide_eq_false m]
      refine iteF ⟨_, rfl, c, DIGS, rfl, rfl, ?_⟩
      rw [decide_eq_true ((nm.all i c e).resolve_left m)]
      exact ⟨_, step⟩
  rintro H1 ⟨q1, q2⟩
  refine ⟨L, List.replicate z.cps.size true, rfl, .inl (.inl q1), ?_⟩
  have z1 : (List.replicate z.cps.size true).all id = true := by simp
  rw [z1]
  exact hQ H1 q2
theorem ok_check_name (T : Tx K mg) : Ok P w K mg base "check_name" 2 spCkName := by
  have O_is_name : Ok P w K mg base "is_name" 1 spName := ok_is_name T
  refine ok_of T.a_check_name sccheck_name (fun vs H Q E h => ?_) bi_check_name fun cdv A outer s H vs Q E hr h => ?_
  · obtain ⟨z, rfl, _⟩ := h
    rfl
  obtain ⟨z, rfl, nm, hQ⟩ := h
  refine ⟨_, (pss_one (ps_if (pt_not (pt_val (pe_c (E := EN) O_is_name hr (by decide) (fun σ => passN σ) (pa_cons (pv 0) pa_nil))))
  (pss_one ps_dead)
  pss_nil)), ?_⟩
  exact ⟨_, rfl, z, rfl, nm, fun H' s => ⟨true, rfl, iteF (hQ H' s)⟩⟩
end
end K05
set_option Elab.async false
set_option linter.all false
set_option maxRecDepth 100000
/-! Ms, plain: steps from a set of deals, the first of the shortest ways. -/
namespace Ms
/-! ### lists to which what is new is added -/
section
variable {α : Type} [DecidableEq α]
def adds (d xs : List α) : List α := xs.foldl (fun d x => if x ∈ d then d else d ++ [x]) d
theorem adds_nil (d : List α) : adds d [] = d := rfl
theorem adds_snoc (d xs : List α) (x : α) : adds d (xs ++ [x]) = if x ∈ adds d xs then adds d xs else adds d xs ++ [x] := by
  unfold adds
  rw [List.foldl_append] <;> rfl
theorem mem_adds (d xs : List α) (y : α) : y ∈ adds d xs ↔ y ∈ d ∨ y ∈ xs := by
  induction xs using snoc_ind with
  | h0 => simp [adds_nil]
  | hs l a ih =>
    rw [adds_snoc]
    by_cases h : a ∈ adds d l
    · rw [if_pos h, ih]
      have := ih
      constructor
      · rintro (q | q)
        · exact .inl q
        · exact .inr (List.mem_append_left _ q)
      · rintro (q | q)
        · exact .inl q
        · rcases List.mem_append.mp q with q | q
          · exact .inr q
          · rw [List.mem_singleton.mp q] at this ⊢
            exact this.mp h
    · rw [if_neg h]
      simp [ih, or_assoc]
theorem nodup_adds {d : List α} (hd : d.Nodup) (xs : List α) : (adds d xs).Nodup := by
  induction xs using snoc_ind with
  | h0 => exact hd
  | hs l a ih =>
    rw [adds_snoc]
    by_cases h : a ∈ adds d l
    · rw [if_pos h]; exact ih
    · rw [if_neg h]
      refine List.nodup_append.mpr ⟨ih, List.nodup_cons.mpr ⟨List.not_mem_nil, List.nodup_nil⟩, fun x hx y hy e => ?_⟩
      rw [List.mem_singleton.mp hy] at e
      exact h (e ▸ hx)
/-- what is added -/
def news (d xs : List α) : List α := (adds d xs).drop d.length
theorem adds_eq (d xs : List α) : adds d xs = d ++ news d xs := by
  unfold news
  induction xs using snoc_ind with
  | h0 => simp [adds_nil]
  | hs l a ih =>
    have hl : d.length ≤ (adds d l).length := by rw [ih, List.length_append]; omega
    rw [adds_snoc]
    by_cases h : a ∈ adds d l
    · rw [if_pos h]; exact ih
    · rw [if_neg h, List.drop_append_of_le_length hl, ← List.append_assoc, ← ih]
theorem news_nil (d : List α) : news d [] = [] := by unfold news; rw [adds_nil]; exact List.drop_length
theorem news_old {d xs : List α} {x : α} (h : x ∈ adds d xs) : news d (xs ++ [x]) = news d xs := by
  unfold news
  rw [adds_snoc, if_pos h]
theorem news_new {d xs : List α} {x : α} (h : ¬ x ∈ adds d xs) : news d (xs ++ [x]) = news d xs ++ [x] := by
  have hl : d.length ≤ (adds d xs).length := by rw [adds_eq d xs, List.length_append]; omega
  unfold news
  rw [adds_snoc, if_neg h, List.drop_append_of_le_length hl]
theorem mem_news {d : List α} (hd : d.Nodup) (xs : List α) (y : α) : y ∈ news d xs ↔ y ∈ xs ∧ ¬ y ∈ d := by
  have h1 := mem_adds d xs y
  have h2 := nodup_adds hd xs
  rw [adds_eq] at h1 h2
  rw [List.mem_append] at h1
  obtain ⟨_, _, h3⟩ := List.nodup_append.mp h2
  constructor
  · intro q
    have nd : ¬ y ∈ d := fun z => h3 y z y q rfl
    exact ⟨(h1.mp (.inr q)).resolve_left nd, nd⟩
  · rintro ⟨q1, q2⟩
    exact (h1.mpr (.inr q1)).resolve_left q2
theorem nodup_news {d : List α} (hd : d.Nodup) (xs : List α) : (news d xs).Nodup := by
  have h2 := nodup_adds hd xs
  rw [adds_eq] at h2
  exact (List.nodup_append.mp h2).2.1
theorem nodup_le {l m : List α} (h : l.Nodup) (s : ∀ x ∈ l, x ∈ m) : l.length ≤ m.length := by
  induction l generalizing m with
  | nil => exact Nat.zero_le _
  | cons x l ih =>
    obtain ⟨h1, h2⟩ := List.nodup_cons.mp h
    have hx := s x List.mem_cons_self
    have q := ih (m := m.erase x) h2 fun y hy => (List.mem_erase_of_ne (fun (e : y = x) => h1 (by rw [← e]; exact hy))).mpr (s y (List.mem_cons_of_mem _ hy))
    rw [List.length_erase_of_mem hx] at q
    have : 0 < m.length := List.length_pos_of_mem hx
    rw [List.length_cons]
    omega
end
/-! ### steps -/
section
variable (adj : Nat → Nat → Prop) (S : Nat → Prop)
def Rch : Nat → Nat → Prop
  | 0, v => S v
  | k + 1, v => Rch k v ∨ ∃ u, Rch k u ∧ adj u v
def Dst (k v : Nat) : Prop := Rch adj S k v ∧ ∀ j, j < k → ¬ Rch adj S j v
variable {adj S}
theorem Rch.mono {k l v : Nat} (h : Rch adj S k v) (hl : k ≤ l) : Rch adj S l v := by
  induction l with
  | zero => rw [Nat.le_zero.mp hl] at h; exact h
  | succ l ih =>
    by_cases e : k = l + 1
    · rw [← e]; exact h
    · exact .inl (ih (by omega))
theorem Rch.dst {k v : Nat} (h : Rch adj S k v) : ∃ j, j ≤ k ∧ Dst adj S j v := by
  induction k with
  | zero => exact ⟨0, Nat.le_refl _, h, fun j hj => absurd hj (Nat.not_lt_zero _)⟩
  | succ k ih =>
    by_cases q : Rch adj S k v
    · obtain ⟨j, h1, h2⟩ := ih q
      exact ⟨j, by omega, h2⟩
    · exact ⟨k + 1, Nat.le_refl _, h, fun j hj z => q (z.mono (by omega))⟩
theorem Dst.uniq {k l v : Nat} (h : Dst adj S k v) (g : Dst adj S l v) : k = l := by
  rcases Nat.lt_trichotomy k l with q | q | q
  · exact absurd h.1 (g.2 k q)
  · exact q
  · exact absurd g.1 (h.2 l q)
theorem Dst.back {k v : Nat} (h : Dst adj S (k + 1) v) : ∃ u, Dst adj S k u ∧ adj u v := by
  rcases h.1 with q | ⟨u, q1, q2⟩
  · exact absurd q (h.2 k (Nat.lt_succ_self _))
  · refine ⟨u, ⟨q1, fun j hj z => ?_⟩, q2⟩
    exact h.2 (j + 1) (by omega) (.inr ⟨u, z, q2⟩)
theorem Dst.on {k u v : Nat} (h : Dst adj S k u) (g : adj u v) : ∃ j, j ≤ k + 1 ∧ Dst adj S j v := Rch.dst (k := k + 1) (.inr ⟨u, h.1, g⟩)
theorem dst_zero {v : Nat} : Dst adj S 0 v ↔ S v := ⟨fun h => h.1, fun h => ⟨h, fun j hj => absurd hj (Nat.not_lt_zero _)⟩⟩
/-- a layer that is empty is the last -/
theorem no_more {s : Nat} (h : ∀ v, ¬ Dst adj S s v) {k v : Nat} (g : Dst adj S k v) : k < s := by
  rcases Nat.lt_or_ge k s with q | q
  · exact q
  · exfalso
    induction k generalizing v with
    | zero =>
      have : s = 0 := by omega
      subst this
      exact h _ g
    | succ k ih =>
      by_cases e : s = k + 1
      · subst e; exact h _ g
      · obtain ⟨u, q1, _⟩ := g.back
        exact ih q1 (by omega)
end
/-! ### ways -/
def Lx : List Nat → List Nat → Prop
  | x :: p, y :: q => x < y ∨ (x = y ∧ Lx p q)
  | _, _ => False
theorem Lx.irrefl : ∀ p : List Nat, ¬ Lx p p
  | [], h => h
  | x :: p, h => by
    rcases h with h | ⟨_, h⟩
    · exact Nat.lt_irrefl _ h
    · exact Lx.irrefl p h
theorem Lx.trans : ∀ {p q r : List Nat}, Lx p q → Lx q r → Lx p r
  | x :: p, y :: q, z :: r, h, g => by
    rcases h with h | ⟨rfl, h⟩
    · rcases g with g | ⟨rfl, g⟩
      · exact .inl (Nat.lt_trans h g)
      · exact .inl h
    · rcases g with g | ⟨rfl, g⟩
      · exact .inl g
      · exact .inr ⟨rfl, Lx.trans h g⟩
theorem Lx.snoc : ∀ {p q : List Nat} (a b : Nat), p.length = q.length → Lx p q → Lx (p ++ [a]) (q ++ [b])
  | x :: p, y :: q, a, b, hl, h => by
    rcases h with h | ⟨rfl, h⟩
    · exact .inl h
    · exact .inr ⟨rfl, Lx.snoc a b (Nat.succ.inj hl) h⟩
theorem Lx.last : ∀ (p : List Nat) {a b : Nat}, a < b → Lx (p ++ [a]) (p ++ [b])
  | [], a, b, h => .inl h
  | x :: p, a, b, h => .inr ⟨rfl, Lx.last p h⟩
/-- shorter, or as long and ahead -/
def Sl (p q : List Nat) : Prop := p.length < q.length ∨ (p.length = q.length ∧ Lx p q)
def Se (p q : List Nat) : Prop := p = q ∨ Sl p q
theorem Sl.irrefl (p : List Nat) : ¬ Sl p p := by
  rintro (h | ⟨_, h⟩)
  · exact Nat.lt_irrefl _ h
  · exact Lx.irrefl p h
theorem Sl.trans {p q r : List Nat} (h : Sl p q) (g : Sl q r) : Sl p r := by
  rcases h with h | ⟨h1, h2⟩
  · rcases g with g | ⟨g1, g2⟩
    · exact .inl (by omega)
    · exact .inl (by omega)
  · rcases g with g | ⟨g1, g2⟩
    · exact .inl (by omega)
    · exact .inr ⟨by omega, h2.trans g2⟩
theorem Sl.snoc {p q : List Nat} (a b : Nat) (h : Sl p q) : Sl (p ++ [a]) (q ++ [b]) := by
  rcases h with h | ⟨h1, h2⟩
  · exact .inl (by rw [List.length_append, List.length_append, List.length_singleton, List.length_singleton]; omega)
  · exact .inr ⟨by rw [List.length_append, List.length_append, List.length_singleton, List.length_singleton]; omega, h2.snoc a b h1⟩
theorem Sl.last (p : List Nat) {a b : Nat} (h : a < b) : Sl (p ++ [a]) (p ++ [b]) := .inr ⟨by simp, Lx.last p h⟩
theorem Se.trans {p q r : List Nat} (h : Se p q) (g : Se q r) : Se p r := by
  rcases h with rfl | h
  · exact g
  · rcases g with rfl | g
    · exact .inr h
    · exact .inr (h.trans g)
theorem Se.anti {p q : List Nat} (h : Se p q) (g : Se q p) : p = q := by
  rcases h with h | h
  · exact h
  · rcases g with g | g
    · exact g.symm
    · exact absurd (h.trans g) (Sl.irrefl p)
theorem Se.snoc {p q : List Nat} (a : Nat) (h : Se p q) : Se (p ++ [a]) (q ++ [a]) := by
  rcases h with rfl | h
  · exact .inl rfl
  · exact .inr (h.snoc a a)
/-- a way from u to v: the deals behind u -/
inductive Pth (adj : Nat → Nat → Prop) : Nat → List Nat → Nat → Prop where
  | nil (u : Nat) : Pth adj u [] u
  | cons {u x v : Nat} {p : List Nat} (h : adj u x) (t : Pth adj x p v) : Pth adj u (x :: p) v
theorem Pth.snoc {adj : Nat → Nat → Prop} {u v x : Nat} {p : List Nat} (h : Pth adj u p v) (g : adj v x) : Pth adj u (p ++ [x]) x := by
  induction h with
  | nil u => exact .cons g (.nil _)
  | cons h t ih => exact .cons h (ih g)
theorem Pth.un {adj : Nat → Nat → Prop} {u v : Nat} {p : List Nat} (h : Pth adj u p v) : p = [] ∧ u = v ∨ ∃ q w, p = q ++ [v] ∧ Pth adj u q w ∧ adj w v := by
  induction h with
  | nil u => exact .inl ⟨rfl, rfl⟩
  | @cons u x v p h t ih =>
    rcases ih with ⟨rfl, rfl⟩ | ⟨q, w, rfl, h1, h2⟩
    · exact .inr ⟨[], u, rfl, .nil _, h⟩
    · exact .inr ⟨x :: q, w, rfl, .cons h h1, h2⟩
theorem Pth.ind {adj : Nat → Nat → Prop} {u : Nat} {C : List Nat → Nat → Prop} (h0 : C [] u) (hs : ∀ p w v, Pth adj u p w → C p w → adj w v → C (p ++ [v]) v) {p : List Nat} {v : Nat} (h : Pth adj u p v) : C p v := by
  have k : ∀ n (p : List Nat) v, p.length = n → Pth adj u p v → C p v := by
    intro n
    induction n with
    | zero =>
      intro p v hl h
      rw [List.length_eq_zero_iff.mp hl] at h ⊢
      cases h
      exact h0
    | succ n ih =>
      intro p v hl h
      rcases h.un with ⟨rfl, _⟩ | ⟨q, w, rfl, h1, h2⟩
      · cases hl
      · have : q.length = n := by simpa using hl
        exact hs q w v h1 (ih q w this h1) h2
  exact k _ p v rfl h
theorem Pth.rch {adj : Nat → Nat → Prop} {S : Nat → Prop} (sym : ∀ a b, adj a b → adj b a) {u v : Nat} {p : List Nat} (h : Pth adj u p v) (hv : S v) : Rch adj S p.length u := by
  induction h with
  | nil u => exact hv
  | cons h t ih => exact .inr ⟨_, ih hv, sym _ _ h⟩
theorem rch_pth {adj : Nat → Nat → Prop} {S : Nat → Prop} {k v : Nat} (h : Rch adj S k v) : ∃ u p, S u ∧ Pth adj u p v := by
  induction k generalizing v with
  | zero => exact ⟨v, [], h, .nil _⟩
  | succ k ih =>
    rcases h with h | ⟨w, h, g⟩
    · exact ih h
    · obtain ⟨u, p, h1, h2⟩ := ih h
      exact ⟨u, _, h1, h2.snoc g⟩
/-! ### the way that goes to the least nearer deal at each step -/
section
variable (adj : Nat → Nat → Prop) (S : Nat → Prop)
/-- from u, d steps away, by the deals of c to v, e steps away, always to the least one nearer -/
inductive Gdy : Nat → Nat → List Nat → Nat → Nat → Prop where
  | nil (u d : Nat) : Gdy u d [] u d
  | cons {u d x v e : Nat} {c : List Nat} (h : adj u x) (hd : Dst adj S d x) (hl : ∀ y, adj u y → Dst adj S d y → x ≤ y) (t : Gdy x d c v e) : Gdy u (d + 1) (x :: c) v e
variable {adj S}
theorem Gdy.snoc {u d v e x : Nat} {c : List Nat} (g : Gdy adj S u d c v (e + 1)) (h : adj v x) (hd : Dst adj S e x) (hl : ∀ y, adj v y → Dst adj S e y → x ≤ y) : Gdy adj S u d (c ++ [x]) x e := by
  generalize hz : e + 1 = z at g
  induction g with
  | nil u d => subst hz; exact .cons h hd hl (.nil _ _)
  | cons h1 h2 h3 t ih => exact .cons h1 h2 h3 (ih h hl hz)
theorem Gdy.pth {u d v e : Nat} {c : List Nat} (g : Gdy adj S u d c v e) : Pth adj u c v := by
  induction g with
  | nil u d => exact .nil _
  | cons h1 h2 h3 t ih => exact .cons h1 ih
theorem Gdy.len {u d v e : Nat} {c : List Nat} (g : Gdy adj S u d c v e) : c.length + e = d := by
  induction g with
  | nil u d => simp
  | cons h1 h2 h3 t ih => rw [List.length_cons]; omega
theorem Gdy.least (sym : ∀ a b, adj a b → adj b a) {u d v : Nat} {c : List Nat} (g : Gdy adj S u d c v 0) (hu : Dst adj S d u) : ∀ {p : List Nat} {z : Nat}, Pth adj u p z → S z → Se c p := by
  generalize hz : 0 = e at g
  induction g with
  | nil u d =>
    subst hz
    intro p z hp hs
    cases p with
    | nil => exact .inl rfl
    | cons x p => exact .inr (.inl (Nat.zero_lt_succ _))
  | @cons u d x v e c h1 h2 h3 t ih =>
    intro p z hp hs
    have ll := Gdy.len t
    have lr : d + 1 ≤ p.length := by
      rcases Nat.lt_or_ge p.length (d + 1) with q | q
      · exact absurd (hp.rch sym hs) (hu.2 _ q)
      · exact q
    rcases Nat.lt_or_ge (d + 1) p.length with q | q
    · exact .inr (.inl (by rw [List.length_cons]; omega))
    · cases hp with
      | nil => cases lr
      | @cons _ y _ p ha tp =>
        rw [List.length_cons] at q lr
        have lp : p.length = d := by omega
        have ry := tp.rch sym hs
        rw [lp] at ry
        have dy : Dst adj S d y := ⟨ry, fun j hj z => hu.2 (j + 1) (by omega) (.inr ⟨y, z, sym _ _ ha⟩)⟩
        have le := h3 y ha dy
        have lc : (x :: c).length = (y :: p).length := by rw [List.length_cons, List.length_cons]; omega
        rcases Nat.lt_or_ge x y with lt | ge
        · exact .inr (.inr ⟨lc, .inl lt⟩)
        · have e1 : x = y := by omega
          subst e1
          rcases ih h2 hz tp hs with rfl | k
          · exact .inl rfl
          · refine .inr (.inr ⟨lc, .inr ⟨rfl, ?_⟩⟩)
            rcases k with k | ⟨_, k⟩
            · exfalso
              rw [List.length_cons, List.length_cons] at lc
              omega
            · exact k
end
end Ms
set_option Elab.async false
set_option linter.all false
set_option maxRecDepth 100000
set_option maxHeartbeats 4000000
/-! dicts with numbers for keys; a comprehension of a dict. -/
namespace Ms
open PySem PySem.Spec PyProof.Rows L2
abbrev ikey (n : Nat) : Key := .inl (n : Int)
theorem ikey_inj {a b : Nat} (h : ikey a = ikey b) : a = b := by
  have := Sum.inl.inj h
  omega
/-- the keys with their values -/
def dkv (ks : List Nat) (f : Nat → V) : List (Key × V) := ks.map fun j => (ikey j, f j)
theorem dkv_len (ks : List Nat) (f : Nat → V) : (dkv ks f).length = ks.length := List.length_map ..
theorem valV_dkv (ks : List Nat) (f : Nat → V) (v : Nat) : valV (dkv ks f) (ikey v) = if v ∈ ks then some (f v) else none := by
  unfold dkv
  induction ks with
  | nil => rfl
  | cons j ks ih =>
    rw [List.map_cons]
    by_cases h : j = v
    · subst h
      rw [valV_pos (p := (ikey j, f j)) rfl, if_pos List.mem_cons_self]
    · have h2 : ¬ v = j := fun z => h z.symm
      rw [valV_neg (p := (ikey j, f j)) (fun z => h (ikey_inj z)), ih]
      simp [List.mem_cons, h2]
theorem valV_in {ks : List Nat} {f : Nat → V} {v : Nat} (h : v ∈ ks) : valV (dkv ks f) (ikey v) = some (f v) := by rw [valV_dkv, if_pos h]
theorem valV_out {ks : List Nat} {f : Nat → V} {v : Nat} (h : ¬ v ∈ ks) : valV (dkv ks f) (ikey v) = none := by rw [valV_dkv, if_neg h]
theorem dkv_snoc (ks : List Nat) (f : Nat → V) (v : Nat) : dkv (ks ++ [v]) f = dkv ks f ++ [(ikey v, f v)] := by
  unfold dkv
  rw [List.map_append] <;> rfl
theorem dkv_new {ks : List Nat} {f : Nat → V} {v : Nat} (h : ¬ v ∈ ks) : putK (dkv ks f) (ikey v) (f v) = dkv (ks ++ [v]) f := by rw [putK_new _ (valV_out h), dkv_snoc]
theorem putK_same {κ : Type} [DecidableEq κ] {kvs : List (κ × V)} {k : κ} {x : V} (h : ∀ p ∈ kvs, p.1 = k → p.2 = x) (hk : valV kvs k ≠ none) : putK kvs k x = kvs := by
  have e : (kvs.any fun kv => decide (kv.1 = k)) = true := by
    cases q : kvs.any fun kv => decide (kv.1 = k) with
    | true => rfl
    | false =>
      exfalso
      refine hk ?_
      unfold valV
      rw [List.find?_eq_none.mpr fun p hp => ?_]
      · rfl
      · have := List.any_eq_false.mp q p hp
        simpa using this
  unfold putK
  rw [if_pos e]
  have e2 : kvs.map (fun kv => if kv.1 = k then (kv.1, x) else kv) = kvs.map id := List.map_congr_left fun p hp => by
    by_cases z : p.1 = k
    · rw [if_pos z]
      exact Prod.ext rfl (h p hp z).symm
    · rw [if_neg z] <;> rfl
  rw [e2, List.map_id]
theorem dkv_old {ks : List Nat} {f : Nat → V} {v : Nat} (h : v ∈ ks) : putK (dkv ks f) (ikey v) (f v) = dkv ks f := by
  refine putK_same (fun p hp e => ?_) (by rw [valV_in h]; exact fun z => by cases z)
  obtain ⟨j, _, rfl⟩ := List.mem_map.mp hp
  rw [ikey_inj e]
theorem dkv_adds (ks xs : List Nat) (f : Nat → V) (v : Nat) : putK (dkv (adds ks xs) f) (ikey v) (f v) = dkv (adds ks (xs ++ [v])) f := by
  rw [adds_snoc]
  by_cases h : v ∈ adds ks xs
  · rw [if_pos h, dkv_old h]
  · rw [if_neg h, dkv_new h]
/-! pairs of numbers for keys -/
abbrev pk (p : Nat × Nat) : List Key := [ikey p.1, ikey p.2]
theorem pk_inj {p q : Nat × Nat} (h : pk p = pk q) : p = q := by
  injection h with h1 h2
  injection h2 with h2 _
  exact Prod.ext (ikey_inj h1) (ikey_inj h2)
def dkp (ps : List (Nat × Nat)) : List (List Key × V) := ps.map fun p => (pk p, .bl true)
theorem dkp_len (ps : List (Nat × Nat)) : (dkp ps).length = ps.length := List.length_map ..
theorem valV_dkp (ps : List (Nat × Nat)) (p : Nat × Nat) : valV (dkp ps) (pk p) = if p ∈ ps then some (.bl true) else none := by
  unfold dkp
  induction ps with
  | nil => rfl
  | cons j ps ih =>
    rw [List.map_cons]
    by_cases h : j = p
    · subst h
      rw [valV_pos (p := (pk j, V.bl true)) rfl, if_pos List.mem_cons_self]
    · have h2 : ¬ p = j := fun z => h z.symm
      rw [valV_neg (p := (pk j, V.bl true)) (fun z => h (pk_inj z)), ih]
      simp [List.mem_cons, h2]
theorem dkp_new {ps : List (Nat × Nat)} {p : Nat × Nat} (h : ¬ p ∈ ps) : putK (dkp ps) (pk p) (.bl true) = dkp (ps ++ [p]) := by
  rw [putK_new _ (by rw [valV_dkp, if_neg h])]
  unfold dkp
  rw [List.map_append] <;> rfl
/-! a comprehension of a dict, over anything that is walked -/
theorem dc_it {J : It} {n : Nat} {G : Hp → Prop} {Y : Nat → Hp → V → Hp → Prop} (w : Walk J n G Y) {g : TG} {tt : TT} {tk tv : TE} {vs : List Nat} {σ : L2.St} {H1 : Hp} {D : Addr} {Qd : Hp → Prop} (Pv : Nat → Hp → Prop) (h0 : Pv 0 (upd H1 D (.dK []))) (hG : ∀ i H, i ≤ n → Pv i H → G H)
    (hs : ∀ i x H H', i < n → Pv i H → Y i H x H' → g x (wipe σ vs) H' fun σ2 H2 => wipe σ2 vs = wipe σ vs ∧ tt σ2 H2 fun b H3 =>
      if b = true then tk σ2 H3 fun y H4 => tv σ2 H4 fun z H5 => ∃ kvs k, y = kV k ∧ H5 D = some (.dK kvs) ∧ kvs.length < sizeLine ∧ Pv (i + 1) (upd H5 D (.dK (putK kvs k z))) else Pv (i + 1) H3) (hd : ∀ H, Pv n H → Qd H) :
    ∃ W : Nat → Nat → Hp → Prop, (∃ m, W 0 m (upd H1 D (.dK []))) ∧ ∀ i m H, W i m H →
      (J.stop i H ∧ Qd H) ∨ (J.go i H ∧ ∃ Nx : Hp → Prop, (∀ H', Nx H' → ∃ m', m' < m ∧ W (i + 1) m' H') ∧ ∀ x H', J.yld i H x H' → g x (wipe σ vs) H' fun σ2 H2 => wipe σ2 vs = wipe σ vs ∧ tt σ2 H2 fun b H3 =>
        if b = true then tk σ2 H3 fun y H4 => tv σ2 H4 fun z H5 => ∃ kvs k, y = kV k ∧ H5 D = some (.dK kvs) ∧ kvs.length < sizeLine ∧ Nx (upd H5 D (.dK (putK kvs k z))) else Nx H3) := by
  refine ⟨fun i m H => m = n - i ∧ i ≤ n ∧ Pv i H, ⟨n, by simp, Nat.zero_le _, h0⟩, ?_⟩
  rintro i m H ⟨rfl, hi, p⟩
  have q := hG i H hi p
  by_cases hlt : i < n
  · exact .inr ⟨w.goes i H hlt q, Pv (i + 1), fun H' p' => ⟨n - (i + 1), by omega, rfl, hlt, p'⟩, fun x H' y => hs i x H H' hlt p (w.yields i H x H' hlt q y)⟩
  · have e : i = n := by omega
    subst e
    exact .inl ⟨w.stops H q, hd H p⟩
end Ms
namespace Ms
open PySem PySem.Spec PyProof.Rows L2
section
variable {X : Cx}
theorem ps_setDc {i : Nat} {y : Str} {py : Pos} {kx vx tg iter : Expr} {ifs : List Expr} {scope : Scope} {own : List (Str × Nat)} {pos spos : Pos} {wi : TI} {g : TG} {tt : TT} {tk tv : TE} (hc : X.calm = true) (hN : X.N.Nodup) (hy : X.N[i]? = some y) (hyl : X.env.scope.names.lookup y = some .local)
    (hsw : swapsWith (.DictComp kx vx [⟨tg, iter, ifs, 0⟩] scope pos) (some (.Name y py)) spos.line X.env = pure true) (hi : PI X tg iter wi) (ok : BlkOk X.N X.env.scope scope own)
    (hg : ∀ (s : Shared) (H : Hp) (C : Addr) (cl : List (Str × Addr)) (fp : List Addr), PG (X.blk s H scope (compEnvC scope cl C X.env) fp) tg g) (ht : ∀ (s : Shared) (H : Hp) (C : Addr) (cl : List (Str × Addr)) (fp : List Addr), PTs (X.blk s H scope (compEnvC scope cl C X.env) fp) ifs tt)
    (hk : ∀ (s : Shared) (H : Hp) (C : Addr) (cl : List (Str × Addr)) (fp : List Addr), PE (X.blk s H scope (compEnvC scope cl C X.env) fp) kx tk)
    (he : ∀ (s : Shared) (H : Hp) (C : Addr) (cl : List (Str × Addr)) (fp : List Addr), PE (X.blk s H scope (compEnvC scope cl C X.env) fp) vx tv) (hs : ∀ x, foldedSetIterable iter X.env x = pure x := by intro _; rfl) :
    PS X (.Assign [.Name y py] (.DictComp kx vx [⟨tg, iter, ifs, 0⟩] scope pos) spos) (tAsg (tDc wi g tt tk tv (own.map (·.2))) (gName i)) := by
  refine ⟨fun pins s σ H D I h => ?_⟩
  rw [exec_Assign_Name_used _ _ _ _ hsw]
  refine wpAny_bind (wpAny_standAt (wpAny_bind ?_))
  show wpAny _ X.A (do let _ ← comprehension (.DictComp kx vx [⟨tg, iter, ifs, 0⟩] scope pos) scope X.env (firstIterPos [⟨tg, iter, ifs, 0⟩] pos) newDict false (eval iter X.env) (some (assign (.Name y py) X.env))) _ _ s
  have h : tDc wi g tt tk tv (own.map (·.2)) σ H (fun x H1 => gName i x σ H1 D.nx) := h
  refine wpAny_bind (thn (dc_core (Qf := fun _ s' => SP X pins D .next s') hc hN I hi ok hg ht hk he hs h fun L C s' m H' I' q hn f => ?_) fun _ s' hq => wpAny_pure (wpAny_pure hq))
  show wpAny _ _ (assign (.Name y py) X.env (.ref L)) _ _ _
  refine wpAny_assign_Name (store_ok2 (v := V.ref L) I' hN hy (.inl hyl) rfl (fun s2 I2 ⟨a, sb, ha⟩ => ?_) (.inr hyl))
  obtain ⟨f0, f1, f2, f3, f4, f5⟩ := f
  have haC : C ≠ a := by
    rcases ha with z | z
    · rw [z]; exact f1
    · exact fun e => f4 y a z e.symm
  refine ⟨m, hn.sameBut sb haC, fun h3 sb3 => ?_⟩
  exact ⟨_, H', I2.turned (t' := s2.toks) (fun b o hb e => (sb3.2 b hb).trans e) f0 f1 f3 f4 f5, q⟩
theorem swd_true {kx vx : Expr} {gs : List Comprehension} {scope : Scope} {pos py : Pos} {y : Str} {l : Nat} {env : Env} (hk : env.scope.kind = .function) (hy : env.scope.names.lookup y = some .local) (hl : (py.line == pos.line) = true)
    (ha : (scope.names.any fun (n, k) => n == y && (k == .local || k == .cell)) = false) : swapsWith (.DictComp kx vx gs scope pos) (some (.Name y py)) l env = pure true := by
  have ky : env.kindOf y = some .local := hy
  have hb : env.blockKind = .function := by unfold Env.blockKind; rw [hk]; rfl
  unfold swapsWith
  simp only [hb, ky, ha, Expr.pos, hl]
  rfl
end
end Ms
namespace Ms
open PySem PySem.Spec PyProof.Rows L2
section
variable {X : Cx} (K : PySem.W.Frag) (e : X.K = K := by rfl)
include e
theorem inK : OpR X (compareOp .In) (rIn K false) := by subst e; exact op_in_seq
theorem notInK : OpR X (compareOp .NotIn) (rIn K true) := by subst e; exact op_notIn_seq
theorem sortedK : CallR X (.builtin "sorted") (rSortedI K) := by subst e; exact cr_sortedI
end
end Ms
namespace Ms
open PySem PySem.Spec PyProof.Rows L2
/-- a block inside of a block -/
theorem blkOk_to {N N' : List Str} {sc sc' scope : Scope} {own : List (Str × Nat)} (h : BlkOk N sc scope own) (e1 : N' = N) (e2 : sc' = sc) : BlkOk N' sc' scope own := by
  subst e1; subst e2; exact h
end Ms
set_option Elab.async false
set_option linter.all false
set_option maxRecDepth 100000
set_option maxHeartbeats 4000000
namespace K05
open PySem PySem.Spec PyProof.Rows L2 Ms
abbrev CT (K : PySem.W.Frag) : Addr := He.ga K "Standing"
theorem pget2 {α β : Type} {F : α → β → Prop} {xs : List α} {ys : List β} (h : Paired F xs ys) {i : Nat} (hi : i < xs.length) : ∃ x y, xs[i]? = some x ∧ ys[i]? = some y ∧ F x y := by
  obtain ⟨y, e, f⟩ := LiI.paired_get h (getE hi)
  exact ⟨_, _, getE hi, e, f⟩
theorem SqB.same {K : PySem.W.Frag} {H H' : Hp} {b : Bool} {a : Addr} {xs : List V} (e : Same H H') (h : SqB K b H a xs) : SqB K b H' a xs := by
  cases b
  · exact Same.sqT e h
  · exact Same.seq e h
/-! ### all but one object as it was -/
def Off (d : Addr) (H H' : Hp) : Prop := ∀ b o, b ≠ d → H b = some o → H' b = some o
theorem Off.of {d : Addr} {H H' : Hp} (s : Same H H') : Off d H H' := fun b o _ e => s b o e
theorem Off.trans {d : Addr} {H H1 H2 : Hp} (h : Off d H H1) (g : Off d H1 H2) : Off d H H2 := fun b o n e => g b o n (h b o n e)
theorem Off.put {d : Addr} {H : Hp} {o : HO} : Off d H (upd H d o) := fun b u n e => by rw [upd_ne n]; exact e
theorem Off.all {d : Addr} {H H' : Hp} (h : Off d H H') (n : H d = none) : Same H H' := fun b o e => h b o (fun z => by rw [z, n] at e; cases e) e
/-- an instance stands at d -/
def InsAt (H : Hp) (d : Addr) : Prop := ∃ C dx fs, H d = some (.ins C dx fs)
theorem Off.tup {d a : Addr} {H H' : Hp} {xs : List V} (h : Off d H H') (i : InsAt H d) (e : H a = some (.tup xs)) : H' a = some (.tup xs) := by
  refine h a _ (fun z => ?_) e
  obtain ⟨C, dx, fs, q⟩ := i
  rw [z, q] at e
  cases e
theorem Off.dk {d a : Addr} {H H' : Hp} {xs : List (Key × V)} (h : Off d H H') (i : InsAt H d) (e : H a = some (.dK xs)) : H' a = some (.dK xs) := by
  refine h a _ (fun z => ?_) e
  obtain ⟨C, dx, fs, q⟩ := i
  rw [z, q] at e
  cases e
theorem Off.ft {d a : Addr} {H H' : Hp} {xs : List V} (h : Off d H H') (i : InsAt H d) (e : FT H a xs) : FT H' a xs := by
  obtain ⟨ob, e1, e2⟩ := e
  refine ⟨ob, h a _ (fun z => ?_) e1, e2⟩
  obtain ⟨C, dx, fs, q⟩ := i
  rw [z, q] at e1
  cases e1
theorem Off.sqT {K : PySem.W.Frag} {d a : Addr} {H H' : Hp} {xs : List V} (h : Off d H H') (i : InsAt H d) (e : SqT K H a xs) : SqT K H' a xs := by
  obtain ⟨C, dx, fs, q⟩ := i
  rcases e with (e | ⟨o, e⟩) | e
  · exact .inl (.inl (h a _ (fun z => by rw [z, q] at e; cases e) e))
  · exact .inl (.inr ⟨o, h a _ (fun z => by rw [z, q] at e; cases e) e⟩)
  · exact .inr e
theorem Off.paired {α β : Type} {F G : α → β → Prop} {xs : List α} {ys : List β} (h : Paired F xs ys) (f : ∀ x y, F x y → G x y) : Paired G xs ys := pimp (fun _ _ _ z => f _ _ z) h
/-! ### a standing -/
structure FA where
  name : Str
  da : Addr
  digits : List Nat
structure PA where
  name : Str
  sa : Addr
  wa : Addr
  row : List Nat
  wts : List Nat
/-- what a standing tells -/
structure Std where
  deals : List Nat
  facts : List (Str × List Nat)
  parts : List (Str × List Nat × List Nat)
structure Std.Ok (S : Std) : Prop where
  d1 : 0 < S.deals.length
  d2 : S.deals.length ≤ 2000
  nd : S.deals.Nodup
  fn : (S.facts.map (·.1)).Nodup
  pn : (S.parts.map (·.1)).Nodup
  fl : ∀ f ∈ S.facts, f.2.length = S.deals.length
  pl : ∀ p ∈ S.parts, p.2.1.length = S.deals.length ∧ p.2.2.length = S.deals.length
  few : S.facts.length ≤ 100
  pew : S.parts.length ≤ 100
def FA.abs (f : FA) : Str × List Nat := (f.name, f.digits)
def PA.abs (p : PA) : Str × List Nat × List Nat := (p.name, p.row, p.wts)
def FRow (K : PySem.W.Frag) (H : Hp) (q : Addr) (f : FA) : Prop := SqT K H q [.str f.name, .ref f.da] ∧ SqT K H f.da (nV f.digits)
def PRow (K : PySem.W.Frag) (H : Hp) (q : Addr) (p : PA) : Prop := ∃ mk, SqT K H q [.str p.name, .ref mk, .ref p.wa] ∧ SqT K H mk (nV p.row)
def TRow (K : PySem.W.Frag) (H : Hp) (q : Addr) (p : PA) : Prop := SqT K H q [.str p.name, .ref p.sa, .ref p.wa]
def PVal (K : PySem.W.Frag) (H : Hp) (p : PA) : Prop := SightAt K H p.sa p.row ∧ SqT K H p.wa (nV p.wts)
theorem FRow.same {K : PySem.W.Frag} {H H' : Hp} (s : Same H H') {q : Addr} {f : FA} (h : FRow K H q f) : FRow K H' q f := ⟨Same.sqT s h.1, Same.sqT s h.2⟩
theorem PRow.same {K : PySem.W.Frag} {H H' : Hp} (s : Same H H') {q : Addr} {p : PA} (h : PRow K H q p) : PRow K H' q p := let ⟨mk, h1, h2⟩ := h; ⟨mk, Same.sqT s h1, Same.sqT s h2⟩
theorem TRow.same {K : PySem.W.Frag} {H H' : Hp} (s : Same H H') {q : Addr} {p : PA} (h : TRow K H q p) : TRow K H' q p := Same.sqT s h
theorem PVal.same {K : PySem.W.Frag} {H H' : Hp} (s : Same H H') {p : PA} (h : PVal K H p) : PVal K H' p := ⟨h.1.same s, Same.sqT s h.2⟩
def sF (td tf tp tfr tpr dd ds dw dp : Addr) : List (Str × V) := [("deals", .ref td), ("facts", .ref tf), ("parties", .ref tp), ("_fact_rows", .ref tfr), ("_party_rows", .ref tpr), ("_digits", .ref dd), ("_sights", .ref ds), ("_weights", .ref dw), ("_places", .ref dp)]
def kvF (fas : List FA) : List (Key × V) := fas.map fun f => (.inr f.name, .ref f.da)
def kvS (pas : List PA) : List (Key × V) := pas.map fun p => (.inr p.name, .ref p.sa)
def kvW (pas : List PA) : List (Key × V) := pas.map fun p => (.inr p.name, .ref p.wa)
def kvP (ds : List Nat) : List (Key × V) := ds.zipIdx.map fun p => (.inl (p.1 : Nat), .int (p.2 : Nat))
structure StdAt (K : PySem.W.Frag) (H : Hp) (x : Addr) (S : Std) (td tf tp tfr tpr dd ds dw dp : Addr) (fas : List FA) (pas : List PA) (fra pra : List Addr) : Prop where
  ins : ∃ dx, H x = some (.ins (CT K) dx (sF td tf tp tfr tpr dd ds dw dp))
  td : SqT K H td (nV S.deals)
  tf : SqT K H tf (fas.map fun f => V.str f.name)
  tp : SqT K H tp (pas.map fun p => V.str p.name)
  tfr : FT H tfr (fra.map V.ref)
  fr : Paired (FRow K H) fra fas
  tpr : FT H tpr (pra.map V.ref)
  pr : Paired (PRow K H) pra pas
  dd : H dd = some (.dK (kvF fas))
  ds : H ds = some (.dK (kvS pas))
  dw : H dw = some (.dK (kvW pas))
  dp : H dp = some (.dK (kvP S.deals))
  pv : ∀ p ∈ pas, PVal K H p
  ef : S.facts = fas.map FA.abs
  ep : S.parts = pas.map PA.abs
def StandAt (K : PySem.W.Frag) (H : Hp) (x : Addr) (S : Std) : Prop := S.Ok ∧ ∃ td tf tp tfr tpr dd ds dw dp fas pas fra pra, StdAt K H x S td tf tp tfr tpr dd ds dw dp fas pas fra pra
theorem StandAt.same {K : PySem.W.Frag} {H H' : Hp} (s : Same H H') {x : Addr} {S : Std} (h : StandAt K H x S) : StandAt K H' x S := by
  obtain ⟨ok, td, tf, tp, tfr, tpr, dd, ds, dw, dp, fas, pas, fra, pra, h⟩ := h
  obtain ⟨dx, hi⟩ := h.ins
  exact ⟨ok, td, tf, tp, tfr, tpr, dd, ds, dw, dp, fas, pas, fra, pra, ⟨dx, s _ _ hi⟩, Same.sqT s h.td, Same.sqT s h.tf, Same.sqT s h.tp, h.tfr.same s, pimp (fun _ _ _ z => z.same s) h.fr, h.tpr.same s, pimp (fun _ _ _ z => z.same s) h.pr, s _ _ h.dd, s _ _ h.ds, s _ _ h.dw, s _ _ h.dp, fun p hp => (h.pv p hp).same s, h.ef, h.ep⟩
/-! ### dicts of different keys -/
theorem putK_new {kvs : List (Key × V)} {k : Key} {v : V} (h : ¬ k ∈ kvs.map (·.1)) : putK kvs k v = kvs ++ [(k, v)] := by
  unfold putK
  rw [if_neg]
  intro z
  obtain ⟨p, hp, e⟩ := List.any_eq_true.mp z
  exact h (List.mem_map.mpr ⟨p, hp, of_decide_eq_true e⟩)
theorem mergeK_nodup : ∀ {more kvs : List (Key × V)}, ((kvs ++ more).map (·.1)).Nodup → mergeK kvs more = kvs ++ more
  | [], kvs, _ => by rw [List.append_nil] <;> rfl
  | (k, v) :: more, kvs, h => by
    have hk : ¬ k ∈ kvs.map (·.1) := fun z => by
      rw [List.map_append, List.nodup_append] at h
      exact h.2.2 k z k List.mem_cons_self rfl
    show mergeK (putK kvs k v) more = _
    rw [putK_new hk, mergeK_nodup (by rw [List.append_assoc]; exact h), List.append_assoc] <;> rfl
theorem nodup_inr {l : List Str} (h : l.Nodup) : (l.map (Sum.inr : Str → Key)).Nodup := by
  induction l with
  | nil => exact List.nodup_nil
  | cons x l ih =>
    obtain ⟨a, b⟩ := List.nodup_cons.mp h
    refine List.nodup_cons.mpr ⟨fun m => ?_, ih b⟩
    obtain ⟨y, hy, e⟩ := List.mem_map.mp m
    exact a (Sum.inr.inj e ▸ hy)
theorem key_fresh {α : Type} {l : List α} {f : α → Key} {v : α → V} (h : (l.map f).Nodup) {i : Nat} {x : α} (e : l[i]? = some x) : putK ((l.take i).map fun a => (f a, v a)) (f x) (v x) = (l.take (i + 1)).map fun a => (f a, v a) := by
  rw [putK_new, List.take_add_one, e, List.map_append]
  · rfl
  · intro m
    rw [List.map_map] at m
    obtain ⟨y, hy, ey⟩ := List.mem_map.mp m
    obtain ⟨j, hj⟩ := List.getElem?_of_mem hy
    have lj := ltE hj
    rw [List.length_take] at lj
    rw [List.getElem?_take_of_lt (by omega)] at hj
    have q : j = i := (List.getElem?_inj (by rw [List.length_map]; exact ltE hj) h).mp (by rw [List.getElem?_map, List.getElem?_map, hj, e]; exact congrArg some ey)
    omega
/-- a tuple of what is a list or a tuple -/
theorem tup_any {K : PySem.W.Frag} {b : Bool} {H : Hp} {p : Addr} {ys : List V} {Q : VK} (h : SqB K b H p ys) (q : ∀ l H2, Same H H2 → SqT K H2 l ys → Q (.ref l) H2) : rTupF K [.ref p] H Q := by
  cases b
  · exact ⟨p, ys, rfl, .inr ⟨h, q p H (fun _ _ e => e) h⟩⟩
  · exact ⟨p, ys, rfl, .inl ⟨h, fun l H2 _ s f _ => q l H2 s f.sq⟩⟩
theorem tup_ft {K : PySem.W.Frag} {H : Hp} {p : Addr} {ys : List V} {Q : VK} (h : SqL K H p ys ∨ FT H p ys) (q : ∀ l H2, Same H H2 → FT H2 l ys → Q (.ref l) H2) : rTupF K [.ref p] H Q := by
  rcases h with h | h
  · exact ⟨p, ys, rfl, .inl ⟨h, fun l H2 _ s f _ => q l H2 s f⟩⟩
  · exact ⟨p, ys, rfl, .inr ⟨h.sq, q p H (fun _ _ e => e) h⟩⟩
theorem take_map {α β : Type} {h : α → β} {l : List α} {i : Nat} {x : α} (e : l[i]? = some x) : (l.take (i + 1)).map h = (l.take i).map h ++ [h x] := by
  rw [List.take_add_one, e, List.map_append] <;> rfl
end K05
set_option Elab.async false
set_option linter.all false
set_option maxRecDepth 100000
set_option maxHeartbeats 4000000
namespace K05
open PySem PySem.Spec PyProof.Rows L2 Ms
theorem fld_step {H G : Hp} {x : Addr} {C dx : Addr} {fs fs' : List (Str × V)} (hx : H x = some (.ins C dx fs)) (s : Same H G) : Off x H (upd G x (.ins C dx fs')) ∧ Off x G (upd G x (.ins C dx fs')) ∧ upd G x (.ins C dx fs') x = some (.ins C dx fs') ∧ G x = some (.ins C dx fs) :=
  ⟨(Off.of s).trans Off.put, Off.put, upd_same .., s _ _ hx⟩
def S1 (n : Nat) : Std := ⟨List.range n, [], []⟩
theorem S1_ok {n : Nat} (h0 : 1 ≤ n) (h1 : n ≤ 2000) : (S1 n).Ok := ⟨by show 0 < (List.range n).length; rw [List.length_range]; omega, by show (List.range n).length ≤ 2000; rw [List.length_range]; exact h1, List.nodup_range, List.nodup_nil, List.nodup_nil, fun f hf => (by cases hf), fun f hf => (by cases hf), Nat.zero_le _, Nat.zero_le _⟩
def kvR (n : Nat) : List (Key × V) := (List.range n).map fun j => ((Sum.inl ((j : Nat) : Int) : Key), V.int ((j : Nat) : Int))
theorem kvR_len (n : Nat) : (kvR n).length = n := by unfold kvR; rw [List.length_map, List.length_range]
theorem kvP_range (n : Nat) : kvP (List.range n) = kvR n := by
  unfold kvP kvR
  refine List.ext_getElem? fun i => ?_
  rw [List.getElem?_map, List.getElem?_map, List.getElem?_zipIdx]
  by_cases h : i < n
  · rw [List.getElem?_range h]
    show some ((Sum.inl ((i : Nat) : Int) : Key), V.int (((0 + i : Nat)) : Int)) = _
    rw [Nat.zero_add] <;> rfl
  · rw [List.getElem?_eq_none (by rw [List.length_range]; omega)] <;> rfl
theorem kvR_put (i : Nat) : putK (kvR i) (.inl ((i : Nat) : Int)) (.int ((i : Nat) : Int)) = kvR (i + 1) := by
  rw [putK_new]
  · unfold kvR
    rw [List.range_succ, List.map_append] <;> rfl
  · intro m
    unfold kvR at m
    rw [List.map_map] at m
    obtain ⟨j, hj, e⟩ := List.mem_map.mp m
    have := List.mem_range.mp hj
    have e : ((j : Nat) : Int) = ((i : Nat) : Int) := Sum.inl.inj e
    omega
def spInitS (K : PySem.W.Frag) : Sp := fun vs H Q _ => ∃ (x dx : Addr) (n : Nat), vs = [.ref x, .int (n : Nat)] ∧ H x = some (.ins (CT K) dx []) ∧ 1 ≤ n ∧ n ≤ 2000 ∧
  ∀ H', Off x H H' → (∃ td tf tp tfr tpr dd ds dw dp, StdAt K H' x (S1 n) td tf tp tfr tpr dd ds dw dp [] [] [] []) → Q .non H'
section
variable {P : Program} {w : World} {K : PySem.W.Frag} {mg : Str → Option Value} {base : Heap}
theorem fn_initS (T : Tx K mg) : ∃ fd ps, FnOk P w K mg base (L2.CX P w) 2 (He.ma K (CT K) "__init__") fd ps (spInitS K) ∧ Binds K fd ps [] := by
  have O_is_whole : Ok P w K mg base "is_whole" 1 spWh := ok_is_whole T
  refine fn_ok T.d_Standingu__initu_ scStandingu__initu_ (fun vs H Q E h => ?_) bi_Standingu__initu_ fun cdv A outer s H vs Q E hr h => ?_
  · obtain ⟨x, dx, n, rfl, _⟩ := h
    rfl
  obtain ⟨x, dx, n, rfl, hx, h0, h1, hQ⟩ := h
  have big : (16777216 : Nat) ≤ sizeLine := by decide
  have z0 : (0 : Nat) ≤ sizeLine := Nat.zero_le _
  have d1 : decide ((1 : Int) ≤ ((n : Nat) : Int)) = true := decide_eq_true (by omega)
  have d2 : decide (((n : Nat) : Int) ≤ 2000) = true := decide_eq_true (by omega)
  refine ⟨_, (pss_cons (ps_if (PW.pt (pw_or (pt_not (pt_val (pe_c (E := EN) O_is_whole hr (by decide) (fun σ => passN σ) (pa_cons (pv 1) pa_nil)))) (pw_or1 (pt_not (pt_chain op_le op_le pe_int (pv 1) pe_int)))))
  (pss_one ps_dead)
  pss_nil)
  (pss_cons (ps_fld (pv 0) (pe_tupRg rfl (by rfl) T.f_tuple (prg_1 (by rfl) T.f_range (pv 1))) rfl)
  (pss_cons (ps_fld (pv 0) (pe_tupF pa_nil) rfl)
  (pss_cons (ps_fld (pv 0) (pe_tupF pa_nil) rfl)
  (pss_cons (ps_fld (pv 0) (pe_tupF pa_nil) rfl)
  (pss_cons (ps_fld (pv 0) (pe_tupF pa_nil) rfl)
  (pss_cons (ps_fld (pv 0) pe_dnewK rfl)
  (pss_cons (ps_fld (pv 0) pe_dnewK rfl)
  (pss_cons (ps_fld (pv 0) pe_dnewK rfl)
  (pss_one (ps_fld (pv 0) (pe_dc (own := [("deal", 2)]) (g := gName 2) rfl scStandingu__initu_.nd (pi_range1 rfl T.f_range (pa_cons (pv 1) pa_nil)) (blkOk_by (N := ["self", "count", "deal"]) (sc := defScope sStandingu__initu_) (by decide +kernel)) (fun _ _ _ _ _ => (pg_name (i := 2) scStandingu__initu_.nd rfl (by first | exact Or.inl rfl | exact Or.inr rfl))) (fun _ _ _ _ _ => pts_nil) (fun _ _ _ _ _ => (pv 2)) (fun _ _ _ _ _ => (pv 2))) rfl))))))))))), ?_⟩
  refine ⟨_, rfl, _, rfl, true, rfl, ?_⟩
  refine iteF ⟨_, rfl, _, _, rfl, rfl, _, rfl, ?_⟩
  rw [d1]
  refine iteT ⟨_, _, rfl, rfl, _, rfl, ?_⟩
  rw [d2]
  refine iteF ?_
  -- deals
  refine ⟨_, rfl, _, rfl, RgOk.of_le (by decide) (by omega) (by decide) (by omega), fun td ntd => ?_⟩
  have erg : rgV 0 ((n : Nat) : Int) = nV (List.range n) := by
    unfold rgV nV
    have e : (((n : Nat) : Int) - 0).toNat = n := by omega
    rw [e]
    exact List.map_congr_left fun i _ => congrArg V.int (Int.zero_add _)
  rw [erg]
  have a1 := same_new (o := .tup (nV (List.range n))) ntd
  have b1 : upd H td (.tup (nV (List.range n))) td = some (.tup (nV (List.range n))) := upd_same ..
  generalize upd H td (.tup (nV (List.range n))) = G1 at a1 b1
  obtain ⟨c1, e1, f1, g1⟩ := fld_step (fs' := putF "deals" (.ref td) []) hx a1
  refine ⟨_, rfl, x, _, dx, _, rfl, g1, T.c_Standing, T.nt_deals, by show 0 < 1000; decide, ?_⟩
  generalize upd G1 x (.ins (CT K) dx (putF "deals" (.ref td) [])) = L1 at c1 e1 f1
  have i1 : InsAt G1 x := ⟨_, _, _, g1⟩
  refine ⟨z0, fun tf G2 ntf a2 b2 _ => ?_⟩
  obtain ⟨c2, e2, f2, g2⟩ := fld_step (fs' := (putF "facts" (.ref tf) (putF "deals" (.ref td) []))) f1 a2
  refine ⟨_, rfl, x, _, dx, _, rfl, g2, T.c_Standing, T.nt_facts, by show 1 < 1000; decide, ?_⟩
  generalize upd G2 x (.ins (CT K) dx (putF "facts" (.ref tf) (putF "deals" (.ref td) []))) = L2 at c2 e2 f2 ⊢
  have i2 : InsAt G2 x := ⟨_, _, _, g2⟩
  refine ⟨z0, fun tp G3 ntp a3 b3 _ => ?_⟩
  obtain ⟨c3, e3, f3, g3⟩ := fld_step (fs' := (putF "parties" (.ref tp) (putF "facts" (.ref tf) (putF "deals" (.ref td) [])))) f2 a3
  refine ⟨_, rfl, x, _, dx, _, rfl, g3, T.c_Standing, T.nt_parties, by show 2 < 1000; decide, ?_⟩
  generalize upd G3 x (.ins (CT K) dx (putF "parties" (.ref tp) (putF "facts" (.ref tf) (putF "deals" (.ref td) [])))) = L3 at c3 e3 f3 ⊢
  have i3 : InsAt G3 x := ⟨_, _, _, g3⟩
  refine ⟨z0, fun tfr G4 ntfr a4 b4 _ => ?_⟩
  obtain ⟨c4, e4, f4, g4⟩ := fld_step (fs' := (putF "_fact_rows" (.ref tfr) (putF "parties" (.ref tp) (putF "facts" (.ref tf) (putF "deals" (.ref td) []))))) f3 a4
  refine ⟨_, rfl, x, _, dx, _, rfl, g4, T.c_Standing, T.nt_fact_rows, by show 3 < 1000; decide, ?_⟩
  generalize upd G4 x (.ins (CT K) dx (putF "_fact_rows" (.ref tfr) (putF "parties" (.ref tp) (putF "facts" (.ref tf) (putF "deals" (.ref td) []))))) = L4 at c4 e4 f4 ⊢
  have i4 : InsAt G4 x := ⟨_, _, _, g4⟩
  refine ⟨z0, fun tpr G5 ntpr a5 b5 _ => ?_⟩
  obtain ⟨c5, e5, f5, g5⟩ := fld_step (fs' := (putF "_party_rows" (.ref tpr) (putF "_fact_rows" (.ref tfr) (putF "parties" (.ref tp) (putF "facts" (.ref tf) (putF "deals" (.ref td) [])))))) f4 a5
  refine ⟨_, rfl, x, _, dx, _, rfl, g5, T.c_Standing, T.nt_party_rows, by show 4 < 1000; decide, ?_⟩
  generalize upd G5 x (.ins (CT K) dx (putF "_party_rows" (.ref tpr) (putF "_fact_rows" (.ref tfr) (putF "parties" (.ref tp) (putF "facts" (.ref tf) (putF "deals" (.ref td) [])))))) = L5 at c5 e5 f5 ⊢
  have i5 : InsAt G5 x := ⟨_, _, _, g5⟩
  refine fun dd ndd => ?_
  have a6 := same_new (o := .dK []) ndd
  have b6 : upd L5 dd (.dK []) dd = some (.dK []) := upd_same ..
  generalize upd L5 dd (.dK []) = G6 at a6 b6
  obtain ⟨c6, e6, f6, g6⟩ := fld_step (fs' := (putF "_digits" (.ref dd) (putF "_party_rows" (.ref tpr) (putF "_fact_rows" (.ref tfr) (putF "parties" (.ref tp) (putF "facts" (.ref tf) (putF "deals" (.ref td) []))))))) f5 a6
  refine ⟨_, rfl, x, _, dx, _, rfl, g6, T.c_Standing, T.nt_digits, by show 5 < 1000; decide, ?_⟩
  generalize upd G6 x (.ins (CT K) dx (putF "_digits" (.ref dd) (putF "_party_rows" (.ref tpr) (putF "_fact_rows" (.ref tfr) (putF "parties" (.ref tp) (putF "facts" (.ref tf) (putF "deals" (.ref td) []))))))) = L6 at c6 e6 f6 ⊢
  have i6 : InsAt G6 x := ⟨_, _, _, g6⟩
  refine fun ds nds => ?_
  have a7 := same_new (o := .dK []) nds
  have b7 : upd L6 ds (.dK []) ds = some (.dK []) := upd_same ..
  generalize upd L6 ds (.dK []) = G7 at a7 b7
  obtain ⟨c7, e7, f7, g7⟩ := fld_step (fs' := (putF "_sights" (.ref ds) (putF "_digits" (.ref dd) (putF "_party_rows" (.ref tpr) (putF "_fact_rows" (.ref tfr) (putF "parties" (.ref tp) (putF "facts" (.ref tf) (putF "deals" (.ref td) [])))))))) f6 a7
  refine ⟨_, rfl, x, _, dx, _, rfl, g7, T.c_Standing, T.nt_sights, by show 6 < 1000; decide, ?_⟩
  generalize upd G7 x (.ins (CT K) dx (putF "_sights" (.ref ds) (putF "_digits" (.ref dd) (putF "_party_rows" (.ref tpr) (putF "_fact_rows" (.ref tfr) (putF "parties" (.ref tp) (putF "facts" (.ref tf) (putF "deals" (.ref td) [])))))))) = L7 at c7 e7 f7 ⊢
  have i7 : InsAt G7 x := ⟨_, _, _, g7⟩
  refine fun dw ndw => ?_
  have a8 := same_new (o := .dK []) ndw
  have b8 : upd L7 dw (.dK []) dw = some (.dK []) := upd_same ..
  generalize upd L7 dw (.dK []) = G8 at a8 b8
  obtain ⟨c8, e8, f8, g8⟩ := fld_step (fs' := (putF "_weights" (.ref dw) (putF "_sights" (.ref ds) (putF "_digits" (.ref dd) (putF "_party_rows" (.ref tpr) (putF "_fact_rows" (.ref tfr) (putF "parties" (.ref tp) (putF "facts" (.ref tf) (putF "deals" (.ref td) []))))))))) f7 a8
  refine ⟨_, rfl, x, _, dx, _, rfl, g8, T.c_Standing, T.nt_weights, by show 7 < 1000; decide, ?_⟩
  generalize upd G8 x (.ins (CT K) dx (putF "_weights" (.ref dw) (putF "_sights" (.ref ds) (putF "_digits" (.ref dd) (putF "_party_rows" (.ref tpr) (putF "_fact_rows" (.ref tfr) (putF "parties" (.ref tp) (putF "facts" (.ref tf) (putF "deals" (.ref td) []))))))))) = L8 at c8 e8 f8 ⊢
  have i8 : InsAt G8 x := ⟨_, _, _, g8⟩
  have en : ((n : Nat) : Int).toNat = n := by omega
  refine ⟨_, rfl, _, rfl, by omega, by omega, fun dp ndp => ?_⟩
  rw [en]
  refine dc_it walk_range (fun i H1 => H1 dp = some (.dK (kvR i)) ∧ Same L8 H1) ⟨upd_same .., same_new ndp⟩ (fun _ _ _ _ => trivial) ?_ ?_
  · rintro i y H0 H1 hi ⟨q1, q2⟩ ⟨rfl, hy⟩
    have hy : y = .int (i : Nat) := hy.trans (congrArg V.int (Int.zero_add _))
    subst hy
    refine ⟨rfl, _, rfl, _, rfl, _, .inl (i : Nat), rfl, q1, by rw [kvR_len]; omega, ?_, same_put ndp q2⟩
    rw [upd_same, kvR_put]
  rintro G9 ⟨b9, a9⟩
  obtain ⟨c9, e9, f9, g9⟩ := fld_step (fs' := (putF "_places" (.ref dp) (putF "_weights" (.ref dw) (putF "_sights" (.ref ds) (putF "_digits" (.ref dd) (putF "_party_rows" (.ref tpr) (putF "_fact_rows" (.ref tfr) (putF "parties" (.ref tp) (putF "facts" (.ref tf) (putF "deals" (.ref td) [])))))))))) f8 a9
  refine ⟨_, rfl, x, _, dx, _, rfl, g9, T.c_Standing, T.nt_places, by show 8 < 1000; decide, ?_⟩
  generalize upd G9 x (.ins (CT K) dx (putF "_places" (.ref dp) (putF "_weights" (.ref dw) (putF "_sights" (.ref ds) (putF "_digits" (.ref dd) (putF "_party_rows" (.ref tpr) (putF "_fact_rows" (.ref tfr) (putF "parties" (.ref tp) (putF "facts" (.ref tf) (putF "deals" (.ref td) [])))))))))) = L9 at c9 e9 f9 ⊢
  have i9 : InsAt G9 x := ⟨_, _, _, g9⟩
  have o9 : Off x L9 L9 := fun _ _ _ e => e
  have o8 : Off x L8 L9 := c9.trans o9
  have o7 : Off x L7 L9 := c8.trans o8
  have o6 : Off x L6 L9 := c7.trans o7
  have o5 : Off x L5 L9 := c6.trans o6
  have o4 : Off x L4 L9 := c5.trans o5
  have o3 : Off x L3 L9 := c4.trans o4
  have o2 : Off x L2 L9 := c3.trans o3
  have o1 : Off x L1 L9 := c2.trans o2
  have oH : Off x H L9 := c1.trans o1
  refine hQ L9 oH ⟨td, tf, tp, tfr, tpr, dd, ds, dw, dp, ⟨dx, f9⟩, (e1.trans o1).sqT i1 (.inl (.inl b1)), (e2.trans o2).sqT i2 b2.sq, (e3.trans o3).sqT i3 b3.sq, (e4.trans o4).ft i4 b4, .nil, (e5.trans o5).ft i5 b5, .nil, (e6.trans o6).dk i6 b6, (e7.trans o7).dk i7 b7, (e8.trans o8).dk i8 b8, ?_, fun p hp => (by cases hp), rfl, rfl⟩
  rw [show kvP (S1 n).deals = kvR n from kvP_range n]
  exact (e9.trans o9).dk i9 b9
end
end K05
set_option Elab.async false
set_option linter.all false
set_option maxRecDepth 100000
set_option maxHeartbeats 4000000
/-! Ms: a def called with its last arguments left out. -/
namespace Ms
open PySem PySem.Spec PyProof.Rows L2
structure OkD (P : Program) (w : World) (K : PySem.W.Frag) (mg : Str → Option Value) (base : Heap) (x : Str) (k : Nat) (sp : Sp) : Prop where
  ex : ∃ fd ps ds dvs sp', FnOk P w K mg base (L2.CX P w) k (He.ga K x) fd ps sp' ∧ Binds K fd ps ds ∧ Vals dvs ds ∧ ∀ vs H Q E, sp vs H Q E → sp' (vs ++ dvs) H Q E
  mg : mg x = some (.ref (He.ga K x))
  kp : PySem.W.keepIn K (.ref (He.ga K x)) = true
section
variable {X : Cx} {k j : Nat} {sp : Sp} {E : St → XK} {x : Str} {p pos : Pos} {e : Expr} {es : List Expr} {t : TA}
theorem pe_cD (F : OkD X.prog X.w X.K X.mg X.base x k sp) (hr : Room j X.A) (hk : k ≤ j) (hx : ∀ σ, PassesAt (L2.CX X.prog X.w) X σ (E σ)) (ha : PA X (e :: es) t) (hg : Gl X x := by rfl)
    (hdb : (x == ("__debug__" : Str)) = false := by decide) (he : starEach (e :: es) X.env = (false, eval e X.env) :: starEach es X.env := by rfl) (hpl : (backTo pos (starEach es X.env)).any (·.1) = false := by rfl) :
    PE X (.Call (.Name x p) (e :: es) [] pos) (tCallS sp E t) := by
  obtain ⟨fd, ps, ds, dvs, sp', F1, hb, hv, hs⟩ := F.ex
  exact ⟨fun pins s σ H Q I h => wpAny_Call_Name_kw (ld_glob I hg F.mg (PySem.W.callWith_K (h₀ := X.base) I.ok.mod.kin F.kp (thn (ha.run pos pins s σ H _ I h) fun us s1 ⟨vs, H1, I1, r, q⟩ => ⟨I1.kIn, run_fnSD F1 (hr.mono hk) hb hv (hx σ) I1 r (hs _ _ _ _ q)⟩) he hpl) hdb)⟩
end
end Ms
set_option Elab.async false
set_option linter.all false
set_option maxRecDepth 100000
set_option maxHeartbeats 4000000
namespace K05
open PySem PySem.Spec PyProof.Rows L2 Ms
theorem pmapR {α β γ : Type} {F : α → γ → Prop} {G : α → β → Prop} {h : β → γ} : ∀ {xs : List α} {ys : List β}, Paired G xs ys → (∀ x y, G x y → F x (h y)) → Paired F xs (ys.map h)
  | _, _, .nil, _ => .nil
  | _, _, .cons r t, f => .cons (f _ _ r) (pmapR t f)
theorem nodup_inl {l : List Nat} (h : l.Nodup) : (l.map fun d => (Sum.inl ((d : Nat) : Int) : Key)).Nodup := by
  induction l with
  | nil => exact List.nodup_nil
  | cons x l ih =>
    obtain ⟨a, b⟩ := List.nodup_cons.mp h
    refine List.nodup_cons.mpr ⟨fun m => ?_, ih b⟩
    obtain ⟨y, hy, e⟩ := List.mem_map.mp m
    have e : ((y : Nat) : Int) = (x : Int) := Sum.inl.inj e
    have : y = x := by omega
    exact a (this ▸ hy)
theorem same_off {H L0 L : Hp} {x : Addr} (s : Same H L0) (o : Off x L0 L) (n : H x = none) : Same H L := fun b u e => o b u (fun z => by rw [z, n] at e; cases e) (s b u e)
def spMade (K : PySem.W.Frag) : Sp := fun vs H Q _ => ∃ (ad af ap : Addr) (bd bp : Bool) (S : Std) (fas : List FA) (pas : List PA) (fra tra : List Addr), vs = [.ref ad, .ref af, .ref ap] ∧ S.Ok ∧ S.facts = fas.map FA.abs ∧ S.parts = pas.map PA.abs ∧
  SqB K bd H ad (nV S.deals) ∧ (SqL K H af (fra.map V.ref) ∨ FT H af (fra.map V.ref)) ∧ Paired (FRow K H) fra fas ∧ SqB K bp H ap (tra.map V.ref) ∧ Paired (TRow K H) tra pas ∧ (∀ p ∈ pas, PVal K H p) ∧
  ∀ H' p, Same H H' → H p = none → StandAt K H' p S → Q (.ref p) H'
section
variable {P : Program} {w : World} {K : PySem.W.Frag} {mg : Str → Option Value} {base : Heap}
theorem cok_S (T : Tx K mg) : COk P w K mg base "Standing" 2 (spInitS K) := ⟨fn_initS T, T.k_Standing, T.g_Standing⟩
def spMade4 (K : PySem.W.Frag) : Sp := fun vs H Q E => ∃ v0, vs = v0 ++ [.non] ∧ spMade K v0 H Q E
theorem ok_made (T : Tx K mg) : OkD P w K mg base "made_standing" 4 (spMade K) := by
  have O_Standingu__initu_ : COk P w K mg base "Standing" 2 (spInitS K) := cok_S T
  obtain ⟨fd, F⟩ := T.d_made_standing
  obtain ⟨dsv, hv, hb⟩ := F.binds1 (ps := ["deals", "facts", "parties", "places"]) 3 0 (by simp) rfl fun TT kV doc pm an cdv ct us its l1 l2 => by
    match us, its, l1, l2 with
    | [u, v, z], [w], _, _ => exact ⟨_, rfl, rfl⟩
  refine ⟨⟨fd, _, dsv, [.non], spMade4 K, F.ok (k := 3) scmade_standing (fun vs H Q E h => ?_) fun cdv A outer s H vs Q E hr h => ?_, hb, hv, fun vs H Q E h => ⟨vs, rfl, h⟩⟩, T.gd_made_standing, F.kp⟩
  · obtain ⟨v0, rfl, ad, af, ap, bd, bp, S, fas, pas, fra, tra, rfl, _⟩ := h
    rfl
  obtain ⟨v0, rfl, h⟩ := h
  obtain ⟨ad, af, ap, bd, bp, S, fas, pas, fra, tra, rfl, ok, ef, ep, hd, hf, hfr, hp, htr, hpv, hQ⟩ := h
  have big : (16777216 : Nat) ≤ sizeLine := by decide
  have fl := Paired.length hfr
  have pl := Paired.length htr
  have few : fas.length ≤ 100 := by have := ok.few; rw [ef, List.length_map] at this; exact this
  have pew : pas.length ≤ 100 := by have := ok.pew; rw [ep, List.length_map] at this; exact this
  have fnd : (fas.map fun f => (Sum.inr f.name : Key)).Nodup := by
    have z := ok.fn
    rw [ef, List.map_map] at z
    have y := nodup_inr z
    rw [List.map_map] at y
    exact y
  have pnd : (pas.map fun p => (Sum.inr p.name : Key)).Nodup := by
    have z := ok.pn
    rw [ep, List.map_map] at z
    have y := nodup_inr z
    rw [List.map_map] at y
    exact y
  obtain ⟨bf, hfB⟩ : ∃ b, SqB K b H af (fra.map V.ref) := by
    rcases hf with h | h
    · exact ⟨true, h⟩
    · exact ⟨false, h.sq⟩
  refine ⟨_, PSs.nox (pss_cons (ps_set (i := 4) scmade_standing.nd rfl (by first | exact Or.inl rfl | exact Or.inr rfl) (pe_nK K (E := EN) O_Standingu__initu_ hr (by decide) (fun σ => passN σ) (pa_cons pe_int pa_nil)))
  (pss_cons (ps_fld (pv 4) (pe_callTy (tupF K) (by rfl) T.f_tuple (by decide +kernel) (pa_cons (pv 0) pa_nil)) rfl)
  (pss_cons (ps_fld (pv 4) (pe_callTy (tupF K) (by rfl) T.f_tuple (by decide +kernel) (pa_cons (pe_lc (own := [("row", 5)]) (g := gName 5) rfl scmade_standing.nd (pi_seq K (pv 1)) (blkOk_by (N := ["deals", "facts", "parties", "places", "made", "row", "name", "sight", "weights", "_", "place", "deal"]) (sc := defScope smade_standing) (by decide +kernel)) (fun _ _ _ _ _ => (pg_name (i := 5) scmade_standing.nd rfl (by first | exact Or.inl rfl | exact Or.inr rfl))) (fun _ _ _ _ _ => pts_nil) (fun _ _ _ _ _ => (pe_ix (ixT K) (pv 5) pe_int (fun _ _ => rfl)))) pa_nil)) rfl)
  (pss_cons (ps_fld (pv 4) (pe_callTy (tupF K) (by rfl) T.f_tuple (by decide +kernel) (pa_cons (pe_lc (own := [("row", 5)]) (g := gName 5) rfl scmade_standing.nd (pi_seq K (pv 2)) (blkOk_by (N := ["deals", "facts", "parties", "places", "made", "row", "name", "sight", "weights", "_", "place", "deal"]) (sc := defScope smade_standing) (by decide +kernel)) (fun _ _ _ _ _ => (pg_name (i := 5) scmade_standing.nd rfl (by first | exact Or.inl rfl | exact Or.inr rfl))) (fun _ _ _ _ _ => pts_nil) (fun _ _ _ _ _ => (pe_ix (ixT K) (pv 5) pe_int (fun _ _ => rfl)))) pa_nil)) rfl)
  (pss_cons (ps_fld (pv 4) (pe_callTy (tupF K) (by rfl) T.f_tuple (by decide +kernel) (pa_cons (pv 1) pa_nil)) rfl)
  (pss_cons (ps_fld (pv 4) (pe_callTy (tupF K) (by rfl) T.f_tuple (by decide +kernel) (pa_cons (pe_lc (own := [("name", 6), ("sight", 7), ("weights", 8)]) (g := gTup K 3 (gCons (gName 6) (gCons (gName 7) (gCons (gName 8) (gNil))))) rfl scmade_standing.nd (pi_seq K (pv 2)) (blkOk_by (N := ["deals", "facts", "parties", "places", "made", "row", "name", "sight", "weights", "_", "place", "deal"]) (sc := defScope smade_standing) (by decide +kernel)) (fun _ _ _ _ _ => (pg_tup rfl (pgs_cons (pg_name (i := 6) scmade_standing.nd rfl (by first | exact Or.inl rfl | exact Or.inr rfl)) (pgs_cons (pg_name (i := 7) scmade_standing.nd rfl (by first | exact Or.inl rfl | exact Or.inr rfl)) (pgs_cons (pg_name (i := 8) scmade_standing.nd rfl (by first | exact Or.inl rfl | exact Or.inr rfl)) pgs_nil))))) (fun _ _ _ _ _ => pts_nil) (fun _ _ _ _ _ => (pe_tupF (pa_cons (pv 6) (pa_cons (pe_fldK K (pv 7)) (pa_cons (pv 8) pa_nil)))))) pa_nil)) rfl)
  (pss_cons (ps_fld (pv 4) (pe_callTy (dictQ K rfl) (by rfl) T.f_dict (by decide +kernel) (pa_cons (pv 1) pa_nil)) rfl)
  (pss_cons (ps_fld (pv 4) (pe_dc (own := [("name", 6), ("sight", 7), ("_", 9)]) (g := gTup K 3 (gCons (gName 6) (gCons (gName 7) (gCons (gName 9) (gNil))))) rfl scmade_standing.nd (pi_seq K (pv 2)) (blkOk_by (N := ["deals", "facts", "parties", "places", "made", "row", "name", "sight", "weights", "_", "place", "deal"]) (sc := defScope smade_standing) (by decide +kernel)) (fun _ _ _ _ _ => (pg_tup rfl (pgs_cons (pg_name (i := 6) scmade_standing.nd rfl (by first | exact Or.inl rfl | exact Or.inr rfl)) (pgs_cons (pg_name (i := 7) scmade_standing.nd rfl (by first | exact Or.inl rfl | exact Or.inr rfl)) (pgs_cons (pg_name (i := 9) scmade_standing.nd rfl (by first | exact Or.inl rfl | exact Or.inr rfl)) pgs_nil))))) (fun _ _ _ _ _ => pts_nil) (fun _ _ _ _ _ => (pv 6)) (fun _ _ _ _ _ => (pv 7))) rfl)
  (pss_cons (ps_fld (pv 4) (pe_dc (own := [("name", 6), ("_", 9), ("weights", 8)]) (g := gTup K 3 (gCons (gName 6) (gCons (gName 9) (gCons (gName 8) (gNil))))) rfl scmade_standing.nd (pi_seq K (pv 2)) (blkOk_by (N := ["deals", "facts", "parties", "places", "made", "row", "name", "sight", "weights", "_", "place", "deal"]) (sc := defScope smade_standing) (by decide +kernel)) (fun _ _ _ _ _ => (pg_tup rfl (pgs_cons (pg_name (i := 6) scmade_standing.nd rfl (by first | exact Or.inl rfl | exact Or.inr rfl)) (pgs_cons (pg_name (i := 9) scmade_standing.nd rfl (by first | exact Or.inl rfl | exact Or.inr rfl)) (pgs_cons (pg_name (i := 8) scmade_standing.nd rfl (by first | exact Or.inl rfl | exact Or.inr rfl)) pgs_nil))))) (fun _ _ _ _ _ => pts_nil) (fun _ _ _ _ _ => (pv 6)) (fun _ _ _ _ _ => (pv 8))) rfl)
  (pss_cons (ps_fld (pv 4) (pe_ifExp (pt_cmpR op_isN (pv 3) pe_non (nomark _)) (pe_dc (own := [("place", 10), ("deal", 11)]) (g := gTup K 2 (gCons (gName 10) (gCons (gName 11) (gNil)))) rfl scmade_standing.nd (pi_enumS K (by rfl) T.f_enumerate (pa_cons (pv 0) pa_nil)) (blkOk_by (N := ["deals", "facts", "parties", "places", "made", "row", "name", "sight", "weights", "_", "place", "deal"]) (sc := defScope smade_standing) (by decide +kernel)) (fun _ _ _ _ _ => (pg_tup rfl (pgs_cons (pg_name (i := 10) scmade_standing.nd rfl (by first | exact Or.inl rfl | exact Or.inr rfl)) (pgs_cons (pg_name (i := 11) scmade_standing.nd rfl (by first | exact Or.inl rfl | exact Or.inr rfl)) pgs_nil)))) (fun _ _ _ _ _ => pts_nil) (fun _ _ _ _ _ => (pv 11)) (fun _ _ _ _ _ => (pv 10))) (pv 3)) rfl)
  (pss_one (ps_ret (pv 4))))))))))))), ?_⟩
  refine fun x dx0 nx nd0 ne0 => ⟨x, dx0, 1, rfl, upd_same .., by decide, by decide, fun L0 o0 ⟨xtd, xtf, xtp, xtfr, xtpr, xdd, xds, xdw, xdp, hst⟩ => ⟨rfl, ?_⟩⟩
  have s0 : Same H L0 := fun b o e => by
    refine o0 b o (fun z => by rw [z, nx] at e; cases e) ?_
    rw [upd_ne (fun z => by rw [z, nx] at e; cases e), upd_ne (fun z => by rw [z, nd0] at e; cases e)]
    exact e
  obtain ⟨dx, f0⟩ := hst.ins
  clear hst
  have r0 : Off x L0 L0 := fun _ _ _ e => e
  refine ⟨_, rfl, ?_⟩
  dsimp only [tNil]
  refine tup_any (SqB.same s0 hd) fun td G1 a1 b1 => ?_
  obtain ⟨c1, e1, f1, g1⟩ := fld_step (fs' := (sF td xtf xtp xtfr xtpr xdd xds xdw xdp)) f0 a1
  refine ⟨_, rfl, x, _, dx, _, rfl, g1, T.c_Standing, T.nt_deals, by show 9 < 1000; decide, ?_⟩
  rw [show putF "deals" (.ref td) (sF xtd xtf xtp xtfr xtpr xdd xds xdw xdp) = sF td xtf xtp xtfr xtpr xdd xds xdw xdp from rfl]
  generalize upd G1 x (.ins (CT K) dx (sF td xtf xtp xtfr xtpr xdd xds xdw xdp)) = L1 at c1 e1 f1 ⊢
  have i1 : InsAt G1 x := ⟨_, _, _, g1⟩
  have r1 : Off x L0 L1 := r0.trans c1
  have s1' : Same H L1 := same_off s0 r1 nx
  refine ⟨_, rfl, af, bf, _, rfl, SqB.same s1' hfB, fun J W N nN => ?_⟩
  refine lc_it W (fun i H1 => H1 N = some (.lst ((fas.take i).map fun z => V.str z.name)) ∧ Same L1 H1) ⟨upd_same .., same_new nN⟩ (fun i H1 _ h => SqB.same (same2 s1' h.2) hfB) ?_ ?_
  · rintro i y H0 H1 hi ⟨q1, q2⟩ ⟨rfl, hy⟩
    rw [List.length_map] at hi
    obtain ⟨q, z, h1, h2, h3⟩ := pget2 hfr hi
    rw [List.getElem?_map, h1] at hy
    cases hy
    refine ⟨rfl, _, rfl, q, _, _, .str z.name, rfl, rfl, Same.sqT (same2 s1' q2) h3.1, atI_nat (j := 0) rfl, _, q1, by rw [List.length_map, List.length_take]; omega, ?_, same_put nN q2⟩
    rw [upd_same, take_map h2]
  rintro K2 ⟨q1, q2⟩
  rw [List.length_map, fl, List.take_length] at q1
  refine ⟨N, _, rfl, .inl ⟨.inl (.inl q1), fun tf G2 ntf a2' b2 _ => ?_⟩⟩
  have a2 := same2 q2 a2'
  clear q1 q2 a2' nN
  obtain ⟨c2, e2, f2, g2⟩ := fld_step (fs' := (sF td tf xtp xtfr xtpr xdd xds xdw xdp)) f1 a2
  refine ⟨_, rfl, x, _, dx, _, rfl, g2, T.c_Standing, T.nt_facts, by show 9 < 1000; decide, ?_⟩
  rw [show putF "facts" (.ref tf) (sF td xtf xtp xtfr xtpr xdd xds xdw xdp) = sF td tf xtp xtfr xtpr xdd xds xdw xdp from rfl]
  generalize upd G2 x (.ins (CT K) dx (sF td tf xtp xtfr xtpr xdd xds xdw xdp)) = L2 at c2 e2 f2 ⊢
  have i2 : InsAt G2 x := ⟨_, _, _, g2⟩
  have r2 : Off x L0 L2 := r1.trans c2
  have s2' : Same H L2 := same_off s0 r2 nx
  refine ⟨_, rfl, ap, bp, _, rfl, SqB.same s2' hp, fun J W N nN => ?_⟩
  refine lc_it W (fun i H1 => H1 N = some (.lst ((pas.take i).map fun z => V.str z.name)) ∧ Same L2 H1) ⟨upd_same .., same_new nN⟩ (fun i H1 _ h => SqB.same (same2 s2' h.2) hp) ?_ ?_
  · rintro i y H0 H1 hi ⟨q1, q2⟩ ⟨rfl, hy⟩
    rw [List.length_map] at hi
    obtain ⟨q, z, h1, h2, h3⟩ := pget2 htr hi
    rw [List.getElem?_map, h1] at hy
    cases hy
    refine ⟨rfl, _, rfl, q, _, _, .str z.name, rfl, rfl, Same.sqT (same2 s2' q2) h3, atI_nat (j := 0) rfl, _, q1, by rw [List.length_map, List.length_take]; omega, ?_, same_put nN q2⟩
    rw [upd_same, take_map h2]
  rintro K3 ⟨q1, q2⟩
  rw [List.length_map, pl, List.take_length] at q1
  refine ⟨N, _, rfl, .inl ⟨.inl (.inl q1), fun tp G3 ntp a3' b3 _ => ?_⟩⟩
  have a3 := same2 q2 a3'
  clear q1 q2 a3' nN
  obtain ⟨c3, e3, f3, g3⟩ := fld_step (fs' := (sF td tf tp xtfr xtpr xdd xds xdw xdp)) f2 a3
  refine ⟨_, rfl, x, _, dx, _, rfl, g3, T.c_Standing, T.nt_parties, by show 9 < 1000; decide, ?_⟩
  rw [show putF "parties" (.ref tp) (sF td tf xtp xtfr xtpr xdd xds xdw xdp) = sF td tf tp xtfr xtpr xdd xds xdw xdp from rfl]
  generalize upd G3 x (.ins (CT K) dx (sF td tf tp xtfr xtpr xdd xds xdw xdp)) = L3 at c3 e3 f3 ⊢
  have i3 : InsAt G3 x := ⟨_, _, _, g3⟩
  have r3 : Off x L0 L3 := r2.trans c3
  have s3' : Same H L3 := same_off s0 r3 nx
  refine ⟨_, rfl, ?_⟩
  dsimp only [tNil]
  refine tup_ft (hf.imp (Same.seq s3') (FT.same s3')) fun tfr G4 a4 b4 => ?_
  obtain ⟨c4, e4, f4, g4⟩ := fld_step (fs' := (sF td tf tp tfr xtpr xdd xds xdw xdp)) f3 a4
  refine ⟨_, rfl, x, _, dx, _, rfl, g4, T.c_Standing, T.nt_fact_rows, by show 9 < 1000; decide, ?_⟩
  rw [show putF "_fact_rows" (.ref tfr) (sF td tf tp xtfr xtpr xdd xds xdw xdp) = sF td tf tp tfr xtpr xdd xds xdw xdp from rfl]
  generalize upd G4 x (.ins (CT K) dx (sF td tf tp tfr xtpr xdd xds xdw xdp)) = L4 at c4 e4 f4 ⊢
  have i4 : InsAt G4 x := ⟨_, _, _, g4⟩
  have r4 : Off x L0 L4 := r3.trans c4
  have s4' : Same H L4 := same_off s0 r4 nx
  refine ⟨_, rfl, ap, bp, _, rfl, SqB.same s4' hp, fun J W N nN => ?_⟩
  refine lc_it W (fun i H1 => ∃ pra : List Addr, H1 N = some (.lst (pra.map V.ref)) ∧ pra.length = i ∧ Paired (fun q p => q ≠ N ∧ PRow K H1 q p) pra (pas.take i) ∧ Same L4 H1) ⟨[], upd_same .., rfl, .nil, same_new nN⟩ (fun i H1 _ h => by obtain ⟨_, _, _, _, h⟩ := h; exact SqB.same (same2 s4' h) hp) ?_ ?_
  · rintro i y H0 H1 hi ⟨pra, q1, q2, q3, q4⟩ ⟨rfl, hy⟩
    rw [List.length_map] at hi
    obtain ⟨q, z, h1, h2, h3⟩ := pget2 htr hi
    rw [List.getElem?_map, h1] at hy
    cases hy
    have sH1 := same2 s4' q4
    have hz := hpv z (List.mem_of_getElem? h2)
    obtain ⟨sdx, mk, sc, m1, m2, _⟩ := (hz.1.same sH1).ex
    refine ⟨q, _, rfl, Same.sqT sH1 h3, rfl, _, _, rfl, _, _, rfl, _, _, rfl, rfl, rfl, ?_⟩
    refine ⟨_, rfl, _, rfl, z.sa, _, sdx, _, .ref mk, rfl, m1, T.c_Sight, T.n_marks, rfl, _, rfl, Nat.le_trans (by show 3 ≤ 16777216; decide) big, fun u H2 nu s2 fu _ => ?_⟩
    have uN : u ≠ N := fun e => by rw [e, q1] at nu; cases nu
    refine ⟨_, s2 _ _ q1, by rw [List.length_map, q2]; omega, pra ++ [u], by rw [upd_same, List.map_append, List.map_singleton], by rw [List.length_append, q2, List.length_singleton], ?_, same_put nN (same2 q4 s2)⟩
    rw [List.take_add_one, h2]
    have keep : ∀ {a : Addr} {ys : List V}, SqT K H2 a ys → SqT K (upd H2 N (.lst (pra.map V.ref ++ [.ref u]))) a ys := fun {a ys} e => by
      have hN := s2 _ _ q1
      rcases e with (e | ⟨o, e⟩) | e
      · exact .inl (.inl (by rw [upd_ne (fun z => by rw [z, hN] at e; cases e)]; exact e))
      · exact .inl (.inr ⟨o, by rw [upd_ne (fun z => by rw [z, hN] at e; cases e)]; exact e⟩)
      · exact .inr e
    refine psnoc (pimp (fun _ _ _ e => ⟨e.1, ?_⟩) q3) ⟨uN, mk, keep fu.sq, keep (.inl (.inl (s2 _ _ m2)))⟩
    obtain ⟨mk', e1, e2⟩ := e.2.same s2
    exact ⟨mk', keep e1, keep e2⟩
  rintro K5 ⟨pra, q1, _, q3', q2⟩
  have q3 := pimp (fun _ _ _ e => e.2) q3'
  rw [List.length_map, pl, List.take_length] at q3
  refine ⟨N, _, rfl, .inl ⟨.inl (.inl q1), fun tpr G5 ntpr a5' b5 _ => ?_⟩⟩
  have p5 : Paired (PRow K G5) pra pas := pimp (fun _ _ _ e => e.same a5') q3
  have a5 := same2 q2 a5'
  clear q1 q2 a5' nN q3 q3'
  obtain ⟨c5, e5, f5, g5⟩ := fld_step (fs' := (sF td tf tp tfr tpr xdd xds xdw xdp)) f4 a5
  refine ⟨_, rfl, x, _, dx, _, rfl, g5, T.c_Standing, T.nt_party_rows, by show 9 < 1000; decide, ?_⟩
  rw [show putF "_party_rows" (.ref tpr) (sF td tf tp tfr xtpr xdd xds xdw xdp) = sF td tf tp tfr tpr xdd xds xdw xdp from rfl]
  generalize upd G5 x (.ins (CT K) dx (sF td tf tp tfr tpr xdd xds xdw xdp)) = L5 at c5 e5 f5 ⊢
  have i5 : InsAt G5 x := ⟨_, _, _, g5⟩
  have r5 : Off x L0 L5 := r4.trans c5
  have s5' : Same H L5 := same_off s0 r5 nx
  refine ⟨_, rfl, af, fra, kvF fas, rfl, hf.imp (Same.seq s5') (FT.same s5'), pmapR (pimp (fun _ _ _ e => Same.sqT s5' e.1) hfr) (fun _ _ e => e), fun dd ndd => ?_⟩
  have em : mergeK [] (kvF fas) = kvF fas := mergeK_nodup (by
    show ((kvF fas).map (·.1)).Nodup
    unfold kvF
    rw [List.map_map]
    exact fnd)
  rw [em]
  have a6 := same_new (o := .dK (kvF fas)) ndd
  have b6 : upd L5 dd (.dK (kvF fas)) dd = some (.dK (kvF fas)) := upd_same ..
  generalize upd L5 dd (.dK (kvF fas)) = G6 at a6 b6
  obtain ⟨c6, e6, f6, g6⟩ := fld_step (fs' := (sF td tf tp tfr tpr dd xds xdw xdp)) f5 a6
  refine ⟨_, rfl, x, _, dx, _, rfl, g6, T.c_Standing, T.nt_digits, by show 9 < 1000; decide, ?_⟩
  rw [show putF "_digits" (.ref dd) (sF td tf tp tfr tpr xdd xds xdw xdp) = sF td tf tp tfr tpr dd xds xdw xdp from rfl]
  generalize upd G6 x (.ins (CT K) dx (sF td tf tp tfr tpr dd xds xdw xdp)) = L6 at c6 e6 f6 ⊢
  have i6 : InsAt G6 x := ⟨_, _, _, g6⟩
  have r6 : Off x L0 L6 := r5.trans c6
  have s6' : Same H L6 := same_off s0 r6 nx
  refine ⟨_, rfl, ap, bp, _, rfl, SqB.same s6' hp, fun J W ds nds => ?_⟩
  refine dc_it W (fun i H1 => H1 ds = some (.dK (kvS (pas.take i))) ∧ Same L6 H1) ⟨upd_same .., same_new nds⟩ (fun i H1 _ h => SqB.same (same2 s6' h.2) hp) ?_ ?_
  · rintro i y H0 H1 hi ⟨q1, q2⟩ ⟨rfl, hy⟩
    rw [List.length_map] at hi
    obtain ⟨q, z, h1, h2, h3⟩ := pget2 htr hi
    rw [List.getElem?_map, h1] at hy
    cases hy
    refine ⟨q, _, rfl, Same.sqT (same2 s6' q2) h3, rfl, _, _, rfl, _, _, rfl, _, _, rfl, rfl, rfl, ?_⟩
    refine ⟨_, rfl, _, rfl, _, .inr z.name, rfl, q1, by unfold kvS; rw [List.length_map, List.length_take]; omega, ?_, same_put nds q2⟩
    rw [upd_same]
    exact congrArg (fun l => some (HO.dK l)) (key_fresh (f := fun p : PA => (Sum.inr p.name : Key)) (v := fun p : PA => V.ref p.sa) pnd h2)
  rintro G7 ⟨b7, a7⟩
  rw [List.length_map, pl, List.take_length] at b7
  obtain ⟨c7, e7, f7, g7⟩ := fld_step (fs' := (sF td tf tp tfr tpr dd ds xdw xdp)) f6 a7
  refine ⟨_, rfl, x, _, dx, _, rfl, g7, T.c_Standing, T.nt_sights, by show 9 < 1000; decide, ?_⟩
  rw [show putF "_sights" (.ref ds) (sF td tf tp tfr tpr dd xds xdw xdp) = sF td tf tp tfr tpr dd ds xdw xdp from rfl]
  generalize upd G7 x (.ins (CT K) dx (sF td tf tp tfr tpr dd ds xdw xdp)) = L7 at c7 e7 f7 ⊢
  have i7 : InsAt G7 x := ⟨_, _, _, g7⟩
  have r7 : Off x L0 L7 := r6.trans c7
  have s7' : Same H L7 := same_off s0 r7 nx
  refine ⟨_, rfl, ap, bp, _, rfl, SqB.same s7' hp, fun J W dw ndw => ?_⟩
  refine dc_it W (fun i H1 => H1 dw = some (.dK (kvW (pas.take i))) ∧ Same L7 H1) ⟨upd_same .., same_new ndw⟩ (fun i H1 _ h => SqB.same (same2 s7' h.2) hp) ?_ ?_
  · rintro i y H0 H1 hi ⟨q1, q2⟩ ⟨rfl, hy⟩
    rw [List.length_map] at hi
    obtain ⟨q, z, h1, h2, h3⟩ := pget2 htr hi
    rw [List.getElem?_map, h1] at hy
    cases hy
    refine ⟨q, _, rfl, Same.sqT (same2 s7' q2) h3, rfl, _, _, rfl, _, _, rfl, _, _, rfl, rfl, rfl, ?_⟩
    refine ⟨_, rfl, _, rfl, _, .inr z.name, rfl, q1, by unfold kvW; rw [List.length_map, List.length_take]; omega, ?_, same_put ndw q2⟩
    rw [upd_same]
    exact congrArg (fun l => some (HO.dK l)) (key_fresh (f := fun p : PA => (Sum.inr p.name : Key)) (v := fun p : PA => V.ref p.wa) pnd h2)
  rintro G8 ⟨b8, a8⟩
  rw [List.length_map, pl, List.take_length] at b8
  obtain ⟨c8, e8, f8, g8⟩ := fld_step (fs' := (sF td tf tp tfr tpr dd ds dw xdp)) f7 a8
  refine ⟨_, rfl, x, _, dx, _, rfl, g8, T.c_Standing, T.nt_weights, by show 9 < 1000; decide, ?_⟩
  rw [show putF "_weights" (.ref dw) (sF td tf tp tfr tpr dd ds xdw xdp) = sF td tf tp tfr tpr dd ds dw xdp from rfl]
  generalize upd G8 x (.ins (CT K) dx (sF td tf tp tfr tpr dd ds dw xdp)) = L8 at c8 e8 f8 ⊢
  have i8 : InsAt G8 x := ⟨_, _, _, g8⟩
  have r8 : Off x L0 L8 := r7.trans c8
  have s8' : Same H L8 := same_off s0 r8 nx
  refine ⟨_, rfl, rfl, _, rfl, iteT ?_⟩
  refine ⟨_, rfl, ad, bd, _, rfl, SqB.same s8' hd, fun J W dp ndp => ?_⟩
  have dnd : (S.deals.zipIdx.map fun p : Nat × Nat => (Sum.inl ((p.1 : Nat) : Int) : Key)).Nodup := by
    have e : (S.deals.zipIdx.map fun p : Nat × Nat => (Sum.inl ((p.1 : Nat) : Int) : Key)) = S.deals.map fun d => (Sum.inl ((d : Nat) : Int) : Key) := by
      refine List.ext_getElem? fun i => ?_
      rw [List.getElem?_map, List.getElem?_map, List.getElem?_zipIdx]
      cases S.deals[i]? <;> rfl
    rw [e]
    exact nodup_inl ok.nd
  refine dc_it W (fun i H1 => H1 dp = some (.dK ((S.deals.zipIdx.take i).map fun p : Nat × Nat => ((Sum.inl ((p.1 : Nat) : Int) : Key), V.int ((p.2 : Nat) : Int)))) ∧ Same L8 H1) ⟨upd_same .., same_new ndp⟩ (fun i H1 _ h => SqB.same (same2 s8' h.2) hd) ?_ ?_
  · rintro i y H0 H1 hi ⟨q1, q2⟩ ⟨u, y1, y2, rfl, nu, rfl, h1, h2⟩
    cases h1
    obtain ⟨d, hd1, rfl⟩ := of_nV h2
    have su := same_new (o := .tup [V.int (i : Nat), V.int (d : Nat)]) nu
    have hz : S.deals.zipIdx[i]? = some (d, i) := by rw [List.getElem?_zipIdx, hd1, Nat.zero_add] <;> rfl
    have dl := ok.d2
    rw [nV_len] at hi
    refine ⟨u, _, rfl, .inl (.inl (upd_same ..)), rfl, _, _, rfl, _, _, rfl, rfl, rfl, ?_⟩
    refine ⟨_, rfl, _, rfl, _, .inl (d : Nat), rfl, su _ _ q1, by rw [List.length_map, List.length_take]; omega, ?_, same_put ndp (same2 q2 su)⟩
    rw [upd_same]
    exact congrArg (fun l => some (HO.dK l)) (key_fresh (f := fun p : Nat × Nat => (Sum.inl ((p.1 : Nat) : Int) : Key)) (v := fun p : Nat × Nat => V.int ((p.2 : Nat) : Int)) dnd hz)
  rintro G9 ⟨b9, a9⟩
  have e9 : S.deals.zipIdx.take (nV S.deals).length = S.deals.zipIdx := List.take_of_length_le (by rw [List.length_zipIdx, nV_len]; exact Nat.le_refl _)
  rw [e9] at b9
  obtain ⟨c9, e9, f9, g9⟩ := fld_step (fs' := (sF td tf tp tfr tpr dd ds dw dp)) f8 a9
  refine ⟨_, rfl, x, _, dx, _, rfl, g9, T.c_Standing, T.nt_places, by show 9 < 1000; decide, ?_⟩
  rw [show putF "_places" (.ref dp) (sF td tf tp tfr tpr dd ds dw xdp) = sF td tf tp tfr tpr dd ds dw dp from rfl]
  generalize upd G9 x (.ins (CT K) dx (sF td tf tp tfr tpr dd ds dw dp)) = L9 at c9 e9 f9 ⊢
  have i9 : InsAt G9 x := ⟨_, _, _, g9⟩
  have r9 : Off x L0 L9 := r8.trans c9
  have s9' : Same H L9 := same_off s0 r9 nx
  have o9 : Off x L9 L9 := fun _ _ _ e => e
  have o8 : Off x L8 L9 := c9.trans o9
  have o7 : Off x L7 L9 := c8.trans o8
  have o6 : Off x L6 L9 := c7.trans o7
  have o5 : Off x L5 L9 := c6.trans o6
  have o4 : Off x L4 L9 := c5.trans o5
  have o3 : Off x L3 L9 := c4.trans o4
  have o2 : Off x L2 L9 := c3.trans o3
  have o1 : Off x L1 L9 := c2.trans o2
  have q5 : Paired (PRow K L9) pra pas := pimp (fun _ _ _ e => let ⟨mk, z1, z2⟩ := e; ⟨mk, (e5.trans o5).sqT i5 z1, (e5.trans o5).sqT i5 z2⟩) p5
  exact ⟨_, rfl, hQ L9 x s9' nx ⟨ok, td, tf, tp, tfr, tpr, dd, ds, dw, dp, fas, pas, fra, pra, ⟨dx, f9⟩, (e1.trans o1).sqT i1 b1, (e2.trans o2).sqT i2 b2.sq, (e3.trans o3).sqT i3 b3.sq, (e4.trans o4).ft i4 b4, pimp (fun _ _ _ e => e.same s9') hfr, (e5.trans o5).ft i5 b5, q5, (e6.trans o6).dk i6 b6, (e7.trans o7).dk i7 b7, (e8.trans o8).dk i8 b8, (e9.trans o9).dk i9 b9, fun p hp => (hpv p hp).same s9', ef, ep⟩⟩
end
end K05
set_option Elab.async false
set_option linter.all false
set_option maxRecDepth 100000
set_option maxHeartbeats 4000000
/-! Ms: tuple * int, once too; a method without arguments. -/
namespace Ms
open PySem PySem.Spec PyProof.Rows L2
theorem tuple_mul1 (l : Addr) (items : Array Value) (n : Nat) (dd : Option Addr) (sl : Array (Option Value)) (u : Tok) :
    Meets (Builtin.«tuple.__mul__» ⟨[.ref l, .int 1 u], []⟩) (fun _ R s => s.heap.get? l = some { cls := .type "tuple", dict := dd, data := .seq items n, slots := sl } ∧
      R (.ok (.ret (Value.ref l))) s) :=
  .of_wp fun prog w A R s h => by
    obtain ⟨hp, g, d, tk, os⟩ := s
    obtain ⟨hl, h⟩ := h
    have f1 := AutoSeq1.idx_int
    have c1 : (items.isEmpty || (1 : Int) == 1) = true := by simp
    wp_walk using wpAny_loadPart' hl
    exact ⟨_, rfl, h⟩
def rRep1 (K : PySem.W.Frag) : R2 := fun x y H Q => ∃ (l : Addr) (k : Int) (xs : List V), x = .ref l ∧ y = .int k ∧ SqT K H l xs ∧ xs ≠ [] ∧ 1 ≤ k ∧ k ≤ 1000 ∧ xs.length ≤ 1000 ∧ (k = 1 → Q (.ref l) H) ∧ (2 ≤ k → ∀ p, H p = none → Q (.ref p) (upd H p (.tup (List.replicate k.toNat xs).flatten)))
theorem op_rep1_raw {X : Cx} : OpR X (binaryOp .Mult) (rRep1 X.K) := by
  intro pins s σ H x y v u Q I rx ry h
  obtain ⟨l, k, xs, rfl, rfl, hT, hne, h1, h2, hz, q1, q2⟩ := h
  by_cases hk : k = 1
  · subst hk
    cases rx
    obtain ⟨t, rfl⟩ := ry
    obtain ⟨its, r, ⟨⟨cls, dd, data, sl⟩, ho, hc, n, hd⟩, hs⟩ := I.tuple hT
    simp only at hc hd
    subst hc hd
    refine wpAny_binaryOp_repeat_ref (T := "tuple") (U := "int") (by decide) ⟨_, ho, rfl⟩ (fun s' => typeIs_int s' 1 t) noFill_tuple_mul F.fills_int_mul F.slot_int_rmul repeat_tuple F.slot_int_index.lookup
      (call_meets F.slot_int_rmul (typeIs_int s 1 t) F.entry_int_rmul (F.args_int_rmul_2 _ _) (int_rmul_tuple 1 t l its.toArray n dd sl)
        ⟨ho, rfl, ⟨_, ho, rfl⟩, call_meets F.slot_tuple_mul ⟨_, ho, rfl⟩ F.entry_tuple_mul (F.args_tuple_mul_2 _ _) (tuple_mul1 l its.toArray n dd sl t) ⟨ho, ?_⟩⟩)
    exact ⟨.ref l, H, I, rfl, q1 rfl⟩
  · exact op_repT pins s σ H _ _ v u Q I rx ry ⟨l, k, xs, rfl, rfl, hT, hne, by omega, h2, hz, q2 (by omega)⟩
theorem op_rep1 {X : Cx} (K : PySem.W.Frag) (e : X.K = K := by rfl) : OpR X (binaryOp .Mult) (rRep1 K) := by subst e; exact op_rep1_raw
section
variable {X : Cx} {k j : Nat} {sp : Sp} {E : St → XK} {m c : Str} {pos apos : Pos} {o : Expr} {ta : TE}
/-- o.m() -/
theorem pe_m0K (K : PySem.W.Frag) {pl : Sem Bool} (F : MOk X.prog X.w K X.mg X.base c m k sp) (hr : Room j X.A) (hk : k ≤ j) (hx : ∀ σ, PassesAt (L2.CX X.prog X.w) X σ (E σ)) (he : PE X o ta) (hK : X.K = K := by rfl)
    (ht : eval (.Call (.Attribute o m apos) [] [] pos) X.env = (do
      let ov ← eval o X.env
      standAt apos.atName
      let (f, first) ← holding [ov] (getMethod ov m pl)
      callWith pos f first (backTo pos (starEach [] X.env)) (backToKw pos (keywordEach [] X.env))) := by rfl) :
    PE X (.Call (.Attribute o m apos) [] [] pos) (tMethS (He.ga K c) m sp E ta tNil) := by
  subst hK
  obtain ⟨fd, ps, F1, hb⟩ := F.ex
  refine ⟨fun pins s σ H Q I h => ?_⟩
  refine PySem.W.methodCall_KW (pl := pl) (thn (he.run pins s σ H _ I h) fun u s1 ⟨x, H1, I1, rx, a, dx, fs, ex, ea, l, q⟩ => ?_) ht
  subst ex
  obtain rfl : u = Value.ref a := rx
  refine getmeth_ok I1 ea F.cl F.me l ?_
  refine PySem.W.callWith_K0 (first := [.ref a]) I1.kIn F.me.kp ?_
  exact run_fnS (us := [.ref a]) (vs := [.ref a]) F1 (hr.mono hk) hb (hx σ) I1 (.cons rfl .nil) q
end
end Ms
set_option Elab.async false
set_option linter.all false
set_option maxRecDepth 100000
set_option maxHeartbeats 4000000
namespace K05
open PySem PySem.Spec PyProof.Rows L2 Ms
def spPick (K : PySem.W.Frag) : Sp := fun vs H Q _ => ∃ (a b : Addr) (r ps : List Nat), vs = [.ref a, .ref b] ∧ SqT K H a (nV r) ∧ SqL K H b (nV ps) ∧ (∀ p ∈ ps, p < r.length) ∧ ps.length ≤ 2000 ∧ ∀ H' q, Same H H' → FT H' q (nV (ps.map (at0 r))) → Q (.ref q) H'
def spCkD (K : PySem.W.Frag) : Sp := fun vs H Q _ => ∃ (a : Addr) (ds : List Nat), vs = [.ref a] ∧ SqT K H a (nV ds) ∧ (∀ d ∈ ds, d ≤ 9) ∧ ∀ H', Same H H' → Q .non H'
def spCkW (K : PySem.W.Frag) : Sp := fun vs H Q _ => ∃ (a : Addr) (ds : List Nat), vs = [.ref a] ∧ SqT K H a (nV ds) ∧ (∀ d ∈ ds, 1 ≤ d) ∧ ∀ H', Same H H' → Q .non H'
def spTri (K : PySem.W.Frag) : Sp := fun vs H Q _ => ∃ (x : Addr) (S : Std) (td tf tp tfr tpr dd ds dw dp : Addr) (fas : List FA) (pas : List PA) (fra pra : List Addr), vs = [.ref x] ∧ S.Ok ∧ StdAt K H x S td tf tp tfr tpr dd ds dw dp fas pas fra pra ∧
  ∀ H' q tra, Same H H' → FT H' q (tra.map V.ref) → Paired (TRow K H') tra pas → Q (.ref q) H'
def spKey (K : PySem.W.Frag) : Sp := fun vs H Q _ => ∃ (x : Addr) (S : Std) (td tf tp tfr tpr dd ds dw dp : Addr) (fas : List FA) (pas : List PA) (fra pra : List Addr), vs = [.ref x] ∧ StdAt K H x S td tf tp tfr tpr dd ds dw dp fas pas fra pra ∧
  ∀ H' q, Same H H' → FT H' q [.ref td, .ref tfr, .ref tpr] → Q (.ref q) H'
theorem valV_at {α : Type} {l : List α} {f : α → Key} {v : α → V} (h : (l.map f).Nodup) {i : Nat} {x : α} (e : l[i]? = some x) : valV (l.map fun a => (f a, v a)) (f x) = some (v x) := by
  induction l generalizing i with
  | nil => cases e
  | cons y l ih =>
    rw [List.map_cons] at h ⊢
    obtain ⟨h1, h2⟩ := List.nodup_cons.mp h
    unfold valV
    by_cases c : f y = f x
    · rw [List.find?_cons_of_pos (by exact decide_eq_true c)]
      cases i with
      | zero => cases e; rfl
      | succ i => exact absurd (c ▸ List.mem_map.mpr ⟨x, List.mem_of_getElem? e, rfl⟩) h1
    · rw [List.find?_cons_of_neg (by rw [decide_eq_true_eq]; exact c)]
      cases i with
      | zero => cases e; exact absurd rfl c
      | succ i => exact ih h2 e
section
variable {P : Program} {w : World} {K : PySem.W.Frag} {mg : Str → Option Value} {base : Heap}
theorem ok_picked (T : Tx K mg) : Ok P w K mg base "picked" 1 (spPick K) := by
  refine ok_of T.a_picked scpicked (fun vs H Q E h => ?_) bi_picked fun cdv A outer s H vs Q E hr h => ?_
  · obtain ⟨a, b, r, ps, rfl, _⟩ := h
    rfl
  obtain ⟨a, b, r, ps, rfl, ha, hb, hlt, hl, hQ⟩ := h
  have big : (16777216 : Nat) ≤ sizeLine := by decide
  refine ⟨_, (pss_one (ps_ret (pe_callTy (tupF K) (by rfl) T.f_tuple (by decide +kernel) (pa_cons (pe_lc (own := [("place", 2)]) (g := gName 2) rfl scpicked.nd (pi_list (pv 1)) (blkOk_by (N := ["row", "places", "place"]) (sc := defScope spicked) (by decide +kernel)) (fun _ _ _ _ _ => (pg_name (i := 2) scpicked.nd rfl (by first | exact Or.inl rfl | exact Or.inr rfl))) (fun _ _ _ _ _ => pts_nil) (fun _ _ _ _ _ => (pe_ix (ixT K) (pv 0) (pv 2) (fun _ _ => rfl)))) pa_nil)))), ?_⟩
  refine ⟨_, rfl, b, rfl, ⟨_, hb⟩, fun N nN => ?_⟩
  refine lc_it (walk_list (K := K) (a := b) (xs := nV ps)) (fun i H1 => H1 N = some (.lst (nV ((ps.take i).map (at0 r)))) ∧ Same H H1) ⟨upd_same .., same_new nN⟩ (fun i H1 _ h => Same.seq h.2 hb) ?_ ?_
  · rintro i x H0 H1 hi ⟨q1, q2⟩ ⟨rfl, hx⟩
    obtain ⟨p, hp, rfl⟩ := of_nV hx
    rw [nV_len] at hi
    refine ⟨rfl, _, rfl, _, rfl, a, _, _, .int (at0 r p : Nat), rfl, rfl, Same.sqT q2 ha, atI_nat (nV_at0 (hlt p (List.mem_of_getElem? hp))), _, q1, by rw [nV_len, List.length_map, List.length_take]; omega, ?_, same_put nN q2⟩
    rw [upd_same, nV_snoc, take_map hp]
  rintro H1 ⟨q1, q2⟩
  rw [nV_len, List.take_length] at q1
  exact ⟨N, _, rfl, .inl ⟨.inl (.inl q1), fun q H2 nq s2 f _ => hQ H2 q (same2 q2 s2) f⟩⟩
theorem ok_check_digits (T : Tx K mg) : Ok P w K mg base "check_digits" 3 (spCkD K) := by
  have O_is_digit : Ok P w K mg base "is_digit" 2 spDig := ok_is_digit T
  refine ok_of T.a_check_digits sccheck_digits (fun vs H Q E h => ?_) bi_check_digits fun cdv A outer s H vs Q E hr h => ?_
  · obtain ⟨a, ds, rfl, _⟩ := h
    rfl
  obtain ⟨a, ds, rfl, ha, hd, hQ⟩ := h
  refine ⟨_, (pss_one (ps_for PassesOwn.never rfl (pi_enumT (by rfl) T.f_enumerate (pa_cons (pv 0) pa_nil)) (pg_tup rfl (pgs_cons (pg_name (i := 1) sccheck_digits.nd rfl (by first | exact Or.inl rfl | exact Or.inr rfl)) (pgs_cons (pg_name (i := 2) sccheck_digits.nd rfl (by first | exact Or.inl rfl | exact Or.inr rfl)) pgs_nil)))
  (pss_one (ps_if (pt_not (pt_val (pe_c (E := EN) O_is_digit hr (by decide) (fun σ => passN σ) (pa_cons (pv 2) pa_nil))))
    (pss_one ps_dead)
    pss_nil)))), ?_⟩
  refine ⟨_, rfl, a, _, rfl, ha, for_it walk_enumT (fun i σ H1 => ∃ m1 m2, σ = [some (.ref a), m1, m2] ∧ Same H H1) ⟨none, none, rfl, fun _ _ e => e⟩ (fun i σ H1 _ h => by obtain ⟨_, _, _, h⟩ := h; exact Same.sqT h ha) ?_ ?_⟩
  · rintro i x σ H0 H1 hi ⟨m1, m2, rfl, q⟩ ⟨u, y1, y2, rfl, nu, rfl, h1, h2⟩
    cases h1
    obtain ⟨d, hd1, rfl⟩ := of_nV h2
    have d9 := hd d (List.mem_of_getElem? hd1)
    refine ⟨u, _, rfl, .inl (.inl (upd_same ..)), rfl, _, _, rfl, _, _, rfl, rfl, ?_⟩
    exact ⟨_, rfl, d, rfl, by omega, by omega, true, rfl, iteF ⟨_, _, rfl, same2 q (same_new nu)⟩⟩
  · rintro σ H1 ⟨m1, m2, rfl, q⟩
    exact hQ H1 q
theorem ok_check_weights (T : Tx K mg) : Ok P w K mg base "check_weights" 2 (spCkW K) := by
  have O_is_whole : Ok P w K mg base "is_whole" 1 spWh := ok_is_whole T
  refine ok_of T.a_check_weights sccheck_weights (fun vs H Q E h => ?_) bi_check_weights fun cdv A outer s H vs Q E hr h => ?_
  · obtain ⟨a, ds, rfl, _⟩ := h
    rfl
  obtain ⟨a, ds, rfl, ha, hd, hQ⟩ := h
  refine ⟨_, (pss_one (ps_for PassesOwn.never rfl (pi_enumT (by rfl) T.f_enumerate (pa_cons (pv 0) pa_nil)) (pg_tup rfl (pgs_cons (pg_name (i := 1) sccheck_weights.nd rfl (by first | exact Or.inl rfl | exact Or.inr rfl)) (pgs_cons (pg_name (i := 2) sccheck_weights.nd rfl (by first | exact Or.inl rfl | exact Or.inr rfl)) pgs_nil)))
  (pss_one (ps_if (PW.pt (pw_or (pt_not (pt_val (pe_c (E := EN) O_is_whole hr (by decide) (fun σ => passN σ) (pa_cons (pv 2) pa_nil)))) (pw_or1 (pt_cmpR op_lt (pv 2) pe_int (nomark _)))))
    (pss_one ps_dead)
    pss_nil)))), ?_⟩
  refine ⟨_, rfl, a, _, rfl, ha, for_it walk_enumT (fun i σ H1 => ∃ m1 m2, σ = [some (.ref a), m1, m2] ∧ Same H H1) ⟨none, none, rfl, fun _ _ e => e⟩ (fun i σ H1 _ h => by obtain ⟨_, _, _, h⟩ := h; exact Same.sqT h ha) ?_ ?_⟩
  · rintro i x σ H0 H1 hi ⟨m1, m2, rfl, q⟩ ⟨u, y1, y2, rfl, nu, rfl, h1, h2⟩
    cases h1
    obtain ⟨d, hd1, rfl⟩ := of_nV h2
    have d9 := hd d (List.mem_of_getElem? hd1)
    have z : decide (((d : Nat) : Int) < 1) = false := decide_eq_false (by omega)
    refine ⟨u, _, rfl, .inl (.inl (upd_same ..)), rfl, _, _, rfl, _, _, rfl, rfl, ?_⟩
    refine ⟨_, rfl, d, rfl, true, rfl, iteF ⟨_, rfl, _, _, rfl, rfl, _, rfl, ?_⟩⟩
    rw [z]
    exact iteF ⟨_, _, rfl, same2 q (same_new nu)⟩
  · rintro σ H1 ⟨m1, m2, rfl, q⟩
    exact hQ H1 q
theorem mok_tri (T : Tx K mg) : MOk P w K mg base "Standing" "_party_triples" 1 (spTri K) := by
  refine mok_of ⟨T.d_Standingu_party_triples, T.c_Standing, T.m_party_triples⟩ scStandingu_party_triples (fun vs H Q E h => ?_) bi_Standingu_party_triples fun cdv A outer s H vs Q E hr h => ?_
  · obtain ⟨x, S, td, tf, tp, tfr, tpr, dd, ds, dw, dp, fas, pas, fra, pra, rfl, _⟩ := h
    rfl
  obtain ⟨x, S, td, tf, tp, tfr, tpr, dd, ds, dw, dp, fas, pas, fra, pra, rfl, ok, hs, hQ⟩ := h
  have big : (16777216 : Nat) ≤ sizeLine := by decide
  obtain ⟨dx, hx⟩ := hs.ins
  have pew : pas.length ≤ 100 := by have := ok.pew; rw [hs.ep, List.length_map] at this; exact this
  have pnd : (pas.map fun p => (Sum.inr p.name : Key)).Nodup := by
    have z := ok.pn
    rw [hs.ep, List.map_map] at z
    have y := nodup_inr z
    rw [List.map_map] at y
    exact y
  refine ⟨_, (pss_one (ps_ret (pe_callTy (tupF K) (by rfl) T.f_tuple (by decide +kernel) (pa_cons (pe_lc (own := [("name", 1)]) (g := gName 1) rfl scStandingu_party_triples.nd (pi_tup (pe_fld (pv 0) rfl)) (blkOk_by (N := ["self", "name"]) (sc := defScope sStandingu_party_triples) (by decide +kernel)) (fun _ _ _ _ _ => (pg_name (i := 1) scStandingu_party_triples.nd rfl (by first | exact Or.inl rfl | exact Or.inr rfl))) (fun _ _ _ _ _ => pts_nil) (fun _ _ _ _ _ => (pe_tupF (pa_cons (pv 1) (pa_cons (pe_dget (hu_of hr) (pe_fldK K (pv 0)) (pv 1) (fun _ _ => rfl)) (pa_cons (pe_dget (hu_of hr) (pe_fldK K (pv 0)) (pv 1) (fun _ _ => rfl)) pa_nil)))))) pa_nil)))), ?_⟩
  refine ⟨_, rfl, x, _, dx, _, .ref tp, rfl, hx, T.c_Standing, T.nt_parties, rfl, tp, rfl, ⟨_, hs.tp⟩, fun N nN => ?_⟩
  refine lc_it (walk_tup (K := K) (a := tp) (xs := pas.map fun p => V.str p.name)) (fun i H1 => ∃ tra : List Addr, H1 N = some (.lst (tra.map V.ref)) ∧ tra.length = i ∧ Paired (fun q p => q ≠ N ∧ FT H1 q [.str p.name, .ref p.sa, .ref p.wa]) tra (pas.take i) ∧ Same H H1) ⟨[], upd_same .., rfl, .nil, same_new nN⟩ (fun i H1 _ h => by obtain ⟨_, _, _, _, h⟩ := h; exact Same.sqT h hs.tp) ?_ ?_
  · rintro i y H0 H1 hi ⟨tra, q1, q2, q3, q4⟩ ⟨rfl, hy⟩
    rw [List.length_map] at hi
    have hz := getE hi
    generalize pas[i] = z at hz
    rw [List.getElem?_map, hz] at hy
    cases hy
    refine ⟨rfl, _, rfl, _, rfl, x, _, dx, _, .ref ds, rfl, q4 _ _ hx, T.c_Standing, T.nt_sights, rfl, _, rfl, ds, .ref z.sa, rfl, .inl ⟨_, .inr z.name, .inl (q4 _ _ hs.ds), rfl, (valV_at (f := fun p : PA => (Sum.inr p.name : Key)) (v := fun p : PA => V.ref p.sa) pnd hz).symm⟩, ?_⟩
    refine ⟨_, rfl, x, _, dx, _, .ref dw, rfl, q4 _ _ hx, T.c_Standing, T.nt_weights, rfl, _, rfl, dw, .ref z.wa, rfl, .inl ⟨_, .inr z.name, .inl (q4 _ _ hs.dw), rfl, (valV_at (f := fun p : PA => (Sum.inr p.name : Key)) (v := fun p : PA => V.ref p.wa) pnd hz).symm⟩, ?_⟩
    refine ⟨Nat.le_trans (by show 3 ≤ 16777216; decide) big, fun u H2 nu s2 fu _ => ?_⟩
    have uN : u ≠ N := fun e => by rw [e, q1] at nu; cases nu
    have hN := s2 _ _ q1
    have keep : ∀ {a : Addr} {ys : List V}, FT H2 a ys → FT (upd H2 N (.lst (tra.map V.ref ++ [.ref u]))) a ys := fun {a ys} e => by
      obtain ⟨ob, e1, e2⟩ := e
      exact ⟨ob, by rw [upd_ne (fun z => by rw [z, hN] at e1; cases e1)]; exact e1, e2⟩
    refine ⟨_, hN, by rw [List.length_map, q2]; omega, tra ++ [u], by rw [upd_same, List.map_append, List.map_singleton], by rw [List.length_append, q2, List.length_singleton], ?_, same_put nN (same2 q4 s2)⟩
    rw [List.take_add_one, hz]
    exact psnoc (pimp (fun _ _ _ e => ⟨e.1, keep (e.2.same s2)⟩) q3) ⟨uN, keep fu⟩
  rintro H1 ⟨tra, q1, _, q3, q4⟩
  rw [List.length_map, List.take_length] at q3
  exact ⟨N, _, rfl, .inl ⟨.inl (.inl q1), fun q H2 nq s2 f _ => hQ H2 q tra (same2 q4 s2) f (pimp (fun _ _ _ e => (e.2.same s2).sq) q3)⟩⟩
theorem fn_key (T : Tx K mg) : ∃ fd ps, FnOk P w K mg base (L2.CX P w) 1 (recAt K "property" "Standing" "key") fd ps (spKey K) ∧ Binds K fd ps [] := by
  refine fn_ok T.d_Standing_key scStanding_key (fun vs H Q E h => ?_) bi_Standing_key fun cdv A outer s H vs Q E hr h => ?_
  · obtain ⟨x, S, td, tf, tp, tfr, tpr, dd, ds, dw, dp, fas, pas, fra, pra, rfl, _⟩ := h
    rfl
  obtain ⟨x, S, td, tf, tp, tfr, tpr, dd, ds, dw, dp, fas, pas, fra, pra, rfl, hs, hQ⟩ := h
  have big : (16777216 : Nat) ≤ sizeLine := by decide
  obtain ⟨dx, hx⟩ := hs.ins
  refine ⟨_, (pss_one (ps_ret (pe_tupF (pa_cons (pe_fld (pv 0) rfl) (pa_cons (pe_fld (pv 0) rfl) (pa_cons (pe_fld (pv 0) rfl) pa_nil)))))), ?_⟩
  exact ⟨_, rfl, x, _, dx, _, _, rfl, hx, T.c_Standing, T.nt_deals, rfl, _, rfl, x, _, dx, _, _, rfl, hx, T.c_Standing, T.nt_fact_rows, rfl, _, rfl, x, _, dx, _, _, rfl, hx, T.c_Standing, T.nt_party_rows, rfl, Nat.le_trans (by show 3 ≤ 16777216; decide) big, fun q H2 nq s2 f _ => hQ H2 q s2 f⟩
end
end K05
set_option Elab.async false
set_option linter.all false
set_option maxRecDepth 100000
set_option maxHeartbeats 4000000
namespace K05
open PySem PySem.Spec PyProof.Rows L2 Ms
theorem StdAt.same {K : PySem.W.Frag} {H H' : Hp} (s : Same H H') {x : Addr} {S : Std} {td tf tp tfr tpr dd ds dw dp : Addr} {fas : List FA} {pas : List PA} {fra pra : List Addr} (h : StdAt K H x S td tf tp tfr tpr dd ds dw dp fas pas fra pra) : StdAt K H' x S td tf tp tfr tpr dd ds dw dp fas pas fra pra := by
  obtain ⟨dx, hi⟩ := h.ins
  exact ⟨⟨dx, s _ _ hi⟩, Same.sqT s h.td, Same.sqT s h.tf, Same.sqT s h.tp, h.tfr.same s, pimp (fun _ _ _ z => z.same s) h.fr, h.tpr.same s, pimp (fun _ _ _ z => z.same s) h.pr, s _ _ h.dd, s _ _ h.ds, s _ _ h.dw, s _ _ h.dp, fun p hp => (h.pv p hp).same s, h.ef, h.ep⟩
theorem valV_none {kvs : List (Key × V)} {k : Key} (h : ¬ k ∈ kvs.map (·.1)) : valV kvs k = none := by
  unfold valV
  rw [List.find?_eq_none.mpr fun p hp => by
    rw [decide_eq_true_eq]
    exact fun e => h (List.mem_map.mpr ⟨p, hp, e⟩)] <;> rfl
theorem inr_mem {l : List Str} {z : Str} (h : (Sum.inr z : Key) ∈ l.map (Sum.inr : Str → Key)) : z ∈ l := by
  obtain ⟨y, hy, e⟩ := List.mem_map.mp h
  exact Sum.inr.inj e ▸ hy
theorem kvF_none {fas : List FA} {S : Std} (e : S.facts = fas.map FA.abs) {z : Str} (h : ¬ z ∈ S.facts.map (·.1)) : valV (kvF fas) (.inr z) = none := valV_none fun m => h (by
  rw [e, List.map_map]
  refine inr_mem (l := fas.map ((·.1) ∘ FA.abs)) ?_
  rw [List.map_map]
  unfold kvF at m
  rw [List.map_map] at m
  exact m)
theorem kvS_none {pas : List PA} {S : Std} (e : S.parts = pas.map PA.abs) {z : Str} (h : ¬ z ∈ S.parts.map (·.1)) : valV (kvS pas) (.inr z) = none := valV_none fun m => h (by
  rw [e, List.map_map]
  refine inr_mem (l := pas.map ((·.1) ∘ PA.abs)) ?_
  rw [List.map_map]
  unfold kvS at m
  rw [List.map_map] at m
  exact m)
def Std.addF (S : Std) (z : Str) (ds : List Nat) : Std := ⟨S.deals, S.facts ++ [(z, ds)], S.parts⟩
def Std.addP (S : Std) (z : Str) (r ws : List Nat) : Std := ⟨S.deals, S.facts, S.parts ++ [(z, r, ws)]⟩
theorem nodup_snoc {α : Type} {l : List α} {x : α} (h : l.Nodup) (n : ¬ x ∈ l) : (l ++ [x]).Nodup := List.nodup_append.mpr ⟨h, List.nodup_cons.mpr ⟨List.not_mem_nil, List.nodup_nil⟩, fun a ha b hb e => n (by rw [List.mem_singleton] at hb; rw [← hb, ← e]; exact ha)⟩
theorem Std.Ok.addF {S : Std} (o : S.Ok) {z : Str} {ds : List Nat} (n : ¬ z ∈ S.facts.map (·.1)) (l : ds.length = S.deals.length) (f : S.facts.length < 100) : (S.addF z ds).Ok :=
  ⟨o.d1, o.d2, o.nd, by show ((S.facts ++ [(z, ds)]).map (·.1)).Nodup; rw [List.map_append]; exact nodup_snoc o.fn n, o.pn, fun f hf => by
    rcases List.mem_append.mp hf with h | h
    · exact o.fl f h
    · rw [List.mem_singleton.mp h]; exact l, o.pl, by show (S.facts ++ [(z, ds)]).length ≤ 100; rw [List.length_append, List.length_singleton]; omega, o.pew⟩
theorem Std.Ok.addP {S : Std} (o : S.Ok) {z : Str} {r ws : List Nat} (n : ¬ z ∈ S.parts.map (·.1)) (l : r.length = S.deals.length) (l2 : ws.length = S.deals.length) (f : S.parts.length < 100) : (S.addP z r ws).Ok :=
  ⟨o.d1, o.d2, o.nd, o.fn, by show ((S.parts ++ [(z, r, ws)]).map (·.1)).Nodup; rw [List.map_append]; exact nodup_snoc o.pn n, o.fl, fun p hp => by
    rcases List.mem_append.mp hp with h | h
    · exact o.pl p h
    · rw [List.mem_singleton.mp h]; exact ⟨l, l2⟩, o.few, by show (S.parts ++ [(z, r, ws)]).length ≤ 100; rw [List.length_append, List.length_singleton]; omega⟩
def spWF (K : PySem.W.Frag) : Sp := fun vs H Q _ => ∃ (x a : Addr) (b : Bool) (z : Str) (S : Std) (ds : List Nat), vs = [.ref x, .str z, .ref a] ∧ StandAt K H x S ∧ Name z ∧ ¬ z ∈ S.facts.map (·.1) ∧ SqB K b H a (nV ds) ∧ ds.length = S.deals.length ∧ (∀ d ∈ ds, d ≤ 9) ∧ S.facts.length < 100 ∧
  ∀ H' q, Same H H' → H q = none → StandAt K H' q (S.addF z ds) → Q (.ref q) H'
section
variable {P : Program} {w : World} {K : PySem.W.Frag} {mg : Str → Option Value} {base : Heap}
theorem mok_wf (T : Tx K mg) : MOk P w K mg base "Standing" "with_fact" 5 (spWF K) := by
  have O_check_name : Ok P w K mg base "check_name" 2 spCkName := ok_check_name T
  have O_check_digits : Ok P w K mg base "check_digits" 3 (spCkD K) := ok_check_digits T
  have O_made_standing : OkD P w K mg base "made_standing" 4 (spMade K) := ok_made T
  have O_Standingu_party_triples : MOk P w K mg base "Standing" "_party_triples" 1 (spTri K) := mok_tri T
  refine mok_of ⟨T.d_Standing_with_fact, T.c_Standing, T.m_with_fact⟩ scStanding_with_fact (fun vs H Q E h => ?_) bi_Standing_with_fact fun cdv A outer s H vs Q E hr h => ?_
  · obtain ⟨x, a, b, z, S, ds, rfl, _⟩ := h
    rfl
  obtain ⟨x, a, b, z, S, ds, rfl, ⟨ok, td, tf, tp, tfr, tpr, dd, dsa, dw, dp, fas, pas, fra, pra, hs⟩, nm, nin, ha, hl, h9, hfew, hQ⟩ := h
  have big : (16777216 : Nat) ≤ sizeLine := by decide
  obtain ⟨dx, hx⟩ := hs.ins
  have few : fas.length ≤ 100 := by have := ok.few; rw [hs.ef, List.length_map] at this; exact this
  have fl := Paired.length hs.fr
  refine ⟨_, (pss_cons (ps_expr (pe_c (E := EN) O_check_name hr (by decide) (fun σ => passN σ) (pa_cons (pv 1) pa_nil)))
  (pss_cons (ps_if (pt_cmp (pc_din (hu_of hr) (pv 1) (pe_fld (pv 0) rfl)))
  (pss_one ps_dead)
  pss_nil)
  (pss_cons (ps_set (i := 3) scStanding_with_fact.nd rfl (by first | exact Or.inl rfl | exact Or.inr rfl) (pe_callTy (tupF K) (by rfl) T.f_tuple (by decide +kernel) (pa_cons (pv 2) pa_nil)))
  (pss_cons (ps_if (pt_cmpR op_ne (pe_callB (lenK K) (by rfl) T.f_len boot_len (pa_cons (pv 3) pa_nil)) (pe_callB (lenK K) (by rfl) T.f_len boot_len (pa_cons (pe_fld (pv 0) rfl) pa_nil)) (nomark _))
  (pss_one ps_dead)
  pss_nil)
  (pss_cons (ps_expr (pe_c (E := EN) O_check_digits hr (by decide) (fun σ => passN σ) (pa_cons (pv 3) pa_nil)))
  (pss_one (ps_ret (pe_cD (E := EN) O_made_standing hr (by decide) (fun σ => passN σ) (pa_cons (pe_fld (pv 0) rfl) (pa_cons (pe_tupF (StX.pa_star (pe_fld (pv 0) rfl) (pa_cons (pe_tupF (pa_cons (pv 1) (pa_cons (pv 3) pa_nil))) pa_nil))) (pa_cons (pe_m0K K (E := EN) O_Standingu_party_triples hr (by decide) (fun σ => passN σ) (pv 0)) pa_nil))))))))))), ?_⟩
  refine ⟨_, rfl, z, rfl, nm, fun H1 s1 => ?_⟩
  refine ⟨_, rfl, _, rfl, x, _, dx, _, .ref dd, rfl, s1 _ _ hx, T.c_Standing, T.nt_digits, rfl, dd, none, rfl, .inl ⟨_, .inr z, .inl (s1 _ _ hs.dd), rfl, (kvF_none hs.ef nin).symm⟩, _, rfl, ?_⟩
  refine iteF ⟨_, rfl, ?_⟩
  dsimp only [tNil]
  refine tup_any (SqB.same s1 ha) fun r H2 s2 hr2 => ?_
  have s02 := same2 s1 s2
  refine ⟨_, rfl, r, _, rfl, .inr hr2, _, rfl, x, _, dx, _, .ref td, rfl, s02 _ _ hx, T.c_Standing, T.nt_deals, rfl, td, _, rfl, .inr (Same.sqT s02 hs.td), rfl, _, rfl, ?_⟩
  have z1 : (!decide (V.int ((nV ds).length : Nat) = V.int ((nV S.deals).length : Nat))) = false := by rw [nV_len, nV_len, hl]; simp
  rw [z1]
  refine iteF ⟨_, rfl, r, ds, rfl, hr2, h9, fun H3 s3 => ?_⟩
  have s03 := same2 s02 s3
  refine ⟨_, rfl, x, _, dx, _, .ref td, rfl, s03 _ _ hx, T.c_Standing, T.nt_deals, rfl, _, rfl, x, _, dx, _, .ref tfr, rfl, s03 _ _ hx, T.c_Standing, T.nt_fact_rows, rfl, tfr, _, rfl, .inl (hs.tfr.same s03).sq, _, rfl, _, rfl, Nat.le_trans (by show 2 ≤ 16777216; decide) big, fun u H4 nu s4 fu _ => ?_⟩
  have s04 := same2 s03 s4
  refine ⟨by rw [List.length_append, List.length_map]; show fra.length + 1 ≤ sizeLine; omega, fun v H5 nv s5 fv _ => ?_⟩
  have s05 := same2 s04 s5
  have ev : fra.map V.ref ++ [V.ref u] = (fra ++ [u]).map V.ref := by rw [List.map_append] <;> rfl
  rw [ev] at fv
  refine ⟨_, rfl, x, dx, _, rfl, s05 _ _ hx, rfl, x, S, td, tf, tp, tfr, tpr, dd, dsa, dw, dp, fas, pas, fra, pra, rfl, ok, hs.same s05, fun H6 q tra s6 ft tr => ?_⟩
  have s06 := same2 s05 s6
  have hr6 : SqT K H6 r (nV ds) := Same.sqT (same2 s3 (same2 s4 (same2 s5 s6))) hr2
  have hfr : Paired (FRow K H6) (fra ++ [u]) (fas ++ [⟨z, r, ds⟩]) := psnoc (pimp (fun _ _ _ e => e.same s06) hs.fr) ⟨Same.sqT (same2 s5 s6) fu.sq, hr6⟩
  refine ⟨td, v, q, false, false, S.addF z ds, fas ++ [⟨z, r, ds⟩], pas, fra ++ [u], tra, rfl, ok.addF nin hl hfew, ?_, hs.ep, Same.sqT s06 hs.td, .inr (fv.same s6), hfr, ft.sq, tr, fun p hp => (hs.pv p hp).same s06, fun H7 q7 s7 n7 h7 => hQ H7 q7 (same2 s06 s7) (s06.free n7) h7⟩
  show S.facts ++ [(z, ds)] = _
  rw [hs.ef, List.map_append] <;> rfl
end
end K05
set_option Elab.async false
set_option linter.all false
set_option maxRecDepth 100000
set_option maxHeartbeats 4000000
namespace K05
open PySem PySem.Spec PyProof.Rows L2 Ms
theorem seq_cut {a b : TS} {D : Ends} {σ : L2.St} {H : Hp} (h : ∀ D1 : Ends, D1.nx = b D → a D1 σ H) : tSeq a b D σ H := h _ rfl
def spWP (K : PySem.W.Frag) : Sp := fun vs H Q _ => ∃ (x am : Addr) (bm : Bool) (z : Str) (S : Std) (ns : List Int) (wv : V) (ws : List Nat), vs = [.ref x, .str z, .ref am, wv] ∧ StandAt K H x S ∧ Name z ∧ ¬ z ∈ S.parts.map (·.1) ∧ SqB K bm H am (ns.map V.int) ∧ ns.length = S.deals.length ∧ S.deals.length ≤ 1000 ∧
  ((wv = .non ∧ ws = List.replicate S.deals.length 1) ∨ ∃ (aw : Addr) (bw : Bool), wv = .ref aw ∧ SqB K bw H aw (nV ws) ∧ ws.length = S.deals.length ∧ ∀ d ∈ ws, 1 ≤ d) ∧ S.parts.length < 100 ∧
  ∀ H' q, Same H H' → H q = none → StandAt K H' q (S.addP z (ren ns) ws) → Q (.ref q) H'
section
variable {P : Program} {w : World} {K : PySem.W.Frag} {mg : Str → Option Value} {base : Heap}
theorem fn_wp (T : Tx K mg) : ∃ fd, FunD K "with_party" "Standing.with_party" (defArgs sStanding_with_party) (defBody sStanding_with_party) (defScope sStanding_with_party) [] [("weights", .non)] (He.ma K (CT K) "with_party") fd ∧ FnOk P w K mg base (L2.CX P w) 5 (He.ma K (CT K) "with_party") fd ["self", "name", "marks", "weights"] (spWP K) := by
  have O_check_name : Ok P w K mg base "check_name" 2 spCkName := ok_check_name T
  have O_check_weights : Ok P w K mg base "check_weights" 2 (spCkW K) := ok_check_weights T
  have O_made_standing : OkD P w K mg base "made_standing" 4 (spMade K) := ok_made T
  have O_Sightu__initu_ : COk P w K mg base "Sight" 2 (spInit K) := cok T
  have O_Standingu_party_triples : MOk P w K mg base "Standing" "_party_triples" 1 (spTri K) := mok_tri T
  obtain ⟨fd, F⟩ := kw_def T.d_Standing_with_party T.kw_weights
  refine ⟨fd, F, F.ok scStanding_with_party (fun vs H Q E h => ?_) fun cdv A outer s H vs Q E hr h => ?_⟩
  · obtain ⟨x, am, bm, z, S, ns, wv, ws, rfl, _⟩ := h
    rfl
  obtain ⟨x, am, bm, z, S, ns, wv, ws, rfl, ⟨ok, td, tf, tp, tfr, tpr, dd, dsa, dw, dp, fas, pas, fra, pra, hs⟩, nm, nin, ha, hl, h1000, hwv, hpew, hQ⟩ := h
  have big : (16777216 : Nat) ≤ sizeLine := by decide
  obtain ⟨dx, hx⟩ := hs.ins
  have pew : pas.length ≤ 100 := by have := ok.pew; rw [hs.ep, List.length_map] at this; exact this
  have d1 := ok.d1
  have wl : ws.length = S.deals.length := by
    rcases hwv with ⟨_, rfl⟩ | ⟨_, _, _, _, h, _⟩
    · exact List.length_replicate
    · exact h
  have w1 : ∀ d ∈ ws, 1 ≤ d := by
    rcases hwv with ⟨_, rfl⟩ | ⟨_, _, _, _, _, h⟩
    · intro d hd
      rw [(List.mem_replicate.mp hd).2]
      exact Nat.le_refl 1
    · exact h
  refine ⟨_, PSs.nox (pss_cons (ps_expr (pe_c (E := EN) O_check_name hr (by decide) (fun σ => passN σ) (pa_cons (pv 1) pa_nil)))
  (pss_cons (ps_if (pt_cmp (pc_din (hu_of hr) (pv 1) (pe_fld (pv 0) rfl)))
  (pss_one ps_dead)
  pss_nil)
  (pss_cons (ps_if (pt_cmpR op_ne (pe_callB (lenK K) (by rfl) T.f_len boot_len (pa_cons (pv 2) pa_nil)) (pe_callB (lenK K) (by rfl) T.f_len boot_len (pa_cons (pe_fld (pv 0) rfl) pa_nil)) (nomark _))
  (pss_one ps_dead)
  pss_nil)
  (pss_cons (ps_set (i := 4) scStanding_with_party.nd rfl (by first | exact Or.inl rfl | exact Or.inr rfl) (pe_ifExp (pt_cmpR op_isN (pv 3) pe_non (nomark _)) (pe_op (op_rep1 K) (pe_tupF (pa_cons pe_int pa_nil)) (pe_callB (lenK K) (by rfl) T.f_len boot_len (pa_cons (pe_fld (pv 0) rfl) pa_nil))) (pe_callTy (tupF K) (by rfl) T.f_tuple (by decide +kernel) (pa_cons (pv 3) pa_nil))))
  (pss_cons (ps_if (pt_cmpR op_ne (pe_callB (lenK K) (by rfl) T.f_len boot_len (pa_cons (pv 4) pa_nil)) (pe_callB (lenK K) (by rfl) T.f_len boot_len (pa_cons (pe_fld (pv 0) rfl) pa_nil)) (nomark _))
  (pss_one ps_dead)
  pss_nil)
  (pss_cons (ps_expr (pe_c (E := EN) O_check_weights hr (by decide) (fun σ => passN σ) (pa_cons (pv 4) pa_nil)))
  (pss_cons (ps_set (i := 5) scStanding_with_party.nd rfl (by first | exact Or.inl rfl | exact Or.inr rfl) (pe_callTy (lstK K) (by rfl) T.f_list (by decide +kernel) (pa_cons (pe_m0K K (E := EN) O_Standingu_party_triples hr (by decide) (fun σ => passN σ) (pv 0)) pa_nil)))
  (pss_cons (ps_expr (pe_bm PySem.F.plainAttrs_list PySem.F.slot_list_append PySem.F.type_list_append mt_append (pv 5) (pa_cons (pe_tupF (pa_cons (pv 1) (pa_cons (pe_nK K (E := EN) O_Sightu__initu_ hr (by decide) (fun σ => passN σ) (pa_cons (pv 2) pa_nil)) (pa_cons (pv 4) pa_nil)))) pa_nil)))
  (pss_one (ps_ret (pe_cD (E := EN) O_made_standing hr (by decide) (fun σ => passN σ) (pa_cons (pe_fld (pv 0) rfl) (pa_cons (pe_fld (pv 0) rfl) (pa_cons (pv 5) pa_nil)))))))))))))), ?_⟩
  refine ⟨_, rfl, z, rfl, nm, fun H1 s1 => ?_⟩
  refine ⟨_, rfl, _, rfl, x, _, dx, _, .ref dsa, rfl, s1 _ _ hx, T.c_Standing, T.nt_sights, rfl, dsa, none, rfl, .inl ⟨_, .inr z, .inl (s1 _ _ hs.ds), rfl, (kvS_none hs.ep nin).symm⟩, _, rfl, ?_⟩
  refine iteF ?_
  refine ⟨_, rfl, am, _, rfl, (SqB.same s1 ha).either, _, rfl, x, _, dx, _, .ref td, rfl, s1 _ _ hx, T.c_Standing, T.nt_deals, rfl, td, _, rfl, .inr (Same.sqT s1 hs.td), rfl, _, rfl, ?_⟩
  have z1 : (!decide (V.int ((ns.map V.int).length : Nat) = V.int ((nV S.deals).length : Nat))) = false := by rw [nV_len, List.length_map, hl]; simp
  rw [z1]
  refine iteF ?_
  unfold tNext
  dsimp only
  refine seq_cut fun D1 f1 => ?_
  have rest : ∀ (H3 : Hp) (rw0 : Addr), Same H1 H3 → SqT K H3 rw0 (nV ws) → D1.nx [some (.ref x), some (.str z), some (.ref am), some wv, some (.ref rw0), none] H3 := by
    intro H3 rw0 s13 hrw
    rw [f1]
    have s03 := same2 s1 s13
    refine ⟨_, rfl, rw0, _, rfl, .inr hrw, _, rfl, x, _, dx, _, .ref td, rfl, s03 _ _ hx, T.c_Standing, T.nt_deals, rfl, td, _, rfl, .inr (Same.sqT s03 hs.td), rfl, _, rfl, ?_⟩
    have z2 : (!decide (V.int ((nV ws).length : Nat) = V.int ((nV S.deals).length : Nat))) = false := by rw [nV_len, nV_len, wl]; simp
    rw [z2]
    refine iteF ⟨_, rfl, rw0, ws, rfl, hrw, w1, fun H4 s4 => ?_⟩
    have s04 := same2 s03 s4
    refine ⟨_, rfl, x, dx, _, rfl, s04 _ _ hx, rfl, x, S, td, tf, tp, tfr, tpr, dd, dsa, dw, dp, fas, pas, fra, pra, rfl, ok, hs.same s04, fun H5 q tra s5 ft tr => ?_⟩
    have s05 := same2 s04 s5
    have tl := Paired.length tr
    refine ⟨q, _, rfl, .inr ft.sq, fun l nl => ?_⟩
    have s6 := same_new (o := .lst (tra.map V.ref)) nl
    have hl6 : upd H5 l (.lst (tra.map V.ref)) l = some (.lst (tra.map V.ref)) := upd_same ..
    have tr6 : Paired (TRow K (upd H5 l (.lst (tra.map V.ref)))) tra pas := pimp (fun _ _ _ e => e.same s6) tr
    generalize upd H5 l (.lst (tra.map V.ref)) = H6 at s6 hl6 tr6
    have s06 := same2 s05 s6
    refine ⟨_, rfl, .inl ⟨rfl, _, .inl (.inl hl6)⟩, _, rfl, _, rfl, ?_⟩
    have hm : MarksAt K H6 am (ren ns) := by
      refine ⟨ns.map V.int, by rw [List.length_map, hl]; omega, .inl ⟨ns, rfl, rfl, (SqB.same s06 ha).either⟩⟩
    refine make_fin hm (fun _ H7 sa s7 nsa hsa => ?_) (fun e => absurd e (by rw [ren_len]; omega))
    refine ⟨_, rfl, Nat.le_trans (by show 3 ≤ 16777216; decide) big, fun u H8 nu s8 fu _ => ?_⟩
    have s68 := same2 s7 s8
    have hl8 := s68 _ _ hl6
    have s08 := same2 s06 s68
    refine ⟨l, _, _, rfl, rfl, hl8, by rw [List.length_map]; omega, ?_⟩
    have el : tra.map V.ref ++ [V.ref u] = (tra ++ [u]).map V.ref := by rw [List.map_append] <;> rfl
    rw [el]
    have nl0 : H l = none := s05.free nl
    have s09 : Same H (upd H8 l (.lst ((tra ++ [u]).map V.ref))) := same_put nl0 s08
    have hl9 : upd H8 l (.lst ((tra ++ [u]).map V.ref)) l = some (.lst ((tra ++ [u]).map V.ref)) := upd_same ..
    have keepT : ∀ {a : Addr} {ys : List V}, SqT K H8 a ys → SqT K (upd H8 l (.lst ((tra ++ [u]).map V.ref))) a ys := fun {a ys} e => by
      rcases e with (e | ⟨o, e⟩) | e
      · exact .inl (.inl (by rw [upd_ne (fun z => by rw [z, hl8] at e; cases e)]; exact e))
      · exact .inl (.inr ⟨o, by rw [upd_ne (fun z => by rw [z, hl8] at e; cases e)]; exact e⟩)
      · exact .inr e
    have hsa9 : SightAt K (upd H8 l (.lst ((tra ++ [u]).map V.ref))) sa (ren ns) := by
      obtain ⟨⟨sdx, mk, sc, m1, m2, ts, m3, m4⟩, k1, k2, k3⟩ := hsa.same s8
      have k : ∀ {b : Addr} {o : HO}, (∀ xs, o ≠ .lst xs) → H8 b = some o → upd H8 l (.lst ((tra ++ [u]).map V.ref)) b = some o := fun {b o} no e => by
        rw [upd_ne (fun z => by rw [z, hl8] at e; exact no _ (Option.some.inj e).symm)]
        exact e
      exact ⟨⟨sdx, mk, sc, k (fun _ z => by cases z) m1, k (fun _ z => by cases z) m2, ts, k (fun _ z => by cases z) m3, pimp (fun _ _ _ z => k (fun _ z => by cases z) z) m4⟩, k1, k2, k3⟩
    have htr9 : Paired (TRow K (upd H8 l (.lst ((tra ++ [u]).map V.ref)))) (tra ++ [u]) (pas ++ [⟨z, sa, rw0, ren ns, ws⟩]) := psnoc (pimp (fun _ _ _ e => keepT (e.same s68)) tr6) (keepT fu.sq)
    have hrw9 : SqT K (upd H8 l (.lst ((tra ++ [u]).map V.ref))) rw0 (nV ws) := keepT (Same.sqT (same2 s4 (same2 s5 (same2 s6 s68))) hrw)
    generalize upd H8 l (.lst ((tra ++ [u]).map V.ref)) = H9 at s09 hl9 hsa9 htr9 hrw9
    refine ⟨_, rfl, x, _, dx, _, .ref td, rfl, s09 _ _ hx, T.c_Standing, T.nt_deals, rfl, _, rfl, x, _, dx, _, .ref tfr, rfl, s09 _ _ hx, T.c_Standing, T.nt_fact_rows, rfl, _, rfl, ?_⟩
    refine ⟨td, tfr, l, false, true, S.addP z (ren ns) ws, fas, pas ++ [⟨z, sa, rw0, ren ns, ws⟩], fra, tra ++ [u], rfl, ok.addP nin (by rw [ren_len]; exact hl) wl hpew, hs.ef, ?_, Same.sqT s09 hs.td, .inr (hs.tfr.same s09), pimp (fun _ _ _ e => e.same s09) hs.fr, .inl (.inl hl9), htr9, fun p hp => ?_, fun H10 q10 s10 n10 h10 => hQ H10 q10 (same2 s09 s10) (s09.free n10) h10⟩
    · show S.parts ++ [(z, ren ns, ws)] = _
      rw [hs.ep, List.map_append] <;> rfl
    · rcases List.mem_append.mp hp with e | e
      · exact (hs.pv p e).same s09
      · rw [List.mem_singleton.mp e]
        exact ⟨hsa9, hrw9⟩
  rcases hwv with ⟨rfl, rfl⟩ | ⟨aw, bw, rfl, hb, _, _⟩
  · refine ⟨_, rfl, rfl, _, rfl, ?_⟩
    have zn : decide (V.non = V.non) = true := decide_eq_true rfl
    rw [zn]
    refine iteT ⟨Nat.le_trans (by show 1 ≤ 16777216; decide) big, fun u H2 nu s2 fu _ => ?_⟩
    have s02 := same2 s1 s2
    refine ⟨_, rfl, x, _, dx, _, .ref td, rfl, s02 _ _ hx, T.c_Standing, T.nt_deals, rfl, td, _, rfl, .inr (Same.sqT s02 hs.td), u, _, [.int 1], rfl, rfl, fu.sq, by simp, by rw [nV_len]; omega, by rw [nV_len]; omega, by show 1 ≤ 1000; decide, fun e => ?_, fun e r nr => ?_⟩
    · have e1 : S.deals.length = 1 := by rw [nV_len] at e; omega
      exact rest H2 u s2 (by rw [e1]; exact fu.sq)
    · have er : (List.replicate (((nV S.deals).length : Nat) : Int).toNat [V.int 1]).flatten = nV (List.replicate S.deals.length 1) := by
        have e1 : (((nV S.deals).length : Nat) : Int).toNat = S.deals.length := by rw [nV_len]; omega
        rw [e1]
        simp [nV]
      dsimp only
      rw [er]
      exact rest _ r (same2 s2 (same_new nr)) (.inl (.inl (upd_same ..)))
  · refine ⟨_, rfl, rfl, _, rfl, ?_⟩
    have zn : decide (V.ref aw = V.non) = false := decide_eq_false fun e => by cases e
    rw [zn]
    refine iteF ⟨_, rfl, ?_⟩
    dsimp only [tNil]
    exact tup_any (SqB.same s1 hb) fun r H2 s2 hr2 => rest H2 r s2 hr2
theorem mn_with (T : Tx K mg) : MNOk P w K mg base "Standing" "with_party" 5 (spWP K) 3 ["weights"] (fun vs zs => vs ++ zs) := by
  obtain ⟨fd, F, G⟩ := fn_wp (P := P) (w := w) (base := base) T
  exact ⟨⟨fd, _, _, G, kbn_with F fun _ _ _ _ _ _ _ _ _ _ => rfl⟩, T.c_Standing, T.m_with_party⟩
theorem mn_without (T : Tx K mg) : MNOk P w K mg base "Standing" "with_party" 5 (spWP K) 3 [] (fun vs _ => vs ++ [.non]) := by
  obtain ⟨fd, F, G⟩ := fn_wp (P := P) (w := w) (base := base) T
  obtain ⟨g, hg⟩ := kbn_without F fun _ _ _ _ _ _ _ _ _ _ => ⟨_, _, _, _, _, _, rfl, rfl, rfl⟩
  exact ⟨⟨fd, _, g, G, hg⟩, T.c_Standing, T.m_with_party⟩
end
end K05
set_option Elab.async false
set_option linter.all false
set_option maxRecDepth 100000
set_option maxHeartbeats 4000000
namespace K05
open PySem PySem.Spec PyProof.Rows L2 Ms
def Std.delF (S : Std) (z : Str) : Std := ⟨S.deals, S.facts.filter fun f => decide (f.1 ≠ z), S.parts⟩
def Std.delP (S : Std) (z : Str) : Std := ⟨S.deals, S.facts, S.parts.filter fun f => decide (f.1 ≠ z)⟩
theorem Std.Ok.delF {S : Std} (o : S.Ok) (z : Str) : (S.delF z).Ok :=
  ⟨o.d1, o.d2, o.nd, o.fn.sublist (List.filter_sublist.map _), o.pn, fun f hf => o.fl f (List.mem_filter.mp hf).1, o.pl, Nat.le_trans (List.length_filter_le ..) o.few, o.pew⟩
theorem Std.Ok.delP {S : Std} (o : S.Ok) (z : Str) : (S.delP z).Ok :=
  ⟨o.d1, o.d2, o.nd, o.fn, o.pn.sublist (List.filter_sublist.map _), o.fl, fun f hf => o.pl f (List.mem_filter.mp hf).1, o.few, Nat.le_trans (List.length_filter_le ..) o.pew⟩
def spWoF (K : PySem.W.Frag) : Sp := fun vs H Q _ => ∃ (x : Addr) (z : Str) (S : Std), vs = [.ref x, .str z] ∧ StandAt K H x S ∧ z ∈ S.facts.map (·.1) ∧ ∀ H' q, Same H H' → H q = none → StandAt K H' q (S.delF z) → Q (.ref q) H'
def spWoP (K : PySem.W.Frag) : Sp := fun vs H Q _ => ∃ (x : Addr) (z : Str) (S : Std), vs = [.ref x, .str z] ∧ StandAt K H x S ∧ z ∈ S.parts.map (·.1) ∧ ∀ H' q, Same H H' → H q = none → StandAt K H' q (S.delP z) → Q (.ref q) H'
def spPos (K : PySem.W.Frag) : Sp := fun vs H Q _ => ∃ (x : Addr) (d i : Nat) (S : Std), vs = [.ref x, .int (d : Nat)] ∧ StandAt K H x S ∧ S.deals[i]? = some d ∧ Q (.int (i : Nat)) H
theorem filter_take {α : Type} {p : α → Bool} {l : List α} {i : Nat} {x : α} (e : l[i]? = some x) : (l.take (i + 1)).filter p = (l.take i).filter p ++ (if p x = true then [x] else []) := by
  rw [List.take_add_one, e, List.filter_append]
  congr 1
  by_cases h : p x = true
  · rw [if_pos h]; exact List.filter_cons_of_pos h
  · rw [if_neg h]; exact List.filter_cons_of_neg h
theorem str_ne {a z : Str} : (!decide (V.str a = V.str z)) = decide (a ≠ z) := by
  by_cases h : a = z
  · subst h; simp
  · rw [decide_eq_true h, decide_eq_false fun e => h (V.str.inj e)] <;> rfl
section
variable {P : Program} {w : World} {K : PySem.W.Frag} {mg : Str → Option Value} {base : Heap}
theorem mok_wof (T : Tx K mg) : MOk P w K mg base "Standing" "without_fact" 5 (spWoF K) := by
  have O_made_standing : OkD P w K mg base "made_standing" 4 (spMade K) := ok_made T
  have O_Standingu_party_triples : MOk P w K mg base "Standing" "_party_triples" 1 (spTri K) := mok_tri T
  refine mok_of ⟨T.d_Standing_without_fact, T.c_Standing, T.m_without_fact⟩ scStanding_without_fact (fun vs H Q E h => ?_) bi_Standing_without_fact fun cdv A outer s H vs Q E hr h => ?_
  · obtain ⟨x, z, S, rfl, _⟩ := h
    rfl
  obtain ⟨x, z, S, rfl, ⟨ok, td, tf, tp, tfr, tpr, dd, dsa, dw, dp, fas, pas, fra, pra, hs⟩, hin, hQ⟩ := h
  have big : (16777216 : Nat) ≤ sizeLine := by decide
  obtain ⟨dx, hx⟩ := hs.ins
  have few : fas.length ≤ 100 := by have := ok.few; rw [hs.ef, List.length_map] at this; exact this
  have fl := Paired.length hs.fr
  obtain ⟨o, ho⟩ : ∃ o, valV (kvF fas) (.inr z) = some o := by
    cases e : valV (kvF fas) (.inr z) with
    | some o => exact ⟨o, rfl⟩
    | none =>
      exfalso
      rw [hs.ef, List.map_map] at hin
      obtain ⟨f, hf, ez⟩ := List.mem_map.mp hin
      obtain ⟨i, hi⟩ := List.getElem?_of_mem hf
      unfold valV at e
      rw [Option.map_eq_none_iff, List.find?_eq_none] at e
      exact e _ (List.mem_map.mpr ⟨f, hf, rfl⟩) (decide_eq_true (congrArg Sum.inr ez))
  refine ⟨_, (pss_cons (ps_if (pt_cmp (pc_dnotin (hu_of hr) (pv 1) (pe_fld (pv 0) rfl)))
  (pss_one ps_dead)
  pss_nil)
  (pss_cons (ps_setLc (i := 2) (own := [("row", 3)]) (g := gName 3) rfl scStanding_without_fact.nd rfl rfl (sw_true rfl rfl rfl (by decide +kernel)) (pi_tup (pe_fld (pv 0) rfl)) (blkOk_by (N := ["self", "name", "rest", "row"]) (sc := defScope sStanding_without_fact) (by decide +kernel)) (fun _ _ _ _ _ => (pg_name (i := 3) scStanding_without_fact.nd rfl (by first | exact Or.inl rfl | exact Or.inr rfl))) (fun _ _ _ _ _ => (pts_one (pt_cmpR op_ne (pe_ix (ixT K) (pv 3) pe_int (fun _ _ => rfl)) (pv 1) (nomark _)))) (fun _ _ _ _ _ => (pv 3)))
  (pss_one (ps_ret (pe_cD (E := EN) O_made_standing hr (by decide) (fun σ => passN σ) (pa_cons (pe_fld (pv 0) rfl) (pa_cons (pv 2) (pa_cons (pe_m0K K (E := EN) O_Standingu_party_triples hr (by decide) (fun σ => passN σ) (pv 0)) pa_nil)))))))), ?_⟩
  refine ⟨_, rfl, _, rfl, x, _, dx, _, .ref dd, rfl, hx, T.c_Standing, T.nt_digits, rfl, dd, some o, rfl, .inl ⟨_, .inr z, .inl hs.dd, rfl, ho.symm⟩, _, rfl, ?_⟩
  refine iteF ?_
  refine ⟨_, rfl, x, _, dx, _, .ref tfr, rfl, hx, T.c_Standing, T.nt_fact_rows, rfl, tfr, rfl, ⟨_, hs.tfr.sq⟩, fun N nN => ?_⟩
  refine lc_it (walk_tup (K := K) (a := tfr) (xs := fra.map V.ref)) (fun i H1 => ∃ ra : List Addr, H1 N = some (.lst (ra.map V.ref)) ∧ ra.length ≤ i ∧ Paired (FRow K H) ra ((fas.take i).filter fun f => decide (f.name ≠ z)) ∧ Same H H1) ⟨[], upd_same .., Nat.le_refl 0, .nil, same_new nN⟩ (fun i H1 _ h => by obtain ⟨_, _, _, _, h⟩ := h; exact (hs.tfr.same h).sq) ?_ ?_
  · rintro i y H0 H1 hi ⟨ra, q1, q2, q3, q4⟩ ⟨rfl, hy⟩
    rw [List.length_map] at hi
    obtain ⟨q, f, h1, h2, h3⟩ := pget2 hs.fr hi
    rw [List.getElem?_map, h1] at hy
    cases hy
    refine ⟨rfl, _, rfl, q, _, _, .str f.name, rfl, rfl, Same.sqT q4 h3.1, atI_nat (j := 0) rfl, _, rfl, rfl, _, rfl, ?_⟩
    rw [str_ne, filter_take h2]
    by_cases e : f.name ≠ z
    · rw [decide_eq_true e]
      refine iteT ⟨_, rfl, _, q1, by rw [List.length_map]; omega, ra ++ [q], by rw [upd_same, List.map_append] <;> rfl, by rw [List.length_append, List.length_singleton]; omega, ?_, same_put nN q4⟩
      rw [if_pos rfl]
      exact psnoc q3 h3
    · rw [decide_eq_false e]
      refine iteF ⟨ra, q1, by omega, ?_, q4⟩
      rw [if_neg Bool.false_ne_true, List.append_nil]
      exact q3
  rintro H1 ⟨ra, q1, _, q3, q4⟩
  rw [List.length_map, fl, List.take_length] at q3
  refine ⟨_, rfl, x, _, dx, _, .ref td, rfl, q4 _ _ hx, T.c_Standing, T.nt_deals, rfl, _, rfl, _, rfl, x, dx, _, rfl, q4 _ _ hx, rfl, x, S, td, tf, tp, tfr, tpr, dd, dsa, dw, dp, fas, pas, fra, pra, rfl, ok, hs.same q4, fun H2 q tra s2 ft tr => ?_⟩
  have s02 := same2 q4 s2
  refine ⟨td, N, q, false, false, S.delF z, fas.filter fun f => decide (f.name ≠ z), pas, ra, tra, rfl, ok.delF z, ?_, hs.ep, Same.sqT s02 hs.td, .inl (.inl (.inl (s2 _ _ q1))), pimp (fun _ _ _ e => e.same s02) q3, ft.sq, tr, fun p hp => (hs.pv p hp).same s02, fun H7 q7 s7 n7 h7 => hQ H7 q7 (same2 s02 s7) (s02.free n7) h7⟩
  show S.facts.filter _ = _
  rw [hs.ef, List.filter_map] <;> rfl
theorem mok_wop (T : Tx K mg) : MOk P w K mg base "Standing" "without_party" 5 (spWoP K) := by
  have O_made_standing : OkD P w K mg base "made_standing" 4 (spMade K) := ok_made T
  have O_Standingu_party_triples : MOk P w K mg base "Standing" "_party_triples" 1 (spTri K) := mok_tri T
  refine mok_of ⟨T.d_Standing_without_party, T.c_Standing, T.m_without_party⟩ scStanding_without_party (fun vs H Q E h => ?_) bi_Standing_without_party fun cdv A outer s H vs Q E hr h => ?_
  · obtain ⟨x, z, S, rfl, _⟩ := h
    rfl
  obtain ⟨x, z, S, rfl, ⟨ok, td, tf, tp, tfr, tpr, dd, dsa, dw, dp, fas, pas, fra, pra, hs⟩, hin, hQ⟩ := h
  have big : (16777216 : Nat) ≤ sizeLine := by decide
  obtain ⟨dx, hx⟩ := hs.ins
  have pew : pas.length ≤ 100 := by have := ok.pew; rw [hs.ep, List.length_map] at this; exact this
  obtain ⟨o, ho⟩ : ∃ o, valV (kvS pas) (.inr z) = some o := by
    cases e : valV (kvS pas) (.inr z) with
    | some o => exact ⟨o, rfl⟩
    | none =>
      exfalso
      rw [hs.ep, List.map_map] at hin
      obtain ⟨f, hf, ez⟩ := List.mem_map.mp hin
      unfold valV at e
      rw [Option.map_eq_none_iff, List.find?_eq_none] at e
      exact e _ (List.mem_map.mpr ⟨f, hf, rfl⟩) (decide_eq_true (congrArg Sum.inr ez))
  refine ⟨_, (pss_cons (ps_if (pt_cmp (pc_dnotin (hu_of hr) (pv 1) (pe_fld (pv 0) rfl)))
  (pss_one ps_dead)
  pss_nil)
  (pss_cons (ps_setLc (i := 2) (own := [("row", 3)]) (g := gName 3) rfl scStanding_without_party.nd rfl rfl (sw_true rfl rfl rfl (by decide +kernel)) (pi_tup (pe_m0K K (E := EN) O_Standingu_party_triples hr (by decide) (fun σ => passN σ) (pv 0))) (blkOk_by (N := ["self", "name", "rest", "row"]) (sc := defScope sStanding_without_party) (by decide +kernel)) (fun _ _ _ _ _ => (pg_name (i := 3) scStanding_without_party.nd rfl (by first | exact Or.inl rfl | exact Or.inr rfl))) (fun _ _ _ _ _ => (pts_one (pt_cmpR op_ne (pe_ix (ixT K) (pv 3) pe_int (fun _ _ => rfl)) (pv 1) (nomark _)))) (fun _ _ _ _ _ => (pv 3)))
  (pss_one (ps_ret (pe_cD (E := EN) O_made_standing hr (by decide) (fun σ => passN σ) (pa_cons (pe_fld (pv 0) rfl) (pa_cons (pe_fld (pv 0) rfl) (pa_cons (pv 2) pa_nil)))))))), ?_⟩
  refine ⟨_, rfl, _, rfl, x, _, dx, _, .ref dsa, rfl, hx, T.c_Standing, T.nt_sights, rfl, dsa, some o, rfl, .inl ⟨_, .inr z, .inl hs.ds, rfl, ho.symm⟩, _, rfl, ?_⟩
  refine iteF ?_
  refine ⟨_, rfl, x, dx, _, rfl, hx, rfl, x, S, td, tf, tp, tfr, tpr, dd, dsa, dw, dp, fas, pas, fra, pra, rfl, ok, hs, fun H1 q tra s1 ft tr => ?_⟩
  have tl := Paired.length tr
  refine ⟨q, rfl, ⟨_, ft.sq⟩, fun N nN => ?_⟩
  refine lc_it (walk_tup (K := K) (a := q) (xs := tra.map V.ref)) (fun i H2 => ∃ ra : List Addr, H2 N = some (.lst (ra.map V.ref)) ∧ ra.length ≤ i ∧ Paired (TRow K H1) ra ((pas.take i).filter fun f => decide (f.name ≠ z)) ∧ Same H1 H2) ⟨[], upd_same .., Nat.le_refl 0, .nil, same_new nN⟩ (fun i H2 _ h => by obtain ⟨_, _, _, _, h⟩ := h; exact (ft.same h).sq) ?_ ?_
  · rintro i y H0 H2 hi ⟨ra, q1, q2, q3, q4⟩ ⟨rfl, hy⟩
    rw [List.length_map] at hi
    obtain ⟨u, f, h1, h2, h3⟩ := pget2 tr hi
    rw [List.getElem?_map, h1] at hy
    cases hy
    refine ⟨rfl, _, rfl, u, _, _, .str f.name, rfl, rfl, Same.sqT q4 h3, atI_nat (j := 0) rfl, _, rfl, rfl, _, rfl, ?_⟩
    rw [str_ne, filter_take h2]
    by_cases e : f.name ≠ z
    · rw [decide_eq_true e]
      refine iteT ⟨_, rfl, _, q1, by rw [List.length_map]; omega, ra ++ [u], by rw [upd_same, List.map_append] <;> rfl, by rw [List.length_append, List.length_singleton]; omega, ?_, same_put nN q4⟩
      rw [if_pos rfl]
      exact psnoc q3 h3
    · rw [decide_eq_false e]
      refine iteF ⟨ra, q1, by omega, ?_, q4⟩
      rw [if_neg Bool.false_ne_true, List.append_nil]
      exact q3
  rintro H2 ⟨ra, q1, _, q3, q4⟩
  rw [List.length_map, tl, List.take_length] at q3
  have s02 := same2 s1 q4
  refine ⟨_, rfl, x, _, dx, _, .ref td, rfl, s02 _ _ hx, T.c_Standing, T.nt_deals, rfl, _, rfl, x, _, dx, _, .ref tfr, rfl, s02 _ _ hx, T.c_Standing, T.nt_fact_rows, rfl, _, rfl, ?_⟩
  refine ⟨td, tfr, N, false, true, S.delP z, fas, pas.filter fun f => decide (f.name ≠ z), fra, ra, rfl, ok.delP z, hs.ef, ?_, Same.sqT s02 hs.td, .inr (hs.tfr.same s02), pimp (fun _ _ _ e => e.same s02) hs.fr, .inl (.inl q1), pimp (fun _ _ _ e => e.same q4) q3, fun p hp => (hs.pv p (List.mem_filter.mp hp).1).same s02, fun H7 q7 s7 n7 h7 => hQ H7 q7 (same2 s02 s7) (s02.free n7) h7⟩
  show S.parts.filter _ = _
  rw [hs.ep, List.filter_map] <;> rfl
theorem kvP_at {ds : List Nat} (nd : ds.Nodup) {i d : Nat} (e : ds[i]? = some d) : valV (kvP ds) (.inl ((d : Nat) : Int)) = some (.int (i : Nat)) := by
  have dnd : (ds.zipIdx.map fun p : Nat × Nat => (Sum.inl ((p.1 : Nat) : Int) : Key)).Nodup := by
    have e : (ds.zipIdx.map fun p : Nat × Nat => (Sum.inl ((p.1 : Nat) : Int) : Key)) = ds.map fun d => (Sum.inl ((d : Nat) : Int) : Key) := by
      refine List.ext_getElem? fun i => ?_
      rw [List.getElem?_map, List.getElem?_map, List.getElem?_zipIdx]
      cases ds[i]? <;> rfl
    rw [e]
    exact nodup_inl nd
  exact valV_at (f := fun p : Nat × Nat => (Sum.inl ((p.1 : Nat) : Int) : Key)) (v := fun p : Nat × Nat => V.int ((p.2 : Nat) : Int)) dnd (x := (d, i)) (i := i) (by rw [List.getElem?_zipIdx, e, Nat.zero_add] <;> rfl)
theorem mok_pos (T : Tx K mg) : MOk P w K mg base "Standing" "position" 1 (spPos K) := by
  refine mok_of ⟨T.d_Standing_position, T.c_Standing, T.m_position⟩ scStanding_position (fun vs H Q E h => ?_) bi_Standing_position fun cdv A outer s H vs Q E hr h => ?_
  · obtain ⟨x, d, i, S, rfl, _⟩ := h
    rfl
  obtain ⟨x, d, i, S, rfl, ⟨ok, td, tf, tp, tfr, tpr, dd, dsa, dw, dp, fas, pas, fra, pra, hs⟩, hd, hQ⟩ := h
  obtain ⟨dx, hx⟩ := hs.ins
  have e := kvP_at ok.nd hd
  refine ⟨_, (pss_cons (ps_if (pt_cmp (pc_dnotin (hu_of hr) (pv 1) (pe_fld (pv 0) rfl)))
  (pss_one ps_dead)
  pss_nil)
  (pss_one (ps_ret (pe_dget (hu_of hr) (pe_fld (pv 0) rfl) (pv 1) (fun _ _ => rfl))))), ?_⟩
  refine ⟨_, rfl, _, rfl, x, _, dx, _, .ref dp, rfl, hx, T.c_Standing, T.nt_places, rfl, dp, some _, rfl, .inl ⟨_, .inl (d : Nat), .inl hs.dp, rfl, e.symm⟩, _, rfl, ?_⟩
  exact iteF ⟨_, rfl, x, _, dx, _, .ref dp, rfl, hx, T.c_Standing, T.nt_places, rfl, _, rfl, dp, _, rfl, .inl ⟨_, .inl (d : Nat), .inl hs.dp, rfl, e.symm⟩, hQ⟩
end
end K05
set_option Elab.async false
set_option linter.all false
set_option maxRecDepth 100000
set_option maxHeartbeats 4000000
/-! Ms: sorted(set(l)), l a list of fewer than 60 ints. -/
namespace Ms
open PySem PySem.Spec PyProof.Rows L2
/-- the set that is made first -/
abbrev sOb (w : World) : Obj := { cls := .type "set", dict := none, data := .set #[] 0 (.fresh 0 0 (!w.params.followText "set-order")) }
section
variable {P : Program} {w : World} {A : Around} {E : Value → Shared → Prop} {s : Shared}
theorem call_setL {l : Addr} {xs : Array Value} (ns : List Int) {Q : Value → Shared → Prop} (hh : A.handled = none) (hl : s.heap.IsList l xs) (hx : IntsAre xs.toList ns) (hb : ns.length + 1 < scanBound)
    (h : ∀ (g : Heap) (tk c : Nat), SetR w g s.heap.objs.size (fun j => decide (j ∈ ns)) c → c ≤ ns.length → (∀ b o, s.heap.get? b = some o → g.get? b = some o) → Q (.ref s.heap.objs.size) { s with heap := g, toks := tk }) :
    wpAny (model P w) A (call (.type "set") [.ref l]) Q E s := by
  have xn : xs.size = ns.length := by rw [← IntsAre.length hx, Array.length_toList]
  obtain ⟨k0, k1, k2⟩ := F.called_set.mro; have k3 := F.called_set.made; have k4 := F.called_set.sub
  refine wpAny_call (codeAny_of_tree ?_); show wpAny _ _ (callAny (.type "set") _) _ _ _
  refine wpAny_pure ⟨Code.quiet_builtin _ (by decide +kernel), codeAny_builtin F.entry_type_call ?_⟩; rw [Around.under_plain (weight_type_call_type "set" [.ref l] []) rfl]
  have k5 := F.called_set.notType; have k6 := F.called_set.canCreate; have k7 := F.typeCall_set_1 (.ref l)
  repeat (any_goals (first | assumption | wp_step))
  refine codeAny_mono (code_set_led1 (.ref l) (E := E) (Q₁ := fun ob t => ob = .ref s.heap.objs.size ∧ t = { s with heap := s.heap.push (sOb w) }) ⟨rfl, rfl⟩) fun r t hr => ?_
  match r, hr with
  | .error e, hr => exact hr
  | .ok (.ret ob), hr =>
    obtain ⟨rfl, rfl⟩ := hr
    have hS : (s.heap.push (sOb w)).get? s.heap.objs.size = some (sOb w) := Heap.get?_push_size _ rfl
    have hT : Shared.TypeIs { s with heap := s.heap.push (sOb w) } (.ref s.heap.objs.size) "set" := ⟨_, hS, rfl⟩
    have k8 := F.called_set.init.lookup; have k9 := F.called_set.init.bind (.ref s.heap.objs.size)
    repeat (any_goals (first | assumption | wp_step))
    refine codeAny_mono (codeAny_call_builtin (R := wants (fun u t => u = .none ∧ ∃ g tk c, t = { s with heap := g, toks := tk } ∧ SetR w g s.heap.objs.size (fun j => decide (j ∈ ns)) c ∧ c ≤ ns.length ∧ (∀ b o, s.heap.get? b = some o → g.get? b = some o)) E) F.called_set.init.plain F.entry_set_init (check_set_init_1 hT ?_)) fun r2 t2 hr2 => ?_
    · obtain ⟨⟨oc, od, odat, osl⟩, ho, hc, n, hdat⟩ := hl
      simp only at hc hdat
      subst hc hdat
      have ho2 : (s.heap.push (sOb w)).get? l = some _ := Heap.get?_push_of_some _ ho
      have u1 := F.sub_list_set; have u2 := F.sub_list_frozenset; have u3 : (Value.type "list" == Value.type "dict") = false := by decide
      have hl1 : (s.heap.push (sOb w)).IsList l xs := ⟨_, ho2, rfl, n, rfl⟩
      unfold Builtin.«set.__init__» noKeywords Builtin.Frozenset.updateFrom; generalize hPI : pyIter = PI
      wp_walk
      subst hPI
      refine wpAny_pyIter_list hl1 (wpAny_bind (wpAny_runValue ?_))
      have lS : l < s.heap.objs.size := Heap.lt_size ho
      have h3 : A.in1.in1.in1.handled = none := by simp [hh]
      have lI : l ≠ (s.heap.push (sOb w)).objs.size := by rw [Heap.size_push]; exact Nat.ne_of_lt (Nat.lt_succ_of_lt lS)
      have sF : s.heap.objs.size ∉ [(s.heap.push (sOb w)).objs.size, l] := by
        rw [Heap.size_push]
        intro m
        rcases List.mem_cons.mp m with e | e
        · exact absurd e (Nat.ne_of_lt (Nat.lt_succ_self _))
        · exact absurd (List.mem_singleton.mp e) (Nat.ne_of_gt lS)
      have val : ∀ (i : Nat) (v : Value), xs[i]? = some v → ∃ k t, ns[i]? = some k ∧ v = .int k t := fun i v hv => by
        have hi : i < ns.length := by rw [← xn]; exact (Array.getElem?_eq_some_iff.mp hv).1
        obtain ⟨t, e⟩ := IntsAre.int_at hx i v (by rw [Array.getElem?_toList]; exact hv)
        exact ⟨ns[i], t, List.getElem?_eq_getElem hi, by rw [e, List.getD_eq_getElem?_getD, List.getElem?_eq_getElem hi] <;> rfl⟩
      refine set_update_ints ((Walks.list h3 _ l lI xs).toS) s.heap.objs.size sF ns xn hb val (xs.size - 0) 0 _ (by omega) (Nat.zero_le _) ⟨⟨_, Heap.get?_push_size _ rfl, rfl, rfl⟩, (hl1.push _)⟩ ?_ ?_
      · exact ⟨0, Nat.le_refl 0, setR_new_at (Heap.get?_push_of_some _ hS)⟩
      · intro t c hm hc2 hS2
        obtain ⟨g, g2, d2, tk, o2⟩ := t
        obtain rfl : g2 = s.gens := hm.gens
        obtain rfl : d2 = s.drawn := hm.drawn
        obtain rfl : o2 = s.os := hm.os
        show wpAny _ _ _ _ _ _
        refine wpAny_pure ?_; show wpAny _ _ (ret Value.none) _ _ _
        rw [xn] at hc2
        refine wpAny_pure ⟨rfl, g, tk, c, rfl, hS2, hc2, fun b o e => hm.heap b o (fun m => ?_) (Heap.get?_push_of_some _ (Heap.get?_push_of_some _ e))⟩
        have b0 : b < s.heap.objs.size := Heap.lt_size e
        rw [Heap.size_push] at m
        simp only [List.mem_cons, List.mem_singleton, List.not_mem_nil, or_false] at m
        exact m.elim (fun e => absurd e (Nat.ne_of_lt b0)) fun e => absurd e (Nat.ne_of_lt (Nat.lt_succ_of_lt b0))
    · match r2, hr2 with
      | .error e, hr2 => exact hr2
      | .ok (.ret u), hr2 =>
        obtain ⟨rfl, g, tk, c, rfl, q1, q2, q3⟩ := hr2
        repeat (any_goals (first | assumption | wp_step))
        exact h g tk c q1 q2 q3
end
section
variable {X : Cx}
/-- set(l) -/
def rSetL (K : PySem.W.Frag) (w : World) : List V → Hp → VK → Prop := fun vs H Q => ∃ (a : Addr) (ns : List Int), vs = [V.ref a] ∧ SqL K H a (ns.map V.int) ∧ ns.length ≤ 60 ∧
  ∀ p c H', H p = none → c ≤ ns.length → Same H H' → H' p = some (SetO w p (fun j => decide (j ∈ ns)) c) → Q (.ref p) H'
theorem setL_raw (hc : X.calm = true) : CallR X (.type "set") (rSetL X.K X.w) := by
  intro pins s σ H vs us Q I r h
  obtain ⟨a, ns, rfl, hs, hl, q⟩ := h
  rw [Vals.ref1 r]
  obtain ⟨its, rv, pl, _⟩ := I.list hs
  refine call_setL ns (I.ok.hd hc) pl.isList (by simpa using ints_of_vals rv) (by unfold scanBound; omega) fun g tk c R hcn k => ?_
  have hf : H s.heap.objs.size = none := I.hok.fresh (Nat.le_refl _)
  exact ⟨.ref s.heap.objs.size, _, I.laid (t' := tk) k (Nat.le_refl _) (setO_new R), rfl, q _ c _ hf hcn (fun b o e => by rw [upd_ne (fun z => by rw [z, hf] at e; cases e)]; exact e) (upd_same ..)⟩
end
end Ms
set_option Elab.async false
set_option linter.all false
set_option maxRecDepth 100000
set_option maxHeartbeats 4000000
namespace K05
open PySem PySem.Spec PyProof.Rows L2 Ms
def pickR (ps : List Nat) (r : List Nat) : List Nat := ps.map (at0 r)
def Std.pick (S : Std) (ps : List Nat) : Std := ⟨pickR ps S.deals, S.facts.map fun f => (f.1, pickR ps f.2), S.parts.map fun p => (p.1, ren ((pickR ps p.2.1).map fun n => ((n : Nat) : Int)), pickR ps p.2.2)⟩
theorem pickR_len {ps r : List Nat} : (pickR ps r).length = ps.length := List.length_map ..
theorem Std.Ok.pick {S : Std} (o : S.Ok) {ps : List Nat} (p1 : 0 < ps.length) (p2 : ps.length ≤ 2000) (pw : ps.Pairwise (· < ·)) (lt : ∀ p ∈ ps, p < S.deals.length) : (S.pick ps).Ok := by
  refine ⟨by show 0 < (pickR ps S.deals).length; rw [pickR_len]; exact p1, by show (pickR ps S.deals).length ≤ _; rw [pickR_len]; exact p2, ?_, ?_, ?_, ?_, ?_, by show (S.facts.map _).length ≤ 100; rw [List.length_map]; exact o.few, by show (S.parts.map _).length ≤ 100; rw [List.length_map]; exact o.pew⟩
  · show (ps.map (at0 S.deals)).Nodup
    rw [List.nodup_iff_pairwise_ne, List.pairwise_map]
    refine pw.imp_of_mem fun {a b} ha hb hab e => ?_
    have ea := of_at0 (lt a ha)
    have eb := of_at0 (lt b hb)
    rw [e] at ea
    have q : a = b := (List.getElem?_inj (lt a ha) o.nd).mp (ea.trans eb.symm)
    omega
  · show ((S.facts.map _).map _).Nodup
    rw [List.map_map]
    exact o.fn
  · show ((S.parts.map _).map _).Nodup
    rw [List.map_map]
    exact o.pn
  · intro f hf
    obtain ⟨g, hg, rfl⟩ := List.mem_map.mp hf
    show (pickR _ _).length = (pickR _ _).length
    rw [pickR_len, pickR_len]
  · intro f hf
    obtain ⟨g, hg, rfl⟩ := List.mem_map.mp hf
    refine ⟨?_, ?_⟩
    · show (ren _).length = (pickR _ _).length
      rw [ren_len, List.length_map, pickR_len, pickR_len]
    · show (pickR _ _).length = (pickR _ _).length
      rw [pickR_len, pickR_len]
def spOnly (K : PySem.W.Frag) : Sp := fun vs H Q _ => ∃ (x a : Addr) (b : Bool) (S : Std) (ds : List Nat), vs = [.ref x, .ref a] ∧ StandAt K H x S ∧ SqB K b H a (nV ds) ∧ 0 < ds.length ∧ ds.length ≤ 60 ∧ (∀ d ∈ ds, d ∈ S.deals) ∧
  ∀ H' q ps, Same H H' → H q = none → ps.Pairwise (· < ·) → (∀ p, p ∈ ps ↔ ∃ d ∈ ds, S.deals[p]? = some d) → StandAt K H' q (S.pick ps) → Q (.ref q) H'
theorem sqT_put {K : PySem.W.Frag} {H : Hp} {N : Addr} {xs zs : List V} (hN : H N = some (.lst xs)) {a : Addr} {ys : List V} (e : SqT K H a ys) : SqT K (upd H N (.lst zs)) a ys := by
  rcases e with (e | ⟨o, e⟩) | e
  · exact .inl (.inl (by rw [upd_ne (fun z => by rw [z, hN] at e; cases e)]; exact e))
  · exact .inl (.inr ⟨o, by rw [upd_ne (fun z => by rw [z, hN] at e; cases e)]; exact e⟩)
  · exact .inr e
theorem sight_put {K : PySem.W.Frag} {H : Hp} {N : Addr} {xs zs : List V} (hN : H N = some (.lst xs)) {p : Addr} {r : List Nat} (e : SightAt K H p r) : SightAt K (upd H N (.lst zs)) p r := by
  obtain ⟨⟨sdx, mk, sc, m1, m2, ts, m3, m4⟩, k1, k2, k3⟩ := e
  have k : ∀ {b : Addr} {o : HO}, (∀ xs, o ≠ .lst xs) → H b = some o → upd H N (.lst zs) b = some o := fun {b o} no e => by
    rw [upd_ne (fun z => by rw [z, hN] at e; exact no _ (Option.some.inj e).symm)]
    exact e
  exact ⟨⟨sdx, mk, sc, k (fun _ z => by cases z) m1, k (fun _ z => by cases z) m2, ts, k (fun _ z => by cases z) m3, pimp (fun _ _ _ z => k (fun _ z => by cases z) z) m4⟩, k1, k2, k3⟩
theorem nats {ns : List Int} {l : List Nat} (pw : ns.Pairwise (· < ·)) (mem : ∀ k, k ∈ ns ↔ k ∈ l.map fun n => ((n : Nat) : Int)) : ∃ ps : List Nat, ns = (ps.map fun n => ((n : Nat) : Int)) ∧ ps.Pairwise (· < ·) ∧ ∀ p, p ∈ ps ↔ p ∈ l := by
  have nn : ∀ k ∈ ns, ((k.toNat : Nat) : Int) = k := fun k m => by
    obtain ⟨n, _, rfl⟩ := List.mem_map.mp ((mem k).mp m)
    exact congrArg _ (Int.toNat_natCast n)
  refine ⟨ns.map Int.toNat, ?_, ?_, fun p => ⟨fun m => ?_, fun m => ?_⟩⟩
  · rw [List.map_map]
    exact (List.map_id ns).symm.trans (List.map_congr_left fun k m => (nn k m).symm)
  · rw [List.pairwise_map]
    refine pw.imp_of_mem fun {a b} ha hb hab => ?_
    have := nn a ha
    have := nn b hb
    omega
  · obtain ⟨k, hk, rfl⟩ := List.mem_map.mp m
    obtain ⟨n, hn, e⟩ := List.mem_map.mp ((mem k).mp hk)
    rw [← e]
    exact hn
  · refine List.mem_map.mpr ⟨((p : Nat) : Int), (mem _).mpr (List.mem_map.mpr ⟨p, m, rfl⟩), Int.toNat_natCast p⟩
theorem pmapE {α β γ : Type} {f : α → γ} {g : β → γ} {xs : List α} {ys : List β} (h : Paired (fun x y => f x = g y) xs ys) : xs.map f = ys.map g := by
  induction h with
  | nil => rfl
  | cons e _ ih => exact congr (congrArg List.cons e) ih
section
variable {P : Program} {w : World} {K : PySem.W.Frag} {mg : Str → Option Value} {base : Heap}
theorem mok_only (T : Tx K mg) : MOk P w K mg base "Standing" "only" 5 (spOnly K) := by
  have O_made_standing : OkD P w K mg base "made_standing" 4 (spMade K) := ok_made T
  have O_picked : Ok P w K mg base "picked" 1 (spPick K) := ok_picked T
  have O_Sightu__initu_ : COk P w K mg base "Sight" 2 (spInit K) := cok T
  have O_Standing_position : MOk P w K mg base "Standing" "position" 1 (spPos K) := mok_pos T
  refine mok_of ⟨T.d_Standing_only, T.c_Standing, T.m_only⟩ scStanding_only (fun vs H Q E h => ?_) bi_Standing_only fun cdv A outer s H vs Q E hr h => ?_
  · obtain ⟨x, a, b, S, ds, rfl, _⟩ := h
    rfl
  obtain ⟨x, a, b, S, ds, rfl, ⟨ok, td, tf, tp, tfr, tpr, dd, dsa, dw, dp, fas, pas, fra, pra, hs⟩, ha, hl, h60, hin, hQ⟩ := h
  have big : (16777216 : Nat) ≤ sizeLine := by decide
  obtain ⟨dx, hx⟩ := hs.ins
  have few : fas.length ≤ 100 := by have := ok.few; rw [hs.ef, List.length_map] at this; exact this
  have pew : pas.length ≤ 100 := by have := ok.pew; rw [hs.ep, List.length_map] at this; exact this
  have fl := Paired.length hs.fr
  have pl := Paired.length hs.pr
  refine ⟨_, (pss_cons (ps_set (i := 2) scStanding_only.nd rfl (by first | exact Or.inl rfl | exact Or.inr rfl) (pe_lc (own := [("deal", 3)]) (g := gName 3) rfl scStanding_only.nd (pi_seq K (pv 1)) (blkOk_by (N := ["self", "deals", "places", "deal", "facts", "name", "digits", "parties", "marks", "weights"]) (sc := defScope sStanding_only) (by decide +kernel)) (fun _ _ _ _ _ => (pg_name (i := 3) scStanding_only.nd rfl (by first | exact Or.inl rfl | exact Or.inr rfl))) (fun _ _ _ _ _ => pts_nil) (fun _ _ _ _ _ => (pe_mK K (E := EN) O_Standing_position hr (by decide) (fun σ => passN σ) (pv 0) (pa_cons (pv 3) pa_nil)))))
  (pss_cons (ps_if (pt_cmpR op_eq (pe_callB (lenK K) (by rfl) T.f_len boot_len (pa_cons (pv 2) pa_nil)) pe_int (nomark _))
  (pss_one ps_dead)
  pss_nil)
  (pss_cons (ps_set (i := 2) scStanding_only.nd rfl (by first | exact Or.inl rfl | exact Or.inr rfl) (pe_callB (cr_sortedSet rfl) (by rfl) T.f_sorted (by decide +kernel) (pa_cons (pe_callTy (setL_raw rfl) (by rfl) T.f_set (by decide +kernel) (pa_cons (pv 2) pa_nil)) pa_nil)))
  (pss_cons (ps_setLc (i := 4) (own := [("name", 5), ("digits", 6)]) (g := gTup K 2 (gCons (gName 5) (gCons (gName 6) (gNil)))) rfl scStanding_only.nd rfl rfl (sw_true rfl rfl rfl (by decide +kernel)) (pi_tup (pe_fld (pv 0) rfl)) (blkOk_by (N := ["self", "deals", "places", "deal", "facts", "name", "digits", "parties", "marks", "weights"]) (sc := defScope sStanding_only) (by decide +kernel)) (fun _ _ _ _ _ => (pg_tup rfl (pgs_cons (pg_name (i := 5) scStanding_only.nd rfl (by first | exact Or.inl rfl | exact Or.inr rfl)) (pgs_cons (pg_name (i := 6) scStanding_only.nd rfl (by first | exact Or.inl rfl | exact Or.inr rfl)) pgs_nil)))) (fun _ _ _ _ _ => pts_nil) (fun _ _ _ _ _ => (pe_tupF (pa_cons (pv 5) (pa_cons (pe_c (E := EN) O_picked hr (by decide) (fun σ => passN σ) (pa_cons (pv 6) (pa_cons (pv 2) pa_nil))) pa_nil)))))
  (pss_cons (ps_set (i := 7) scStanding_only.nd rfl (by first | exact Or.inl rfl | exact Or.inr rfl) (pe_lst pa_nil))
  (pss_cons (ps_for PassesOwn.never rfl (pi_tup (pe_fld (pv 0) rfl)) (pg_tup rfl (pgs_cons (pg_name (i := 5) scStanding_only.nd rfl (by first | exact Or.inl rfl | exact Or.inr rfl)) (pgs_cons (pg_name (i := 8) scStanding_only.nd rfl (by first | exact Or.inl rfl | exact Or.inr rfl)) (pgs_cons (pg_name (i := 9) scStanding_only.nd rfl (by first | exact Or.inl rfl | exact Or.inr rfl)) pgs_nil))))
  (pss_one (ps_expr (pe_bm PySem.F.plainAttrs_list PySem.F.slot_list_append PySem.F.type_list_append mt_append (pv 7) (pa_cons (pe_tupF (pa_cons (pv 5) (pa_cons (pe_nK K (E := EN) O_Sightu__initu_ hr (by decide) (fun σ => passN σ) (pa_cons (pe_c (E := EN) O_picked hr (by decide) (fun σ => passN σ) (pa_cons (pv 8) (pa_cons (pv 2) pa_nil))) pa_nil)) (pa_cons (pe_c (E := EN) O_picked hr (by decide) (fun σ => passN σ) (pa_cons (pv 9) (pa_cons (pv 2) pa_nil))) pa_nil)))) pa_nil)))))
  (pss_one (ps_ret (pe_cD (E := EN) O_made_standing hr (by decide) (fun σ => passN σ) (pa_cons (pe_c (E := EN) O_picked hr (by decide) (fun σ => passN σ) (pa_cons (pe_fld (pv 0) rfl) (pa_cons (pv 2) pa_nil))) (pa_cons (pv 4) (pa_cons (pv 7) pa_nil)))))))))))), ?_⟩
  refine ⟨_, rfl, a, b, _, rfl, ha, fun J W N nN => ?_⟩
  refine lc_it W (fun i H1 => ∃ ps0 : List Nat, H1 N = some (.lst (nV ps0)) ∧ Paired (fun p d => S.deals[p]? = some d) ps0 (ds.take i) ∧ Same H H1) ⟨[], upd_same .., .nil, same_new nN⟩ (fun i H1 _ h => by obtain ⟨_, _, _, h⟩ := h; exact SqB.same h ha) ?_ ?_
  · rintro i y H0 H1 hi ⟨ps0, q1, q2, q3⟩ ⟨rfl, hy⟩
    obtain ⟨d, hd, rfl⟩ := of_nV hy
    rw [nV_len] at hi
    have lp : ps0.length ≤ 60 := by rw [Paired.length q2, List.length_take]; omega
    obtain ⟨p, hp⟩ := List.getElem?_of_mem (hin d (List.mem_of_getElem? hd))
    refine ⟨rfl, _, rfl, x, dx, _, rfl, q3 _ _ hx, rfl, _, rfl, x, d, p, S, rfl, ⟨ok, td, tf, tp, tfr, tpr, dd, dsa, dw, dp, fas, pas, fra, pra, hs.same q3⟩, hp, ?_⟩
    refine ⟨_, q1, by rw [nV_len]; omega, ps0 ++ [p], by rw [upd_same, nV_snoc], ?_, same_put nN q3⟩
    rw [List.take_add_one, hd]
    exact psnoc q2 hp
  rintro H1 ⟨ps0, q1, q2, s1⟩
  rw [nV_len, List.take_length] at q2
  have l0 := Paired.length q2
  refine ⟨_, rfl, N, _, rfl, .inl (.inl (.inl q1)), rfl, _, rfl, ?_⟩
  have z1 : decide (V.int ((nV ps0).length : Nat) = V.int 0) = false := by rw [nV_len]; refine decide_eq_false fun e => ?_; have := V.int.inj e; omega
  rw [z1]
  refine iteF ?_
  have en : ∀ l : List Nat, (l.map fun n => ((n : Nat) : Int)).map V.int = nV l := fun l => by rw [List.map_map] <;> rfl
  refine ⟨_, rfl, N, ps0.map fun n => ((n : Nat) : Int), rfl, .inl (.inl (by rw [en]; exact q1)), by rw [List.length_map]; omega, fun p c H2 np hc s2 hset => ?_⟩
  refine ⟨p, _, c, rfl, hset, by rw [List.length_map] at hc; omega, fun ns q pw mem len nq => ?_⟩
  obtain ⟨ps, rfl, pw2, mem2⟩ := nats (l := ps0) pw fun k => (mem k).trans decide_eq_true_iff
  have s3 := same_new (o := .lst ((ps.map fun n => ((n : Nat) : Int)).map V.int)) nq
  have hq : upd H2 q (.lst ((ps.map fun n => ((n : Nat) : Int)).map V.int)) q = some (.lst (nV ps)) := by rw [upd_same, en]
  have s03 := same2 s1 (same2 s2 s3)
  generalize upd H2 q (.lst ((ps.map fun n => ((n : Nat) : Int)).map V.int)) = H3 at s03 hq
  have pmem : ∀ p, p ∈ ps ↔ ∃ d ∈ ds, S.deals[p]? = some d := fun p => (mem2 p).trans ⟨fun m => by
    obtain ⟨i, hi⟩ := List.getElem?_of_mem m
    obtain ⟨d, e, f⟩ := LiI.paired_get q2 hi
    exact ⟨d, List.mem_of_getElem? e, f⟩, fun ⟨d, m, f⟩ => by
    obtain ⟨i, hi⟩ := List.getElem?_of_mem m
    have li : i < ps0.length := by rw [l0]; exact ltE hi
    obtain ⟨d', e, f'⟩ := LiI.paired_get q2 (getE li)
    rw [hi] at e
    cases e
    have := (List.getElem?_inj (ltE f) ok.nd).mp (f.trans f'.symm)
    rw [this]
    exact List.getElem_mem li⟩
  have plt : ∀ p ∈ ps, p < S.deals.length := fun p m => by
    obtain ⟨d, _, e⟩ := (pmem p).mp m
    exact ltE e
  have p0 : 0 < ps.length := by
    obtain ⟨d, hd⟩ := List.exists_mem_of_length_pos hl
    obtain ⟨i, hi⟩ := List.getElem?_of_mem (hin d hd)
    exact List.length_pos_of_mem ((pmem i).mpr ⟨d, hd, hi⟩)
  have p60 : ps.length ≤ 60 := by
    rw [List.length_map] at len hc
    omega
  refine ⟨_, rfl, x, _, dx, _, .ref tfr, rfl, s03 _ _ hx, T.c_Standing, T.nt_fact_rows, rfl, tfr, rfl, ⟨_, Same.sqT s03 hs.tfr.sq⟩, fun F nF => ?_⟩
  refine lc_it (walk_tup (K := K) (a := tfr) (xs := fra.map V.ref)) (fun i H4 => ∃ (ra : List Addr) (fs : List FA), H4 F = some (.lst (ra.map V.ref)) ∧ Paired (FRow K H4) ra fs ∧ Paired (fun g f => g.name = f.name ∧ g.digits = pickR ps f.digits) fs (fas.take i) ∧ Same H3 H4) ⟨[], [], upd_same .., .nil, .nil, same_new nF⟩ (fun i H4 _ h => by obtain ⟨_, _, _, _, _, h⟩ := h; exact Same.sqT (same2 s03 h) hs.tfr.sq) ?_ ?_
  · rintro i y H4a H4 hi ⟨ra, fs, r1, r2, r3, r4⟩ ⟨rfl, hy⟩
    rw [List.length_map] at hi
    obtain ⟨u, f, h1, h2, h3⟩ := pget2 hs.fr hi
    rw [List.getElem?_map, h1] at hy
    cases hy
    have s04 := same2 s03 r4
    have hf := h3.same s04
    have ff : f.digits.length = S.deals.length := ok.fl f.abs (by rw [hs.ef]; exact List.mem_map.mpr ⟨f, List.mem_of_getElem? h2, rfl⟩)
    have lra : ra.length ≤ 100 := by rw [Paired.length r2, Paired.length r3, List.length_take]; omega
    refine ⟨u, _, rfl, hf.1, rfl, _, _, rfl, _, _, rfl, rfl, rfl, ?_⟩
    refine ⟨_, rfl, _, rfl, _, rfl, f.da, q, f.digits, ps, rfl, hf.2, .inl (.inl (r4 _ _ hq)), fun p m => by rw [ff]; exact plt p m, by omega, fun H5 v s5 fv => ?_⟩
    refine ⟨Nat.le_trans (by show 2 ≤ 16777216; decide) big, fun z H6 nz s6 fz _ => ?_⟩
    have s46 := same2 s5 s6
    have hF := s46 _ _ r1
    refine ⟨_, hF, by rw [List.length_map]; omega, ra ++ [z], fs ++ [⟨f.name, v, pickR ps f.digits⟩], by rw [upd_same, List.map_append] <;> rfl, ?_, ?_, same_put nF (same2 r4 s46)⟩
    · exact psnoc (pimp (fun _ _ _ e => ⟨sqT_put hF (Same.sqT s46 e.1), sqT_put hF (Same.sqT s46 e.2)⟩) r2) ⟨sqT_put hF fz.sq, sqT_put hF (Same.sqT s6 fv.sq)⟩
    · rw [List.take_add_one, h2]
      exact psnoc r3 ⟨rfl, rfl⟩
  rintro H4 ⟨ra, fs, r1, r2, r3, r4⟩
  rw [List.length_map, fl, List.take_length] at r3
  refine ⟨Nat.zero_le _, fun M nM => ?_⟩
  have s34 := r4
  have s04 := same2 s03 r4
  have s04M : Same H (upd H4 M (.lst [])) := same2 s04 (same_new nM)
  refine ⟨_, rfl, x, _, dx, _, .ref tpr, rfl, s04M _ _ hx, T.c_Standing, T.nt_party_rows, rfl, tpr, rfl, ⟨_, Same.sqT s04M hs.tpr.sq⟩, for_it (walk_tup (K := K) (a := tpr) (xs := pra.map V.ref)) (fun i σ H5 => ∃ (m5 m8 m9 : Option V) (ta : List Addr) (qs : List PA), σ = [some (.ref x), some (.ref a), some (.ref q), none, some (.ref F), m5, none, some (.ref M), m8, m9] ∧ H5 M = some (.lst (ta.map V.ref)) ∧ Paired (TRow K H5) ta qs ∧ (∀ z ∈ qs, PVal K H5 z) ∧ Paired (fun g f => g.name = f.name ∧ g.row = ren ((pickR ps f.row).map fun n => ((n : Nat) : Int)) ∧ g.wts = pickR ps f.wts) qs (pas.take i) ∧ Same H4 H5) ⟨none, none, none, [], [], rfl, upd_same .., .nil, (fun _ h => by cases h), .nil, same_new nM⟩ (fun i σ H5 _ h => by obtain ⟨_, _, _, _, _, _, _, _, _, _, h⟩ := h; exact Same.sqT (same2 s04 h) hs.tpr.sq) ?_ ?_⟩
  · rintro i y σ H5a H5 hi ⟨m5, m8, m9, ta, qs, rfl, t1, t2, t3, t4, t5⟩ ⟨rfl, hy⟩
    rw [List.length_map] at hi
    obtain ⟨u, f, h1, h2, h3⟩ := pget2 hs.pr hi
    rw [List.getElem?_map, h1] at hy
    cases hy
    have s05 := same2 s04 t5
    obtain ⟨mk, k1, k2⟩ := h3.same s05
    have hv := (hs.pv f (List.mem_of_getElem? h2)).same s05
    have ff := ok.pl f.abs (by rw [hs.ep]; exact List.mem_map.mpr ⟨f, List.mem_of_getElem? h2, rfl⟩)
    have ff1 : f.row.length = S.deals.length := ff.1
    have ff2 : f.wts.length = S.deals.length := ff.2
    have lra : ta.length ≤ 100 := by rw [Paired.length t2, Paired.length t4, List.length_take]; omega
    refine ⟨u, _, rfl, k1, rfl, _, _, rfl, _, _, rfl, _, _, rfl, rfl, ?_⟩
    refine ⟨_, rfl, .inl ⟨rfl, _, .inl (.inl t1)⟩, _, rfl, _, rfl, _, rfl, mk, q, f.row, ps, rfl, k2, .inl (.inl (t5 _ _ (s34 _ _ hq))), fun p m => by rw [ff1]; exact plt p m, by omega, fun H6 v s6 fv => ?_⟩
    have hm : MarksAt K H6 v (ren ((pickR ps f.row).map fun n => ((n : Nat) : Int))) := by
      refine ⟨nV (pickR ps f.row), by rw [nV_len, pickR_len]; omega, .inl ⟨(pickR ps f.row).map fun n => ((n : Nat) : Int), (en _).symm, rfl, .inr fv.sq⟩⟩
    refine make_fin hm (fun _ H7 sa s7 nsa hsa => ?_) (fun e => absurd e (by rw [ren_len, List.length_map, pickR_len]; omega))
    have s67 := same2 s6 s7
    refine ⟨_, rfl, _, rfl, f.wa, q, f.wts, ps, rfl, Same.sqT s67 hv.2, .inl (.inl (s67 _ _ (t5 _ _ (s34 _ _ hq)))), fun p m => by rw [ff2]; exact plt p m, by omega, fun H8 v2 s8 fv2 => ?_⟩
    refine ⟨Nat.le_trans (by show 3 ≤ 16777216; decide) big, fun z H9 nz s9 fz _ => ?_⟩
    have s59 := same2 s67 (same2 s8 s9)
    have hM := s59 _ _ t1
    refine ⟨M, _, _, rfl, rfl, hM, by rw [List.length_map]; omega, ?_⟩
    refine ⟨_, _, _, ta ++ [z], qs ++ [⟨f.name, sa, v2, ren ((pickR ps f.row).map fun n => ((n : Nat) : Int)), pickR ps f.wts⟩], rfl, by rw [upd_same, List.map_append] <;> rfl, ?_, ?_, ?_, same_put nM (same2 t5 s59)⟩
    · exact psnoc (pimp (fun _ _ _ e => sqT_put hM (Same.sqT s59 e)) t2) (sqT_put hM fz.sq)
    · intro y hy
      rcases List.mem_append.mp hy with e | e
      · exact ⟨sight_put hM ((t3 y e).1.same s59), sqT_put hM (Same.sqT s59 (t3 y e).2)⟩
      · rw [List.mem_singleton.mp e]
        exact ⟨sight_put hM (hsa.same (same2 s8 s9)), sqT_put hM (Same.sqT s9 fv2.sq)⟩
    · rw [List.take_add_one, h2]
      exact psnoc t4 ⟨rfl, rfl, rfl⟩
  rintro σ H5 ⟨m5, m8, m9, ta, qs, rfl, t1, t2, t3, t4, t5⟩
  rw [List.length_map, pl, List.take_length] at t4
  have s05 := same2 s04 t5
  refine ⟨_, rfl, x, _, dx, _, .ref td, rfl, s05 _ _ hx, T.c_Standing, T.nt_deals, rfl, _, rfl, td, q, S.deals, ps, rfl, Same.sqT s05 hs.td, .inl (.inl (t5 _ _ (s34 _ _ hq))), plt, by omega, fun H6 v s6 fv => ?_⟩
  refine ⟨_, rfl, _, rfl, v, F, M, false, true, S.pick ps, fs, qs, ra, ta, rfl, ok.pick p0 (by omega) pw2 plt, ?_, ?_, fv.sq, .inl (.inl (.inl (s6 _ _ (t5 _ _ r1)))), pimp (fun _ _ _ e => e.same (same2 t5 s6)) r2, .inl (.inl (s6 _ _ t1)), pimp (fun _ _ _ e => e.same s6) t2, fun z hz => (t3 z hz).same s6, fun H7 q7 s7 n7 h7 => hQ H7 q7 ps (same2 s05 (same2 s6 s7)) ((same2 s05 s6).free n7) pw2 pmem h7⟩
  · show S.facts.map _ = _
    rw [hs.ef, List.map_map]
    refine (pmapE (pimp (fun _ _ _ e => ?_) r3)).symm
    obtain ⟨e1, e2⟩ := e
    show (_, _) = (_, _)
    rw [e1, e2] <;> rfl
  · show S.parts.map _ = _
    rw [hs.ep, List.map_map]
    refine (pmapE (pimp (fun _ _ _ e => ?_) t4)).symm
    obtain ⟨e1, e2, e3⟩ := e
    show (_, _, _) = (_, _, _)
    rw [e1, e2, e3] <;> rfl
end
end K05
set_option Elab.async false
set_option linter.all false
set_option maxRecDepth 100000
set_option maxHeartbeats 4000000
/-! Ms: data of one form, compared. -/
namespace Ms
open PySem PySem.Spec PyProof.Rows L2
structure Enc (α : Type) [DecidableEq α] where
  d : α → PyData
  k : Nat
  ok : α → Prop
  lay : ∀ a, ok a → PyData.canLay0 (d a) = true
  dep : ∀ a, PyData.depth (d a) ≤ k
  eqv : ∀ a b, PyData.eqv (d a) (d b) = decide (a = b)
namespace Enc
variable {α β γ : Type} [DecidableEq α] [DecidableEq β] [DecidableEq γ]
def int : Enc Int := ⟨.int, 0, fun _ => True, fun _ _ => by simp [PyData.canLay0], fun _ => by simp [PyData.depth], fun a b => by
  simp only [PyData.eqv]
  by_cases h : a = b
  · subst h; simp
  · simp [h]⟩
def str : Enc Str := ⟨.str, 0, fun z => PyData.strOk z = true, fun _ h => by simp [PyData.canLay0, h], fun _ => by simp [PyData.depth], fun a b => by
  simp only [PyData.eqv]
  by_cases h : a = b
  · subst h; simp
  · simp [h]⟩
theorem layAll (e : Enc α) : ∀ l : List α, (∀ x ∈ l, e.ok x) → PyData.canLayAll0 (l.map e.d) = true
  | [], _ => by simp [PyData.canLayAll0]
  | x :: l, h => by
    have ih := layAll e l fun y hy => h y (List.mem_cons_of_mem _ hy)
    simp only [List.map_cons, PyData.canLayAll0, e.lay x (h x List.mem_cons_self), ih, Bool.and_self]
theorem depAll (e : Enc α) : ∀ l : List α, PyData.depthAll (l.map e.d) ≤ e.k
  | [] => by simp [PyData.depthAll]
  | x :: l => by
    have ih := depAll e l
    have h := e.dep x
    simp only [List.map_cons, PyData.depthAll]
    omega
theorem eqvAll (e : Enc α) : ∀ l m : List α, PyData.eqvAll (l.map e.d) (m.map e.d) = decide (l = m)
  | [], [] => by simp [PyData.eqvAll]
  | [], _ :: _ => by simp [PyData.eqvAll]
  | _ :: _, [] => by simp [PyData.eqvAll]
  | x :: l, y :: m => by
    have ih := eqvAll e l m
    simp only [List.map_cons, PyData.eqvAll, e.eqv, ih]
    by_cases h : x = y
    · subst h; simp
    · simp [h]
def list (e : Enc α) : Enc (List α) := ⟨fun l => .list (l.map e.d), e.k + 1, fun l => ∀ x ∈ l, e.ok x, fun l h => by simp only [PyData.canLay0, layAll e l h], fun l => by
  have := depAll e l
  simp only [PyData.depth]
  omega, fun l m => by simp only [PyData.eqv, eqvAll]⟩
def tup (e : Enc α) : Enc (List α) := ⟨fun l => .tuple (l.map e.d), e.k + 1, fun l => ∀ x ∈ l, e.ok x, fun l h => by simp only [PyData.canLay0, layAll e l h], fun l => by
  have := depAll e l
  simp only [PyData.depth]
  omega, fun l m => by simp only [PyData.eqv, eqvAll]⟩
theorem eqv2 (e : Enc α) (f : Enc β) (p q : α × β) : PyData.eqvAll [e.d p.1, f.d p.2] [e.d q.1, f.d q.2] = decide (p = q) := by
  obtain ⟨a, b⟩ := p
  obtain ⟨c, d⟩ := q
  simp only [PyData.eqvAll, e.eqv, f.eqv, Bool.and_true]
  by_cases h : a = c <;> by_cases g : b = d <;> simp [h, g]
theorem eqv3 (e : Enc α) (f : Enc β) (g : Enc γ) (p q : α × β × γ) : PyData.eqvAll [e.d p.1, f.d p.2.1, g.d p.2.2] [e.d q.1, f.d q.2.1, g.d q.2.2] = decide (p = q) := by
  obtain ⟨a, b, c⟩ := p
  obtain ⟨a', b', c'⟩ := q
  simp only [PyData.eqvAll, e.eqv, f.eqv, g.eqv, Bool.and_true]
  by_cases h : a = a' <;> by_cases g : b = b' <;> by_cases i : c = c' <;> simp [h, g, i]
def tup2 (e : Enc α) (f : Enc β) : Enc (α × β) := ⟨fun p => .tuple [e.d p.1, f.d p.2], e.k + f.k + 1, fun p => e.ok p.1 ∧ f.ok p.2, fun p h => by simp only [PyData.canLay0, PyData.canLayAll0, e.lay _ h.1, f.lay _ h.2, Bool.and_self], fun p => by
  have := e.dep p.1
  have := f.dep p.2
  simp only [PyData.depth, PyData.depthAll]
  omega, fun p q => by simp only [PyData.eqv, eqv2]⟩
def list2 (e : Enc α) (f : Enc β) : Enc (α × β) := ⟨fun p => .list [e.d p.1, f.d p.2], e.k + f.k + 1, fun p => e.ok p.1 ∧ f.ok p.2, fun p h => by simp only [PyData.canLay0, PyData.canLayAll0, e.lay _ h.1, f.lay _ h.2, Bool.and_self], fun p => by
  have := e.dep p.1
  have := f.dep p.2
  simp only [PyData.depth, PyData.depthAll]
  omega, fun p q => by simp only [PyData.eqv, eqv2]⟩
def tup3 (e : Enc α) (f : Enc β) (g : Enc γ) : Enc (α × β × γ) := ⟨fun p => .tuple [e.d p.1, f.d p.2.1, g.d p.2.2], e.k + f.k + g.k + 1, fun p => e.ok p.1 ∧ f.ok p.2.1 ∧ g.ok p.2.2, fun p h => by simp only [PyData.canLay0, PyData.canLayAll0, e.lay _ h.1, f.lay _ h.2.1, g.lay _ h.2.2, Bool.and_self], fun p => by
  have := e.dep p.1
  have := f.dep p.2.1
  have := g.dep p.2.2
  simp only [PyData.depth, PyData.depthAll]
  omega, fun p q => by simp only [PyData.eqv, eqv3]⟩
def list3 (e : Enc α) (f : Enc β) (g : Enc γ) : Enc (α × β × γ) := ⟨fun p => .list [e.d p.1, f.d p.2.1, g.d p.2.2], e.k + f.k + g.k + 1, fun p => e.ok p.1 ∧ f.ok p.2.1 ∧ g.ok p.2.2, fun p h => by simp only [PyData.canLay0, PyData.canLayAll0, e.lay _ h.1, f.lay _ h.2.1, g.lay _ h.2.2, Bool.and_self], fun p => by
  have := e.dep p.1
  have := f.dep p.2.1
  have := g.dep p.2.2
  simp only [PyData.depth, PyData.depthAll]
  omega, fun p q => by simp only [PyData.eqv, eqv3]⟩
theorem shaped (e : Enc α) (h : e.k ≤ 60) (a : α) (o : e.ok a) : SeqAt.shaped (e.d a) = true := by
  have := e.dep a
  unfold SeqAt.shaped
  rw [e.lay a o, Bool.true_and]
  exact decide_eq_true (by omega)
end Enc
abbrev KT : Type := List Int × List (Str × List Int) × List (Str × List Int × List Int)
instance decKP : DecidableEq (List (Str × List Int × List Int)) := inferInstance
instance decKT : DecidableEq KT := @instDecidableEqProd _ _ inferInstance (@instDecidableEqProd _ _ inferInstance decKP)
def keyE : Enc KT := .tup3 (.tup .int) (.tup (.tup2 .str (.tup .int))) (.tup (.tup3 .str (.tup .int) (.tup .int)))
def rowE : Enc KT := .list3 (.list .int) (.list (.list2 .str (.list .int))) (.list (.list3 .str (.list .int) (.list .int)))
structure KOk (a : KT) : Prop where
  f : ∀ x ∈ a.2.1, PyData.strOk x.1 = true
  p : ∀ x ∈ a.2.2, PyData.strOk x.1 = true
theorem keyE_sh (a : KT) (o : KOk a) : SeqAt.shaped (keyE.d a) = true := keyE.shaped (by decide) a ⟨fun _ _ => trivial, fun x hx => ⟨o.f x hx, fun _ _ => trivial⟩, fun x hx => ⟨o.p x hx, fun _ _ => trivial, fun _ _ => trivial⟩⟩
theorem rowE_sh (a : KT) (o : KOk a) : SeqAt.shaped (rowE.d a) = true := rowE.shaped (by decide) a ⟨fun _ _ => trivial, fun x hx => ⟨o.f x hx, fun _ _ => trivial⟩, fun x hx => ⟨o.p x hx, fun _ _ => trivial, fun _ _ => trivial⟩⟩
section
variable {K : PySem.W.Frag} {H : Hp}
theorem dpAllP {α : Type} {F : V → α → Prop} {d : α → PyData} {vs : List V} {xs : List α} (h : Paired F vs xs) (f : ∀ v x, F v x → Dp K H v (d x)) : DpAll K H vs (xs.map d) := by
  induction h with
  | nil => exact .nil
  | cons e _ ih => exact .cons (f _ _ e) ih
end
end Ms
set_option Elab.async false
set_option linter.all false
set_option maxRecDepth 100000
set_option maxHeartbeats 4000000
namespace K05
open PySem PySem.Spec PyProof.Rows L2 Ms
def cI (l : List Nat) : List Int := l.map fun n => ((n : Nat) : Int)
def Std.kt (S : Std) : KT := (cI S.deals, S.facts.map fun f => (f.1, cI f.2), S.parts.map fun p => (p.1, cI p.2.1, cI p.2.2))
section
variable {K : PySem.W.Frag} {H : Hp}
theorem dpAllM {α : Type} {F : Addr → α → Prop} {d : α → PyData} {as : List Addr} {xs : List α} (h : Paired F as xs) (f : ∀ a x, F a x → Dp K H (.ref a) (d x)) : DpAll K H (as.map V.ref) (xs.map d) := by
  induction h with
  | nil => exact .nil
  | cons e _ ih => exact .cons (f _ _ e) ih
theorem dpC (l : List Nat) : DpAll K H (nV l) ((cI l).map Enc.int.d) := by rw [nV_int]; exact dpI _
theorem key_dp {x : Addr} {S : Std} {td tf tp tfr tpr dd ds dw dp : Addr} {fas : List FA} {pas : List PA} {fra pra : List Addr} {q : Addr} (h : StdAt K H x S td tf tp tfr tpr dd ds dw dp fas pas fra pra) (g : SqT K H q [.ref td, .ref tfr, .ref tpr]) : Dp K H (.ref q) (keyE.d S.kt) := by
  refine .tup g (.cons (.tup h.td (dpC _)) (.cons (.tup h.tfr.sq ?_) (.cons (.tup h.tpr.sq ?_) .nil)))
  · show DpAll K H _ ((S.facts.map _).map _)
    rw [h.ef, List.map_map, List.map_map]
    exact dpAllM h.fr fun a f e => .tup e.1 (.cons (.str _) (.cons (.tup e.2 (dpC _)) .nil))
  · show DpAll K H _ ((S.parts.map _).map _)
    rw [h.ep, List.map_map, List.map_map]
    have pr : Paired (fun q p => PRow K H q p ∧ PVal K H p) pra pas := by
      have : ∀ {as : List Addr} {ps : List PA}, Paired (PRow K H) as ps → (∀ p ∈ ps, PVal K H p) → Paired (fun q p => PRow K H q p ∧ PVal K H p) as ps := fun h => by
        induction h with
        | nil => exact fun _ => .nil
        | cons e _ ih => exact fun z => .cons ⟨e, z _ List.mem_cons_self⟩ (ih fun p hp => z p (List.mem_cons_of_mem _ hp))
      exact this h.pr h.pv
    exact dpAllM pr fun a f e => by
      obtain ⟨⟨mk, e1, e2⟩, e3⟩ := e
      exact .tup e1 (.cons (.str _) (.cons (.tup e2 (dpC _)) (.cons (.tup e3.2 (dpC _)) .nil)))
end
def spEqS (K : PySem.W.Frag) : Sp := fun vs H Q _ => ∃ p y S, vs = [.ref p, y] ∧ StandAt K H p S ∧ ((∃ q U, y = .ref q ∧ StandAt K H q U ∧ KOk S.kt ∧ KOk U.kt ∧ ∀ H', Same H H' → Q (.bl (decide (S.kt = U.kt))) H') ∨ ∃ ty, TyX K H y ty ∧ PySem.W.kitOne K ty (.ref (CT K)) = some false ∧ Q (.bl false) H)
section
variable {P : Program} {w : World} {K : PySem.W.Frag} {mg : Str → Option Value} {base : Heap}
theorem bok_eqS (T : Tx K mg) : BOk P w K mg base "Standing" "__eq__" 3 (spEqS K) := by
  obtain ⟨fdK, psK, FK, bK⟩ := fn_key (P := P) (w := w) (base := base) T
  refine ⟨fn_ok T.d_Standingu__equ_ scStandingu__equ_ (fun vs H Q E h => ?_) bi_Standingu__equ_ fun cdv A outer s H vs Q E hr h => ?_, T.os_eq.sf, T.os_eq.fi, T.os_eq.fn⟩
  · obtain ⟨p, y, S, rfl, _⟩ := h
    rfl
  obtain ⟨p, y, S, rfl, ⟨ok, td, tf, tp, tfr, tpr, dd, dsa, dw, dp, fas, pas, fra, pra, hs⟩, h⟩ := h
  obtain ⟨dx, hx⟩ := hs.ins
  refine ⟨_, (pss_one (ps_ret (pe_and (pe_callB (isK K) (by rfl) T.f_isinstance (by decide +kernel) (pa_cons (pv 1) (pa_cons (pe_glob (v := .ref (He.ga K "Standing")) rfl T.g_Standing rfl) pa_nil))) (pe_one (pe_cmpR (eqK K (hu := hr.units)) (pe_prop (pv 0) T.c_Standing T.p_key FK (hr.mono (by decide)) bK .nil passF (by rfl)) (pe_prop (pv 1) T.c_Standing T.p_key FK (hr.mono (by decide)) bK .nil passF (by rfl)) (nomark _)))))), ?_⟩
  rcases h with ⟨q, U, rfl, ⟨okU, td', tf', tp', tfr', tpr', dd', dsa', dw', dp', fas', pas', fra', pra', hu⟩, k1, k2, hQ⟩ | ⟨ty, h1, h2, hQ⟩
  · obtain ⟨dy, hy⟩ := hu.ins
    refine ⟨_, rfl, .ref q, .ref (CT K), _, _, true, rfl, .own _, .of (.base (.ins hy T.c_Standing T.cl_Standing.ca T.cl_Standing.cg T.cl_Standing.ct T.cl_Standing.ob)), T.is_Standing_Standing, true, rfl, ?_⟩
    refine iteT ?_
    refine ⟨_, rfl, p, dx, _, rfl, hx, p, S, td, tf, tp, tfr, tpr, dd, dsa, dw, dp, fas, pas, fra, pra, rfl, hs, fun H1 a s1 f1 => ?_⟩
    refine ⟨_, rfl, q, dy, _, rfl, s1 _ _ hy, q, U, td', tf', tp', tfr', tpr', dd', dsa', dw', dp', fas', pas', fra', pra', rfl, hu.same s1, fun H2 b s2 f2 => ?_⟩
    refine ⟨_, _, key_dp (hs.same (same2 s1 s2)) (Same.sqT s2 f1.sq), key_dp (hu.same (same2 s1 s2)) f2.sq, keyE_sh _ k1, keyE_sh _ k2, ?_⟩
    rw [keyE.eqv]
    exact hQ H2 (same2 s1 s2)
  · refine ⟨_, rfl, y, .ref (CT K), ty, _, false, rfl, .own _, .of h1, h2, false, rfl, ?_⟩
    exact iteF hQ
end
end K05
set_option Elab.async false
set_option linter.all false
set_option maxRecDepth 100000
set_option maxHeartbeats 4000000
namespace K05
open PySem PySem.Spec PyProof.Rows L2 Ms
theorem digit {a : Int} {n : Nat} (h : 0 < n) : ∃ d : Nat, ((d : Nat) : Int) = a.fmod (n : Nat) ∧ d < n := by
  obtain ⟨g1, g2⟩ := modPos (a := a) (m := (n : Nat)) (by omega)
  exact ⟨(a.fmod (n : Nat)).toNat, by omega, by omega⟩
theorem at0_snoc {l : List Nat} {d j : Nat} : at0 (l ++ [d]) j = if j = l.length then d else at0 l j := by
  unfold at0
  rw [List.getD_eq_getElem?_getD, List.getD_eq_getElem?_getD]
  by_cases e : j = l.length
  · rw [if_pos e, e]; simp
  · rw [if_neg e]
    rcases Nat.lt_or_ge j l.length with h | h
    · rw [List.getElem?_append_left h]
    · have h1 : (l ++ [d])[j]? = none := List.getElem?_eq_none (by rw [List.length_append, List.length_singleton]; omega)
      have h2 : l[j]? = none := List.getElem?_eq_none h
      rw [h1, h2]
section
variable {P : Program} {w : World} {K : PySem.W.Frag} {mg : Str → Option Value} {base : Heap}
theorem ok__law_digits (T : Tx K mg) : Ok P w K mg base "_law_digits" 1 (spDigits K) := by
  refine ok_of T.a__law_digits sc_law_digits (fun vs H Q E h => ?_) bi__law_digits fun cdv A outer s H vs Q E hr h => ?_
  · obtain ⟨c, s, ss, rfl, _⟩ := h
    rfl
  obtain ⟨c, s, ss, rfl, hs, hp, hz, hQ⟩ := h
  have hs1 : ∀ H1 : Hp, Same H H1 → SqL K H1 s (nV ss) := fun H1 q => Same.seq q hs
  refine ⟨_, (pss_cons (ps_set (i := 2) sc_law_digits.nd rfl (by first | exact Or.inl rfl | exact Or.inr rfl) (pe_lst pa_nil))
  (pss_cons (ps_set (i := 3) sc_law_digits.nd rfl (by first | exact Or.inl rfl | exact Or.inr rfl) (pe_callTy call_int1 (by rfl) T.f_int (by decide +kernel) (pa_cons (pv 0) pa_nil)))
  (pss_cons (ps_if (pt_cmpR op_ge (pv 3) (pe_op op_pow pe_int pe_int) (nomark _))
  (pss_cons (ps_set (i := 3) sc_law_digits.nd rfl (by first | exact Or.inl rfl | exact Or.inr rfl) (pe_op op_sub (pv 3) (pe_op op_pow pe_int pe_int)))
    (pss_cons (ps_for PassesOwn.never rfl (pi_list (pv 1)) (pg_name (i := 4) sc_law_digits.nd rfl (by first | exact Or.inl rfl | exact Or.inr rfl))
    (pss_cons (ps_expr (pe_bm PySem.F.plainAttrs_list PySem.F.slot_list_append PySem.F.type_list_append mt_append (pv 2) (pa_cons (pe_op op_modN (pe_callTy call_int1 (by rfl) T.f_int (by decide +kernel) (pa_cons (pv 3) pa_nil)) (pv 4)) pa_nil)))
      (pss_one (ps_set (i := 3) sc_law_digits.nd rfl (by first | exact Or.inl rfl | exact Or.inr rfl) (pe_op op_fdivN (pe_callTy call_int1 (by rfl) T.f_int (by decide +kernel) (pa_cons (pv 3) pa_nil)) (pv 4))))))
    (pss_one (ps_ret (pv 2)))))
  pss_nil)
  (pss_cons (ps_set (i := 5) sc_law_digits.nd rfl (by first | exact Or.inl rfl | exact Or.inr rfl) (pe_op op_modN (pe_callTy call_int1 (by rfl) T.f_int (by decide +kernel) (pa_cons (pv 3) pa_nil)) pe_int))
  (pss_cons (ps_for PassesOwn.never rfl (pi_range1 rfl T.f_range (pa_cons (pe_callB (lenK K) (by rfl) T.f_len boot_len (pa_cons (pv 1) pa_nil)) pa_nil)) (pg_name (i := 6) sc_law_digits.nd rfl (by first | exact Or.inl rfl | exact Or.inr rfl))
  (pss_cons (ps_set (i := 5) sc_law_digits.nd rfl (by first | exact Or.inl rfl | exact Or.inr rfl) (pe_op op_modN (pe_callTy call_int1 (by rfl) T.f_int (by decide +kernel) (pa_cons (pe_op op_add (pe_op op_add (pe_op op_mul (pv 5) pe_int) (pe_op op_mul pe_int (pv 6))) pe_int) pa_nil)) pe_int))
    (pss_cons (ps_set (i := 7) sc_law_digits.nd rfl (by first | exact Or.inl rfl | exact Or.inr rfl) (pe_op op_modN (pe_callTy call_int1 (by rfl) T.f_int (by decide +kernel) (pa_cons (pe_op op_mul (pv 5) (pe_op op_add (pe_op op_fdivN (pv 5) pe_int) pe_int)) pa_nil)) pe_int))
    (pss_one (ps_expr (pe_bm PySem.F.plainAttrs_list PySem.F.slot_list_append PySem.F.type_list_append mt_append (pv 2) (pa_cons (pe_op op_modN (pe_op op_fdivN (pv 7) pe_int) (pe_ix (ixL K) (pv 1) (pv 6) (fun _ _ => rfl))) pa_nil)))))))
  (pss_one (ps_ret (pv 2)))))))), ?_⟩
  refine ⟨Nat.zero_le _, fun l nl => ?_⟩
  have s0 := same_new (o := .lst []) nl
  have ap : ∀ (i : Nat) (ds : List Nat) (H2 : Hp) (d : Nat), Same H H2 → ds.length = i → (∀ j, j < i → at0 ds j < at0 ss j) → d < at0 ss i → Same H (upd H2 l (.lst (nV (ds ++ [d])))) ∧ upd H2 l (.lst (nV (ds ++ [d]))) l = some (.lst (nV (ds ++ [d]))) ∧ (ds ++ [d]).length = i + 1 ∧ ∀ j, j < i + 1 → at0 (ds ++ [d]) j < at0 ss j := fun i ds H2 d s1 hlen hlt hd => by
    refine ⟨fun b o q => ?_, upd_same .., by rw [List.length_append, hlen, List.length_singleton], fun j hj => ?_⟩
    · rw [upd_ne (fun z => by rw [z, nl] at q; cases q)]
      exact s1 _ _ q
    · rw [at0_snoc]
      by_cases e : j = ds.length
      · rw [if_pos e, e, hlen]; exact hd
      · rw [if_neg e]
        exact hlt j (by omega)
  refine ⟨_, rfl, .inl ⟨_, rfl, ?_⟩⟩
  refine ⟨_, rfl, _, _, rfl, rfl, ⟨by decide, by decide, by decide⟩, _, _, rfl, rfl, _, rfl, ?_⟩
  by_cases hc : (10 : Int) ^ (18 : Int).toNat ≤ c
  · rw [show decide ((10 : Int) ^ (18 : Int).toNat ≤ c) = true from decide_eq_true hc]
    refine iteT ?_
    refine ⟨_, rfl, _, _, rfl, rfl, ⟨by decide, by decide, by decide⟩, _, _, rfl, rfl, ?_⟩
    have r0 : 0 ≤ c - 10 ^ (18 : Int).toNat := by omega
    dsimp only
    generalize c - 10 ^ (18 : Int).toNat = rest0 at r0
    refine ⟨_, rfl, s, rfl, ⟨_, hs1 _ s0⟩, for_list (xs := nV ss) (fun i σ H1 => ∃ (rest : Int) (m : Option V) (ds : List Nat), σ = [some (.int c), some (.ref s), some (.ref l), some (.int rest), m, none, none, none] ∧ 0 ≤ rest ∧ Same H H1 ∧ H1 l = some (.lst (nV ds)) ∧ ds.length = i ∧ ∀ j, j < i → at0 ds j < at0 ss j) ?_ ?_ ?_ ?_⟩
    · exact ⟨rest0, none, [], rfl, r0, s0, upd_same .., rfl, fun j hj => absurd hj (Nat.not_lt_zero _)⟩
    · rintro i σ H1 _ ⟨_, _, _, _, _, s1, _⟩
      exact hs1 _ s1
    · rintro i x σ H2 hx ⟨rest, m, ds, rfl, h1, s1, hl, hlen, hlt⟩
      obtain ⟨n, hn, rfl⟩ := of_nV hx
      have hi := ltE hn
      have en : at0 ss i = n := by
        have := of_at0 hi
        rw [hn] at this
        exact (Option.some.inj this).symm
      have szp := hp _ (List.mem_of_getElem? hn)
      obtain ⟨d, hd, hdl⟩ := digit (a := rest) szp.1
      refine ⟨_, rfl, .inl ⟨rfl, _, .inl (.inl hl)⟩, _, rfl, .inl ⟨_, rfl, _, rfl, _, _, rfl, rfl, by show ((n : Nat) : Int) ≠ 0; omega, l, _, _, rfl, rfl, hl, by rw [nV_len, hlen]; exact fewS (by omega), ?_⟩⟩
      dsimp only
      rw [← hd, nV_snoc]
      obtain ⟨a1, a2, a3, a4⟩ := ap i ds H2 d s1 hlen hlt (by rw [en]; exact hdl)
      refine ⟨_, rfl, .inl ⟨_, rfl, _, rfl, _, _, rfl, rfl, ⟨by omega, by omega⟩, ?_⟩⟩
      exact ⟨_, _, ds ++ [d], rfl, Int.fdiv_nonneg (by omega) (by omega), a1, a2, a3, a4⟩
    · rintro σ H1 ⟨rest, m, ds, rfl, h1, s1, hl, hlen, hlt⟩
      rw [nV_len] at hlen hlt
      exact ⟨_, rfl, hQ H1 l ds s1 nl hl hlen hlt⟩
  rw [show decide ((10 : Int) ^ (18 : Int).toNat ≤ c) = false from decide_eq_false hc]
  refine iteF ?_
  refine ⟨_, rfl, .inl ⟨_, rfl, _, _, rfl, rfl, nz rfl, ?_⟩⟩
  obtain ⟨g1, g2⟩ := modPos (a := c) (m := 2147483629) (by decide)
  dsimp only
  generalize c.fmod 2147483629 = seed0 at g1 g2
  refine ⟨_, rfl, s, _, rfl, .inl (hs1 _ s0), _, rfl, by omega, by rw [nV_len]; omega, ?_⟩
  have en : (((nV ss).length : Nat) : Int).toNat = ss.length := by rw [nV_len]; omega
  rw [en]
  refine for_it walk_range (fun i σ H1 => ∃ (seed : Int) (m6 m7 : Option V) (ds : List Nat), σ = [some (.int c), some (.ref s), some (.ref l), some (.int c), none, some (.int seed), m6, m7] ∧ 0 ≤ seed ∧ seed < 2147483647 ∧ Same H H1 ∧ H1 l = some (.lst (nV ds)) ∧ ds.length = i ∧ ∀ j, j < i → at0 ds j < at0 ss j) ?_ (fun _ _ _ _ _ => trivial) ?_ ?_
  · exact ⟨seed0, none, none, [], rfl, g1, by omega, s0, upd_same .., rfl, fun j hj => absurd hj (Nat.not_lt_zero _)⟩
  · rintro i x σ H1 H2 hi ⟨seed, m6, m7, ds, rfl, h2, h3, s1, hl, hlen, hlt⟩ ⟨rfl, hx⟩
    have hx : x = .int (i : Nat) := hx.trans (congrArg V.int (Int.zero_add _))
    subst hx
    have hss := hs1 _ s1
    have szp := hp _ (List.mem_of_getElem? (of_at0 hi))
    refine ⟨_, rfl, _, _, rfl, rfl, .inl ⟨by omega, by omega⟩, _, rfl, _, _, rfl, rfl, .inl ⟨by decide, by decide⟩, _, _, rfl, rfl, _, _, rfl, rfl, .inl ⟨_, rfl, _, _, rfl, rfl, nz rfl, ?_⟩⟩
    obtain ⟨k1, k2⟩ := modPos (a := seed * 48271 + 974711 * (i : Nat) + 12345) (m := 2147483647) (by decide)
    dsimp only
    generalize (seed * 48271 + 974711 * ((i : Nat) : Int) + 12345).fmod 2147483647 = seed1 at k1 k2
    refine ⟨_, rfl, _, rfl, _, _, rfl, rfl, ⟨by decide, by decide⟩, _, _, rfl, rfl, _, _, rfl, rfl, .inl ⟨by omega, by omega⟩, .inl ⟨_, rfl, _, _, rfl, rfl, nz rfl, ?_⟩⟩
    dsimp only
    generalize (seed1 * (seed1.fdiv 65537 + 3)).fmod 2147483629 = tw
    obtain ⟨d, hd, hdl⟩ := digit (a := tw.fdiv 19) szp.1
    refine ⟨_, rfl, .inl ⟨rfl, _, .inl (.inl hl)⟩, _, rfl, _, _, rfl, rfl, ⟨by decide, by decide⟩, _, rfl, _, rfl, s, _, _, _, rfl, rfl, hss, atI_nat (nV_at0 hi), _, _, rfl, rfl, by show ((at0 ss i : Nat) : Int) ≠ 0; omega, l, _, _, rfl, rfl, hl, by rw [nV_len, hlen]; exact fewS (by omega), ?_⟩
    dsimp only
    rw [← hd, nV_snoc]
    obtain ⟨a1, a2, a3, a4⟩ := ap i ds H2 d s1 hlen hlt hdl
    exact ⟨seed1, _, _, ds ++ [d], rfl, k1, k2, a1, a2, a3, a4⟩
  · rintro σ H1 ⟨seed, m6, m7, ds, rfl, h2, h3, s1, hl, hlen, hlt⟩
    exact ⟨_, rfl, hQ H1 l ds s1 nl hl hlen hlt⟩
end
end K05
set_option Elab.async false
set_option linter.all false
set_option maxRecDepth 100000
set_option maxHeartbeats 4000000
/-! Ms: found in a list, and where. -/
namespace Ms
open PySem PySem.Spec PyProof.Rows L2
section
variable {X : Cx} (K : PySem.W.Frag) (e : X.K = K := by rfl)
include e
theorem indexK : MtR X "list.index" (rIndex K) := by subst e; exact mt_index
end
theorem eqV_int {a b : Int} : eqV (.int a) (.int b) = decide (a = b) := by
  unfold eqV
  by_cases h : a = b
  · subst h; simp
  · simp [h]
theorem eqV_str {a b : Str} : eqV (.str a) (.str b) = decide (a = b) := by
  unfold eqV
  by_cases h : a = b
  · subst h; simp
  · simp [h]
theorem inV_int {n : Int} {l : List Int} : inV (.int n) (l.map V.int) = decide (n ∈ l) := by
  unfold inV
  rw [Bool.eq_iff_iff, List.any_eq_true, decide_eq_true_eq]
  constructor
  · rintro ⟨y, hy, e⟩
    obtain ⟨m, hm, rfl⟩ := List.mem_map.mp hy
    rw [eqV_int, decide_eq_true_eq] at e
    exact e ▸ hm
  · intro h
    exact ⟨_, List.mem_map.mpr ⟨n, h, rfl⟩, by rw [eqV_int, decide_eq_true_eq]⟩
theorem inV_str {n : Str} {l : List Str} : inV (.str n) (l.map V.str) = decide (n ∈ l) := by
  unfold inV
  rw [Bool.eq_iff_iff, List.any_eq_true, decide_eq_true_eq]
  constructor
  · rintro ⟨y, hy, e⟩
    obtain ⟨m, hm, rfl⟩ := List.mem_map.mp hy
    rw [eqV_str, decide_eq_true_eq] at e
    exact e ▸ hm
  · intro h
    exact ⟨_, List.mem_map.mpr ⟨n, h, rfl⟩, by rw [eqV_str, decide_eq_true_eq]⟩
theorem flat_ints (l : List Int) : (l.map V.int).all flatV = true := by
  rw [List.all_eq_true]
  intro x hx
  obtain ⟨m, _, rfl⟩ := List.mem_map.mp hx
  rfl
theorem flat_strs (l : List Str) : (l.map V.str).all flatV = true := by
  rw [List.all_eq_true]
  intro x hx
  obtain ⟨m, _, rfl⟩ := List.mem_map.mp hx
  rfl
/-- l.index(n) of ints -/
theorem index_ints {K : PySem.W.Frag} {H : Hp} {Q : VK} {a : Addr} {l : List Int} {n : Int} (hs : SqL K H a (l.map V.int)) (hn : n ∈ l) (q : Q (.int (l.idxOf n : Nat)) H) : rIndex K (.ref a) [.int n] H Q := by
  have hl : l.idxOf n < l.length := List.idxOf_lt_length_of_mem hn
  refine ⟨a, l.map V.int, .int n, l.idxOf n, .int n, rfl, rfl, hs, rfl, flat_ints l, ?_, by rw [eqV_int, decide_eq_true_eq], fun m z' hm hz => ?_, q⟩
  · rw [List.getElem?_map, getE hl, List.getElem_idxOf hl] <;> rfl
  · rw [List.getElem?_map] at hz
    have lm : m < l.length := Nat.lt_trans hm hl
    rw [getE lm] at hz
    cases hz
    rw [eqV_int, decide_eq_false_iff_not]
    intro e
    have := List.not_of_lt_findIdx (p := (· == n)) (xs := l) (i := m) hm
    simp at this
    exact this e
end Ms
set_option Elab.async false
set_option linter.all false
set_option maxRecDepth 100000
set_option maxHeartbeats 4000000
namespace K05
open PySem PySem.Spec PyProof.Rows L2 Ms
def spMarks (K : PySem.W.Frag) : Sp := fun vs H Q _ => ∃ (a : Addr) (ms : List Int), vs = [.ref a] ∧ SqL K H a (ms.map V.int) ∧ ms.length ≤ 2000 ∧
  ∀ H' p, Same H H' → H p = none → H' p = some (.lst (nV (ren ms))) → Q (.ref p) H'
section
variable {P : Program} {w : World} {K : PySem.W.Frag} {mg : Str → Option Value} {base : Heap}
theorem ok__law_marks (T : Tx K mg) : Ok P w K mg base "_law_marks" 1 (spMarks K) := by
  refine ok_of T.a__law_marks sc_law_marks (fun vs H Q E h => ?_) bi__law_marks fun cdv A outer s H vs Q E hr h => ?_
  · obtain ⟨a, ms, rfl, _⟩ := h
    rfl
  obtain ⟨a, ms, rfl, ha, hl, hQ⟩ := h
  have big : (16777216 : Nat) ≤ sizeLine := by decide
  refine ⟨_, (pss_cons (ps_set (i := 1) sc_law_marks.nd rfl (by first | exact Or.inl rfl | exact Or.inr rfl) (pe_lst pa_nil))
  (pss_cons (ps_set (i := 2) sc_law_marks.nd rfl (by first | exact Or.inl rfl | exact Or.inr rfl) (pe_lst pa_nil))
  (pss_cons (ps_for PassesOwn.never rfl (pi_list (pv 0)) (pg_name (i := 3) sc_law_marks.nd rfl (by first | exact Or.inl rfl | exact Or.inr rfl))
  (pss_cons (ps_if (pt_cmpR (notInK K) (pv 3) (pv 1) (by rfl))
    (pss_one (ps_expr (pe_bm PySem.F.plainAttrs_list PySem.F.slot_list_append PySem.F.type_list_append mt_append (pv 1) (pa_cons (pv 3) pa_nil))))
    pss_nil)
    (pss_one (ps_expr (pe_bm PySem.F.plainAttrs_list PySem.F.slot_list_append PySem.F.type_list_append mt_append (pv 2) (pa_cons (pe_bmK K PySem.F.plainAttrs_list PySem.F.slot_list_index PySem.F.type_list_index (indexK K) (pv 1) (pa_cons (pv 3) pa_nil)) pa_nil))))))
  (pss_one (ps_ret (pv 2)))))), ?_⟩
  refine ⟨Nat.zero_le _, fun F nF => ?_⟩
  have sF := same_new (o := .lst []) nF
  have hF : upd H F (.lst []) F = some (.lst []) := upd_same ..
  generalize upd H F (.lst []) = H1 at sF hF
  refine ⟨Nat.zero_le _, fun R nR => ?_⟩
  have RF : R ≠ F := fun e => by rw [e, hF] at nR; cases nR
  have nR0 : H R = none := sF.free nR
  refine ⟨_, rfl, a, rfl, ⟨_, Same.seq (same2 sF (same_new nR)) ha⟩, for_list (xs := ms.map V.int) (fun i σ H2 => ∃ m : Option V, σ = [some (.ref a), some (.ref F), some (.ref R), m] ∧ H2 F = some (.lst ((firsts (ms.take i)).map V.int)) ∧ H2 R = some (.lst (nV (ren (ms.take i)))) ∧ Same H H2) ?_ ?_ ?_ ?_⟩
  · exact ⟨none, rfl, by rw [upd_ne (Ne.symm RF)]; exact hF, upd_same .., same2 sF (same_new nR)⟩
  · rintro i σ H2 _ ⟨_, _, _, _, s2⟩
    exact Same.seq s2 ha
  · rintro i x σ H2 hx ⟨m, rfl, h1, h2, s2⟩
    rw [List.getElem?_map] at hx
    obtain ⟨n, hn, rfl⟩ : ∃ n, ms[i]? = some n ∧ x = .int n := by
      cases en : ms[i]? with
      | none => rw [en] at hx; cases hx
      | some n => rw [en] at hx; cases hx; exact ⟨n, rfl, rfl⟩
    have et : ms.take (i + 1) = ms.take i ++ [n] := by rw [List.take_add_one, hn] <;> rfl
    have li := ltE hn
    have lt : (ms.take i).length = i := by rw [List.length_take]; omega
    have ff := firsts_le (ms.take i)
    refine ⟨_, rfl, _, rfl, F, _, rfl, .inl (.inl (.inl h1)), rfl, flat_ints _, _, rfl, ?_⟩
    rw [inV_int]
    have fin : ∀ H3 : Hp, Same H H3 → H3 F = some (.lst ((firsts (ms.take (i + 1))).map V.int)) → H3 R = some (.lst (nV (ren (ms.take i)))) → ∃ m : Option V, [some (V.ref a), some (.ref F), some (.ref R), some (.int n)] = [some (.ref a), some (.ref F), some (.ref R), m] ∧ upd H3 R (.lst (nV (ren (ms.take i)) ++ [V.int ((firsts (ms.take (i + 1))).idxOf n : Nat)])) F = some (.lst ((firsts (ms.take (i + 1))).map V.int)) ∧ upd H3 R (.lst (nV (ren (ms.take i)) ++ [V.int ((firsts (ms.take (i + 1))).idxOf n : Nat)])) R = some (.lst (nV (ren (ms.take (i + 1))))) ∧ Same H (upd H3 R (.lst (nV (ren (ms.take i)) ++ [V.int ((firsts (ms.take (i + 1))).idxOf n : Nat)]))) := fun H3 s3 k1 k2 => by
      refine ⟨_, rfl, by rw [upd_ne (Ne.symm RF)]; exact k1, ?_, same_put nR0 s3⟩
      rw [upd_same, nV_snoc, et, ix_self, ← ren_snoc]
    have mem : n ∈ firsts (ms.take (i + 1)) := (mem_firsts _ _).mpr (by rw [et]; exact List.mem_append_right _ List.mem_cons_self)
    by_cases hm : n ∈ firsts (ms.take i)
    · have e1 : firsts (ms.take (i + 1)) = firsts (ms.take i) := by rw [et, firsts_snoc, if_pos hm]
      rw [show (if true = true then !decide (n ∈ firsts (ms.take i)) else decide (n ∈ firsts (ms.take i))) = false from by rw [decide_eq_true hm] <;> rfl]
      refine iteF ?_
      refine ⟨_, rfl, .inl ⟨rfl, _, .inl (.inl h2)⟩, _, rfl, .inl ⟨rfl, _, .inl (.inl h1)⟩, _, rfl, ?_⟩
      dsimp only [tNil]
      refine index_ints (.inl (.inl h1)) hm ?_
      refine ⟨R, _, _, rfl, rfl, h2, by rw [nV_len, ren_len, lt]; omega, ?_⟩
      have z := fin H2 s2 (by rw [e1]; exact h1) h2
      rw [e1] at z ⊢
      exact z
    · have e1 : firsts (ms.take (i + 1)) = firsts (ms.take i) ++ [n] := by rw [et, firsts_snoc, if_neg hm]
      rw [show (if true = true then !decide (n ∈ firsts (ms.take i)) else decide (n ∈ firsts (ms.take i))) = true from by rw [decide_eq_false hm] <;> rfl]
      refine iteT ?_
      refine ⟨_, rfl, .inl ⟨rfl, _, .inl (.inl h1)⟩, _, rfl, F, _, _, rfl, rfl, h1, by rw [List.length_map]; omega, ?_⟩
      have k1 : upd H2 F (.lst ((firsts (ms.take i)).map V.int ++ [.int n])) F = some (.lst ((firsts (ms.take (i + 1))).map V.int)) := by rw [upd_same, e1, List.map_append] <;> rfl
      have k2 : upd H2 F (.lst ((firsts (ms.take i)).map V.int ++ [.int n])) R = some (.lst (nV (ren (ms.take i)))) := by rw [upd_ne RF]; exact h2
      have k3 : Same H (upd H2 F (.lst ((firsts (ms.take i)).map V.int ++ [.int n]))) := same_put nF s2
      generalize upd H2 F (.lst ((firsts (ms.take i)).map V.int ++ [.int n])) = H3 at k1 k2 k3
      refine ⟨_, rfl, .inl ⟨rfl, _, .inl (.inl k2)⟩, _, rfl, .inl ⟨rfl, _, .inl (.inl k1)⟩, _, rfl, ?_⟩
      dsimp only [tNil]
      refine index_ints (.inl (.inl k1)) mem ?_
      refine ⟨R, _, _, rfl, rfl, k2, by rw [nV_len, ren_len, lt]; omega, ?_⟩
      exact fin H3 k3 k1 k2
  · rintro σ H2 ⟨m, rfl, h1, h2, s2⟩
    rw [List.length_map, List.take_length] at h2
    exact ⟨_, rfl, hQ H2 R s2 nR0 h2⟩
end
end K05
set_option Elab.async false
set_option linter.all false
set_option maxRecDepth 100000
set_option maxHeartbeats 4000000
namespace K05
open PySem PySem.Spec PyProof.Rows L2 Ms
/-- a world of the law -/
structure Wd where
  deals : List Nat
  facts : List (Str × List Nat)
  parts : List (Str × List Int × List Nat)
def FX (P : Addr → List V → Prop) (q : Addr) (f : Str × List Nat) : Prop := ∃ da, P q [.str f.1, .ref da] ∧ P da (nV f.2)
def PX (P : Addr → List V → Prop) (q : Addr) (p : Str × List Int × List Nat) : Prop := ∃ m w, P q [.str p.1, .ref m, .ref w] ∧ P m (p.2.1.map V.int) ∧ P w (nV p.2.2)
theorem FX.mono {P P' : Addr → List V → Prop} (h : ∀ a xs, P a xs → P' a xs) {q : Addr} {f : Str × List Nat} (e : FX P q f) : FX P' q f := let ⟨da, e1, e2⟩ := e; ⟨da, h _ _ e1, h _ _ e2⟩
theorem PX.mono {P P' : Addr → List V → Prop} (h : ∀ a xs, P a xs → P' a xs) {q : Addr} {p : Str × List Int × List Nat} (e : PX P q p) : PX P' q p := let ⟨m, w, e1, e2, e3⟩ := e; ⟨m, w, h _ _ e1, h _ _ e2, h _ _ e3⟩
def RL (H : Hp) (a : Addr) (xs : List V) : Prop := H a = some (.lst xs)
theorem RL.sq {K : PySem.W.Frag} {H : Hp} {a : Addr} {xs : List V} (h : RL H a xs) : SqL K H a xs := .inl (.inl h)
theorem RL.same {H H' : Hp} (s : Same H H') {a : Addr} {xs : List V} (h : RL H a xs) : RL H' a xs := s _ _ h
/-- a list that is not the one at N -/
def PN (N : Addr) (H : Hp) (a : Addr) (xs : List V) : Prop := a ≠ N ∧ RL H a xs
theorem pn_out {N a : Addr} {H H1 : Hp} {xs : List V} (h : RL H a xs) (n : H N = none) (s : Same H H1) : PN N H1 a xs := ⟨fun z => absurd h (by rw [RL, z, n]; exact fun e => nomatch e), s _ _ h⟩
theorem PN.same {N a : Addr} {H H1 : Hp} {xs : List V} (h : PN N H a xs) (s : Same H H1) : PN N H1 a xs := ⟨h.1, s _ _ h.2⟩
theorem PN.put {N a : Addr} {H : Hp} {o : HO} {xs : List V} (h : PN N H a xs) : PN N (upd H N o) a xs := ⟨h.1, by rw [RL, upd_ne h.1]; exact h.2⟩
def LFacts (H : Hp) (a : Addr) (fs : List (Str × List Nat)) : Prop := ∃ qs : List Addr, RL H a (qs.map V.ref) ∧ Paired (FX (RL H)) qs fs
def LParts (H : Hp) (a : Addr) (ps : List (Str × List Int × List Nat)) : Prop := ∃ qs : List Addr, RL H a (qs.map V.ref) ∧ Paired (PX (RL H)) qs ps
def WAt (H : Hp) (a : Addr) (W : Wd) : Prop := ∃ d f c, RL H a [.ref d, .ref f, .ref c] ∧ RL H d (nV W.deals) ∧ LFacts H f W.facts ∧ LParts H c W.parts
theorem LFacts.same {H H' : Hp} (s : Same H H') {a : Addr} {fs : List (Str × List Nat)} (h : LFacts H a fs) : LFacts H' a fs := let ⟨qs, e1, e2⟩ := h; ⟨qs, RL.same s e1, pimp (fun _ _ _ e => e.mono fun _ _ z => RL.same s z) e2⟩
theorem LParts.same {H H' : Hp} (s : Same H H') {a : Addr} {fs : List (Str × List Int × List Nat)} (h : LParts H a fs) : LParts H' a fs := let ⟨qs, e1, e2⟩ := h; ⟨qs, RL.same s e1, pimp (fun _ _ _ e => e.mono fun _ _ z => RL.same s z) e2⟩
theorem WAt.same {H H' : Hp} (s : Same H H') {a : Addr} {W : Wd} (h : WAt H a W) : WAt H' a W := let ⟨d, f, c, e1, e2, e3, e4⟩ := h; ⟨d, f, c, RL.same s e1, RL.same s e2, e3.same s, e4.same s⟩
structure Wd.Ok (W : Wd) (b : Nat) : Prop where
  d1 : 0 < W.deals.length
  d2 : W.deals.length ≤ 6
  dw : W.deals.Pairwise (· < ·)
  db : ∀ d ∈ W.deals, d < b
  fn : (W.facts.map (·.1)).Nodup
  pn : (W.parts.map (·.1)).Nodup
  fo : ∀ f ∈ W.facts, Name f.1 ∧ f.2.length = W.deals.length ∧ ∀ d ∈ f.2, d ≤ 9
  po : ∀ p ∈ W.parts, Name p.1 ∧ p.2.1.length = W.deals.length ∧ p.2.2.length = W.deals.length ∧ ∀ d ∈ p.2.2, 1 ≤ d
  few : W.facts.length ≤ 5
  pew : W.parts.length ≤ 5
def Wd.plain (W : Wd) : Wd := ⟨W.deals, W.facts, W.parts.map fun p => (p.1, cI (ren p.2.1), p.2.2)⟩
def spPlain (K : PySem.W.Frag) : Sp := fun vs H Q _ => ∃ (a : Addr) (W : Wd) (b : Nat), vs = [.ref a] ∧ WAt H a W ∧ W.Ok b ∧ ∀ H' p, Same H H' → H p = none → WAt H' p W.plain → Q (.ref p) H'
section
variable {P : Program} {w : World} {K : PySem.W.Frag} {mg : Str → Option Value} {base : Heap}
theorem ok__law_plain (T : Tx K mg) : Ok P w K mg base "_law_plain" 2 (spPlain K) := by
  have O__law_marks : Ok P w K mg base "_law_marks" 1 (spMarks K) := ok__law_marks T
  refine ok_of T.a__law_plain sc_law_plain (fun vs H Q E h => ?_) bi__law_plain fun cdv A outer s H vs Q E hr h => ?_
  · obtain ⟨a, W, b, rfl, _⟩ := h
    rfl
  obtain ⟨a, W, b, rfl, ⟨d, f, c, ha, hd, hf, hc⟩, ok, hQ⟩ := h
  have big : (16777216 : Nat) ≤ sizeLine := by decide
  obtain ⟨qs, hc1, hc2⟩ := hc
  have ql := Paired.length hc2
  have pew := ok.pew
  have d2 := ok.d2
  refine ⟨_, (pss_one (ps_ret (pe_lst (pa_cons (pe_ix (ixL K) (pv 0) pe_int (fun _ _ => rfl)) (pa_cons (pe_ix (ixL K) (pv 0) pe_int (fun _ _ => rfl)) (pa_cons (pe_lc (own := [("party", 1)]) (g := gName 1) rfl sc_law_plain.nd (pi_list (pe_ix (ixL K) (pv 0) pe_int (fun _ _ => rfl))) (blkOk_by (N := ["world", "party"]) (sc := defScope s_law_plain) (by decide +kernel)) (fun _ _ _ _ _ => (pg_name (i := 1) sc_law_plain.nd rfl (by first | exact Or.inl rfl | exact Or.inr rfl))) (fun _ _ _ _ _ => pts_nil) (fun _ _ _ _ _ => (pe_lst (pa_cons (pe_ix (ixL K) (pv 1) pe_int (fun _ _ => rfl)) (pa_cons (pe_c (E := EN) O__law_marks hr (by decide) (fun σ => passN σ) (pa_cons (pe_ix (ixL K) (pv 1) pe_int (fun _ _ => rfl)) pa_nil)) (pa_cons (pe_ix (ixL K) (pv 1) pe_int (fun _ _ => rfl)) pa_nil)))))) pa_nil)))))), ?_⟩
  refine ⟨_, rfl, a, _, _, _, rfl, rfl, ha.sq, atI_nat (j := 0) rfl, _, rfl, a, _, _, _, rfl, rfl, ha.sq, atI_nat (j := 1) rfl, _, rfl, a, _, _, _, rfl, rfl, ha.sq, atI_nat (j := 2) rfl, c, rfl, ⟨_, hc1.sq⟩, fun N nN => ?_⟩
  refine lc_it (walk_list (K := K) (a := c) (xs := qs.map V.ref)) (fun i H1 => ∃ rs : List Addr, H1 N = some (.lst (rs.map V.ref)) ∧ Paired (PX (PN N H1)) rs ((W.parts.take i).map fun p => (p.1, cI (ren p.2.1), p.2.2)) ∧ Same H H1) ⟨[], upd_same .., .nil, same_new nN⟩ (fun i H1 _ h => by obtain ⟨_, _, _, h⟩ := h; exact Same.seq h hc1.sq) ?_ ?_
  · rintro i x H0 H1 hi ⟨rs, q1, q2, s1⟩ ⟨rfl, hx⟩
    rw [List.length_map] at hi
    obtain ⟨u, p, h1, h2, m, w2, h3, h4, h5⟩ := pget2 hc2 hi
    rw [List.getElem?_map, h1] at hx
    cases hx
    have po := ok.po p (List.mem_of_getElem? h2)
    have lr : rs.length ≤ 5 := by rw [Paired.length q2, List.length_map, List.length_take]; omega
    refine ⟨rfl, _, rfl, u, _, _, _, rfl, rfl, Same.seq s1 h3.sq, atI_nat (j := 0) rfl, _, rfl, u, _, _, _, rfl, rfl, Same.seq s1 h3.sq, atI_nat (j := 1) rfl, m, p.2.1, rfl, Same.seq s1 h4.sq, by omega, fun H3 z s3 nz hz => ?_⟩
    have s13 := same2 s1 s3
    refine ⟨_, rfl, u, _, _, _, rfl, rfl, Same.seq s13 h3.sq, atI_nat (j := 2) rfl, Nat.le_trans (by show 3 ≤ 16777216; decide) big, fun y ny => ?_⟩
    have s4 := same_new (o := .lst [.str p.1, .ref z, .ref w2]) ny
    have hy : upd H3 y (.lst [.str p.1, .ref z, .ref w2]) y = some (.lst [.str p.1, .ref z, .ref w2]) := upd_same ..
    have yN : y ≠ N := fun e => by rw [e, s3 _ _ q1] at ny; cases ny
    have zN : z ≠ N := fun e => by rw [e, q1] at nz; cases nz
    generalize upd H3 y (.lst [.str p.1, .ref z, .ref w2]) = H4 at s4 hy
    have s14 := same2 s3 s4
    refine ⟨_, s14 _ _ q1, by rw [List.length_map]; omega, rs ++ [y], by rw [upd_same, List.map_append] <;> rfl, ?_, same_put nN (same2 s1 s14)⟩
    rw [take_map h2]
    refine psnoc (pimp (fun _ _ _ e => e.mono fun _ _ z => (z.same s14).put) q2) ⟨z, w2, PN.put ⟨yN, hy⟩, ?_, (pn_out h5 nN (same2 s1 s14)).put⟩
    rw [show (cI (ren p.2.1)).map V.int = nV (ren p.2.1) from (nV_int _).symm]
    exact PN.put ⟨zN, s4 _ _ hz⟩
  rintro H1 ⟨rs, q1, q2, s1⟩
  rw [List.length_map, ql, List.take_length] at q2
  refine ⟨Nat.le_trans (by show 3 ≤ 16777216; decide) big, fun y ny => ?_⟩
  have s2 := same_new (o := .lst [.ref d, .ref f, .ref N]) ny
  refine hQ _ y (same2 s1 s2) (s1.free ny) ⟨d, f, N, upd_same .., RL.same (same2 s1 s2) hd, hf.same (same2 s1 s2), rs, s2 _ _ q1, pimp (fun _ _ _ e => e.mono fun _ _ z => RL.same s2 z.2) q2⟩
end
end K05
set_option Elab.async false
set_option linter.all false
set_option maxRecDepth 100000
set_option maxHeartbeats 4000000
namespace K05
open PySem PySem.Spec PyProof.Rows L2 Ms
theorem cut_to (xs : List V) {n : Nat} (h : n ≤ xs.length) : cutV xs none (some ((n : Nat) : Int)) = xs.take n := by
  unfold cutV
  have e0 : HT.sIx xs.length 0 none = 0 := rfl
  have e1 : HT.sIx xs.length xs.length (some ((n : Nat) : Int)) = n := by
    unfold HT.sIx
    simp
    rw [if_neg (by omega)]
    omega
  rw [e0, e1, List.drop_zero, Nat.sub_zero]
theorem cut_from (xs : List V) {n : Nat} (h : n ≤ xs.length) : cutV xs (some ((n : Nat) : Int)) none = xs.drop n := by
  unfold cutV
  have e0 : HT.sIx xs.length xs.length none = xs.length := rfl
  have e1 : HT.sIx xs.length 0 (some ((n : Nat) : Int)) = n := by
    unfold HT.sIx
    simp
    rw [if_neg (by omega)]
    omega
  rw [e0, e1, List.take_of_length_le]
  rw [List.length_drop]
  omega
def spPut : Sp := fun vs H Q _ => ∃ (a : Addr) (xs : List V) (n : Nat) (y : V), vs = [.ref a, .int (n : Nat), y] ∧ RL H a xs ∧ n < xs.length ∧ xs.length ≤ 1000 ∧ ∀ H' p, Same H H' → H p = none → RL H' p (xs.set n y) → Q (.ref p) H'
theorem set_cut {α : Type} {xs : List α} {n : Nat} (h : n < xs.length) (y : α) : xs.take n ++ [y] ++ xs.drop (n + 1) = xs.set n y := by
  rw [List.set_eq_take_append_cons_drop, if_pos h, List.append_assoc] <;> rfl
section
variable {P : Program} {w : World} {K : PySem.W.Frag} {mg : Str → Option Value} {base : Heap}
theorem ok__law_put (T : Tx K mg) : Ok P w K mg base "_law_put" 1 spPut := by
  refine ok_of T.a__law_put sc_law_put (fun vs H Q E h => ?_) bi__law_put fun cdv A outer s H vs Q E hr h => ?_
  · obtain ⟨a, xs, n, y, rfl, _⟩ := h
    rfl
  obtain ⟨a, xs, n, y, rfl, ha, hn, hl, hQ⟩ := h
  have big : (16777216 : Nat) ≤ sizeLine := by decide
  refine ⟨_, (pss_one (ps_ret (pe_op op_cat (pe_op op_cat (pe_slice sl_list (pv 0) po_none (po_some (pv 1))) (pe_lst (pa_cons (pv 2) pa_nil))) (pe_slice sl_list (pv 0) (po_some (pe_op op_add (pv 1) pe_int)) po_none)))), ?_⟩
  refine ⟨_, rfl, _, rfl, _, rfl, a, xs, rfl, ha.sq, fun p np => ?_⟩
  rw [cut_to xs (by omega)]
  have s1 := same_new (o := .lst (xs.take n)) np
  have h1 : RL (upd H p (.lst (xs.take n))) p (xs.take n) := upd_same ..
  generalize upd H p (.lst (xs.take n)) = H1 at s1 h1
  refine ⟨_, rfl, Nat.le_trans (by show 1 ≤ 16777216; decide) big, fun q nq => ?_⟩
  have s2 := same_new (o := .lst [y]) nq
  have h2 : RL (upd H1 q (.lst [y])) q [y] := upd_same ..
  generalize upd H1 q (.lst [y]) = H2 at s2 h2
  refine ⟨p, q, xs.take n, [y], rfl, rfl, s2 _ _ h1, h2, by rw [List.length_take, List.length_singleton]; omega, fun r nr => ?_⟩
  have s3 := same_new (o := .lst (xs.take n ++ [y])) nr
  have h3 : RL (upd H2 r (.lst (xs.take n ++ [y]))) r (xs.take n ++ [y]) := upd_same ..
  generalize upd H2 r (.lst (xs.take n ++ [y])) = H3 at s3 h3
  have s03 := same2 s1 (same2 s2 s3)
  refine ⟨_, rfl, _, rfl, _, _, rfl, rfl, _, rfl, a, xs, rfl, (ha.same s03).sq, fun u nu => ?_⟩
  rw [show cutV xs (some (((n : Nat) : Int) + 1)) none = xs.drop (n + 1) from cut_from xs (n := n + 1) (by omega)]
  have s4 := same_new (o := .lst (xs.drop (n + 1))) nu
  have h4 : RL (upd H3 u (.lst (xs.drop (n + 1)))) u (xs.drop (n + 1)) := upd_same ..
  generalize upd H3 u (.lst (xs.drop (n + 1))) = H4 at s4 h4
  refine ⟨r, u, _, _, rfl, rfl, s4 _ _ h3, h4, by rw [List.length_append, List.length_take, List.length_singleton, List.length_drop]; omega, fun z nz => ?_⟩
  rw [set_cut hn]
  exact hQ _ z (same2 s03 (same2 s4 (same_new nz))) ((same2 s03 s4).free nz) (upd_same ..)
def RowAt (H : Hp) (q : Addr) (r : Str × List V) : Prop := RL H q (.str r.1 :: r.2)
def spRenm : Sp := fun vs H Q _ => ∃ (a : Addr) (qs : List Addr) (rows : List (Str × List V)) (n : Nat) (z : Str), vs = [.ref a, .int (n : Nat), .str z] ∧ RL H a (qs.map V.ref) ∧ Paired (RowAt H) qs rows ∧ (∀ r ∈ rows, r.2.length ≤ 10) ∧ n < qs.length ∧ qs.length ≤ 1000 ∧
  (z ∈ rows.map (·.1) → ∀ H', Same H H' → Q (.ref a) H') ∧ (¬ z ∈ rows.map (·.1) → ∀ H' p u r, Same H H' → H p = none → rows[n]? = some r → RL H' u (.str z :: r.2) → RL H' p ((qs.set n u).map V.ref) → Q (.ref p) H')
theorem ok__law_renamed (T : Tx K mg) : Ok P w K mg base "_law_renamed" 1 spRenm := by
  refine ok_of T.a__law_renamed sc_law_renamed (fun vs H Q E h => ?_) bi__law_renamed fun cdv A outer s H vs Q E hr h => ?_
  · obtain ⟨a, qs, rows, n, z, rfl, _⟩ := h
    rfl
  obtain ⟨a, qs, rows, n, z, rfl, ha, hp, h10, hn, hl, hin, hout⟩ := h
  have big : (16777216 : Nat) ≤ sizeLine := by decide
  have pl := Paired.length hp
  refine ⟨_, (pss_cons (ps_if (pt_cmpR (inK K) (pv 2) (pe_lc (own := [("row", 3)]) (g := gName 3) rfl sc_law_renamed.nd (pi_list (pv 0)) (blkOk_by (N := ["rows", "at", "name", "row"]) (sc := defScope s_law_renamed) (by decide +kernel)) (fun _ _ _ _ _ => (pg_name (i := 3) sc_law_renamed.nd rfl (by first | exact Or.inl rfl | exact Or.inr rfl))) (fun _ _ _ _ _ => pts_nil) (fun _ _ _ _ _ => (pe_ix (ixL K) (pv 3) pe_int (fun _ _ => rfl)))) (by rfl))
  (pss_one (ps_ret (pv 0)))
  pss_nil)
  (pss_one (ps_ret (pe_op op_cat (pe_op op_cat (pe_slice sl_list (pv 0) po_none (po_some (pv 1))) (pe_lst (pa_cons (pe_op op_cat (pe_lst (pa_cons (pv 2) pa_nil)) (pe_slice sl_list (pe_ix (ixL K) (pv 0) (pv 1) (fun _ _ => rfl)) (po_some pe_int) po_none)) pa_nil))) (pe_slice sl_list (pv 0) (po_some (pe_op op_add (pv 1) pe_int)) po_none))))), ?_⟩
  refine ⟨_, rfl, _, rfl, a, rfl, ⟨_, ha.sq⟩, fun N nN => ?_⟩
  refine lc_it (walk_list (K := K) (a := a) (xs := qs.map V.ref)) (fun i H1 => H1 N = some (.lst ((rows.take i).map fun r => V.str r.1)) ∧ Same H H1) ⟨upd_same .., same_new nN⟩ (fun i H1 _ h => (ha.same h.2).sq) ?_ ?_
  · rintro i x H0 H1 hi ⟨q1, s1⟩ ⟨rfl, hx⟩
    rw [List.length_map] at hi
    obtain ⟨q, r, h1, h2, h3⟩ := pget2 hp hi
    rw [List.getElem?_map, h1] at hx
    cases hx
    refine ⟨rfl, _, rfl, q, _, _, _, rfl, rfl, (RL.same s1 h3).sq, atI_nat (j := 0) rfl, _, q1, by rw [List.length_map, List.length_take]; omega, ?_, same_put nN s1⟩
    rw [upd_same, take_map h2]
  rintro H1 ⟨q1, s1⟩
  rw [List.length_map, pl, List.take_length] at q1
  have em : (rows.map fun r => V.str r.1) = (rows.map (·.1)).map V.str := by rw [List.map_map] <;> rfl
  rw [em] at q1
  refine ⟨N, _, rfl, .inl (.inl (.inl q1)), rfl, Ms.flat_strs _, _, rfl, ?_⟩
  rw [inV_str]
  by_cases hz : z ∈ rows.map (·.1)
  · rw [show (if false = true then !decide (z ∈ rows.map (·.1)) else decide (z ∈ rows.map (·.1))) = true from by rw [decide_eq_true hz] <;> rfl]
    exact iteT ⟨_, rfl, hin hz H1 s1⟩
  rw [show (if false = true then !decide (z ∈ rows.map (·.1)) else decide (z ∈ rows.map (·.1))) = false from by rw [decide_eq_false hz] <;> rfl]
  refine iteF ?_
  obtain ⟨q, r, g1, g2, g3⟩ := pget2 hp hn
  refine ⟨_, rfl, _, rfl, _, rfl, a, _, rfl, (ha.same s1).sq, fun p np => ?_⟩
  rw [cut_to _ (by rw [List.length_map]; omega)]
  have t1 := same_new (o := .lst ((qs.map V.ref).take n)) np
  have k1 : RL (upd H1 p (.lst ((qs.map V.ref).take n))) p ((qs.map V.ref).take n) := upd_same ..
  generalize upd H1 p (.lst ((qs.map V.ref).take n)) = H2 at t1 k1
  have s2 := same2 s1 t1
  refine ⟨_, rfl, Nat.le_trans (by show 1 ≤ 16777216; decide) big, fun p2 np2 => ?_⟩
  have t2 := same_new (o := .lst [.str z]) np2
  have k2 : RL (upd H2 p2 (.lst [.str z])) p2 [.str z] := upd_same ..
  generalize upd H2 p2 (.lst [.str z]) = H3 at t2 k2
  have s3 := same2 s2 t2
  refine ⟨_, rfl, _, rfl, a, _, _, _, rfl, rfl, (ha.same s3).sq, atI_nat (by rw [List.getElem?_map, g1] <;> rfl), _, rfl, q, _, rfl, (RL.same s3 g3).sq, fun p3 np3 => ?_⟩
  rw [show cutV (.str r.1 :: r.2) (some (1 : Int)) none = r.2 from cut_from (.str r.1 :: r.2) (n := 1) (by simp)]
  have t3 := same_new (o := .lst r.2) np3
  have k3 : RL (upd H3 p3 (.lst r.2)) p3 r.2 := upd_same ..
  generalize upd H3 p3 (.lst r.2) = H4 at t3 k3
  have s4 := same2 s3 t3
  have r10 := h10 r (List.mem_of_getElem? g2)
  refine ⟨p2, p3, _, _, rfl, rfl, t3 _ _ k2, k3, by rw [List.length_singleton]; omega, fun u nu => ?_⟩
  have t4 := same_new (o := .lst ([.str z] ++ r.2)) nu
  have k4 : RL (upd H4 u (.lst ([.str z] ++ r.2))) u (.str z :: r.2) := upd_same ..
  generalize upd H4 u (.lst ([.str z] ++ r.2)) = H5 at t4 k4
  refine ⟨Nat.le_trans (by show 1 ≤ 16777216; decide) big, fun p5 np5 => ?_⟩
  have t5 := same_new (o := .lst [.ref u]) np5
  have k5 : RL (upd H5 p5 (.lst [.ref u])) p5 [.ref u] := upd_same ..
  generalize upd H5 p5 (.lst [.ref u]) = H6 at t5 k5
  have s6 := same2 s4 (same2 t4 t5)
  refine ⟨p, p5, _, _, rfl, rfl, same2 t2 (same2 t3 (same2 t4 t5)) _ _ k1, k5, by rw [List.length_take, List.length_map, List.length_singleton]; omega, fun p6 np6 => ?_⟩
  have t6 := same_new (o := .lst ((qs.map V.ref).take n ++ [.ref u])) np6
  have k6 : RL (upd H6 p6 (.lst ((qs.map V.ref).take n ++ [.ref u]))) p6 ((qs.map V.ref).take n ++ [.ref u]) := upd_same ..
  generalize upd H6 p6 (.lst ((qs.map V.ref).take n ++ [.ref u])) = H7 at t6 k6
  have s7 := same2 s6 t6
  refine ⟨_, rfl, _, rfl, _, _, rfl, rfl, _, rfl, a, _, rfl, (ha.same s7).sq, fun p7 np7 => ?_⟩
  rw [show cutV (qs.map V.ref) (some (((n : Nat) : Int) + 1)) none = (qs.map V.ref).drop (n + 1) from cut_from _ (n := n + 1) (by rw [List.length_map]; omega)]
  have t7 := same_new (o := .lst ((qs.map V.ref).drop (n + 1))) np7
  have k7 : RL (upd H7 p7 (.lst ((qs.map V.ref).drop (n + 1)))) p7 ((qs.map V.ref).drop (n + 1)) := upd_same ..
  generalize upd H7 p7 (.lst ((qs.map V.ref).drop (n + 1))) = H8 at t7 k7
  refine ⟨p6, p7, _, _, rfl, rfl, t7 _ _ k6, k7, by rw [List.length_append, List.length_take, List.length_map, List.length_singleton, List.length_drop, List.length_map]; omega, fun p8 np8 => ?_⟩
  rw [set_cut (by rw [List.length_map]; omega)]
  have t8 := same_new (o := .lst ((qs.map V.ref).set n (.ref u))) np8
  refine hout hz _ p8 u r (same2 s7 (same2 t7 t8)) ((same2 s7 t7).free np8) g2 (RL.same (same2 t5 (same2 t6 (same2 t7 t8))) k4) ?_
  rw [← List.map_set]
  exact upd_same ..
end
end K05
set_option Elab.async false
set_option linter.all false
set_option maxRecDepth 100000
set_option maxHeartbeats 4000000
namespace K05
open PySem PySem.Spec PyProof.Rows L2 Ms
def FRESH : List Str := ["d", "dd", "d1", "d2", "dd1", "d3"]
theorem fresh_nodup : FRESH.Nodup := by decide
theorem fresh_len : FRESH.length = 6 := rfl
/-- some of them is no name of the rows -/
theorem fresh_some {l : List Str} (h : l.length ≤ 5) : ∃ z r, FRESH.filter (fun z => decide (¬ z ∈ l)) = z :: r := by
  cases e : FRESH.filter (fun z => decide (¬ z ∈ l)) with
  | cons z r => exact ⟨z, r, rfl⟩
  | nil =>
    exfalso
    have sub : FRESH ⊆ l := fun z hz => by
      apply Classical.byContradiction
      intro n
      have : z ∈ FRESH.filter (fun z => decide (¬ z ∈ l)) := List.mem_filter.mpr ⟨hz, decide_eq_true n⟩
      rw [e] at this
      cases this
    have := List.Nodup.length_le_of_subset fresh_nodup sub
    rw [fresh_len] at this
    omega
def nameB (z : Str) : Bool := decide (1 ≤ z.cps.size) && decide (z.cps.size ≤ 8) && (z.cps.toList.take 1).all (fun c => decide (c ∈ LETS.cps.toList)) && z.cps.toList.all (fun c => decide (c ∈ LETS.cps.toList) || decide (c ∈ DIGS.cps.toList))
theorem name_of {z : Str} (h : nameB z = true) : Name z := by
  unfold nameB at h
  rw [Bool.and_eq_true, Bool.and_eq_true, Bool.and_eq_true, decide_eq_true_eq, decide_eq_true_eq, List.all_eq_true, List.all_eq_true] at h
  obtain ⟨⟨⟨h1, h2⟩, h3⟩, h4⟩ := h
  refine ⟨h1, h2, ?_, fun i c e => ?_⟩
  · have e : z.cps[0]? = some z.cps[0] := Array.getElem?_eq_getElem h1
    refine ⟨_, e, of_decide_eq_true (h3 _ ?_)⟩
    rw [← Array.getElem?_toList] at e
    refine List.mem_of_getElem? (i := 0) ?_
    rw [List.getElem?_take_of_lt (by omega)]
    exact e
  · rw [← Array.getElem?_toList] at e
    have := h4 c (List.mem_of_getElem? e)
    rw [Bool.or_eq_true, decide_eq_true_eq, decide_eq_true_eq] at this
    exact this
theorem fresh_all : FRESH.all nameB = true := by decide +kernel
theorem fresh_name {z : Str} (h : z ∈ FRESH) : Name z := name_of (List.all_eq_true.mp fresh_all z h)
def spFresh (K : PySem.W.Frag) : Sp := fun vs H Q _ => ∃ (a : Addr) (qs : List Addr) (rows : List (Str × List V)), vs = [.ref a] ∧ RL H a (qs.map V.ref) ∧ Paired (RowAt H) qs rows ∧ rows.length ≤ 5 ∧
  ∀ H' z, Same H H' → (FRESH.filter (fun z => decide (¬ z ∈ rows.map (·.1)))).head? = some z → Q (.str z) H'
section
variable {P : Program} {w : World} {K : PySem.W.Frag} {mg : Str → Option Value} {base : Heap}
theorem ok__law_fresh (T : Tx K mg) : Ok P w K mg base "_law_fresh" 1 (spFresh K) := by
  refine ok_of T.a__law_fresh sc_law_fresh (fun vs H Q E h => ?_) bi__law_fresh fun cdv A outer s H vs Q E hr h => ?_
  · obtain ⟨a, qs, rows, rfl, _⟩ := h
    rfl
  obtain ⟨a, qs, rows, rfl, ha, hp, hl, hQ⟩ := h
  have big : (16777216 : Nat) ≤ sizeLine := by decide
  have pl := Paired.length hp
  refine ⟨_, (pss_cons (ps_set (i := 1) sc_law_fresh.nd rfl (by first | exact Or.inl rfl | exact Or.inr rfl) (pe_lc (own := [("row", 2)]) (g := gName 2) rfl sc_law_fresh.nd (pi_list (pv 0)) (blkOk_by (N := ["rows", "names", "row", "name"]) (sc := defScope s_law_fresh) (by decide +kernel)) (fun _ _ _ _ _ => (pg_name (i := 2) sc_law_fresh.nd rfl (by first | exact Or.inl rfl | exact Or.inr rfl))) (fun _ _ _ _ _ => pts_nil) (fun _ _ _ _ _ => (pe_ix (ixL K) (pv 2) pe_int (fun _ _ => rfl)))))
  (pss_one (ps_ret (pe_ix (ixL K) (pe_lc (own := [("name", 3)]) (g := gName 3) rfl sc_law_fresh.nd (pi_list (pe_lst (pa_cons pe_str (pa_cons pe_str (pa_cons pe_str (pa_cons pe_str (pa_cons pe_str (pa_cons pe_str pa_nil)))))))) (blkOk_by (N := ["rows", "names", "row", "name"]) (sc := defScope s_law_fresh) (by decide +kernel)) (fun _ _ _ _ _ => (pg_name (i := 3) sc_law_fresh.nd rfl (by first | exact Or.inl rfl | exact Or.inr rfl))) (fun _ _ _ _ _ => (pts_one (pt_cmpR (notInK K) (pv 3) (pv 1) (by rfl)))) (fun _ _ _ _ _ => (pv 3))) pe_int (fun _ _ => rfl))))), ?_⟩
  refine ⟨_, rfl, a, rfl, ⟨_, ha.sq⟩, fun N nN => ?_⟩
  refine lc_it (walk_list (K := K) (a := a) (xs := qs.map V.ref)) (fun i H1 => H1 N = some (.lst ((rows.take i).map fun r => V.str r.1)) ∧ Same H H1) ⟨upd_same .., same_new nN⟩ (fun i H1 _ h => (ha.same h.2).sq) ?_ ?_
  · rintro i x H0 H1 hi ⟨q1, s1⟩ ⟨rfl, hx⟩
    rw [List.length_map] at hi
    obtain ⟨q, r, h1, h2, h3⟩ := pget2 hp hi
    rw [List.getElem?_map, h1] at hx
    cases hx
    refine ⟨rfl, _, rfl, q, _, _, _, rfl, rfl, (RL.same s1 h3).sq, atI_nat (j := 0) rfl, _, q1, by rw [List.length_map, List.length_take]; omega, ?_, same_put nN s1⟩
    rw [upd_same, take_map h2]
  rintro H1 ⟨q1, s1⟩
  rw [List.length_map, pl, List.take_length] at q1
  have em : (rows.map fun r => V.str r.1) = (rows.map (·.1)).map V.str := by rw [List.map_map] <;> rfl
  rw [em] at q1
  refine ⟨Nat.le_trans (by show 6 ≤ 16777216; decide) big, fun M nM => ?_⟩
  have t1 := same_new (o := .lst (FRESH.map V.str)) nM
  have k1 : RL (upd H1 M (.lst (FRESH.map V.str))) M (FRESH.map V.str) := upd_same ..
  refine ⟨M, rfl, ⟨_, RL.sq k1⟩, fun R nR => ?_⟩
  have q1' := t1 _ _ q1
  have s2 := same2 s1 t1
  refine lc_it (walk_list (K := K) (a := M) (xs := FRESH.map V.str)) (fun i H3 => H3 R = some (.lst (((FRESH.take i).filter (fun z => decide (¬ z ∈ rows.map (·.1)))).map V.str)) ∧ Same (upd H1 M (.lst (FRESH.map V.str))) H3) ⟨upd_same .., same_new nR⟩ (fun i H1 _ h => (k1.same h.2).sq) ?_ ?_
  · rintro i x H0 H3 hi ⟨g1, g2⟩ ⟨rfl, hx⟩
    rw [List.length_map] at hi
    rw [List.getElem?_map, getE hi] at hx
    cases hx
    have hg := getE hi
    generalize FRESH[i] = z at hg
    refine ⟨rfl, _, rfl, _, rfl, N, _, rfl, .inl (.inl (.inl (g2 _ _ q1'))), rfl, Ms.flat_strs _, _, rfl, ?_⟩
    rw [inV_str, filter_take hg]
    by_cases hz : z ∈ rows.map (·.1)
    · rw [show (if true = true then !decide (z ∈ rows.map (·.1)) else decide (z ∈ rows.map (·.1))) = false from by rw [decide_eq_true hz] <;> rfl, if_neg (by rw [decide_eq_true_eq]; exact fun e => e hz), List.append_nil]
      exact iteF ⟨g1, g2⟩
    · rw [show (if true = true then !decide (z ∈ rows.map (·.1)) else decide (z ∈ rows.map (·.1))) = true from by rw [decide_eq_false hz] <;> rfl, if_pos (decide_eq_true hz)]
      refine iteT ⟨_, rfl, _, g1, ?_, ?_, same_put nR g2⟩
      · rw [List.length_map]
        refine Nat.lt_of_le_of_lt (List.length_filter_le ..) ?_
        rw [List.length_take]
        exact Nat.lt_of_le_of_lt (Nat.min_le_right ..) (Nat.lt_of_lt_of_le (by show 6 < 16777216; decide) big)
      · rw [upd_same, List.map_append] <;> rfl
  rintro H3 ⟨g1, g2⟩
  rw [List.length_map, List.take_length] at g1
  obtain ⟨z, r, e⟩ := fresh_some (l := rows.map (·.1)) (by rw [List.length_map]; exact hl)
  rw [e] at g1
  exact ⟨R, _, _, _, rfl, rfl, .inl (.inl g1), atI_nat (j := 0) rfl, hQ H3 z (same2 s2 g2) (by rw [e] <;> rfl)⟩
end
end K05
set_option Elab.async false
set_option linter.all false
set_option maxRecDepth 100000
set_option maxHeartbeats 4000000
namespace K05
open PySem PySem.Spec PyProof.Rows L2 Ms
def atZ (l : List Int) (i : Nat) : Int := l.getD i 0
def pickZ (ps : List Nat) (l : List Int) : List Int := ps.map (atZ l)
theorem atZ_at {l : List Int} {i : Nat} (h : i < l.length) : (l.map V.int)[i]? = some (.int (atZ l i)) := by
  unfold atZ
  rw [List.getElem?_map, List.getD_eq_getElem?_getD, getE h] <;> rfl
def Wd.only (W : Wd) (ps : List Nat) : Wd := ⟨pickR ps W.deals, W.facts.map fun f => (f.1, pickR ps f.2), W.parts.map fun p => (p.1, pickZ ps p.2.1, pickR ps p.2.2)⟩
def spOnlyW : Sp := fun vs H Q _ => ∃ (a b : Addr) (W : Wd) (ps : List Nat) (n : Nat), vs = [.ref a, .ref b] ∧ WAt H a W ∧ W.Ok n ∧ RL H b (nV ps) ∧ ps.length ≤ 6 ∧ (∀ p ∈ ps, p < W.deals.length) ∧ ∀ H' q, Same H H' → H q = none → WAt H' q (W.only ps) → Q (.ref q) H'
section
variable {P : Program} {w : World} {K : PySem.W.Frag} {mg : Str → Option Value} {base : Heap}
theorem ok__law_only (T : Tx K mg) : Ok P w K mg base "_law_only" 1 spOnlyW := by
  refine ok_of T.a__law_only sc_law_only (fun vs H Q E h => ?_) bi__law_only fun cdv A outer s H vs Q E hr h => ?_
  · obtain ⟨a, b, W, ps, n, rfl, _⟩ := h
    rfl
  obtain ⟨a, b, W, ps, n, rfl, ⟨d, f, c, ha, hd, ⟨qf, hf1, hf2⟩, ⟨qc, hc1, hc2⟩⟩, ok, hb, hl, hlt, hQ⟩ := h
  have big : (16777216 : Nat) ≤ sizeLine := by decide
  have fl := Paired.length hf2
  have cl := Paired.length hc2
  have few := ok.few
  have pew := ok.pew
  refine ⟨_, (pss_cons (ps_setLc (i := 2) (own := [("fact", 4)]) (g := gName 4) rfl sc_law_only.nd rfl rfl (sw_true rfl rfl rfl (by decide +kernel)) (pi_list (pe_ix (ixL K) (pv 0) pe_int (fun _ _ => rfl))) (blkOk_by (N := ["world", "places", "facts", "k", "fact", "callers", "party"]) (sc := defScope s_law_only) (by decide +kernel)) (fun _ _ _ _ _ => (pg_name (i := 4) sc_law_only.nd rfl (by first | exact Or.inl rfl | exact Or.inr rfl))) (fun _ _ _ _ _ => pts_nil) (fun _ _ _ _ _ => (pe_lst (pa_cons (pe_ix (ixL K) (pv 4) pe_int (fun _ _ => rfl)) (pa_cons (pe_lc (own := [("k", 3)]) (g := gName 3) rfl sc_law_only.nd (pi_listK K (pv 1)) (blkOk_to (blkOk_by (N := ["world", "places", "facts", "k", "fact", "callers", "party"]) (sc := { kind := PySem.ScopeKind.function, names := [(".0", PySem.NameKind.local), ("fact", PySem.NameKind.cell), ("places", PySem.NameKind.cell)], isGenerator := false, isCoroutine := false }) (by decide +kernel)) (by rfl) (by rfl)) (fun _ _ _ _ _ => (pg_name (i := 3) sc_law_only.nd rfl (by first | exact Or.inl rfl | exact Or.inr rfl))) (fun _ _ _ _ _ => pts_nil) (fun _ _ _ _ _ => (pe_ix (ixL K) (pe_ix (ixL K) (pv 4) pe_int (fun _ _ => rfl)) (pv 3) (fun _ _ => rfl)))) pa_nil)))))
  (pss_cons (ps_set (i := 5) sc_law_only.nd rfl (by first | exact Or.inl rfl | exact Or.inr rfl) (pe_lst pa_nil))
  (pss_cons (ps_for PassesOwn.never rfl (pi_list (pe_ix (ixL K) (pv 0) pe_int (fun _ _ => rfl))) (pg_name (i := 6) sc_law_only.nd rfl (by first | exact Or.inl rfl | exact Or.inr rfl))
  (pss_one (ps_expr (pe_bm PySem.F.plainAttrs_list PySem.F.slot_list_append PySem.F.type_list_append mt_append (pv 5) (pa_cons (pe_lst (pa_cons (pe_ix (ixL K) (pv 6) pe_int (fun _ _ => rfl)) (pa_cons (pe_lc (own := [("k", 3)]) (g := gName 3) rfl sc_law_only.nd (pi_list (pv 1)) (blkOk_by (N := ["world", "places", "facts", "k", "fact", "callers", "party"]) (sc := defScope s_law_only) (by decide +kernel)) (fun _ _ _ _ _ => (pg_name (i := 3) sc_law_only.nd rfl (by first | exact Or.inl rfl | exact Or.inr rfl))) (fun _ _ _ _ _ => pts_nil) (fun _ _ _ _ _ => (pe_ix (ixL K) (pe_ix (ixL K) (pv 6) pe_int (fun _ _ => rfl)) (pv 3) (fun _ _ => rfl)))) (pa_cons (pe_lc (own := [("k", 3)]) (g := gName 3) rfl sc_law_only.nd (pi_list (pv 1)) (blkOk_by (N := ["world", "places", "facts", "k", "fact", "callers", "party"]) (sc := defScope s_law_only) (by decide +kernel)) (fun _ _ _ _ _ => (pg_name (i := 3) sc_law_only.nd rfl (by first | exact Or.inl rfl | exact Or.inr rfl))) (fun _ _ _ _ _ => pts_nil) (fun _ _ _ _ _ => (pe_ix (ixL K) (pe_ix (ixL K) (pv 6) pe_int (fun _ _ => rfl)) (pv 3) (fun _ _ => rfl)))) pa_nil)))) pa_nil)))))
  (pss_one (ps_ret (pe_lst (pa_cons (pe_lc (own := [("k", 3)]) (g := gName 3) rfl sc_law_only.nd (pi_list (pv 1)) (blkOk_by (N := ["world", "places", "facts", "k", "fact", "callers", "party"]) (sc := defScope s_law_only) (by decide +kernel)) (fun _ _ _ _ _ => (pg_name (i := 3) sc_law_only.nd rfl (by first | exact Or.inl rfl | exact Or.inr rfl))) (fun _ _ _ _ _ => pts_nil) (fun _ _ _ _ _ => (pe_ix (ixL K) (pe_ix (ixL K) (pv 0) pe_int (fun _ _ => rfl)) (pv 3) (fun _ _ => rfl)))) (pa_cons (pv 2) (pa_cons (pv 5) pa_nil))))))))), ?_⟩
  refine ⟨_, rfl, a, _, _, _, rfl, rfl, ha.sq, atI_nat (j := 1) rfl, f, rfl, ⟨_, hf1.sq⟩, fun N nN => ?_⟩
  refine lc_it (walk_list (K := K) (a := f) (xs := qf.map V.ref)) (fun i H1 => ∃ rs : List Addr, H1 N = some (.lst (rs.map V.ref)) ∧ Paired (FX (PN N H1)) rs ((W.facts.take i).map fun p => (p.1, pickR ps p.2)) ∧ Same H H1) ⟨[], upd_same .., .nil, same_new nN⟩ (fun i H1 _ h => by obtain ⟨_, _, _, h⟩ := h; exact Same.seq h hf1.sq) ?_ ?_
  · rintro i x H0 H1 hi ⟨rs, q1, q2, s1⟩ ⟨rfl, hx⟩
    rw [List.length_map] at hi
    obtain ⟨u, p, h1, h2, da, h3, h4⟩ := pget2 hf2 hi
    rw [List.getElem?_map, h1] at hx
    cases hx
    have po := ok.fo p (List.mem_of_getElem? h2)
    have lr : rs.length ≤ 5 := by rw [Paired.length q2, List.length_map, List.length_take]; omega
    refine ⟨rfl, _, rfl, u, _, _, _, rfl, rfl, (RL.same s1 h3).sq, atI_nat (j := 0) rfl, _, rfl, b, rfl, ⟨_, (RL.same s1 hb).sq⟩, fun M nM => ?_⟩
    refine lc_it (walk_list (K := K) (a := b) (xs := nV ps)) (fun j H2 => H2 M = some (.lst (nV ((ps.take j).map (at0 p.2)))) ∧ Same H1 H2) ⟨upd_same .., same_new nM⟩ (fun j H2 _ h => (RL.same (same2 s1 h.2) hb).sq) ?_ ?_
    · rintro j y H20 H2 hj ⟨g1, g2⟩ ⟨rfl, hy⟩
      obtain ⟨k, hk, rfl⟩ := of_nV hy
      have s2 := same2 s1 g2
      have kl := hlt k (List.mem_of_getElem? hk)
      refine ⟨rfl, _, rfl, u, _, _, _, rfl, rfl, (RL.same s2 h3).sq, atI_nat (j := 1) rfl, _, rfl, da, _, _, _, rfl, rfl, (RL.same s2 h4).sq, atI_nat (nV_at0 (by omega)), _, g1, by rw [nV_len, List.length_map, List.length_take]; omega, ?_, same_put nM g2⟩
      rw [upd_same, nV_snoc, take_map hk]
    rintro H2 ⟨g1, g2⟩
    rw [nV_len, List.take_length] at g1
    have s2 := same2 s1 g2
    refine ⟨Nat.le_trans (by show 2 ≤ 16777216; decide) big, fun y ny => ?_⟩
    have s4 := same_new (o := .lst [.str p.1, .ref M]) ny
    have hy : upd H2 y (.lst [.str p.1, .ref M]) y = some (.lst [.str p.1, .ref M]) := upd_same ..
    have yN : y ≠ N := fun e => by rw [e, g2 _ _ q1] at ny; cases ny
    have zN : M ≠ N := fun e => by rw [e, q1] at nM; cases nM
    generalize upd H2 y (.lst [.str p.1, .ref M]) = H4 at s4 hy
    have s14 := same2 g2 s4
    refine ⟨_, s14 _ _ q1, by rw [List.length_map]; omega, rs ++ [y], by rw [upd_same, List.map_append] <;> rfl, ?_, same_put nN (same2 s1 s14)⟩
    rw [take_map h2]
    exact psnoc (pimp (fun _ _ _ e => e.mono fun _ _ z => (z.same s14).put) q2) ⟨M, PN.put ⟨yN, hy⟩, PN.put ⟨zN, s4 _ _ g1⟩⟩
  rintro H1 ⟨rs, q1, q2, s1⟩
  rw [List.length_map, fl, List.take_length] at q2
  refine ⟨Nat.zero_le _, fun C nC => ?_⟩
  have t1 := same_new (o := .lst []) nC
  refine ⟨_, rfl, a, _, _, _, rfl, rfl, (RL.same (same2 s1 t1) ha).sq, atI_nat (j := 2) rfl, c, rfl, ⟨_, (RL.same (same2 s1 t1) hc1).sq⟩, for_list (xs := qc.map V.ref) (fun i σ H2 => ∃ (m : Option V) (ts : List Addr), σ = [some (.ref a), some (.ref b), some (.ref N), none, none, some (.ref C), m] ∧ H2 C = some (.lst (ts.map V.ref)) ∧ Paired (PX (PN C H2)) ts ((W.parts.take i).map fun p => (p.1, pickZ ps p.2.1, pickR ps p.2.2)) ∧ Same H1 H2) ?_ ?_ ?_ ?_⟩
  · exact ⟨none, [], rfl, upd_same .., .nil, t1⟩
  · rintro i σ H2 _ ⟨_, _, _, _, _, s2⟩
    exact (RL.same (same2 s1 s2) hc1).sq
  · rintro i x σ H2 hx ⟨m, ts, rfl, g1, g2, s2⟩
    have hi := ltE hx
    rw [List.length_map] at hi
    obtain ⟨u, p, h1, h2, mk, wt, h3, h4, h5⟩ := pget2 hc2 hi
    rw [List.getElem?_map, h1] at hx
    cases hx
    have po := ok.po p (List.mem_of_getElem? h2)
    have lr : ts.length ≤ 5 := by rw [Paired.length g2, List.length_map, List.length_take]; omega
    have s02 := same2 s1 s2
    refine ⟨_, rfl, .inl ⟨rfl, _, .inl (.inl g1)⟩, _, rfl, u, _, _, _, rfl, rfl, (RL.same s02 h3).sq, atI_nat (j := 0) rfl, _, rfl, b, rfl, ⟨_, (RL.same s02 hb).sq⟩, fun M nM => ?_⟩
    refine lc_it (walk_list (K := K) (a := b) (xs := nV ps)) (fun j H3 => H3 M = some (.lst ((pickZ (ps.take j) p.2.1).map V.int)) ∧ Same H2 H3) ⟨upd_same .., same_new nM⟩ (fun j H3 _ h => (RL.same (same2 s02 h.2) hb).sq) ?_ ?_
    · rintro j y H30 H3 hj ⟨k1, k2⟩ ⟨rfl, hy⟩
      obtain ⟨k, hk, rfl⟩ := of_nV hy
      have s3 := same2 s02 k2
      have kl := hlt k (List.mem_of_getElem? hk)
      refine ⟨rfl, _, rfl, u, _, _, _, rfl, rfl, (RL.same s3 h3).sq, atI_nat (j := 1) rfl, _, rfl, mk, _, _, _, rfl, rfl, (RL.same s3 h4).sq, atI_nat (atZ_at (by omega)), _, k1, by rw [List.length_map]; unfold pickZ; rw [List.length_map, List.length_take]; omega, ?_, same_put nM k2⟩
      rw [upd_same]
      unfold pickZ
      rw [take_map hk, List.map_append] <;> rfl
    rintro H3 ⟨k1, k2⟩
    rw [nV_len, List.take_length] at k1
    have s03 := same2 s02 k2
    refine ⟨_, rfl, b, rfl, ⟨_, (RL.same s03 hb).sq⟩, fun M2 nM2 => ?_⟩
    refine lc_it (walk_list (K := K) (a := b) (xs := nV ps)) (fun j H4 => H4 M2 = some (.lst (nV ((ps.take j).map (at0 p.2.2)))) ∧ Same H3 H4) ⟨upd_same .., same_new nM2⟩ (fun j H4 _ h => (RL.same (same2 s03 h.2) hb).sq) ?_ ?_
    · rintro j y H40 H4 hj ⟨l1, l2⟩ ⟨rfl, hy⟩
      obtain ⟨k, hk, rfl⟩ := of_nV hy
      have s4 := same2 s03 l2
      have kl := hlt k (List.mem_of_getElem? hk)
      refine ⟨rfl, _, rfl, u, _, _, _, rfl, rfl, (RL.same s4 h3).sq, atI_nat (j := 2) rfl, _, rfl, wt, _, _, _, rfl, rfl, (RL.same s4 h5).sq, atI_nat (nV_at0 (by omega)), _, l1, by rw [nV_len, List.length_map, List.length_take]; omega, ?_, same_put nM2 l2⟩
      rw [upd_same, nV_snoc, take_map hk]
    rintro H4 ⟨l1, l2⟩
    rw [nV_len, List.take_length] at l1
    refine ⟨Nat.le_trans (by show 3 ≤ 16777216; decide) big, fun y ny => ?_⟩
    have s5 := same_new (o := .lst [.str p.1, .ref M, .ref M2]) ny
    have hy : upd H4 y (.lst [.str p.1, .ref M, .ref M2]) y = some (.lst [.str p.1, .ref M, .ref M2]) := upd_same ..
    have g14 := l2 _ _ (k2 _ _ g1)
    have yC : y ≠ C := fun e => by rw [e, g14] at ny; cases ny
    have M2C : M2 ≠ C := fun e => by rw [e, k2 _ _ g1] at nM2; cases nM2
    have MC : M ≠ C := fun e => by rw [e, g1] at nM; cases nM
    generalize upd H4 y (.lst [.str p.1, .ref M, .ref M2]) = H5 at s5 hy
    have s25 := same2 k2 (same2 l2 s5)
    refine ⟨C, _, _, rfl, rfl, s25 _ _ g1, by rw [List.length_map]; omega, ?_⟩
    refine ⟨_, ts ++ [y], rfl, by rw [upd_same, List.map_append] <;> rfl, ?_, same_put nC (same2 s2 s25)⟩
    rw [take_map h2]
    exact psnoc (pimp (fun _ _ _ e => e.mono fun _ _ z => (z.same s25).put) g2) ⟨M, M2, PN.put ⟨yC, hy⟩, PN.put ⟨MC, s5 _ _ (l2 _ _ k1)⟩, PN.put ⟨M2C, s5 _ _ l1⟩⟩
  rintro σ H2 ⟨m, ts, rfl, g1, g2, s2⟩
  rw [List.length_map, cl, List.take_length] at g2
  have s02 := same2 s1 s2
  refine ⟨_, rfl, b, rfl, ⟨_, (RL.same s02 hb).sq⟩, fun M nM => ?_⟩
  refine lc_it (walk_list (K := K) (a := b) (xs := nV ps)) (fun j H3 => H3 M = some (.lst (nV ((ps.take j).map (at0 W.deals)))) ∧ Same H2 H3) ⟨upd_same .., same_new nM⟩ (fun j H3 _ h => (RL.same (same2 s02 h.2) hb).sq) ?_ ?_
  · rintro j y H30 H3 hj ⟨k1, k2⟩ ⟨rfl, hy⟩
    obtain ⟨k, hk, rfl⟩ := of_nV hy
    have s3 := same2 s02 k2
    have kl := hlt k (List.mem_of_getElem? hk)
    refine ⟨rfl, _, rfl, a, _, _, _, rfl, rfl, (RL.same s3 ha).sq, atI_nat (j := 0) rfl, _, rfl, d, _, _, _, rfl, rfl, (RL.same s3 hd).sq, atI_nat (nV_at0 kl), _, k1, by rw [nV_len, List.length_map, List.length_take]; omega, ?_, same_put nM k2⟩
    rw [upd_same, nV_snoc, take_map hk]
  rintro H3 ⟨k1, k2⟩
  rw [nV_len, List.take_length] at k1
  refine ⟨_, rfl, _, rfl, Nat.le_trans (by show 3 ≤ 16777216; decide) big, fun y ny => ?_⟩
  have s4 := same_new (o := .lst [.ref M, .ref N, .ref C]) ny
  have s24 := same2 k2 s4
  have s14 := same2 s2 s24
  exact hQ _ y (same2 s1 s14) ((same2 s02 k2).free ny) ⟨M, N, C, upd_same .., s4 _ _ k1, ⟨rs, s14 _ _ q1, pimp (fun _ _ _ e => e.mono fun _ _ z => RL.same s14 z.2) q2⟩, ⟨ts, s24 _ _ g1, pimp (fun _ _ _ e => e.mono fun _ _ z => RL.same s24 z.2) g2⟩⟩
end
end K05
set_option Elab.async false
set_option linter.all false
set_option maxRecDepth 100000
set_option maxHeartbeats 4000000
namespace K05
open PySem PySem.Spec PyProof.Rows L2 Ms
def NLx (n : Nat) (l : List Nat) : Prop := l.length = n ∧ (∃ c, l[0]? = some c ∧ c ∈ LETS.cps.toList) ∧ ∀ c ∈ l, Sgn c
theorem nl_name {z : Str} {n : Nat} (h1 : 1 ≤ n) (h8 : n ≤ 8) (h : NLx n z.cps.toList) : Name z := by
  obtain ⟨hl, ⟨c, hc, hc2⟩, ha⟩ := h
  rw [Array.length_toList] at hl
  refine ⟨by omega, by omega, ⟨c, by rw [← Array.getElem?_toList]; exact hc, hc2⟩, fun i c e => ha c ?_⟩
  rw [← Array.getElem?_toList] at e
  exact List.mem_of_getElem? e
theorem name_nl {z : Str} (h : Name z) : NLx z.cps.size z.cps.toList := by
  obtain ⟨c, hc, hc2⟩ := h.fst
  refine ⟨Array.length_toList, ⟨c, by rw [Array.getElem?_toList]; exact hc, hc2⟩, fun c m => ?_⟩
  obtain ⟨i, hi⟩ := List.getElem?_of_mem m
  rw [Array.getElem?_toList] at hi
  exact h.all i c hi
abbrev SIGNS : Str := LETS ++ DIGS
theorem lets_len : LETS.cps.toList.length = 26 := by decide +kernel
theorem signs_len : SIGNS.cps.toList.length = 36 := by decide +kernel
theorem signs_sgn {c : Nat} (h : c ∈ SIGNS.cps.toList) : Sgn c := by
  have : SIGNS.cps.toList = LETS.cps.toList ++ DIGS.cps.toList := by
    show (LETS.cps ++ DIGS.cps).toList = _
    rw [Array.toList_append]
  rw [this] at h
  exact List.mem_append.mp h
def MENU : List Str := ["a", "b", "ab", "a1", "b2", "key", "deals", "aa"]
theorem menu_all : MENU.all nameB = true := by decide +kernel
theorem menu_name {z : Str} (h : z ∈ MENU) : Name z := name_of (List.all_eq_true.mp menu_all z h)
def SSN : List Nat := [4, 8, 8, 26] ++ List.replicate 7 36
def MM : Str := "mmmmmmmm"
theorem mm_list : MM.cps.toList = List.replicate 8 109 := by decide +kernel
theorem lets_m : 109 ∈ LETS.cps.toList := by decide +kernel
theorem cut_mm_to {n : Nat} (h : n ≤ 8) : (cutS MM none (some ((n : Nat) : Int))).cps.toList = List.replicate n 109 := by
  show ((MM.cps.toList.drop 0).take (HT.sIx MM.length MM.length (some ((n : Nat) : Int)) - 0)).toArray.toList = _
  have el : MM.length = 8 := by decide +kernel
  have e1 : HT.sIx MM.length MM.length (some ((n : Nat) : Int)) = n := by
    rw [el]
    unfold HT.sIx
    simp
    rw [if_neg (by omega)]
    omega
  rw [e1, List.drop_zero, mm_list, Nat.sub_zero, List.take_replicate]
  rw [Nat.min_eq_left (by omega)]
theorem cut_mm_mid {n m : Nat} (h : m ≤ 8) (h2 : n ≤ m) : (cutS MM (some ((n : Nat) : Int)) (some ((m : Nat) : Int))).cps.toList = List.replicate (m - n) 109 := by
  show ((MM.cps.toList.drop (HT.sIx MM.length 0 (some ((n : Nat) : Int)))).take (HT.sIx MM.length MM.length (some ((m : Nat) : Int)) - HT.sIx MM.length 0 (some ((n : Nat) : Int)))).toArray.toList = _
  have el : MM.length = 8 := by decide +kernel
  have e1 : HT.sIx MM.length MM.length (some ((m : Nat) : Int)) = m := by
    rw [el]
    unfold HT.sIx
    simp
    rw [if_neg (by omega)]
    omega
  have e2 : HT.sIx MM.length 0 (some ((n : Nat) : Int)) = n := by
    rw [el]
    unfold HT.sIx
    simp
    rw [if_neg (by omega)]
    omega
  rw [e1, e2, mm_list, List.drop_replicate, List.take_replicate]
  rw [Nat.min_eq_left (by omega)]
def spLName : Sp := fun vs H Q _ => ∃ c : Int, vs = [.int c] ∧ ∀ H' z, Same H H' → Name z → Q (.str z) H'
theorem ssn_ok : ∀ x ∈ SSN, 0 < x ∧ x < 1073741824 := by decide
section
variable {P : Program} {w : World} {K : PySem.W.Frag} {mg : Str → Option Value} {base : Heap}
theorem ok__law_name (T : Tx K mg) : Ok P w K mg base "_law_name" 2 spLName := by
  have O__law_digits : Ok P w K mg base "_law_digits" 1 (spDigits K) := ok__law_digits T
  refine ok_of T.a__law_name sc_law_name (fun vs H Q E h => ?_) bi__law_name fun cdv A outer s H vs Q E hr h => ?_
  · obtain ⟨c, rfl, _⟩ := h
    rfl
  obtain ⟨c, rfl, hQ⟩ := h
  have big : (16777216 : Nat) ≤ sizeLine := by decide
  have z36 : SIGNS.length ≤ sizeLine := by rw [show SIGNS.length = 36 from by decide +kernel]; omega
  have z26 : LETS.length ≤ sizeLine := by rw [show LETS.length = 26 from by decide +kernel]; omega
  have z8 : MM.length ≤ sizeLine := by rw [show MM.length = 8 from by decide +kernel]; omega
  refine ⟨_, (pss_cons (ps_set (i := 1) sc_law_name.nd rfl (by first | exact Or.inl rfl | exact Or.inr rfl) pe_str)
  (pss_cons (ps_set (i := 2) sc_law_name.nd rfl (by first | exact Or.inl rfl | exact Or.inr rfl) (pe_op op_add_str (pv 1) pe_str))
  (pss_cons (ps_set (i := 3) sc_law_name.nd rfl (by first | exact Or.inl rfl | exact Or.inr rfl) (pe_c (E := EN) O__law_digits hr (by decide) (fun σ => passN σ) (pa_cons (pv 0) (pa_cons (pe_op op_cat (pe_lst (pa_cons pe_int (pa_cons pe_int (pa_cons pe_int (pa_cons pe_int pa_nil))))) (pe_op op_rep (pe_lst (pa_cons pe_int pa_nil)) pe_int)) pa_nil))))
  (pss_cons (ps_if (pt_cmpR op_eq (pe_ix (ixL K) (pv 3) pe_int (fun _ _ => rfl)) pe_int (nomark _))
  (pss_one (ps_ret (pe_ix (ixL K) (pe_lst (pa_cons pe_str (pa_cons pe_str (pa_cons pe_str (pa_cons pe_str (pa_cons pe_str (pa_cons pe_str (pa_cons pe_str (pa_cons pe_str pa_nil))))))))) (pe_ix (ixL K) (pv 3) pe_int (fun _ _ => rfl)) (fun _ _ => rfl))))
  pss_nil)
  (pss_cons (ps_set (i := 4) sc_law_name.nd rfl (by first | exact Or.inl rfl | exact Or.inr rfl) (pe_ix ix_str (pv 1) (pe_ix (ixL K) (pv 3) pe_int (fun _ _ => rfl)) (fun _ _ => rfl)))
  (pss_cons (ps_for PassesOwn.never rfl (pi_range1 rfl T.f_range (pa_cons (pe_ix (ixL K) (pv 3) pe_int (fun _ _ => rfl)) pa_nil)) (pg_name (i := 5) sc_law_name.nd rfl (by first | exact Or.inl rfl | exact Or.inr rfl))
  (pss_one (ps_set (i := 4) sc_law_name.nd rfl (by first | exact Or.inl rfl | exact Or.inr rfl) (pe_op op_add_str (pv 4) (pe_ix ix_str (pv 2) (pe_ix (ixL K) (pv 3) (pe_op op_add pe_int (pv 5)) (fun _ _ => rfl)) (fun _ _ => rfl))))))
  (pss_cons (ps_if (pt_cmpR op_eq (pe_ix (ixL K) (pv 3) pe_int (fun _ _ => rfl)) pe_int (nomark _))
  (pss_cons (ps_set (i := 6) sc_law_name.nd rfl (by first | exact Or.inl rfl | exact Or.inr rfl) (pe_op op_modN (pe_callTy call_int1 (by rfl) T.f_int (by decide +kernel) (pa_cons (pe_ix (ixL K) (pv 3) pe_int (fun _ _ => rfl)) pa_nil)) (pe_callB call_len_str (by rfl) T.f_len boot_len (pa_cons (pv 4) pa_nil))))
    (pss_cons (ps_set (i := 7) sc_law_name.nd rfl (by first | exact Or.inl rfl | exact Or.inr rfl) (pe_ix (ixL K) (pe_lst (pa_cons (pe_ix ix_str (pv 4) pe_int (fun _ _ => rfl)) (pa_cons (pe_ix ix_str (pv 2) (pe_ix (ixL K) (pv 3) pe_int (fun _ _ => rfl)) (fun _ _ => rfl)) pa_nil))) (pe_callTy call_int1 (by rfl) T.f_int (by decide +kernel) (pa_cons (pe_cmpR op_gt (pv 6) pe_int (nomark _)) pa_nil)) (fun _ _ => rfl)))
    (pss_one (ps_ret (pe_op op_add_str (pe_op op_add_str (pe_slice sl_str pe_str po_none (po_some (pv 6))) (pv 7)) (pe_slice sl_str pe_str (po_some (pe_op op_add (pv 6) pe_int)) (po_some (pe_callB call_len_str (by rfl) T.f_len boot_len (pa_cons (pv 4) pa_nil)))))))))
  pss_nil)
  (pss_one (ps_ret (pv 4)))))))))), ?_⟩
  refine ⟨_, rfl, LETS, DIGS, rfl, rfl, by rw [show LETS.length + DIGS.length = 36 from by decide +kernel]; omega, ?_⟩
  refine ⟨_, rfl, Nat.le_trans (by show 4 ≤ 16777216; decide) big, fun a na => ?_⟩
  have s1 := same_new (o := .lst (nV [4, 8, 8, 26])) na
  have h1 : RL (upd H a (.lst (nV [4, 8, 8, 26]))) a (nV [4, 8, 8, 26]) := upd_same ..
  refine ⟨Nat.le_trans (by show 1 ≤ 16777216; decide) big, fun b nb => ?_⟩
  have s2 := same_new (o := .lst (nV [36])) nb
  have h2 : RL (upd (upd H a (.lst (nV [4, 8, 8, 26]))) b (.lst (nV [36]))) b (nV [36]) := upd_same ..
  refine ⟨b, 7, nV [36], rfl, rfl, h2, by decide, by decide, by show 1 * 7 ≤ _; omega, fun d nd => ?_⟩
  have s3 := same_new (o := .lst (nV (List.replicate 7 36))) nd
  refine ⟨a, d, nV [4, 8, 8, 26], nV (List.replicate 7 36), rfl, rfl, s3 _ _ (s2 _ _ h1), upd_same .., by show 11 ≤ _; omega, fun e ne => ?_⟩
  have s4 := same_new (o := .lst (nV SSN)) ne
  have s04 := same2 s1 (same2 s2 (same2 s3 s4))
  refine ⟨c, e, SSN, rfl, .inl (.inl (upd_same ..)), ssn_ok, by show 11 ≤ _; decide, fun H1 p ds t1 np hp dl dlt => ?_⟩
  have s01 : Same H H1 := same2 s04 t1
  have dl : ds.length = 11 := dl
  have d0 := dlt 0 (by show 0 < 11; decide)
  have d1 := dlt 1 (by show 1 < 11; decide)
  have d2 := dlt 2 (by show 2 < 11; decide)
  have d3 := dlt 3 (by show 3 < 11; decide)
  have dr : ∀ j, 4 ≤ j → j < 11 → at0 ds j < 36 := fun j h4 h11 => by
    have := dlt j h11
    have e : at0 SSN j = 36 := by
      have : ∀ j, j < 11 → 4 ≤ j → at0 SSN j = 36 := by decide
      exact this j h11 h4
    omega
  have d0 : at0 ds 0 < 4 := d0
  have d1 : at0 ds 1 < 8 := d1
  have d2 : at0 ds 2 < 8 := d2
  have d3 : at0 ds 3 < 26 := d3
  have hp : RL H1 p (nV ds) := hp
  refine ⟨_, rfl, p, _, _, _, rfl, rfl, hp.sq, atI_nat (j := 0) (nV_at0 (by omega)), rfl, _, rfl, ?_⟩
  by_cases e0 : at0 ds 0 = 0
  · rw [show decide (V.int (at0 ds 0 : Nat) = V.int 0) = true from decide_eq_true (by rw [e0] <;> rfl)]
    refine iteT ⟨Nat.le_trans (by show 8 ≤ 16777216; decide) big, fun M nM => ?_⟩
    have u1 := same_new (o := .lst (MENU.map V.str)) nM
    have g1 : RL (upd H1 M (.lst (MENU.map V.str))) M (MENU.map V.str) := upd_same ..
    have hm : at0 ds 1 < MENU.length := d1
    refine ⟨_, rfl, p, _, _, _, rfl, rfl, (hp.same u1).sq, atI_nat (j := 1) (nV_at0 (by omega)), M, _, _, _, rfl, rfl, g1.sq, atI_nat (by rw [List.getElem?_map, getE hm] <;> rfl), ?_⟩
    exact hQ _ _ (same2 s01 u1) (menu_name (List.getElem_mem hm))
  rw [show decide (V.int (at0 ds 0 : Nat) = V.int 0) = false from decide_eq_false (fun e => e0 (by have := V.int.inj e; omega))]
  refine iteF ?_
  have l3 : at0 ds 3 < LETS.cps.toList.length := by rw [lets_len]; exact d3
  refine ⟨_, rfl, _, rfl, p, _, _, _, rfl, rfl, hp.sq, atI_nat (j := 3) (nV_at0 (by omega)), LETS, _, _, rfl, rfl, z26, atI_nat (getE l3), ?_⟩
  have lm := List.getElem_mem l3
  generalize LETS.cps.toList[at0 ds 3] = c0 at lm
  refine ⟨_, rfl, p, _, _, _, rfl, rfl, hp.sq, atI_nat (j := 1) (nV_at0 (by omega)), _, rfl, by omega, by omega, ?_⟩
  rw [Int.toNat_natCast]
  refine for_it walk_range (fun i σ H2 => ∃ (z : Str) (m : Option V), σ = [some (.int c), some (.str LETS), some (.str SIGNS), some (.ref p), some (.str z), m, none, none] ∧ NLx (1 + i) z.cps.toList ∧ H2 = H1) ?_ (fun _ _ _ _ _ => trivial) ?_ ?_
  · refine ⟨⟨#[c0]⟩, none, rfl, ⟨rfl, ⟨c0, rfl, lm⟩, fun c m => ?_⟩, rfl⟩
    rw [List.mem_singleton.mp m]
    exact .inl lm
  · rintro i x σ H2 H3 hi ⟨z, m, rfl, ⟨zl, ⟨zc, zh, zm⟩, za⟩, rfl⟩ ⟨rfl, hx⟩
    have hx : x = .int (i : Nat) := hx.trans (congrArg V.int (Int.zero_add _))
    subst hx
    have di := dr (4 + i) (by omega) (by omega)
    have ls : at0 ds (4 + i) < SIGNS.cps.toList.length := by rw [signs_len]; exact di
    have e4 : (4 : Int) + ((i : Nat) : Int) = ((4 + i : Nat) : Int) := by omega
    refine ⟨_, rfl, _, rfl, _, rfl, _, rfl, _, _, rfl, rfl, p, _, _, _, rfl, rfl, hp.sq, ?_, SIGNS, _, _, rfl, rfl, z36, atI_nat (getE ls), z, _, rfl, rfl, ?_, ?_⟩
    · rw [e4]
      exact atI_nat (nV_at0 (by omega))
    · show z.length + 1 ≤ sizeLine
      have : z.length = 1 + i := by rw [← zl, Array.length_toList] <;> rfl
      omega
    have mem := List.getElem_mem ls
    generalize SIGNS.cps.toList[at0 ds (4 + i)] = c1 at mem
    refine ⟨_, _, rfl, ?_, rfl⟩
    have el : (z ++ (⟨#[c1]⟩ : Str)).cps.toList = z.cps.toList ++ [c1] := by
      show (z.cps ++ #[c1]).toList = _
      rw [Array.toList_append]
    rw [el]
    refine ⟨by rw [List.length_append, zl, List.length_singleton]; omega, ⟨zc, ?_, zm⟩, fun c m => ?_⟩
    · rw [List.getElem?_append_left (by omega)]
      exact zh
    · rcases List.mem_append.mp m with m | m
      · exact za c m
      · rw [List.mem_singleton.mp m]
        exact signs_sgn mem
  rintro σ H2 ⟨z, m, rfl, nl, rfl⟩
  have zl : z.length = 1 + at0 ds 1 := by rw [← nl.1, Array.length_toList] <;> rfl
  refine ⟨_, rfl, p, _, _, _, rfl, rfl, hp.sq, atI_nat (j := 0) (nV_at0 (by omega)), rfl, _, rfl, ?_⟩
  by_cases e1 : at0 ds 0 = 1
  · rw [show decide (V.int (at0 ds 0 : Nat) = V.int 1) = true from decide_eq_true (by rw [e1] <;> rfl)]
    refine iteT ?_
    obtain ⟨g, hg, gl⟩ := digit (a := ((at0 ds 2 : Nat) : Int)) (n := z.length) (by omega)
    refine ⟨_, rfl, p, _, _, _, rfl, rfl, hp.sq, atI_nat (j := 2) (nV_at0 (by omega)), .inl ⟨_, rfl, _, rfl, z, rfl, by omega, _, _, rfl, rfl, by omega, ?_⟩⟩
    dsimp only
    rw [← hg]
    obtain ⟨zc, zh, zm⟩ := nl.2.1
    have l4 : at0 ds 4 < SIGNS.cps.toList.length := by rw [signs_len]; exact dr 4 (by omega) (by omega)
    refine ⟨_, rfl, z, _, _, rfl, rfl, by omega, atI_nat (j := 0) zh, _, rfl, _, rfl, p, _, _, _, rfl, rfl, hp.sq, atI_nat (j := 4) (nV_at0 (by omega)), SIGNS, _, _, rfl, rfl, z36, atI_nat (getE l4), ?_⟩
    have mem := List.getElem_mem l4
    generalize SIGNS.cps.toList[at0 ds 4] = c4 at mem
    refine ⟨Nat.le_trans (by show 2 ≤ 16777216; decide) big, fun M nM => ?_⟩
    have u1 := same_new (o := .lst [.str ⟨#[zc]⟩, .str ⟨#[c4]⟩]) nM
    have g1 : RL (upd H2 M (.lst [.str ⟨#[zc]⟩, .str ⟨#[c4]⟩])) M [.str ⟨#[zc]⟩, .str ⟨#[c4]⟩] := upd_same ..
    have fin : ∀ sg : Nat, Sgn sg → (g = 0 → sg ∈ LETS.cps.toList) → ∀ H3 : Hp, Same H H3 → L2.tRet (L2.tOp (fun x y H Q => ∃ i j, x = V.str i ∧ y = V.str j ∧ i.length + j.length ≤ sizeLine ∧ Q (V.str (i ++ j)) H) (L2.tOp (fun x y H Q => ∃ i j, x = V.str i ∧ y = V.str j ∧ i.length + j.length ≤ sizeLine ∧ Q (V.str (i ++ j)) H) (L2.tSl rSlS (L2.tC (V.str MM)) L2.tNoPart (L2.tPart (L2.tVar 6))) (L2.tVar 7))
        (L2.tSl rSlS (L2.tC (V.str MM)) (L2.tPart (L2.tOp (rI0 fun i j => V.int (i + j)) (L2.tVar 6) (L2.tC (V.int 1)))) (L2.tPart (L2.tCB (fun xs H Q => ∃ z, xs = [V.str z] ∧ z.length ≤ sizeLine ∧ Q (V.int z.length) H) (L2.tCons (L2.tVar 4) L2.tNil))))) { nx := fun x H' => Q V.non H', rt := Q } [some (.int c), some (.str LETS), some (.str SIGNS), some (.ref p), some (.str z), m, some (.int (g : Nat)), some (.str ⟨#[sg]⟩)] H3 := fun sg hs hz H3 s3 => by
      have c1 := cutS_length MM none (some ((g : Nat) : Int))
      have c2 := cutS_length MM (some (((g : Nat) : Int) + 1)) (some ((z.length : Nat) : Int))
      have e8 : MM.length = 8 := by decide +kernel
      have f1 := cut_mm_to (n := g) (by omega)
      have f2 := cut_mm_mid (n := g + 1) (m := z.length) (by omega) (by omega)
      rw [show (((g + 1 : Nat)) : Int) = ((g : Nat) : Int) + 1 from by omega] at f2
      have l1 : (cutS MM none (some ((g : Nat) : Int))).length = g := by
        show (cutS MM none (some ((g : Nat) : Int))).cps.size = g
        rw [← Array.length_toList, f1, List.length_replicate]
      refine ⟨_, rfl, _, rfl, MM, rfl, z8, _, rfl, _, _, rfl, rfl, ?_, _, rfl, _, _, rfl, rfl, _, rfl, _, rfl, z, rfl, by omega, _, rfl, MM, rfl, z8, _, _, rfl, rfl, ?_, hQ _ _ s3 ?_⟩
      · rw [l1]
        show g + 1 ≤ _
        omega
      · show ((cutS MM none (some ((g : Nat) : Int))).cps ++ #[sg]).size + _ ≤ _
        rw [Array.size_append]
        have : (cutS MM none (some ((g : Nat) : Int))).cps.size = g := l1
        have : (#[sg] : Array Nat).size = 1 := rfl
        omega
      refine nl_name (n := z.length) (by omega) (by omega) ?_
      have el : ((cutS MM none (some ((g : Nat) : Int)) ++ (⟨#[sg]⟩ : Str)) ++ cutS MM (some (((g : Nat) : Int) + 1)) (some ((z.length : Nat) : Int))).cps.toList = List.replicate g 109 ++ [sg] ++ List.replicate (z.length - (g + 1)) 109 := by
        show (((cutS MM none (some ((g : Nat) : Int))).cps ++ #[sg]) ++ (cutS MM (some (((g : Nat) : Int) + 1)) (some ((z.length : Nat) : Int))).cps).toList = _
        rw [Array.toList_append, Array.toList_append, f1, f2]
      rw [el]
      refine ⟨by rw [List.length_append, List.length_append, List.length_replicate, List.length_replicate, List.length_singleton]; omega, ?_, fun c m => ?_⟩
      · cases g with
        | zero => exact ⟨sg, rfl, hz rfl⟩
        | succ g => exact ⟨109, by simp [List.replicate_succ], lets_m⟩
      · rcases List.mem_append.mp m with m | m
        · rcases List.mem_append.mp m with m | m
          · rw [(List.mem_replicate.mp m).2]; exact .inl lets_m
          · rw [List.mem_singleton.mp m]; exact hs
        · rw [(List.mem_replicate.mp m).2]; exact .inl lets_m
    refine ⟨_, rfl, _, _, rfl, rfl, .inr ⟨_, rfl, ?_⟩⟩
    dsimp only
    by_cases g0 : (0 : Int) < ((g : Nat) : Int)
    · rw [show decide ((0 : Int) < ((g : Nat) : Int)) = true from decide_eq_true g0]
      refine ⟨M, _, _, _, rfl, rfl, g1.sq, atI_nat (j := 1) rfl, ?_⟩
      exact fin c4 (signs_sgn mem) (fun e => by rw [e] at g0; exact absurd g0 (by decide)) _ (same2 s01 u1)
    · rw [show decide ((0 : Int) < ((g : Nat) : Int)) = false from decide_eq_false g0]
      refine ⟨M, _, _, _, rfl, rfl, g1.sq, atI_nat (j := 0) rfl, ?_⟩
      exact fin zc (.inl zm) (fun _ => zm) _ (same2 s01 u1)
  rw [show decide (V.int (at0 ds 0 : Nat) = V.int 1) = false from decide_eq_false (fun e => e1 (by have := V.int.inj e; omega))]
  exact iteF ⟨_, rfl, hQ _ z s01 (nl_name (by omega) (by omega) nl)⟩
end
end K05
set_option Elab.async false
set_option linter.all false
set_option maxRecDepth 100000
set_option maxHeartbeats 4000000
namespace K05
open PySem PySem.Spec PyProof.Rows L2 Ms
theorem rep_flat (n m : Nat) : (List.replicate n (nV [m])).flatten = nV (List.replicate n m) := by
  induction n with
  | zero => rfl
  | succ n ih => rw [List.replicate_succ, List.flatten_cons, ih] <;> rfl
def spMoved : Sp := fun vs H Q _ => ∃ y z : Str, vs = [.str y, .str z] ∧ Name y ∧ Name z ∧ ∀ H' p y' z', Same H H' → H p = none → RL H' p [.str y', .str z'] → Name y' → Name z' → Q (.ref p) H'
theorem cut_list (z : Str) {n : Nat} (h : n ≤ z.length) : (cutS z none (some ((n : Nat) : Int))).cps.toList = z.cps.toList.take n := by
  show ((z.cps.toList.drop 0).take (HT.sIx z.length z.length (some ((n : Nat) : Int)) - 0)).toArray.toList = _
  have e1 : HT.sIx z.length z.length (some ((n : Nat) : Int)) = n := by
    unfold HT.sIx
    simp
    rw [if_neg (by omega)]
    omega
  rw [e1, List.drop_zero, Nat.sub_zero]
section
variable {P : Program} {w : World} {K : PySem.W.Frag} {mg : Str → Option Value} {base : Heap}
theorem ok__law_moved (T : Tx K mg) : Ok P w K mg base "_law_moved" 1 spMoved := by
  refine ok_of T.a__law_moved sc_law_moved (fun vs H Q E h => ?_) bi__law_moved fun cdv A outer s H vs Q E hr h => ?_
  · obtain ⟨y, z, rfl, _⟩ := h
    rfl
  obtain ⟨y, z, rfl, ny, nz, hQ⟩ := h
  have big : (16777216 : Nat) ≤ sizeLine := by decide
  have yl := ny.hi
  have zl := nz.hi
  have y1 := ny.lo
  have z1 := nz.lo
  have yL : y.length = y.cps.size := rfl
  have zL : z.length = z.cps.size := rfl
  refine ⟨_, (pss_cons (ps_if (PW.pt (pw_and (pt_cmpR op_gt (pe_callB call_len_str (by rfl) T.f_len boot_len (pa_cons (pv 0) pa_nil)) pe_int (nomark _)) (pw_and (pt_cmpR op_lt (pe_callB call_len_str (by rfl) T.f_len boot_len (pa_cons (pv 1) pa_nil)) pe_int (nomark _)) (pw_and1 (pt_cmpR op_in_sign (pe_ix ix_str (pv 0) (pe_op op_sub (pe_callB call_len_str (by rfl) T.f_len boot_len (pa_cons (pv 0) pa_nil)) pe_int) (fun _ _ => rfl)) pe_str (by rfl))))))
  (pss_one (ps_ret (pe_lst (pa_cons (pe_slice sl_str (pv 0) po_none (po_some (pe_op op_sub (pe_callB call_len_str (by rfl) T.f_len boot_len (pa_cons (pv 0) pa_nil)) pe_int))) (pa_cons (pe_op op_add_str (pe_ix ix_str (pv 0) (pe_op op_sub (pe_callB call_len_str (by rfl) T.f_len boot_len (pa_cons (pv 0) pa_nil)) pe_int) (fun _ _ => rfl)) (pv 1)) pa_nil)))))
  pss_nil)
  (pss_one (ps_ret (pe_lst (pa_cons (pv 0) (pa_cons (pv 1) pa_nil)))))), ?_⟩
  have tail : L2.tRet (L2.tLst (L2.tCons (L2.tVar 0) (L2.tCons (L2.tVar 1) L2.tNil))) { nx := fun x H' => Q V.non H', rt := Q } [some (.str y), some (.str z)] H := by
    refine ⟨_, rfl, _, rfl, Nat.le_trans (by show 2 ≤ 16777216; decide) big, fun p np => ?_⟩
    exact hQ _ p y z (same_new np) np (upd_same ..) ny nz
  have yt : y.cps.toList.length = y.length := Array.length_toList
  obtain ⟨yn, ⟨c0, yh, ym⟩, ya⟩ := name_nl ny
  obtain ⟨zn, ⟨d0, zh, zm⟩, za⟩ := name_nl nz
  have li : y.length - 1 < y.cps.toList.length := by omega
  have eY : ((y.length : Nat) : Int) - 1 = ((y.length - 1 : Nat) : Int) := by omega
  have gl := getE li
  have mem := List.getElem_mem li
  generalize y.cps.toList[y.length - 1] = lc at gl mem
  refine ⟨_, rfl, y, rfl, by omega, _, _, rfl, rfl, _, rfl, ?_⟩
  by_cases c1 : (1 : Int) < ((y.length : Nat) : Int)
  · rw [show decide ((1 : Int) < ((y.length : Nat) : Int)) = true from decide_eq_true c1]
    refine iteT ⟨_, rfl, z, rfl, by omega, _, _, rfl, rfl, _, rfl, ?_⟩
    by_cases c2 : ((z.length : Nat) : Int) < 8
    · rw [show decide (((z.length : Nat) : Int) < 8) = true from decide_eq_true c2]
      refine iteT ⟨_, rfl, _, rfl, y, rfl, by omega, _, _, rfl, rfl, y, _, lc, rfl, rfl, by omega, by rw [eY]; exact atI_nat gl, lc, LETS, rfl, rfl, _, rfl, ?_⟩
      by_cases c3 : lc ∈ LETS.cps.toList
      · rw [show decide (lc ∈ LETS.cps.toList) = true from decide_eq_true c3]
        refine iteT ?_
        have cl := cutS_length y none (some ((y.length - 1 : Nat) : Int))
        refine ⟨_, rfl, _, rfl, y, rfl, by omega, _, _, rfl, rfl, _, rfl, y, rfl, by omega, _, rfl, _, rfl, y, rfl, by omega, _, _, rfl, rfl, y, _, lc, rfl, rfl, by omega, by rw [eY]; exact atI_nat gl, _, rfl, ⟨#[lc]⟩, z, rfl, rfl, by show 1 + z.length ≤ _; omega, Nat.le_trans (by show 2 ≤ 16777216; decide) big, fun p np => ?_⟩
        refine hQ _ p _ _ (same_new np) np (upd_same ..) ?_ ?_
        · rw [eY]
          refine nl_name (n := y.length - 1) (by omega) (by omega) ?_
          rw [cut_list y (by omega)]
          refine ⟨by rw [List.length_take]; omega, ⟨c0, ?_, ym⟩, fun c m => ya c (List.mem_of_mem_take m)⟩
          rw [List.getElem?_take_of_lt (by omega)]
          exact yh
        · refine nl_name (n := 1 + z.length) (by omega) (by omega) ?_
          have el : ((⟨#[lc]⟩ : Str) ++ z).cps.toList = lc :: z.cps.toList := by
            show (#[lc] ++ z.cps).toList = _
            rw [Array.toList_append] <;> rfl
          rw [el]
          refine ⟨by rw [List.length_cons, zn]; omega, ⟨lc, rfl, c3⟩, fun c m => ?_⟩
          rcases List.mem_cons.mp m with m | m
          · rw [m]; exact .inl c3
          · exact za c m
      · rw [show decide (lc ∈ LETS.cps.toList) = false from decide_eq_false c3]
        exact iteF tail
    · rw [show decide (((z.length : Nat) : Int) < 8) = false from decide_eq_false c2]
      exact iteF (iteF tail)
  · rw [show decide ((1 : Int) < ((y.length : Nat) : Int)) = false from decide_eq_false c1]
    exact iteF (iteF tail)
def spDrawD (K : PySem.W.Frag) : Sp := fun vs H Q _ => ∃ (c : Int) (n : Nat), vs = [.int c, .int (n : Nat)] ∧ n ≤ 6 ∧ ∀ H' p ds, Same H H' → H p = none → RL H' p (nV ds) → ds.length = n → (∀ d ∈ ds, d ≤ 9) → Q (.ref p) H'
theorem at0_mem {l : List Nat} {p : Nat → Prop} (h : ∀ i, i < l.length → p (at0 l i)) : ∀ x ∈ l, p x := fun x hx => by
  obtain ⟨i, hi⟩ := List.getElem?_of_mem hx
  have := of_at0 (ltE hi)
  rw [hi] at this
  rw [Option.some.inj this]
  exact h i (ltE hi)
theorem ok__law_draw_digits (T : Tx K mg) : Ok P w K mg base "_law_draw_digits" 2 (spDrawD K) := by
  have O__law_digits : Ok P w K mg base "_law_digits" 1 (spDigits K) := ok__law_digits T
  refine ok_of T.a__law_draw_digits sc_law_draw_digits (fun vs H Q E h => ?_) bi__law_draw_digits fun cdv A outer s H vs Q E hr h => ?_
  · obtain ⟨c, n, rfl, _⟩ := h
    rfl
  obtain ⟨c, n, rfl, hn, hQ⟩ := h
  have big : (16777216 : Nat) ≤ sizeLine := by decide
  refine ⟨_, (pss_cons (ps_set (i := 2) sc_law_draw_digits.nd rfl (by first | exact Or.inl rfl | exact Or.inr rfl) (pe_c (E := EN) O__law_digits hr (by decide) (fun σ => passN σ) (pa_cons (pv 0) (pa_cons (pe_op op_cat (pe_lst (pa_cons pe_int pa_nil)) (pe_op op_rep (pe_lst (pa_cons pe_int pa_nil)) (pv 1))) pa_nil))))
  (pss_one (ps_ret (pe_lc (own := [("k", 3)]) (g := gName 3) rfl sc_law_draw_digits.nd (pi_range1 rfl T.f_range (pa_cons (pv 1) pa_nil)) (blkOk_by (N := ["cell", "size", "row", "k"]) (sc := defScope s_law_draw_digits) (by decide +kernel)) (fun _ _ _ _ _ => (pg_name (i := 3) sc_law_draw_digits.nd rfl (by first | exact Or.inl rfl | exact Or.inr rfl))) (fun _ _ _ _ _ => pts_nil) (fun _ _ _ _ _ => (pe_op op_modN (pe_callTy call_int1 (by rfl) T.f_int (by decide +kernel) (pa_cons (pe_ix (ixL K) (pv 2) (pe_op op_add pe_int (pv 3)) (fun _ _ => rfl)) pa_nil)) (pe_ix (ixL K) (pe_lst (pa_cons pe_int (pa_cons pe_int (pa_cons pe_int (pa_cons pe_int pa_nil))))) (pe_ix (ixL K) (pv 2) pe_int (fun _ _ => rfl)) (fun _ _ => rfl)))))))), ?_⟩
  refine ⟨_, rfl, Nat.le_trans (by show 1 ≤ 16777216; decide) big, fun a na => ?_⟩
  have s1 := same_new (o := .lst (nV [4])) na
  have h1 : RL (upd H a (.lst (nV [4]))) a (nV [4]) := upd_same ..
  refine ⟨Nat.le_trans (by show 1 ≤ 16777216; decide) big, fun b nb => ?_⟩
  have s2 := same_new (o := .lst (nV [10])) nb
  have h2 : RL (upd (upd H a (.lst (nV [4]))) b (.lst (nV [10]))) b (nV [10]) := upd_same ..
  refine ⟨_, rfl, b, _, nV [10], rfl, rfl, h2, by omega, by omega, by rw [Int.toNat_natCast]; show 1 * n ≤ _; omega, fun d nd => ?_⟩
  have er : (List.replicate ((n : Nat) : Int).toNat (nV [10])).flatten = nV (List.replicate n 10) := by
    rw [Int.toNat_natCast]
    exact rep_flat n 10
  rw [er]
  have s3 := same_new (o := .lst (nV (List.replicate n 10))) nd
  refine ⟨a, d, nV [4], nV (List.replicate n 10), rfl, rfl, s3 _ _ (s2 _ _ h1), upd_same .., by rw [nV_len, nV_len, List.length_replicate, List.length_singleton]; omega, fun e ne => ?_⟩
  have s4 := same_new (o := .lst (nV ([4] ++ List.replicate n 10))) ne
  have s04 := same2 s1 (same2 s2 (same2 s3 s4))
  refine ⟨c, e, [4] ++ List.replicate n 10, rfl, .inl (.inl (upd_same ..)), fun x hx => ?_, by rw [List.length_append, List.length_replicate, List.length_singleton]; omega, fun H1 p ds t1 np hp dl dlt => ?_⟩
  · rcases List.mem_append.mp hx with hx | hx
    · rw [List.mem_singleton.mp hx]; decide
    · rw [(List.mem_replicate.mp hx).2]; decide
  have s01 : Same H H1 := same2 s04 t1
  rw [List.length_append, List.length_replicate, List.length_singleton] at dl dlt
  have d0 := dlt 0 (by omega)
  have d0 : at0 ds 0 < 4 := d0
  have hp : RL H1 p (nV ds) := hp
  refine ⟨_, rfl, _, rfl, by omega, by omega, ?_⟩
  rw [Int.toNat_natCast]
  intro N nN
  refine lc_it walk_range (fun i H2 => ∃ rs : List Nat, H2 N = some (.lst (nV rs)) ∧ rs.length = i ∧ (∀ d ∈ rs, d ≤ 9) ∧ Same H1 H2) ⟨[], upd_same .., rfl, (fun _ h => absurd h List.not_mem_nil), same_new nN⟩ (fun _ _ _ _ => trivial) ?_ ?_
  · rintro i x H0 H2 hi ⟨rs, q1, q2, q3, s2⟩ ⟨rfl, hx⟩
    have hx : x = .int (i : Nat) := hx.trans (congrArg V.int (Int.zero_add _))
    subst hx
    have e4 : (1 : Int) + ((i : Nat) : Int) = ((1 + i : Nat) : Int) := by omega
    refine ⟨rfl, _, rfl, _, rfl, _, _, rfl, rfl, p, _, _, _, rfl, rfl, (hp.same s2).sq, by rw [e4]; exact atI_nat (nV_at0 (by omega)), .inl ⟨_, rfl, ?_⟩⟩
    refine ⟨Nat.le_trans (by show 4 ≤ 16777216; decide) big, fun M nM => ?_⟩
    have s3 := same_new (o := .lst (nV [10, 2, 3, 10])) nM
    have h3 : RL (upd H2 M (.lst (nV [10, 2, 3, 10]))) M (nV [10, 2, 3, 10]) := upd_same ..
    refine ⟨_, rfl, p, _, _, _, rfl, rfl, (hp.same (same2 s2 s3)).sq, atI_nat (j := 0) (nV_at0 (by omega)), M, nV [10, 2, 3, 10], _, _, rfl, rfl, h3.sq, atI_nat (nV_at0 d0), ?_⟩
    have mm : 0 < at0 [10, 2, 3, 10] (at0 ds 0) ∧ at0 [10, 2, 3, 10] (at0 ds 0) ≤ 10 := by
      have : ∀ j, j < 4 → 0 < at0 [10, 2, 3, 10] j ∧ at0 [10, 2, 3, 10] j ≤ 10 := by decide
      exact this _ d0
    generalize at0 [10, 2, 3, 10] (at0 ds 0) = m at mm
    obtain ⟨g, hg, gl⟩ := digit (a := ((at0 ds (1 + i) : Nat) : Int)) (n := m) mm.1
    refine ⟨_, _, rfl, rfl, by show ((m : Nat) : Int) ≠ 0; omega, ?_⟩
    dsimp only
    rw [← hg]
    refine ⟨_, s3 _ _ q1, by rw [nV_len]; omega, rs ++ [g], by rw [upd_same, nV_snoc], by rw [List.length_append, q2, List.length_singleton], fun d hd => ?_, same_put nN (same2 s2 s3)⟩
    rcases List.mem_append.mp hd with h | h
    · exact q3 d h
    · rw [List.mem_singleton.mp h]; omega
  rintro H2 ⟨rs, q1, q2, q3, s2⟩
  exact hQ H2 N rs (same2 s01 s2) (s01.free nN) q1 q2 q3
end
end K05
set_option Elab.async false
set_option linter.all false
set_option maxRecDepth 100000
set_option maxHeartbeats 4000000
namespace K05
open PySem PySem.Spec PyProof.Rows L2 Ms
def spDrawP (K : PySem.W.Frag) : Sp := fun vs H Q _ => ∃ (c : Int) (n : Nat), vs = [.int c, .int (n : Nat)] ∧ n ≤ 6 ∧ ∀ H' p m hv b (ms : List Int), Same H H' → H p = none → RL H' p [.ref m, hv, .bl b] → RL H' m (ms.map V.int) → H m = none → ms.length = n → (hv = .non ∨ ∃ w ws, hv = .ref w ∧ H w = none ∧ RL H' w (nV ws) ∧ ws.length = n ∧ ∀ x ∈ ws, 1 ≤ x) → Q (.ref p) H'
def WIDE : List Nat := [2, 3, 4, 12, 1]
def FACT : List Int := [1, -1, 7, 10 ^ (20 : Int).toNat, 0 - 10 ^ (30 : Int).toNat]
def OFFS : List Int := [0, -3, 10 ^ (9 : Int).toNat, 5]
def HEAVY : List Nat := [3, 3, 9, 999, 999]
theorem zat {zs : List Int} {j : Nat} (h : j < zs.length) : (zs.map V.int)[j]? = some (.int zs[j]) := by rw [List.getElem?_map, getE h] <;> rfl
section
variable {P : Program} {w : World} {K : PySem.W.Frag} {mg : Str → Option Value} {base : Heap}
theorem ok__law_draw_party (T : Tx K mg) : Ok P w K mg base "_law_draw_party" 2 (spDrawP K) := by
  have O__law_digits : Ok P w K mg base "_law_digits" 1 (spDigits K) := ok__law_digits T
  refine ok_of T.a__law_draw_party sc_law_draw_party (fun vs H Q E h => ?_) bi__law_draw_party fun cdv A outer s H vs Q E hr h => ?_
  · obtain ⟨c, n, rfl, _⟩ := h
    rfl
  obtain ⟨c, n, rfl, hn, hQ⟩ := h
  have big : (16777216 : Nat) ≤ sizeLine := by decide
  refine ⟨_, (pss_cons (ps_set (i := 2) sc_law_draw_party.nd rfl (by first | exact Or.inl rfl | exact Or.inr rfl) (pe_c (E := EN) O__law_digits hr (by decide) (fun σ => passN σ) (pa_cons (pv 0) (pa_cons (pe_op op_cat (pe_op op_cat (pe_lst (pa_cons pe_int (pa_cons pe_int (pa_cons pe_int (pa_cons pe_int pa_nil))))) (pe_op op_rep (pe_lst (pa_cons pe_int pa_nil)) (pv 1))) (pe_op op_rep (pe_lst (pa_cons pe_int pa_nil)) (pv 1))) pa_nil))))
  (pss_cons (ps_set (i := 3) sc_law_draw_party.nd rfl (by first | exact Or.inl rfl | exact Or.inr rfl) (pe_ix (ixL K) (pe_lst (pa_cons pe_int (pa_cons pe_int (pa_cons pe_int (pa_cons pe_int (pa_cons pe_int pa_nil)))))) (pe_ix (ixL K) (pv 2) pe_int (fun _ _ => rfl)) (fun _ _ => rfl)))
  (pss_cons (ps_set (i := 4) sc_law_draw_party.nd rfl (by first | exact Or.inl rfl | exact Or.inr rfl) (pe_ix (ixL K) (pe_lst (pa_cons pe_int (pa_cons (pe_un un_neg pe_int) (pa_cons pe_int (pa_cons (pe_op op_pow pe_int pe_int) (pa_cons (pe_op op_sub pe_int (pe_op op_pow pe_int pe_int)) pa_nil)))))) (pe_ix (ixL K) (pv 2) pe_int (fun _ _ => rfl)) (fun _ _ => rfl)))
  (pss_cons (ps_setLc (i := 5) (own := [("k", 6)]) (g := gName 6) rfl sc_law_draw_party.nd rfl rfl (sw_true rfl rfl rfl (by decide +kernel)) (pi_range1 rfl T.f_range (pa_cons (pv 1) pa_nil)) (blkOk_by (N := ["cell", "size", "row", "wide", "factor", "marks", "k", "heavy"]) (sc := defScope s_law_draw_party) (by decide +kernel)) (fun _ _ _ _ _ => (pg_name (i := 6) sc_law_draw_party.nd rfl (by first | exact Or.inl rfl | exact Or.inr rfl))) (fun _ _ _ _ _ => pts_nil) (fun _ _ _ _ _ => (pe_op op_add (pe_op op_mul (pe_op op_modN (pe_callTy call_int1 (by rfl) T.f_int (by decide +kernel) (pa_cons (pe_ix (ixL K) (pv 2) (pe_op op_add pe_int (pv 6)) (fun _ _ => rfl)) pa_nil)) (pv 3)) (pv 4)) (pe_ix (ixL K) (pe_lst (pa_cons pe_int (pa_cons (pe_un un_neg pe_int) (pa_cons (pe_op op_pow pe_int pe_int) (pa_cons pe_int pa_nil))))) (pe_ix (ixL K) (pv 2) pe_int (fun _ _ => rfl)) (fun _ _ => rfl)))))
  (pss_cons (ps_setLc (i := 7) (own := [("k", 6)]) (g := gName 6) rfl sc_law_draw_party.nd rfl rfl (sw_true rfl rfl rfl (by decide +kernel)) (pi_range1 rfl T.f_range (pa_cons (pv 1) pa_nil)) (blkOk_by (N := ["cell", "size", "row", "wide", "factor", "marks", "k", "heavy"]) (sc := defScope s_law_draw_party) (by decide +kernel)) (fun _ _ _ _ _ => (pg_name (i := 6) sc_law_draw_party.nd rfl (by first | exact Or.inl rfl | exact Or.inr rfl))) (fun _ _ _ _ _ => pts_nil) (fun _ _ _ _ _ => (pe_op op_add pe_int (pe_op op_modN (pe_callTy call_int1 (by rfl) T.f_int (by decide +kernel) (pa_cons (pe_ix (ixL K) (pv 2) (pe_op op_add (pe_op op_add pe_int (pv 1)) (pv 6)) (fun _ _ => rfl)) pa_nil)) (pe_ix (ixL K) (pe_lst (pa_cons pe_int (pa_cons pe_int (pa_cons pe_int (pa_cons pe_int (pa_cons pe_int pa_nil)))))) (pe_ix (ixL K) (pv 2) pe_int (fun _ _ => rfl)) (fun _ _ => rfl))))))
  (pss_cons (ps_if (pt_cmpR op_lt (pe_ix (ixL K) (pv 2) pe_int (fun _ _ => rfl)) pe_int (nomark _))
  (pss_one (ps_set (i := 7) sc_law_draw_party.nd rfl (by first | exact Or.inl rfl | exact Or.inr rfl) pe_non))
  pss_nil)
  (pss_one (ps_ret (pe_lst (pa_cons (pv 5) (pa_cons (pv 7) (pa_cons (pe_cmpR op_eq (pe_ix (ixL K) (pv 2) pe_int (fun _ _ => rfl)) pe_int (nomark _)) pa_nil)))))))))))), ?_⟩
  refine ⟨_, rfl, Nat.le_trans (by show 4 ≤ 16777216; decide) big, fun a na => ?_⟩
  have s1 := same_new (o := .lst (nV [5, 5, 4, 5])) na
  have h1 : RL (upd H a (.lst (nV [5, 5, 4, 5]))) a (nV [5, 5, 4, 5]) := upd_same ..
  refine ⟨Nat.le_trans (by show 1 ≤ 16777216; decide) big, fun b nb => ?_⟩
  have s2 := same_new (o := .lst (nV [12])) nb
  have h2 : RL (upd (upd H a (.lst (nV [5, 5, 4, 5]))) b (.lst (nV [12]))) b (nV [12]) := upd_same ..
  refine ⟨_, rfl, b, _, nV [12], rfl, rfl, h2, by omega, by omega, by rw [Int.toNat_natCast]; show 1 * n ≤ _; omega, fun d nd => ?_⟩
  rw [show (List.replicate ((n : Nat) : Int).toNat (nV [12])).flatten = nV (List.replicate n 12) from by rw [Int.toNat_natCast]; exact rep_flat n 12]
  have s3 := same_new (o := .lst (nV (List.replicate n 12))) nd
  refine ⟨a, d, nV [5, 5, 4, 5], nV (List.replicate n 12), rfl, rfl, s3 _ _ (s2 _ _ h1), upd_same .., by rw [nV_len, nV_len, List.length_replicate]; show 4 + n ≤ _; omega, fun e ne => ?_⟩
  have s4 := same_new (o := .lst (nV [5, 5, 4, 5] ++ nV (List.replicate n 12))) ne
  have h4 := upd_same (H := upd (upd (upd H a (.lst (nV [5, 5, 4, 5]))) b (.lst (nV [12]))) d (.lst (nV (List.replicate n 12)))) (a := e) (o := .lst (nV [5, 5, 4, 5] ++ nV (List.replicate n 12)))
  have s04 := same2 s1 (same2 s2 (same2 s3 s4))
  refine ⟨Nat.le_trans (by show 1 ≤ 16777216; decide) big, fun b' nb' => ?_⟩
  have s5 := same_new (o := .lst (nV [999])) nb'
  refine ⟨_, rfl, b', _, nV [999], rfl, rfl, upd_same .., by omega, by omega, by rw [Int.toNat_natCast]; show 1 * n ≤ _; omega, fun d' nd' => ?_⟩
  rw [show (List.replicate ((n : Nat) : Int).toNat (nV [999])).flatten = nV (List.replicate n 999) from by rw [Int.toNat_natCast]; exact rep_flat n 999]
  have s6 := same_new (o := .lst (nV (List.replicate n 999))) nd'
  refine ⟨e, d', _, nV (List.replicate n 999), rfl, rfl, s6 _ _ (s5 _ _ h4), upd_same .., by rw [List.length_append, nV_len, nV_len, nV_len, List.length_replicate, List.length_replicate]; show 4 + n + n ≤ _; omega, fun f nf => ?_⟩
  have eSS : nV [5, 5, 4, 5] ++ nV (List.replicate n 12) ++ nV (List.replicate n 999) = nV ([5, 5, 4, 5] ++ List.replicate n 12 ++ List.replicate n 999) := by
    unfold nV
    rw [List.map_append, List.map_append]
  rw [eSS]
  have s7 := same_new (o := .lst (nV ([5, 5, 4, 5] ++ List.replicate n 12 ++ List.replicate n 999))) nf
  have s07 := same2 s04 (same2 s5 (same2 s6 s7))
  refine ⟨c, f, _, rfl, .inl (.inl (upd_same ..)), fun x hx => ?_, by rw [List.length_append, List.length_append, List.length_replicate, List.length_replicate]; show 4 + n + n ≤ _; omega, fun H1 p ds t1 np hp dl dlt => ?_⟩
  · rcases List.mem_append.mp hx with hx | hx
    · rcases List.mem_append.mp hx with hx | hx
      · have : ∀ x ∈ [5, 5, 4, 5], 0 < x ∧ x < 1073741824 := by decide
        exact this x hx
      · rw [(List.mem_replicate.mp hx).2]; decide
    · rw [(List.mem_replicate.mp hx).2]; decide
  have s01 : Same H H1 := same2 s07 t1
  rw [List.length_append, List.length_append, List.length_replicate, List.length_replicate] at dl dlt
  have dl : ds.length = 4 + n + n := dl
  have dlt : ∀ i, i < 4 + n + n → at0 ds i < at0 ([5, 5, 4, 5] ++ List.replicate n 12 ++ List.replicate n 999) i := dlt
  have d0 : at0 ds 0 < 5 := dlt 0 (by omega)
  have d1 : at0 ds 1 < 5 := dlt 1 (by omega)
  have d2 : at0 ds 2 < 4 := dlt 2 (by omega)
  have d3 : at0 ds 3 < 5 := dlt 3 (by omega)
  clear dlt
  have hp : RL H1 p (nV ds) := hp
  refine ⟨Nat.le_trans (by show 5 ≤ 16777216; decide) big, fun M nM => ?_⟩
  have u1 := same_new (o := .lst (nV WIDE)) nM
  have g1 : RL (upd H1 M (.lst (nV WIDE))) M (nV WIDE) := upd_same ..
  have dW : at0 ds 0 < WIDE.length := d0
  refine ⟨_, rfl, p, _, _, _, rfl, rfl, (hp.same u1).sq, atI_nat (j := 0) (nV_at0 (by omega)), M, _, _, _, rfl, rfl, g1.sq, atI_nat (nV_at0 dW), ?_⟩
  have wd : 0 < at0 WIDE (at0 ds 0) ∧ at0 WIDE (at0 ds 0) ≤ 12 := by
    have : ∀ j, j < 5 → 0 < at0 WIDE j ∧ at0 WIDE j ≤ 12 := by decide
    exact this _ d0
  generalize at0 WIDE (at0 ds 0) = wide at wd
  refine ⟨_, rfl, _, _, rfl, rfl, ⟨by decide, by decide, by decide⟩, _, _, rfl, rfl, ⟨by decide, by decide, by decide⟩, _, _, rfl, rfl, Nat.le_trans (by show 5 ≤ 16777216; decide) big, fun N nN => ?_⟩
  have u2 := same_new (o := .lst (FACT.map V.int)) nN
  have g2 : RL (upd (upd H1 M (.lst (nV WIDE))) N (.lst (FACT.map V.int))) N (FACT.map V.int) := upd_same ..
  have s12 := same2 u1 u2
  have dF : at0 ds 1 < FACT.length := d1
  refine ⟨_, rfl, p, _, _, _, rfl, rfl, (hp.same s12).sq, atI_nat (j := 1) (nV_at0 (by omega)), N, _, _, _, rfl, rfl, g2.sq, atI_nat (zat dF), ?_⟩
  generalize FACT[at0 ds 1] = fac
  have s02 := same2 s01 s12
  have hp2 := hp.same s12
  have hp2 : RL (upd (upd H1 M (.lst (nV WIDE))) N (.lst (FACT.map V.int))) p (nV ds) := hp2
  refine ⟨_, rfl, _, rfl, by omega, by omega, ?_⟩
  rw [Int.toNat_natCast]
  intro R nR
  refine lc_it walk_range (fun i H3 => ∃ ms : List Int, H3 R = some (.lst (ms.map V.int)) ∧ ms.length = i ∧ Same (upd (upd H1 M (.lst (nV WIDE))) N (.lst (FACT.map V.int))) H3) ⟨[], upd_same .., rfl, same_new nR⟩ (fun _ _ _ _ => trivial) ?_ ?_
  · rintro i x H0 H3 hi ⟨ms, q1, q2, s3'⟩ ⟨rfl, hx⟩
    have hx : x = .int (i : Nat) := hx.trans (congrArg V.int (Int.zero_add _))
    subst hx
    have e4 : (4 : Int) + ((i : Nat) : Int) = ((4 + i : Nat) : Int) := by omega
    refine ⟨rfl, _, rfl, _, rfl, _, _, rfl, rfl, p, _, _, _, rfl, rfl, (hp2.same s3').sq, by rw [e4]; exact atI_nat (nV_at0 (by omega)), .inl ⟨_, rfl, ?_⟩⟩
    obtain ⟨g, hg, gl⟩ := digit (a := ((at0 ds (4 + i) : Nat) : Int)) (n := wide) wd.1
    refine ⟨_, rfl, _, _, rfl, rfl, by show ((wide : Nat) : Int) ≠ 0; omega, ?_⟩
    dsimp only
    rw [← hg]
    refine ⟨_, rfl, _, _, rfl, rfl, .inl ⟨by omega, by omega⟩, ?_⟩
    refine ⟨_, rfl, _, _, rfl, rfl, ⟨by decide, by decide, by decide⟩, Nat.le_trans (by show 4 ≤ 16777216; decide) big, fun Z nZ => ?_⟩
    have v1 := same_new (o := .lst (OFFS.map V.int)) nZ
    have k1 : RL (upd H3 Z (.lst (OFFS.map V.int))) Z (OFFS.map V.int) := upd_same ..
    have dO : at0 ds 2 < OFFS.length := d2
    refine ⟨_, rfl, p, _, _, _, rfl, rfl, (hp2.same (same2 s3' v1)).sq, atI_nat (j := 2) (nV_at0 (by omega)), Z, _, _, _, rfl, rfl, k1.sq, atI_nat (zat dO), _, _, rfl, rfl, ?_⟩
    refine ⟨_, v1 _ _ q1, by rw [List.length_map, q2]; omega, ms ++ [((g : Nat) : Int) * fac + OFFS[at0 ds 2]], by rw [upd_same, List.map_append] <;> rfl, by rw [List.length_append, q2, List.length_singleton], same_put nR (same2 s3' v1)⟩
  rintro H3 ⟨ms, q1, q2, s3'⟩
  have s03 := same2 s02 s3'
  have hp3 := hp2.same s3'
  refine ⟨_, rfl, _, rfl, by omega, by omega, ?_⟩
  rw [Int.toNat_natCast]
  intro R2 nR2
  refine lc_it walk_range (fun i H4 => ∃ ws : List Nat, H4 R2 = some (.lst (nV ws)) ∧ ws.length = i ∧ (∀ x ∈ ws, 1 ≤ x) ∧ Same H3 H4) ⟨[], upd_same .., rfl, (fun _ h => absurd h List.not_mem_nil), same_new nR2⟩ (fun _ _ _ _ => trivial) ?_ ?_
  · rintro i x H0 H4 hi ⟨ws, r1, r2, r3, s4'⟩ ⟨rfl, hx⟩
    have hx : x = .int (i : Nat) := hx.trans (congrArg V.int (Int.zero_add _))
    subst hx
    have e4 : (4 : Int) + ((n : Nat) : Int) + ((i : Nat) : Int) = ((4 + n + i : Nat) : Int) := by omega
    refine ⟨rfl, _, rfl, _, rfl, _, _, rfl, rfl, _, rfl, _, _, rfl, rfl, p, _, _, _, rfl, rfl, (hp3.same s4').sq, by rw [e4]; exact atI_nat (nV_at0 (by omega)), .inl ⟨_, rfl, ?_⟩⟩
    refine ⟨Nat.le_trans (by show 5 ≤ 16777216; decide) big, fun Z nZ => ?_⟩
    have v1 := same_new (o := .lst (nV HEAVY)) nZ
    have k1 : RL (upd H4 Z (.lst (nV HEAVY))) Z (nV HEAVY) := upd_same ..
    have dH : at0 ds 3 < HEAVY.length := d3
    refine ⟨_, rfl, p, _, _, _, rfl, rfl, (hp3.same (same2 s4' v1)).sq, atI_nat (j := 3) (nV_at0 (by omega)), Z, _, _, _, rfl, rfl, k1.sq, atI_nat (nV_at0 dH), ?_⟩
    have hh : 0 < at0 HEAVY (at0 ds 3) := by
      have : ∀ j, j < 5 → 0 < at0 HEAVY j := by decide
      exact this _ d3
    generalize at0 HEAVY (at0 ds 3) = hv at hh
    obtain ⟨g, hg, gl⟩ := digit (a := ((at0 ds (4 + n + i) : Nat) : Int)) (n := hv) hh
    refine ⟨_, _, rfl, rfl, by show ((hv : Nat) : Int) ≠ 0; omega, ?_⟩
    dsimp only
    rw [← hg]
    refine ⟨_, _, rfl, rfl, _, v1 _ _ r1, by rw [nV_len, r2]; omega, ws ++ [1 + g], ?_, by rw [List.length_append, r2, List.length_singleton], fun x hx => ?_, same_put nR2 (same2 s4' v1)⟩
    · rw [upd_same, ← nV_snoc]
      rw [show ((1 + g : Nat) : Int) = 1 + ((g : Nat) : Int) from by omega]
    · rcases List.mem_append.mp hx with h | h
      · exact r3 x h
      · rw [List.mem_singleton.mp h]; omega
  rintro H4 ⟨ws, r1, r2, r3, s4'⟩
  have s04' := same2 s03 s4'
  have hp4 := hp3.same s4'
  unfold tNext
  dsimp only
  refine seq_cut fun D1 f1 => ?_
  have rest : ∀ hv : V, (hv = .non ∨ hv = .ref R2) → D1.nx [some (.int c), some (.int (n : Nat)), some (.ref p), some (.int (wide : Nat)), some (.int fac), some (.ref R), none, some hv] H4 := by
    intro hv ho
    rw [f1]
    refine ⟨_, rfl, _, rfl, _, rfl, p, _, _, _, rfl, rfl, hp4.sq, atI_nat (j := 3) (nV_at0 (by omega)), rfl, Nat.le_trans (by show 3 ≤ 16777216; decide) big, fun y ny => ?_⟩
    have s5' := same_new (o := .lst [.ref R, hv, .bl (decide (V.int (at0 ds 3 : Nat) = V.int 1))]) ny
    refine hQ _ y R hv _ ms (same2 s04' s5') (s04'.free ny) (upd_same ..) (s5' _ _ (s4' _ _ q1)) (s02.free nR) q2 ?_
    rcases ho with rfl | rfl
    · exact .inl rfl
    · exact .inr ⟨R2, ws, rfl, s03.free nR2, s5' _ _ r1, r2, r3⟩
  refine ⟨_, rfl, p, _, _, _, rfl, rfl, hp4.sq, atI_nat (j := 3) (nV_at0 (by omega)), _, _, rfl, rfl, _, rfl, ?_⟩
  by_cases c3 : ((at0 ds 3 : Nat) : Int) < 2
  · rw [show decide (((at0 ds 3 : Nat) : Int) < 2) = true from decide_eq_true c3]
    exact iteT (rest .non (.inl rfl))
  · rw [show decide (((at0 ds 3 : Nat) : Int) < 2) = false from decide_eq_false c3]
    exact iteF (rest (.ref R2) (.inr rfl))
end
end K05
set_option Elab.async false
set_option linter.all false
set_option maxRecDepth 100000
set_option maxHeartbeats 4000000
namespace K05
open PySem PySem.Spec PyProof.Rows L2 Ms
def spWorld (K : PySem.W.Frag) : Sp := fun vs H Q _ => ∃ (a : Addr) (ns : List Int), vs = [.ref a] ∧ SqL K H a (ns.map V.int) ∧ ∀ H' p W, Same H H' → H p = none → WAt H' p W → W.Ok 30 → Q (.ref p) H'
def FOk (n : Nat) (fs : List (Str × List Nat)) : Prop := (fs.map (·.1)).Nodup ∧ ∀ f ∈ fs, Name f.1 ∧ f.2.length = n ∧ ∀ d ∈ f.2, d ≤ 9
def POk (n : Nat) (ps : List (Str × List Int × List Nat)) : Prop := (ps.map (·.1)).Nodup ∧ ∀ p ∈ ps, Name p.1 ∧ p.2.1.length = n ∧ p.2.2.length = n ∧ ∀ d ∈ p.2.2, 1 ≤ d
theorem FOk.snoc {n : Nat} {fs : List (Str × List Nat)} (h : FOk n fs) {f : Str × List Nat} (hn : ¬ f.1 ∈ fs.map (·.1)) (h1 : Name f.1) (h2 : f.2.length = n) (h3 : ∀ d ∈ f.2, d ≤ 9) : FOk n (fs ++ [f]) := by
  refine ⟨by rw [List.map_append]; exact nodup_snoc h.1 hn, fun g hg => ?_⟩
  rcases List.mem_append.mp hg with e | e
  · exact h.2 g e
  · rw [List.mem_singleton.mp e]; exact ⟨h1, h2, h3⟩
theorem POk.snoc {n : Nat} {fs : List (Str × List Int × List Nat)} (h : POk n fs) {f : Str × List Int × List Nat} (hn : ¬ f.1 ∈ fs.map (·.1)) (h1 : Name f.1) (h2 : f.2.1.length = n) (h3 : f.2.2.length = n) (h4 : ∀ d ∈ f.2.2, 1 ≤ d) : POk n (fs ++ [f]) := by
  refine ⟨by rw [List.map_append]; exact nodup_snoc h.1 hn, fun g hg => ?_⟩
  rcases List.mem_append.mp hg with e | e
  · exact h.2 g e
  · rw [List.mem_singleton.mp e]; exact ⟨h1, h2, h3, h4⟩
def SSW : List Nat := [6, 3, 3, 4] ++ List.replicate 6 4
def GAPS : List Nat := [0, 0, 1, 3]
def SIZES : List Nat := [3, 4, 2, 5, 6, 1]
section
variable {P : Program} {w : World} {K : PySem.W.Frag} {mg : Str → Option Value} {base : Heap}
theorem ok__law_world (T : Tx K mg) : Ok P w K mg base "_law_world" 3 (spWorld K) := by
  have O__law_digits : Ok P w K mg base "_law_digits" 1 (spDigits K) := ok__law_digits T
  have O__law_cell : Ok P w K mg base "_law_cell" 1 (spCellL K) := ok__law_cell T
  have O__law_name : Ok P w K mg base "_law_name" 2 spLName := ok__law_name T
  have O__law_draw_digits : Ok P w K mg base "_law_draw_digits" 2 (spDrawD K) := ok__law_draw_digits T
  have O__law_draw_party : Ok P w K mg base "_law_draw_party" 2 (spDrawP K) := ok__law_draw_party T
  refine ok_of T.a__law_world sc_law_world (fun vs H Q E h => ?_) bi__law_world fun cdv A outer s H vs Q E hr h => ?_
  · obtain ⟨a, ns, rfl, _⟩ := h
    rfl
  obtain ⟨a, ns, rfl, ha, hQ⟩ := h
  have big : (16777216 : Nat) ≤ sizeLine := by decide
  refine ⟨_, (pss_cons (ps_set (i := 1) sc_law_world.nd rfl (by first | exact Or.inl rfl | exact Or.inr rfl) (pe_c (E := EN) O__law_digits hr (by decide) (fun σ => passN σ) (pa_cons (pe_c (E := EN) O__law_cell hr (by decide) (fun σ => passN σ) (pa_cons (pv 0) (pa_cons pe_int pa_nil))) (pa_cons (pe_op op_cat (pe_lst (pa_cons pe_int (pa_cons pe_int (pa_cons pe_int (pa_cons pe_int pa_nil))))) (pe_op op_rep (pe_lst (pa_cons pe_int pa_nil)) pe_int)) pa_nil))))
  (pss_cons (ps_set (i := 2) sc_law_world.nd rfl (by first | exact Or.inl rfl | exact Or.inr rfl) (pe_lst pa_nil))
  (pss_cons (ps_set (i := 3) sc_law_world.nd rfl (by first | exact Or.inl rfl | exact Or.inr rfl) (pe_ix (ixL K) (pe_lst (pa_cons pe_int (pa_cons pe_int (pa_cons pe_int (pa_cons pe_int pa_nil))))) (pe_ix (ixL K) (pv 1) pe_int (fun _ _ => rfl)) (fun _ _ => rfl)))
  (pss_cons (ps_for PassesOwn.never rfl (pi_range1 rfl T.f_range (pa_cons (pe_ix (ixL K) (pe_lst (pa_cons pe_int (pa_cons pe_int (pa_cons pe_int (pa_cons pe_int (pa_cons pe_int (pa_cons pe_int pa_nil))))))) (pe_ix (ixL K) (pv 1) pe_int (fun _ _ => rfl)) (fun _ _ => rfl)) pa_nil)) (pg_name (i := 4) sc_law_world.nd rfl (by first | exact Or.inl rfl | exact Or.inr rfl))
  (pss_cons (ps_expr (pe_bm PySem.F.plainAttrs_list PySem.F.slot_list_append PySem.F.type_list_append mt_append (pv 2) (pa_cons (pv 3) pa_nil)))
    (pss_one (ps_set (i := 3) sc_law_world.nd rfl (by first | exact Or.inl rfl | exact Or.inr rfl) (pe_op op_add (pe_op op_add (pv 3) pe_int) (pe_ix (ixL K) (pe_lst (pa_cons pe_int (pa_cons pe_int (pa_cons pe_int (pa_cons pe_int pa_nil))))) (pe_ix (ixL K) (pv 1) (pe_op op_add pe_int (pv 4)) (fun _ _ => rfl)) (fun _ _ => rfl)))))))
  (pss_cons (ps_set (i := 5) sc_law_world.nd rfl (by first | exact Or.inl rfl | exact Or.inr rfl) (pe_lst pa_nil))
  (pss_cons (ps_set (i := 6) sc_law_world.nd rfl (by first | exact Or.inl rfl | exact Or.inr rfl) (pe_lst pa_nil))
  (pss_cons (ps_for PassesOwn.never rfl (pi_range1 rfl T.f_range (pa_cons (pe_op op_add pe_int (pe_ix (ixL K) (pv 1) pe_int (fun _ _ => rfl))) pa_nil)) (pg_name (i := 4) sc_law_world.nd rfl (by first | exact Or.inl rfl | exact Or.inr rfl))
  (pss_cons (ps_set (i := 7) sc_law_world.nd rfl (by first | exact Or.inl rfl | exact Or.inr rfl) (pe_c (E := EN) O__law_name hr (by decide) (fun σ => passN σ) (pa_cons (pe_c (E := EN) O__law_cell hr (by decide) (fun σ => passN σ) (pa_cons (pv 0) (pa_cons (pe_op op_add pe_int (pv 4)) pa_nil))) pa_nil)))
    (pss_one (ps_if (pt_cmpR (notInK K) (pv 7) (pe_lc (own := [("fact", 8)]) (g := gName 8) rfl sc_law_world.nd (pi_list (pv 5)) (blkOk_by (N := ["script", "shape", "deals", "deal", "k", "facts", "callers", "name", "fact", "row", "party"]) (sc := defScope s_law_world) (by decide +kernel)) (fun _ _ _ _ _ => (pg_name (i := 8) sc_law_world.nd rfl (by first | exact Or.inl rfl | exact Or.inr rfl))) (fun _ _ _ _ _ => pts_nil) (fun _ _ _ _ _ => (pe_ix (ixL K) (pv 8) pe_int (fun _ _ => rfl)))) (by rfl))
    (pss_one (ps_expr (pe_bm PySem.F.plainAttrs_list PySem.F.slot_list_append PySem.F.type_list_append mt_append (pv 5) (pa_cons (pe_lst (pa_cons (pv 7) (pa_cons (pe_c (E := EN) O__law_draw_digits hr (by decide) (fun σ => passN σ) (pa_cons (pe_c (E := EN) O__law_cell hr (by decide) (fun σ => passN σ) (pa_cons (pv 0) (pa_cons (pe_op op_add pe_int (pv 4)) pa_nil))) (pa_cons (pe_callB (lenK K) (by rfl) T.f_len boot_len (pa_cons (pv 2) pa_nil)) pa_nil))) pa_nil))) pa_nil))))
    pss_nil))))
  (pss_cons (ps_for PassesOwn.never rfl (pi_range1 rfl T.f_range (pa_cons (pe_op op_add pe_int (pe_ix (ixL K) (pv 1) pe_int (fun _ _ => rfl))) pa_nil)) (pg_name (i := 4) sc_law_world.nd rfl (by first | exact Or.inl rfl | exact Or.inr rfl))
  (pss_cons (ps_set (i := 7) sc_law_world.nd rfl (by first | exact Or.inl rfl | exact Or.inr rfl) (pe_c (E := EN) O__law_name hr (by decide) (fun σ => passN σ) (pa_cons (pe_c (E := EN) O__law_cell hr (by decide) (fun σ => passN σ) (pa_cons (pv 0) (pa_cons (pe_op op_add pe_int (pv 4)) pa_nil))) pa_nil)))
    (pss_cons (ps_set (i := 9) sc_law_world.nd rfl (by first | exact Or.inl rfl | exact Or.inr rfl) (pe_c (E := EN) O__law_draw_party hr (by decide) (fun σ => passN σ) (pa_cons (pe_c (E := EN) O__law_cell hr (by decide) (fun σ => passN σ) (pa_cons (pv 0) (pa_cons (pe_op op_add pe_int (pv 4)) pa_nil))) (pa_cons (pe_callB (lenK K) (by rfl) T.f_len boot_len (pa_cons (pv 2) pa_nil)) pa_nil))))
    (pss_cons (ps_if (pt_cmpR op_isN (pe_ix (ixL K) (pv 9) pe_int (fun _ _ => rfl)) pe_non (nomark _))
    (pss_one (ps_set (i := 9) sc_law_world.nd rfl (by first | exact Or.inl rfl | exact Or.inr rfl) (pe_lst (pa_cons (pe_ix (ixL K) (pv 9) pe_int (fun _ _ => rfl)) (pa_cons (pe_lc (own := [("deal", 3)]) (g := gName 3) rfl sc_law_world.nd (pi_list (pv 2)) (blkOk_by (N := ["script", "shape", "deals", "deal", "k", "facts", "callers", "name", "fact", "row", "party"]) (sc := defScope s_law_world) (by decide +kernel)) (fun _ _ _ _ _ => (pg_name (i := 3) sc_law_world.nd rfl (by first | exact Or.inl rfl | exact Or.inr rfl))) (fun _ _ _ _ _ => pts_nil) (fun _ _ _ _ _ => pe_int)) pa_nil)))))
    pss_nil)
    (pss_one (ps_if (pt_cmpR (notInK K) (pv 7) (pe_lc (own := [("party", 10)]) (g := gName 10) rfl sc_law_world.nd (pi_list (pv 6)) (blkOk_by (N := ["script", "shape", "deals", "deal", "k", "facts", "callers", "name", "fact", "row", "party"]) (sc := defScope s_law_world) (by decide +kernel)) (fun _ _ _ _ _ => (pg_name (i := 10) sc_law_world.nd rfl (by first | exact Or.inl rfl | exact Or.inr rfl))) (fun _ _ _ _ _ => pts_nil) (fun _ _ _ _ _ => (pe_ix (ixL K) (pv 10) pe_int (fun _ _ => rfl)))) (by rfl))
    (pss_one (ps_expr (pe_bm PySem.F.plainAttrs_list PySem.F.slot_list_append PySem.F.type_list_append mt_append (pv 6) (pa_cons (pe_lst (pa_cons (pv 7) (pa_cons (pe_ix (ixL K) (pv 9) pe_int (fun _ _ => rfl)) (pa_cons (pe_ix (ixL K) (pv 9) pe_int (fun _ _ => rfl)) pa_nil)))) pa_nil))))
    pss_nil))))))
  (pss_one (ps_ret (pe_lst (pa_cons (pv 2) (pa_cons (pv 5) (pa_cons (pv 6) pa_nil)))))))))))))), ?_⟩
  refine ⟨_, rfl, a, ns, 0, rfl, ha, fun z0 => ?_⟩
  refine ⟨Nat.le_trans (by show 4 ≤ 16777216; decide) big, fun a1 na => ?_⟩
  have s1 := same_new (o := .lst (nV [6, 3, 3, 4])) na
  have h1 : RL (upd H a1 (.lst (nV [6, 3, 3, 4]))) a1 (nV [6, 3, 3, 4]) := upd_same ..
  refine ⟨Nat.le_trans (by show 1 ≤ 16777216; decide) big, fun b nb => ?_⟩
  have s2 := same_new (o := .lst (nV [4])) nb
  have h2 : RL (upd (upd H a1 (.lst (nV [6, 3, 3, 4]))) b (.lst (nV [4]))) b (nV [4]) := upd_same ..
  refine ⟨b, 6, nV [4], rfl, rfl, h2, by decide, by decide, by show 1 * 6 ≤ _; omega, fun d nd => ?_⟩
  have s3 := same_new (o := .lst (nV (List.replicate 6 4))) nd
  refine ⟨a1, d, nV [6, 3, 3, 4], nV (List.replicate 6 4), rfl, rfl, s3 _ _ (s2 _ _ h1), upd_same .., by show 10 ≤ _; omega, fun e ne => ?_⟩
  have s4 := same_new (o := .lst (nV SSW)) ne
  have s04 := same2 s1 (same2 s2 (same2 s3 s4))
  refine ⟨z0, e, SSW, rfl, .inl (.inl (upd_same ..)), by decide, by show 10 ≤ _; decide, fun H1 p sh t1 np hp dl dlt => ?_⟩
  have s01 : Same H H1 := same2 s04 t1
  have dl : sh.length = 10 := dl
  have d0 : at0 sh 0 < 6 := dlt 0 (by show 0 < 10; decide)
  have d1 : at0 sh 1 < 3 := dlt 1 (by show 1 < 10; decide)
  have d2 : at0 sh 2 < 3 := dlt 2 (by show 2 < 10; decide)
  have d3 : at0 sh 3 < 4 := dlt 3 (by show 3 < 10; decide)
  have dr : ∀ j, 4 ≤ j → j < 10 → at0 sh j < 4 := fun j h4 h11 => by
    have := dlt j h11
    have e : at0 SSW j = 4 := by
      have : ∀ j, j < 10 → 4 ≤ j → at0 SSW j = 4 := by decide
      exact this j h11 h4
    omega
  have hp : RL H1 p (nV sh) := hp
  refine ⟨Nat.zero_le _, fun D nD => ?_⟩
  have t2 := same_new (o := .lst []) nD
  have hD : RL (upd H1 D (.lst [])) D [] := upd_same ..
  generalize upd H1 D (.lst []) = H2 at t2 hD
  have s02 := same2 s01 t2
  have nD0 : H D = none := s01.free nD
  refine ⟨Nat.le_trans (by show 4 ≤ 16777216; decide) big, fun M nM => ?_⟩
  have u1 := same_new (o := .lst (nV GAPS)) nM
  have g1 : RL (upd H2 M (.lst (nV GAPS))) M (nV GAPS) := upd_same ..
  refine ⟨_, rfl, p, _, _, _, rfl, rfl, (hp.same (same2 t2 u1)).sq, atI_nat (j := 3) (nV_at0 (by omega)), M, _, _, _, rfl, rfl, g1.sq, atI_nat (nV_at0 (l := GAPS) d3), ?_⟩
  have gap : ∀ j, j < 4 → at0 GAPS j ≤ 3 := by decide
  have gd := gap _ d3
  generalize at0 GAPS (at0 sh 3) = dd at gd
  refine ⟨Nat.le_trans (by show 6 ≤ 16777216; decide) big, fun M2 nM2 => ?_⟩
  have u2 := same_new (o := .lst (nV SIZES)) nM2
  have g2 : RL (upd (upd H2 M (.lst (nV GAPS))) M2 (.lst (nV SIZES))) M2 (nV SIZES) := upd_same ..
  have u12 := same2 u1 u2
  refine ⟨_, rfl, p, _, _, _, rfl, rfl, (hp.same (same2 t2 u12)).sq, atI_nat (j := 0) (nV_at0 (by omega)), M2, _, _, _, rfl, rfl, g2.sq, atI_nat (nV_at0 (l := SIZES) d0), ?_⟩
  have sz : 1 ≤ at0 SIZES (at0 sh 0) ∧ at0 SIZES (at0 sh 0) ≤ 6 := by
    have : ∀ j, j < 6 → 1 ≤ at0 SIZES j ∧ at0 SIZES j ≤ 6 := by decide
    exact this _ d0
  generalize at0 SIZES (at0 sh 0) = n at sz
  have hD2 : RL (upd (upd H2 M (.lst (nV GAPS))) M2 (.lst (nV SIZES))) D (nV []) := u12 _ _ hD
  have hp2 := hp.same (same2 t2 u12)
  have s03 := same2 s02 u12
  refine ⟨_, rfl, by omega, by omega, ?_⟩
  rw [Int.toNat_natCast]
  refine for_it walk_range (fun i σ H4 => ∃ (dv : Nat) (m4 : Option V) (ds : List Nat), σ = [some (.ref a), some (.ref p), some (.ref D), some (.int (dv : Nat)), m4, none, none, none, none, none, none] ∧ RL H4 D (nV ds) ∧ ds.length = i ∧ ds.Pairwise (· < ·) ∧ (∀ x ∈ ds, x < dv) ∧ dv ≤ 3 + 4 * i ∧ Same H H4 ∧ RL H4 p (nV sh)) ?_ (fun _ _ _ _ _ => trivial) ?_ ?_
  · exact ⟨dd, none, [], rfl, hD2, rfl, .nil, fun _ h => absurd h List.not_mem_nil, by omega, s03, hp2⟩
  · rintro i x σ H5 H4 hi ⟨dv, m4, ds, rfl, q1, q2, q3, q4, q5, q6, q7⟩ ⟨rfl, hx⟩
    have hx : x = .int (i : Nat) := hx.trans (congrArg V.int (Int.zero_add _))
    subst hx
    have e4 : (4 : Int) + ((i : Nat) : Int) = ((4 + i : Nat) : Int) := by omega
    have pD : p ≠ D := fun z => by
      have q1 : H4 D = some (.lst (nV ds)) := q1
      have nD1 : H1 D = none := nD
      rw [← z] at nD1
      exact absurd hp (by rw [RL, nD1]; exact fun e => nomatch e)
    refine ⟨_, rfl, .inl ⟨rfl, _, .inl (.inl q1)⟩, _, rfl, D, _, _, rfl, rfl, q1, by rw [nV_len]; omega, ?_⟩
    have k1 : RL (upd H4 D (.lst (nV ds ++ [V.int (dv : Nat)]))) D (nV (ds ++ [dv])) := by rw [RL, upd_same, nV_snoc]
    have k2 : RL (upd H4 D (.lst (nV ds ++ [V.int (dv : Nat)]))) p (nV sh) := by rw [RL, upd_ne pD]; exact q7
    have k3 : Same H (upd H4 D (.lst (nV ds ++ [V.int (dv : Nat)]))) := same_put nD0 q6
    generalize upd H4 D (.lst (nV ds ++ [V.int (dv : Nat)])) = H6 at k1 k2 k3
    refine ⟨_, rfl, _, _, rfl, rfl, Nat.le_trans (by show 4 ≤ 16777216; decide) big, fun M nM => ?_⟩
    have u1 := same_new (o := .lst (nV GAPS)) nM
    have g1 : RL (upd H6 M (.lst (nV GAPS))) M (nV GAPS) := upd_same ..
    have di := dr (4 + i) (by omega) (by omega)
    refine ⟨_, rfl, _, rfl, _, _, rfl, rfl, p, _, _, _, rfl, rfl, (k2.same u1).sq, by rw [e4]; exact atI_nat (nV_at0 (by omega)), M, _, _, _, rfl, rfl, g1.sq, atI_nat (nV_at0 (l := GAPS) di), _, _, rfl, rfl, ?_⟩
    have gi := gap _ di
    generalize at0 GAPS (at0 sh (4 + i)) = gg at gi
    refine ⟨dv + 1 + gg, some (.int (i : Nat)), ds ++ [dv], ?_, k1.same u1, by rw [List.length_append, q2, List.length_singleton], ?_, fun x hx => ?_, by omega, same2 k3 u1, k2.same u1⟩
    · rw [show ((dv + 1 + gg : Nat) : Int) = ((dv : Nat) : Int) + 1 + ((gg : Nat) : Int) from by omega] <;> rfl
    · rw [List.pairwise_append]
      exact ⟨q3, List.pairwise_singleton .., fun a ha b hb => by rw [List.mem_singleton.mp hb]; exact q4 a ha⟩
    · rcases List.mem_append.mp hx with h | h
      · have := q4 x h; omega
      · rw [List.mem_singleton.mp h]; omega
  rintro σ H4 ⟨dv, m4, ds, rfl, hD4, dsl, dsw, dsb, dvb, s4', hp4⟩
  refine ⟨Nat.zero_le _, fun F nF => ?_⟩
  have v1 := same_new (o := .lst []) nF
  have hF : RL (upd H4 F (.lst [])) F [] := upd_same ..
  generalize upd H4 F (.lst []) = H5 at v1 hF
  refine ⟨Nat.zero_le _, fun C nC => ?_⟩
  have v2 := same_new (o := .lst []) nC
  have hC : RL (upd H5 C (.lst [])) C [] := upd_same ..
  have CF : C ≠ F := fun z => by
    have hF : H5 F = some (.lst []) := hF
    rw [← z, nC] at hF; cases hF
  have nF0 : H F = none := s4'.free nF
  have nC0 : H C = none := (same2 s4' v1).free nC
  have nC4 : H4 C = none := v1.free nC
  have hF6 := v2 _ _ hF
  have v12 := same2 v1 v2
  generalize upd H5 C (.lst []) = H6 at v2 hC hF6 v12
  have hp6 := hp4.same v12
  have hD6 := hD4.same v12
  refine ⟨_, rfl, p, _, _, _, rfl, rfl, hp6.sq, atI_nat (j := 1) (nV_at0 (by omega)), _, _, rfl, rfl, _, rfl, by omega, by omega, ?_⟩
  rw [show (1 + ((at0 sh 1 : Nat) : Int)).toNat = 1 + at0 sh 1 from by omega]
  -- facts
  have pF : PN F H6 p (nV sh) := pn_out hp4 nF v12
  have DF : PN F H6 D (nV ds) := pn_out hD4 nF v12
  have pC : p ≠ C := (pn_out hp4 nC4 v12).1
  have DC : D ≠ C := (pn_out hD4 nC4 v12).1
  have d6 : ds.length ≤ 6 := by omega
  refine for_it walk_range (fun i σ H7 => ∃ (m4 m7 : Option V) (rs : List Addr) (fs : List (Str × List Nat)), σ = [some (.ref a), some (.ref p), some (.ref D), some (.int (dv : Nat)), m4, some (.ref F), some (.ref C), m7, none, none, none] ∧ RL H7 F (rs.map V.ref) ∧ Paired (FX (fun a xs => a ≠ C ∧ PN F H7 a xs)) rs fs ∧ FOk ds.length fs ∧ fs.length ≤ i ∧ PN F H7 p (nV sh) ∧ PN F H7 D (nV ds) ∧ PN F H7 C [] ∧ Same H H7) ?_ (fun _ _ _ _ _ => trivial) ?_ ?_
  · exact ⟨m4, none, [], [], rfl, hF6, .nil, ⟨List.nodup_nil, fun _ h => absurd h List.not_mem_nil⟩, Nat.le_refl 0, pF, DF, ⟨CF, hC⟩, same2 s4' v12⟩
  · rintro i x σ H8 H7 hi ⟨m4', m7, rs, fs, rfl, q1, q2, q3, q4, q5, q6, q7, q8⟩ ⟨rfl, hx⟩
    have hx : x = .int (i : Nat) := hx.trans (congrArg V.int (Int.zero_add _))
    subst hx
    have e1 : (1 : Int) + ((i : Nat) : Int) = ((1 + i : Nat) : Int) := by omega
    have e7 : (7 : Int) + ((i : Nat) : Int) = ((7 + i : Nat) : Int) := by omega
    have rl := Paired.length q2
    refine ⟨_, rfl, _, rfl, _, _, rfl, rfl, a, ns, 1 + i, congrArg (fun z => [V.ref a, V.int z]) e1, Same.seq q8 ha, fun z1 => ?_⟩
    refine ⟨z1, rfl, fun H9 nm s9 hnm => ?_⟩
    refine ⟨_, rfl, _, rfl, F, rfl, ⟨_, (q1.same s9).sq⟩, fun N nN => ?_⟩
    refine lc_it (walk_list (K := K) (a := F) (xs := rs.map V.ref)) (fun j H10 => H10 N = some (.lst (((fs.take j).map (·.1)).map V.str)) ∧ Same H9 H10) ⟨upd_same .., same_new nN⟩ (fun j H10 _ h => (q1.same (same2 s9 h.2)).sq) ?_ ?_
    · rintro j y H11 H10 hj ⟨r1, r2⟩ ⟨rfl, hy⟩
      rw [List.length_map] at hj
      obtain ⟨q, f, k1, k2, da, k3, k4⟩ := pget2 q2 hj
      rw [List.getElem?_map, k1] at hy
      cases hy
      refine ⟨rfl, _, rfl, q, _, _, _, rfl, rfl, (RL.same (same2 s9 r2) k3.2.2).sq, atI_nat (j := 0) rfl, _, r1, by rw [List.length_map, List.length_map, List.length_take]; omega, ?_, same_put nN r2⟩
      rw [upd_same, take_map k2, List.map_append] <;> rfl
    rintro H10 ⟨r1, r2⟩
    rw [List.length_map, rl, List.take_length] at r1
    have s710 := same2 s9 r2
    refine ⟨N, _, rfl, .inl (.inl (.inl r1)), rfl, Ms.flat_strs _, _, rfl, ?_⟩
    rw [inV_str]
    by_cases hz : nm ∈ fs.map (·.1)
    · rw [show (if true = true then !decide (nm ∈ fs.map (·.1)) else decide (nm ∈ fs.map (·.1))) = false from by rw [decide_eq_true hz] <;> rfl]
      exact iteF ⟨_, some (.str nm), rs, fs, rfl, q1.same s710, pimp (fun _ _ _ e => e.mono fun _ _ z => ⟨z.1, z.2.same s710⟩) q2, q3, by omega, q5.same s710, q6.same s710, q7.same s710, same2 q8 s710⟩
    rw [show (if true = true then !decide (nm ∈ fs.map (·.1)) else decide (nm ∈ fs.map (·.1))) = true from by rw [decide_eq_false hz] <;> rfl]
    refine iteT ?_
    refine ⟨_, rfl, .inl ⟨rfl, _, .inl (.inl (q1.same s710))⟩, _, rfl, _, rfl, _, rfl, _, _, rfl, rfl, a, ns, 7 + i, congrArg (fun z => [V.ref a, V.int z]) e7, Same.seq (same2 q8 s710) ha, fun z2 => ?_⟩
    refine ⟨_, rfl, D, _, rfl, .inl (q6.2.same s710).sq, z2, (nV ds).length, rfl, by rw [nV_len]; exact d6, fun H11 p2 dg s11 np2 hp2 dgl dg9 => ?_⟩
    refine ⟨Nat.le_trans (by show 2 ≤ 16777216; decide) big, fun y ny => ?_⟩
    have s12 := same_new (o := .lst [.str nm, .ref p2]) ny
    have hy : RL (upd H11 y (.lst [.str nm, .ref p2])) y [.str nm, .ref p2] := upd_same ..
    have yF : y ≠ F := fun e => by rw [e, s11 _ _ (q1.same s710)] at ny; cases ny
    have yC : y ≠ C := fun e => by rw [e, s11 _ _ (q7.2.same s710)] at ny; cases ny
    have pF2 : p2 ≠ F := fun e => by rw [e, q1.same s710] at np2; cases np2
    have pC2 : p2 ≠ C := fun e => by rw [e, q7.2.same s710] at np2; cases np2
    generalize upd H11 y (.lst [.str nm, .ref p2]) = H12 at s12 hy
    have s712 := same2 s710 (same2 s11 s12)
    refine ⟨F, _, _, rfl, rfl, q1.same s712, by rw [List.length_map, rl]; omega, ?_⟩
    refine ⟨_, some (.str nm), rs ++ [y], fs ++ [(nm, dg)], rfl, by rw [RL, upd_same, List.map_append] <;> rfl, ?_, q3.snoc hz hnm (by rw [dgl, nV_len]) dg9, by rw [List.length_append, List.length_singleton]; omega, (q5.same s712).put, (q6.same s712).put, (q7.same s712).put, same_put nF0 (same2 q8 s712)⟩
    exact psnoc (pimp (fun _ _ _ e => e.mono fun _ _ z => ⟨z.1, (z.2.same s712).put⟩) q2) ⟨p2, ⟨yC, PN.put ⟨yF, hy⟩⟩, ⟨pC2, PN.put ⟨pF2, s12 _ _ hp2⟩⟩⟩
  rintro σ H7 ⟨m4', m7, rs, fs, rfl, q1, q2, q3, q4, q5, q6, q7, q8⟩
  refine ⟨_, rfl, p, _, _, _, rfl, rfl, q5.2.sq, atI_nat (j := 2) (nV_at0 (by omega)), _, _, rfl, rfl, _, rfl, by omega, by omega, ?_⟩
  rw [show (1 + ((at0 sh 2 : Nat) : Int)).toNat = 1 + at0 sh 2 from by omega]
  refine for_it walk_range (fun i σ H8 => ∃ (m4 m7 m9 : Option V) (ts : List Addr) (ps : List (Str × List Int × List Nat)), σ = [some (.ref a), some (.ref p), some (.ref D), some (.int (dv : Nat)), m4, some (.ref F), some (.ref C), m7, none, m9, none] ∧ RL H8 C (ts.map V.ref) ∧ Paired (PX (PN C H8)) ts ps ∧ POk ds.length ps ∧ ps.length ≤ i ∧ PN C H8 p (nV sh) ∧ PN C H8 D (nV ds) ∧ PN C H8 F (rs.map V.ref) ∧ Paired (FX (PN C H8)) rs fs ∧ Same H H8) ?_ (fun _ _ _ _ _ => trivial) ?_ ?_
  · exact ⟨m4', m7, none, [], [], rfl, q7.2, .nil, ⟨List.nodup_nil, fun _ h => absurd h List.not_mem_nil⟩, Nat.le_refl 0, ⟨pC, q5.2⟩, ⟨DC, q6.2⟩, ⟨Ne.symm CF, q1⟩, pimp (fun _ _ _ e => e.mono fun _ _ z => ⟨z.1, z.2.2⟩) q2, q8⟩
  · rintro i x σ H9 H8 hi ⟨m4', m7, m9, ts, ps, rfl, g1, g2, g3, g4, g5, g6, g7, g8, g9⟩ ⟨rfl, hx⟩
    have hx : x = .int (i : Nat) := hx.trans (congrArg V.int (Int.zero_add _))
    subst hx
    have e4 : (4 : Int) + ((i : Nat) : Int) = ((4 + i : Nat) : Int) := by omega
    have e10 : (10 : Int) + ((i : Nat) : Int) = ((10 + i : Nat) : Int) := by omega
    have tl := Paired.length g2
    refine ⟨_, rfl, _, rfl, _, _, rfl, rfl, a, ns, 4 + i, congrArg (fun z => [V.ref a, V.int z]) e4, Same.seq g9 ha, fun z1 => ?_⟩
    refine ⟨z1, rfl, fun H9 nm s9 hnm => ?_⟩
    refine ⟨_, rfl, _, rfl, _, _, rfl, rfl, a, ns, 10 + i, congrArg (fun z => [V.ref a, V.int z]) e10, Same.seq (same2 g9 s9) ha, fun z2 => ?_⟩
    refine ⟨_, rfl, D, _, rfl, .inl (g6.2.same s9).sq, z2, (nV ds).length, rfl, by rw [nV_len]; exact d6, fun H10 r m hv bb ms s10 nr hr hm nm0 ml hhv => ?_⟩
    have s810 := same2 s9 s10
    have mC : m ≠ C := fun e => by rw [e, s9 _ _ g1] at nm0; cases nm0
    unfold tNext
    dsimp only
    refine seq_cut fun D1 f1 => ?_
    have rest : ∀ (r2 w2 : Addr) (ws : List Nat) (tl2 : List V) (H11 : Hp), Same H10 H11 → RL H11 r2 (.ref m :: .ref w2 :: tl2) → w2 ≠ C → RL H11 w2 (nV ws) → ws.length = ds.length → (∀ x ∈ ws, 1 ≤ x) → D1.nx [some (.ref a), some (.ref p), some (.ref D), some (.int (dv : Nat)), some (.int (i : Nat)), some (.ref F), some (.ref C), some (.str nm), none, some (.ref r2), none] H11 := by
      intro r2 w2 ws tl2 H11 s11 hr2 wC hw wl w1
      rw [f1]
      have s811 := same2 s810 s11
      refine ⟨_, rfl, _, rfl, C, rfl, ⟨_, (RL.same s811 g1).sq⟩, fun N nN => ?_⟩
      refine lc_it (walk_list (K := K) (a := C) (xs := ts.map V.ref)) (fun j H12 => H12 N = some (.lst (((ps.take j).map (·.1)).map V.str)) ∧ Same H11 H12) ⟨upd_same .., same_new nN⟩ (fun j H12 _ h => (RL.same (same2 s811 h.2) g1).sq) ?_ ?_
      · rintro j y H13 H12 hj ⟨r1, r2⟩ ⟨rfl, hy⟩
        rw [List.length_map] at hj
        obtain ⟨q, f, k1, k2, m', w', k3, k4, k5⟩ := pget2 g2 hj
        rw [List.getElem?_map, k1] at hy
        cases hy
        refine ⟨rfl, _, rfl, q, _, _, _, rfl, rfl, (RL.same (same2 s811 r2) k3.2).sq, atI_nat (j := 0) rfl, _, r1, by rw [List.length_map, List.length_map, List.length_take]; omega, ?_, same_put nN r2⟩
        rw [upd_same, take_map k2, List.map_append] <;> rfl
      rintro H12 ⟨r1, r2'⟩
      rw [List.length_map, tl, List.take_length] at r1
      have s812 := same2 s811 r2'
      refine ⟨N, _, rfl, .inl (.inl (.inl r1)), rfl, Ms.flat_strs _, _, rfl, ?_⟩
      rw [inV_str]
      by_cases hz : nm ∈ ps.map (·.1)
      · rw [show (if true = true then !decide (nm ∈ ps.map (·.1)) else decide (nm ∈ ps.map (·.1))) = false from by rw [decide_eq_true hz] <;> rfl]
        exact iteF ⟨_, some (.str nm), some (.ref r2), ts, ps, rfl, RL.same s812 g1, pimp (fun _ _ _ e => e.mono fun _ _ z => z.same s812) g2, g3, by omega, g5.same s812, g6.same s812, g7.same s812, pimp (fun _ _ _ e => e.mono fun _ _ z => z.same s812) g8, same2 g9 s812⟩
      rw [show (if true = true then !decide (nm ∈ ps.map (·.1)) else decide (nm ∈ ps.map (·.1))) = true from by rw [decide_eq_false hz] <;> rfl]
      refine iteT ?_
      refine ⟨_, rfl, .inl ⟨rfl, _, .inl (.inl (RL.same s812 g1))⟩, _, rfl, _, rfl, r2, _, _, _, rfl, rfl, (RL.same r2' hr2).sq, atI_nat (j := 0) rfl, _, rfl, r2, _, _, _, rfl, rfl, (RL.same r2' hr2).sq, atI_nat (j := 1) rfl, Nat.le_trans (by show 3 ≤ 16777216; decide) big, fun y ny => ?_⟩
      have s13 := same_new (o := .lst [.str nm, .ref m, .ref w2]) ny
      have hy : RL (upd H12 y (.lst [.str nm, .ref m, .ref w2])) y [.str nm, .ref m, .ref w2] := upd_same ..
      have yC : y ≠ C := fun e => by rw [e, RL.same s812 g1] at ny; cases ny
      generalize upd H12 y (.lst [.str nm, .ref m, .ref w2]) = H13 at s13 hy
      have s813 := same2 s812 s13
      refine ⟨C, _, _, rfl, rfl, RL.same s813 g1, by rw [List.length_map, tl]; omega, ?_⟩
      refine ⟨_, some (.str nm), some (.ref r2), ts ++ [y], ps ++ [(nm, ms, ws)], rfl, by rw [RL, upd_same, List.map_append] <;> rfl, ?_, g3.snoc hz hnm (by rw [ml, nV_len]) wl w1, by rw [List.length_append, List.length_singleton]; omega, (g5.same s813).put, (g6.same s813).put, (g7.same s813).put, pimp (fun _ _ _ e => e.mono fun _ _ z => (z.same s813).put) g8, same_put nC0 (same2 g9 s813)⟩
      exact psnoc (pimp (fun _ _ _ e => e.mono fun _ _ z => (z.same s813).put) g2) ⟨m, w2, PN.put ⟨yC, hy⟩, PN.put ⟨mC, (same2 s11 (same2 r2' s13)) _ _ hm⟩, PN.put ⟨wC, (same2 r2' s13) _ _ hw⟩⟩
    refine ⟨_, rfl, r, _, _, _, rfl, rfl, hr.sq, atI_nat (j := 1) rfl, rfl, _, rfl, ?_⟩
    rcases hhv with rfl | ⟨w2, ws, rfl, nw, hw, wl, w1⟩
    · rw [show decide (V.non = V.non) = true from decide_eq_true rfl]
      refine iteT ⟨_, rfl, r, _, _, _, rfl, rfl, hr.sq, atI_nat (j := 0) rfl, _, rfl, D, rfl, ⟨_, (g6.2.same s810).sq⟩, fun W nW => ?_⟩
      refine lc_it (walk_list (K := K) (a := D) (xs := nV ds)) (fun j H11 => H11 W = some (.lst (nV (List.replicate j 1))) ∧ Same H10 H11) ⟨upd_same .., same_new nW⟩ (fun j H11 _ h => (g6.2.same (same2 s810 h.2)).sq) ?_ ?_
      · rintro j y H12 H11 hj ⟨r1, r2⟩ ⟨rfl, hy⟩
        rw [nV_len] at hj
        refine ⟨rfl, _, r1, by rw [nV_len, List.length_replicate]; omega, ?_, same_put nW r2⟩
        rw [upd_same, List.replicate_succ', ← nV_snoc] <;> rfl
      rintro H11 ⟨r1, r2⟩
      rw [nV_len] at r1
      have WC : W ≠ C := fun e => by rw [e, RL.same s810 g1] at nW; cases nW
      refine ⟨Nat.le_trans (by show 2 ≤ 16777216; decide) big, fun y ny => ?_⟩
      exact rest y W (List.replicate ds.length 1) [] _ (same2 r2 (same_new ny)) (upd_same ..) WC (same_new ny _ _ r1) List.length_replicate (fun x hx => by rw [(List.mem_replicate.mp hx).2]; exact Nat.le_refl 1)
    · rw [show decide (V.ref w2 = V.non) = false from decide_eq_false fun e => by cases e]
      have wC : w2 ≠ C := fun e => by rw [e, s9 _ _ g1] at nw; cases nw
      exact iteF (rest r w2 ws _ H10 (fun _ _ e => e) hr wC hw (by rw [wl, nV_len]) w1)
  rintro σ H8 ⟨m4', m7, m9, ts, ps, rfl, g1, g2, g3, g4, g5, g6, g7, g8, g9⟩
  refine ⟨_, rfl, _, rfl, _, rfl, Nat.le_trans (by show 3 ≤ 16777216; decide) big, fun y ny => ?_⟩
  have s9 := same_new (o := .lst [.ref D, .ref F, .ref C]) ny
  refine hQ _ y ⟨ds, fs, ps⟩ (same2 g9 s9) (g9.free ny) ⟨D, F, C, upd_same .., s9 _ _ g6.2, ⟨rs, s9 _ _ g7.2, pimp (fun _ _ _ e => e.mono fun _ _ z => RL.same s9 z.2) g8⟩, ⟨ts, s9 _ _ g1, pimp (fun _ _ _ e => e.mono fun _ _ z => RL.same s9 z.2) g2⟩⟩ ?_
  exact ⟨by show 0 < ds.length; omega, d6, dsw, fun d hd => by have := dsb d hd; omega, q3.1, g3.1, q3.2, g3.2, by show fs.length ≤ 5; omega, by show ps.length ≤ 5; omega⟩
end
end K05
set_option Elab.async false
set_option linter.all false
set_option maxRecDepth 100000
set_option maxHeartbeats 4000000
namespace K05
open PySem PySem.Spec PyProof.Rows L2 Ms
theorem tyT {K : PySem.W.Frag} {H : Hp} {a : Addr} {xs : List V} (h : SqT K H a xs) : TyX K H (.ref a) (.type "tuple") := by
  rcases h with (h | ⟨o, h⟩) | ⟨o, its, n, hk, hc, _⟩
  · exact .base (.tup h)
  · exact .fTuple h
  · exact .kTuple hk hc
def Oth (K : PySem.W.Frag) (H : Hp) (y : V) : Prop := (∃ ty, TyX K H y ty ∧ PySem.W.notFirst K (CT K) ty = true ∧ PySem.W.kitOne K ty (.ref (CT K)) = some false) ∧ ((∃ T, TyL K H y T ∧ PySem.W.subIn K (.ref (CT K)) (.type T) = some false) ∨ ∃ p r, y = .ref p ∧ SightAt K H p r)
def spNe (K : PySem.W.Frag) : Sp := fun vs H Q _ => ∃ (x : Addr) (S : Std), vs = [.ref x] ∧ StandAt K H x S ∧ ∀ H', Same H H' → Q (.bl true) H'
section
variable {P : Program} {w : World} {K : PySem.W.Frag} {mg : Str → Option Value} {base : Heap}
theorem Oth.non (T : Tx K mg) {H : Hp} : Oth K H .non := ⟨⟨_, .base .non, T.nft_NoneType, T.is_NoneType_Standing⟩, .inl ⟨_, .non, T.sbt_NoneType⟩⟩
theorem Oth.int (T : Tx K mg) {H : Hp} {i : Int} : Oth K H (.int i) := ⟨⟨_, .base (.int i), T.nft_int, T.is_int_Standing⟩, .inl ⟨_, .int i, T.sbt_int⟩⟩
theorem Oth.str (T : Tx K mg) {H : Hp} {i : Str} : Oth K H (.str i) := ⟨⟨_, .base (.str i), T.nft_str, T.is_str_Standing⟩, .inl ⟨_, .str i, T.sbt_str⟩⟩
theorem Oth.lst (T : Tx K mg) {H : Hp} {a : Addr} {xs : List V} (h : RL H a xs) : Oth K H (.ref a) := ⟨⟨_, .base (.lst h), T.nft_list, T.is_list_Standing⟩, .inl ⟨_, .lst h.sq, T.sbt_list⟩⟩
theorem Oth.tup (T : Tx K mg) {H : Hp} {a : Addr} {xs : List V} (h : SqT K H a xs) : Oth K H (.ref a) := ⟨⟨_, tyT h, T.nft_tuple, T.is_tuple_Standing⟩, .inl ⟨_, .tup h, T.sbt_tuple⟩⟩
theorem Oth.sight (T : Tx K mg) {H : Hp} {a : Addr} {r : List Nat} (h : SightAt K H a r) : Oth K H (.ref a) := by
  obtain ⟨sdx, mk, sc, m1, m2, _⟩ := h.ex
  exact ⟨⟨_, .base (.ins m1 T.c_Sight T.cl_Sight.ca T.cl_Sight.cg T.cl_Sight.ct T.cl_Sight.ob), T.nft_Sight, T.is_Sight_Standing⟩, .inr ⟨a, r, rfl, h⟩⟩
theorem ok__law_equals_nothing_else (T : Tx K mg) : Ok P w K mg base "_law_equals_nothing_else" 4 (spNe K) := by
  obtain ⟨fdK, psK, FK, bK⟩ := fn_key (P := P) (w := w) (base := base) T
  have O_Sightu__initu_ : COk P w K mg base "Sight" 2 (spInit K) := cok T
  have O_Standingu__equ_ : BOk P w K mg base "Standing" "__eq__" 3 (spEqS K) := bok_eqS T
  have O_Sightu__equ_ : BOk P w K mg base "Sight" "__eq__" 1 (spEq K) := bok_eq T
  refine ok_of T.a__law_equals_nothing_else sc_law_equals_nothing_else (fun vs H Q E h => ?_) bi__law_equals_nothing_else fun cdv A outer s H vs Q E hr h => ?_
  · obtain ⟨x, S, rfl, _⟩ := h
    rfl
  obtain ⟨x, S, rfl, ⟨ok, td, tf, tp, tfr, tpr, dd, dsa, dw, dp, fas, pas, fra, pra, hs⟩, hQ⟩ := h
  have big : (16777216 : Nat) ≤ sizeLine := by decide
  have st : StandAt K H x S := ⟨ok, td, tf, tp, tfr, tpr, dd, dsa, dw, dp, fas, pas, fra, pra, hs⟩
  obtain ⟨dx, hx⟩ := hs.ins
  have d1 := ok.d1
  have d2 := ok.d2
  refine ⟨_, (pss_cons (ps_set (i := 1) sc_law_equals_nothing_else.nd rfl (by first | exact Or.inl rfl | exact Or.inr rfl) (pe_lst (pa_cons pe_non (pa_cons pe_int (pa_cons pe_int (pa_cons pe_str (pa_cons (pe_tupF pa_nil) (pa_cons (pe_lst pa_nil) (pa_cons (pe_fld (pv 0) rfl) (pa_cons (pe_prop (pv 0) T.c_Standing T.p_key FK (hr.mono (by decide)) bK .nil passF (by rfl)) (pa_cons (pe_nK K (E := EN) O_Sightu__initu_ hr (by decide) (fun σ => passN σ) (pa_cons (pe_fld (pv 0) rfl) pa_nil)) (pa_cons (pe_lst (pa_cons (pv 0) pa_nil)) (pa_cons (pe_tupF (pa_cons (pv 0) pa_nil)) pa_nil)))))))))))))
  (pss_cons (ps_for PassesOwn.never rfl (pi_list (pv 1)) (pg_name (i := 2) sc_law_equals_nothing_else.nd rfl (by first | exact Or.inl rfl | exact Or.inr rfl))
  (pss_one (ps_if (PW.pt (pw_or (pt_cmpR (op_eqS K O_Standingu__equ_ hr (by decide) (fun σ => passN σ)) (pv 0) (pv 2) (nomark _)) (pw_or1 (pt_cmpR (op_eqX K O_Standingu__equ_ O_Sightu__equ_ hr (by decide) (by decide) (fun σ => passN σ)) (pv 2) (pv 0) (nomark _)))))
    (pss_one (ps_ret pe_bl))
    pss_nil)))
  (pss_one (ps_ret pe_bl)))), ?_⟩
  refine ⟨Nat.zero_le _, fun t0 H1 nt s1 ft _ => ?_⟩
  refine ⟨Nat.zero_le _, fun l0 nl0 => ?_⟩
  have s2 := same_new (o := .lst []) nl0
  have hl0 : RL (upd H1 l0 (.lst [])) l0 [] := upd_same ..
  generalize upd H1 l0 (.lst []) = H2 at s2 hl0
  have s02 := same2 s1 s2
  refine ⟨_, rfl, x, _, dx, _, .ref td, rfl, s02 _ _ hx, T.c_Standing, T.nt_deals, rfl, _, rfl, x, dx, _, rfl, s02 _ _ hx, x, S, td, tf, tp, tfr, tpr, dd, dsa, dw, dp, fas, pas, fra, pra, rfl, hs.same s02, fun H3 q s3 fq => ?_⟩
  have s03 := same2 s02 s3
  refine ⟨_, rfl, x, _, dx, _, .ref td, rfl, s03 _ _ hx, T.c_Standing, T.nt_deals, rfl, ?_⟩
  have hm : MarksAt K H3 td (ren (cI S.deals)) := ⟨nV S.deals, by rw [nV_len]; omega, .inl ⟨cI S.deals, nV_int _, rfl, .inr (Same.sqT s03 hs.td)⟩⟩
  refine make_fin hm (fun _ H4 sa s4 nsa hsa => ?_) (fun e => absurd e (by rw [ren_len]; show ¬ (List.map _ _).length = 0; rw [List.length_map]; omega))
  refine ⟨_, rfl, Nat.le_trans (by show 1 ≤ 16777216; decide) big, fun l1 nl1 => ?_⟩
  have s5 := same_new (o := .lst [.ref x]) nl1
  have hl1 : RL (upd H4 l1 (.lst [.ref x])) l1 [.ref x] := upd_same ..
  generalize upd H4 l1 (.lst [.ref x]) = H5 at s5 hl1
  refine ⟨_, rfl, Nat.le_trans (by show 1 ≤ 16777216; decide) big, fun t1 H6 nt1 s6 ft1 _ => ?_⟩
  refine ⟨Nat.le_trans (by show 11 ≤ 16777216; decide) big, fun L nL => ?_⟩
  generalize hxs : ([.non, .int 0, .int 1, .str _, .ref t0, .ref l0, .ref td, .ref q, .ref sa, .ref l1, .ref t1] : List V) = xs
  have s36 := same2 s4 (same2 s5 s6)
  have s06 := same2 s03 s36
  have odd : ∀ y ∈ xs, ∀ {H' : Hp}, Same H6 H' → Oth K H' y := by
    rw [← hxs]
    intro y hy H' s'
    simp only [List.mem_cons, List.not_mem_nil, or_false] at hy
    rcases hy with rfl | rfl | rfl | rfl | rfl | rfl | rfl | rfl | rfl | rfl | rfl
    · exact Oth.non T
    · exact Oth.int T
    · exact Oth.int T
    · exact Oth.str T
    · exact Oth.tup T (Same.sqT (same2 s2 (same2 s3 (same2 s36 s'))) ft.sq)
    · exact Oth.lst T (hl0.same (same2 s3 (same2 s36 s')))
    · exact Oth.tup T (Same.sqT (same2 s06 s') hs.td)
    · exact Oth.tup T (Same.sqT (same2 s36 s') fq.sq)
    · exact Oth.sight T (hsa.same (same2 s5 (same2 s6 s')))
    · exact Oth.lst T (hl1.same (same2 s6 s'))
    · exact Oth.tup T (Same.sqT s' ft1.sq)
  have s7 := same_new (o := .lst xs) nL
  have hL : RL (upd H6 L (.lst xs)) L xs := upd_same ..
  generalize upd H6 L (.lst xs) = H7 at s7 hL
  have s07 := same2 s06 s7
  refine ⟨_, rfl, L, rfl, ⟨_, hL.sq⟩, for_list (xs := xs) (fun i σ H8 => ∃ m : Option V, σ = [some (.ref x), some (.ref L), m] ∧ H8 = H7) ⟨none, rfl, rfl⟩ (fun i σ H8 _ h => by obtain ⟨_, _, rfl⟩ := h; exact hL.sq) ?_ ?_⟩
  · rintro i y σ H8 hy ⟨m, rfl, rfl⟩
    obtain ⟨⟨ty, h1, h2, h3⟩, h4⟩ := odd y (List.mem_of_getElem? hy) s7
    have stn := st.same s07
    have tyS : TyX K H8 (.ref x) (.ref (CT K)) := .base (.ins (s07 _ _ hx) T.c_Standing T.cl_Standing.ca T.cl_Standing.cg T.cl_Standing.ct T.cl_Standing.ob)
    refine ⟨_, rfl, _, rfl, x, dx, _, ty, rfl, s07 _ _ hx, h1, h2, x, y, S, rfl, stn, .inr ⟨ty, h1, h3, _, rfl, iteF ?_⟩⟩
    refine ⟨_, rfl, _, rfl, ?_⟩
    rcases h4 with ⟨tn, h4, h5⟩ | ⟨p, r, rfl, h4⟩
    · exact .inr ⟨x, dx, _, tn, rfl, s07 _ _ hx, h4, h5, x, y, S, rfl, stn, .inr ⟨ty, h1, h3, _, rfl, iteF ⟨_, rfl, rfl⟩⟩⟩
    · obtain ⟨sdx, mk, sc, m1, m2, _⟩ := h4.ex
      exact .inl ⟨p, sdx, _, _, rfl, m1, tyS, T.nf_Standing, p, r, .ref x, rfl, h4, .inr ⟨_, tyS, T.is_Standing_Sight, _, rfl, iteF ⟨_, rfl, rfl⟩⟩⟩
  · rintro σ H8 ⟨m, rfl, rfl⟩
    exact hQ H8 s07
end
end K05
set_option Elab.async false
set_option linter.all false
set_option maxRecDepth 100000
set_option maxHeartbeats 4000000
namespace K05
open PySem PySem.Spec PyProof.Rows L2 Ms
def Wd.std (W : Wd) : Std := ⟨W.deals, W.facts, W.parts.map fun p => (p.1, ren p.2.1, p.2.2)⟩
def spVar : Sp := fun vs H Q _ => ∃ (a : Addr) (c : Int) (W : Wd) (b : Nat), vs = [.ref a, .int c] ∧ WAt H a W ∧ W.Ok b ∧ b ≤ 100 ∧ ∀ H' p W', Same H H' → H p = none → WAt H' p W' → W'.Ok (b + 1) → Q (.ref p) H'
def spBuild (K : PySem.W.Frag) : Sp := fun vs H Q _ => ∃ (a : Addr) (c : Int) (W : Wd) (b : Nat), vs = [.ref a, .int c] ∧ WAt H a W ∧ W.Ok b ∧ b ≤ 100 ∧ ∀ H' q, Same H H' → H q = none → StandAt K H' q W.std → Q (.ref q) H'
theorem Wd.Ok.mono {W : Wd} {b c : Nat} (h : W.Ok b) (l : b ≤ c) : W.Ok c := ⟨h.d1, h.d2, h.dw, fun d hd => Nat.lt_of_lt_of_le (h.db d hd) l, h.fn, h.pn, h.fo, h.po, h.few, h.pew⟩
/-- a world whose lists are all not the one at N -/
def WAtN (N : Addr) (H : Hp) (a : Addr) (W : Wd) : Prop := ∃ d f c, PN N H a [.ref d, .ref f, .ref c] ∧ PN N H d (nV W.deals) ∧ (∃ qs : List Addr, PN N H f (qs.map V.ref) ∧ Paired (FX (PN N H)) qs W.facts) ∧ (∃ qs : List Addr, PN N H c (qs.map V.ref) ∧ Paired (PX (PN N H)) qs W.parts)
theorem WAtN.same {N a : Addr} {H H' : Hp} {W : Wd} (h : WAtN N H a W) (s : Same H H') : WAtN N H' a W := let ⟨d, f, c, h1, h2, ⟨qs, h3, h4⟩, ⟨rs, h5, h6⟩⟩ := h
  ⟨d, f, c, h1.same s, h2.same s, ⟨qs, h3.same s, pimp (fun _ _ _ e => e.mono fun _ _ z => z.same s) h4⟩, ⟨rs, h5.same s, pimp (fun _ _ _ e => e.mono fun _ _ z => z.same s) h6⟩⟩
theorem WAtN.put {N a : Addr} {H : Hp} {o : HO} {W : Wd} (h : WAtN N H a W) : WAtN N (upd H N o) a W := let ⟨d, f, c, h1, h2, ⟨qs, h3, h4⟩, ⟨rs, h5, h6⟩⟩ := h
  ⟨d, f, c, h1.put, h2.put, ⟨qs, h3.put, pimp (fun _ _ _ e => e.mono fun _ _ z => z.put) h4⟩, ⟨rs, h5.put, pimp (fun _ _ _ e => e.mono fun _ _ z => z.put) h6⟩⟩
theorem WAtN.at {N a : Addr} {H : Hp} {W : Wd} (h : WAtN N H a W) : WAt H a W := let ⟨d, f, c, h1, h2, ⟨qs, h3, h4⟩, ⟨rs, h5, h6⟩⟩ := h
  ⟨d, f, c, h1.2, h2.2, ⟨qs, h3.2, pimp (fun _ _ _ e => e.mono fun _ _ z => z.2) h4⟩, ⟨rs, h5.2, pimp (fun _ _ _ e => e.mono fun _ _ z => z.2) h6⟩⟩
theorem rl_inj {H : Hp} {a : Addr} {xs ys : List V} (h : RL H a xs) (g : RL H a ys) : xs = ys := by
  have h : H a = some (.lst xs) := h
  have g : H a = some (.lst ys) := g
  rw [h] at g
  cases g
  rfl
theorem phead {α β : Type} {F : α → β → Prop} {x : α} {xs : List α} {ys : List β} (h : Paired F (x :: xs) ys) : ∃ y, F x y := by
  cases h with
  | cons e _ => exact ⟨_, e⟩
/-- a list of worlds is no list of a world -/
theorem watn {N a w0 : Addr} {H : Hp} {W : Wd} {ws : List Addr} {u v t : Addr} (hN : RL H N ((w0 :: ws).map V.ref)) (h0 : RL H w0 [.ref u, .ref v, .ref t]) (aN : a ≠ N) (dl : 0 < W.deals.length) (h : WAt H a W) : WAtN N H a W := by
  obtain ⟨d, f, c, h1, h2, ⟨qs, h3, h4⟩, ⟨rs, h5, h6⟩⟩ := h
  have jI : ∀ {x : Addr} {l : List Int}, RL H x (l.map V.int) → x ≠ N := fun {x l} hx e => by
    rw [e] at hx
    have z := rl_inj hx hN
    cases l with
    | nil => cases z
    | cons y l => rw [List.map_cons, List.map_cons] at z; cases z
  have jN : ∀ {x : Addr} {l : List Nat}, RL H x (nV l) → x ≠ N := fun {x l} hx => jI (l := cI l) (by rw [show (cI l).map V.int = nV l from (nV_int l).symm]; exact hx)
  have jS : ∀ {x : Addr} {z : Str} {r : List V}, RL H x (.str z :: r) → x ≠ N := fun {x z r} hx e => by
    rw [e] at hx
    have z := rl_inj hx hN
    rw [List.map_cons] at z
    cases z
  have fN : f ≠ N := fun e => by
    rw [e] at h3
    have z := rl_inj h3 hN
    cases qs with
    | nil => cases z
    | cons q qs =>
      rw [List.map_cons, List.map_cons] at z
      have zz := V.ref.inj (List.cons.inj z).1
      obtain ⟨_, da, e5, _⟩ := phead h4
      rw [zz] at e5
      have := rl_inj e5 h0
      cases this
  have cN : c ≠ N := fun e => by
    rw [e] at h5
    have z := rl_inj h5 hN
    cases rs with
    | nil => cases z
    | cons q qs =>
      rw [List.map_cons, List.map_cons] at z
      have zz := V.ref.inj (List.cons.inj z).1
      obtain ⟨_, m, w, e5, _⟩ := phead h6
      rw [zz] at e5
      have := rl_inj e5 h0
      cases this
  exact ⟨d, f, c, ⟨aN, h1⟩, ⟨jN h2, h2⟩, ⟨qs, ⟨fN, h3⟩, pimp (fun _ _ _ ⟨da, e1, e2⟩ => ⟨da, ⟨jS e1, e1⟩, ⟨jN e2, e2⟩⟩) h4⟩, ⟨rs, ⟨cN, h5⟩, pimp (fun _ _ _ ⟨m, w, e1, e2, e3⟩ => ⟨m, w, ⟨jS e1, e1⟩, ⟨jI e2, e2⟩, ⟨jN e3, e3⟩⟩) h6⟩⟩
theorem name_ok {z : Str} (h : Name z) : PyData.strOk z = true := by
  have hl : ∀ c ∈ LETS.cps.toList, c < 1114112 := by decide +kernel
  have hd : ∀ c ∈ DIGS.cps.toList, c < 1114112 := by decide +kernel
  unfold PyData.strOk
  rw [Array.all_eq_true]
  intro i hi
  rcases h.all i _ (Array.getElem?_eq_getElem hi) with e | e
  · exact decide_eq_true (hl _ e)
  · exact decide_eq_true (hd _ e)
theorem Wd.Ok.kok {W : Wd} {b : Nat} (h : W.Ok b) : KOk W.std.kt := by
  refine ⟨fun x hx => ?_, fun x hx => ?_⟩
  · obtain ⟨f, hf, rfl⟩ := List.mem_map.mp hx
    exact name_ok (h.fo f hf).1
  · obtain ⟨f, hf, rfl⟩ := List.mem_map.mp hx
    obtain ⟨g, hg, rfl⟩ := List.mem_map.mp hf
    exact name_ok (h.po g hg).1
theorem row_dp {K : PySem.W.Frag} {H : Hp} {a : Addr} {W : Wd} (h : WAt H a W.plain) : Dp K H (.ref a) (rowE.d W.std.kt) := by
  obtain ⟨d, f, c, h1, h2, ⟨qs, h3, h4⟩, ⟨rs, h5, h6⟩⟩ := h
  refine .lst h1.sq (.cons (.lst h2.sq (dpC _)) (.cons (.lst h3.sq ?_) (.cons (.lst h5.sq ?_) .nil)))
  · show DpAll K H _ ((W.facts.map _).map _)
    rw [List.map_map]
    exact dpAllM h4 fun a f ⟨da, e1, e2⟩ => .lst e1.sq (.cons (.str _) (.cons (.lst e2.sq (dpC _)) .nil))
  · show DpAll K H _ (((W.parts.map fun p => (p.1, ren p.2.1, p.2.2)).map fun p => (p.1, cI p.2.1, cI p.2.2)).map _)
    have e : ((W.parts.map fun p => (p.1, ren p.2.1, p.2.2)).map fun p => (p.1, cI p.2.1, cI p.2.2)) = W.plain.parts.map fun p => (p.1, p.2.1, cI p.2.2) := by
      show _ = (W.parts.map _).map _
      rw [List.map_map, List.map_map] <;> rfl
    rw [e, List.map_map]
    exact dpAllM h6 fun a f ⟨m, w, e1, e2, e3⟩ => .lst e1.sq (.cons (.str _) (.cons (.lst e2.sq (dpI _)) (.cons (.lst e3.sq (dpC _)) .nil)))
/-- a standing when a list has changed -/
theorem stand_put {K : PySem.W.Frag} {H : Hp} {N : Addr} {xs zs : List V} (hN : H N = some (.lst xs)) {x : Addr} {S : Std} (h : StandAt K H x S) : StandAt K (upd H N (.lst zs)) x S := by
  have k : ∀ {b : Addr} {o : HO}, (∀ xs, o ≠ .lst xs) → H b = some o → upd H N (.lst zs) b = some o := fun {b o} no e => by
    rw [upd_ne (fun z => by rw [z, hN] at e; exact no _ (Option.some.inj e).symm)]
    exact e
  have t : ∀ {a : Addr} {ys : List V}, SqT K H a ys → SqT K (upd H N (.lst zs)) a ys := fun e => sqT_put hN e
  have ft : ∀ {a : Addr} {ys : List V}, FT H a ys → FT (upd H N (.lst zs)) a ys := fun {a ys} ⟨ob, e1, e2⟩ => ⟨ob, k (fun _ z => by cases z) e1, e2⟩
  obtain ⟨ok, td, tf, tp, tfr, tpr, dd, ds, dw, dp, fas, pas, fra, pra, h⟩ := h
  obtain ⟨dx, hi⟩ := h.ins
  exact ⟨ok, td, tf, tp, tfr, tpr, dd, ds, dw, dp, fas, pas, fra, pra, ⟨dx, k (fun _ z => by cases z) hi⟩, t h.td, t h.tf, t h.tp, ft h.tfr, pimp (fun _ _ _ z => ⟨t z.1, t z.2⟩) h.fr, ft h.tpr, pimp (fun _ _ _ ⟨mk, z1, z2⟩ => ⟨mk, t z1, t z2⟩) h.pr, k (fun _ z => by cases z) h.dd, k (fun _ z => by cases z) h.ds, k (fun _ z => by cases z) h.dw, k (fun _ z => by cases z) h.dp, fun p hp => ⟨sight_put hN (h.pv p hp).1, t (h.pv p hp).2⟩, h.ef, h.ep⟩
end K05
set_option Elab.async false
set_option linter.all false
set_option maxRecDepth 100000
set_option maxHeartbeats 4000000
namespace K05
open PySem PySem.Spec PyProof.Rows L2 Ms
def spLaw (K : PySem.W.Frag) : Sp := fun vs H Q _ => ∃ (a : Addr) (ns : List Int), vs = [.ref a] ∧ SqL K H a (ns.map V.int) ∧ ∀ H', Q (.bl true) H'
def SHP : List Nat := [4, 2, 2, 2, 2, 2]
theorem WAtN.head {N a : Addr} {H : Hp} {W : Wd} (h : WAtN N H a W) : ∃ u v t, RL H a [.ref u, .ref v, .ref t] := let ⟨d, f, c, h1, _⟩ := h; ⟨d, f, c, h1.2⟩
section
variable {P : Program} {w : World} {K : PySem.W.Frag} {mg : Str → Option Value} {base : Heap}
theorem law_of (T : Tx K mg) (hvar : Ok P w K mg base "_law_varied" 4 spVar) (hbuild : Ok P w K mg base "_law_build" 7 (spBuild K)) {fd : FuncData} (F : FunD K "law" "law" (defArgs slaw) (defBody slaw) (defScope slaw) [] [] (He.ga K "law") fd) : FnOk P w K mg base CX0 9 (He.ga K "law") fd ["script"] (spLaw K) := by
  obtain ⟨fdK, psK, FK, bK⟩ := fn_key (P := P) (w := w) (base := base) T
  have O__law_digits : Ok P w K mg base "_law_digits" 1 (spDigits K) := ok__law_digits T
  have O__law_cell : Ok P w K mg base "_law_cell" 1 (spCellL K) := ok__law_cell T
  have O__law_world : Ok P w K mg base "_law_world" 3 (spWorld K) := ok__law_world T
  have O__law_plain : Ok P w K mg base "_law_plain" 2 (spPlain K) := ok__law_plain T
  have O__law_varied := hvar
  have O__law_build := hbuild
  have O__law_equals_nothing_else : Ok P w K mg base "_law_equals_nothing_else" 4 (spNe K) := ok__law_equals_nothing_else T
  have O_Standingu__equ_ : BOk P w K mg base "Standing" "__eq__" 3 (spEqS K) := bok_eqS T
  refine F.ok sclaw (fun vs H Q E h => ?_) fun cdv A outer s H vs Q E hr h => ?_
  · obtain ⟨a, ns, rfl, _⟩ := h
    rfl
  obtain ⟨a, ns, rfl, ha, hQ⟩ := h
  have big : (16777216 : Nat) ≤ sizeLine := by decide
  refine ⟨_, PSs.nox (pss_cons (ps_set (i := 1) sclaw.nd rfl (by first | exact Or.inl rfl | exact Or.inr rfl) (pe_c (E := EN) O__law_world hr (by decide) (fun σ => passN σ) (pa_cons (pv 0) pa_nil)))
  (pss_cons (ps_set (i := 2) sclaw.nd rfl (by first | exact Or.inl rfl | exact Or.inr rfl) (pe_lst (pa_cons (pv 1) pa_nil)))
  (pss_cons (ps_set (i := 3) sclaw.nd rfl (by first | exact Or.inl rfl | exact Or.inr rfl) (pe_c (E := EN) O__law_digits hr (by decide) (fun σ => passN σ) (pa_cons (pe_c (E := EN) O__law_cell hr (by decide) (fun σ => passN σ) (pa_cons (pv 0) (pa_cons pe_int pa_nil))) (pa_cons (pe_lst (pa_cons pe_int (pa_cons pe_int (pa_cons pe_int (pa_cons pe_int (pa_cons pe_int (pa_cons pe_int pa_nil))))))) pa_nil))))
  (pss_cons (ps_for PassesOwn.never rfl (pi_range1 rfl T.f_range (pa_cons (pe_op op_add pe_int (pe_ix (ixL K) (pv 3) pe_int (fun _ _ => rfl))) pa_nil)) (pg_name (i := 4) sclaw.nd rfl (by first | exact Or.inl rfl | exact Or.inr rfl))
  (pss_one (ps_expr (pe_bm PySem.F.plainAttrs_list PySem.F.slot_list_append PySem.F.type_list_append mt_append (pv 2) (pa_cons (pe_c (E := EN) O__law_varied hr (by decide) (fun σ => passN σ) (pa_cons (pe_ix (ixL K) (pv 2) (pe_op op_mul (pe_callTy call_int1 (by rfl) T.f_int (by decide +kernel) (pa_cons (pv 4) pa_nil)) (pe_ix (ixL K) (pv 3) (pe_op op_add pe_int (pv 4)) (fun _ _ => rfl))) (fun _ _ => rfl)) (pa_cons (pe_c (E := EN) O__law_cell hr (by decide) (fun σ => passN σ) (pa_cons (pv 0) (pa_cons (pe_op op_add pe_int (pe_op op_mul pe_int (pv 4))) pa_nil))) pa_nil))) pa_nil)))))
  (pss_cons (ps_expr (pe_bm PySem.F.plainAttrs_list PySem.F.slot_list_append PySem.F.type_list_append mt_append (pv 2) (pa_cons (pv 1) pa_nil)))
  (pss_cons (ps_set (i := 5) sclaw.nd rfl (by first | exact Or.inl rfl | exact Or.inr rfl) (pe_lst pa_nil))
  (pss_cons (ps_for PassesOwn.never rfl (pi_range1 rfl T.f_range (pa_cons (pe_callB (lenK K) (by rfl) T.f_len boot_len (pa_cons (pv 2) pa_nil)) pa_nil)) (pg_name (i := 4) sclaw.nd rfl (by first | exact Or.inl rfl | exact Or.inr rfl))
  (pss_one (ps_expr (pe_bm PySem.F.plainAttrs_list PySem.F.slot_list_append PySem.F.type_list_append mt_append (pv 5) (pa_cons (pe_c (E := EN) O__law_build hr (by decide) (fun σ => passN σ) (pa_cons (pe_ix (ixL K) (pv 2) (pv 4) (fun _ _ => rfl)) (pa_cons (pe_c (E := EN) O__law_cell hr (by decide) (fun σ => passN σ) (pa_cons (pv 0) (pa_cons (pe_op op_add pe_int (pe_op op_mul pe_int (pv 4))) pa_nil))) pa_nil))) pa_nil)))))
  (pss_cons (ps_for PassesOwn.never rfl (pi_range1 rfl T.f_range (pa_cons (pe_callB (lenK K) (by rfl) T.f_len boot_len (pa_cons (pv 5) pa_nil)) pa_nil)) (pg_name (i := 4) sclaw.nd rfl (by first | exact Or.inl rfl | exact Or.inr rfl))
  (pss_cons (ps_if (pt_not (pt_val (pe_c (E := EN) O__law_equals_nothing_else hr (by decide) (fun σ => passN σ) (pa_cons (pe_ix (ixL K) (pv 5) (pv 4) (fun _ _ => rfl)) pa_nil))))
    (pss_one (ps_ret pe_bl))
    pss_nil)
    (pss_one (ps_for PassesOwn.never rfl (pi_range1 rfl T.f_range (pa_cons (pe_callB (lenK K) (by rfl) T.f_len boot_len (pa_cons (pv 5) pa_nil)) pa_nil)) (pg_name (i := 6) sclaw.nd rfl (by first | exact Or.inl rfl | exact Or.inr rfl))
    (pss_cons (ps_set (i := 7) sclaw.nd rfl (by first | exact Or.inl rfl | exact Or.inr rfl) (pe_eqSK K (E := EN) O_Standingu__equ_ hr (by decide) (fun σ => passN σ) (pe_ix (ixL K) (pv 5) (pv 4) (fun _ _ => rfl)) (pe_ix (ixL K) (pv 5) (pv 6) (fun _ _ => rfl))))
      (pss_cons (ps_set (i := 8) sclaw.nd rfl (by first | exact Or.inl rfl | exact Or.inr rfl) (pe_cmpR (eqK K (hu := hr.units)) (pe_c (E := EN) O__law_plain hr (by decide) (fun σ => passN σ) (pa_cons (pe_ix (ixL K) (pv 2) (pv 4) (fun _ _ => rfl)) pa_nil)) (pe_c (E := EN) O__law_plain hr (by decide) (fun σ => passN σ) (pa_cons (pe_ix (ixL K) (pv 2) (pv 6) (fun _ _ => rfl)) pa_nil)) (nomark _)))
      (pss_cons (ps_if (PW.pt (pw_or (pt_not (pt_val (pe_callB (isK K) (by rfl) T.f_isinstance (by decide +kernel) (pa_cons (pv 7) (pa_cons (pe_bltn (v := .ty "bool") (by rfl) T.f_bool (by decide +kernel) rfl) pa_nil))))) (pw_or (pt_cmpR op_ne (pv 7) (pv 8) (nomark _)) (pw_or1 (pt_cmpR op_ne (pe_cmpR (eqK K (hu := hr.units)) (pe_prop (pe_ix (ixL K) (pv 5) (pv 4) (fun _ _ => rfl)) T.c_Standing T.p_key FK (hr.mono (by decide)) bK .nil passF (by rfl)) (pe_prop (pe_ix (ixL K) (pv 5) (pv 6) (fun _ _ => rfl)) T.c_Standing T.p_key FK (hr.mono (by decide)) bK .nil passF (by rfl)) (nomark _)) (pv 8) (nomark _))))))
      (pss_one (ps_ret pe_bl))
      pss_nil)
      (pss_one (ps_if (pt_not (pt_val (pe_callB (isK K) (by rfl) T.f_isinstance (by decide +kernel) (pa_cons (pe_prop (pe_ix (ixL K) (pv 5) (pv 4) (fun _ _ => rfl)) T.c_Standing T.p_key FK (hr.mono (by decide)) bK .nil passF (by rfl)) (pa_cons (pe_bltn (v := .ty "tuple") (by rfl) T.f_tuple (by decide +kernel) rfl) pa_nil)))))
      (pss_one (ps_ret pe_bl))
      pss_nil)))))))))
  (pss_one (ps_ret pe_bl)))))))))), ?_⟩
  refine ⟨_, rfl, a, ns, rfl, ha, fun H1 p W0 s1 np hw ok0 => ?_⟩
  refine ⟨_, rfl, Nat.le_trans (by show 1 ≤ 16777216; decide) big, fun L nL => ?_⟩
  have s2 := same_new (o := .lst [.ref p]) nL
  have hL : RL (upd H1 L (.lst [.ref p])) L [.ref p] := upd_same ..
  have nL0 : H L = none := s1.free nL
  have hwN : WAtN L (upd H1 L (.lst [.ref p])) p W0 := by
    obtain ⟨d, f, c, h1, h2, ⟨qs, h3, h4⟩, ⟨rs, h5, h6⟩⟩ := hw
    have g : ∀ {a : Addr} {xs : List V}, RL H1 a xs → PN L (upd H1 L (.lst [.ref p])) a xs := fun h => pn_out h nL s2
    exact ⟨d, f, c, g h1, g h2, ⟨qs, g h3, pimp (fun _ _ _ e => e.mono fun _ _ z => g z) h4⟩, ⟨rs, g h5, pimp (fun _ _ _ e => e.mono fun _ _ z => g z) h6⟩⟩
  generalize upd H1 L (.lst [.ref p]) = H2 at s2 hL hwN
  have s02 := same2 s1 s2
  refine ⟨_, rfl, a, ns, 13, rfl, Same.seq s02 ha, fun z0 => ?_⟩
  refine ⟨Nat.le_trans (by show 6 ≤ 16777216; decide) big, fun D nD => ?_⟩
  have s3 := same_new (o := .lst (nV SHP)) nD
  refine ⟨z0, D, SHP, rfl, .inl (.inl (upd_same ..)), by decide, by show 6 ≤ _; decide, fun H3 q sh s4 nq hq sl slt => ?_⟩
  have s23 := same2 s3 s4
  have sl : sh.length = 6 := sl
  have d0 : at0 sh 0 < 4 := slt 0 (by show 0 < 6; decide)
  have dr : ∀ j, 1 ≤ j → j < 6 → at0 sh j < 2 := fun j h1 h6 => by
    have := slt j h6
    have e : at0 SHP j = 2 := by
      have : ∀ j, j < 6 → 1 ≤ j → at0 SHP j = 2 := by decide
      exact this j h6 h1
    omega
  have hq : RL H3 q (nV sh) := hq
  have qL : q ≠ L := fun e => by
    have z := s3 _ _ hL
    rw [← e] at z
    have z2 : none = some _ := nq.symm.trans z
    cases z2
  refine ⟨_, rfl, q, _, _, _, rfl, rfl, hq.sq, atI_nat (j := 0) (nV_at0 (by omega)), _, _, rfl, rfl, _, rfl, by omega, by omega, ?_⟩
  rw [show (2 + ((at0 sh 0 : Nat) : Int)).toNat = 2 + at0 sh 0 from by omega]
  refine for_it walk_range (fun i σ H4 => ∃ (m4 : Option V) (ws : List Addr) (Ws : List Wd), σ = [some (.ref a), some (.ref p), some (.ref L), some (.ref q), m4, none, none, none, none] ∧ RL H4 L (ws.map V.ref) ∧ Paired (WAtN L H4) ws Ws ∧ (∀ W ∈ Ws, W.Ok (30 + i)) ∧ ws.length = 1 + i ∧ Same H H4 ∧ PN L H4 q (nV sh) ∧ WAtN L H4 p W0) ?_ (fun _ _ _ _ _ => trivial) ?_ ?_
  · exact ⟨none, [p], [W0], rfl, hL.same s23, .cons (hwN.same s23) .nil, fun W hW => by rw [List.mem_singleton.mp hW]; exact ok0, rfl, same2 s02 s23, ⟨qL, hq⟩, hwN.same s23⟩
  · rintro i x σ H5 H4 hi ⟨m4, ws, Ws, rfl, q1, q2, q3, q4, q5, q6, q7⟩ ⟨rfl, hx⟩
    have hx : x = .int (i : Nat) := hx.trans (congrArg V.int (Int.zero_add _))
    subst hx
    have e1 : (1 : Int) + ((i : Nat) : Int) = ((1 + i : Nat) : Int) := by omega
    have e14 : (14 : Int) + 2 * ((i : Nat) : Int) = ((14 + 2 * i : Nat) : Int) := by omega
    have di := dr (1 + i) (by omega) (by omega)
    have pl := Paired.length q2
    have em : ((i : Nat) : Int) * ((at0 sh (1 + i) : Nat) : Int) = ((i * at0 sh (1 + i) : Nat) : Int) := by omega
    have lm : i * at0 sh (1 + i) < ws.length := by
      have : i * at0 sh (1 + i) ≤ i * 1 := Nat.mul_le_mul_left _ (by omega)
      omega
    obtain ⟨u, W, k1, k2, k3⟩ := pget2 q2 lm
    refine ⟨_, rfl, .inl ⟨rfl, _, .inl (.inl q1)⟩, _, rfl, _, rfl, .inl ⟨_, rfl, _, rfl, _, rfl, _, _, rfl, rfl, q, _, _, _, rfl, rfl, q6.2.sq, by rw [e1]; exact atI_nat (nV_at0 (by omega)), _, _, rfl, rfl, .inl ⟨by omega, by omega⟩, L, _, _, _, rfl, rfl, q1.sq, by rw [em]; exact atI_nat (by rw [List.getElem?_map, k1] <;> rfl), ?_⟩⟩
    refine ⟨_, rfl, _, rfl, _, _, rfl, rfl, .inl ⟨by decide, by decide⟩, _, _, rfl, rfl, a, ns, 14 + 2 * i, congrArg (fun z => [V.ref a, V.int z]) e14, Same.seq q5 ha, fun z1 => ?_⟩
    refine ⟨u, z1, W, 30 + i, rfl, k3.at, q3 W (List.mem_of_getElem? k2), by omega, fun H6 p2 W' s6 np2 hw' ok' => ?_⟩
    have q1' := q1.same s6
    have p2L : p2 ≠ L := fun e => by
      have z : H4 L = some (.lst (ws.map V.ref)) := q1
      rw [← e, np2] at z
      cases z
    have hw2 : WAtN L H6 p2 W' := by
      cases ws with
      | nil => rw [List.length_nil] at q4; omega
      | cons w0 ws' =>
        obtain ⟨_, hh⟩ := phead q2
        obtain ⟨x1, x2, x3, hx⟩ := hh.head
        exact watn q1' (hx.same s6) p2L ok'.d1 hw'
    refine ⟨L, _, _, rfl, rfl, q1', by rw [List.length_map]; omega, ?_⟩
    refine ⟨_, ws ++ [p2], Ws ++ [W'], rfl, by rw [RL, upd_same, List.map_append] <;> rfl, psnoc (pimp (fun _ _ _ e => (e.same s6).put) q2) hw2.put, fun Y hY => ?_, by rw [List.length_append, q4, List.length_singleton]; omega, same_put nL0 (same2 q5 s6), (q6.same s6).put, (q7.same s6).put⟩
    rcases List.mem_append.mp hY with h | h
    · exact (q3 Y h).mono (by omega)
    · rw [List.mem_singleton.mp h]; exact ok'
  rintro σ H4 ⟨m4, ws, Ws, rfl, q1, q2, q3, q4, q5, q6, q7⟩
  refine ⟨_, rfl, .inl ⟨rfl, _, .inl (.inl q1)⟩, _, rfl, L, _, _, rfl, rfl, q1, by rw [List.length_map]; omega, ?_⟩
  have hL5 : RL (upd H4 L (.lst (ws.map V.ref ++ [.ref p]))) L ((ws ++ [p]).map V.ref) := by rw [RL, upd_same, List.map_append] <;> rfl
  have w5 : Paired (fun q W => WAt (upd H4 L (.lst (ws.map V.ref ++ [.ref p]))) q W ∧ W.Ok 40) (ws ++ [p]) (Ws ++ [W0]) := by
    have g : Paired (fun q W => WAt (upd H4 L (.lst (ws.map V.ref ++ [.ref p]))) q W ∧ W.Ok 40) ws Ws := by
      have : ∀ {as : List Addr} {ps : List Wd}, Paired (WAtN L H4) as ps → (∀ W ∈ ps, W.Ok (30 + (2 + at0 sh 0))) → Paired (fun q W => WAt (upd H4 L (.lst (ws.map V.ref ++ [.ref p]))) q W ∧ W.Ok 40) as ps := fun h => by
        induction h with
        | nil => exact fun _ => .nil
        | cons e _ ih => exact fun z => .cons ⟨e.put.at, (z _ List.mem_cons_self).mono (by omega)⟩ (ih fun W hW => z W (List.mem_cons_of_mem _ hW))
      exact this q2 q3
    exact psnoc g ⟨q7.put.at, ok0.mono (by omega)⟩
  have s05 : Same H (upd H4 L (.lst (ws.map V.ref ++ [.ref p]))) := same_put nL0 q5
  generalize upd H4 L (.lst (ws.map V.ref ++ [.ref p])) = H5 at hL5 w5 s05
  have wl : (ws ++ [p]).length ≤ 7 := by rw [List.length_append, q4, List.length_singleton]; omega
  generalize ws ++ [p] = us at hL5 w5 wl
  generalize Ws ++ [W0] = Us at w5
  have ul := Paired.length w5
  clear q1 q2 q3 q4 q5 q6 q7
  refine ⟨Nat.zero_le _, fun M nM => ?_⟩
  have nM0 : H M = none := s05.free nM
  refine ⟨_, rfl, L, _, rfl, .inl (hL5.same (same_new nM)).sq, _, rfl, by omega, by rw [List.length_map]; omega, ?_⟩
  rw [show (((us.map V.ref).length : Nat) : Int).toNat = us.length from by rw [List.length_map]; omega]
  refine for_it walk_range (fun i σ H6 => ∃ (m4 : Option V) (ms : List Addr), σ = [some (.ref a), some (.ref p), some (.ref L), some (.ref q), m4, some (.ref M), none, none, none] ∧ RL H6 M (ms.map V.ref) ∧ Paired (fun q W => StandAt K H6 q (Wd.std W)) ms (Us.take i) ∧ Same H5 H6) ?_ (fun _ _ _ _ _ => trivial) ?_ ?_
  · exact ⟨m4, [], rfl, upd_same .., .nil, same_new nM⟩
  · rintro i x σ H7 H6 hi ⟨m4, ms, rfl, g1, g2, g3⟩ ⟨rfl, hx⟩
    have hx : x = .int (i : Nat) := hx.trans (congrArg V.int (Int.zero_add _))
    subst hx
    have e25 : (25 : Int) + 2 * ((i : Nat) : Int) = ((25 + 2 * i : Nat) : Int) := by omega
    obtain ⟨u, W, k1, k2, k3, k4⟩ := pget2 w5 hi
    have ml : ms.length = i := by rw [Paired.length g2, List.length_take]; omega
    refine ⟨_, rfl, .inl ⟨rfl, _, .inl (.inl g1)⟩, _, rfl, _, rfl, L, _, _, _, rfl, rfl, (hL5.same g3).sq, atI_nat (by rw [List.getElem?_map, k1] <;> rfl), _, rfl, _, rfl, _, _, rfl, rfl, .inl ⟨by decide, by decide⟩, _, _, rfl, rfl, a, ns, 25 + 2 * i, congrArg (fun z => [V.ref a, V.int z]) e25, Same.seq (same2 s05 g3) ha, fun z1 => ?_⟩
    refine ⟨u, z1, W, 40, rfl, k3.same g3, k4, by omega, fun H8 y s8 ny hy => ?_⟩
    have g1' := g1.same s8
    refine ⟨M, _, _, rfl, rfl, g1', by rw [List.length_map]; omega, ?_⟩
    refine ⟨_, ms ++ [y], rfl, by rw [RL, upd_same, List.map_append] <;> rfl, ?_, same_put nM (same2 g3 s8)⟩
    rw [List.take_add_one, k2]
    exact psnoc (pimp (fun _ _ _ e => stand_put g1' (e.same s8)) g2) (stand_put g1' hy)
  rintro σ H6 ⟨m4, ms, rfl, g1, g2, g3⟩
  rw [ul, List.take_length] at g2
  have ml := Paired.length g2
  have s06 := same2 s05 g3
  refine ⟨_, rfl, M, _, rfl, .inl g1.sq, _, rfl, by omega, by rw [List.length_map]; omega, ?_⟩
  rw [show (((ms.map V.ref).length : Nat) : Int).toNat = ms.length from by rw [List.length_map]; omega]
  refine for_it walk_range (fun i σ H7 => ∃ (m4 m6 m7 m8 : Option V), σ = [some (.ref a), some (.ref p), some (.ref L), some (.ref q), m4, some (.ref M), m6, m7, m8] ∧ Same H6 H7) ⟨m4, none, none, none, rfl, fun _ _ e => e⟩ (fun _ _ _ _ _ => trivial) ?_ ?_
  · rintro i x σ H8 H7 hi ⟨m4, m6, m7, m8, rfl, t1⟩ ⟨rfl, hx⟩
    have hx : x = .int (i : Nat) := hx.trans (congrArg V.int (Int.zero_add _))
    subst hx
    obtain ⟨u, W, k1, k2, k3⟩ := pget2 g2 hi
    refine ⟨_, rfl, _, rfl, M, _, _, _, rfl, rfl, (g1.same t1).sq, atI_nat (by rw [List.getElem?_map, k1] <;> rfl), u, W.std, rfl, k3.same t1, fun H8 t2 => ?_⟩
    have t12 := same2 t1 t2
    refine ⟨_, rfl, iteF ?_⟩
    refine ⟨_, rfl, M, _, rfl, .inl (g1.same t12).sq, _, rfl, by omega, by rw [List.length_map]; omega, ?_⟩
    rw [show (((ms.map V.ref).length : Nat) : Int).toNat = ms.length from by rw [List.length_map]; omega]
    obtain ⟨uw, W', l1, l2, l3, l4⟩ := pget2 w5 (i := i) (by omega)
    have eW : W' = W := Option.some.inj (l2.symm.trans k2)
    subst eW
    refine for_it walk_range (fun j σ H9 => ∃ (m6 m7 m8 : Option V), σ = [some (.ref a), some (.ref p), some (.ref L), some (.ref q), some (.int (i : Nat)), some (.ref M), m6, m7, m8] ∧ Same H6 H9) ⟨m6, m7, m8, rfl, t12⟩ (fun _ _ _ _ _ => trivial) ?_ ?_
    · rintro j x σ H10 H9 hj ⟨m6, m7, m8, rfl, t3⟩ ⟨rfl, hx⟩
      have hx : x = .int (j : Nat) := hx.trans (congrArg V.int (Int.zero_add _))
      subst hx
      obtain ⟨v, Y, n1, n2, n3⟩ := pget2 g2 hj
      obtain ⟨vw, Y', o1, o2, o3, o4⟩ := pget2 w5 (i := j) (by omega)
      have eY : Y' = Y := Option.some.inj (o2.symm.trans n2)
      subst eY
      have iu : ∀ {H' : Hp}, Same H6 H' → (V.ref <$> (some u)) = some (V.ref u) := fun _ => rfl
      have gu : (ms.map V.ref)[i]? = some (.ref u) := by rw [List.getElem?_map, k1] <;> rfl
      have gv : (ms.map V.ref)[j]? = some (.ref v) := by rw [List.getElem?_map, n1] <;> rfl
      have wu : (us.map V.ref)[i]? = some (.ref uw) := by rw [List.getElem?_map, l1] <;> rfl
      have wv : (us.map V.ref)[j]? = some (.ref vw) := by rw [List.getElem?_map, o1] <;> rfl
      have kW := l4.kok
      have kY := o4.kok
      have hu := k3.same t3
      have hv := n3.same t3
      obtain ⟨_, td, tf, tp, tfr, tpr, dd, dsa, dw, dp, fas, pas, fra, pra, hsu⟩ := hu
      obtain ⟨_, td', tf', tp', tfr', tpr', dd', dsa', dw', dp', fas', pas', fra', pra', hsv⟩ := hv
      obtain ⟨dxu, iu⟩ := hsu.ins
      obtain ⟨dxv, iv⟩ := hsv.ins
      refine ⟨_, rfl, _, rfl, M, _, _, _, rfl, rfl, (g1.same t3).sq, atI_nat gu, _, rfl, _, rfl, M, _, _, _, rfl, rfl, (g1.same t3).sq, atI_nat gv, u, dxu, _, _, rfl, iu, .base (.ins iv T.c_Standing T.cl_Standing.ca T.cl_Standing.cg T.cl_Standing.ct T.cl_Standing.ob), T.nft_Standing, u, .ref v, W'.std, rfl, k3.same t3, .inl ⟨v, Y'.std, rfl, n3.same t3, kW, kY, fun H10 t4 => ?_⟩⟩
      have t34 := same2 t3 t4
      have g34 := same2 g3 t34
      refine ⟨_, rfl, _, rfl, L, _, _, _, rfl, rfl, (hL5.same g34).sq, atI_nat wu, uw, W', 40, rfl, l3.same g34, l4, fun H11 pa t5 na hpa => ?_⟩
      have g35 := same2 g34 t5
      refine ⟨_, rfl, _, rfl, L, _, _, _, rfl, rfl, (hL5.same g35).sq, atI_nat wv, vw, Y', 40, rfl, o3.same g35, o4, fun H12 pb t6 nb hpb => ?_⟩
      refine ⟨_, _, row_dp (hpa.same t6), row_dp hpb, rowE_sh _ kW, rowE_sh _ kY, ?_⟩
      rw [rowE.eqv]
      have t36 := same2 t34 (same2 t5 t6)
      have t46 := same2 t4 (same2 t5 t6)
      refine ⟨_, rfl, .bl _, .ty "bool", _, _, true, rfl, .ty _, .of (.base (.bl _)), T.is_bool_bool, _, rfl, iteF ?_⟩
      refine ⟨_, rfl, _, rfl, rfl, _, rfl, ?_⟩
      rw [show (!decide (V.bl (decide (W'.std.kt = Y'.std.kt)) = V.bl (decide (W'.std.kt = Y'.std.kt)))) = false from by rw [decide_eq_true rfl] <;> rfl]
      refine iteF ?_
      refine ⟨_, rfl, _, rfl, M, _, _, _, rfl, rfl, (g1.same t36).sq, atI_nat gu, u, dxu, _, rfl, t46 _ _ iu, u, W'.std, td, tf, tp, tfr, tpr, dd, dsa, dw, dp, fas, pas, fra, pra, rfl, hsu.same t46, fun H13 qa t7 fa => ?_⟩
      have t47 := same2 t46 t7
      have t37 := same2 t36 t7
      refine ⟨_, rfl, _, rfl, M, _, _, _, rfl, rfl, (g1.same t37).sq, atI_nat gv, v, dxv, _, rfl, t47 _ _ iv, v, Y'.std, td', tf', tp', tfr', tpr', dd', dsa', dw', dp', fas', pas', fra', pra', rfl, hsv.same t47, fun H14 qb t8 fb => ?_⟩
      have t48 := same2 t47 t8
      have t38 := same2 t37 t8
      refine ⟨_, _, key_dp (hsu.same t48) (Same.sqT t8 fa.sq), key_dp (hsv.same t48) fb.sq, keyE_sh _ kW, keyE_sh _ kY, ?_⟩
      rw [keyE.eqv]
      refine ⟨_, rfl, rfl, _, rfl, ?_⟩
      rw [show (!decide (V.bl (decide (W'.std.kt = Y'.std.kt)) = V.bl (decide (W'.std.kt = Y'.std.kt)))) = false from by rw [decide_eq_true rfl] <;> rfl]
      refine iteF ?_
      refine ⟨_, rfl, _, rfl, M, _, _, _, rfl, rfl, (g1.same t38).sq, atI_nat gu, u, dxu, _, rfl, t48 _ _ iu, u, W'.std, td, tf, tp, tfr, tpr, dd, dsa, dw, dp, fas, pas, fra, pra, rfl, hsu.same t48, fun H15 qc t9 fc => ?_⟩
      refine ⟨.ref qc, .ty "tuple", _, _, true, rfl, .ty _, .of (tyT fc.sq), T.is_tuple_tuple, _, rfl, iteF ?_⟩
      exact ⟨_, _, _, rfl, same2 t38 t9⟩
    rintro σ H9 ⟨m6, m7, m8, rfl, t3⟩
    exact ⟨_, m6, m7, m8, rfl, t3⟩
  rintro σ H7 ⟨m4, m6, m7, m8, rfl, t1⟩
  exact hQ H7
end
end K05
set_option Elab.async false
set_option linter.all false
set_option maxRecDepth 100000
set_option maxHeartbeats 4000000
/-! rows with names, changed. -/
namespace K05
open PySem PySem.Spec PyProof.Rows L2 Ms
def NOk {α : Type} (nm : α → Str) (ok : α → Prop) (l : List α) : Prop := (l.map nm).Nodup ∧ ∀ x ∈ l, ok x
section
variable {α : Type} {nm : α → Str} {ok : α → Prop} {l : List α}
theorem nodup_set {l : List Str} : ∀ {i : Nat} {x y : Str}, l.Nodup → l[i]? = some x → (y = x ∨ ¬ y ∈ l) → (l.set i y).Nodup := by
  induction l with
  | nil => intro i x y _ e; cases e
  | cons a l ih =>
    intro i x y h e hn
    obtain ⟨h1, h2⟩ := List.nodup_cons.mp h
    cases i with
    | zero =>
      cases e
      refine List.nodup_cons.mpr ⟨?_, h2⟩
      rcases hn with rfl | hn
      · exact h1
      · exact fun m => hn (List.mem_cons_of_mem _ m)
    | succ i =>
      refine List.nodup_cons.mpr ⟨fun m => ?_, ih h2 e (hn.imp id fun hn m => hn (List.mem_cons_of_mem _ m))⟩
      rcases List.mem_or_eq_of_mem_set m with m | m
      · exact h1 m
      · rcases hn with hn | hn
        · have : x ∈ l := List.mem_of_getElem? e
          rw [m, hn] at h1
          exact h1 this
        · exact hn (m ▸ List.mem_cons_self)
theorem NOk.set (h : NOk nm ok l) {i : Nat} {x y : α} (e : l[i]? = some x) (hn : nm y = nm x ∨ ¬ nm y ∈ l.map nm) (hy : ok y) : NOk nm ok (l.set i y) := by
  refine ⟨?_, fun z hz => ?_⟩
  · rw [List.map_set]
    exact nodup_set h.1 (by rw [List.getElem?_map, e] <;> rfl) hn
  · rcases List.mem_or_eq_of_mem_set hz with m | m
    · exact h.2 z m
    · rw [m]; exact hy
theorem NOk.rot (h : NOk nm ok l) (n : Nat) : NOk nm ok (l.drop n ++ l.take n) := by
  have p : (l.drop n ++ l.take n).Perm l := by
    have := List.perm_append_comm (l₁ := l.drop n) (l₂ := l.take n)
    rw [List.take_append_drop] at this
    exact this
  exact ⟨(p.map nm).nodup_iff.mpr h.1, fun z hz => h.2 z (p.mem_iff.mp hz)⟩
theorem NOk.del (h : NOk nm ok l) (n : Nat) : NOk nm ok (l.take n ++ l.drop (n + 1)) := by
  have s : (l.take n ++ l.drop (n + 1)).Sublist l := by
    rw [← List.eraseIdx_eq_take_drop_succ]
    exact List.eraseIdx_sublist ..
  exact ⟨h.1.sublist (s.map nm), fun z hz => h.2 z (s.subset hz)⟩
theorem NOk.cons (h : NOk nm ok l) {y : α} (hn : ¬ nm y ∈ l.map nm) (hy : ok y) : NOk nm ok (y :: l) := ⟨List.nodup_cons.mpr ⟨hn, h.1⟩, fun z hz => by
  rcases List.mem_cons.mp hz with m | m
  · rw [m]; exact hy
  · exact h.2 z m⟩
end
section
variable {α β : Type} {F : α → β → Prop}
theorem Paired.setP {xs : List α} {ys : List β} (h : Paired F xs ys) : ∀ (i : Nat) {x : α} {y : β}, F x y → Paired F (xs.set i x) (ys.set i y) := by
  induction h with
  | nil => intro i x y _; exact .nil
  | cons e h ih =>
    intro i x y f
    cases i with
    | zero => exact .cons f h
    | succ i => exact .cons e (ih i f)
theorem Paired.takeP {xs : List α} {ys : List β} (h : Paired F xs ys) : ∀ n : Nat, Paired F (xs.take n) (ys.take n) := by
  induction h with
  | nil => intro n; rw [List.take_nil, List.take_nil]; exact .nil
  | cons e h ih =>
    intro n
    cases n with
    | zero => exact .nil
    | succ n => exact .cons e (ih n)
theorem Paired.dropP {xs : List α} {ys : List β} (h : Paired F xs ys) : ∀ n : Nat, Paired F (xs.drop n) (ys.drop n) := by
  induction h with
  | nil => intro n; rw [List.drop_nil, List.drop_nil]; exact .nil
  | cons e h ih =>
    intro n
    cases n with
    | zero => exact .cons e h
    | succ n => exact ih n
theorem Paired.appP {xs xs' : List α} {ys ys' : List β} (h : Paired F xs ys) (g : Paired F xs' ys') : Paired F (xs ++ xs') (ys ++ ys') := by
  induction h with
  | nil => exact g
  | cons e h ih => exact .cons e ih
end
theorem FOk.nok {n : Nat} {fs : List (Str × List Nat)} : FOk n fs ↔ NOk (·.1) (fun f => Name f.1 ∧ f.2.length = n ∧ ∀ d ∈ f.2, d ≤ 9) fs := Iff.rfl
theorem POk.nok {n : Nat} {ps : List (Str × List Int × List Nat)} : POk n ps ↔ NOk (·.1) (fun p => Name p.1 ∧ p.2.1.length = n ∧ p.2.2.length = n ∧ ∀ d ∈ p.2.2, 1 ≤ d) ps := Iff.rfl
/-- rows as names and the rest -/
theorem fx_rows {H : Hp} {qs : List Addr} {fs : List (Str × List Nat)} (h : Paired (FX (RL H)) qs fs) : ∃ rows : List (Str × List V), Paired (RowAt H) qs rows ∧ rows.map (·.1) = fs.map (·.1) ∧ (∀ r ∈ rows, r.2.length ≤ 10) ∧ Paired (fun r f => ∃ da, r.2 = [V.ref da] ∧ RL H da (nV f.2)) rows fs := by
  induction h with
  | nil => exact ⟨[], .nil, rfl, fun _ h => absurd h List.not_mem_nil, .nil⟩
  | cons e h ih =>
    rename_i x y xs ys
    obtain ⟨rows, r1, r2, r3, r4⟩ := ih
    obtain ⟨da, e1, e2⟩ := e
    refine ⟨(y.1, [.ref da]) :: rows, .cons e1 r1, by rw [List.map_cons, List.map_cons, r2], fun r hr => ?_, .cons ⟨da, rfl, e2⟩ r4⟩
    rcases List.mem_cons.mp hr with m | m
    · rw [m]; show 1 ≤ 10; decide
    · exact r3 r m
theorem px_rows {H : Hp} {qs : List Addr} {fs : List (Str × List Int × List Nat)} (h : Paired (PX (RL H)) qs fs) : ∃ rows : List (Str × List V), Paired (RowAt H) qs rows ∧ rows.map (·.1) = fs.map (·.1) ∧ (∀ r ∈ rows, r.2.length ≤ 10) ∧ Paired (fun r f => ∃ m w, r.2 = [V.ref m, V.ref w] ∧ RL H m (f.2.1.map V.int) ∧ RL H w (nV f.2.2)) rows fs := by
  induction h with
  | nil => exact ⟨[], .nil, rfl, fun _ h => absurd h List.not_mem_nil, .nil⟩
  | cons e h ih =>
    rename_i x y xs ys
    obtain ⟨rows, r1, r2, r3, r4⟩ := ih
    obtain ⟨m, w, e1, e2, e3⟩ := e
    refine ⟨(y.1, [.ref m, .ref w]) :: rows, .cons e1 r1, by rw [List.map_cons, List.map_cons, r2], fun r hr => ?_, .cons ⟨m, w, rfl, e2, e3⟩ r4⟩
    rcases List.mem_cons.mp hr with m | m
    · rw [m]; show 2 ≤ 10; decide
    · exact r3 r m
end K05
set_option Elab.async false
set_option linter.all false
set_option maxRecDepth 100000
set_option maxHeartbeats 4000000
/-! slices joined. -/
namespace K05
open PySem PySem.Spec PyProof.Rows L2 Ms
theorem cut_from2 (xs : List V) {n : Nat} : cutV xs (some ((n : Nat) : Int)) none = xs.drop n := by
  unfold cutV
  have e0 : HT.sIx xs.length xs.length none = xs.length := rfl
  have e1 : HT.sIx xs.length 0 (some ((n : Nat) : Int)) = min n xs.length := by
    unfold HT.sIx
    simp
    intro h
    omega
  rw [e0, e1, List.take_of_length_le]
  · rcases Nat.le_total n xs.length with h | h
    · rw [Nat.min_eq_left h]
    · rw [Nat.min_eq_right h, List.drop_of_length_le (Nat.le_refl _), List.drop_of_length_le h]
  · rw [List.length_drop]
    omega
theorem del_cat {K : PySem.W.Frag} {σ : L2.St} {H : Hp} {Q : VK} {i j : Nat} {f : Addr} {n : Nat} {qs : List Addr} (hi : σ[i]? = some (some (.ref f))) (hj : σ[j]? = some (some (.int (n : Nat)))) (hf : RL H f (qs.map V.ref)) (hn : n ≤ qs.length) (hl : qs.length ≤ 1000)
    (h : ∀ H' z, Same H H' → H z = none → RL H' z ((qs.take n ++ qs.drop (n + 1)).map V.ref) → Q (.ref z) H') :
    tOp rCat (tSl (rSlL K) (tVar i) tNoPart (tPart (tVar j))) (tSl (rSlL K) (tVar i) (tPart (tOp (rI0 fun i j => V.int (i + j)) (tVar j) (tC (V.int 1)))) tNoPart) σ H Q := by
  have big : (16777216 : Nat) ≤ sizeLine := by decide
  refine ⟨_, hi, _, hj, _, rfl, f, _, rfl, hf.sq, fun p1 np1 => ?_⟩
  rw [cut_to _ (by rw [List.length_map]; exact hn)]
  have v1 := same_new (o := .lst ((qs.map V.ref).take n)) np1
  have w1 : RL (upd H p1 (.lst ((qs.map V.ref).take n))) p1 ((qs.map V.ref).take n) := upd_same ..
  generalize upd H p1 (.lst ((qs.map V.ref).take n)) = H6 at v1 w1
  refine ⟨_, hi, _, hj, _, _, rfl, rfl, _, rfl, f, _, rfl, (hf.same v1).sq, fun p2 np2 => ?_⟩
  rw [show cutV (qs.map V.ref) (some (((n : Nat) : Int) + 1)) none = (qs.map V.ref).drop (n + 1) from cut_from2 _ (n := n + 1)]
  have v2 := same_new (o := .lst ((qs.map V.ref).drop (n + 1))) np2
  have w2 : RL (upd H6 p2 (.lst ((qs.map V.ref).drop (n + 1)))) p2 ((qs.map V.ref).drop (n + 1)) := upd_same ..
  generalize upd H6 p2 (.lst ((qs.map V.ref).drop (n + 1))) = H7 at v2 w2
  refine ⟨p1, p2, _, _, rfl, rfl, v2 _ _ w1, w2, by rw [List.length_take, List.length_drop, List.length_map]; omega, fun z nz => ?_⟩
  refine h _ z (same2 v1 (same2 v2 (same_new nz))) ((same2 v1 v2).free nz) ?_
  rw [List.map_append, List.map_take, List.map_drop]
  exact upd_same ..
theorem rot_cat {K : PySem.W.Frag} {σ : L2.St} {H : Hp} {Q : VK} {i : Nat} {f : Addr} {qs : List Addr} (hi : σ[i]? = some (some (.ref f))) (hf : RL H f (qs.map V.ref)) (hn : 1 ≤ qs.length) (hl : qs.length ≤ 1000)
    (h : ∀ H' z, Same H H' → H z = none → RL H' z ((qs.drop 1 ++ qs.take 1).map V.ref) → Q (.ref z) H') :
    tOp rCat (tSl (rSlL K) (tVar i) (tPart (tC (V.int 1))) tNoPart) (tSl (rSlL K) (tVar i) tNoPart (tPart (tC (V.int 1)))) σ H Q := by
  have big : (16777216 : Nat) ≤ sizeLine := by decide
  refine ⟨_, hi, _, rfl, f, _, rfl, hf.sq, fun p1 np1 => ?_⟩
  rw [show cutV (qs.map V.ref) (some (1 : Int)) none = (qs.map V.ref).drop 1 from cut_from2 _ (n := 1)]
  have v1 := same_new (o := .lst ((qs.map V.ref).drop 1)) np1
  have w1 : RL (upd H p1 (.lst ((qs.map V.ref).drop 1))) p1 ((qs.map V.ref).drop 1) := upd_same ..
  generalize upd H p1 (.lst ((qs.map V.ref).drop 1)) = H6 at v1 w1
  refine ⟨_, hi, _, rfl, f, _, rfl, (hf.same v1).sq, fun p2 np2 => ?_⟩
  rw [show cutV (qs.map V.ref) none (some (1 : Int)) = (qs.map V.ref).take 1 from cut_to _ (n := 1) (by rw [List.length_map]; exact hn)]
  have v2 := same_new (o := .lst ((qs.map V.ref).take 1)) np2
  have w2 : RL (upd H6 p2 (.lst ((qs.map V.ref).take 1))) p2 ((qs.map V.ref).take 1) := upd_same ..
  generalize upd H6 p2 (.lst ((qs.map V.ref).take 1)) = H7 at v2 w2
  refine ⟨p1, p2, _, _, rfl, rfl, v2 _ _ w1, w2, by rw [List.length_take, List.length_drop, List.length_map]; omega, fun z nz => ?_⟩
  refine h _ z (same2 v1 (same2 v2 (same_new nz))) ((same2 v1 v2).free nz) ?_
  rw [List.map_append, List.map_take, List.map_drop]
  exact upd_same ..
theorem renm_facts {H : Hp} {Q : VK} {E : XK} {f : Addr} {z : Str} {k n : Nat} {fs : List (Str × List Nat)} (lf : LFacts H f fs) (fk : FOk n fs) (l5 : fs.length ≤ 5) (hk : k < fs.length) (hz : Name z)
    (h : ∀ H' f2 fs2, Same H H' → LFacts H' f2 fs2 → FOk n fs2 → fs2.length = fs.length → Q (.ref f2) H') : spRenm [.ref f, .int (k : Nat), .str z] H Q E := by
  obtain ⟨qs, lf1, lf2⟩ := lf
  have qsl := Paired.length lf2
  obtain ⟨rows, w1, w2, w3, w4⟩ := fx_rows lf2
  refine ⟨f, qs, rows, k, z, rfl, lf1, w1, w3, by omega, by omega, fun hi H6 v1 => ?_, fun hi H6 f2 u2 r v1 nf2 er hu2 hf2 => ?_⟩
  · exact h H6 f fs v1 ⟨qs, lf1.same v1, pimp (fun _ _ _ e => e.mono fun _ _ z => RL.same v1 z) lf2⟩ fk rfl
  · obtain ⟨x, ex, da2, er2, hda2⟩ := LiI.paired_get w4 er
    rw [er2] at hu2
    obtain ⟨xn, xl, x9⟩ := fk.2 x (List.mem_of_getElem? ex)
    exact h H6 f2 (fs.set k (z, x.2)) v1 ⟨_, hf2, Paired.setP (pimp (fun _ _ _ e => e.mono fun _ _ z => RL.same v1 z) lf2) k ⟨da2, hu2, RL.same v1 hda2⟩⟩ (NOk.set fk ex (.inr (by rw [← w2]; exact hi)) ⟨hz, xl, x9⟩) List.length_set
theorem renm_parts {H : Hp} {Q : VK} {E : XK} {f : Addr} {z : Str} {k n : Nat} {fs : List (Str × List Int × List Nat)} (lf : LParts H f fs) (fk : POk n fs) (l5 : fs.length ≤ 5) (hk : k < fs.length) (hz : Name z)
    (h : ∀ H' f2 fs2, Same H H' → LParts H' f2 fs2 → POk n fs2 → fs2.length = fs.length → Q (.ref f2) H') : spRenm [.ref f, .int (k : Nat), .str z] H Q E := by
  obtain ⟨qs, lf1, lf2⟩ := lf
  have qsl := Paired.length lf2
  obtain ⟨rows, w1, w2, w3, w4⟩ := px_rows lf2
  refine ⟨f, qs, rows, k, z, rfl, lf1, w1, w3, by omega, by omega, fun hi H6 v1 => ?_, fun hi H6 f2 u2 r v1 nf2 er hu2 hf2 => ?_⟩
  · exact h H6 f fs v1 ⟨qs, lf1.same v1, pimp (fun _ _ _ e => e.mono fun _ _ z => RL.same v1 z) lf2⟩ fk rfl
  · obtain ⟨x, ex, m2, w2', er2, hm2, hw2⟩ := LiI.paired_get w4 er
    rw [er2] at hu2
    obtain ⟨xn, xl, xw, x9⟩ := fk.2 x (List.mem_of_getElem? ex)
    exact h H6 f2 (fs.set k (z, x.2)) v1 ⟨_, hf2, Paired.setP (pimp (fun _ _ _ e => e.mono fun _ _ z => RL.same v1 z) lf2) k ⟨m2, w2', hu2, RL.same v1 hm2, RL.same v1 hw2⟩⟩ (NOk.set fk ex (.inr (by rw [← w2]; exact hi)) ⟨hz, xl, xw, x9⟩) List.length_set
end K05
set_option Elab.async false
set_option linter.all false
set_option maxRecDepth 100000
set_option maxHeartbeats 4000000
namespace K05
open PySem PySem.Spec PyProof.Rows L2 Ms
def SSV : List Nat := [20, 6, 6, 3, 3, 10, 999]
theorem pick_incr {ps l : List Nat} (hp : ps.Pairwise (· < ·)) (hl : l.Pairwise (· < ·)) (lt : ∀ p ∈ ps, p < l.length) : (pickR ps l).Pairwise (· < ·) := by
  show (ps.map _).Pairwise _
  rw [List.pairwise_map]
  refine hp.imp_of_mem fun {a b} ha hb hab => ?_
  have ea := of_at0 (lt a ha)
  have eb := of_at0 (lt b hb)
  have := List.pairwise_iff_getElem.mp hl a b (lt a ha) (lt b hb) hab
  rw [getE (lt a ha)] at ea
  rw [getE (lt b hb)] at eb
  rw [← Option.some.inj ea, ← Option.some.inj eb]
  exact this
theorem pick_mem {ps l : List Nat} (lt : ∀ p ∈ ps, p < l.length) {x : Nat} (hx : x ∈ pickR ps l) : x ∈ l := by
  obtain ⟨p, hp, rfl⟩ := List.mem_map.mp hx
  exact List.mem_of_getElem? (of_at0 (lt p hp))
theorem Wd.Ok.only {W : Wd} {b : Nat} (h : W.Ok b) {ps : List Nat} (p0 : 0 < ps.length) (p6 : ps.length ≤ 6) (pw : ps.Pairwise (· < ·)) (lt : ∀ p ∈ ps, p < W.deals.length) : (W.only ps).Ok b := by
  refine ⟨by show 0 < (pickR _ _).length; rw [pickR_len]; exact p0, by show (pickR _ _).length ≤ 6; rw [pickR_len]; exact p6, pick_incr pw h.dw lt, fun d hd => h.db d (pick_mem lt hd), ?_, ?_, fun f hf => ?_, fun f hf => ?_, by show (W.facts.map _).length ≤ 5; rw [List.length_map]; exact h.few, by show (W.parts.map _).length ≤ 5; rw [List.length_map]; exact h.pew⟩
  · show ((W.facts.map _).map _).Nodup
    rw [List.map_map]
    exact h.fn
  · show ((W.parts.map _).map _).Nodup
    rw [List.map_map]
    exact h.pn
  · obtain ⟨g, hg, rfl⟩ := List.mem_map.mp hf
    obtain ⟨h1, h2, h3⟩ := h.fo g hg
    exact ⟨h1, by show (pickR _ _).length = (pickR _ _).length; rw [pickR_len, pickR_len], fun d hd => h3 d (pick_mem (fun p hp => by rw [h2]; exact lt p hp) hd)⟩
  · obtain ⟨g, hg, rfl⟩ := List.mem_map.mp hf
    obtain ⟨h1, h2, h3, h4⟩ := h.po g hg
    exact ⟨h1, by show (ps.map _).length = (pickR _ _).length; rw [pickR_len, List.length_map], by show (pickR _ _).length = (pickR _ _).length; rw [pickR_len, pickR_len], fun d hd => h4 d (pick_mem (fun p hp => by rw [h3]; exact lt p hp) hd)⟩
theorem seq_cut2 {a b : TS} {D : Ends} {σ : L2.St} {H : Hp} (h : ∀ D1 : Ends, D1.nx = b D → D1.rt = D.rt → a D1 σ H) : tSeq a b D σ H := h _ rfl rfl
section
variable {P : Program} {w : World} {K : PySem.W.Frag} {mg : Str → Option Value} {base : Heap}
theorem ok__law_varied (T : Tx K mg) : Ok P w K mg base "_law_varied" 4 spVar := by
  have O__law_digits : Ok P w K mg base "_law_digits" 1 (spDigits K) := ok__law_digits T
  have O__law_name : Ok P w K mg base "_law_name" 2 spLName := ok__law_name T
  have O__law_only : Ok P w K mg base "_law_only" 1 spOnlyW := ok__law_only T
  have O__law_put : Ok P w K mg base "_law_put" 1 spPut := ok__law_put T
  have O__law_renamed : Ok P w K mg base "_law_renamed" 1 spRenm := ok__law_renamed T
  have O__law_moved : Ok P w K mg base "_law_moved" 1 spMoved := ok__law_moved T
  have O__law_marks : Ok P w K mg base "_law_marks" 1 (spMarks K) := ok__law_marks T
  refine ok_of T.a__law_varied sc_law_varied (fun vs H Q E h => ?_) bi__law_varied fun cdv A outer s H vs Q E hr h => ?_
  · obtain ⟨a, c, W, b, rfl, _⟩ := h
    rfl
  obtain ⟨a, c, W, b, rfl, ⟨d, f, cl, ha, hd, ⟨qf, hf1, hf2⟩, ⟨qc, hc1, hc2⟩⟩, ok, hb, hQ⟩ := h
  have big : (16777216 : Nat) ≤ sizeLine := by decide
  have d1 := ok.d1
  have d2 := ok.d2
  refine ⟨_, (pss_cons (ps_set (i := 2) sc_law_varied.nd rfl (by first | exact Or.inl rfl | exact Or.inr rfl) (pe_c (E := EN) O__law_digits hr (by decide) (fun σ => passN σ) (pa_cons (pv 1) (pa_cons (pe_lst (pa_cons pe_int (pa_cons pe_int (pa_cons pe_int (pa_cons pe_int (pa_cons pe_int (pa_cons pe_int (pa_cons pe_int pa_nil)))))))) pa_nil))))
  (pss_cons (ps_set (i := 3) sc_law_varied.nd rfl (by first | exact Or.inl rfl | exact Or.inr rfl) (pe_op op_modN (pe_callTy call_int1 (by rfl) T.f_int (by decide +kernel) (pa_cons (pe_ix (ixL K) (pv 2) pe_int (fun _ _ => rfl)) pa_nil)) (pe_callB (lenK K) (by rfl) T.f_len boot_len (pa_cons (pe_ix (ixL K) (pv 0) pe_int (fun _ _ => rfl)) pa_nil))))
  (pss_cons (ps_set (i := 4) sc_law_varied.nd rfl (by first | exact Or.inl rfl | exact Or.inr rfl) (pe_ix (ixL K) (pv 0) pe_int (fun _ _ => rfl)))
  (pss_cons (ps_set (i := 5) sc_law_varied.nd rfl (by first | exact Or.inl rfl | exact Or.inr rfl) (pe_ix (ixL K) (pv 0) pe_int (fun _ _ => rfl)))
  (pss_cons (ps_set (i := 6) sc_law_varied.nd rfl (by first | exact Or.inl rfl | exact Or.inr rfl) (pe_ix (ixL K) (pv 0) pe_int (fun _ _ => rfl)))
  (pss_cons (ps_set (i := 7) sc_law_varied.nd rfl (by first | exact Or.inl rfl | exact Or.inr rfl) (pe_c (E := EN) O__law_name hr (by decide) (fun σ => passN σ) (pa_cons (pe_op op_add (pe_callTy call_int1 (by rfl) T.f_int (by decide +kernel) (pa_cons (pe_ix (ixL K) (pv 2) pe_int (fun _ _ => rfl)) pa_nil)) (pe_op op_mul pe_int (pe_ix (ixL K) (pv 2) pe_int (fun _ _ => rfl)))) pa_nil)))
  (pss_cons (ps_if (PW.pt (pw_and (pt_cmpR op_eq (pe_ix (ixL K) (pv 2) pe_int (fun _ _ => rfl)) pe_int (nomark _)) (pw_and1 (pt_cmpR op_gt (pe_callB (lenK K) (by rfl) T.f_len boot_len (pa_cons (pv 4) pa_nil)) pe_int (nomark _)))))
  (pss_one (ps_ret (pe_c (E := EN) O__law_only hr (by decide) (fun σ => passN σ) (pa_cons (pv 0) (pa_cons (pe_lc (own := [("k", 8)]) (g := gName 8) rfl sc_law_varied.nd (pi_range1 rfl T.f_range (pa_cons (pe_callB (lenK K) (by rfl) T.f_len boot_len (pa_cons (pv 4) pa_nil)) pa_nil)) (blkOk_by (N := ["world", "cell", "row", "place", "deals", "facts", "callers", "name", "k", "deal", "at", "fact", "other", "names", "party", "mark", "number"]) (sc := defScope s_law_varied) (by decide +kernel)) (fun _ _ _ _ _ => (pg_name (i := 8) sc_law_varied.nd rfl (by first | exact Or.inl rfl | exact Or.inr rfl))) (fun _ _ _ _ _ => (pts_one (pt_cmpR op_ne (pv 8) (pv 3) (nomark _)))) (fun _ _ _ _ _ => (pv 8))) pa_nil)))))
  pss_nil)
  (pss_cons (ps_if (pt_cmpR op_eq (pe_ix (ixL K) (pv 2) pe_int (fun _ _ => rfl)) pe_int (nomark _))
  (pss_one (ps_ret (pe_lst (pa_cons (pe_lc (own := [("deal", 9)]) (g := gName 9) rfl sc_law_varied.nd (pi_list (pv 4)) (blkOk_by (N := ["world", "cell", "row", "place", "deals", "facts", "callers", "name", "k", "deal", "at", "fact", "other", "names", "party", "mark", "number"]) (sc := defScope s_law_varied) (by decide +kernel)) (fun _ _ _ _ _ => (pg_name (i := 9) sc_law_varied.nd rfl (by first | exact Or.inl rfl | exact Or.inr rfl))) (fun _ _ _ _ _ => pts_nil) (fun _ _ _ _ _ => (pe_op op_add (pv 9) (pe_callTy call_int1 (by rfl) T.f_int (by decide +kernel) (pa_cons (pe_cmpR op_ge (pv 9) (pe_ix (ixL K) (pv 4) (pv 3) (fun _ _ => rfl)) (nomark _)) pa_nil))))) (pa_cons (pv 5) (pa_cons (pv 6) pa_nil))))))
  pss_nil)
  (pss_cons (ps_if (PW.pt (pw_and (pt_cmpR op_gt (pe_callB (lenK K) (by rfl) T.f_len boot_len (pa_cons (pv 5) pa_nil)) pe_int (nomark _)) (pw_and1 (pt_cmpR (inK K) (pe_ix (ixL K) (pv 2) pe_int (fun _ _ => rfl)) (pe_lst (pa_cons pe_int (pa_cons pe_int (pa_cons pe_int (pa_cons pe_int (pa_cons pe_int (pa_cons pe_int (pa_cons pe_int pa_nil)))))))) (by rfl)))))
  (pss_cons (ps_set (i := 10) sc_law_varied.nd rfl (by first | exact Or.inl rfl | exact Or.inr rfl) (pe_op op_modN (pe_callTy call_int1 (by rfl) T.f_int (by decide +kernel) (pa_cons (pe_ix (ixL K) (pv 2) pe_int (fun _ _ => rfl)) pa_nil)) (pe_callB (lenK K) (by rfl) T.f_len boot_len (pa_cons (pv 5) pa_nil))))
    (pss_cons (ps_set (i := 11) sc_law_varied.nd rfl (by first | exact Or.inl rfl | exact Or.inr rfl) (pe_ix (ixL K) (pv 5) (pv 10) (fun _ _ => rfl)))
    (pss_cons (ps_if (pt_cmpR op_eq (pe_ix (ixL K) (pv 2) pe_int (fun _ _ => rfl)) pe_int (nomark _))
    (pss_one (ps_set (i := 5) sc_law_varied.nd rfl (by first | exact Or.inl rfl | exact Or.inr rfl) (pe_c (E := EN) O__law_put hr (by decide) (fun σ => passN σ) (pa_cons (pv 5) (pa_cons (pv 10) (pa_cons (pe_lst (pa_cons (pe_ix (ixL K) (pv 11) pe_int (fun _ _ => rfl)) (pa_cons (pe_c (E := EN) O__law_put hr (by decide) (fun σ => passN σ) (pa_cons (pe_ix (ixL K) (pv 11) pe_int (fun _ _ => rfl)) (pa_cons (pv 3) (pa_cons (pe_ix (ixL K) (pv 2) pe_int (fun _ _ => rfl)) pa_nil)))) pa_nil))) pa_nil))))))
    pss_nil)
    (pss_cons (ps_if (pt_cmpR op_eq (pe_ix (ixL K) (pv 2) pe_int (fun _ _ => rfl)) pe_int (nomark _))
    (pss_one (ps_set (i := 5) sc_law_varied.nd rfl (by first | exact Or.inl rfl | exact Or.inr rfl) (pe_c (E := EN) O__law_renamed hr (by decide) (fun σ => passN σ) (pa_cons (pv 5) (pa_cons (pv 10) (pa_cons (pv 7) pa_nil))))))
    pss_nil)
    (pss_cons (ps_if (pt_cmpR op_eq (pe_ix (ixL K) (pv 2) pe_int (fun _ _ => rfl)) pe_int (nomark _))
    (pss_one (ps_set (i := 5) sc_law_varied.nd rfl (by first | exact Or.inl rfl | exact Or.inr rfl) (pe_op op_cat (pe_slice sl_list (pv 5) (po_some pe_int) po_none) (pe_slice sl_list (pv 5) po_none (po_some pe_int)))))
    pss_nil)
    (pss_cons (ps_if (pt_cmpR op_eq (pe_ix (ixL K) (pv 2) pe_int (fun _ _ => rfl)) pe_int (nomark _))
    (pss_one (ps_set (i := 5) sc_law_varied.nd rfl (by first | exact Or.inl rfl | exact Or.inr rfl) (pe_op op_cat (pe_slice sl_list (pv 5) po_none (po_some (pv 10))) (pe_slice sl_list (pv 5) (po_some (pe_op op_add (pv 10) pe_int)) po_none))))
    pss_nil)
    (pss_cons (ps_if (PW.pt (pw_and (pt_cmpR op_eq (pe_ix (ixL K) (pv 2) pe_int (fun _ _ => rfl)) pe_int (nomark _)) (pw_and (pt_cmpR op_lt (pe_callB (lenK K) (by rfl) T.f_len boot_len (pa_cons (pv 5) pa_nil)) pe_int (nomark _)) (pw_and1 (pt_cmpR (notInK K) (pv 7) (pe_lc (own := [("other", 12)]) (g := gName 12) rfl sc_law_varied.nd (pi_list (pv 5)) (blkOk_by (N := ["world", "cell", "row", "place", "deals", "facts", "callers", "name", "k", "deal", "at", "fact", "other", "names", "party", "mark", "number"]) (sc := defScope s_law_varied) (by decide +kernel)) (fun _ _ _ _ _ => (pg_name (i := 12) sc_law_varied.nd rfl (by first | exact Or.inl rfl | exact Or.inr rfl))) (fun _ _ _ _ _ => pts_nil) (fun _ _ _ _ _ => (pe_ix (ixL K) (pv 12) pe_int (fun _ _ => rfl)))) (by rfl))))))
    (pss_one (ps_set (i := 5) sc_law_varied.nd rfl (by first | exact Or.inl rfl | exact Or.inr rfl) (pe_op op_cat (pv 5) (pe_lst (pa_cons (pe_lst (pa_cons (pv 7) (pa_cons (pe_ix (ixL K) (pv 11) pe_int (fun _ _ => rfl)) pa_nil))) pa_nil)))))
    pss_nil)
    (pss_cons (ps_if (PW.pt (pw_and (pt_cmpR op_eq (pe_ix (ixL K) (pv 2) pe_int (fun _ _ => rfl)) pe_int (nomark _)) (pw_and1 (pt_cmpR op_gt (pe_callB (lenK K) (by rfl) T.f_len boot_len (pa_cons (pv 5) pa_nil)) pe_int (nomark _)))))
    (pss_cons (ps_set (i := 13) sc_law_varied.nd rfl (by first | exact Or.inl rfl | exact Or.inr rfl) (pe_c (E := EN) O__law_moved hr (by decide) (fun σ => passN σ) (pa_cons (pe_ix (ixL K) (pe_ix (ixL K) (pv 5) pe_int (fun _ _ => rfl)) pe_int (fun _ _ => rfl)) (pa_cons (pe_ix (ixL K) (pe_ix (ixL K) (pv 5) pe_int (fun _ _ => rfl)) pe_int (fun _ _ => rfl)) pa_nil))))
      (pss_one (ps_set (i := 5) sc_law_varied.nd rfl (by first | exact Or.inl rfl | exact Or.inr rfl) (pe_c (E := EN) O__law_renamed hr (by decide) (fun σ => passN σ) (pa_cons (pe_c (E := EN) O__law_renamed hr (by decide) (fun σ => passN σ) (pa_cons (pv 5) (pa_cons pe_int (pa_cons (pe_ix (ixL K) (pv 13) pe_int (fun _ _ => rfl)) pa_nil)))) (pa_cons pe_int (pa_cons (pe_ix (ixL K) (pv 13) pe_int (fun _ _ => rfl)) pa_nil)))))))
    pss_nil)
    (pss_cons (ps_if (PW.pt (pw_and (pt_cmpR op_eq (pe_ix (ixL K) (pv 2) pe_int (fun _ _ => rfl)) pe_int (nomark _)) (pw_and (pt_cmpR op_lt (pe_callB (lenK K) (by rfl) T.f_len boot_len (pa_cons (pv 6) pa_nil)) pe_int (nomark _)) (pw_and1 (pt_cmpR (notInK K) (pe_ix (ixL K) (pv 11) pe_int (fun _ _ => rfl)) (pe_lc (own := [("party", 14)]) (g := gName 14) rfl sc_law_varied.nd (pi_list (pv 6)) (blkOk_by (N := ["world", "cell", "row", "place", "deals", "facts", "callers", "name", "k", "deal", "at", "fact", "other", "names", "party", "mark", "number"]) (sc := defScope s_law_varied) (by decide +kernel)) (fun _ _ _ _ _ => (pg_name (i := 14) sc_law_varied.nd rfl (by first | exact Or.inl rfl | exact Or.inr rfl))) (fun _ _ _ _ _ => pts_nil) (fun _ _ _ _ _ => (pe_ix (ixL K) (pv 14) pe_int (fun _ _ => rfl)))) (by rfl))))))
    (pss_cons (ps_set (i := 5) sc_law_varied.nd rfl (by first | exact Or.inl rfl | exact Or.inr rfl) (pe_op op_cat (pe_slice sl_list (pv 5) po_none (po_some (pv 10))) (pe_slice sl_list (pv 5) (po_some (pe_op op_add (pv 10) pe_int)) po_none)))
      (pss_one (ps_set (i := 6) sc_law_varied.nd rfl (by first | exact Or.inl rfl | exact Or.inr rfl) (pe_op op_cat (pe_lst (pa_cons (pe_lst (pa_cons (pe_ix (ixL K) (pv 11) pe_int (fun _ _ => rfl)) (pa_cons (pe_ix (ixL K) (pv 11) pe_int (fun _ _ => rfl)) (pa_cons (pe_lc (own := [("deal", 9)]) (g := gName 9) rfl sc_law_varied.nd (pi_list (pv 4)) (blkOk_by (N := ["world", "cell", "row", "place", "deals", "facts", "callers", "name", "k", "deal", "at", "fact", "other", "names", "party", "mark", "number"]) (sc := defScope s_law_varied) (by decide +kernel)) (fun _ _ _ _ _ => (pg_name (i := 9) sc_law_varied.nd rfl (by first | exact Or.inl rfl | exact Or.inr rfl))) (fun _ _ _ _ _ => pts_nil) (fun _ _ _ _ _ => pe_int)) pa_nil)))) pa_nil)) (pv 6)))))
    pss_nil)
    (pss_one (ps_ret (pe_lst (pa_cons (pv 4) (pa_cons (pv 5) (pa_cons (pv 6) pa_nil)))))))))))))))
  pss_nil)
  (pss_cons (ps_if (PW.pt (pw_and (pt_cmpR op_gt (pe_callB (lenK K) (by rfl) T.f_len boot_len (pa_cons (pv 6) pa_nil)) pe_int (nomark _)) (pw_and1 (pt_cmpR (inK K) (pe_ix (ixL K) (pv 2) pe_int (fun _ _ => rfl)) (pe_lst (pa_cons pe_int (pa_cons pe_int (pa_cons pe_int (pa_cons pe_int (pa_cons pe_int (pa_cons pe_int (pa_cons pe_int pa_nil)))))))) (by rfl)))))
  (pss_cons (ps_set (i := 10) sc_law_varied.nd rfl (by first | exact Or.inl rfl | exact Or.inr rfl) (pe_op op_modN (pe_callTy call_int1 (by rfl) T.f_int (by decide +kernel) (pa_cons (pe_ix (ixL K) (pv 2) pe_int (fun _ _ => rfl)) pa_nil)) (pe_callB (lenK K) (by rfl) T.f_len boot_len (pa_cons (pv 6) pa_nil))))
    (pss_cons (ps_set (i := 14) sc_law_varied.nd rfl (by first | exact Or.inl rfl | exact Or.inr rfl) (pe_ix (ixL K) (pv 6) (pv 10) (fun _ _ => rfl)))
    (pss_cons (ps_if (pt_cmpR op_eq (pe_ix (ixL K) (pv 2) pe_int (fun _ _ => rfl)) pe_int (nomark _))
    (pss_cons (ps_set (i := 15) sc_law_varied.nd rfl (by first | exact Or.inl rfl | exact Or.inr rfl) (pe_ix (ixL K) (pe_lst (pa_cons (pe_ix (ixL K) (pe_ix (ixL K) (pv 14) pe_int (fun _ _ => rfl)) (pe_op op_modN (pe_callTy call_int1 (by rfl) T.f_int (by decide +kernel) (pa_cons (pe_ix (ixL K) (pv 2) pe_int (fun _ _ => rfl)) pa_nil)) (pe_callB (lenK K) (by rfl) T.f_len boot_len (pa_cons (pv 4) pa_nil))) (fun _ _ => rfl)) (pa_cons (pe_op op_pow pe_int pe_int) pa_nil))) (pe_callTy call_int1 (by rfl) T.f_int (by decide +kernel) (pa_cons (pe_cmpR op_eq (pe_ix (ixL K) (pv 2) pe_int (fun _ _ => rfl)) pe_int (nomark _)) pa_nil)) (fun _ _ => rfl)))
      (pss_one (ps_set (i := 6) sc_law_varied.nd rfl (by first | exact Or.inl rfl | exact Or.inr rfl) (pe_c (E := EN) O__law_put hr (by decide) (fun σ => passN σ) (pa_cons (pv 6) (pa_cons (pv 10) (pa_cons (pe_lst (pa_cons (pe_ix (ixL K) (pv 14) pe_int (fun _ _ => rfl)) (pa_cons (pe_c (E := EN) O__law_put hr (by decide) (fun σ => passN σ) (pa_cons (pe_ix (ixL K) (pv 14) pe_int (fun _ _ => rfl)) (pa_cons (pv 3) (pa_cons (pv 15) pa_nil)))) (pa_cons (pe_ix (ixL K) (pv 14) pe_int (fun _ _ => rfl)) pa_nil)))) pa_nil)))))))
    pss_nil)
    (pss_cons (ps_if (pt_cmpR op_eq (pe_ix (ixL K) (pv 2) pe_int (fun _ _ => rfl)) pe_int (nomark _))
    (pss_one (ps_set (i := 6) sc_law_varied.nd rfl (by first | exact Or.inl rfl | exact Or.inr rfl) (pe_c (E := EN) O__law_put hr (by decide) (fun σ => passN σ) (pa_cons (pv 6) (pa_cons (pv 10) (pa_cons (pe_lst (pa_cons (pe_ix (ixL K) (pv 14) pe_int (fun _ _ => rfl)) (pa_cons (pe_ix (ixL K) (pv 14) pe_int (fun _ _ => rfl)) (pa_cons (pe_c (E := EN) O__law_put hr (by decide) (fun σ => passN σ) (pa_cons (pe_ix (ixL K) (pv 14) pe_int (fun _ _ => rfl)) (pa_cons (pv 3) (pa_cons (pe_op op_add pe_int (pe_ix (ixL K) (pe_lst (pa_cons (pe_ix (ixL K) (pv 2) pe_int (fun _ _ => rfl)) (pa_cons (pe_ix (ixL K) (pv 2) pe_int (fun _ _ => rfl)) pa_nil))) (pe_callTy call_int1 (by rfl) T.f_int (by decide +kernel) (pa_cons (pe_cmpR op_gt (pe_ix (ixL K) (pv 2) pe_int (fun _ _ => rfl)) pe_int (nomark _)) pa_nil)) (fun _ _ => rfl))) pa_nil)))) pa_nil)))) pa_nil))))))
    pss_nil)
    (pss_cons (ps_if (pt_cmpR op_eq (pe_ix (ixL K) (pv 2) pe_int (fun _ _ => rfl)) pe_int (nomark _))
    (pss_one (ps_set (i := 6) sc_law_varied.nd rfl (by first | exact Or.inl rfl | exact Or.inr rfl) (pe_c (E := EN) O__law_renamed hr (by decide) (fun σ => passN σ) (pa_cons (pv 6) (pa_cons (pv 10) (pa_cons (pv 7) pa_nil))))))
    pss_nil)
    (pss_cons (ps_if (pt_cmpR op_eq (pe_ix (ixL K) (pv 2) pe_int (fun _ _ => rfl)) pe_int (nomark _))
    (pss_one (ps_set (i := 6) sc_law_varied.nd rfl (by first | exact Or.inl rfl | exact Or.inr rfl) (pe_op op_cat (pe_slice sl_list (pv 6) (po_some pe_int) po_none) (pe_slice sl_list (pv 6) po_none (po_some pe_int)))))
    pss_nil)
    (pss_cons (ps_if (pt_cmpR op_eq (pe_ix (ixL K) (pv 2) pe_int (fun _ _ => rfl)) pe_int (nomark _))
    (pss_one (ps_set (i := 6) sc_law_varied.nd rfl (by first | exact Or.inl rfl | exact Or.inr rfl) (pe_op op_cat (pe_slice sl_list (pv 6) po_none (po_some (pv 10))) (pe_slice sl_list (pv 6) (po_some (pe_op op_add (pv 10) pe_int)) po_none))))
    pss_nil)
    (pss_cons (ps_if (PW.pt (pw_and (pt_cmpR op_eq (pe_ix (ixL K) (pv 2) pe_int (fun _ _ => rfl)) pe_int (nomark _)) (pw_and1 (pt_cmpR op_lt (pe_callB (maxK K (hc := rfl)) (by rfl) T.f_max (by decide +kernel) (pa_cons (pe_ix (ixL K) (pv 14) pe_int (fun _ _ => rfl)) pa_nil)) pe_int (nomark _)))))
    (pss_one (ps_set (i := 6) sc_law_varied.nd rfl (by first | exact Or.inl rfl | exact Or.inr rfl) (pe_c (E := EN) O__law_put hr (by decide) (fun σ => passN σ) (pa_cons (pv 6) (pa_cons (pv 10) (pa_cons (pe_lst (pa_cons (pe_ix (ixL K) (pv 14) pe_int (fun _ _ => rfl)) (pa_cons (pe_ix (ixL K) (pv 14) pe_int (fun _ _ => rfl)) (pa_cons (pe_lc (own := [("number", 16)]) (g := gName 16) rfl sc_law_varied.nd (pi_list (pe_ix (ixL K) (pv 14) pe_int (fun _ _ => rfl))) (blkOk_by (N := ["world", "cell", "row", "place", "deals", "facts", "callers", "name", "k", "deal", "at", "fact", "other", "names", "party", "mark", "number"]) (sc := defScope s_law_varied) (by decide +kernel)) (fun _ _ _ _ _ => (pg_name (i := 16) sc_law_varied.nd rfl (by first | exact Or.inl rfl | exact Or.inr rfl))) (fun _ _ _ _ _ => pts_nil) (fun _ _ _ _ _ => (pe_op op_mul pe_int (pv 16)))) pa_nil)))) pa_nil))))))
    pss_nil)
    (pss_one (ps_if (pt_cmpR op_eq (pe_ix (ixL K) (pv 2) pe_int (fun _ _ => rfl)) pe_int (nomark _))
    (pss_one (ps_set (i := 6) sc_law_varied.nd rfl (by first | exact Or.inl rfl | exact Or.inr rfl) (pe_c (E := EN) O__law_put hr (by decide) (fun σ => passN σ) (pa_cons (pv 6) (pa_cons (pv 10) (pa_cons (pe_lst (pa_cons (pe_ix (ixL K) (pv 14) pe_int (fun _ _ => rfl)) (pa_cons (pe_ix (ixL K) (pv 14) pe_int (fun _ _ => rfl)) (pa_cons (pe_lc (own := [("mark", 15)]) (g := gName 15) rfl sc_law_varied.nd (pi_list (pe_c (E := EN) O__law_marks hr (by decide) (fun σ => passN σ) (pa_cons (pe_ix (ixL K) (pv 14) pe_int (fun _ _ => rfl)) pa_nil))) (blkOk_by (N := ["world", "cell", "row", "place", "deals", "facts", "callers", "name", "k", "deal", "at", "fact", "other", "names", "party", "mark", "number"]) (sc := defScope s_law_varied) (by decide +kernel)) (fun _ _ _ _ _ => (pg_name (i := 15) sc_law_varied.nd rfl (by first | exact Or.inl rfl | exact Or.inr rfl))) (fun _ _ _ _ _ => pts_nil) (fun _ _ _ _ _ => (pe_op op_add pe_int (pv 15)))) pa_nil)))) pa_nil))))))
    pss_nil))))))))))
  pss_nil)
  (pss_one (ps_ret (pe_lst (pa_cons (pv 4) (pa_cons (pv 5) (pa_cons (pv 6) pa_nil)))))))))))))))), ?_⟩
  refine ⟨_, rfl, Nat.le_trans (by show 7 ≤ 16777216; decide) big, fun e ne => ?_⟩
  have s1 := same_new (o := .lst (nV SSV)) ne
  refine ⟨c, e, SSV, rfl, .inl (.inl (upd_same ..)), by decide, by show 7 ≤ _; decide, fun H1 p sh t1 np hp dl dlt => ?_⟩
  have s01 := same2 s1 t1
  have dl : sh.length = 7 := dl
  have r1 : at0 sh 1 < 6 := dlt 1 (by show 1 < 7; decide)
  have r2 : at0 sh 2 < 6 := dlt 2 (by show 2 < 7; decide)
  have r3 : at0 sh 3 < 3 := dlt 3 (by show 3 < 7; decide)
  have r4 : at0 sh 4 < 3 := dlt 4 (by show 4 < 7; decide)
  have r5 : at0 sh 5 < 10 := dlt 5 (by show 5 < 7; decide)
  have r6 : at0 sh 6 < 999 := dlt 6 (by show 6 < 7; decide)
  clear dlt
  have hp : RL H1 p (nV sh) := hp
  have ha1 := ha.same s01
  have hd1 := hd.same s01
  obtain ⟨pl, hpl, pll⟩ := digit (a := ((at0 sh 1 : Nat) : Int)) (n := (nV W.deals).length) (by rw [nV_len]; exact d1)
  refine ⟨_, rfl, p, _, _, _, rfl, rfl, hp.sq, atI_nat (j := 1) (nV_at0 (by omega)), .inl ⟨_, rfl, _, rfl, a, _, _, _, rfl, rfl, ha1.sq, atI_nat (j := 0) rfl, d, _, rfl, .inl hd1.sq, _, _, rfl, rfl, by rw [nV_len]; omega, ?_⟩⟩
  dsimp only
  rw [← hpl]
  rw [nV_len] at pll
  refine ⟨_, rfl, a, _, _, _, rfl, rfl, ha1.sq, atI_nat (j := 0) rfl, _, rfl, a, _, _, _, rfl, rfl, ha1.sq, atI_nat (j := 1) rfl, _, rfl, a, _, _, _, rfl, rfl, ha1.sq, atI_nat (j := 2) rfl, ?_⟩
  refine ⟨_, rfl, p, _, _, _, rfl, rfl, hp.sq, atI_nat (j := 5) (nV_at0 (by omega)), .inl ⟨_, rfl, _, rfl, p, _, _, _, rfl, rfl, hp.sq, atI_nat (j := 6) (nV_at0 (by omega)), _, _, rfl, rfl, .inl ⟨by decide, by decide⟩, _, _, rfl, rfl, _, rfl, fun H2 nm s2 hnm => ?_⟩⟩
  have s02 := same2 s01 s2
  have hp2 := hp.same s2
  have ha2 := ha1.same s2
  have hd2 := hd1.same s2
  have hf2' : LFacts H2 f W.facts := ⟨qf, hf1.same s02, pimp (fun _ _ _ e => e.mono fun _ _ z => RL.same s02 z) hf2⟩
  have hc2' : LParts H2 cl W.parts := ⟨qc, hc1.same s02, pimp (fun _ _ _ e => e.mono fun _ _ z => RL.same s02 z) hc2⟩
  have wa2 : WAt H2 a W := ⟨d, f, cl, ha2, hd2, hf2', hc2'⟩
  have fo : FOk W.deals.length W.facts := ⟨ok.fn, ok.fo⟩
  have po : POk W.deals.length W.parts := ⟨ok.pn, ok.po⟩
  -- how it ends
  have fin : ∀ (H3 : Hp) (d' f' c' : Addr) (ds : List Nat) (fs : List (Str × List Nat)) (ps : List (Str × List Int × List Nat)), Same H2 H3 → RL H3 d' (nV ds) → LFacts H3 f' fs → LParts H3 c' ps → (Wd.mk ds fs ps).Ok (b + 1) → ∀ y, H3 y = none → Q (.ref y) (upd H3 y (.lst [.ref d', .ref f', .ref c'])) := by
    intro H3 d' f' c' ds fs ps s3 h1 h2 h3 h4 y ny
    have s4 := same_new (o := .lst [.ref d', .ref f', .ref c']) ny
    exact hQ _ y ⟨ds, fs, ps⟩ (same2 s02 (same2 s3 s4)) ((same2 s02 s3).free ny) ⟨d', f', c', upd_same .., h1.same s4, h2.same s4, h3.same s4⟩ h4
  unfold tNext
  dsimp only
  refine seq_cut2 fun D9 f9 g9 => ?_
  have g9 : D9.rt = Q := g9
  have rest9 : D9.nx [some (.ref a), some (.int c), some (.ref p), some (.int (pl : Nat)), some (.ref d), some (.ref f), some (.ref cl), some (.str nm), none, none, none, none, none, none, none, none, none] H2 := by
    rw [f9]
    refine seq_cut2 fun D8 f8 g8 => ?_
    have g8 : D8.rt = Q := g8
    have rest8 : D8.nx [some (.ref a), some (.int c), some (.ref p), some (.int (pl : Nat)), some (.ref d), some (.ref f), some (.ref cl), some (.str nm), none, none, none, none, none, none, none, none, none] H2 := by
      rw [f8]
      refine seq_cut2 fun DF fF gF => ?_
      have gF : DF.rt = Q := gF
      have restF : ∀ H3, Same H2 H3 → DF.nx [some (.ref a), some (.int c), some (.ref p), some (.int (pl : Nat)), some (.ref d), some (.ref f), some (.ref cl), some (.str nm), none, none, none, none, none, none, none, none, none] H3 := by
        intro H3 s3
        rw [fF]
        refine seq_cut2 fun DP fP gP => ?_
        have gP : DP.rt = Q := gP
        have restP : ∀ (H4 : Hp) (c' : Addr) (m10 m14 m15 : Option V) (ps : List (Str × List Int × List Nat)), Same H3 H4 → LParts H4 c' ps → POk W.deals.length ps → ps.length ≤ 5 → DP.nx [some (.ref a), some (.int c), some (.ref p), some (.int (pl : Nat)), some (.ref d), some (.ref f), some (.ref c'), some (.str nm), none, none, m10, none, none, none, m14, m15, none] H4 := by
          intro H4 c' m10 m14 m15 ps s4 lc pk m5
          rw [fP]
          have s24 := same2 s3 s4
          have few := ok.few
          refine ⟨_, rfl, _, rfl, _, rfl, Nat.le_trans (by show 3 ≤ 16777216; decide) big, fun y ny => ?_⟩
          exact fin H4 d f c' W.deals W.facts ps s24 (hd2.same s24) (hf2'.same s24) lc ⟨d1, d2, ok.dw, fun x hx => by have := ok.db x hx; show x < b + 1; omega, fo.1, pk.1, fo.2, pk.2, few, m5⟩ y ny
        -- parties
        obtain ⟨qg, hq1, hq2⟩ := hc2'.same s3
        have ql := Paired.length hq2
        have few := ok.few
        have pew := ok.pew
        refine ⟨_, rfl, cl, _, rfl, .inl hq1.sq, _, _, rfl, rfl, _, rfl, ?_⟩
        by_cases l0 : (0 : Int) < (((qg.map V.ref).length : Nat) : Int)
        case neg =>
          rw [show decide ((0 : Int) < (((qg.map V.ref).length : Nat) : Int)) = false from decide_eq_false l0]
          exact iteF (iteF (restP H3 cl none none none W.parts (fun _ _ e => e) (hc2'.same s3) po pew))
        rw [show decide ((0 : Int) < (((qg.map V.ref).length : Nat) : Int)) = true from decide_eq_true l0]
        refine iteT ⟨_, rfl, p, _, _, _, rfl, rfl, (hp2.same s3).sq, atI_nat (j := 0) (nV_at0 (by omega)), Nat.le_trans (by show 7 ≤ 16777216; decide) big, fun M nM => ?_⟩
        have t3 := same_new (o := .lst [.int 2, .int 3, .int 5, .int 7, .int 11, .int 13, .int 16]) nM
        have hM : RL (upd H3 M (.lst [.int 2, .int 3, .int 5, .int 7, .int 11, .int 13, .int 16])) M [.int 2, .int 3, .int 5, .int 7, .int 11, .int 13, .int 16] := upd_same ..
        generalize upd H3 M (.lst [.int 2, .int 3, .int 5, .int 7, .int 11, .int 13, .int 16]) = HA at t3 hM
        refine ⟨M, _, rfl, .inl hM.sq, rfl, rfl, _, rfl, ?_⟩
        generalize (if false = true then !inV (V.int (at0 sh 0 : Nat)) [.int 2, .int 3, .int 5, .int 7, .int 11, .int 13, .int 16] else inV (V.int (at0 sh 0 : Nat)) [.int 2, .int 3, .int 5, .int 7, .int 11, .int 13, .int 16]) = bb
        cases bb with
        | false => exact iteF (restP HA cl none none none W.parts t3 (hc2'.same (same2 s3 t3)) po pew)
        | true =>
          refine iteT ?_
          have s2A := same2 s3 t3
          have hp3 := hp2.same s2A
          have hd3 := hd2.same s2A
          have hq3 := hq1.same t3
          have hf3 := hf2'.same s2A
          have hqA : Paired (PX (RL HA)) qg W.parts := pimp (fun _ _ _ e => e.mono fun _ _ z => RL.same t3 z) hq2
          rw [List.length_map] at l0
          obtain ⟨at', hat, atl⟩ := digit (a := ((at0 sh 4 : Nat) : Int)) (n := (qg.map V.ref).length) (by rw [List.length_map]; omega)
          refine ⟨_, rfl, p, _, _, _, rfl, rfl, hp3.sq, atI_nat (j := 4) (nV_at0 (by omega)), .inl ⟨_, rfl, _, rfl, cl, _, rfl, .inl hq3.sq, _, _, rfl, rfl, by rw [List.length_map]; omega, ?_⟩⟩
          dsimp only
          rw [← hat]
          rw [List.length_map] at atl
          obtain ⟨u, fa, ku, kf, mk, wt, hu3, hmk3, hwt3⟩ := pget2 hqA atl
          obtain ⟨fan, fal, faw, fa1⟩ := po.2 fa (List.mem_of_getElem? kf)
          refine ⟨_, rfl, _, rfl, cl, _, _, _, rfl, rfl, hq3.sq, atI_nat (by rw [List.getElem?_map, ku] <;> rfl), ?_⟩
          dsimp only [gName]
          refine seq_cut fun E2 e2 => ?_
          have k2 : ∀ (H4 : Hp) (c' : Addr) (m15 : Option V) (ps : List (Str × List Int × List Nat)), Same HA H4 → LParts H4 c' ps → POk W.deals.length ps → ps.length ≤ 5 → (at0 sh 0 ≤ 2 ∨ (c' = cl ∧ ps = W.parts)) → E2.nx [some (.ref a), some (.int c), some (.ref p), some (.int (pl : Nat)), some (.ref d), some (.ref f), some (.ref c'), some (.str nm), none, none, some (.int (at' : Nat)), none, none, none, some (.ref u), m15, none] H4 := by
            intro H4 c' m15 ps s4 lc pk m5 h0
            rw [e2]
            refine seq_cut fun E3 e3 => ?_
            have k3 : ∀ (H4 : Hp) (c' : Addr) (m15 : Option V) (ps : List (Str × List Int × List Nat)), Same HA H4 → LParts H4 c' ps → POk W.deals.length ps → ps.length ≤ 5 → (at0 sh 0 ≤ 3 ∨ (c' = cl ∧ ps = W.parts)) → E3.nx [some (.ref a), some (.int c), some (.ref p), some (.int (pl : Nat)), some (.ref d), some (.ref f), some (.ref c'), some (.str nm), none, none, some (.int (at' : Nat)), none, none, none, some (.ref u), m15, none] H4 := by
              intro H4 c' m15 ps s4 lc pk m5 h0
              rw [e3]
              refine seq_cut fun E5 e5 => ?_
              have k5 : ∀ (H4 : Hp) (c' : Addr) (m15 : Option V) (ps : List (Str × List Int × List Nat)), Same HA H4 → LParts H4 c' ps → POk W.deals.length ps → ps.length ≤ 5 → (at0 sh 0 ≤ 5 ∨ (c' = cl ∧ ps = W.parts)) → E5.nx [some (.ref a), some (.int c), some (.ref p), some (.int (pl : Nat)), some (.ref d), some (.ref f), some (.ref c'), some (.str nm), none, none, some (.int (at' : Nat)), none, none, none, some (.ref u), m15, none] H4 := by
                intro H4 c' m15 ps s4 lc pk m5 h0
                rw [e5]
                refine seq_cut fun E7 e7 => ?_
                have k7 : ∀ (H4 : Hp) (c' : Addr) (m15 : Option V) (ps : List (Str × List Int × List Nat)), Same HA H4 → LParts H4 c' ps → POk W.deals.length ps → ps.length ≤ 5 → (at0 sh 0 ≤ 7 ∨ (c' = cl ∧ ps = W.parts)) → E7.nx [some (.ref a), some (.int c), some (.ref p), some (.int (pl : Nat)), some (.ref d), some (.ref f), some (.ref c'), some (.str nm), none, none, some (.int (at' : Nat)), none, none, none, some (.ref u), m15, none] H4 := by
                  intro H4 c' m15 ps s4 lc pk m5 h0
                  rw [e7]
                  refine seq_cut fun E11 e11 => ?_
                  have k11 : ∀ (H4 : Hp) (c' : Addr) (m15 : Option V) (ps : List (Str × List Int × List Nat)), Same HA H4 → LParts H4 c' ps → POk W.deals.length ps → ps.length ≤ 5 → (at0 sh 0 ≤ 11 ∨ (c' = cl ∧ ps = W.parts)) → E11.nx [some (.ref a), some (.int c), some (.ref p), some (.int (pl : Nat)), some (.ref d), some (.ref f), some (.ref c'), some (.str nm), none, none, some (.int (at' : Nat)), none, none, none, some (.ref u), m15, none] H4 := by
                    intro H4 c' m15 ps s4 lc pk m5 h0
                    rw [e11]
                    refine seq_cut fun E13 e13 => ?_
                    have k13 : ∀ (H4 : Hp) (c' : Addr) (m15 : Option V) (ps : List (Str × List Int × List Nat)), Same HA H4 → LParts H4 c' ps → POk W.deals.length ps → ps.length ≤ 5 → (at0 sh 0 ≤ 13 ∨ (c' = cl ∧ ps = W.parts)) → E13.nx [some (.ref a), some (.int c), some (.ref p), some (.int (pl : Nat)), some (.ref d), some (.ref f), some (.ref c'), some (.str nm), none, none, some (.int (at' : Nat)), none, none, none, some (.ref u), m15, none] H4 := by
                      intro H4 c' m15 ps s4 lc pk m5 h0
                      rw [e13]
                      have k16 : ∀ (H4 : Hp) (c' : Addr) (m15 : Option V) (ps : List (Str × List Int × List Nat)), Same HA H4 → LParts H4 c' ps → POk W.deals.length ps → ps.length ≤ 5 → (at0 sh 0 ≤ 16 ∨ (c' = cl ∧ ps = W.parts)) → DP.nx [some (.ref a), some (.int c), some (.ref p), some (.int (pl : Nat)), some (.ref d), some (.ref f), some (.ref c'), some (.str nm), none, none, some (.int (at' : Nat)), none, none, none, some (.ref u), m15, none] H4 := fun H4 c' m15 ps s4 lc pk m5 _ => restP H4 c' _ _ m15 ps (same2 t3 s4) lc pk m5
                      refine ⟨_, rfl, p, _, _, _, rfl, rfl, (hp3.same s4).sq, atI_nat (j := 0) (nV_at0 (by omega)), rfl, _, rfl, ?_⟩
                      by_cases b16 : at0 sh 0 = 16
                      case neg =>
                        rw [show decide (V.int (at0 sh 0 : Nat) = V.int 16) = false from decide_eq_false (fun e => b16 (by have := V.int.inj e; omega))]
                        exact iteF (k16 H4 c' m15 ps s4 lc pk m5 (h0.imp (fun h => by omega) id))
                      rw [show decide (V.int (at0 sh 0 : Nat) = V.int 16) = true from decide_eq_true (by rw [b16] <;> rfl)]
                      obtain ⟨rfl, rfl⟩ : c' = cl ∧ ps = W.parts := h0.resolve_left (by omega)
                      refine iteT ?_
                      have hu4 := RL.same s4 hu3
                      have hmk4 := RL.same s4 hmk3
                      refine ⟨_, rfl, _, rfl, _, rfl, u, _, _, _, rfl, rfl, hu4.sq, atI_nat (j := 0) rfl, _, rfl, u, _, _, _, rfl, rfl, hu4.sq, atI_nat (j := 2) rfl, _, rfl, u, _, _, _, rfl, rfl, hu4.sq, atI_nat (j := 1) rfl, mk, fa.2.1, rfl, hmk4.sq, by rw [fal]; omega, fun H7 z s7 nz hz => ?_⟩
                      have hz : RL H7 z (nV (ren fa.2.1)) := hz
                      refine ⟨z, rfl, ⟨_, hz.sq⟩, fun N nN => ?_⟩
                      refine lc_it (walk_list (K := K) (a := z) (xs := nV (ren fa.2.1))) (fun j H8 => H8 N = some (.lst (nV (((ren fa.2.1).take j).map fun x => 1 + x))) ∧ Same H7 H8) ⟨upd_same .., same_new nN⟩ (fun j H8 _ h => (RL.same h.2 hz).sq) ?_ ?_
                      · rintro j y H9 H8 hj ⟨r1, r2⟩ ⟨rfl, hy⟩
                        obtain ⟨x, hxx, rfl⟩ := of_nV hy
                        rw [nV_len, ren_len, fal] at hj
                        refine ⟨rfl, _, rfl, _, _, rfl, rfl, _, r1, by rw [nV_len, List.length_map, List.length_take]; omega, ?_, same_put nN r2⟩
                        rw [upd_same, take_map hxx, ← nV_snoc, show ((1 + x : Nat) : Int) = 1 + ((x : Nat) : Int) from by omega]
                      rintro H8 ⟨r1, r2⟩
                      rw [nV_len, List.take_length] at r1
                      refine ⟨Nat.le_trans (by show 3 ≤ 16777216; decide) big, fun y ny => ?_⟩
                      have v1 := same_new (o := .lst [.str fa.1, .ref wt, .ref N]) ny
                      have w1 : RL (upd H8 y (.lst [.str fa.1, .ref wt, .ref N])) y [.str fa.1, .ref wt, .ref N] := upd_same ..
                      generalize upd H8 y (.lst [.str fa.1, .ref wt, .ref N]) = H5 at v1 w1
                      have s35 := same2 s4 (same2 s7 (same2 r2 v1))
                      refine ⟨c', qg.map V.ref, at', .ref y, rfl, RL.same s35 hq3, by rw [List.length_map]; exact atl, by rw [List.length_map]; omega, fun H6 f2 s6 nf hf2 => ?_⟩
                      have s36 := same2 s35 s6
                      refine k16 H6 f2 m15 (W.parts.set at' (fa.1, cI fa.2.2, (ren fa.2.1).map fun x => 1 + x)) s36 ⟨qg.set at' y, by rw [List.map_set]; exact hf2, Paired.setP (pimp (fun _ _ _ e => e.mono fun _ _ z => RL.same s36 z) hqA) at' ⟨wt, N, RL.same s6 w1, ?_, RL.same (same2 v1 s6) r1⟩⟩ (NOk.set po kf (.inl rfl) ⟨fan, by show (List.map _ _).length = _; rw [List.length_map]; exact faw, by show (List.map _ _).length = _; rw [List.length_map, ren_len]; exact fal, fun x hx => ?_⟩) (by rw [List.length_set]; exact pew) (.inl (by omega))
                      · rw [show (cI fa.2.2).map V.int = nV fa.2.2 from (nV_int _).symm]
                        exact RL.same s36 hwt3
                      · obtain ⟨v, hv, rfl⟩ := List.mem_map.mp hx
                        omega
                    refine ⟨_, rfl, p, _, _, _, rfl, rfl, (hp3.same s4).sq, atI_nat (j := 0) (nV_at0 (by omega)), rfl, _, rfl, ?_⟩
                    by_cases b13 : at0 sh 0 = 13
                    case neg =>
                      rw [show decide (V.int (at0 sh 0 : Nat) = V.int 13) = false from decide_eq_false (fun e => b13 (by have := V.int.inj e; omega))]
                      exact iteF (iteF (k13 H4 c' m15 ps s4 lc pk m5 (h0.imp (fun h => by omega) id)))
                    rw [show decide (V.int (at0 sh 0 : Nat) = V.int 13) = true from decide_eq_true (by rw [b13] <;> rfl)]
                    obtain ⟨rfl, rfl⟩ : c' = cl ∧ ps = W.parts := h0.resolve_left (by omega)
                    refine iteT ?_
                    have hu4 := RL.same s4 hu3
                    have hwt4 := RL.same s4 hwt3
                    refine ⟨_, rfl, u, _, _, _, rfl, rfl, hu4.sq, atI_nat (j := 2) rfl, wt, cI fa.2.2, rfl, by rw [show (cI fa.2.2).map V.int = nV fa.2.2 from (nV_int _).symm]; exact hwt4.sq, by show 0 < (List.map _ _).length; rw [List.length_map, faw]; exact d1, fun mx hm1 hm2 => ?_⟩
                    refine ⟨_, _, rfl, rfl, _, rfl, ?_⟩
                    generalize decide (mx < 500) = b500
                    cases b500 with
                    | false => exact iteF (k13 H4 c' m15 W.parts s4 lc pk m5 (.inr ⟨rfl, rfl⟩))
                    | true =>
                      refine iteT ?_
                      refine ⟨_, rfl, _, rfl, _, rfl, u, _, _, _, rfl, rfl, hu4.sq, atI_nat (j := 0) rfl, _, rfl, u, _, _, _, rfl, rfl, hu4.sq, atI_nat (j := 1) rfl, _, rfl, u, _, _, _, rfl, rfl, hu4.sq, atI_nat (j := 2) rfl, wt, rfl, ⟨_, hwt4.sq⟩, fun N nN => ?_⟩
                      refine lc_it (walk_list (K := K) (a := wt) (xs := nV fa.2.2)) (fun j H7 => H7 N = some (.lst (nV ((fa.2.2.take j).map fun x => 2 * x))) ∧ Same H4 H7) ⟨upd_same .., same_new nN⟩ (fun j H7 _ h => (RL.same h.2 hwt4).sq) ?_ ?_
                      · rintro j y H8 H7 hj ⟨r1, r2⟩ ⟨rfl, hy⟩
                        obtain ⟨x, hxx, rfl⟩ := of_nV hy
                        refine ⟨rfl, _, rfl, _, _, rfl, rfl, .inl ⟨by decide, by decide⟩, _, r1, by rw [nV_len, List.length_map, List.length_take]; omega, ?_, same_put nN r2⟩
                        rw [upd_same, take_map hxx, ← nV_snoc, show ((2 * x : Nat) : Int) = 2 * ((x : Nat) : Int) from by omega]
                      rintro H7 ⟨r1, r2⟩
                      rw [nV_len, List.take_length] at r1
                      refine ⟨Nat.le_trans (by show 3 ≤ 16777216; decide) big, fun y ny => ?_⟩
                      have v1 := same_new (o := .lst [.str fa.1, .ref mk, .ref N]) ny
                      have w1 : RL (upd H7 y (.lst [.str fa.1, .ref mk, .ref N])) y [.str fa.1, .ref mk, .ref N] := upd_same ..
                      generalize upd H7 y (.lst [.str fa.1, .ref mk, .ref N]) = H5 at v1 w1
                      have s35 := same2 s4 (same2 r2 v1)
                      refine ⟨c', qg.map V.ref, at', .ref y, rfl, RL.same s35 hq3, by rw [List.length_map]; exact atl, by rw [List.length_map]; omega, fun H6 f2 s6 nf hf2 => ?_⟩
                      have s36 := same2 s35 s6
                      refine k13 H6 f2 m15 (W.parts.set at' (fa.1, fa.2.1, fa.2.2.map fun x => 2 * x)) s36 ⟨qg.set at' y, by rw [List.map_set]; exact hf2, Paired.setP (pimp (fun _ _ _ e => e.mono fun _ _ z => RL.same s36 z) hqA) at' ⟨mk, N, RL.same s6 w1, RL.same s36 hmk3, RL.same (same2 v1 s6) r1⟩⟩ (NOk.set po kf (.inl rfl) ⟨fan, fal, by show (List.map _ _).length = _; rw [List.length_map]; exact faw, fun x hx => ?_⟩) (by rw [List.length_set]; exact pew) (.inl (by omega))
                      obtain ⟨v, hv, rfl⟩ := List.mem_map.mp hx
                      have := fa1 v hv
                      omega
                  refine ⟨_, rfl, p, _, _, _, rfl, rfl, (hp3.same s4).sq, atI_nat (j := 0) (nV_at0 (by omega)), rfl, _, rfl, ?_⟩
                  by_cases b11 : at0 sh 0 = 11
                  case neg =>
                    rw [show decide (V.int (at0 sh 0 : Nat) = V.int 11) = false from decide_eq_false (fun e => b11 (by have := V.int.inj e; omega))]
                    exact iteF (k11 H4 c' m15 ps s4 lc pk m5 (h0.imp (fun h => by omega) id))
                  rw [show decide (V.int (at0 sh 0 : Nat) = V.int 11) = true from decide_eq_true (by rw [b11] <;> rfl)]
                  obtain ⟨rfl, rfl⟩ : c' = cl ∧ ps = W.parts := h0.resolve_left (by omega)
                  refine iteT ?_
                  obtain ⟨qs, lf1, lf2⟩ := lc
                  have qsl := Paired.length lf2
                  refine del_cat rfl rfl lf1 (by omega) (by omega) fun H6 f2 v1 nf2 hf2 => ?_
                  exact k11 H6 f2 m15 (W.parts.take at' ++ W.parts.drop (at' + 1)) (same2 s4 v1) ⟨_, hf2, Paired.appP (Paired.takeP (pimp (fun _ _ _ e => e.mono fun _ _ z => RL.same v1 z) lf2) at') (Paired.dropP (pimp (fun _ _ _ e => e.mono fun _ _ z => RL.same v1 z) lf2) (at' + 1))⟩ (NOk.del pk at') (by rw [List.length_append, List.length_take, List.length_drop]; omega) (.inl (by omega))
                refine ⟨_, rfl, p, _, _, _, rfl, rfl, (hp3.same s4).sq, atI_nat (j := 0) (nV_at0 (by omega)), rfl, _, rfl, ?_⟩
                by_cases b7 : at0 sh 0 = 7
                case neg =>
                  rw [show decide (V.int (at0 sh 0 : Nat) = V.int 7) = false from decide_eq_false (fun e => b7 (by have := V.int.inj e; omega))]
                  exact iteF (k7 H4 c' m15 ps s4 lc pk m5 (h0.imp (fun h => by omega) id))
                rw [show decide (V.int (at0 sh 0 : Nat) = V.int 7) = true from decide_eq_true (by rw [b7] <;> rfl)]
                obtain ⟨rfl, rfl⟩ : c' = cl ∧ ps = W.parts := h0.resolve_left (by omega)
                refine iteT ?_
                obtain ⟨qs, lf1, lf2⟩ := lc
                have qsl := Paired.length lf2
                refine rot_cat rfl lf1 (by omega) (by omega) fun H6 f2 v1 nf2 hf2 => ?_
                exact k7 H6 f2 m15 (W.parts.drop 1 ++ W.parts.take 1) (same2 s4 v1) ⟨_, hf2, Paired.appP (Paired.dropP (pimp (fun _ _ _ e => e.mono fun _ _ z => RL.same v1 z) lf2) 1) (Paired.takeP (pimp (fun _ _ _ e => e.mono fun _ _ z => RL.same v1 z) lf2) 1)⟩ (NOk.rot pk 1) (by rw [List.length_append, List.length_take, List.length_drop]; omega) (.inl (by omega))
              refine ⟨_, rfl, p, _, _, _, rfl, rfl, (hp3.same s4).sq, atI_nat (j := 0) (nV_at0 (by omega)), rfl, _, rfl, ?_⟩
              by_cases b5 : at0 sh 0 = 5
              case neg =>
                rw [show decide (V.int (at0 sh 0 : Nat) = V.int 5) = false from decide_eq_false (fun e => b5 (by have := V.int.inj e; omega))]
                exact iteF (k5 H4 c' m15 ps s4 lc pk m5 (h0.imp (fun h => by omega) id))
              rw [show decide (V.int (at0 sh 0 : Nat) = V.int 5) = true from decide_eq_true (by rw [b5] <;> rfl)]
              obtain ⟨rfl, rfl⟩ : c' = cl ∧ ps = W.parts := h0.resolve_left (by omega)
              refine iteT ?_
              refine ⟨_, rfl, _, rfl, _, rfl, ?_⟩
              dsimp only [tNil]
              exact renm_parts (k := at') lc pk m5 (by omega) hnm fun H6 f2 fs2 s6 lf2' fk2 el2 => k5 H6 f2 m15 fs2 (same2 s4 s6) lf2' fk2 (by omega) (.inl (by omega))
            refine ⟨_, rfl, p, _, _, _, rfl, rfl, (hp3.same s4).sq, atI_nat (j := 0) (nV_at0 (by omega)), rfl, _, rfl, ?_⟩
            by_cases b3 : at0 sh 0 = 3
            case neg =>
              rw [show decide (V.int (at0 sh 0 : Nat) = V.int 3) = false from decide_eq_false (fun e => b3 (by have := V.int.inj e; omega))]
              exact iteF (k3 H4 c' m15 ps s4 lc pk m5 (h0.imp (fun h => by omega) id))
            rw [show decide (V.int (at0 sh 0 : Nat) = V.int 3) = true from decide_eq_true (by rw [b3] <;> rfl)]
            obtain ⟨rfl, rfl⟩ : c' = cl ∧ ps = W.parts := h0.resolve_left (by omega)
            refine iteT ?_
            have hu4 := RL.same s4 hu3
            have hwt4 := RL.same s4 hwt3
            refine ⟨_, rfl, _, rfl, _, rfl, u, _, _, _, rfl, rfl, hu4.sq, atI_nat (j := 0) rfl, _, rfl, u, _, _, _, rfl, rfl, hu4.sq, atI_nat (j := 1) rfl, _, rfl, u, _, _, _, rfl, rfl, hu4.sq, atI_nat (j := 2) rfl, _, rfl, ?_⟩
            refine ⟨_, rfl, p, _, _, _, rfl, rfl, (hp3.same s4).sq, atI_nat (j := 5) (nV_at0 (by omega)), _, rfl, p, _, _, _, rfl, rfl, (hp3.same s4).sq, atI_nat (j := 6) (nV_at0 (by omega)), Nat.le_trans (by show 2 ≤ 16777216; decide) big, fun Z nZ => ?_⟩
            have v0 := same_new (o := .lst (nV [at0 sh 5, at0 sh 6])) nZ
            have w0 : RL (upd H4 Z (.lst (nV [at0 sh 5, at0 sh 6]))) Z (nV [at0 sh 5, at0 sh 6]) := upd_same ..
            refine ⟨_, rfl, p, _, _, _, rfl, rfl, (hp3.same (same2 s4 v0)).sq, atI_nat (j := 2) (nV_at0 (by omega)), _, _, rfl, rfl, .inr ⟨_, rfl, ?_⟩⟩
            dsimp only
            generalize decide ((2 : Int) < ((at0 sh 2 : Nat) : Int)) = b2
            obtain ⟨zz, hzz⟩ : ∃ zz : Nat, atI (nV [at0 sh 5, at0 sh 6]) (if b2 = true then 1 else 0) = some (V.int (zz : Nat)) := by cases b2 <;> exact ⟨_, rfl⟩
            refine ⟨Z, _, _, _, rfl, rfl, w0.sq, hzz, _, _, rfl, rfl, ?_⟩
            refine ⟨wt, nV fa.2.2, pl, _, rfl, RL.same v0 hwt4, by rw [nV_len, faw]; exact pll, by rw [nV_len, faw]; omega, fun H7 z s7 nz hz => ?_⟩
            refine ⟨Nat.le_trans (by show 3 ≤ 16777216; decide) big, fun y ny => ?_⟩
            have v1 := same_new (o := .lst [.str fa.1, .ref mk, .ref z]) ny
            have w1 : RL (upd H7 y (.lst [.str fa.1, .ref mk, .ref z])) y [.str fa.1, .ref mk, .ref z] := upd_same ..
            generalize upd H7 y (.lst [.str fa.1, .ref mk, .ref z]) = H5 at v1 w1
            have s35 := same2 s4 (same2 v0 (same2 s7 v1))
            refine ⟨c', qg.map V.ref, at', .ref y, rfl, RL.same s35 hq3, by rw [List.length_map]; exact atl, by rw [List.length_map]; omega, fun H6 f2 s6 nf hf2 => ?_⟩
            have s36 := same2 s35 s6
            refine k3 H6 f2 m15 (W.parts.set at' (fa.1, fa.2.1, fa.2.2.set pl (1 + zz))) s36 ⟨qg.set at' y, by rw [List.map_set]; exact hf2, Paired.setP (pimp (fun _ _ _ e => e.mono fun _ _ z => RL.same s36 z) hqA) at' ⟨mk, z, RL.same s6 w1, RL.same s36 hmk3, ?_⟩⟩ (NOk.set po kf (.inl rfl) ⟨fan, fal, by show (fa.2.2.set _ _).length = _; rw [List.length_set]; exact faw, fun x hx => ?_⟩) (by rw [List.length_set]; exact pew) (.inl (by omega))
            · rw [show nV (fa.2.2.set pl (1 + zz)) = (nV fa.2.2).set pl (.int (1 + ((zz : Nat) : Int))) from by unfold nV; rw [List.map_set, show ((1 + zz : Nat) : Int) = 1 + ((zz : Nat) : Int) from by omega]]
              exact RL.same (same2 v1 s6) hz
            · rcases List.mem_or_eq_of_mem_set hx with m | m
              · exact fa1 x m
              · rw [m]; omega
          have s4 : Same HA HA := fun _ _ e => e
          refine ⟨_, rfl, p, _, _, _, rfl, rfl, (hp3.same s4).sq, atI_nat (j := 0) (nV_at0 (by omega)), rfl, _, rfl, ?_⟩
          by_cases b2 : at0 sh 0 = 2
          case neg =>
            rw [show decide (V.int (at0 sh 0 : Nat) = V.int 2) = false from decide_eq_false (fun e => b2 (by have := V.int.inj e; omega))]
            exact iteF (k2 HA cl none W.parts s4 ⟨qg, hq3, hqA⟩ po pew (.inr ⟨rfl, rfl⟩))
          rw [show decide (V.int (at0 sh 0 : Nat) = V.int 2) = true from decide_eq_true (by rw [b2] <;> rfl)]
          refine iteT ?_
          obtain ⟨g, hg, gl⟩ := digit (a := ((at0 sh 2 : Nat) : Int)) (n := (nV W.deals).length) (by rw [nV_len]; exact d1)
          rw [nV_len] at gl
          refine ⟨_, rfl, u, _, _, _, rfl, rfl, hu3.sq, atI_nat (j := 1) rfl, _, rfl, p, _, _, _, rfl, rfl, hp3.sq, atI_nat (j := 2) (nV_at0 (by omega)), .inl ⟨_, rfl, _, rfl, d, _, rfl, .inl hd3.sq, _, _, rfl, rfl, by rw [nV_len]; omega, mk, _, _, _, rfl, rfl, hmk3.sq, by show atI _ (Int.fmod _ _) = _; rw [← hg]; exact atI_nat (atZ_at (by omega)), _, _, rfl, rfl, ⟨by decide, by decide, by decide⟩, Nat.le_trans (by show 2 ≤ 16777216; decide) big, fun Z nZ => ?_⟩⟩
          have v0 := same_new (o := .lst ([atZ fa.2.1 g, 10 ^ (9 : Int).toNat].map V.int)) nZ
          have w0 : RL (upd HA Z (.lst ([atZ fa.2.1 g, 10 ^ (9 : Int).toNat].map V.int))) Z ([atZ fa.2.1 g, 10 ^ (9 : Int).toNat].map V.int) := upd_same ..
          refine ⟨_, rfl, p, _, _, _, rfl, rfl, (hp3.same v0).sq, atI_nat (j := 2) (nV_at0 (by omega)), rfl, .inr ⟨_, rfl, ?_⟩⟩
          dsimp only
          generalize decide (V.int (at0 sh 2 : Nat) = V.int 5) = b22
          obtain ⟨zz, hzz⟩ : ∃ zz : Int, atI ([atZ fa.2.1 g, 10 ^ (9 : Int).toNat].map V.int) (if b22 = true then 1 else 0) = some (V.int zz) := by cases b22 <;> exact ⟨_, rfl⟩
          refine ⟨Z, _, _, _, rfl, rfl, w0.sq, hzz, ?_⟩
          refine ⟨_, rfl, _, rfl, _, rfl, u, _, _, _, rfl, rfl, (RL.same v0 hu3).sq, atI_nat (j := 0) rfl, _, rfl, u, _, _, _, rfl, rfl, (RL.same v0 hu3).sq, atI_nat (j := 1) rfl, _, rfl, _, rfl, mk, fa.2.1.map V.int, pl, _, rfl, RL.same v0 hmk3, by rw [List.length_map, fal]; exact pll, by rw [List.length_map, fal]; omega, fun H7 z s7 nz hz => ?_⟩
          refine ⟨_, rfl, u, _, _, _, rfl, rfl, (RL.same (same2 v0 s7) hu3).sq, atI_nat (j := 2) rfl, Nat.le_trans (by show 3 ≤ 16777216; decide) big, fun y ny => ?_⟩
          have v1 := same_new (o := .lst [.str fa.1, .ref z, .ref wt]) ny
          have w1 : RL (upd H7 y (.lst [.str fa.1, .ref z, .ref wt])) y [.str fa.1, .ref z, .ref wt] := upd_same ..
          generalize upd H7 y (.lst [.str fa.1, .ref z, .ref wt]) = H5 at v1 w1
          have s35 := same2 v0 (same2 s7 v1)
          refine ⟨cl, qg.map V.ref, at', .ref y, rfl, RL.same s35 hq3, by rw [List.length_map]; exact atl, by rw [List.length_map]; omega, fun H6 f2 s6 nf hf2 => ?_⟩
          have s36 := same2 s35 s6
          refine k2 H6 f2 _ (W.parts.set at' (fa.1, fa.2.1.set pl zz, fa.2.2)) s36 ⟨qg.set at' y, by rw [List.map_set]; exact hf2, Paired.setP (pimp (fun _ _ _ e => e.mono fun _ _ z => RL.same s36 z) hqA) at' ⟨z, wt, RL.same s6 w1, ?_, RL.same s36 hwt3⟩⟩ (NOk.set po kf (.inl rfl) ⟨fan, by show (fa.2.1.set _ _).length = _; rw [List.length_set]; exact fal, faw, fa1⟩) (by rw [List.length_set]; exact pew) (.inl (by omega))
          rw [show (fa.2.1.set pl zz).map V.int = (fa.2.1.map V.int).set pl (.int zz) from List.map_set ..]
          exact RL.same (same2 v1 s6) hz
      -- facts
      obtain ⟨qg, hq1, hq2⟩ := hf2'
      have ql := Paired.length hq2
      refine ⟨_, rfl, f, _, rfl, .inl hq1.sq, _, _, rfl, rfl, _, rfl, ?_⟩
      by_cases l0 : (0 : Int) < (((qg.map V.ref).length : Nat) : Int)
      case neg =>
        rw [show decide ((0 : Int) < (((qg.map V.ref).length : Nat) : Int)) = false from decide_eq_false l0]
        exact iteF (iteF (restF H2 (fun _ _ e => e)))
      rw [show decide ((0 : Int) < (((qg.map V.ref).length : Nat) : Int)) = true from decide_eq_true l0]
      refine iteT ⟨_, rfl, p, _, _, _, rfl, rfl, hp2.sq, atI_nat (j := 0) (nV_at0 (by omega)), Nat.le_trans (by show 7 ≤ 16777216; decide) big, fun M nM => ?_⟩
      have s3 := same_new (o := .lst [.int 1, .int 4, .int 6, .int 10, .int 12, .int 14, .int 15]) nM
      have hM : RL (upd H2 M (.lst [.int 1, .int 4, .int 6, .int 10, .int 12, .int 14, .int 15])) M [.int 1, .int 4, .int 6, .int 10, .int 12, .int 14, .int 15] := upd_same ..
      generalize upd H2 M (.lst [.int 1, .int 4, .int 6, .int 10, .int 12, .int 14, .int 15]) = H3 at s3 hM
      refine ⟨M, _, rfl, .inl hM.sq, rfl, rfl, _, rfl, ?_⟩
      generalize (if false = true then !inV (V.int (at0 sh 0 : Nat)) [.int 1, .int 4, .int 6, .int 10, .int 12, .int 14, .int 15] else inV (V.int (at0 sh 0 : Nat)) [.int 1, .int 4, .int 6, .int 10, .int 12, .int 14, .int 15]) = bb
      cases bb with
      | false => exact iteF (restF H3 s3)
      | true =>
        refine iteT ?_
        have hp3 := hp2.same s3
        have hd3 := hd2.same s3
        have hq3 := hq1.same s3
        have hc3 := hc2'.same s3
        have few := ok.few
        have pew := ok.pew
        rw [List.length_map] at l0
        obtain ⟨at', hat, atl⟩ := digit (a := ((at0 sh 3 : Nat) : Int)) (n := (qg.map V.ref).length) (by rw [List.length_map]; omega)
        refine ⟨_, rfl, p, _, _, _, rfl, rfl, hp3.sq, atI_nat (j := 3) (nV_at0 (by omega)), .inl ⟨_, rfl, _, rfl, f, _, rfl, .inl hq3.sq, _, _, rfl, rfl, by rw [List.length_map]; omega, ?_⟩⟩
        dsimp only
        rw [← hat]
        rw [List.length_map] at atl
        obtain ⟨u, fa, ku, kf, da, hu, hda⟩ := pget2 hq2 atl
        have hu3 := RL.same s3 hu
        have hda3 := RL.same s3 hda
        obtain ⟨fan, fal, fa9⟩ := fo.2 fa (List.mem_of_getElem? kf)
        refine ⟨_, rfl, _, rfl, f, _, _, _, rfl, rfl, hq3.sq, atI_nat (by rw [List.getElem?_map, ku] <;> rfl), ?_⟩
        dsimp only [gName]
        refine seq_cut fun E1 e1 => ?_
        have k1 : ∀ (H4 : Hp) (f' : Addr) (fs : List (Str × List Nat)), Same H3 H4 → LFacts H4 f' fs → FOk W.deals.length fs → fs.length ≤ 5 → at' < fs.length → E1.nx [some (.ref a), some (.int c), some (.ref p), some (.int (pl : Nat)), some (.ref d), some (.ref f'), some (.ref cl), some (.str nm), none, none, some (.int (at' : Nat)), some (.ref u), none, none, none, none, none] H4 := by
          intro H4 f' fs s4 lf fk l5 la
          rw [e1]
          refine seq_cut fun E4 e4 => ?_
          have k4 : ∀ (H4 : Hp) (f' : Addr) (fs : List (Str × List Nat)), Same H3 H4 → LFacts H4 f' fs → FOk W.deals.length fs → fs.length ≤ 5 → at' < fs.length → E4.nx [some (.ref a), some (.int c), some (.ref p), some (.int (pl : Nat)), some (.ref d), some (.ref f'), some (.ref cl), some (.str nm), none, none, some (.int (at' : Nat)), some (.ref u), none, none, none, none, none] H4 := by
            intro H4 f' fs s4 lf fk l5 la
            rw [e4]
            refine seq_cut fun E6 e6 => ?_
            have k6 : ∀ (H4 : Hp) (f' : Addr) (fs : List (Str × List Nat)), Same H3 H4 → LFacts H4 f' fs → FOk W.deals.length fs → fs.length ≤ 5 → at' < fs.length → E6.nx [some (.ref a), some (.int c), some (.ref p), some (.int (pl : Nat)), some (.ref d), some (.ref f'), some (.ref cl), some (.str nm), none, none, some (.int (at' : Nat)), some (.ref u), none, none, none, none, none] H4 := by
              intro H4 f' fs s4 lf fk l5 la
              rw [e6]
              refine seq_cut fun E10 e10 => ?_
              have k10 : ∀ (H4 : Hp) (f' : Addr) (fs : List (Str × List Nat)), Same H3 H4 → LFacts H4 f' fs → FOk W.deals.length fs → fs.length ≤ 5 → at' ≤ fs.length → E10.nx [some (.ref a), some (.int c), some (.ref p), some (.int (pl : Nat)), some (.ref d), some (.ref f'), some (.ref cl), some (.str nm), none, none, some (.int (at' : Nat)), some (.ref u), none, none, none, none, none] H4 := by
                intro H4 f' fs s4 lf fk l5 la
                rw [e10]
                refine seq_cut fun E12 e12 => ?_
                have k12 : ∀ (H4 : Hp) (f' : Addr) (m13 : Option V) (fs : List (Str × List Nat)), Same H3 H4 → LFacts H4 f' fs → FOk W.deals.length fs → fs.length ≤ 5 → at' ≤ fs.length → E12.nx [some (.ref a), some (.int c), some (.ref p), some (.int (pl : Nat)), some (.ref d), some (.ref f'), some (.ref cl), some (.str nm), none, none, some (.int (at' : Nat)), some (.ref u), none, m13, none, none, none] H4 := by
                  intro H4 f' m13 fs s4 lf fk l5 la
                  rw [e12]
                  refine seq_cut fun E14 e14 => ?_
                  have k14 : ∀ (H4 : Hp) (f' : Addr) (m13 : Option V) (fs : List (Str × List Nat)), Same H3 H4 → LFacts H4 f' fs → FOk W.deals.length fs → fs.length ≤ 5 → at' ≤ fs.length → E14.nx [some (.ref a), some (.int c), some (.ref p), some (.int (pl : Nat)), some (.ref d), some (.ref f'), some (.ref cl), some (.str nm), none, none, some (.int (at' : Nat)), some (.ref u), none, m13, none, none, none] H4 := by
                    intro H4 f' m13 fs s4 lf fk l5 la
                    rw [e14]
                    refine seq_cut fun E15 e15 => ?_
                    have k15 : ∀ (H4 : Hp) (f' c' : Addr) (m13 : Option V) (fs : List (Str × List Nat)) (ps : List (Str × List Int × List Nat)), Same H3 H4 → LFacts H4 f' fs → FOk W.deals.length fs → fs.length ≤ 5 → LParts H4 c' ps → POk W.deals.length ps → ps.length ≤ 5 → E15.nx [some (.ref a), some (.int c), some (.ref p), some (.int (pl : Nat)), some (.ref d), some (.ref f'), some (.ref c'), some (.str nm), none, none, some (.int (at' : Nat)), some (.ref u), none, m13, none, none, none] H4 := by
                      intro H4 f' c' m13 fs ps s4 lf fk l5 lc pk m5
                      rw [e15]
                      have s24 := same2 s3 s4
                      refine ⟨_, rfl, _, rfl, _, rfl, Nat.le_trans (by show 3 ≤ 16777216; decide) big, fun y ny => ?_⟩
                      rw [gF]
                      exact fin H4 d f' c' W.deals fs ps s24 (hd3.same s4) lf lc ⟨d1, d2, ok.dw, fun x hx => by have := ok.db x hx; show x < b + 1; omega, fk.1, pk.1, fk.2, pk.2, l5, m5⟩ y ny
                    refine ⟨_, rfl, p, _, _, _, rfl, rfl, (hp3.same s4).sq, atI_nat (j := 0) (nV_at0 (by omega)), rfl, _, rfl, ?_⟩
                    generalize decide (V.int (at0 sh 0 : Nat) = V.int 15) = b15
                    cases b15 with
                    | false => exact iteF (iteF (k15 H4 f' cl m13 fs W.parts s4 lf fk l5 (hc3.same s4) po pew))
                    | true =>
                      refine iteT ?_
                      obtain ⟨qp, hr1, hr2⟩ := hc3.same s4
                      have rl := Paired.length hr2
                      refine ⟨_, rfl, cl, _, rfl, .inl hr1.sq, _, _, rfl, rfl, _, rfl, ?_⟩
                      by_cases c5 : (((qp.map V.ref).length : Nat) : Int) < 5
                      case neg =>
                        rw [show decide ((((qp.map V.ref).length : Nat) : Int) < 5) = false from decide_eq_false c5]
                        exact iteF (iteF (k15 H4 f' cl m13 fs W.parts s4 lf fk l5 (hc3.same s4) po pew))
                      rw [show decide ((((qp.map V.ref).length : Nat) : Int) < 5) = true from decide_eq_true c5]
                      rw [List.length_map] at c5
                      refine iteT ?_
                      have hu4 := RL.same s4 hu3
                      refine ⟨_, rfl, u, _, _, _, rfl, rfl, hu4.sq, atI_nat (j := 0) rfl, ?_⟩
                      refine ⟨_, rfl, cl, rfl, ⟨_, (hr1).sq⟩, fun N nN => ?_⟩
                      refine lc_it (walk_list (K := K) (a := cl) (xs := qp.map V.ref)) (fun j H5 => H5 N = some (.lst (((W.parts.take j).map (·.1)).map V.str)) ∧ Same H4 H5) ⟨upd_same .., same_new nN⟩ (fun j H5 _ h => (RL.same h.2 hr1).sq) ?_ ?_
                      · rintro j y H6 H5 hj ⟨r1, r2⟩ ⟨rfl, hy⟩
                        rw [List.length_map] at hj
                        obtain ⟨q, x, z1, z2, z3⟩ := pget2 hr2 hj
                        rw [List.getElem?_map, z1] at hy
                        cases hy
                        obtain ⟨xt, z4⟩ : ∃ xt, RL H4 q (.str x.1 :: xt) := by
                          obtain ⟨m, w, e1, _⟩ := z3
                          exact ⟨_, e1⟩
                        refine ⟨rfl, _, rfl, q, _, _, _, rfl, rfl, (RL.same r2 z4).sq, atI_nat (j := 0) rfl, _, r1, by rw [List.length_map, List.length_map, List.length_take]; omega, ?_, same_put nN r2⟩
                        rw [upd_same, take_map z2, List.map_append] <;> rfl
                      rintro H5 ⟨r1, r2⟩
                      rw [List.length_map, rl, List.take_length] at r1
                      refine ⟨N, _, rfl, .inl (.inl (.inl r1)), rfl, Ms.flat_strs _, _, rfl, ?_⟩
                      rw [inV_str]
                      have s45 := same2 s4 r2
                      by_cases hz : fa.1 ∈ W.parts.map (·.1)
                      · rw [show (if true = true then !decide (fa.1 ∈ W.parts.map (·.1)) else decide (fa.1 ∈ W.parts.map (·.1))) = false from by rw [decide_eq_true hz] <;> rfl]
                        exact iteF (k15 H5 f' cl m13 fs W.parts s45 (lf.same r2) fk l5 (hc3.same s45) po pew)
                      rw [show (if true = true then !decide (fa.1 ∈ W.parts.map (·.1)) else decide (fa.1 ∈ W.parts.map (·.1))) = true from by rw [decide_eq_false hz] <;> rfl]
                      refine iteT ?_
                      obtain ⟨qs, lf1, lf2⟩ := lf.same r2
                      have qsl := Paired.length lf2
                      refine del_cat rfl rfl lf1 (by omega) (by omega) fun H6 f2 v1 nf2 hf2 => ?_
                      have s46 := same2 r2 v1
                      have s36 := same2 s4 s46
                      refine ⟨_, rfl, u, _, _, _, rfl, rfl, (RL.same s36 hu3).sq, atI_nat (j := 0) rfl, _, rfl, u, _, _, _, rfl, rfl, (RL.same s36 hu3).sq, atI_nat (j := 1) rfl, _, rfl, d, rfl, ⟨_, (RL.same s36 hd3).sq⟩, fun N2 nN2 => ?_⟩
                      refine lc_it (walk_list (K := K) (a := d) (xs := nV W.deals)) (fun j H7 => H7 N2 = some (.lst (nV (List.replicate j 1))) ∧ Same H6 H7) ⟨upd_same .., same_new nN2⟩ (fun j H7 _ h => (RL.same (same2 s36 h.2) hd3).sq) ?_ ?_
                      · rintro j y H8 H7 hj ⟨t1, t2⟩ ⟨rfl, hy⟩
                        rw [nV_len] at hj
                        refine ⟨rfl, _, t1, by rw [nV_len, List.length_replicate]; omega, ?_, same_put nN2 t2⟩
                        rw [upd_same, List.replicate_succ', ← nV_snoc] <;> rfl
                      rintro H7 ⟨t1, t2⟩
                      rw [nV_len] at t1
                      refine ⟨Nat.le_trans (by show 3 ≤ 16777216; decide) big, fun y1 ny1 => ?_⟩
                      have v3 := same_new (o := .lst [.str fa.1, .ref da, .ref N2]) ny1
                      have w3 : RL (upd H7 y1 (.lst [.str fa.1, .ref da, .ref N2])) y1 [.str fa.1, .ref da, .ref N2] := upd_same ..
                      generalize upd H7 y1 (.lst [.str fa.1, .ref da, .ref N2]) = H8 at v3 w3
                      refine ⟨Nat.le_trans (by show 1 ≤ 16777216; decide) big, fun y2 ny2 => ?_⟩
                      have v4 := same_new (o := .lst [.ref y1]) ny2
                      have w4 : RL (upd H8 y2 (.lst [.ref y1])) y2 [.ref y1] := upd_same ..
                      generalize upd H8 y2 (.lst [.ref y1]) = H9 at v4 w4
                      have s69 := same2 t2 (same2 v3 v4)
                      have s49 := same2 s46 s69
                      refine ⟨_, rfl, y2, cl, _, _, rfl, rfl, w4, RL.same s49 hr1, by rw [List.length_map, List.length_singleton]; omega, fun z nz => ?_⟩
                      have v5 := same_new (o := .lst ([.ref y1] ++ qp.map V.ref)) nz
                      have w5 : RL (upd H9 z (.lst ([.ref y1] ++ qp.map V.ref))) z ((y1 :: qp).map V.ref) := upd_same ..
                      generalize upd H9 z (.lst ([.ref y1] ++ qp.map V.ref)) = H10 at v5 w5
                      have s610 := same2 s69 v5
                      have s410 := same2 s46 s610
                      refine k15 H10 f2 z m13 (fs.take at' ++ fs.drop (at' + 1)) ((fa.1, cI fa.2, List.replicate W.deals.length 1) :: W.parts) (same2 s4 s410) ⟨_, RL.same s610 hf2, Paired.appP (Paired.takeP (pimp (fun _ _ _ e => e.mono fun _ _ z => RL.same (same2 v1 s610) z) lf2) at') (Paired.dropP (pimp (fun _ _ _ e => e.mono fun _ _ z => RL.same (same2 v1 s610) z) lf2) (at' + 1))⟩ (NOk.del fk at') (by rw [List.length_append, List.length_take, List.length_drop]; omega) ⟨_, w5, .cons ⟨da, N2, RL.same (same2 v4 v5) w3, ?_, RL.same (same2 v3 (same2 v4 v5)) t1⟩ (pimp (fun _ _ _ e => e.mono fun _ _ z => RL.same s410 z) hr2)⟩ (NOk.cons po hz ⟨fan, by show (List.map _ _).length = _; rw [List.length_map]; exact fal, List.length_replicate, fun x hx => by rw [(List.mem_replicate.mp hx).2]; exact Nat.le_refl 1⟩) (by rw [List.length_cons]; omega)
                      rw [show (cI fa.2).map V.int = nV fa.2 from (nV_int _).symm]
                      exact RL.same (same2 s4 s410) hda3
                  refine ⟨_, rfl, p, _, _, _, rfl, rfl, (hp3.same s4).sq, atI_nat (j := 0) (nV_at0 (by omega)), rfl, _, rfl, ?_⟩
                  generalize decide (V.int (at0 sh 0 : Nat) = V.int 14) = b14
                  cases b14 with
                  | false => exact iteF (iteF (k14 H4 f' m13 fs s4 lf fk l5 la))
                  | true =>
                    refine iteT ?_
                    have lf0 := lf
                    obtain ⟨qs, lf1, lf2⟩ := lf
                    have qsl := Paired.length lf2
                    refine ⟨_, rfl, f', _, rfl, .inl lf1.sq, _, _, rfl, rfl, _, rfl, ?_⟩
                    by_cases c1 : (1 : Int) < (((qs.map V.ref).length : Nat) : Int)
                    case neg =>
                      rw [show decide ((1 : Int) < (((qs.map V.ref).length : Nat) : Int)) = false from decide_eq_false c1]
                      exact iteF (k14 H4 f' m13 fs s4 lf0 fk l5 la)
                    rw [show decide ((1 : Int) < (((qs.map V.ref).length : Nat) : Int)) = true from decide_eq_true c1]
                    rw [List.length_map] at c1
                    refine iteT ?_
                    obtain ⟨q0, x0, y1, y2, da0, y3, y4⟩ := pget2 lf2 (i := 0) (by omega)
                    obtain ⟨q1, x1, z1, z2, da1, z3, z4⟩ := pget2 lf2 (i := 1) (by omega)
                    refine ⟨_, rfl, f', _, _, _, rfl, rfl, lf1.sq, atI_nat (j := 0) (by rw [List.getElem?_map, y1] <;> rfl), q0, _, _, _, rfl, rfl, y3.sq, atI_nat (j := 0) rfl, _, rfl, f', _, _, _, rfl, rfl, lf1.sq, atI_nat (j := 1) (by rw [List.getElem?_map, z1] <;> rfl), q1, _, _, _, rfl, rfl, z3.sq, atI_nat (j := 0) rfl, x0.1, x1.1, rfl, (fk.2 x0 (List.mem_of_getElem? y2)).1, (fk.2 x1 (List.mem_of_getElem? z2)).1, fun H5 pn a' b' s5 npn hpn na' nb' => ?_⟩
                    refine ⟨_, rfl, _, rfl, pn, _, _, _, rfl, rfl, hpn.sq, atI_nat (j := 0) rfl, ?_⟩
                    dsimp only [tNil]
                    refine renm_facts (k := 0) (lf0.same s5) fk l5 (by omega) na' fun H6 f2 fs2 s6 lf2' fk2 el2 => ?_
                    refine ⟨_, rfl, pn, _, _, _, rfl, rfl, (RL.same s6 hpn).sq, atI_nat (j := 1) rfl, ?_⟩
                    dsimp only [tNil]
                    refine renm_facts (k := 1) lf2' fk2 (by omega) (by omega) nb' fun H7 f3 fs3 s7 lf3 fk3 el3 => ?_
                    exact k14 H7 f3 _ fs3 (same2 s4 (same2 s5 (same2 s6 s7))) lf3 fk3 (by omega) (by omega)
                refine ⟨_, rfl, p, _, _, _, rfl, rfl, (hp3.same s4).sq, atI_nat (j := 0) (nV_at0 (by omega)), rfl, _, rfl, ?_⟩
                generalize decide (V.int (at0 sh 0 : Nat) = V.int 12) = b12
                cases b12 with
                | false => exact iteF (iteF (k12 H4 f' none fs s4 lf fk l5 la))
                | true =>
                  refine iteT ?_
                  have lf0 := lf
                  obtain ⟨qs, lf1, lf2⟩ := lf
                  have qsl := Paired.length lf2
                  refine ⟨_, rfl, f', _, rfl, .inl lf1.sq, _, _, rfl, rfl, _, rfl, ?_⟩
                  by_cases c5 : (((qs.map V.ref).length : Nat) : Int) < 5
                  case neg =>
                    rw [show decide ((((qs.map V.ref).length : Nat) : Int) < 5) = false from decide_eq_false c5]
                    exact iteF (iteF (k12 H4 f' none fs s4 lf0 fk l5 la))
                  rw [show decide ((((qs.map V.ref).length : Nat) : Int) < 5) = true from decide_eq_true c5]
                  rw [List.length_map] at c5
                  refine iteT ?_
                  refine ⟨_, rfl, _, rfl, f', rfl, ⟨_, (lf1).sq⟩, fun N nN => ?_⟩
                  refine lc_it (walk_list (K := K) (a := f') (xs := qs.map V.ref)) (fun j H5 => H5 N = some (.lst (((fs.take j).map (·.1)).map V.str)) ∧ Same H4 H5) ⟨upd_same .., same_new nN⟩ (fun j H5 _ h => (RL.same h.2 lf1).sq) ?_ ?_
                  · rintro j y H6 H5 hj ⟨r1, r2⟩ ⟨rfl, hy⟩
                    rw [List.length_map] at hj
                    obtain ⟨q, x, z1, z2, z3⟩ := pget2 lf2 hj
                    rw [List.getElem?_map, z1] at hy
                    cases hy
                    obtain ⟨xt, z4⟩ : ∃ xt, RL H4 q (.str x.1 :: xt) := by
                      obtain ⟨da', e1, _⟩ := z3
                      exact ⟨_, e1⟩
                    refine ⟨rfl, _, rfl, q, _, _, _, rfl, rfl, (RL.same r2 z4).sq, atI_nat (j := 0) rfl, _, r1, by rw [List.length_map, List.length_map, List.length_take]; omega, ?_, same_put nN r2⟩
                    rw [upd_same, take_map z2, List.map_append] <;> rfl
                  rintro H5 ⟨r1, r2⟩
                  rw [List.length_map, qsl, List.take_length] at r1
                  refine ⟨N, _, rfl, .inl (.inl (.inl r1)), rfl, Ms.flat_strs _, _, rfl, ?_⟩
                  rw [inV_str]
                  have s45 := same2 s4 r2
                  by_cases hz : nm ∈ fs.map (·.1)
                  · rw [show (if true = true then !decide (nm ∈ fs.map (·.1)) else decide (nm ∈ fs.map (·.1))) = false from by rw [decide_eq_true hz] <;> rfl]
                    exact iteF (k12 H5 f' none fs s45 (lf0.same r2) fk l5 la)
                  rw [show (if true = true then !decide (nm ∈ fs.map (·.1)) else decide (nm ∈ fs.map (·.1))) = true from by rw [decide_eq_false hz] <;> rfl]
                  refine iteT ?_
                  refine ⟨_, rfl, _, rfl, _, rfl, u, _, _, _, rfl, rfl, (RL.same s45 hu3).sq, atI_nat (j := 1) rfl, Nat.le_trans (by show 2 ≤ 16777216; decide) big, fun y1 ny1 => ?_⟩
                  have v3 := same_new (o := .lst [.str nm, .ref da]) ny1
                  have w3 : RL (upd H5 y1 (.lst [.str nm, .ref da])) y1 [.str nm, .ref da] := upd_same ..
                  generalize upd H5 y1 (.lst [.str nm, .ref da]) = H6 at v3 w3
                  refine ⟨Nat.le_trans (by show 1 ≤ 16777216; decide) big, fun y2 ny2 => ?_⟩
                  have v4 := same_new (o := .lst [.ref y1]) ny2
                  have w4 : RL (upd H6 y2 (.lst [.ref y1])) y2 [.ref y1] := upd_same ..
                  generalize upd H6 y2 (.lst [.ref y1]) = H7 at v4 w4
                  have s47 := same2 r2 (same2 v3 v4)
                  refine ⟨f', y2, _, _, rfl, rfl, RL.same s47 lf1, w4, by rw [List.length_map, List.length_singleton]; omega, fun z nz => ?_⟩
                  have v5 := same_new (o := .lst (qs.map V.ref ++ [.ref y1])) nz
                  have w5 : RL (upd H7 z (.lst (qs.map V.ref ++ [.ref y1]))) z ((qs ++ [y1]).map V.ref) := by rw [RL, upd_same, List.map_append] <;> rfl
                  generalize upd H7 z (.lst (qs.map V.ref ++ [.ref y1])) = H8 at v5 w5
                  have s48 := same2 s47 v5
                  exact k12 H8 z none (fs ++ [(nm, fa.2)]) (same2 s4 s48) ⟨_, w5, psnoc (pimp (fun _ _ _ e => e.mono fun _ _ z => RL.same s48 z) lf2) ⟨da, RL.same (same2 v4 v5) w3, RL.same (same2 s4 s48) hda3⟩⟩ (fk.snoc hz hnm fal fa9) (by rw [List.length_append, List.length_singleton]; omega) (by rw [List.length_append]; omega)
              refine ⟨_, rfl, p, _, _, _, rfl, rfl, (hp3.same s4).sq, atI_nat (j := 0) (nV_at0 (by omega)), rfl, _, rfl, ?_⟩
              generalize decide (V.int (at0 sh 0 : Nat) = V.int 10) = b10
              cases b10 with
              | false => exact iteF (k10 H4 f' fs s4 lf fk l5 (by omega))
              | true =>
                refine iteT ?_
                obtain ⟨qs, lf1, lf2⟩ := lf
                have qsl := Paired.length lf2
                refine del_cat rfl rfl lf1 (by omega) (by omega) fun H6 f2 v1 nf2 hf2 => ?_
                exact k10 H6 f2 (fs.take at' ++ fs.drop (at' + 1)) (same2 s4 v1) ⟨_, hf2, Paired.appP (Paired.takeP (pimp (fun _ _ _ e => e.mono fun _ _ z => RL.same v1 z) lf2) at') (Paired.dropP (pimp (fun _ _ _ e => e.mono fun _ _ z => RL.same v1 z) lf2) (at' + 1))⟩ (NOk.del fk at') (by rw [List.length_append, List.length_take, List.length_drop]; omega) (by rw [List.length_append, List.length_take, List.length_drop]; omega)
            refine ⟨_, rfl, p, _, _, _, rfl, rfl, (hp3.same s4).sq, atI_nat (j := 0) (nV_at0 (by omega)), rfl, _, rfl, ?_⟩
            generalize decide (V.int (at0 sh 0 : Nat) = V.int 6) = b6
            cases b6 with
            | false => exact iteF (k6 H4 f' fs s4 lf fk l5 la)
            | true =>
              refine iteT ?_
              obtain ⟨qs, lf1, lf2⟩ := lf
              have qsl := Paired.length lf2
              refine rot_cat rfl lf1 (by omega) (by omega) fun H6 f2 v1 nf2 hf2 => ?_
              exact k6 H6 f2 (fs.drop 1 ++ fs.take 1) (same2 s4 v1) ⟨_, hf2, Paired.appP (Paired.dropP (pimp (fun _ _ _ e => e.mono fun _ _ z => RL.same v1 z) lf2) 1) (Paired.takeP (pimp (fun _ _ _ e => e.mono fun _ _ z => RL.same v1 z) lf2) 1)⟩ (NOk.rot fk 1) (by rw [List.length_append, List.length_take, List.length_drop]; omega) (by rw [List.length_append, List.length_take, List.length_drop]; omega)
          refine ⟨_, rfl, p, _, _, _, rfl, rfl, (hp3.same s4).sq, atI_nat (j := 0) (nV_at0 (by omega)), rfl, _, rfl, ?_⟩
          generalize decide (V.int (at0 sh 0 : Nat) = V.int 4) = b4
          cases b4 with
          | false => exact iteF (k4 H4 f' fs s4 lf fk l5 la)
          | true =>
            refine iteT ?_
            obtain ⟨qs, lf1, lf2⟩ := lf
            have qsl := Paired.length lf2
            obtain ⟨rows, w1, w2, w3, w4⟩ := fx_rows lf2
            refine ⟨_, rfl, _, rfl, _, rfl, f', qs, rows, at', nm, rfl, lf1, w1, w3, by omega, by omega, fun hz H6 v1 => ?_, fun hz H6 f2 u2 r v1 nf2 er hu2 hf2 => ?_⟩
            · exact k4 H6 f' fs (same2 s4 v1) ⟨qs, lf1.same v1, pimp (fun _ _ _ e => e.mono fun _ _ z => RL.same v1 z) lf2⟩ fk l5 la
            · obtain ⟨x, ex, da2, er2, hda2⟩ := LiI.paired_get w4 er
              rw [er2] at hu2
              obtain ⟨xn, xl, x9⟩ := fk.2 x (List.mem_of_getElem? ex)
              exact k4 H6 f2 (fs.set at' (nm, x.2)) (same2 s4 v1) ⟨_, hf2, Paired.setP (pimp (fun _ _ _ e => e.mono fun _ _ z => RL.same v1 z) lf2) at' ⟨da2, hu2, RL.same v1 hda2⟩⟩ (NOk.set fk ex (.inr (by rw [← w2]; exact hz)) ⟨hnm, xl, x9⟩) (by rw [List.length_set]; exact l5) (by rw [List.length_set]; exact la)
        refine ⟨_, rfl, p, _, _, _, rfl, rfl, (hp3).sq, atI_nat (j := 0) (nV_at0 (by omega)), rfl, _, rfl, ?_⟩
        generalize decide (V.int (at0 sh 0 : Nat) = V.int 1) = b1
        cases b1 with
        | false => exact iteF (k1 H3 f W.facts (fun _ _ e => e) ⟨qg, hq3, pimp (fun _ _ _ e => e.mono fun _ _ z => RL.same s3 z) hq2⟩ fo few (by omega))
        | true =>
          refine iteT ?_
          refine ⟨_, rfl, _, rfl, _, rfl, u, _, _, _, rfl, rfl, hu3.sq, atI_nat (j := 0) rfl, _, rfl, u, _, _, _, rfl, rfl, hu3.sq, atI_nat (j := 1) rfl, _, rfl, _, rfl, p, _, _, _, rfl, rfl, hp3.sq, atI_nat (j := 5) (nV_at0 (by omega)), da, nV fa.2, pl, _, rfl, hda3, by rw [nV_len, fal]; exact pll, by rw [nV_len, fal]; omega, fun H4 z s4 nz hz => ?_⟩
          refine ⟨Nat.le_trans (by show 2 ≤ 16777216; decide) big, fun y ny => ?_⟩
          have v1 := same_new (o := .lst [.str fa.1, .ref z]) ny
          have w1 : RL (upd H4 y (.lst [.str fa.1, .ref z])) y [.str fa.1, .ref z] := upd_same ..
          generalize upd H4 y (.lst [.str fa.1, .ref z]) = H5 at v1 w1
          have s35 := same2 s4 v1
          refine ⟨f, qg.map V.ref, at', .ref y, rfl, RL.same s35 hq3, by rw [List.length_map]; exact atl, by rw [List.length_map]; omega, fun H6 f2 s6 nf hf2 => ?_⟩
          have s36 := same2 s35 s6
          refine k1 H6 f2 (W.facts.set at' (fa.1, fa.2.set pl (at0 sh 5))) s36 ⟨qg.set at' y, by rw [List.map_set]; exact hf2, Paired.setP (pimp (fun _ _ _ e => e.mono fun _ _ z => RL.same (same2 s3 s36) z) hq2) at' ⟨z, RL.same s6 w1, ?_⟩⟩ (NOk.set fo kf (.inl rfl) ⟨fan, by show (fa.2.set _ _).length = _; rw [List.length_set]; exact fal, fun x hx => ?_⟩) (by rw [List.length_set]; exact few) (by rw [List.length_set]; omega)
          · rw [show nV (fa.2.set pl (at0 sh 5)) = (nV fa.2).set pl (.int (at0 sh 5 : Nat)) from List.map_set ..]
            exact RL.same (same2 v1 s6) hz
          · rcases List.mem_or_eq_of_mem_set hx with m | m
            · exact fa9 x m
            · rw [m]; omega
    -- row 8
    refine ⟨_, rfl, p, _, _, _, rfl, rfl, hp2.sq, atI_nat (j := 0) (nV_at0 (by omega)), rfl, _, rfl, ?_⟩
    generalize decide (V.int (at0 sh 0 : Nat) = V.int 8) = b8
    cases b8 with
    | false => exact iteF rest8
    | true =>
      refine iteT ?_
      refine ⟨_, rfl, d, rfl, ⟨_, hd2.sq⟩, fun N nN => ?_⟩
      have ep := getE pll
      generalize hpv : W.deals[pl] = pv at ep
      refine lc_it (walk_list (K := K) (a := d) (xs := nV W.deals)) (fun i H3 => H3 N = some (.lst (nV ((W.deals.take i).map fun x => x + if pv ≤ x then 1 else 0))) ∧ Same H2 H3) ⟨upd_same .., same_new nN⟩ (fun i H3 _ h => (hd2.same h.2).sq) ?_ ?_
      · rintro i x H4 H3 hi ⟨q1, q2⟩ ⟨rfl, hx⟩
        obtain ⟨x, hxx, rfl⟩ := of_nV hx
        refine ⟨rfl, _, rfl, _, rfl, _, rfl, _, rfl, d, _, _, _, rfl, rfl, (hd2.same q2).sq, atI_nat (by rw [show (nV W.deals)[pl]? = (W.deals.map fun n => V.int (n : Nat))[pl]? from rfl, List.getElem?_map, ep] <;> rfl), _, _, rfl, rfl, .inr ⟨_, rfl, _, _, rfl, rfl, ?_⟩⟩
        refine ⟨_, q1, by rw [nV_len, List.length_map, List.length_take]; omega, ?_, same_put nN q2⟩
        have ev : ((x + if pv ≤ x then 1 else 0 : Nat) : Int) = ((x : Nat) : Int) + if decide (((pv : Nat) : Int) ≤ ((x : Nat) : Int)) = true then 1 else 0 := by
          by_cases hc : pv ≤ x
          · rw [show decide (((pv : Nat) : Int) ≤ ((x : Nat) : Int)) = true from decide_eq_true (by omega), if_pos hc, if_pos rfl] <;> rfl
          · rw [show decide (((pv : Nat) : Int) ≤ ((x : Nat) : Int)) = false from decide_eq_false (by omega), if_neg hc, if_neg Bool.false_ne_true] <;> rfl
        rw [upd_same, take_map hxx, ← nV_snoc, ev]
      rintro H3 ⟨q1, q2⟩
      rw [nV_len, List.take_length] at q1
      refine ⟨_, rfl, _, rfl, Nat.le_trans (by show 3 ≤ 16777216; decide) big, fun y ny => ?_⟩
      rw [g8]
      refine fin H3 N f cl _ W.facts W.parts q2 q1 (hf2'.same q2) (hc2'.same q2) ?_ y ny
      refine ⟨by show 0 < (List.map _ _).length; rw [List.length_map]; exact d1, by show (List.map _ _).length ≤ 6; rw [List.length_map]; exact d2, ?_, fun x hx => ?_, ok.fn, ok.pn, fun g hg => ?_, fun g hg => ?_, ok.few, ok.pew⟩
      · show (List.map _ _).Pairwise _
        rw [List.pairwise_map]
        refine ok.dw.imp fun {x y} hxy => ?_
        by_cases h1 : pv ≤ x <;> by_cases h2 : pv ≤ y <;> simp only [h1, h2, if_true, if_false] <;> omega
      · obtain ⟨z, hz, rfl⟩ := List.mem_map.mp hx
        have := ok.db z hz
        by_cases h1 : pv ≤ z <;> simp only [h1, if_true, if_false] <;> omega
      · obtain ⟨h1, h2, h3⟩ := ok.fo g hg
        exact ⟨h1, by rw [h2]; exact (List.length_map ..).symm, h3⟩
      · obtain ⟨h1, h2, h3, h4⟩ := ok.po g hg
        exact ⟨h1, by rw [h2]; exact (List.length_map ..).symm, by rw [h3]; exact (List.length_map ..).symm, h4⟩
  -- row 9
  refine ⟨_, rfl, p, _, _, _, rfl, rfl, hp2.sq, atI_nat (j := 0) (nV_at0 (by omega)), rfl, _, rfl, ?_⟩
  generalize decide (V.int (at0 sh 0 : Nat) = V.int 9) = b9
  cases b9 with
  | false => exact iteF (iteF rest9)
  | true =>
    refine iteT ⟨_, rfl, d, _, rfl, .inl hd2.sq, _, _, rfl, rfl, _, rfl, ?_⟩
    by_cases l1 : (1 : Int) < (((nV W.deals).length : Nat) : Int)
    · rw [show decide ((1 : Int) < (((nV W.deals).length : Nat) : Int)) = true from decide_eq_true l1]
      rw [nV_len] at l1
      refine iteT ⟨_, rfl, _, rfl, d, _, rfl, .inl hd2.sq, _, rfl, by omega, by rw [nV_len]; omega, ?_⟩
      rw [show (((nV W.deals).length : Nat) : Int).toNat = W.deals.length from by rw [nV_len]; omega]
      intro N nN
      refine lc_it walk_range (fun i H3 => H3 N = some (.lst (nV ((List.range i).filter fun k => decide (k ≠ pl)))) ∧ Same H2 H3) ⟨upd_same .., same_new nN⟩ (fun _ _ _ _ => trivial) ?_ ?_
      · rintro i x H4 H3 hi ⟨q1, q2⟩ ⟨rfl, hx⟩
        have hx : x = .int (i : Nat) := hx.trans (congrArg V.int (Int.zero_add _))
        subst hx
        refine ⟨rfl, _, rfl, _, rfl, rfl, _, rfl, ?_⟩
        rw [List.range_succ, List.filter_append]
        by_cases hc : i = pl
        · subst hc
          rw [show (!decide (V.int ((i : Nat) : Int) = V.int ((i : Nat) : Int))) = false from by rw [decide_eq_true rfl] <;> rfl, show [i].filter (fun k => decide (k ≠ i)) = [] from by simp, List.append_nil]
          exact iteF ⟨q1, q2⟩
        · rw [show (!decide (V.int ((i : Nat) : Int) = V.int ((pl : Nat) : Int))) = true from by rw [decide_eq_false fun e => hc (by have := V.int.inj e; omega)] <;> rfl, show [i].filter (fun k => decide (k ≠ pl)) = [i] from by simp [hc]]
          refine iteT ⟨_, rfl, _, q1, ?_, ?_, same_put nN q2⟩
          · rw [nV_len]
            have := List.length_filter_le (fun k => decide (k ≠ pl)) (List.range i)
            rw [List.length_range] at this
            omega
          · rw [upd_same, nV_snoc]
      rintro H3 ⟨q1, q2⟩
      have mem : ∀ k ∈ (List.range W.deals.length).filter fun k => decide (k ≠ pl), k < W.deals.length := fun k hk => List.mem_range.mp (List.mem_filter.mp hk).1
      have flen := List.length_filter_le (fun k => decide (k ≠ pl)) (List.range W.deals.length)
      rw [List.length_range] at flen
      refine ⟨a, N, W, _, b, rfl, wa2.same q2, ok, q1, by omega, mem, fun H4 q s4 nq hw' => ?_⟩
      rw [g9]
      refine hQ H4 q _ (same2 s02 (same2 q2 s4)) ((same2 s02 q2).free nq) hw' ((ok.only ?_ (by omega) (List.pairwise_lt_range.sublist List.filter_sublist) mem).mono (by omega))
      refine List.length_pos_of_mem (a := if pl = 0 then 1 else 0) (List.mem_filter.mpr ⟨List.mem_range.mpr ?_, decide_eq_true ?_⟩)
      · by_cases h : pl = 0
        · rw [if_pos h]; omega
        · rw [if_neg h]; omega
      · by_cases h : pl = 0
        · rw [if_pos h]; omega
        · rw [if_neg h]; exact fun e => h e.symm
    · rw [show decide ((1 : Int) < (((nV W.deals).length : Nat) : Int)) = false from decide_eq_false l1]
      exact iteF rest9
end
end K05
set_option Elab.async false
set_option linter.all false
set_option maxRecDepth 100000
set_option maxHeartbeats 4000000
/-! plain part of _law_build. -/
namespace K05
open PySem PySem.Spec PyProof.Rows L2 Ms
/-- two rising rows with the same members -/
theorem rise_ext : ∀ {l m : List Nat}, l.Pairwise (· < ·) → m.Pairwise (· < ·) → (∀ x, x ∈ l ↔ x ∈ m) → l = m
  | [], [], _, _, _ => rfl
  | [], y :: m, _, _, h => absurd ((h y).mpr List.mem_cons_self) List.not_mem_nil
  | x :: l, [], _, _, h => absurd ((h x).mp List.mem_cons_self) List.not_mem_nil
  | x :: l, y :: m, hl, hm, h => by
    obtain ⟨l1, l2⟩ := List.pairwise_cons.mp hl
    obtain ⟨m1, m2⟩ := List.pairwise_cons.mp hm
    have e : x = y := by
      have a := (h x).mp List.mem_cons_self
      have b := (h y).mpr List.mem_cons_self
      rcases List.mem_cons.mp a with a | a
      · exact a
      · rcases List.mem_cons.mp b with b | b
        · exact b.symm
        · have := l1 y b
          have := m1 x a
          omega
    subst e
    refine congrArg _ (rise_ext l2 m2 fun z => ⟨fun hz => ?_, fun hz => ?_⟩)
    · rcases List.mem_cons.mp ((h z).mp (List.mem_cons_of_mem _ hz)) with e | e
      · have := l1 z hz; omega
      · exact e
    · rcases List.mem_cons.mp ((h z).mpr (List.mem_cons_of_mem _ hz)) with e | e
      · have := m1 z hz; omega
      · exact e
/-- a rising row below n of n members -/
theorem rise_range {l : List Nat} {n : Nat} (h : l.Pairwise (· < ·)) (lt : ∀ x ∈ l, x < n) (hn : n ≤ l.length) : l = List.range n := by
  refine rise_ext h List.pairwise_lt_range fun x => ⟨fun m => List.mem_range.mpr (lt x m), fun m => ?_⟩
  have nd : l.Nodup := h.imp fun h e => by rw [e] at h; exact Nat.lt_irrefl _ h
  apply Classical.byContradiction
  intro hx
  have nd2 : (x :: l).Nodup := List.nodup_cons.mpr ⟨hx, nd⟩
  have := List.Nodup.length_le_of_subset nd2 (l₂ := List.range n) fun z hz => by
    rcases List.mem_cons.mp hz with e | e
    · rw [e]; exact m
    · exact List.mem_range.mpr (lt z e)
  rw [List.length_cons, List.length_range] at this
  omega
/-- what a row over open deals says of a deal -/
def rowf {α : Type} (row : List α) (fill : α) (deals : List Nat) (d : Nat) : α := (row ++ [fill]).getD ((deals ++ [d]).idxOf d) fill
theorem idx_lt (deals : List Nat) (d : Nat) : (deals ++ [d]).idxOf d < deals.length + 1 := by
  have := List.idxOf_lt_length_of_mem (l := deals ++ [d]) (a := d) (List.mem_append_right _ List.mem_cons_self)
  rw [List.length_append, List.length_singleton] at this
  exact this
theorem rowf_at {α : Type} {row : List α} {fill : α} {deals : List Nat} {d : Nat} (h : row.length = deals.length) : (row ++ [fill])[(deals ++ [d]).idxOf d]? = some (rowf row fill deals d) := by
  have l := idx_lt deals d
  unfold rowf
  rw [List.getD_eq_getElem?_getD]
  have : (deals ++ [d]).idxOf d < (row ++ [fill]).length := by rw [List.length_append, List.length_singleton, h]; exact l
  rw [getE this] <;> rfl
theorem rowf_deals {α : Type} {row : List α} {fill : α} {deals : List Nat} (nd : deals.Nodup) (h : row.length = deals.length) : deals.map (rowf row fill deals) = row := by
  refine List.ext_getElem? fun i => ?_
  rw [List.getElem?_map]
  rcases Nat.lt_or_ge i deals.length with l | l
  · rw [getE l]
    show some (rowf row fill deals deals[i]) = _
    have e : (deals ++ [deals[i]]).idxOf deals[i] = i := by
      rw [List.idxOf_append, if_pos (List.getElem_mem l)]
      exact nd.idxOf_getElem i l
    have r := rowf_at (row := row) (fill := fill) (deals := deals) (d := deals[i]) h
    rw [e, List.getElem?_append_left (by omega)] at r
    exact r.symm
  · rw [List.getElem?_eq_none l, List.getElem?_eq_none (by omega)] <;> rfl
theorem pick_range {n : Nat} {ps : List Nat} {f : Nat → Nat} (lt : ∀ p ∈ ps, p < n) : pickR ps ((List.range n).map f) = ps.map f := by
  refine List.map_congr_left fun p hp => ?_
  have e := of_at0 (l := (List.range n).map f) (i := p) (by rw [List.length_map, List.length_range]; exact lt p hp)
  rw [List.getElem?_map, List.getElem?_range (lt p hp)] at e
  exact (Option.some.inj e).symm
theorem ren_picked {ms : List Int} {ps : List Nat} (lt : ∀ p ∈ ps, p < ms.length) : ren ((pickR ps (ren ms)).map fun n => ((n : Nat) : Int)) = ren (pickZ ps ms) := by
  rw [ren_map fun a b e => by omega]
  refine (ren_alike ⟨by show (List.map _ _).length = (List.map _ _).length; rw [List.length_map, List.length_map], fun i j x y z w h1 h2 h3 h4 => ?_⟩).1
  have h1 : (ps.map (at0 (ren ms)))[i]? = some x := h1
  have h2 : (ps.map (at0 (ren ms)))[j]? = some y := h2
  have h3 : (ps.map (atZ ms))[i]? = some z := h3
  have h4 : (ps.map (atZ ms))[j]? = some w := h4
  rw [List.getElem?_map] at h1 h2 h3 h4
  cases ei : ps[i]? with
  | none => rw [ei] at h1; cases h1
  | some p =>
    cases ej : ps[j]? with
    | none => rw [ej] at h2; cases h2
    | some q =>
      rw [ei] at h1 h3
      rw [ej] at h2 h4
      cases h1; cases h2; cases h3; cases h4
      have lp := lt p (List.mem_of_getElem? ei)
      have lq := lt q (List.mem_of_getElem? ej)
      have a1 := of_at0 (l := ren ms) (i := p) (by rw [ren_len]; exact lp)
      have a2 := of_at0 (l := ren ms) (i := q) (by rw [ren_len]; exact lq)
      have b1 : ms[p]? = some (atZ ms p) := by unfold atZ; rw [List.getD_eq_getElem?_getD, getE lp] <;> rfl
      have b2 : ms[q]? = some (atZ ms q) := by unfold atZ; rw [List.getD_eq_getElem?_getD, getE lq] <;> rfl
      exact (alike_ren ms).symm.2 p q _ _ _ _ a1 a2 b1 b2
end K05
set_option Elab.async false
set_option linter.all false
set_option maxRecDepth 100000
set_option maxHeartbeats 4000000
/-! rows put one by one, the fresh one among them. -/
namespace K05
open PySem PySem.Spec PyProof.Rows L2 Ms
structure Put {α : Type} (z : Str) (b : Bool) (i : Nat) (fs L : List (Str × α)) : Prop where
  fil : (L.filter fun f => decide (f.1 ≠ z)) = fs.take i
  mem : z ∈ L.map (·.1) ↔ b = true
  len : L.length ≤ i + (if b then 1 else 0)
section
variable {α : Type} {z : Str} {b : Bool} {i : Nat} {fs L : List (Str × α)} {f : Str × α}
theorem Put.zero : Put z false 0 fs ([] : List (Str × α)) := ⟨rfl, ⟨fun h => absurd h List.not_mem_nil, fun h => absurd h (by decide)⟩, Nat.zero_le _⟩
theorem Put.notin (h : Put z b i fs L) (nd : (fs.map (·.1)).Nodup) (e : fs[i]? = some f) (nz : f.1 ≠ z) : ¬ f.1 ∈ L.map (·.1) := fun m => by
  obtain ⟨g, hg, eg⟩ := List.mem_map.mp m
  have hm : g ∈ fs.take i := by rw [← h.fil]; exact List.mem_filter.mpr ⟨hg, by rw [eg]; exact decide_eq_true nz⟩
  obtain ⟨j, hj⟩ := List.getElem?_of_mem hm
  rw [List.getElem?_take] at hj
  by_cases lj : j < i
  · rw [if_pos lj] at hj
    have a1 : (fs.map (·.1))[j]? = some f.1 := by rw [List.getElem?_map, hj, ← eg] <;> rfl
    have a2 : (fs.map (·.1))[i]? = some f.1 := by rw [List.getElem?_map, e] <;> rfl
    have li := ltE a1
    have := (List.getElem?_inj li nd).mp (a1.trans a2.symm)
    omega
  · rw [if_neg lj] at hj; cases hj
theorem Put.add (h : Put z b i fs L) (e : fs[i]? = some f) (nz : f.1 ≠ z) : Put z b (i + 1) fs (L ++ [f]) := by
  refine ⟨?_, ?_, by rw [List.length_append, List.length_singleton]; have := h.len; omega⟩
  · rw [List.filter_append, h.fil, List.take_add_one, e, List.filter_cons_of_pos (by simpa using nz)] <;> rfl
  · rw [List.map_append, List.mem_append, h.mem]
    exact ⟨fun m => m.elim id fun m => absurd (List.mem_singleton.mp m).symm nz, .inl⟩
theorem Put.skip (h : Put z b i fs L) (e : fs.length ≤ i) : Put z b (i + 1) fs L :=
  ⟨by rw [h.fil, List.take_of_length_le e, List.take_of_length_le (by omega)], h.mem, by have := h.len; omega⟩
theorem Put.new {v : α} (h : Put z false i fs L) : Put z true i fs (L ++ [(z, v)]) := by
  refine ⟨?_, ?_, by rw [List.length_append, List.length_singleton]; have := h.len; simp at this ⊢; omega⟩
  · rw [List.filter_append, h.fil, List.filter_cons_of_neg (by simp), List.filter_nil, List.append_nil]
  · rw [List.map_append, List.mem_append]
    exact ⟨fun _ => rfl, fun _ => .inr (List.mem_singleton.mpr rfl)⟩
theorem Put.done (h : Put z true i fs L) (e : fs.length ≤ i) : (L.filter fun f => decide (f.1 ≠ z)) = fs ∧ z ∈ L.map (·.1) := ⟨by rw [h.fil, List.take_of_length_le e], h.mem.mpr rfl⟩
end
theorem rowf_all {α : Type} {row : List α} {fill : α} {deals : List Nat} {d : Nat} {P : α → Prop} (h : ∀ x ∈ row, P x) (hf : P fill) : P (rowf row fill deals d) := by
  unfold rowf
  rw [List.getD_eq_getElem?_getD]
  cases e : (row ++ [fill])[(deals ++ [d]).idxOf d]? with
  | none => exact hf
  | some x =>
    rcases List.mem_append.mp (List.mem_of_getElem? e) with m | m
    · exact h x m
    · rw [List.mem_singleton.mp m]; exact hf
def FAC : List Int := [1, -2, 10 ^ 12]
theorem fac_ne {j : Nat} (h : j < 3) : atZ FAC j ≠ 0 ∧ -(2 ^ 64) < atZ FAC j ∧ atZ FAC j < 2 ^ 64 := by
  have : ∀ j, j < 3 → atZ FAC j ≠ 0 ∧ -(2 ^ 64) < atZ FAC j ∧ atZ FAC j < 2 ^ 64 := by decide
  exact this j h
/-- marks as a road writes them -/
def roadM (W : Wd) (r : Nat) (fac : Int) (ms : List Int) (y : Nat) : Int := rowf ms ((r : Nat) : Int) W.deals y * fac + ((r : Nat) : Int)
def Wd.over (W : Wd) (ov : List Nat) (r : Nat) (fac : Int) : Std := ⟨ov, W.facts.map fun p => (p.1, ov.map (rowf p.2 r W.deals)), W.parts.map fun q => (q.1, ren (ov.map (roadM W r fac q.2.1)), ov.map (rowf q.2.2 (1 + r) W.deals))⟩
section
variable {W : Wd} {b r n : Nat} {fac : Int}
theorem road_deals (nd : W.deals.Nodup) (hf : fac ≠ 0) {ms : List Int} (l : ms.length = W.deals.length) : ren (W.deals.map (roadM W r fac ms)) = ren ms := by
  have e : W.deals.map (roadM W r fac ms) = ms.map fun y => y * fac + ((r : Nat) : Int) := by
    have := congrArg (List.map fun y => y * fac + ((r : Nat) : Int)) (rowf_deals (row := ms) (fill := ((r : Nat) : Int)) nd l)
    rw [List.map_map] at this
    exact this
  rw [e]
  refine ren_map fun x y h => ?_
  have h : x * fac = y * fac := by omega
  exact Int.eq_of_mul_eq_mul_right hf h
theorem Wd.Ok.nd (ok : W.Ok b) : W.deals.Nodup := ok.dw.imp fun h e => by rw [e] at h; exact Nat.lt_irrefl _ h
theorem over_deals (ok : W.Ok b) (hf : fac ≠ 0) : W.over W.deals r fac = W.std := by
  have e1 : (W.facts.map fun p => (p.1, W.deals.map (rowf p.2 r W.deals))) = W.facts := by
    refine (List.map_congr_left fun p hp => ?_).trans (List.map_id _)
    rw [rowf_deals ok.nd (ok.fo p hp).2.1] <;> rfl
  have e2 : (W.parts.map fun q => (q.1, ren (W.deals.map (roadM W r fac q.2.1)), W.deals.map (rowf q.2.2 (1 + r) W.deals))) = W.parts.map fun p => (p.1, ren p.2.1, p.2.2) := by
    refine List.map_congr_left fun q hq => ?_
    rw [rowf_deals ok.nd (ok.po q hq).2.2.1, road_deals ok.nd hf (ok.po q hq).2.1]
  unfold Wd.over Wd.std
  rw [e1, e2]
theorem over_pick (ok : W.Ok b) (hf : fac ≠ 0) (lt : ∀ x ∈ W.deals, x < n) : (W.over (List.range n) r fac).pick W.deals = W.std := by
  have e0 : pickR W.deals (List.range n) = W.deals := by
    have := pick_range (n := n) (ps := W.deals) (f := fun y => y) lt
    rw [List.map_id', List.map_id'] at this
    exact this
  have e1 : ((W.over (List.range n) r fac).facts.map fun f => (f.1, pickR W.deals f.2)) = W.facts := by
    show (List.map _ (W.facts.map _)) = _
    rw [List.map_map]
    refine (List.map_congr_left fun p hp => ?_).trans (List.map_id _)
    show (p.1, pickR W.deals ((List.range n).map (rowf p.2 r W.deals))) = p
    rw [pick_range lt, rowf_deals ok.nd (ok.fo p hp).2.1] <;> rfl
  have e2 : ((W.over (List.range n) r fac).parts.map fun p => (p.1, ren ((pickR W.deals p.2.1).map fun n => ((n : Nat) : Int)), pickR W.deals p.2.2)) = W.parts.map fun p => (p.1, ren p.2.1, p.2.2) := by
    show (List.map _ (W.parts.map _)) = _
    rw [List.map_map]
    refine List.map_congr_left fun q hq => ?_
    show (q.1, ren ((pickR W.deals (ren ((List.range n).map (roadM W r fac q.2.1)))).map fun n => ((n : Nat) : Int)), pickR W.deals ((List.range n).map (rowf q.2.2 (1 + r) W.deals))) = _
    have ez : pickZ W.deals ((List.range n).map (roadM W r fac q.2.1)) = W.deals.map (roadM W r fac q.2.1) := by
      refine List.map_congr_left fun p hp => ?_
      unfold atZ
      rw [List.getD_eq_getElem?_getD, List.getElem?_map, List.getElem?_range (lt p hp)] <;> rfl
    rw [pick_range lt, rowf_deals ok.nd (ok.po q hq).2.2.1, ren_picked (fun p hp => by rw [List.length_map, List.length_range]; exact lt p hp), ez, road_deals ok.nd hf (ok.po q hq).2.1]
  show Std.mk _ _ _ = Std.mk _ _ _
  rw [e2]
  congr 1
end
/-- some first items -/
theorem cut_sub {xs : List V} {n : Nat} : ∃ k, cutV xs none (some ((n : Nat) : Int)) = xs.take k := by
  unfold cutV
  have e0 : HT.sIx xs.length 0 none = 0 := rfl
  rw [e0, List.drop_zero]
  exact ⟨_, rfl⟩
end K05
set_option Elab.async false
set_option linter.all false
set_option maxRecDepth 100000
set_option maxHeartbeats 4000000
namespace K05
open PySem PySem.Spec PyProof.Rows L2 Ms
def SSB : List Nat := [2, 4, 4, 5, 5, 3, 2, 2, 7]
theorem idx_cI (l : List Nat) (d : Nat) : (cI l).idxOf ((d : Nat) : Int) = l.idxOf d := by
  induction l with
  | nil => rfl
  | cons x l ih =>
    show (((x : Nat) : Int) :: cI l).idxOf _ = _
    rw [List.idxOf_cons, List.idxOf_cons, ih]
    by_cases h : x = d
    · subst h; simp
    · rw [show (((x : Nat) : Int) == ((d : Nat) : Int)) = false from by simp; omega, show (x == d) = false from by simp; omega]
theorem rot_catV {K : PySem.W.Frag} {σ : L2.St} {H : Hp} {Q : VK} {i : Nat} {f : Addr} {xs : List V} (hi : σ[i]? = some (some (.ref f))) (hf : RL H f xs) (hn : 1 ≤ xs.length) (hl : xs.length ≤ 1000)
    (h : ∀ H' z, Same H H' → H z = none → RL H' z (xs.drop 1 ++ xs.take 1) → Q (.ref z) H') :
    tOp rCat (tSl (rSlL K) (tVar i) (tPart (tC (V.int 1))) tNoPart) (tSl (rSlL K) (tVar i) tNoPart (tPart (tC (V.int 1)))) σ H Q := by
  have big : (16777216 : Nat) ≤ sizeLine := by decide
  refine ⟨_, hi, _, rfl, f, _, rfl, hf.sq, fun p1 np1 => ?_⟩
  rw [show cutV xs (some (1 : Int)) none = xs.drop 1 from cut_from2 _ (n := 1)]
  have v1 := same_new (o := .lst (xs.drop 1)) np1
  have w1 : RL (upd H p1 (.lst (xs.drop 1))) p1 (xs.drop 1) := upd_same ..
  generalize upd H p1 (.lst (xs.drop 1)) = H6 at v1 w1
  refine ⟨_, hi, _, rfl, f, _, rfl, (hf.same v1).sq, fun p2 np2 => ?_⟩
  rw [show cutV xs none (some (1 : Int)) = xs.take 1 from cut_to _ (n := 1) hn]
  have v2 := same_new (o := .lst (xs.take 1)) np2
  have w2 : RL (upd H6 p2 (.lst (xs.take 1))) p2 (xs.take 1) := upd_same ..
  generalize upd H6 p2 (.lst (xs.take 1)) = H7 at v2 w2
  refine ⟨p1, p2, _, _, rfl, rfl, v2 _ _ w1, w2, by rw [List.length_take, List.length_drop]; omega, fun z nz => ?_⟩
  exact h _ z (same2 v1 (same2 v2 (same_new nz))) ((same2 v1 v2).free nz) (upd_same ..)
section
variable {P : Program} {w : World} {K : PySem.W.Frag} {mg : Str → Option Value} {base : Heap}
theorem ok__law_build (T : Tx K mg) : Ok P w K mg base "_law_build" 7 (spBuild K) := by
  have O__law_digits : Ok P w K mg base "_law_digits" 1 (spDigits K) := ok__law_digits T
  have O__law_fresh : Ok P w K mg base "_law_fresh" 1 (spFresh K) := ok__law_fresh T
  have O_Standingu__initu_ : COk P w K mg base "Standing" 2 (spInitS K) := cok_S T
  have O_Standing_only : MOk P w K mg base "Standing" "only" 5 (spOnly K) := mok_only T
  have O_Standing_with_fact : MOk P w K mg base "Standing" "with_fact" 5 (spWF K) := mok_wf T
  have O_Standing_without_fact : MOk P w K mg base "Standing" "without_fact" 5 (spWoF K) := mok_wof T
  have O_Standing_without_party : MOk P w K mg base "Standing" "without_party" 5 (spWoP K) := mok_wop T
  have O0_Standing_with_party := mn_without (P := P) (w := w) (base := base) T
  have O1_Standing_with_party := mn_with (P := P) (w := w) (base := base) T
  refine ok_of T.a__law_build sc_law_build (fun vs H Q E h => ?_) bi__law_build fun cdv A outer s H vs Q E hr h => ?_
  · obtain ⟨a, c, W, b, rfl, _⟩ := h
    rfl
  obtain ⟨a, c, W, b, rfl, ⟨d, f, cl, ha, hd, ⟨qf, hf1, hf2⟩, ⟨qc, hc1, hc2⟩⟩, ok, hb, hQ⟩ := h
  have big : (16777216 : Nat) ≤ sizeLine := by decide
  have d1 := ok.d1
  have d2 := ok.d2
  refine ⟨_, (pss_cons (ps_set (i := 2) sc_law_build.nd rfl (by first | exact Or.inl rfl | exact Or.inr rfl) (pe_c (E := EN) O__law_digits hr (by decide) (fun σ => passN σ) (pa_cons (pv 1) (pa_cons (pe_lst (pa_cons pe_int (pa_cons pe_int (pa_cons pe_int (pa_cons pe_int (pa_cons pe_int (pa_cons pe_int (pa_cons pe_int (pa_cons pe_int (pa_cons pe_int pa_nil)))))))))) pa_nil))))
  (pss_cons (ps_set (i := 3) sc_law_build.nd rfl (by first | exact Or.inl rfl | exact Or.inr rfl) (pe_ix (ixL K) (pv 0) pe_int (fun _ _ => rfl)))
  (pss_cons (ps_set (i := 4) sc_law_build.nd rfl (by first | exact Or.inl rfl | exact Or.inr rfl) (pe_op op_add (pe_op op_add (pe_ix (ixL K) (pv 3) (pe_op op_sub (pe_callB (lenK K) (by rfl) T.f_len boot_len (pa_cons (pv 3) pa_nil)) pe_int) (fun _ _ => rfl)) pe_int) (pe_ix (ixL K) (pv 2) pe_int (fun _ _ => rfl))))
  (pss_cons (ps_set (i := 5) sc_law_build.nd rfl (by first | exact Or.inl rfl | exact Or.inr rfl) (pe_lc (own := [("k", 6)]) (g := gName 6) rfl sc_law_build.nd (pi_range1 rfl T.f_range (pa_cons (pv 4) pa_nil)) (blkOk_by (N := ["world", "cell", "road", "deals", "count", "over", "k", "standing", "facts", "deal", "fact", "digits", "party", "marks", "mark", "heavy"]) (sc := defScope s_law_build) (by decide +kernel)) (fun _ _ _ _ _ => (pg_name (i := 6) sc_law_build.nd rfl (by first | exact Or.inl rfl | exact Or.inr rfl))) (fun _ _ _ _ _ => pts_nil) (fun _ _ _ _ _ => (pv 6))))
  (pss_cons (ps_set (i := 7) sc_law_build.nd rfl (by first | exact Or.inl rfl | exact Or.inr rfl) (pe_nK K (E := EN) O_Standingu__initu_ hr (by decide) (fun σ => passN σ) (pa_cons (pv 4) pa_nil)))
  (pss_cons (ps_if (pt_cmpR op_eq (pe_ix (ixL K) (pv 2) pe_int (fun _ _ => rfl)) pe_int (nomark _))
  (pss_cons (ps_set (i := 7) sc_law_build.nd rfl (by first | exact Or.inl rfl | exact Or.inr rfl) (pe_mK K (E := EN) O_Standing_only hr (by decide) (fun σ => passN σ) (pv 7) (pa_cons (pe_op op_cat (pe_slice sl_list (pv 3) (po_some pe_int) po_none) (pe_slice sl_list (pv 3) po_none (po_some pe_int))) pa_nil)))
    (pss_one (ps_set (i := 5) sc_law_build.nd rfl (by first | exact Or.inl rfl | exact Or.inr rfl) (pv 3))))
  pss_nil)
  (pss_cons (ps_setLc (i := 8) (own := [("fact", 10)]) (g := gName 10) rfl sc_law_build.nd rfl rfl (sw_true rfl rfl rfl (by decide +kernel)) (pi_list (pe_ix (ixL K) (pv 0) pe_int (fun _ _ => rfl))) (blkOk_by (N := ["world", "cell", "road", "deals", "count", "over", "k", "standing", "facts", "deal", "fact", "digits", "party", "marks", "mark", "heavy"]) (sc := defScope s_law_build) (by decide +kernel)) (fun _ _ _ _ _ => (pg_name (i := 10) sc_law_build.nd rfl (by first | exact Or.inl rfl | exact Or.inr rfl))) (fun _ _ _ _ _ => pts_nil) (fun _ _ _ _ _ => (pe_lst (pa_cons (pe_ix (ixL K) (pv 10) pe_int (fun _ _ => rfl)) (pa_cons (pe_lc (own := [("deal", 9)]) (g := gName 9) rfl sc_law_build.nd (pi_listK K (pv 5)) (blkOk_to (blkOk_by (N := ["world", "cell", "road", "deals", "count", "over", "k", "standing", "facts", "deal", "fact", "digits", "party", "marks", "mark", "heavy"]) (sc := { kind := PySem.ScopeKind.function, names := [(".0", PySem.NameKind.local), ("fact", PySem.NameKind.cell), ("deals", PySem.NameKind.cell), ("over", PySem.NameKind.cell), ("road", PySem.NameKind.cell)], isGenerator := false, isCoroutine := false }) (by decide +kernel)) (by rfl) (by rfl)) (fun _ _ _ _ _ => (pg_name (i := 9) sc_law_build.nd rfl (by first | exact Or.inl rfl | exact Or.inr rfl))) (fun _ _ _ _ _ => pts_nil) (fun _ _ _ _ _ => (pe_ix (ixL K) (pe_op op_cat (pe_ix (ixL K) (pv 10) pe_int (fun _ _ => rfl)) (pe_lst (pa_cons (pe_ix (ixL K) (pv 2) pe_int (fun _ _ => rfl)) pa_nil))) (pe_bmK K PySem.F.plainAttrs_list PySem.F.slot_list_index PySem.F.type_list_index (indexK K) (pe_op op_cat (pv 3) (pe_lst (pa_cons (pv 9) pa_nil))) (pa_cons (pv 9) pa_nil)) (fun _ _ => rfl)))) pa_nil)))))
  (pss_cons (ps_for PassesOwn.never rfl (pi_range1 rfl T.f_range (pa_cons (pe_op op_add (pe_callB (lenK K) (by rfl) T.f_len boot_len (pa_cons (pv 8) pa_nil)) pe_int) pa_nil)) (pg_name (i := 6) sc_law_build.nd rfl (by first | exact Or.inl rfl | exact Or.inr rfl))
  (pss_cons (ps_if (pt_cmpR op_eq (pv 6) (pe_op op_modN (pe_callTy call_int1 (by rfl) T.f_int (by decide +kernel) (pa_cons (pe_ix (ixL K) (pv 2) pe_int (fun _ _ => rfl)) pa_nil)) (pe_op op_add (pe_callB (lenK K) (by rfl) T.f_len boot_len (pa_cons (pv 8) pa_nil)) pe_int)) (nomark _))
    (pss_one (ps_set (i := 7) sc_law_build.nd rfl (by first | exact Or.inl rfl | exact Or.inr rfl) (pe_mK K (E := EN) O_Standing_with_fact hr (by decide) (fun σ => passN σ) (pv 7) (pa_cons (pe_c (E := EN) O__law_fresh hr (by decide) (fun σ => passN σ) (pa_cons (pv 8) pa_nil)) (pa_cons (pe_lc (own := [("deal", 9)]) (g := gName 9) rfl sc_law_build.nd (pi_list (pv 5)) (blkOk_by (N := ["world", "cell", "road", "deals", "count", "over", "k", "standing", "facts", "deal", "fact", "digits", "party", "marks", "mark", "heavy"]) (sc := defScope s_law_build) (by decide +kernel)) (fun _ _ _ _ _ => (pg_name (i := 9) sc_law_build.nd rfl (by first | exact Or.inl rfl | exact Or.inr rfl))) (fun _ _ _ _ _ => pts_nil) (fun _ _ _ _ _ => (pe_ix (ixL K) (pv 2) pe_int (fun _ _ => rfl)))) pa_nil)))))
    pss_nil)
    (pss_one (ps_if (pt_cmpR op_lt (pv 6) (pe_callB (lenK K) (by rfl) T.f_len boot_len (pa_cons (pv 8) pa_nil)) (nomark _))
    (pss_cons (ps_set (i := 11) sc_law_build.nd rfl (by first | exact Or.inl rfl | exact Or.inr rfl) (pe_ix (ixL K) (pe_ix (ixL K) (pv 8) (pv 6) (fun _ _ => rfl)) pe_int (fun _ _ => rfl)))
      (pss_one (ps_set (i := 7) sc_law_build.nd rfl (by first | exact Or.inl rfl | exact Or.inr rfl) (pe_mK K (E := EN) O_Standing_with_fact hr (by decide) (fun σ => passN σ) (pv 7) (pa_cons (pe_ix (ixL K) (pe_ix (ixL K) (pv 8) (pv 6) (fun _ _ => rfl)) pe_int (fun _ _ => rfl)) (pa_cons (pe_ix (ixL K) (pe_lst (pa_cons (pv 11) (pa_cons (pe_callTy (tupF K) (by rfl) T.f_tuple (by decide +kernel) (pa_cons (pv 11) pa_nil)) pa_nil))) (pe_ix (ixL K) (pv 2) pe_int (fun _ _ => rfl)) (fun _ _ => rfl)) pa_nil))))))
    pss_nil))))
  (pss_cons (ps_for PassesOwn.never rfl (pi_range1 rfl T.f_range (pa_cons (pe_op op_add (pe_callB (lenK K) (by rfl) T.f_len boot_len (pa_cons (pe_ix (ixL K) (pv 0) pe_int (fun _ _ => rfl)) pa_nil)) pe_int) pa_nil)) (pg_name (i := 6) sc_law_build.nd rfl (by first | exact Or.inl rfl | exact Or.inr rfl))
  (pss_cons (ps_if (pt_cmpR op_eq (pv 6) (pe_op op_modN (pe_callTy call_int1 (by rfl) T.f_int (by decide +kernel) (pa_cons (pe_ix (ixL K) (pv 2) pe_int (fun _ _ => rfl)) pa_nil)) (pe_op op_add (pe_callB (lenK K) (by rfl) T.f_len boot_len (pa_cons (pe_ix (ixL K) (pv 0) pe_int (fun _ _ => rfl)) pa_nil)) pe_int)) (nomark _))
    (pss_one (ps_set (i := 7) sc_law_build.nd rfl (by first | exact Or.inl rfl | exact Or.inr rfl) (pe_mN K (E := EN) O0_Standing_with_party hr (by decide) (fun σ => passN σ) (pv 7) (pa_cons (pe_c (E := EN) O__law_fresh hr (by decide) (fun σ => passN σ) (pa_cons (pe_ix (ixL K) (pv 0) pe_int (fun _ _ => rfl)) pa_nil)) (pa_cons (pe_lc (own := [("deal", 9)]) (g := gName 9) rfl sc_law_build.nd (pi_list (pv 5)) (blkOk_by (N := ["world", "cell", "road", "deals", "count", "over", "k", "standing", "facts", "deal", "fact", "digits", "party", "marks", "mark", "heavy"]) (sc := defScope s_law_build) (by decide +kernel)) (fun _ _ _ _ _ => (pg_name (i := 9) sc_law_build.nd rfl (by first | exact Or.inl rfl | exact Or.inr rfl))) (fun _ _ _ _ _ => pts_nil) (fun _ _ _ _ _ => (pe_op op_fdivN (pv 9) pe_int))) pa_nil)) pk_nil)))
    pss_nil)
    (pss_one (ps_if (pt_cmpR op_lt (pv 6) (pe_callB (lenK K) (by rfl) T.f_len boot_len (pa_cons (pe_ix (ixL K) (pv 0) pe_int (fun _ _ => rfl)) pa_nil)) (nomark _))
    (pss_cons (ps_set (i := 12) sc_law_build.nd rfl (by first | exact Or.inl rfl | exact Or.inr rfl) (pe_ix (ixL K) (pe_ix (ixL K) (pv 0) pe_int (fun _ _ => rfl)) (pv 6) (fun _ _ => rfl)))
      (pss_cons (ps_setLc (i := 13) (own := [("deal", 9)]) (g := gName 9) rfl sc_law_build.nd rfl rfl (sw_true rfl rfl rfl (by decide +kernel)) (pi_list (pv 5)) (blkOk_by (N := ["world", "cell", "road", "deals", "count", "over", "k", "standing", "facts", "deal", "fact", "digits", "party", "marks", "mark", "heavy"]) (sc := defScope s_law_build) (by decide +kernel)) (fun _ _ _ _ _ => (pg_name (i := 9) sc_law_build.nd rfl (by first | exact Or.inl rfl | exact Or.inr rfl))) (fun _ _ _ _ _ => pts_nil) (fun _ _ _ _ _ => (pe_ix (ixL K) (pe_op op_cat (pe_ix (ixL K) (pv 12) pe_int (fun _ _ => rfl)) (pe_lst (pa_cons (pe_ix (ixL K) (pv 2) pe_int (fun _ _ => rfl)) pa_nil))) (pe_bmK K PySem.F.plainAttrs_list PySem.F.slot_list_index PySem.F.type_list_index (indexK K) (pe_op op_cat (pv 3) (pe_lst (pa_cons (pv 9) pa_nil))) (pa_cons (pv 9) pa_nil)) (fun _ _ => rfl))))
      (pss_cons (ps_setLc (i := 13) (own := [("mark", 14)]) (g := gName 14) rfl sc_law_build.nd rfl rfl (sw_true rfl rfl rfl (by decide +kernel)) (pi_list (pv 13)) (blkOk_by (N := ["world", "cell", "road", "deals", "count", "over", "k", "standing", "facts", "deal", "fact", "digits", "party", "marks", "mark", "heavy"]) (sc := defScope s_law_build) (by decide +kernel)) (fun _ _ _ _ _ => (pg_name (i := 14) sc_law_build.nd rfl (by first | exact Or.inl rfl | exact Or.inr rfl))) (fun _ _ _ _ _ => pts_nil) (fun _ _ _ _ _ => (pe_op op_add (pe_op op_mul (pv 14) (pe_ix (ixL K) (pe_lst (pa_cons pe_int (pa_cons (pe_un un_neg pe_int) (pa_cons (pe_op op_pow pe_int pe_int) pa_nil)))) (pe_ix (ixL K) (pv 2) pe_int (fun _ _ => rfl)) (fun _ _ => rfl))) (pe_ix (ixL K) (pv 2) pe_int (fun _ _ => rfl)))))
      (pss_cons (ps_setLc (i := 15) (own := [("deal", 9)]) (g := gName 9) rfl sc_law_build.nd rfl rfl (sw_true rfl rfl rfl (by decide +kernel)) (pi_list (pv 5)) (blkOk_by (N := ["world", "cell", "road", "deals", "count", "over", "k", "standing", "facts", "deal", "fact", "digits", "party", "marks", "mark", "heavy"]) (sc := defScope s_law_build) (by decide +kernel)) (fun _ _ _ _ _ => (pg_name (i := 9) sc_law_build.nd rfl (by first | exact Or.inl rfl | exact Or.inr rfl))) (fun _ _ _ _ _ => pts_nil) (fun _ _ _ _ _ => (pe_ix (ixL K) (pe_op op_cat (pe_ix (ixL K) (pv 12) pe_int (fun _ _ => rfl)) (pe_lst (pa_cons (pe_op op_add pe_int (pe_ix (ixL K) (pv 2) pe_int (fun _ _ => rfl))) pa_nil))) (pe_bmK K PySem.F.plainAttrs_list PySem.F.slot_list_index PySem.F.type_list_index (indexK K) (pe_op op_cat (pv 3) (pe_lst (pa_cons (pv 9) pa_nil))) (pa_cons (pv 9) pa_nil)) (fun _ _ => rfl))))
      (pss_one (ps_if (PW.pt (pw_and (pt_cmpR op_eq (pe_callB (maxK K (hc := rfl)) (by rfl) T.f_max (by decide +kernel) (pa_cons (pv 15) pa_nil)) pe_int (nomark _)) (pw_and1 (pt_cmpR op_eq (pe_ix (ixL K) (pv 2) pe_int (fun _ _ => rfl)) pe_int (nomark _)))))
      (pss_one (ps_set (i := 7) sc_law_build.nd rfl (by first | exact Or.inl rfl | exact Or.inr rfl) (pe_mN K (E := EN) O0_Standing_with_party hr (by decide) (fun σ => passN σ) (pv 7) (pa_cons (pe_ix (ixL K) (pv 12) pe_int (fun _ _ => rfl)) (pa_cons (pe_callTy (tupF K) (by rfl) T.f_tuple (by decide +kernel) (pa_cons (pv 13) pa_nil)) pa_nil)) pk_nil)))
      (pss_one (ps_set (i := 7) sc_law_build.nd rfl (by first | exact Or.inl rfl | exact Or.inr rfl) (pe_mN K (E := EN) O1_Standing_with_party hr (by decide) (fun σ => passN σ) (pv 7) (pa_cons (pe_ix (ixL K) (pv 12) pe_int (fun _ _ => rfl)) (pa_cons (pv 13) pa_nil)) (pk_cons (pe_ix (ixL K) (pe_lst (pa_cons (pv 15) (pa_cons (pe_callTy (tupF K) (by rfl) T.f_tuple (by decide +kernel) (pa_cons (pv 15) pa_nil)) pa_nil))) (pe_ix (ixL K) (pv 2) pe_int (fun _ _ => rfl)) (fun _ _ => rfl)) pk_nil))))))))))
    pss_nil))))
  (pss_cons (ps_set (i := 7) sc_law_build.nd rfl (by first | exact Or.inl rfl | exact Or.inr rfl) (pe_mK K (E := EN) O_Standing_without_fact hr (by decide) (fun σ => passN σ) (pe_mK K (E := EN) O_Standing_without_party hr (by decide) (fun σ => passN σ) (pv 7) (pa_cons (pe_c (E := EN) O__law_fresh hr (by decide) (fun σ => passN σ) (pa_cons (pe_ix (ixL K) (pv 0) pe_int (fun _ _ => rfl)) pa_nil)) pa_nil)) (pa_cons (pe_c (E := EN) O__law_fresh hr (by decide) (fun σ => passN σ) (pa_cons (pv 8) pa_nil)) pa_nil)))
  (pss_cons (ps_if (pt_cmpR op_gt (pe_callB (lenK K) (by rfl) T.f_len boot_len (pa_cons (pv 5) pa_nil)) (pe_callB (lenK K) (by rfl) T.f_len boot_len (pa_cons (pv 3) pa_nil)) (nomark _))
  (pss_one (ps_set (i := 7) sc_law_build.nd rfl (by first | exact Or.inl rfl | exact Or.inr rfl) (pe_mK K (E := EN) O_Standing_only hr (by decide) (fun σ => passN σ) (pv 7) (pa_cons (pe_callTy (tupF K) (by rfl) T.f_tuple (by decide +kernel) (pa_cons (pe_op op_cat (pv 3) (pe_slice sl_list (pv 3) po_none (po_some pe_int))) pa_nil)) pa_nil))))
  pss_nil)
  (pss_one (ps_ret (pv 7)))))))))))))), ?_⟩
  refine ⟨_, rfl, Nat.le_trans (by show 9 ≤ 16777216; decide) big, fun e ne => ?_⟩
  have s1 := same_new (o := .lst (nV SSB)) ne
  refine ⟨c, e, SSB, rfl, .inl (.inl (upd_same ..)), by decide, by show 9 ≤ _; decide, fun H1 p sh t1 np hp dl dlt => ?_⟩
  have s01 := same2 s1 t1
  have dl : sh.length = 9 := dl
  have r1 : at0 sh 1 < 4 := dlt 1 (by show 1 < 9; decide)
  have r8 : at0 sh 8 < 7 := dlt 8 (by show 8 < 9; decide)
  have hp : RL H1 p (nV sh) := hp
  have ha1 := ha.same s01
  have hd1 := hd.same s01
  have li : W.deals.length - 1 < W.deals.length := by omega
  have gl := getE li
  have dlt2 := ok.db _ (List.getElem_mem li)
  have dmax : ∀ x ∈ W.deals, x ≤ W.deals[W.deals.length - 1] := fun x hx => by
    obtain ⟨i, hi⟩ := List.getElem?_of_mem hx
    have l := ltE hi
    rw [getE l] at hi
    rw [← Option.some.inj hi]
    rcases Nat.lt_or_ge i (W.deals.length - 1) with h | h
    · exact Nat.le_of_lt (List.pairwise_iff_getElem.mp ok.dw i _ l li h)
    · have e : i = W.deals.length - 1 := by omega
      subst e
      exact Nat.le_refl _
  generalize W.deals[W.deals.length - 1] = last at gl dlt2 dmax
  refine ⟨_, rfl, a, _, _, _, rfl, rfl, ha1.sq, atI_nat (j := 0) rfl, ?_⟩
  refine ⟨_, rfl, _, rfl, d, _, rfl, .inl hd1.sq, _, _, rfl, rfl, d, _, _, _, rfl, rfl, hd1.sq, by show atI _ (((nV W.deals).length : Nat) - (1 : Int)) = _; rw [nV_len, show ((W.deals.length : Nat) : Int) - 1 = ((W.deals.length - 1 : Nat) : Int) from by omega]; exact atI_nat (nV_at gl), _, _, rfl, rfl, _, rfl, p, _, _, _, rfl, rfl, hp.sq, atI_nat (j := 1) (nV_at0 (by omega)), _, _, rfl, rfl, ?_⟩
  have ec : ((last : Nat) : Int) + 1 + ((at0 sh 1 : Nat) : Int) = ((last + 1 + at0 sh 1 : Nat) : Int) := by omega
  dsimp only
  rw [ec]
  have cb : last + 1 + at0 sh 1 ≤ 200 := by omega
  generalize hcn : last + 1 + at0 sh 1 = n at cb
  have dn : ∀ x ∈ W.deals, x < n := fun x hx => by have := dmax x hx; omega
  refine ⟨_, rfl, _, rfl, by omega, by omega, ?_⟩
  rw [Int.toNat_natCast]
  intro O nO
  refine lc_it walk_range (fun i H2 => H2 O = some (.lst (nV (List.range i))) ∧ Same H1 H2) ⟨upd_same .., same_new nO⟩ (fun _ _ _ _ => trivial) ?_ ?_
  · rintro i x H3 H2 hi ⟨q1, q2⟩ ⟨rfl, hx⟩
    have hx : x = .int (i : Nat) := hx.trans (congrArg V.int (Int.zero_add _))
    subst hx
    refine ⟨rfl, _, rfl, _, q1, by rw [nV_len, List.length_range]; omega, ?_, same_put nO q2⟩
    rw [upd_same, nV_snoc, List.range_succ]
  rintro H2 ⟨q1, q2⟩
  have hO : RL H2 O (nV (List.range n)) := q1
  have s02 := same2 s01 q2
  refine ⟨_, rfl, ?_⟩
  refine fun x dx0 nx nd0 ne0 => ⟨x, dx0, n, rfl, upd_same .., by omega, by omega, fun L0 o0 ⟨xtd, xtf, xtp, xtfr, xtpr, xdd, xds, xdw, xdp, hst⟩ => ⟨rfl, ?_⟩⟩
  have s2L : Same H2 L0 := fun b o e => by
    refine o0 b o (fun z => by rw [z, nx] at e; cases e) ?_
    rw [upd_ne (fun z => by rw [z, nx] at e; cases e), upd_ne (fun z => by rw [z, nd0] at e; cases e)]
    exact e
  have hS : StandAt K L0 x ⟨List.range n, [], []⟩ := ⟨⟨by show 0 < (List.range n).length; rw [List.length_range]; omega, by show (List.range n).length ≤ 2000; rw [List.length_range]; omega, List.nodup_range, List.nodup_nil, List.nodup_nil, fun _ h => absurd h List.not_mem_nil, fun _ h => absurd h List.not_mem_nil, Nat.zero_le _, Nat.zero_le _⟩, xtd, xtf, xtp, xtfr, xtpr, xdd, xds, xdw, xdp, [], [], [], [], hst⟩
  clear hst
  have s0L := same2 s02 s2L
  have hO2 := hO.same s2L
  dsimp only [gName]
  refine seq_cut fun D1 f1 => ?_
  have rest : ∀ (H3 : Hp) (x o : Addr) (ov : List Nat), Same L0 H3 → StandAt K H3 x ⟨ov, [], []⟩ → RL H3 o (nV ov) → (ov = List.range n ∨ ov = W.deals) → D1.nx [some (.ref a), some (.int c), some (.ref p), some (.ref d), some (.int (n : Nat)), some (.ref o), none, some (.ref x), none, none, none, none, none, none, none, none] H3 := by
    intro H3 x o ov s3 hx hov hcase
    rw [f1]
    have s03 := same2 s0L s3
    have hp3 := hp.same (same2 (same2 q2 s2L) s3)
    have ovl : ov.length ≤ 200 := by
      rcases hcase with rfl | rfl
      · rw [List.length_range]; exact cb
      · omega
    have few := ok.few
    have hf13 := hf1.same s03
    have hf23 : Paired (FX (RL H3)) qf W.facts := pimp (fun _ _ _ e => e.mono fun _ _ z => RL.same s03 z) hf2
    have ql := Paired.length hf2
    refine ⟨_, rfl, a, _, _, _, rfl, rfl, (ha.same s03).sq, atI_nat (j := 1) rfl, f, rfl, ⟨_, hf13.sq⟩, fun N nN => ?_⟩
    refine lc_it (walk_list (K := K) (a := f) (xs := qf.map V.ref)) (fun i H4 => ∃ rs : List Addr, H4 N = some (.lst (rs.map V.ref)) ∧ Paired (FX (PN N H4)) rs ((W.facts.take i).map fun p => (p.1, ov.map (rowf p.2 (at0 sh 8) W.deals))) ∧ Same H3 H4) ⟨[], upd_same .., .nil, same_new nN⟩ (fun i H4 _ h => by obtain ⟨_, _, _, h⟩ := h; exact Same.seq h hf13.sq) ?_ ?_
    · rintro i y H5 H4 hi ⟨rs, g1, g2, g3⟩ ⟨rfl, hy⟩
      rw [List.length_map] at hi
      obtain ⟨u, fa, k1, k2, da, k3, k4⟩ := pget2 hf23 hi
      rw [List.getElem?_map, k1] at hy
      cases hy
      obtain ⟨fan, fal, fa9⟩ := ok.fo fa (List.mem_of_getElem? k2)
      have lr : rs.length ≤ 5 := by rw [Paired.length g2, List.length_map, List.length_take]; omega
      refine ⟨rfl, _, rfl, u, _, _, _, rfl, rfl, (RL.same g3 k3).sq, atI_nat (j := 0) rfl, _, rfl, o, rfl, ⟨_, (hov.same g3).sq⟩, fun M nM => ?_⟩
      refine lc_it (walk_list (K := K) (a := o) (xs := nV ov)) (fun j H6 => H6 M = some (.lst (nV ((ov.take j).map (rowf fa.2 (at0 sh 8) W.deals)))) ∧ Same H4 H6) ⟨upd_same .., same_new nM⟩ (fun j H6 _ h => (hov.same (same2 g3 h.2)).sq) ?_ ?_
      · rintro j z H7 H6 hj ⟨t1, t2⟩ ⟨rfl, hz⟩
        obtain ⟨dv, hdv, rfl⟩ := of_nV hz
        have s36 := same2 g3 t2
        have s06 := same2 s03 s36
        refine ⟨rfl, _, rfl, u, _, _, _, rfl, rfl, (RL.same s36 k3).sq, atI_nat (j := 1) rfl, _, rfl, p, _, _, _, rfl, rfl, (hp3.same s36).sq, atI_nat (j := 8) (nV_at0 (by omega)), Nat.le_trans (by show 1 ≤ 16777216; decide) big, fun Z nZ => ?_⟩
        have v1 := same_new (o := .lst [.int (at0 sh 8 : Nat)]) nZ
        have w1 : RL (upd H6 Z (.lst [.int (at0 sh 8 : Nat)])) Z [.int (at0 sh 8 : Nat)] := upd_same ..
        generalize upd H6 Z (.lst [.int (at0 sh 8 : Nat)]) = H8 at v1 w1
        refine ⟨da, Z, _, _, rfl, rfl, RL.same (same2 s36 v1) k4, w1, by rw [nV_len, List.length_singleton]; omega, fun Y nY => ?_⟩
        have v2 := same_new (o := .lst (nV fa.2 ++ [.int (at0 sh 8 : Nat)])) nY
        have w2 : RL (upd H8 Y (.lst (nV fa.2 ++ [.int (at0 sh 8 : Nat)]))) Y (nV (fa.2 ++ [at0 sh 8])) := by rw [RL, upd_same, nV_snoc]
        generalize upd H8 Y (.lst (nV fa.2 ++ [.int (at0 sh 8 : Nat)])) = H9 at v2 w2
        refine ⟨_, rfl, _, rfl, Nat.le_trans (by show 1 ≤ 16777216; decide) big, fun Z2 nZ2 => ?_⟩
        have v3 := same_new (o := .lst [.int (dv : Nat)]) nZ2
        have w3 : RL (upd H9 Z2 (.lst [.int (dv : Nat)])) Z2 [.int (dv : Nat)] := upd_same ..
        generalize upd H9 Z2 (.lst [.int (dv : Nat)]) = H10 at v3 w3
        have s610 := same2 v1 (same2 v2 v3)
        refine ⟨d, Z2, _, _, rfl, rfl, hd.same (same2 s06 s610), w3, by rw [nV_len, List.length_singleton]; omega, fun Y2 nY2 => ?_⟩
        have v4 := same_new (o := .lst (nV W.deals ++ [.int (dv : Nat)])) nY2
        have w4 : RL (upd H10 Y2 (.lst (nV W.deals ++ [.int (dv : Nat)]))) Y2 (nV (W.deals ++ [dv])) := by rw [RL, upd_same, nV_snoc]
        generalize upd H10 Y2 (.lst (nV W.deals ++ [.int (dv : Nat)])) = H11 at v4 w4
        have w4' : SqL K H11 Y2 ((cI (W.deals ++ [dv])).map V.int) := by rw [show (cI (W.deals ++ [dv])).map V.int = nV (W.deals ++ [dv]) from (nV_int _).symm]; exact w4.sq
        refine ⟨.inl ⟨rfl, _, .inl (.inl w4)⟩, _, rfl, ?_⟩
        dsimp only [tNil]
        refine index_ints w4' (List.mem_map.mpr ⟨dv, List.mem_append_right _ List.mem_cons_self, rfl⟩) ?_
        rw [idx_cI]
        have s611 := same2 s610 v4
        have ra := rowf_at (row := fa.2) (fill := at0 sh 8) (deals := W.deals) (d := dv) fal
        refine ⟨Y, _, _, _, rfl, rfl, (w2.same (same2 v3 v4)).sq, atI_nat (by rw [show (nV (fa.2 ++ [at0 sh 8]))[(W.deals ++ [dv]).idxOf dv]? = ((fa.2 ++ [at0 sh 8]).map fun n => V.int ((n : Nat) : Int))[(W.deals ++ [dv]).idxOf dv]? from rfl, List.getElem?_map, ra] <;> rfl), ?_⟩
        refine ⟨_, s611 _ _ t1, by rw [nV_len, List.length_map, List.length_take]; omega, ?_, same_put nM (same2 t2 s611)⟩
        rw [upd_same, take_map hdv, ← nV_snoc]
      rintro H6 ⟨t1, t2⟩
      rw [nV_len, List.take_length] at t1
      refine ⟨Nat.le_trans (by show 2 ≤ 16777216; decide) big, fun y ny => ?_⟩
      have v1 := same_new (o := .lst [.str fa.1, .ref M]) ny
      have w1 : RL (upd H6 y (.lst [.str fa.1, .ref M])) y [.str fa.1, .ref M] := upd_same ..
      have yN : y ≠ N := fun e => by rw [e, t2 _ _ g1] at ny; cases ny
      have MN : M ≠ N := fun e => by rw [e, g1] at nM; cases nM
      generalize upd H6 y (.lst [.str fa.1, .ref M]) = H7 at v1 w1
      have s47 := same2 t2 v1
      refine ⟨_, s47 _ _ g1, by rw [List.length_map]; omega, rs ++ [y], by rw [upd_same, List.map_append] <;> rfl, ?_, same_put nN (same2 g3 s47)⟩
      rw [take_map k2]
      exact psnoc (pimp (fun _ _ _ e => e.mono fun _ _ z => (z.same s47).put) g2) ⟨M, PN.put ⟨yN, w1⟩, PN.put ⟨MN, v1 _ _ t1⟩⟩
    rintro H4 ⟨rs, g1, g2, g3⟩
    rw [List.length_map, ql, List.take_length] at g2
    have hN4 : RL H4 N (rs.map V.ref) := g1
    have s04 := same2 s03 g3
    have r3 : at0 sh 3 < 9999 := Nat.lt_of_lt_of_le (dlt 3 (by show 3 < 9; decide)) (by decide)
    have r5 : at0 sh 5 < 3 := dlt 5 (by show 5 < 9; decide)
    have r6 : at0 sh 6 < 2 := dlt 6 (by show 6 < 9; decide)
    generalize hfs : (W.facts.map fun p => (p.1, ov.map (rowf p.2 (at0 sh 8) W.deals))) = fs at g2
    have fsn : fs.map (·.1) = W.facts.map (·.1) := by rw [← hfs, List.map_map] <;> rfl
    have fsl : fs.length = W.facts.length := by rw [← hfs, List.length_map]
    have fsd : (fs.map (·.1)).Nodup := by rw [fsn]; exact ok.fn
    have fso : ∀ f ∈ fs, Name f.1 ∧ f.2.length = ov.length ∧ ∀ d ∈ f.2, d ≤ 9 := by
      rw [← hfs]
      intro f hf
      obtain ⟨q, hq1, rfl⟩ := List.mem_map.mp hf
      obtain ⟨n1, n2, n9⟩ := ok.fo q hq1
      refine ⟨n1, List.length_map .., fun d hd => ?_⟩
      obtain ⟨y, _, rfl⟩ := List.mem_map.mp hd
      exact rowf_all n9 (by omega)
    have rl : rs.length = W.facts.length := by rw [Paired.length g2, fsl]
    have g2R : Paired (FX (RL H4)) rs fs := pimp (fun _ _ _ e => e.mono fun _ _ z => z.2) g2
    obtain ⟨zf, rf, hzf⟩ := fresh_some (l := W.facts.map (·.1)) (by rw [List.length_map]; exact few)
    have zfm : zf ∈ FRESH.filter (fun z => decide (¬ z ∈ W.facts.map (·.1))) := by rw [hzf]; exact List.mem_cons_self
    have zfF : zf ∈ FRESH := (List.mem_filter.mp zfm).1
    have zfn : ¬ zf ∈ fs.map (·.1) := by rw [fsn]; exact of_decide_eq_true (List.mem_filter.mp zfm).2
    have frF : ∀ (H' : Hp) (Q' : VK) (E' : XK), Same H4 H' → (∀ H'', Same H' H'' → Q' (.str zf) H'') → spFresh K [.ref N] H' Q' E' := by
      intro H' Q' E' s k
      obtain ⟨rows, q1, q2, _⟩ := fx_rows (pimp (fun _ _ _ e => e.mono fun _ _ z => z.same s) g2R)
      refine ⟨N, rs, rows, rfl, hN4.same s, q1, by rw [← Paired.length q1, rl]; exact few, fun H'' z s2 hz => ?_⟩
      rw [q2, fsn, hzf] at hz
      rw [← Option.some.inj hz]
      exact k H'' s2
    obtain ⟨af, haf, laf⟩ := digit (a := ((at0 sh 3 : Nat) : Int)) (n := W.facts.length + 1) (Nat.succ_pos _)
    -- the parties' side
    have hc14 : RL H4 cl (qc.map V.ref) := hc1.same s04
    have hc24 : Paired (PX (RL H4)) qc W.parts := pimp (fun _ _ _ e => e.mono fun _ _ z => RL.same s04 z) hc2
    have qcl : qc.length = W.parts.length := Paired.length hc2
    have pew := ok.pew
    obtain ⟨zp, rp, hzp⟩ := fresh_some (l := W.parts.map (·.1)) (by rw [List.length_map]; exact pew)
    have zpm : zp ∈ FRESH.filter (fun z => decide (¬ z ∈ W.parts.map (·.1))) := by rw [hzp]; exact List.mem_cons_self
    have zpF : zp ∈ FRESH := (List.mem_filter.mp zpm).1
    have zpn : ¬ zp ∈ W.parts.map (·.1) := of_decide_eq_true (List.mem_filter.mp zpm).2
    have frP : ∀ (H' : Hp) (Q' : VK) (E' : XK), Same H4 H' → (∀ H'', Same H' H'' → Q' (.str zp) H'') → spFresh K [.ref cl] H' Q' E' := by
      intro H' Q' E' s k
      obtain ⟨rows, q1, q2, _⟩ := px_rows (pimp (fun _ _ _ e => e.mono fun _ _ z => RL.same s z) hc24)
      refine ⟨cl, qc, rows, rfl, hc14.same s, q1, by rw [← Paired.length q1, qcl]; exact pew, fun H'' z s2 hz => ?_⟩
      rw [q2, hzp] at hz
      rw [← Option.some.inj hz]
      exact k H'' s2
    obtain ⟨ap, hap, lap⟩ := digit (a := ((at0 sh 4 : Nat) : Int)) (n := W.parts.length + 1) (Nat.succ_pos _)
    -- facts, one by one
    refine ⟨_, rfl, N, _, rfl, .inl hN4.sq, _, _, rfl, rfl, _, rfl, by omega, by rw [List.length_map]; omega, ?_⟩
    rw [show ((((rs.map V.ref).length : Nat) : Int) + 1).toNat = W.facts.length + 1 from by rw [List.length_map]; omega]
    refine for_it walk_range (fun i σ H5 => ∃ (m6 m11 : Option V) (x' : Addr) (L : List (Str × List Nat)), σ = [some (.ref a), some (.int c), some (.ref p), some (.ref d), some (.int (n : Nat)), some (.ref o), m6, some (.ref x'), some (.ref N), none, none, m11, none, none, none, none] ∧ StandAt K H5 x' ⟨ov, L, []⟩ ∧ Put zf (decide (af < i)) i fs L ∧ Same H4 H5) ?_ (fun _ _ _ _ _ => trivial) ?_ ?_
    · refine ⟨none, none, x, [], rfl, hx.same g3, ?_, fun _ _ e => e⟩
      rw [decide_eq_false (Nat.not_lt_zero _)]
      exact Put.zero
    · rintro i y σ H6 H5 hi ⟨m6, m11, x', L, rfl, st, pu, s45⟩ ⟨rfl, hy⟩
      have hy : y = .int (i : Nat) := hy.trans (congrArg V.int (Int.zero_add _))
      subst hy
      have s35 := same2 g3 s45
      dsimp only [gName]
      refine seq_cut fun D2 f2 => ?_
      have rest2 : ∀ (x2 : Addr) (Lb : List (Str × List Nat)) (H7 : Hp), Same H5 H7 → StandAt K H7 x2 ⟨ov, Lb, []⟩ → Put zf (decide (af < i + 1)) i fs Lb → D2.nx [some (.ref a), some (.int c), some (.ref p), some (.ref d), some (.int (n : Nat)), some (.ref o), some (.int (i : Nat)), some (.ref x2), some (.ref N), none, none, m11, none, none, none, none] H7 := by
        intro x2 Lb H7 s57 st2 pu2
        rw [f2]
        have s47 := same2 s45 s57
        refine ⟨_, rfl, _, rfl, N, _, rfl, .inl (hN4.same s47).sq, _, _, rfl, rfl, _, rfl, ?_⟩
        by_cases hl : i < W.facts.length
        · rw [show decide (((i : Nat) : Int) < (((rs.map V.ref).length : Nat) : Int)) = true from decide_eq_true (by rw [List.length_map]; omega)]
          refine iteT ?_
          obtain ⟨u, f, k1, k2, da, k3, k4⟩ := pget2 g2R (i := i) (by omega)
          obtain ⟨fn1, fn2, fn9⟩ := fso f (List.mem_of_getElem? k2)
          have gu : (rs.map V.ref)[i]? = some (.ref u) := by rw [List.getElem?_map, k1] <;> rfl
          obtain ⟨_, _, _, _, _, _, _, _, _, _, _, _, _, _, hst⟩ := id st2
          obtain ⟨dxx, hix⟩ := hst.ins
          have fin : ∀ (H8 : Hp) (t : Addr) (b : Bool) (Q' : VK) (E' : XK), Same H7 H8 → SqB K b H8 t (nV f.2) → (∀ H9 q, Same H8 H9 → StandAt K H9 q ⟨ov, Lb ++ [f], []⟩ → Q' (.ref q) H9) → spWF K [.ref x2, .str f.1, .ref t] H8 Q' E' := by
            intro H8 t b Q' E' s78 ht k
            have nz : f.1 ≠ zf := fun e => zfn (e ▸ List.mem_map.mpr ⟨f, List.mem_of_getElem? k2, rfl⟩)
            refine ⟨x2, t, b, f.1, _, f.2, rfl, st2.same s78, fn1, pu2.notin fsd k2 nz, ht, fn2, fn9, ?_, fun H9 q s89 nq hq => k H9 q s89 hq⟩
            have := pu2.len
            show Lb.length < 100
            split at this <;> omega
          have pu3 : Put zf (decide (af < i + 1)) (i + 1) fs (Lb ++ [f]) := pu2.add k2 fun e => zfn (e ▸ List.mem_map.mpr ⟨f, List.mem_of_getElem? k2, rfl⟩)
          have k37 := k3.same s47
          have k47 := k4.same s47
          refine ⟨_, rfl, _, rfl, N, _, _, _, rfl, rfl, (hN4.same s47).sq, atI_nat gu, u, _, _, _, rfl, rfl, k37.sq, atI_nat (j := 1) rfl, ?_⟩
          refine ⟨_, rfl, x2, dxx, _, rfl, hix, rfl, _, rfl, _, rfl, N, _, _, _, rfl, rfl, (hN4.same s47).sq, atI_nat gu, u, _, _, _, rfl, rfl, k37.sq, atI_nat (j := 0) rfl, ?_⟩
          refine ⟨_, rfl, _, rfl, da, _, rfl, .inl ⟨k47.sq, fun l H8 nl s8 fl _ => ?_⟩⟩
          refine ⟨Nat.le_trans (by show 2 ≤ 16777216; decide) big, fun q nq => ?_⟩
          have s9 := same_new (o := .lst [.ref da, .ref l]) nq
          have hq9 : RL (upd H8 q (.lst [.ref da, .ref l])) q [.ref da, .ref l] := upd_same ..
          generalize upd H8 q (.lst [.ref da, .ref l]) = H9 at s9 hq9
          have s79 := same2 s8 s9
          have s49 := same2 s47 s79
          have hp9 := (hp3.same g3).same s49
          have e6 : at0 sh 6 = 0 ∨ at0 sh 6 = 1 := by omega
          refine ⟨_, rfl, p, _, _, _, rfl, rfl, hp9.sq, atI_nat (j := 6) (nV_at0 (by omega)), q, _, _, (if at0 sh 6 = 0 then V.ref da else V.ref l), rfl, rfl, hq9.sq, ?_, ?_⟩
          · rcases e6 with e | e <;> rw [e] <;> rfl
          · rcases e6 with e | e
            · rw [if_pos e]
              dsimp only [tNil]
              refine fin H9 da true _ _ s79 (k47.same s79).sq fun H10 q' s10 hq' => ?_
              exact ⟨_, _, q', _, rfl, hq', pu3, same2 s49 s10⟩
            · rw [if_neg (by omega)]
              dsimp only [tNil]
              refine fin H9 l false _ _ s79 (Same.sqT s9 fl.sq) fun H10 q' s10 hq' => ?_
              exact ⟨_, _, q', _, rfl, hq', pu3, same2 s49 s10⟩
        · rw [show decide (((i : Nat) : Int) < (((rs.map V.ref).length : Nat) : Int)) = false from decide_eq_false (by rw [List.length_map]; omega)]
          exact iteF ⟨_, m11, x2, Lb, rfl, st2, pu2.skip (by omega), s47⟩
      refine ⟨_, rfl, _, rfl, p, _, _, _, rfl, rfl, (hp3.same s35).sq, atI_nat (j := 3) (nV_at0 (by omega)), .inl ⟨_, rfl, _, rfl, N, _, rfl, .inl (hN4.same s45).sq, _, _, rfl, rfl, _, _, rfl, rfl, by rw [List.length_map]; omega, rfl, _, rfl, ?_⟩⟩
      dsimp only
      have ed : ((at0 sh 3 : Nat) : Int).fmod ((((rs.map V.ref).length : Nat) : Int) + 1) = ((af : Nat) : Int) := by rw [haf, List.length_map, rl] <;> rfl
      by_cases hk : i = af
      · rw [show decide (V.int ((i : Nat) : Int) = V.int (((at0 sh 3 : Nat) : Int).fmod ((((rs.map V.ref).length : Nat) : Int) + 1))) = true from decide_eq_true (by rw [ed, hk])]
        refine iteT ?_
        obtain ⟨_, _, _, _, _, _, _, _, _, _, _, _, _, _, hst⟩ := id st
        obtain ⟨dxx, hix⟩ := hst.ins
        refine ⟨_, rfl, x', dxx, _, rfl, hix, rfl, _, rfl, ?_⟩
        dsimp only [tNil]
        refine frF _ _ _ s45 fun H7 s57 => ?_
        refine ⟨_, rfl, o, rfl, ⟨_, (hov.same (same2 s35 s57)).sq⟩, fun M nM => ?_⟩
        refine lc_it (walk_list (K := K) (a := o) (xs := nV ov)) (fun j H8 => H8 M = some (.lst (nV (List.replicate j (at0 sh 8)))) ∧ Same H7 H8) ⟨upd_same .., same_new nM⟩ (fun j H8 _ h => (hov.same (same2 (same2 s35 s57) h.2)).sq) ?_ ?_
        · rintro j y H9 H8 hj ⟨t1, t2⟩ ⟨rfl, hy⟩
          rw [nV_len] at hj
          refine ⟨rfl, _, rfl, p, _, _, _, rfl, rfl, (hp3.same (same2 (same2 s35 s57) t2)).sq, atI_nat (j := 8) (nV_at0 (by omega)), _, t1, by rw [nV_len, List.length_replicate]; omega, ?_, same_put nM t2⟩
          rw [upd_same, nV_snoc, ← List.replicate_succ']
        rintro H8 ⟨t1, t2⟩
        rw [nV_len] at t1
        have s58 := same2 s57 t2
        have ef : decide (af < i) = false := decide_eq_false (by omega)
        rw [ef] at pu
        refine ⟨x', M, true, zf, _, List.replicate ov.length (at0 sh 8), rfl, st.same s58, fresh_name zfF, fun m => absurd (pu.mem.mp m) (by decide), RL.sq (H := H8) t1, List.length_replicate .., fun d hd => by rw [(List.mem_replicate.mp hd).2]; omega, by have := pu.len; show L.length < 100; simp at this; omega, fun H9 q s9 nq hq => ?_⟩
        refine rest2 q _ H9 (same2 s58 s9) hq ?_
        rw [decide_eq_true (by omega : af < i + 1)]
        exact pu.new
      · rw [show decide (V.int ((i : Nat) : Int) = V.int (((at0 sh 3 : Nat) : Int).fmod ((((rs.map V.ref).length : Nat) : Int) + 1))) = false from decide_eq_false fun e => hk (by have := V.int.inj e; rw [ed] at this; omega)]
        refine iteF (rest2 x' L H5 (fun _ _ e => e) st ?_)
        rw [show decide (af < i + 1) = decide (af < i) from decide_eq_decide.mpr (by omega)]
        exact pu
    rintro σ H5 ⟨m6, m11, x5, L5, rfl, st5, pu5, s45⟩
    rw [decide_eq_true (by omega : af < W.facts.length + 1)] at pu5
    obtain ⟨fd5, fm5⟩ := pu5.done (by omega)
    have s05 := same2 s04 s45
    obtain ⟨fz, flo, fhi⟩ := fac_ne r5
    have g47 : at0 sh 7 = 0 ∨ at0 sh 7 ≠ 0 := by omega
    have covL : ov.length ≤ 1000 := by omega
    have hov1 : 0 < ov.length := st5.1.d1
    generalize hps : (W.parts.map fun q => (q.1, ren (ov.map (roadM W (at0 sh 8) (atZ FAC (at0 sh 5)) q.2.1)), ov.map (rowf q.2.2 (1 + at0 sh 8) W.deals))) = ps
    have psn : ps.map (·.1) = W.parts.map (·.1) := by rw [← hps, List.map_map] <;> rfl
    have psl : ps.length = W.parts.length := by rw [← hps, List.length_map]
    have psd : (ps.map (·.1)).Nodup := by rw [psn]; exact ok.pn
    refine ⟨_, rfl, a, _, _, _, rfl, rfl, (ha.same s05).sq, atI_nat (j := 2) rfl, cl, _, rfl, .inl (hc14.same s45).sq, _, _, rfl, rfl, _, rfl, by omega, by rw [List.length_map]; omega, ?_⟩
    rw [show ((((qc.map V.ref).length : Nat) : Int) + 1).toNat = W.parts.length + 1 from by rw [List.length_map]; omega]
    refine for_it walk_range (fun i σ H6 => ∃ (m6 m12 m13 m15 : Option V) (x' : Addr) (L : List (Str × List Nat × List Nat)), σ = [some (.ref a), some (.int c), some (.ref p), some (.ref d), some (.int (n : Nat)), some (.ref o), m6, some (.ref x'), some (.ref N), none, none, m11, m12, m13, none, m15] ∧ StandAt K H6 x' ⟨ov, L5, L⟩ ∧ Put zp (decide (ap < i)) i ps L ∧ Same H5 H6) ?_ (fun _ _ _ _ _ => trivial) ?_ ?_
    · refine ⟨m6, none, none, none, x5, [], rfl, st5, ?_, fun _ _ e => e⟩
      rw [decide_eq_false (Nat.not_lt_zero _)]
      exact Put.zero
    · rintro i y σ H7 H6 hi ⟨m6, m12, m13, m15, x', L, rfl, st, pu, s56⟩ ⟨rfl, hy⟩
      have hy : y = .int (i : Nat) := hy.trans (congrArg V.int (Int.zero_add _))
      subst hy
      have s46 := same2 s45 s56
      have s36 := same2 g3 s46
      dsimp only [gName]
      refine seq_cut fun D2 f2 => ?_
      have rest2 : ∀ (x2 : Addr) (Lb : List (Str × List Nat × List Nat)) (H8 : Hp), Same H6 H8 → StandAt K H8 x2 ⟨ov, L5, Lb⟩ → Put zp (decide (ap < i + 1)) i ps Lb → D2.nx [some (.ref a), some (.int c), some (.ref p), some (.ref d), some (.int (n : Nat)), some (.ref o), some (.int (i : Nat)), some (.ref x2), some (.ref N), none, none, m11, m12, m13, none, m15] H8 := by
        intro x2 Lb H8 s68 st2 pu2
        rw [f2]
        have s48 := same2 s46 s68
        have s38 := same2 g3 s48
        have s08 := same2 s03 s38
        refine ⟨_, rfl, _, rfl, a, _, _, _, rfl, rfl, (ha.same s08).sq, atI_nat (j := 2) rfl, cl, _, rfl, .inl (hc14.same s48).sq, _, _, rfl, rfl, _, rfl, ?_⟩
        by_cases hl : i < W.parts.length
        · rw [show decide (((i : Nat) : Int) < (((qc.map V.ref).length : Nat) : Int)) = true from decide_eq_true (by rw [List.length_map]; omega)]
          refine iteT ?_
          obtain ⟨u, q, k1, k2, mA, wA, k3, k4, k5⟩ := pget2 hc24 (i := i) (by omega)
          obtain ⟨pn1, pn2, pn3, pn4⟩ := ok.po q (List.mem_of_getElem? k2)
          have gu : (qc.map V.ref)[i]? = some (.ref u) := by rw [List.getElem?_map, k1] <;> rfl
          have kp2 : ps[i]? = some (q.1, ren (ov.map (roadM W (at0 sh 8) (atZ FAC (at0 sh 5)) q.2.1)), ov.map (rowf q.2.2 (1 + at0 sh 8) W.deals)) := by rw [← hps, List.getElem?_map, k2] <;> rfl
          have nz : q.1 ≠ zp := fun e => zpn (e ▸ List.mem_map.mpr ⟨q, List.mem_of_getElem? k2, rfl⟩)
          have pu3 := pu2.add kp2 nz
          have nin := pu2.notin psd kp2 nz
          have lb : Lb.length < 100 := by
            have := pu2.len
            split at this <;> omega
          have ku := k3.same s48
          have km := k4.same s48
          have kw : RL H8 wA ((cI q.2.2).map V.int) := by rw [show (cI q.2.2).map V.int = nV q.2.2 from (nV_int _).symm]; exact k5.same s48
          obtain ⟨_, _, _, _, _, _, _, _, _, _, _, _, _, _, hst⟩ := id st2
          obtain ⟨dxx, hix⟩ := hst.ins
          refine ⟨_, rfl, a, _, _, _, rfl, rfl, (ha.same s08).sq, atI_nat (j := 2) rfl, _, rfl, cl, _, _, _, rfl, rfl, (hc14.same s48).sq, atI_nat gu, ?_⟩
          refine ⟨_, rfl, o, rfl, ⟨_, (hov.same s38).sq⟩, fun M nM => ?_⟩
          refine lc_it (walk_list (K := K) (a := o) (xs := nV ov)) (fun j HA => HA M = some (.lst (((ov.take j).map (rowf q.2.1 (((at0 sh 8 : Nat) : Int)) W.deals)).map V.int)) ∧ Same H8 HA) ⟨upd_same .., same_new nM⟩ (fun j HA _ h => (hov.same (same2 s38 h.2)).sq) ?_ ?_
          · rintro j z HB HA hj ⟨t1, t2⟩ ⟨rfl, hz⟩
            obtain ⟨dv, hdv, rfl⟩ := of_nV hz
            have sA := same2 s38 t2
            have kuA := ku.same (same2 (fun _ _ e => e : Same H8 H8) t2)
            have mrA := (km).same (same2 (fun _ _ e => e : Same H8 H8) t2)
            refine ⟨rfl, _, rfl, u, _, _, _, rfl, rfl, kuA.sq, atI_nat (j := 1) rfl, _, rfl, p, _, _, _, rfl, rfl, (hp3.same sA).sq, atI_nat (j := 8) (nV_at0 (by omega)), Nat.le_trans (by show 1 ≤ 16777216; decide) big, fun Z nZ => ?_⟩
            have rowl : (q.2.1).length = W.deals.length := pn2
            have v1 := same_new (o := .lst [.int (((at0 sh 8 : Nat) : Int))]) nZ
            have w1 : RL (upd HA Z (.lst [.int (((at0 sh 8 : Nat) : Int))])) Z [.int (((at0 sh 8 : Nat) : Int))] := upd_same ..
            generalize upd HA Z (.lst [.int (((at0 sh 8 : Nat) : Int))]) = HC at v1 w1
            refine ⟨mA, Z, _, _, rfl, rfl, mrA.same v1, w1, by rw [List.length_map, List.length_singleton, rowl]; omega, fun Y nY => ?_⟩
            have v2 := same_new (o := .lst ((q.2.1).map V.int ++ [.int (((at0 sh 8 : Nat) : Int))])) nY
            have w2 : RL (upd HC Y (.lst ((q.2.1).map V.int ++ [.int (((at0 sh 8 : Nat) : Int))]))) Y ((q.2.1 ++ [((at0 sh 8 : Nat) : Int)]).map V.int) := by rw [RL, upd_same, List.map_append] <;> rfl
            generalize upd HC Y (.lst ((q.2.1).map V.int ++ [.int (((at0 sh 8 : Nat) : Int))])) = HD at v2 w2
            refine ⟨_, rfl, _, rfl, Nat.le_trans (by show 1 ≤ 16777216; decide) big, fun Z2 nZ2 => ?_⟩
            have v3 := same_new (o := .lst [.int (dv : Nat)]) nZ2
            have w3 : RL (upd HD Z2 (.lst [.int (dv : Nat)])) Z2 [.int (dv : Nat)] := upd_same ..
            generalize upd HD Z2 (.lst [.int (dv : Nat)]) = HE at v3 w3
            have v123 := same2 v1 (same2 v2 v3)
            refine ⟨d, Z2, _, _, rfl, rfl, (hd.same s03).same (same2 sA v123), w3, by rw [nV_len, List.length_singleton]; omega, fun Y2 nY2 => ?_⟩
            have v4 := same_new (o := .lst (nV W.deals ++ [.int (dv : Nat)])) nY2
            have w4 : RL (upd HE Y2 (.lst (nV W.deals ++ [.int (dv : Nat)]))) Y2 (nV (W.deals ++ [dv])) := by rw [RL, upd_same, nV_snoc]
            generalize upd HE Y2 (.lst (nV W.deals ++ [.int (dv : Nat)])) = HF at v4 w4
            have w4' : SqL K HF Y2 ((cI (W.deals ++ [dv])).map V.int) := by rw [show (cI (W.deals ++ [dv])).map V.int = nV (W.deals ++ [dv]) from (nV_int _).symm]; exact w4.sq
            refine ⟨.inl ⟨rfl, _, .inl (.inl w4)⟩, _, rfl, ?_⟩
            dsimp only [tNil]
            refine index_ints w4' (List.mem_map.mpr ⟨dv, List.mem_append_right _ List.mem_cons_self, rfl⟩) ?_
            rw [idx_cI]
            have v14 := same2 v123 v4
            have ra := rowf_at (row := q.2.1) (fill := (((at0 sh 8 : Nat) : Int))) (deals := W.deals) (d := dv) (pn2)
            refine ⟨Y, _, _, _, rfl, rfl, (w2.same (same2 v3 v4)).sq, atI_nat (by rw [List.getElem?_map, ra] <;> rfl), ?_⟩
            refine ⟨_, v14 _ _ t1, by rw [List.length_map, List.length_map, List.length_take]; omega, ?_, same_put nM (same2 t2 v14)⟩
            rw [upd_same, take_map hdv, List.map_append] <;> rfl
          rintro H9 ⟨t1, t2⟩
          rw [nV_len, List.take_length] at t1
          have hM : RL H9 M ((ov.map (rowf q.2.1 ((at0 sh 8 : Nat) : Int) W.deals)).map V.int) := t1
          have s89 := t2
          have s39 := same2 s38 s89
          generalize hR : ov.map (rowf q.2.1 ((at0 sh 8 : Nat) : Int) W.deals) = R at hM
          have Rl : R.length = ov.length := by rw [← hR, List.length_map]
          refine ⟨_, rfl, M, rfl, ⟨_, hM.sq⟩, fun M2 nM2 => ?_⟩
          refine lc_it (walk_list (K := K) (a := M) (xs := R.map V.int)) (fun j HA => HA M2 = some (.lst (((R.take j).map fun y => y * atZ FAC (at0 sh 5) + ((at0 sh 8 : Nat) : Int)).map V.int)) ∧ Same H9 HA) ⟨upd_same .., same_new nM2⟩ (fun j HA _ h => (hM.same h.2).sq) ?_ ?_
          · rintro j z HB HA hj ⟨t1, t2⟩ ⟨rfl, hz⟩
            rw [List.length_map] at hj
            have sA := same2 s39 t2
            rw [List.getElem?_map, getE hj] at hz
            cases hz
            refine ⟨rfl, _, rfl, _, rfl, _, _, rfl, rfl, ⟨by decide, by decide, by decide⟩, Nat.le_trans (by show 3 ≤ 16777216; decide) big, fun Z nZ => ?_⟩
            have v1 := same_new (o := .lst (FAC.map V.int)) nZ
            have w1 : RL (upd HA Z (.lst (FAC.map V.int))) Z (FAC.map V.int) := upd_same ..
            refine ⟨_, rfl, p, _, _, _, rfl, rfl, (hp3.same (same2 sA v1)).sq, atI_nat (j := 5) (nV_at0 (by omega)), Z, _, _, _, rfl, rfl, w1.sq, atI_nat (atZ_at (by show at0 sh 5 < 3; omega)), _, _, rfl, rfl, .inr ⟨flo, fhi⟩, _, rfl, p, _, _, _, rfl, rfl, (hp3.same (same2 sA v1)).sq, atI_nat (j := 8) (nV_at0 (by omega)), _, _, rfl, rfl, ?_⟩
            refine ⟨_, v1 _ _ t1, by rw [List.length_map, List.length_map, List.length_take]; omega, ?_, same_put nM2 (same2 t2 v1)⟩
            rw [upd_same, take_map (getE hj), List.map_append] <;> rfl
          rintro H10 ⟨t1, t2⟩
          rw [List.length_map, List.take_length] at t1
          have s910 := t2
          have s810 := same2 s89 s910
          have s310 := same2 s38 s810
          have hM2 : RL H10 M2 ((ov.map (roadM W (at0 sh 8) (atZ FAC (at0 sh 5)) q.2.1)).map V.int) := by
            have e : (ov.map (roadM W (at0 sh 8) (atZ FAC (at0 sh 5)) q.2.1)) = R.map fun y => y * atZ FAC (at0 sh 5) + ((at0 sh 8 : Nat) : Int) := by rw [← hR, List.map_map] <;> rfl
            rw [e]; exact t1
          refine ⟨_, rfl, o, rfl, ⟨_, (hov.same s310).sq⟩, fun M3 nM3 => ?_⟩
          refine lc_it (walk_list (K := K) (a := o) (xs := nV ov)) (fun j HA => HA M3 = some (.lst (((ov.take j).map (rowf (cI q.2.2) (((1 + at0 sh 8 : Nat) : Int)) W.deals)).map V.int)) ∧ Same H10 HA) ⟨upd_same .., same_new nM3⟩ (fun j HA _ h => (hov.same (same2 s310 h.2)).sq) ?_ ?_
          · rintro j z HB HA hj ⟨t1, t2⟩ ⟨rfl, hz⟩
            obtain ⟨dv, hdv, rfl⟩ := of_nV hz
            have sA := same2 s310 t2
            have kuA := ku.same (same2 s810 t2)
            have mrA := (kw).same (same2 s810 t2)
            refine ⟨rfl, _, rfl, u, _, _, _, rfl, rfl, kuA.sq, atI_nat (j := 2) rfl, _, rfl, p, _, _, _, rfl, rfl, (hp3.same sA).sq, atI_nat (j := 8) (nV_at0 (by omega)), _, _, rfl, rfl, ?_⟩
            dsimp only
            rw [show (1 : Int) + ((at0 sh 8 : Nat) : Int) = ((1 + at0 sh 8 : Nat) : Int) from by omega]
            refine ⟨Nat.le_trans (by show 1 ≤ 16777216; decide) big, fun Z nZ => ?_⟩
            have rowl : (cI q.2.2).length = W.deals.length := by show (List.map _ _).length = _; rw [List.length_map]; exact pn3
            have v1 := same_new (o := .lst [.int (((1 + at0 sh 8 : Nat) : Int))]) nZ
            have w1 : RL (upd HA Z (.lst [.int (((1 + at0 sh 8 : Nat) : Int))])) Z [.int (((1 + at0 sh 8 : Nat) : Int))] := upd_same ..
            generalize upd HA Z (.lst [.int (((1 + at0 sh 8 : Nat) : Int))]) = HC at v1 w1
            refine ⟨wA, Z, _, _, rfl, rfl, mrA.same v1, w1, by rw [List.length_map, List.length_singleton, rowl]; omega, fun Y nY => ?_⟩
            have v2 := same_new (o := .lst (((cI q.2.2)).map V.int ++ [.int (((1 + at0 sh 8 : Nat) : Int))])) nY
            have w2 : RL (upd HC Y (.lst (((cI q.2.2)).map V.int ++ [.int (((1 + at0 sh 8 : Nat) : Int))]))) Y (((cI q.2.2) ++ [((1 + at0 sh 8 : Nat) : Int)]).map V.int) := by rw [RL, upd_same, List.map_append] <;> rfl
            generalize upd HC Y (.lst (((cI q.2.2)).map V.int ++ [.int (((1 + at0 sh 8 : Nat) : Int))])) = HD at v2 w2
            refine ⟨_, rfl, _, rfl, Nat.le_trans (by show 1 ≤ 16777216; decide) big, fun Z2 nZ2 => ?_⟩
            have v3 := same_new (o := .lst [.int (dv : Nat)]) nZ2
            have w3 : RL (upd HD Z2 (.lst [.int (dv : Nat)])) Z2 [.int (dv : Nat)] := upd_same ..
            generalize upd HD Z2 (.lst [.int (dv : Nat)]) = HE at v3 w3
            have v123 := same2 v1 (same2 v2 v3)
            refine ⟨d, Z2, _, _, rfl, rfl, (hd.same s03).same (same2 sA v123), w3, by rw [nV_len, List.length_singleton]; omega, fun Y2 nY2 => ?_⟩
            have v4 := same_new (o := .lst (nV W.deals ++ [.int (dv : Nat)])) nY2
            have w4 : RL (upd HE Y2 (.lst (nV W.deals ++ [.int (dv : Nat)]))) Y2 (nV (W.deals ++ [dv])) := by rw [RL, upd_same, nV_snoc]
            generalize upd HE Y2 (.lst (nV W.deals ++ [.int (dv : Nat)])) = HF at v4 w4
            have w4' : SqL K HF Y2 ((cI (W.deals ++ [dv])).map V.int) := by rw [show (cI (W.deals ++ [dv])).map V.int = nV (W.deals ++ [dv]) from (nV_int _).symm]; exact w4.sq
            refine ⟨.inl ⟨rfl, _, .inl (.inl w4)⟩, _, rfl, ?_⟩
            dsimp only [tNil]
            refine index_ints w4' (List.mem_map.mpr ⟨dv, List.mem_append_right _ List.mem_cons_self, rfl⟩) ?_
            rw [idx_cI]
            have v14 := same2 v123 v4
            have ra := rowf_at (row := (cI q.2.2)) (fill := (((1 + at0 sh 8 : Nat) : Int))) (deals := W.deals) (d := dv) (by show (List.map _ _).length = _; rw [List.length_map]; exact pn3)
            refine ⟨Y, _, _, _, rfl, rfl, (w2.same (same2 v3 v4)).sq, atI_nat (by rw [List.getElem?_map, ra] <;> rfl), ?_⟩
            refine ⟨_, v14 _ _ t1, by rw [List.length_map, List.length_map, List.length_take]; omega, ?_, same_put nM3 (same2 t2 v14)⟩
            rw [upd_same, take_map hdv, List.map_append] <;> rfl
          rintro H11 ⟨t1, t2⟩
          rw [nV_len, List.take_length] at t1
          have s1011 := t2
          have s811 := same2 s810 s1011
          have s311 := same2 s38 s811
          have ehv : ((ov.map (rowf (cI q.2.2) ((1 + at0 sh 8 : Nat) : Int) W.deals)).map V.int) = nV (ov.map (rowf q.2.2 (1 + at0 sh 8) W.deals)) := by
            rw [nV_int]
            congr 1
            show _ = cI _
            unfold cI
            rw [List.map_map]
            refine List.map_congr_left fun y _ => ?_
            show rowf _ _ _ _ = ((rowf q.2.2 (1 + at0 sh 8) W.deals y : Nat) : Int)
            unfold rowf
            rw [show q.2.2.map (fun n => ((n : Nat) : Int)) ++ [((1 + at0 sh 8 : Nat) : Int)] = (q.2.2 ++ [1 + at0 sh 8]).map (fun n => ((n : Nat) : Int)) from by rw [List.map_append] <;> rfl]
            rw [List.getD_eq_getElem?_getD, List.getD_eq_getElem?_getD, List.getElem?_map]
            cases (q.2.2 ++ [1 + at0 sh 8])[(W.deals ++ [y]).idxOf y]? <;> rfl
          rw [ehv] at t1
          have hM3 : RL H11 M3 (nV (ov.map (rowf q.2.2 (1 + at0 sh 8) W.deals))) := t1
          have wall : ∀ y ∈ ov.map (rowf q.2.2 (1 + at0 sh 8) W.deals), 1 ≤ y := fun y hy => by
            obtain ⟨z, _, rfl⟩ := List.mem_map.mp hy
            exact rowf_all pn4 (by omega)
          have wlen : (ov.map (rowf q.2.2 (1 + at0 sh 8) W.deals)).length = ov.length := List.length_map ..
          have mlen : (ov.map (roadM W (at0 sh 8) (atZ FAC (at0 sh 5)) q.2.1)).length = ov.length := List.length_map ..
          generalize ov.map (roadM W (at0 sh 8) (atZ FAC (at0 sh 5)) q.2.1) = ms at hM2 kp2 pu3 mlen
          generalize ov.map (rowf q.2.2 (1 + at0 sh 8) W.deals) = ws at hM3 kp2 pu3 wlen wall
          have hM3i : SqL K H11 M3 ((cI ws).map V.int) := by rw [show (cI ws).map V.int = nV ws from (nV_int _).symm]; exact hM3.sq
          have hM2b := hM2.same s1011
          have hpB := hp3.same s311
          have ov1 : 0 < ov.length := by have := hov1; exact this
          have hixB := s811 _ _ hix
          have kuB := ku.same s811
          have mw : ∀ (H12 : Hp) (t : Addr) (b : Bool) (wv : V) (Q' : VK) (E' : XK), Same H11 H12 → SqB K b H12 t (ms.map V.int) → ((wv = .non ∧ ws = List.replicate ov.length 1) ∨ ∃ (aw : Addr) (bw : Bool), wv = .ref aw ∧ SqB K bw H12 aw (nV ws)) →
              (∀ H13 q', Same H12 H13 → StandAt K H13 q' ⟨ov, L5, Lb ++ [(q.1, ren ms, ws)]⟩ → Q' (.ref q') H13) → spWP K [.ref x2, .str q.1, .ref t, wv] H12 Q' E' := by
            intro H12 t b wv Q' E' s12 ht hw k
            refine ⟨x2, t, b, q.1, _, ms, wv, ws, rfl, st2.same (same2 s811 s12), pn1, nin, ht, mlen, covL, ?_, lb, fun H13 q' s13 nq hq => k H13 q' s13 hq⟩
            rcases hw with h | ⟨aw, bw, h1, h2⟩
            · exact .inl h
            · exact .inr ⟨aw, bw, h1, h2, wlen, wall⟩
          refine ⟨_, rfl, M3, cI ws, rfl, hM3i, by show 0 < (List.map _ _).length; rw [List.length_map, wlen]; exact ov1, fun m hm hall => ?_⟩
          refine ⟨rfl, _, rfl, ?_⟩
          have fin2 : ∀ (H13 : Hp) (q' : Addr), Same H11 H13 → StandAt K H13 q' ⟨ov, L5, Lb ++ [(q.1, ren ms, ws)]⟩ → Same H5 H13 := fun H13 q' s _ => same2 s56 (same2 s68 (same2 s811 s))
          have useW : ∀ (σ0 : L2.St) , σ0 = [some (.ref a), some (.int c), some (.ref p), some (.ref d), some (.int (n : Nat)), some (.ref o), some (.int (i : Nat)), some (.ref x2), some (.ref N), none, none, m11, some (.ref u), some (.ref M2), none, some (.ref M3)] → True := fun _ _ => trivial
          by_cases hm1 : m = 1
          · subst hm1
            rw [show decide (V.int 1 = V.int 1) = true from decide_eq_true rfl]
            refine iteT ?_
            refine ⟨_, rfl, p, _, _, _, rfl, rfl, hpB.sq, atI_nat (j := 7) (nV_at0 (by omega)), rfl, _, rfl, ?_⟩
            rcases g47 with e7 | e7
            · rw [show decide (V.int ((at0 sh 7 : Nat) : Int) = V.int 0) = true from decide_eq_true (by rw [e7] <;> rfl)]
              refine iteT ?_
              have hrep : ws = List.replicate ov.length 1 := by
                rw [← wlen]
                refine List.eq_replicate_iff.mpr ⟨rfl, fun y hy => ?_⟩
                have h1 := wall y hy
                have h2 := hall ((y : Nat) : Int) (List.mem_map.mpr ⟨y, hy, rfl⟩)
                omega
              refine ⟨_, rfl, x2, dxx, _, rfl, hixB, rfl, _, rfl, u, _, _, _, rfl, rfl, kuB.sq, atI_nat (j := 0) rfl, _, rfl, M2, _, rfl, .inl ⟨hM2b.sq, fun l H12 nl s12 fl _ => ?_⟩⟩
              refine ⟨rfl, rfl, ?_⟩
              refine mw H12 l false .non _ _ s12 fl.sq (.inl ⟨rfl, hrep⟩) fun H13 q' s13 hq' => ?_
              exact ⟨_, _, _, _, q', _, rfl, hq', pu3, fin2 H13 q' (same2 s12 s13) hq'⟩
            · rw [show decide (V.int ((at0 sh 7 : Nat) : Int) = V.int 0) = false from decide_eq_false fun e => e7 (by have := V.int.inj e; omega)]
              refine iteF ?_
              refine ⟨_, rfl, x2, dxx, _, rfl, hixB, rfl, _, rfl, u, _, _, _, rfl, rfl, kuB.sq, atI_nat (j := 0) rfl, _, rfl, _, rfl, _, rfl, M3, _, rfl, .inl ⟨hM3.sq, fun l H12 nl s12 fl _ => ?_⟩⟩
              refine ⟨Nat.le_trans (by show 2 ≤ 16777216; decide) big, fun z nz2 => ?_⟩
              have s13 := same_new (o := .lst [.ref M3, .ref l]) nz2
              have hz : RL (upd H12 z (.lst [.ref M3, .ref l])) z [.ref M3, .ref l] := upd_same ..
              generalize upd H12 z (.lst [.ref M3, .ref l]) = H13 at s13 hz
              have s1113 := same2 s12 s13
              have e6 : at0 sh 6 = 0 ∨ at0 sh 6 = 1 := by omega
              refine ⟨_, rfl, p, _, _, _, rfl, rfl, (hpB.same s1113).sq, atI_nat (j := 6) (nV_at0 (by omega)), z, _, _, (if at0 sh 6 = 0 then V.ref M3 else V.ref l), rfl, rfl, hz.sq, ?_, ?_⟩
              · rcases e6 with e | e <;> rw [e] <;> rfl
              · refine ⟨rfl, rfl, ?_⟩
                refine mw H13 M2 true (if at0 sh 6 = 0 then V.ref M3 else V.ref l) _ _ s1113 (hM2b.same s1113).sq ?_ fun H14 q' s14 hq' => ?_
                · rcases e6 with e | e
                  · exact .inr ⟨M3, true, by rw [if_pos e], (hM3.same s1113).sq⟩
                  · exact .inr ⟨l, false, by rw [if_neg (by omega)], Same.sqT s13 fl.sq⟩
                · exact ⟨_, _, _, _, q', _, rfl, hq', pu3, fin2 H14 q' (same2 s1113 s14) hq'⟩
          · rw [show decide (V.int m = V.int 1) = false from decide_eq_false fun e => hm1 (V.int.inj e)]
            refine iteF ?_
            refine iteF ?_
            refine ⟨_, rfl, x2, dxx, _, rfl, hixB, rfl, _, rfl, u, _, _, _, rfl, rfl, kuB.sq, atI_nat (j := 0) rfl, _, rfl, _, rfl, _, rfl, M3, _, rfl, .inl ⟨hM3.sq, fun l H12 nl s12 fl _ => ?_⟩⟩
            refine ⟨Nat.le_trans (by show 2 ≤ 16777216; decide) big, fun z nz2 => ?_⟩
            have s13 := same_new (o := .lst [.ref M3, .ref l]) nz2
            have hz : RL (upd H12 z (.lst [.ref M3, .ref l])) z [.ref M3, .ref l] := upd_same ..
            generalize upd H12 z (.lst [.ref M3, .ref l]) = H13 at s13 hz
            have s1113 := same2 s12 s13
            have e6 : at0 sh 6 = 0 ∨ at0 sh 6 = 1 := by omega
            refine ⟨_, rfl, p, _, _, _, rfl, rfl, (hpB.same s1113).sq, atI_nat (j := 6) (nV_at0 (by omega)), z, _, _, (if at0 sh 6 = 0 then V.ref M3 else V.ref l), rfl, rfl, hz.sq, ?_, ?_⟩
            · rcases e6 with e | e <;> rw [e] <;> rfl
            · refine ⟨rfl, rfl, ?_⟩
              refine mw H13 M2 true (if at0 sh 6 = 0 then V.ref M3 else V.ref l) _ _ s1113 (hM2b.same s1113).sq ?_ fun H14 q' s14 hq' => ?_
              · rcases e6 with e | e
                · exact .inr ⟨M3, true, by rw [if_pos e], (hM3.same s1113).sq⟩
                · exact .inr ⟨l, false, by rw [if_neg (by omega)], Same.sqT s13 fl.sq⟩
              · exact ⟨_, _, _, _, q', _, rfl, hq', pu3, fin2 H14 q' (same2 s1113 s14) hq'⟩
        · rw [show decide (((i : Nat) : Int) < (((qc.map V.ref).length : Nat) : Int)) = false from decide_eq_false (by rw [List.length_map]; omega)]
          exact iteF ⟨_, m12, m13, m15, x2, Lb, rfl, st2, pu2.skip (by omega), same2 s56 s68⟩
      refine ⟨_, rfl, _, rfl, p, _, _, _, rfl, rfl, (hp3.same s36).sq, atI_nat (j := 4) (nV_at0 (by omega)), .inl ⟨_, rfl, _, rfl, a, _, _, _, rfl, rfl, (ha.same (same2 s03 s36)).sq, atI_nat (j := 2) rfl, cl, _, rfl, .inl (hc14.same s46).sq, _, _, rfl, rfl, _, _, rfl, rfl, by rw [List.length_map]; omega, rfl, _, rfl, ?_⟩⟩
      dsimp only
      have ed : ((at0 sh 4 : Nat) : Int).fmod ((((qc.map V.ref).length : Nat) : Int) + 1) = ((ap : Nat) : Int) := by rw [hap, List.length_map, qcl] <;> rfl
      by_cases hk : i = ap
      · rw [show decide (V.int ((i : Nat) : Int) = V.int (((at0 sh 4 : Nat) : Int).fmod ((((qc.map V.ref).length : Nat) : Int) + 1))) = true from decide_eq_true (by rw [ed, hk])]
        refine iteT ?_
        obtain ⟨_, _, _, _, _, _, _, _, _, _, _, _, _, _, hst⟩ := id st
        obtain ⟨dxx, hix⟩ := hst.ins
        refine ⟨_, rfl, x', dxx, _, rfl, hix, rfl, _, rfl, a, _, _, _, rfl, rfl, (ha.same (same2 s03 s36)).sq, atI_nat (j := 2) rfl, ?_⟩
        dsimp only [tNil]
        refine frP _ _ _ s46 fun H7 s67 => ?_
        have s37 := same2 s36 s67
        refine ⟨_, rfl, o, rfl, ⟨_, (hov.same s37).sq⟩, fun M nM => ?_⟩
        refine lc_it (walk_list (K := K) (a := o) (xs := nV ov)) (fun j H8 => H8 M = some (.lst (((ov.take j).map fun y => ((y : Nat) : Int).fdiv 2).map V.int)) ∧ Same H7 H8) ⟨upd_same .., same_new nM⟩ (fun j H8 _ h => (hov.same (same2 s37 h.2)).sq) ?_ ?_
        · rintro j y H9 H8 hj ⟨t1, t2⟩ ⟨rfl, hy⟩
          obtain ⟨dv, hdv, rfl⟩ := of_nV hy
          refine ⟨rfl, _, rfl, _, _, rfl, rfl, ⟨by decide, by decide⟩, _, t1, by rw [List.length_map, List.length_map, List.length_take]; omega, ?_, same_put nM t2⟩
          rw [upd_same, take_map hdv, List.map_append] <;> rfl
        rintro H8 ⟨t1, t2⟩
        rw [nV_len, List.take_length] at t1
        have s68 := same2 s67 t2
        have ef : decide (ap < i) = false := decide_eq_false (by omega)
        rw [ef] at pu
        refine ⟨rfl, rfl, ?_⟩
        refine ⟨x', M, true, zp, _, ov.map fun y => ((y : Nat) : Int).fdiv 2, .non, List.replicate ov.length 1, rfl, st.same s68, fresh_name zpF, fun m => absurd (pu.mem.mp m) (by decide), RL.sq (H := H8) t1, List.length_map .., covL, .inl ⟨rfl, rfl⟩, by have := pu.len; show L.length < 100; simp at this; omega, fun H9 q s9 nq hq => ?_⟩
        refine rest2 q _ H9 (same2 s68 s9) hq ?_
        rw [decide_eq_true (by omega : ap < i + 1)]
        exact pu.new
      · rw [show decide (V.int ((i : Nat) : Int) = V.int (((at0 sh 4 : Nat) : Int).fmod ((((qc.map V.ref).length : Nat) : Int) + 1))) = false from decide_eq_false fun e => hk (by have := V.int.inj e; rw [ed] at this; omega)]
        refine iteF (rest2 x' L H6 (fun _ _ e => e) st ?_)
        rw [show decide (ap < i + 1) = decide (ap < i) from decide_eq_decide.mpr (by omega)]
        exact pu
    rintro σ H6 ⟨m6, m12, m13, m15, x6, L6, rfl, st6, pu6, s56⟩
    rw [decide_eq_true (by omega : ap < W.parts.length + 1)] at pu6
    obtain ⟨fd6, fm6⟩ := pu6.done (by omega)
    have s46 := same2 s45 s56
    have s36 := same2 g3 s46
    have s06 := same2 s03 s36
    obtain ⟨_, _, _, _, _, _, _, _, _, _, _, _, _, _, hst⟩ := id st6
    obtain ⟨dxx, hix⟩ := hst.ins
    refine ⟨_, rfl, x6, dxx, _, rfl, hix, rfl, _, rfl, a, _, _, _, rfl, rfl, (ha.same s06).sq, atI_nat (j := 2) rfl, ?_⟩
    dsimp only [tNil]
    refine frP _ _ _ s46 fun H7 s67 => ?_
    refine ⟨x6, zp, _, rfl, st6.same s67, fm6, fun H8 q8 s78 nq8 hq8 => ?_⟩
    have hq8 : StandAt K H8 q8 ⟨ov, L5, ps⟩ := by
      have e : Std.delP ⟨ov, L5, L6⟩ zp = ⟨ov, L5, ps⟩ := by unfold Std.delP; rw [fd6]
      rw [e] at hq8
      exact hq8
    obtain ⟨_, _, _, _, _, _, _, _, _, _, _, _, _, _, hst8⟩ := id hq8
    obtain ⟨dx8, hix8⟩ := hst8.ins
    have s48 := same2 s46 (same2 s67 s78)
    refine ⟨q8, dx8, _, rfl, hix8, rfl, _, rfl, ?_⟩
    dsimp only [tNil]
    refine frF _ _ _ s48 fun H9 s89 => ?_
    refine ⟨q8, zf, _, rfl, hq8.same s89, fm5, fun H10 q10 s910 nq10 hq10 => ?_⟩
    have hq10 : StandAt K H10 q10 (W.over ov (at0 sh 8) (atZ FAC (at0 sh 5))) := by
      have e : Std.delF ⟨ov, L5, ps⟩ zf = W.over ov (at0 sh 8) (atZ FAC (at0 sh 5)) := by unfold Std.delF Wd.over; rw [fd5, ← hfs, ← hps]
      rw [e] at hq10
      exact hq10
    have s410 := same2 s48 (same2 s89 s910)
    have s310 := same2 g3 s410
    have s010 := same2 s03 s310
    have fin : ∀ (H11 : Hp) (q : Addr), Same H10 H11 → H q = none → StandAt K H11 q W.std → Q (.ref q) H11 := fun H11 q s11 nq hq => hQ H11 q (same2 s010 s11) nq hq
    dsimp only [gName]
    refine ⟨_, rfl, o, _, rfl, .inl (hov.same s310).sq, _, rfl, d, _, rfl, .inl (hd.same s010).sq, _, _, rfl, rfl, _, rfl, ?_⟩
    by_cases hc : W.deals.length < ov.length
    · have eov : ov = List.range n := hcase.resolve_right fun e => by rw [e] at hc; omega
      rw [show decide ((((nV W.deals).length : Nat) : Int) < (((nV ov).length : Nat) : Int)) = true from decide_eq_true (by rw [nV_len, nV_len]; omega)]
      refine iteT ?_
      obtain ⟨_, _, _, _, _, _, _, _, _, _, _, _, _, _, hst10⟩ := id hq10
      obtain ⟨dx10, hix10⟩ := hst10.ins
      obtain ⟨kk, hkk⟩ := cut_sub (xs := nV W.deals) (n := 2)
      have hd10 := hd.same s010
      refine ⟨_, rfl, q10, dx10, _, rfl, hix10, rfl, _, rfl, _, rfl, _, rfl, d, _, rfl, hd10.sq, fun p1 np1 => ?_⟩
      rw [show cutV (nV W.deals) none (some (2 : Int)) = nV (W.deals.take kk) from hkk.trans (by unfold nV; rw [List.map_take])]
      have v1 := same_new (o := .lst (nV (W.deals.take kk))) np1
      have w1 : RL (upd H10 p1 (.lst (nV (W.deals.take kk)))) p1 (nV (W.deals.take kk)) := upd_same ..
      generalize upd H10 p1 (.lst (nV (W.deals.take kk))) = H11 at v1 w1
      refine ⟨d, p1, _, _, rfl, rfl, hd10.same v1, w1, by rw [nV_len, nV_len, List.length_take]; omega, fun z nz => ?_⟩
      have v2 := same_new (o := .lst (nV W.deals ++ nV (W.deals.take kk))) nz
      have w2 : RL (upd H11 z (.lst (nV W.deals ++ nV (W.deals.take kk)))) z (nV (W.deals ++ W.deals.take kk)) := by rw [RL, upd_same]; unfold nV; rw [List.map_append]
      generalize upd H11 z (.lst (nV W.deals ++ nV (W.deals.take kk))) = H12 at v2 w2
      refine ⟨z, _, rfl, .inl ⟨w2.sq, fun l H13 nl s13 fl _ => ?_⟩⟩
      have s1013 := same2 v1 (same2 v2 s13)
      have mem : ∀ y, y ∈ W.deals ++ W.deals.take kk ↔ y ∈ W.deals := fun y => by
        rw [List.mem_append]
        exact ⟨fun h => h.elim id List.mem_of_mem_take, .inl⟩
      refine ⟨q10, l, false, _, W.deals ++ W.deals.take kk, rfl, hq10.same s1013, fl.sq, by rw [List.length_append]; omega, by rw [List.length_append, List.length_take]; omega, fun y hy => ?_, fun H14 q14 pss s14 n14 pw pm h14 => ?_⟩
      · show y ∈ ov
        rw [eov]
        exact List.mem_range.mpr (dn y ((mem y).mp hy))
      · have eps : pss = W.deals := rise_ext pw ok.dw fun y => (pm y).trans ⟨fun ⟨y', h1, h2⟩ => by
          have h2 : ov[y]? = some y' := h2
          rw [eov] at h2
          have l := ltE h2
          rw [List.length_range] at l
          rw [List.getElem?_range l] at h2
          rw [Option.some.inj h2]
          exact (mem y').mp h1, fun h => ⟨y, (mem y).mpr h, by show ov[y]? = some y; rw [eov]; exact List.getElem?_range (dn y h)⟩⟩
        subst eps
        rw [eov, over_pick ok fz dn] at h14
        exact ⟨_, rfl, fin H14 q14 (same2 s1013 s14) ((same2 s010 s1013).free n14) h14⟩
    · have eov : ov = W.deals := by
        rcases hcase with e | e
        · rw [e, List.length_range] at hc
          rw [e]
          exact (rise_range ok.dw dn (by omega)).symm
        · exact e
      rw [show decide ((((nV W.deals).length : Nat) : Int) < (((nV ov).length : Nat) : Int)) = false from decide_eq_false (by rw [nV_len, nV_len]; omega)]
      refine iteF ?_
      rw [eov, over_deals ok fz] at hq10
      exact ⟨_, rfl, fin H10 q10 (fun _ _ e => e) ((same2 s03 (same2 g3 (same2 s48 s89))).free nq10) hq10⟩
  have hp2 := hp.same (same2 q2 s2L)
  refine ⟨_, rfl, p, _, _, _, rfl, rfl, hp2.sq, atI_nat (j := 0) (nV_at0 (by omega)), rfl, _, rfl, ?_⟩
  generalize decide (V.int (at0 sh 0 : Nat) = V.int 0) = b0
  cases b0 with
  | false => exact iteF (rest L0 x O _ (fun _ _ e => e) hS hO2 (.inl rfl))
  | true =>
    refine iteT ?_
    have hS' := hS
    obtain ⟨_, _, _, _, _, _, _, _, _, _, _, _, _, _, hst⟩ := hS'
    obtain ⟨dxx, hix⟩ := hst.ins
    refine ⟨_, rfl, x, dxx, _, rfl, hix, rfl, ?_⟩
    refine rot_catV rfl (hd.same s0L) (by rw [nV_len]; exact d1) (by rw [nV_len]; omega) fun H4 z v1 nz hz => ?_
    have ez : (nV W.deals).drop 1 ++ (nV W.deals).take 1 = nV (W.deals.drop 1 ++ W.deals.take 1) := by
      unfold nV
      rw [List.map_append, List.map_drop, List.map_take]
    rw [ez] at hz
    have mem : ∀ y, y ∈ W.deals.drop 1 ++ W.deals.take 1 ↔ y ∈ W.deals := fun y => by
      rw [List.mem_append, or_comm, ← List.mem_append, List.take_append_drop]
    refine ⟨x, z, true, _, W.deals.drop 1 ++ W.deals.take 1, rfl, hS.same v1, hz.sq, by rw [List.length_append, List.length_take, List.length_drop]; omega, by rw [List.length_append, List.length_take, List.length_drop]; omega, fun y hy => List.mem_range.mpr (dn y ((mem y).mp hy)), fun H5 q ps v2 nq pw pm hq => ?_⟩
    have eps : ps = W.deals := rise_ext pw ok.dw fun y => (pm y).trans ⟨fun ⟨y', h1, h2⟩ => by
      have l := ltE h2
      have l : y < n := by rw [List.length_range] at l; exact l
      rw [List.getElem?_range l] at h2
      rw [Option.some.inj h2]
      exact (mem y').mp h1, fun h => ⟨y, (mem y).mpr h, List.getElem?_range (dn y h)⟩⟩
    subst eps
    have epk : pickR W.deals (List.range n) = W.deals := by
      have := pick_range (n := n) (ps := W.deals) (f := fun y => y) dn
      rw [List.map_id', List.map_id'] at this
      exact this
    have hq : StandAt K H5 q ⟨pickR W.deals (List.range n), [], []⟩ := hq
    rw [epk] at hq
    refine ⟨_, rfl, ?_⟩
    exact rest H5 q d W.deals (same2 v1 v2) hq (hd.same (same2 s0L (same2 v1 v2))) (.inr rfl)
end
end K05
set_option Elab.async false
set_option linter.all false
set_option maxRecDepth 100000
set_option maxHeartbeats 0
/-! K05: the head's run. -/
namespace K05
open PySem PySem.Spec PyProof.Rows L2 Ms
abbrev R : PySem.W.OpenRow := PySem.W.OpenLaw.row PySem.Challenge.rw_manysights_k05_standings_compared
abbrev hk : PySem.W.Hook := hookM 5 fa fn
def ob (s : PySem.W.SharedT) : AlM := obsMG 5 fa fn (HandSHeadRun.getT s)
theorem ob_eq (s : PySem.W.SharedT) : ob s = hk.obs s.abs := obsMG_eq (HandSHeadRun.getT_eq s)
def loose : List PySem.Str := (["_wall", "DealError", "NoDeals", "SizesDiffer", "BadCount", "BadName", "TakenName", "BadLength", "BadDigit", "BadWeight", "UnknownName", "UnknownParty", "UnknownFact", "UnknownDeal", "is_whole", "is_digit", "is_name", "check_name", "renumbered", "listed_cells", "joined_marks", "check_sizes", "Sight", "made_standing"] : List PySem.Str) ++ (["picked", "check_digits", "check_weights", "Standing", "_law_cell", "_law_digits", "_law_marks", "_law_only", "_law_name", "_law_draw_digits", "_law_draw_party", "_law_world", "_law_moved", "_law_renamed", "_law_put", "_law_varied", "_law_fresh", "_law_build", "_law_plain", "_law_equals_nothing_else", "LETTERS", "DIGITS"] : List PySem.Str)
theorem run (w : World) : HandSHeadRun.RunEq R (PySem.W.view R.prog [51]) hk ob 6000 loose w := by
  intro os
  kernel_rfl
end K05
set_option Elab.async false
set_option linter.all false
set_option maxRecDepth 100000
set_option maxHeartbeats 4000000
namespace K05
open PySem PySem.Spec PyProof.Rows L2 Ms
section
variable {P : Program} {w : World} {K : PySem.W.Frag} {mg : Str → Option Value} {base : Heap}
theorem facts {h : Heap} {f : Addr} (X : K.In h) (G : h.Ns mainGlobals mg) (hfa : mg ("law" : Str) = some (.ref f)) (c : SaysM fa fn K) :
    ∃ fd : FuncData, (∀ (s : Shared) (v : Value), BindsTo s fd ⟨[v], []⟩ [("script", v)]) ∧ ∀ base : Heap, K.In base → base.Ns mainGlobals mg → FnOk P w K mg base CX0 9 f fd ["script"] (spLaw K) := by
  have T : Tx K mg := tx_of X G c
  have e := hfa.symm.trans T.gd_law
  cases e
  obtain ⟨fd, F⟩ := T.d_law
  have b := FunD.bindsA (ps := ["script"]) F bi_law
  refine ⟨fd, fun s v => b s [v] rfl, fun base _ _ => ?_⟩
  exact law_of T (ok__law_varied T) (ok__law_build T) F
end
end K05
open PySem PySem.W PySem.Calls PyProof.Rows
theorem PySem.Challenge.cw_manysights_k05_standings_compared_holds : PySem.Challenge.rw_manysights_k05_standings_compared.Holds := by
  w_on; o_law
  refine HandSHeadRun.head_any (r := OpenLaw.row PySem.Challenge.rw_manysights_k05_standings_compared) (q := view (OpenLaw.row PySem.Challenge.rw_manysights_k05_standings_compared).prog [51]) (H := K05.hk) (ob := K05.ob) (M := 6000) (loose := K05.loose) (d := HandSHeadRun.topDef (OpenLaw.row PySem.Challenge.rw_manysights_k05_standings_compared).prog 51) (kwd := []) K05.ob_eq
    (by kernel_rfl) (fun s => by kernel_rfl) K05.run (by kernel_rfl) (by kernel_rfl) (by kernel_rfl) (by rfl) (by first | assumption | decide +kernel) (by decide +kernel) ⟨rfl, rfl, rfl, rfl, rfl, by decide +kernel⟩ ?hw ?hc
  case hw => w_witness2
  case hc =>
    refine L2.walk_ofE (l := PySem.Challenge.rw_manysights_k05_standings_compared) (n := 63) (k := 9) (x := "script") (CX := L2.CX0) rfl (by decide) (by kernel_rfl) ⟨by decide, by decide, by decide⟩ ?F (fun _ _ _ _ z => z)
    intro w mg fa h Y G hmg0
    obtain ⟨K, KX, c⟩ := Y
    have hmg : mg ("law" : PySem.Str) = some (.ref fa) := by
      have e : (HandSHeadRun.topDef (OpenLaw.row PySem.Challenge.rw_manysights_k05_standings_compared).prog 51).name = ("law" : PySem.Str) := by kernel_rfl
      rw [← e]
      exact hmg0
    obtain ⟨fd, hb, hF⟩ := K05.facts (P := (PySem.Challenge.rw_manysights_k05_standings_compared).prog) (w := w) KX G hmg c
    exact ⟨K, fd, K05.spLaw K, KX, hb, fun H a ns hl _ hS => ⟨a, ns, rfl, hS, fun _ => rfl⟩, hF⟩
