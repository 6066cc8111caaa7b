import PyProof.Rows.All
import Wide.All
import OpenK.AllK
import Wide.FinOn
import KE.KStateDown
import KE.KOpsOwn
import HandS.ForMost
import HandS.Exc
import HandS.TryOnly
import HandS.ExcOwn
import HandS.ExcInit
import HandS.ExcIs
import HandS.ExcField
import HandS.IsInst
import HandS.Property
import HandS.ClsMeth
import HandS.Zip
import HandS.Conv
import HandS.Defaults
import HandS.SetKeys
import HandS.TupLen
import HandS.Walk
import HandS.OwnEq
import HandS.WordsExc
import HandS.Head0
import HandS.Head1
import HandS.Head2
import HandS.HeadEnd
import HandS.HeadHook1
import HandS.HeadHook2
import KE.KExcIs
import KE.KDictZip
import KE.KItemsList
import KE.GoesNew
import HandS.Zip0
import HandS.ListItems
import KE.GoesMore
import KE.GoesEnum
import PyProof.Draws
import PyProof.DictMoreH
import HandS.Dict
import PyProof.WalkInts
import HandS.Iter
import HandS.DictComp
import HandS.SortInts
import HandS.More
import KE.DataMinMax
import KE.SortData
import PyProof.Rows.RowBridgeK
import HandS.RevRange
import HandS.TupLe
import PySem.Challenge.RW_manysights_k02_chains_whole
set_option Elab.async false
set_option linter.all false
set_option maxRecDepth 100000
set_option maxHeartbeats 4000000
/-! Ms, the core: rules of our own over the hand layer. -/
namespace Ms
open PySem PySem.Spec PyProof.Rows L2
abbrev St := L2.St

/-! ### no exception leaves -/
abbrev EN : St → XK := fun _ _ _ _ => False
theorem passN {X : Cx} (σ : St) : PassesAt (L2.CX X.prog X.w) X σ (fun _ _ _ => False) := fun _ _ _ _ _ _ c => by
  obtain ⟨_, _, _, _, _, _, _, _, _, _, _, _, h⟩ := c
  exact h.elim

/-! ### a def by its name -/
structure Ok (P : Program) (w : World) (K : PySem.W.Frag) (mg : Str → Option Value) (base : Heap) (x : Str) (k : Nat) (sp : Sp) : Prop where
  ex : ∃ fd ps, FnOk P w K mg base (L2.CX P w) k (He.ga K x) fd ps sp ∧ Binds K fd ps []
  mg : mg x = some (.ref (He.ga K x))
  kp : PySem.W.keepIn K (.ref (He.ga K x)) = true
/-- a method of the class named c -/
structure MOk (P : Program) (w : World) (K : PySem.W.Frag) (mg : Str → Option Value) (base : Heap) (c m : Str) (k : Nat) (sp : Sp) : Prop where
  ex : ∃ fd ps, FnOk P w K mg base (L2.CX P w) k (He.ma K (He.ga K c) m) fd ps sp ∧ Binds K fd ps []
  cl : Cls K (He.ga K c)
  me : Meth K (He.ga K c) m (He.ma K (He.ga K c) m)

section
variable {X : Cx} {k j : Nat} {sp : Sp} {E : St → XK} {x m c : Str} {p pos apos : Pos} {e o : Expr} {es : List Expr} {ta : TE} {t : TA}
/-- f(e, ..) -/
theorem pe_c (F : Ok X.prog X.w X.K X.mg X.base x k sp) (hr : Room j X.A) (hk : k ≤ j) (hx : ∀ σ, PassesAt (L2.CX X.prog X.w) X σ (E σ)) (ha : PA X (e :: es) t) (hg : Gl X x := by rfl)
    (hdb : (x == ("__debug__" : Str)) = false := by decide) (he : starEach (e :: es) X.env = (false, eval e X.env) :: starEach es X.env := by rfl) (hpl : (backTo pos (starEach es X.env)).any (·.1) = false := by rfl) :
    PE X (.Call (.Name x p) (e :: es) [] pos) (tCallS sp E t) := by
  obtain ⟨fd, ps, F1, hb⟩ := F.ex
  exact pe_callS F1 (hr.mono hk) hg F.mg F.kp hb hx ha hdb he hpl
def tMethS (C : Addr) (m : Str) (sp : Sp) (E : St → XK) (ta : TE) (t : TA) : TE := fun σ H Q => ta σ H fun x H1 => ∃ a dx fs, x = .ref a ∧ H1 a = some (.ins C dx fs) ∧ fs.lookup m = none ∧ t σ H1 fun vs H2 => sp (x :: vs) H2 Q (E σ)
/-- o.m(e, ..) -/
theorem pe_m {pl : Sem Bool} (F : MOk X.prog X.w X.K X.mg X.base c m k sp) (hr : Room j X.A) (hk : k ≤ j) (hx : ∀ σ, PassesAt (L2.CX X.prog X.w) X σ (E σ)) (he : PE X o ta) (ha : PA X (e :: es) t)
    (hst : starEach (e :: es) X.env = (false, eval e X.env) :: starEach es X.env := by rfl) (hpl : (backTo pos (starEach es X.env)).any (·.1) = false := by rfl)
    (ht : eval (.Call (.Attribute o m apos) (e :: es) [] pos) X.env = (do
      let ov ← eval o X.env
      standAt apos.atName
      let (f, first) ← holding [ov] (getMethod ov m pl)
      callWith pos f first (backTo pos (starEach (e :: es) X.env)) (backToKw pos (keywordEach [] X.env))) := by rfl) :
    PE X (.Call (.Attribute o m apos) (e :: es) [] pos) (tMethS (He.ga X.K c) m sp E ta t) := by
  obtain ⟨fd, ps, F1, hb⟩ := F.ex
  refine ⟨fun pins s σ H Q I h => ?_⟩
  refine PySem.W.methodCall_KW (pl := pl) (thn (he.run pins s σ H _ I h) fun u s1 ⟨x, H1, I1, rx, a, dx, fs, ex, ea, l, q⟩ => ?_) ht
  subst ex
  obtain rfl : u = Value.ref a := rx
  refine getmeth_ok I1 ea F.cl F.me l ?_
  refine PySem.W.callWith_K (first := [.ref a]) (h₀ := X.base) I.ok.mod.kin F.me.kp (thn (ha.run pos pins s1 σ H1 _ I1 q) fun us s2 ⟨vs, H2, I2, r, q2⟩ => ⟨I2.kIn, ?_⟩) hst hpl
  exact run_fnS (us := .ref a :: us) (vs := .ref a :: vs) F1 (hr.mono hk) hb (hx σ) I2 (.cons rfl r) q2

/-! ### a new instance -/
/-- the class named c, its __init__ -/
structure COk (P : Program) (w : World) (K : PySem.W.Frag) (mg : Str → Option Value) (base : Heap) (c : Str) (k : Nat) (sp : Sp) : Prop where
  ex : ∃ fd ps, FnOk P w K mg base (L2.CX P w) k (He.ma K (He.ga K c) "__init__") fd ps sp ∧ Binds K fd ps []
  mkr : Mk K (He.ga K c) (He.ma K (He.ga K c) "__init__")
  mg : mg c = some (.ref (He.ga K c))
def tMakeS (C : Addr) (sp : Sp) (E : St → XK) (t : TA) : TE := fun σ H Q => t σ H fun vs H1 => ∀ x dx, H1 x = none → H1 dx = none → dx ≠ x →
  sp (.ref x :: vs) (upd (upd H1 dx (.own x)) x (.ins C dx [])) (fun v H2 => v = .non ∧ Q (.ref x) H2) (E σ)
/-- what the maker's exception finds: the new instance is dropped -/
theorem run_makeS {pins : List (Addr × Obj)} {σ : St} {H : Hp} {s : Shared} {Q : VK} {us : List Value} {vs : List V} {C f : Addr} {fd : FuncData} {ps : List Str} {E : XK} (M : Mk X.K C f) (F : FnOk X.prog X.w X.K X.mg X.base (L2.CX X.prog X.w) k f fd ps sp) (hr : Room (k + 1) X.A) (hb : Binds X.K fd ps [])
    (hx : PassesAt (L2.CX X.prog X.w) X σ E) (I : Inv X pins σ H s) (r : Vals vs us)
    (h : ∀ x dx, H x = none → H dx = none → dx ≠ x → sp (.ref x :: vs) (upd (upd H dx (.own x)) x (.ins C dx [])) (fun v H2 => v = .non ∧ Q (.ref x) H2) E) :
    wpAny (model X.prog X.w) X.A (call (.ref C) us) (EP X pins σ Q) X.xe s := by
  have hq := h (s.heap.objs.size + 1) s.heap.objs.size (I.hok.fresh (Nat.le_succ _)) (I.hok.fresh (Nat.le_refl _)) (Nat.ne_of_lt (Nat.lt_succ_self _))
  have I2 := Inv.made (C := C) I
  have r2 : Vals (V.ref (s.heap.objs.size + 1) :: vs) (Value.ref (s.heap.objs.size + 1) :: us) := .cons rfl r
  have hl : (Value.ref (s.heap.objs.size + 1) :: us).length = ps.length := by
    have e := r2.length
    rw [F.len _ _ _ _ hq] at e
    exact e.symm
  have b := hb _ (Value.ref (s.heap.objs.size + 1) :: us) I2.kIn (by rw [List.append_nil]; exact hl)
  rw [List.append_nil] at b
  refine wpAny_call (make_map (f := f) I.kIn M.makes M.init (beq_iff_eq.mp M.fn) (codeAny_mono (F.run _ X.stack _ _ ⟨Value.ref (s.heap.objs.size + 1) :: us, []⟩ (Value.ref (s.heap.objs.size + 1) :: us) _ _ E (hr.make C us [])
    (I2.env0.make C us []) b r2 hq) fun r s' hq' => ?_))
  cases r with
  | error e => exact hx pins _ _ e s' I2 hq'
  | ok fl =>
    cases fl with
    | ret u =>
      obtain ⟨v, H', I3, rv, ev, q3⟩ := I2.after hq'
      subst ev
      exact ⟨rv, ⟨V.ref (s.heap.objs.size + 1), H', I3, rfl, q3⟩⟩
    | next => exact False.elim hq'
    | brk => exact False.elim hq'
    | cont => exact False.elim hq'
/-- C(e, ..) -/
theorem pe_n (F : COk X.prog X.w X.K X.mg X.base x k sp) (hr : Room j X.A) (hk : k + 1 ≤ j) (hx : ∀ σ, PassesAt (L2.CX X.prog X.w) X σ (E σ)) (ha : PA X (e :: es) t) (hg : Gl X x := by rfl)
    (hdb : (x == ("__debug__" : Str)) = false := by decide) (he : starEach (e :: es) X.env = (false, eval e X.env) :: starEach es X.env := by rfl) (hpl : (backTo pos (starEach es X.env)).any (·.1) = false := by rfl) :
    PE X (.Call (.Name x p) (e :: es) [] pos) (tMakeS (He.ga X.K x) sp E t) := by
  obtain ⟨fd, ps, F1, hb⟩ := F.ex
  refine ⟨fun pins s σ H Q I h => ?_⟩
  refine wpAny_Call_Name_kw (ld_glob I hg F.mg ?_ hdb)
  refine PySem.W.callWith_K (h₀ := X.base) I.ok.mod.kin F.mkr.kp (thn (ha.run pos pins s σ H _ I h) fun us s1 ⟨vs, H1, I1, r, q⟩ => ⟨I1.kIn, ?_⟩) he hpl
  exact run_makeS F.mkr F1 (hr.mono hk) hb (hx σ) I1 r q
/-- cls(e, ..), cls a local name that holds the class -/
theorem pe_nL {i : Nat} (F : COk X.prog X.w X.K X.mg X.base c k sp) (hr : Room j X.A) (hk : k + 1 ≤ j) (hx : ∀ σ, PassesAt (L2.CX X.prog X.w) X σ (E σ)) (ha : PA X (e :: es) t)
    (hN : X.N[i]? = some x) (hv : Vis X.env.scope x)
    (hdb : (x == ("__debug__" : Str)) = false := by decide) (hcd : (x == ("__classdict__" : Str)) = false := by decide) (he : starEach (e :: es) X.env = (false, eval e X.env) :: starEach es X.env := by rfl) (hpl : (backTo pos (starEach es X.env)).any (·.1) = false := by rfl) :
    PE X (.Call (.Name x p) (e :: es) [] pos) (fun σ H Q => σ[i]? = some (some (.ref (He.ga X.K c))) ∧ tMakeS (He.ga X.K c) sp E t σ H Q) := by
  obtain ⟨fd, ps, F1, hb⟩ := F.ex
  refine ⟨fun pins s σ H Q I h => ?_⟩
  obtain ⟨hs, ht⟩ := h
  refine wpAny_Call_Name_kw (thn ((pe_var (pos := p) hN hv hdb hcd).run pins s σ H (fun v H1 => v = .ref (He.ga X.K c) ∧ H1 = H) I ⟨.ref (He.ga X.K c), hs, rfl, rfl⟩) fun u s1 ⟨v, H1, I1, r1, q1⟩ => ?_)
  obtain ⟨rfl, rfl⟩ := q1
  cases r1
  refine PySem.W.callWith_K (h₀ := X.base) I.ok.mod.kin F.mkr.kp (thn (ha.run pos pins s1 σ _ _ I1 ht) fun us s2 ⟨vs, H2, I2, r, q⟩ => ⟨I2.kIn, ?_⟩) he hpl
  exact run_makeS F.mkr F1 (hr.mono hk) hb (hx σ) I2 r q

/-! ### operators of one's own -/
/-- one op two, both instances of the class named c -/
structure BOk (P : Program) (w : World) (K : PySem.W.Frag) (mg : Str → Option Value) (base : Heap) (c m : Str) (k : Nat) (sp : Sp) : Prop where
  ex : ∃ fd ps, FnOk P w K mg base (L2.CX P w) k (He.ma K (He.ga K c) m) fd ps sp ∧ Binds K fd ps []
  sf : PySem.W.selfFirst K (He.ga K c) = true
  fi : PySem.W.findIn K (.ref (He.ga K c)) m = some (some (.ref (He.ma K (He.ga K c) m)))
  fn : PySem.W.isFn K (.ref (He.ma K (He.ga K c) m)) = true
def tBinS (C : Addr) (sp : Sp) (E : St → XK) (ta tb : TE) : TE := fun σ H Q => ta σ H fun x H1 => tb σ H1 fun y H2 => ∃ a b dx dy fs gs, x = .ref a ∧ y = .ref b ∧ H2 a = some (.ins C dx fs) ∧ H2 b = some (.ins C dy gs) ∧ sp [x, y] H2 Q (E σ)
theorem cmpBack_rel {Q : Value → Shared → Prop} {v : V} {u : Value} {s : Shared} (r : RelV v u) (q : Q u s) : PySem.W.CmpBack Q u s := by
  cases v with
  | non => cases (show u = Value.none from r); exact q
  | bl b => cases (show u = Value.bool b from r); exact q
  | int i => obtain ⟨t, e⟩ := (show ∃ t, u = Value.int i t from r); subst e; exact q
  | str z => obtain ⟨t, e⟩ := (show ∃ t, u = Value.str z t from r); subst e; exact q
  | byt z => obtain ⟨t, e⟩ := (show ∃ t, u = Value.bytes z t from r); subst e; exact q
  | flt z => obtain ⟨t, e⟩ := (show ∃ t, u = Value.float z t from r); subst e; exact q
  | ref a => cases (show u = Value.ref a from r); exact q
  | ty n => cases (show u = Value.type n from r); exact q
theorem pe_bin {op : Operator} {a b : Expr} {ta tb : TE} (F : BOk X.prog X.w X.K X.mg X.base c m k sp) (ho : PySem.dunder op.info.2 = m) (hr : Room j X.A) (hk : k ≤ j) (hx : ∀ σ, PassesAt (L2.CX X.prog X.w) X σ (E σ)) (ha : PE X a ta) (hb' : PE X b tb) :
    PE X (.BinOp a op b pos) (tBinS (He.ga X.K c) sp E ta tb) := by
  obtain ⟨fd, ps, F1, hb⟩ := F.ex
  refine ⟨fun pins s σ H Q I h => ?_⟩
  refine wpAny_BinOp (binT ha hb' I h fun v u s2 x y H2 I2 rx ry q => ?_)
  obtain ⟨a1, b1, dx, dy, fs, gs, rfl, rfl, h1, h2, q⟩ := q
  cases rx
  cases ry
  obtain ⟨mA, J, _⟩ := ins_get I2.hok h1
  obtain ⟨mB, J', _⟩ := ins_get I2.hok h2
  obtain ⟨od, J, _⟩ := J.look
  obtain ⟨od', J', _⟩ := J'.look
  obtain ⟨mm, hF⟩ := I2.fr
  refine PySem.W.binop_K hF I2.ok.mod.kin J J'.type F.sf (by rw [ho]; exact F.fi) F.fn ?_
  exact thn (run_fnS (us := [.ref a1, .ref b1]) (vs := [.ref a1, .ref b1]) F1 (hr.mono hk) hb (hx σ) I2 (.cons rfl (.cons rfl .nil)) q) fun v s3 ⟨z, H3, I3, r3, q3⟩ => cmpBack_rel r3 ⟨z, H3, I3, r3, q3⟩
/-- one == y by the class's own __eq__, y anything -/
def tEqS (K : PySem.W.Frag) (C : Addr) (sp : Sp) (E : St → XK) (ta tb : TE) : TE := fun σ H Q => ta σ H fun x H1 => tb σ H1 fun y H2 => ∃ a dx fs t, x = .ref a ∧ H2 a = some (.ins C dx fs) ∧ TyX K H2 y t ∧ PySem.W.notFirst K C t = true ∧ sp [x, y] H2 Q (E σ)
theorem pe_eqS {a b : Expr} {ta tb : TE} (F : BOk X.prog X.w X.K X.mg X.base c "__eq__" k sp) (hr : Room j X.A) (hk : k ≤ j) (hx : ∀ σ, PassesAt (L2.CX X.prog X.w) X σ (E σ)) (ha : PE X a ta) (hb' : PE X b tb) :
    PE X (.Compare a [.Eq] [b] pos) (tEqS X.K (He.ga X.K c) sp E ta tb) := by
  obtain ⟨fd, ps, F1, hb⟩ := F.ex
  refine ⟨fun pins s σ H Q I h => ?_⟩
  refine wpAny_Compare1 (binT ha hb' I h fun v u s2 x y H2 I2 rx ry q => ?_) (nomark _)
  obtain ⟨a1, dx, fs, t, rfl, h1, ty, nf, q⟩ := q
  cases rx
  obtain ⟨mA, J, _⟩ := ins_get I2.hok h1
  obtain ⟨od, J, _⟩ := J.look
  obtain ⟨mm, hF⟩ := I2.fr
  obtain ⟨P, Z, pz, _⟩ := kit_of I2 ry ty
  show wpAny (model X.prog X.w) X.A (richCompare .Eq (.ref a1) u) (EP X pins σ Q) X.xe s2
  refine PySem.W.cmp_K (op := .Eq) (tb := t) hr.units0 hF I2.ok.mod.kin J (Z.ty _ _ I2.kIn pz) nf F.fi F.fn ?_
  exact thn (run_fnS (us := [.ref a1, u]) (vs := [.ref a1, y]) F1 (hr.mono hk) hb (hx σ) I2 (.cons rfl (.cons ry .nil)) q) fun v s3 ⟨z, H3, I3, r3, q3⟩ => cmpBack_rel r3 ⟨z, H3, I3, r3, q3⟩

/-! ### an own exception without __init__, made without arguments -/
theorem pmk_own0 {B : String} {bmB : List Value} {newId initId : String} {C : Addr} {x : Str} {p pos : Pos} (F : ExcBaseFacts B newId initId bmB) (q : PySem.W.excIn X.K C bmB newId = true) (gC : X.mg x = some (.ref C)) (kC : PySem.W.keepIn X.K (.ref C) = true) (r : Raises X (.ref C)) (hg : Gl X x)
    (hdb : (x == ("__debug__" : Str)) = false := by decide) : PMk X (.Call (.Name x p) [] [] pos) (fun _ H Q => Q (.ref C) none H) := by
  intro pins s σ H Q I h
  refine wpAny_Call_Name_kw (ld_glob I hg gC ?_ hdb)
  refine PySem.W.callWith_K0 I.kIn kC ?_
  obtain ⟨bm, N, nm, qn, bs, hdct, sn, sub, ab, col, dd, k0, k1, k2, k3, k5, mN, hC, hN, hni, T⟩ := exc_obj I.kIn q
  obtain ⟨hp, g, d, t, os⟩ := s
  refine wpAny_call_exc_subT F T hC hN hni (fun h' e hm => ?_) (Nat.zero_le _)
  exact mk_of I hm r h (I.hok.gone hm.new)
end
end Ms
set_option Elab.async false
set_option linter.all false
set_option maxRecDepth 100000
set_option maxHeartbeats 4000000
/-! Ms, exceptions: a caught exception is an object like others, so that defs may be handed it. -/
namespace Ms
open PySem PySem.Spec PyProof.Rows L2

/-- at a stands an exception of the class cls, its dict at d -/
def exT (a : Addr) (cls : Value) (d : Option Addr) : HO := .ext fun h => ∃ oe vs, h.get? a = some oe ∧ Zc cls d oe ∧ oe.data = .fields vs
theorem exT_not (a : Addr) (cls : Value) (d : Option Addr) {o : HO} (h : ∀ p, o ≠ .ext p) : exT a cls d ≠ o := fun z => h _ z.symm
theorem exT_ok {P : Program} {w : World} {H : Hp} {h : Heap} {a : Addr} {cls : Value} {d : Option Addr} {oe : Obj} {vs : Array Value} (e : h.get? a = some oe) (z : Zc cls d oe) (f : oe.data = .fields vs) : ObjOk P w H h a (exT a cls d) :=
  ⟨⟨oe, vs, e, z, f⟩, ⟨oe, e⟩, fun _ _ ⟨o, us, q, z, f⟩ k => ⟨o, us, k _ q, z, f⟩⟩
theorem exT_at {P : Program} {w : World} {H : Hp} {h : Heap} {a : Addr} {cls : Value} {d : Option Addr} (hok : HOk P w H h) (e : H a = some (exT a cls d)) : ∃ oe vs, h.get? a = some oe ∧ Zc cls d oe ∧ oe.data = .fields vs := by
  have x : ObjOk P w H h a (.ext fun h => ∃ oe vs, h.get? a = some oe ∧ Zc cls d oe ∧ oe.data = .fields vs) := hok a _ e
  exact x.1

section
variable {X : Cx} {pins : List (Addr × Obj)} {σ : St} {H : Hp} {s : Shared}
/-- an object of later than the frame's entry is known from now on -/
theorem track {a : Addr} {cls : Value} {d : Option Addr} {oe : Obj} {vs : Array Value} (I : Inv X pins σ H s) (new : X.s_0.heap.get? a = none) (e : s.heap.get? a = some oe) (z : Zc cls d oe) (f : oe.data = .fields vs) (na : H a = none)
    (nL : a ≠ X.env.locals) (np : ∀ p ∈ X.pn ++ pins, p.1 ≠ a) : Inv X pins σ (upd H a (exT a cls d)) s := by
  have off : ∀ {b : Addr} {o : Obj}, X.s_0.heap.get? b = some o → b ≠ a := fun {b o} q y => by
    rw [y, new] at q
    cases q
  have ne : ∀ {b : Addr} {o : HO}, H b = some o → b ≠ a := fun {b o} q y => by
    rw [y, na] at q
    cases q
  refine ⟨I.ok, I.os, I.bare, ⟨I.base.keep, I.base.slot, fun b o q n hx => ?_, I.base.there, fun b xs q => ?_, fun b o u q => ?_, fun b ps q => ?_⟩, I.loc, I.cell, ?_, fun x c q => ?_, fun p hp => ?_, fun b o q => ?_, I.len⟩
  · rw [upd_ne (off q)]
    exact I.base.free b o q n hx
  · have y := I.base.tups b xs q
    rw [upd_ne (ne y)]
    exact y
  · have y := I.base.frzs b o u q
    rw [upd_ne (ne y)]
    exact y
  · obtain ⟨more, y⟩ := I.base.tbls b ps q
    exact ⟨more, by rw [upd_ne (ne y)]; exact y⟩
  · rw [upd_ne (Ne.symm nL)]
    exact I.free
  · obtain ⟨v, o, ho, hd⟩ := I.cell x c q
    have nc : c ≠ a := fun y => by
      rw [y, e] at ho
      cases ho
      rw [f] at hd
      cases hd
    rw [upd_ne nc]
    exact I.freeC x c q
  · obtain ⟨y1, y2, y3⟩ := I.pin p hp
    exact ⟨y1, by rw [upd_ne (np p hp)]; exact y2, y3⟩
  · by_cases hb : b = a
    · subst hb
      rw [upd_same] at q
      cases q
      exact exT_ok e z f
    · rw [upd_ne hb] at q
      exact (I.hok b o q).stay (fun _ _ _ y => y) (fun c y => by rw [upd_ne (ne y)]; exact y) fun c xs y => by rw [upd_ne (ne y)]; exact y
/-- into an except suite, out of it -/
theorem toSuite (I : Inv X pins σ H s) (a : Addr) : Inv (X.suite a (X.pn ++ pins)) [] σ H s :=
  ⟨I.ok.suite _ _, I.os, I.bare, I.base, I.loc, I.cell, I.free, I.freeC, fun p hp => I.pin p (by rw [List.append_nil] at hp; exact hp), I.hok, I.len⟩
theorem ofSuite {a : Addr} {pn' : List (Addr × Obj)} (I : Inv (X.suite a (X.pn ++ pins)) pn' σ H s) (ok : X.Ok) : Inv X pins σ H s :=
  ⟨ok, I.os, I.bare, I.base, I.loc, I.cell, I.free, I.freeC, fun p hp => I.pin p (List.mem_append_left _ hp), I.hok, I.len⟩
end

/-- what the clause «except x as n» wishes of an exception of the body -/
def wTr (K : PySem.W.Frag) (c : Value) (i : Nat) (ts : TS) (Wout : WX) (D : Ends) : WX := fun cls d σ H =>
  ∃ b, PySem.W.exmOne K cls c = some b ∧ (b = true → ∀ a, H a = none → ts { nx := fun σ' H' => D.nx (σ'.set i none) H', rt := D.rt, bk := fun σ' H' => D.bk (σ'.set i none) H', ct := fun σ' H' => D.ct (σ'.set i none) H' } (σ.set i (some (.ref a))) (upd H a (exT a cls d))) ∧
    (b = false → Wout cls d σ H)

section
variable {X : Cx} {x n : Str} {c : Value} {i : Nat} {body suite : List Stmt} {b₀ : Stmt} {np pos pos' : Pos} {tb : WX → TS} {ts : TS} {Wout : WX}
theorem ps_try (hs : X.stack = X.env :: X.outer) (hf : X.env.frame = some X.env.locals) (hN : X.N.Nodup) (hi : X.N[i]? = some n) (hln : X.env.kindOf n = some .local) (hc : Names X x c) (hex : X.ex = []) (tk : Takes X Wout)
    (hb : ∀ (W : WX) (pn : List (Addr × Obj)) (xe : Value → Shared → Prop), Takes (X.tr pn xe) W → PassesOwn (model X.prog X.w) X.A X.env xe → PSs (X.tr pn xe) body (tb W))
    (hsu : ∀ (a : Addr) (pn : List (Addr × Obj)), PSs (X.suite a pn) (b₀ :: suite) ts) :
    PS X (.Try body [.ExceptHandler (some (.Name x np)) (some n) (b₀ :: suite) pos'] [] [] pos) (fun D σ H => tb (wTr X.K c i ts Wout D) D σ H) := by
  refine ⟨fun pins s σ H D I h => ?_⟩
  have ok := I.ok
  have hfr : X.A.frames = some (X.env :: X.outer) := by rw [ok.frames, hs]
  have hloc : Loc X.env.scope n := .inl hln
  refine wpAny_Try_except ?_
  have runs := (hb (wTr X.K c i ts Wout D) (X.pn ++ pins) (fun e s₁ => wpAny (model X.prog X.w) X.A (noteFrame e X.env) (fun _ s₂ => wpAny (model X.prog X.w) X.A (setFlight e none) (fun _ s₃ =>
    wpAny (model X.prog X.w) X.A (handleBy e X.env [.ExceptHandler (some (.Name x np)) (some n) (b₀ :: suite) pos']) (SP X pins D) X.xe s₃) X.xe s₂) X.xe s₁) (fun u s' xx => ?_) PassesOwn.looking).run [] s σ H D (I.toTry _) h
  · refine wpAny_mono runs (fun f s1 hsp => ?_) fun e s1 he => he
    cases f with
    | next =>
      obtain ⟨σ', H', J', q⟩ := hsp
      exact wpAny_execs_nil ⟨σ', H', J'.ofTry ok, q⟩
    | brk =>
      obtain ⟨σ', H', J', q⟩ := hsp
      exact ⟨σ', H', J'.ofTry ok, q⟩
    | cont =>
      obtain ⟨σ', H', J', q⟩ := hsp
      exact ⟨σ', H', J'.ofTry ok, q⟩
    | ret u =>
      obtain ⟨v, σ', H', J', r, q⟩ := hsp
      exact ⟨v, σ', H', J'.ofTry ok, r, q⟩
  -- the catch
  obtain ⟨a, B, sI, pins', σ', H', cls, d, rfl, J', nb, up, sky, na, os, ag, b, hb1, hyes, hno⟩ := xx
  have J : Inv X pins σ' H' sI := J'.ofTry ok
  have sky1 : Sky B (X.env :: X.outer) a (Zc cls d) X.env.locals s'.heap := hs ▸ sky
  show wpAny (model X.prog X.w) X.A (noteFrame (.ref a) X.env) _ _ _
  refine Sky.land Zc.steady hfr hf sky1 fun h3 fl3 up3 => ?_
  have J3 : Inv X pins σ' H' { s' with heap := h3 } := J.landed nb fl3.1 (up.trans up3) os ag
  obtain ⟨oe3, vs3, he3, hz3, hd3⟩ := fl3.there
  have nfr : a ∉ frs (X.env :: X.outer) := fun hm => by
    obtain ⟨_, o', e', hnf⟩ := fl3.2.2.1.mem hm
    rw [he3] at e'
    cases e'
    exact hnf _ hd3
  have nst : a ∉ frs X.stack := hs ▸ nfr
  have nL : a ≠ X.env.locals := fun z => nfr (List.mem_filterMap.mpr ⟨X.env, List.mem_cons_self, by rw [hf, z]⟩)
  have gone : B.get? a = none := fl3.2.1
  have newI : sI.heap.get? a = none := by
    cases q : sI.heap.get? a with
    | none => rfl
    | some o =>
      have z := nb a o q nst
      rw [gone] at z
      cases z
  have new : X.s_0.heap.get? a = none := by
    cases q : X.s_0.heap.get? a with
    | none => rfl
    | some o =>
      obtain ⟨o', z⟩ := J.base.there a o q (by rw [hex]; simp)
      rw [newI] at z
      cases z
  have npin : ∀ p ∈ X.pn ++ pins, p.1 ≠ a := fun p hp z => by
    obtain ⟨y, _⟩ := J.pin p hp
    rw [z, newI] at y
    cases y
  refine wpAny_handleBy_cons (codeAny_handlers_test ?_) (by intro q; cases q)
  have LT : PySem.W.Looks (model X.prog X.w) h3 (typeOf (.ref a)) cls := fun A Q E s k q => wpAny_typeOf_ref (k _ _ he3) (by rw [hz3.1]; exact q)
  have LM := PySem.W.exm_one (M := model X.prog X.w) (J3.kIn) LT hb1
  have test : ∀ {Q : Value → Shared → Prop} {E : Value → Shared → Prop}, Q c { s' with heap := h3 } → wpAny (model X.prog X.w) (X.A.mark (some (.ref a))) (eval (.Name x np) X.env) Q E { s' with heap := h3 } := fun {Q E} q => by
    obtain ⟨hg, hdbg, hm | ⟨hm, hv, hnn⟩⟩ := hc
    · exact ld_glob (X := X.suite a (X.pn ++ pins)) (toSuite J3 a) hg hm q hdbg
    · exact ld_blt (X := X.suite a (X.pn ++ pins)) (toSuite J3 a) hg hm hv q hnn hdbg
  refine test (LM.here ?_)
  cases b with
  | true =>
    refine codeAny_handlers_suite_as ?_
    refine HandSPX.lands_againZ fl3 fun h4 fl4 up4 => ?_
    obtain ⟨oe4, vs4, he4, hz4, hd4⟩ := fl4.there
    have J4 : Inv X pins σ' (upd H' a (exT a cls d)) { s' with heap := h4 } := track (J.landed nb fl4.1 ((up.trans up3).trans up4) os ag) new he4 hz4 hd4 na nL npin
    refine store_ok (X := X.suite a (X.pn ++ pins)) (v := .ref a) (toSuite J4 a) hN hi hloc rfl (fun s5 S5 => ?_) (.inr hln)
    refine wpAny_mono ((hsu a (X.pn ++ pins)).run [] s5 _ _ _ S5 (hyes rfl a na)) (fun f s6 hsp => ?_) (fun _ _ z => False.elim z)
    have end_ : ∀ {σ6 : St} {H6 : Hp} {Q : Shared → Prop}, Inv (X.suite a (X.pn ++ pins)) [] σ6 H6 s6 → (∀ s7, Inv X pins (σ6.set i none) H6 s7 → Q s7) →
        wpAny (model X.prog X.w) X.A (do bindName X.env n .none; unbindBehindTheSuite X.env n pos') (fun _ s7 => Q s7) X.xe s6 := fun {σ6 H6 Q} S6 hq => gone_ok (ofSuite S6 ok) hN hi hln hq
    cases f with
    | next =>
      obtain ⟨σ6, H6, S6, q6⟩ := hsp
      exact end_ S6 fun s7 J7 => ⟨_, _, J7, q6⟩
    | brk =>
      obtain ⟨σ6, H6, S6, q6⟩ := hsp
      exact end_ S6 fun s7 J7 => ⟨_, _, J7, q6⟩
    | cont =>
      obtain ⟨σ6, H6, S6, q6⟩ := hsp
      exact end_ S6 fun s7 J7 => ⟨_, _, J7, q6⟩
    | ret u =>
      obtain ⟨v6, σ6, H6, S6, r6, q6⟩ := hsp
      exact end_ S6 fun s7 J7 => ⟨_, _, _, J7, r6, q6⟩
  | false =>
    show wpAny _ X.A (handleBy (.ref a) X.env []) _ _ _
    refine wpAny_handleBy_nil ?_
    obtain ⟨k1, k2, k3, oe, vs, T, oT, ts', he, hz, hd, h1, hr⟩ := id fl3
    unfold PySem.passOn
    refine wpAny_bind (wpAny_field he hd h1 ?_)
    rw [if_neg (show ¬ ((Value.ref T == Value.none) = true) from by simp)]
    have fin : wpAny (model X.prog X.w) X.A (setFlight (.ref a) X.env.frame) (fun _ s4 => wpAny (model X.prog X.w) X.A (throw (.ref a) : Sem Flow) (SP X pins D) X.xe s4) X.xe { s' with heap := h3 } := by
      rw [hf]
      refine HandSPX.setFlight_upZ fl3 fun h4 hh4 up4 => wpAny_throw (tk _ _ ?_)
      exact ⟨a, B, sI, pins, σ', H', cls, d, rfl, J, nb, (up.trans up3).trans up4, .inr (.inr (by rw [hs]; exact hh4)), na, os, ag, hno rfl⟩
    first
      | exact wpAny_bind (wpAny_pure (wpAny_bind fin))
      | exact wpAny_bind fin
end

/-! ### what is asked of a value's type, exceptions too -/
/-- what K says of an exception class at D, for isinstance and for its fields -/
structure EC (K : PySem.W.Frag) (D : Addr) : Prop where
  cl : (PySem.W.clsIn K D).isSome = true
  ga : PySem.W.findIn K (.ref D) "__getattribute__" = some (some (.builtin "BaseException.__getattribute__"))
  gg : PySem.W.findIn K (.ref D) "__getattr__" = some none
  sb : PySem.W.subIn K (.ref D) (.type "BaseException") = some true
  ca : PySem.W.findIn K (.ref D) "__class__" = some (some (.builtin "object.__class__"))
  cg : PySem.W.specialIn K (.builtin "object.__class__") "__get__" = some (some (.builtin "getset_descriptor.__get__"))
  ct : PySem.W.takesIn K (.builtin "object.__class__") = some true
  ob : PySem.W.mroIn K D (.type "object") = some true
  hd : PySem.W.hasDictIn K D = true
/-- an exception of the class at D with these fields -/
def IsEx (D : Addr) (fs : Option (List (Str × V))) (a : Addr) (H : Hp) : Prop := match fs with
  | none => H a = some (exT a (.ref D) none)
  | some l => ∃ dd, H a = some (exT a (.ref D) (some dd)) ∧ H dd = some (.xd l)
inductive TyM (K : PySem.W.Frag) (H : Hp) : V → Value → Prop where
  | of {x : V} {t : Value} (h : TyX K H x t) : TyM K H x t
  | ex {a D : Addr} {fs : Option (List (Str × V))} (h : IsEx D fs a H) (c : EC K D) : TyM K H (.ref a) (.ref D)
section
variable {X : Cx} {pins : List (Addr × Obj)} {σ : St} {H : Hp} {s : Shared}
theorem ex_inst {a D : Addr} {fs : Option (List (Str × V))} (I : Inv X pins σ H s) (h : IsEx D fs a H) : ∃ ox od, PySem.W.InstAt s.heap a ox D od := by
  have mkI : ∀ {d : Option Addr} {od : Option Obj}, H a = some (exT a (.ref D) d) → (match d with | some dd => ∃ o, s.heap.get? dd = some o ∧ od = some o | none => od = none) → ∃ ox od, PySem.W.InstAt s.heap a ox D od := fun {d od} e k => by
    obtain ⟨oe, vs, ho, ⟨hc, hdd⟩, hv⟩ := exT_at I.hok e
    obtain ⟨oc, odd, oda, osl⟩ := oe
    dsimp only at hc hdd hv
    subst hc hdd hv
    cases odd with
    | none => exact ⟨_, none, ho, rfl, rfl, trivial⟩
    | some dd =>
      obtain ⟨o, h1, h2⟩ := k
      exact ⟨_, some o, ho, rfl, rfl, h1⟩
  cases fs with
  | none => exact mkI (d := none) (od := none) h rfl
  | some l =>
    obtain ⟨dd, h1, h2⟩ := h
    obtain ⟨mA, ⟨o, _, _, e, _⟩, _⟩ := (show ObjOk X.prog X.w H s.heap dd (.xd l) from I.hok dd _ h2)
    exact mkI (d := some dd) (od := some o) h1 ⟨o, e, rfl⟩
theorem kit_ofM {x : V} {u t : Value} (I : Inv X pins σ H s) (rx : RelV x u) (ty : TyM X.K H x t) : ∃ P : Heap → Prop, PySem.W.KitX X.K u t P ∧ P s.heap ∧ u ≠ .builtin "__main__.__loader__#opaque" := by
  cases ty with
  | of h => exact kit_of I rx h
  | @ex a D fs h c =>
    cases (show u = Value.ref a from rx)
    obtain ⟨ox, od, J⟩ := ex_inst I h
    exact ⟨_, PySem.W.kitx_exc c.cl c.ga c.gg c.sb c.ca c.cg c.ct c.ob, J, fun z => nomatch z⟩
end
/-- isinstance(x, c) -/
def rIs (K : PySem.W.Frag) : List V → Hp → VK → Prop := fun xs H Q => ∃ (x c : V) (t u : Value) (b : Bool), xs = [x, c] ∧ ClsV c u ∧ TyM K H x t ∧ PySem.W.kitOne K t u = some b ∧ Q (.bl b) H
/-- isinstance(x, (c, ..)) -/
def rIsT (K : PySem.W.Frag) : List V → Hp → VK → Prop := fun xs H Q => ∃ (x : V) (tp : Addr) (cs : List V) (t : Value) (us : List Value) (b : Bool), xs = [x, .ref tp] ∧ H tp = some (.tup cs) ∧ Paired ClsV cs us ∧ TyM K H x t ∧ PySem.W.kitAny K t us = some b ∧ Q (.bl b) H
section
variable {X : Cx}
theorem cr_is : CallR X (.builtin "isinstance") (rIs X.K) := fun pins s σ H xs us Q I r h => by
  obtain ⟨x, c, t, u, b, rfl, k, ty, e, q⟩ := h
  obtain ⟨u1, u2, rfl, r1, r2⟩ := vals2 r
  obtain rfl := k.eq r2
  obtain ⟨P, Z, p, hx⟩ := kit_ofM I r1 ty
  exact PySem.W.kia_one Z I.kIn p e hx fun tk => ⟨.bl b, H, I.tok tk, rfl, q⟩
theorem cr_isT : CallR X (.builtin "isinstance") (rIsT X.K) := fun pins s σ H xs us Q I r h => by
  obtain ⟨x, tp, cs, t, ws, b, rfl, hT, k, ty, e, q⟩ := h
  obtain ⟨u1, u2, rfl, r1, r2⟩ := vals2 r
  obtain rfl : u2 = Value.ref tp := r2
  obtain ⟨P, Z, p, hx⟩ := kit_ofM I r1 ty
  obtain ⟨_, its, rv, ⟨oc, od, dt, sl⟩, h1, h2, n, h3⟩ := (show ObjOk X.prog X.w H s.heap tp (.tup cs) from I.hok tp _ hT)
  obtain rfl := ClsV.all k rv
  simp only at h2 h3
  subst h2 h3
  exact PySem.W.kia_tup Z I.kIn p h1 e hx fun tk => ⟨.bl b, H, I.tok tk, rfl, q⟩
/-- e.f, e a known exception -/
def tExF (K : PySem.W.Frag) (ta : TE) (f : Str) : TE := fun σ H Q => ta σ H fun x H1 => ∃ a D l v, x = .ref a ∧ IsEx D (some l) a H1 ∧ EC K D ∧ PySem.W.findIn K (.ref D) f = some none ∧ l.lookup f = some v ∧ Q v H1
theorem pe_exf {e : Expr} {te : TE} {pos : Pos} {n : Str} (he : PE X e te) (hb : attributeBase e n X.env (eval e X.env) = eval e X.env := by rfl) : PE X (.Attribute e n pos) (tExF X.K te n) := by
  refine ⟨fun pins s σ H Q I h => ?_⟩
  refine attr_of hb (thn (he.run pins s σ H _ I h) fun u s1 hh => ?_)
  obtain ⟨x, H1, I1, rx, a, D, l, v, rfl, ⟨dd, h1, h2⟩, c, hno, hl, q⟩ := hh
  obtain rfl : u = Value.ref a := rx
  obtain ⟨oe, vs, ho, ⟨hc, hdd⟩, hv⟩ := exT_at I1.hok h1
  obtain ⟨mA, hns, hr⟩ := (show ObjOk X.prog X.w H1 s1.heap dd (.xd l) from I1.hok dd _ h2)
  obtain ⟨od, ho2, hl2⟩ := lookIn_ns hns
  obtain ⟨u, hu, ru⟩ := RelO.some_of (v := v) (o := mA n) (by rw [← hl]; exact hr n)
  have J : PySem.W.InstAt s1.heap a oe D (some od) := ⟨ho, hc, by unfold PySem.W.notCls; rw [hv] <;> rfl, by rw [hdd]; exact ho2⟩
  exact HandSPX.exc_get I1.kIn J c.ga c.gg c.sb (PySem.W.findObj_own c.hd hno rfl (by rw [hl2, hu])) (handed_of ru) ⟨v, H1, I1.tok _, ru, q⟩
end

/-! ### defs called in an except suite (they raise nothing, they loop over nothing) -/
structure RoomW (k : Nat) (A : Around) : Prop where
  dp : A.depth + 3 * k + 5 < recursionLimit
  un : A.units + 16 * k + 200 < cLine
theorem RoomW.mono {j k : Nat} {A : Around} (r : RoomW k A) (h : j ≤ k) : RoomW j A := ⟨by have := r.dp; omega, by have := r.un; omega⟩
theorem RoomW.deeper {k : Nat} {A : Around} (r : RoomW (k + 1) A) (env : Env) : RoomW k (A.deeper env) :=
  ⟨by have := r.dp; show A.depth + 1 + 3 * k + 5 < _; omega, by have := r.un; show A.units + 3 + 16 * k + 200 < _; omega⟩
theorem roomW_of {k : Nat} {A : Around} (r : Room k A) : RoomW k A := ⟨r.dp, r.un⟩
theorem roomW_mark {k : Nat} {A : Around} (r : Room k A) (o : Option Value) : RoomW k (A.mark o) := ⟨r.dp, r.un⟩
/-- a context that is not calm -/
abbrev warm (Y : Cx) (A : Around) : Cx := { Y with A := A, calm := false, xe := fun _ _ => False }
theorem Cx.Ok.warm {Y : Cx} (ok : Y.Ok) {A : Around} (hf : A.frames = Y.A.frames) : (Ms.warm Y A).Ok :=
  ⟨ok.mod, ok.kind, ok.glob, ok.blt, ok.above, ok.inj, ok.has, ok.cab, (fun z => absurd (show false = true from z) Bool.false_ne_true), by rw [← ok.frames]; exact hf, ok.stk, ok.exf, ok.bs, ok.bsz, ok.noex, ok.exfs, ok.funs, ok.frf⟩
theorem inv_warm {Y : Cx} {pins : List (Addr × Obj)} {σ : St} {H : Hp} {s : Shared} (I : Inv Y pins σ H s) {A : Around} (hf : A.frames = Y.A.frames) : Inv (Ms.warm Y A) pins σ H s :=
  ⟨Cx.Ok.warm I.ok hf, I.os, I.bare, I.base, I.loc, I.cell, I.free, I.freeC, I.pin, I.hok, I.len⟩
abbrev CXN : CXT := fun _ _ _ _ _ _ => False
structure FnW (P : Program) (w : World) (K : PySem.W.Frag) (mg : Str → Option Value) (base : Heap) (k : Nat) (f : Addr) (fd : FuncData) (ps : List Str) (sp : Sp) : Prop where
  len : ∀ vs H Q E, sp vs H Q E → vs.length = ps.length
  run : ∀ (A : Around) (outer : List Env) (s : Shared) (H : Hp) (args : Args) (us : List Value) (vs : List V) (Q : VK) (E : XK), RoomW k A → Env0 P w K mg base A outer s H → BindsTo s fd args (ps.zip us) → Vals vs us → sp vs H Q E →
    codeAny (model P w) A (.call (.ref f) args) (CR CXN outer P w H s Q E) s
/-- the context of such a def's body -/
abbrev cxW (P : Program) (w : World) (K : PySem.W.Frag) (mg : Str → Option Value) (base : Heap) (N : List Str) (qual : Str) (scope : Scope) (f : Addr) (cd : Value) (A : Around) (outer : List Env) (s : Shared) (H : Hp) (E : XK) : Cx :=
  warm (cxOf CXN P w K mg base N qual scope f cd { A with handled := none } outer s H E) (A.deeper (envOfC qual scope s.heap.objs.size f cd))
theorem FunD.warm {P : Program} {w : World} {K : PySem.W.Frag} {mg : Str → Option Value} {base : Heap} {x qual : Str} {params : Arguments} {body : List Stmt} {scope : Scope} {dvs : List V} {kws : List (Str × V)} {f : Addr} {fd : FuncData} {N ps : List Str} {k : Nat} {sp : Sp}
    (F : FunD K x qual params body scope dvs kws f fd) (S : FnScope N ps scope) (len : ∀ vs H Q E, sp vs H Q E → vs.length = ps.length)
    (hbody : ∀ (cdv : Value) (A : Around) (outer : List Env) (s : Shared) (H : Hp) (vs : List V) (Q : VK) (E : XK), RoomW k (A.deeper (envOfC qual scope s.heap.objs.size f cdv)) → sp vs H Q E →
      ∃ t, PSs (cxW P w K mg base N qual scope f cdv A outer s H E) body t ∧ t { nx := fun _ H' => Q .non H', rt := Q } (L2.start N vs) H) : FnW P w K mg base (k + 1) f fd ps sp := by
  obtain ⟨oc, od, dV, kV, doc, pm, an, cdv, ct, osl, rfl, lk, hcd, _, _⟩ := F.ex
  refine ⟨len, fun A outer s H args us vs Q E hr e0 hb r hsp => ?_⟩
  have KX : K.In s.heap := e0.mod.kin.keeps fun b o e => (e0.bs b o e).1
  have lim : s.heap.NoLimit := e0.mod.nolimit.keeps fun b o e => (e0.bs b o e).1
  have kinds : ∀ y ∈ ps.zip us, scope.names.lookup y.1 = some .local ∨ (scope.names.lookup y.1 = some .cell ∧ ((cellsFrom (s.heap.objs.size + 1) scope.names []).lookup y.1).isSome = true) := fun y hy => by
    obtain ⟨n, v⟩ := y
    rcases S.par n (List.of_mem_zip hy).1 with q | q
    · exact .inl q
    · exact .inr ⟨q, PySem.W.cellsFrom_some _ _ _ (.inl q)⟩
  have dep : A.depth < recursionLimit := by have := hr.dp; omega
  refine codeAny_call_function dep (KX _ _ lk) rfl S.co S.gen rfl (PySem.W.codeRec_of KX hcd) (hb _ _ _ _ ?_)
  refine wpAny_newFunctionEnv_cells S.kind kinds fun env he s1 x => ?_
  subst he
  refine ⟨lim.keeps x.toInCall.keep, codeAny_func ?_⟩
  obtain ⟨t, ht, hq⟩ := hbody cdv A outer s H vs Q E (hr.deeper _) hsp
  have e1 : Env0 P w K mg base { A with handled := none } outer s H := ⟨e0.frames, e0.mod, e0.bs, e0.bsz, e0.funs, e0.frf, e0.hok, e0.bare⟩
  have I0 := inv_start (CX := CXN) (E := E) S rfl e1 (len _ _ _ _ hsp) r x
  have I : Inv (cxW P w K mg base N qual scope f cdv A outer s H E) [] (L2.start N vs) H s1 := inv_warm I0 rfl
  refine wpAny_mono (ht.run [] s1 (L2.start N vs) H _ I hq) (fun fl s' hs => ?_) fun e s' hs => hs.elim
  have fin : ∀ {σ' : St} {H' : Hp} {v : V} {u : Value}, Inv (cxW P w K mg base N qual scope f cdv A outer s H E) [] σ' H' s' → RelV v u → Q v H' → CE outer P w H s Q u s' :=
    fun {σ' H' v u} J rv q => ⟨v, H', J.os, J.bare, J.base, J.hok, rv, q⟩
  cases fl with
  | ret u =>
    obtain ⟨v, σ', H', J, rv, q⟩ := hs
    exact fin J rv q
  | next =>
    obtain ⟨σ', H', J, q⟩ := hs
    exact fin (v := V.non) (u := Value.none) J rfl q
  | brk =>
    obtain ⟨_, _, _, q⟩ := hs
    exact False.elim q
  | cont =>
    obtain ⟨_, _, _, q⟩ := hs
    exact False.elim q
/-- .. by its name -/
structure WOk (P : Program) (w : World) (K : PySem.W.Frag) (mg : Str → Option Value) (base : Heap) (x : Str) (k : Nat) (sp : Sp) : Prop where
  ex : ∃ fd ps, FnW P w K mg base k (He.ga K x) fd ps sp ∧ Binds K fd ps []
  mg : mg x = some (.ref (He.ga K x))
  kp : PySem.W.keepIn K (.ref (He.ga K x)) = true
section
variable {X : Cx} {k j : Nat} {sp : Sp} {x : Str} {p pos : Pos} {e : Expr} {es : List Expr} {t : TA}
theorem pe_w (F : WOk X.prog X.w X.K X.mg X.base x k sp) (hr : RoomW j X.A) (hk : k ≤ j) (ha : PA X (e :: es) t) (hg : Gl X x := by rfl)
    (hdb : (x == ("__debug__" : Str)) = false := by decide) (he : starEach (e :: es) X.env = (false, eval e X.env) :: starEach es X.env := by rfl) (hpl : (backTo pos (starEach es X.env)).any (·.1) = false := by rfl) :
    PE X (.Call (.Name x p) (e :: es) [] pos) (tCallS sp EN t) := by
  obtain ⟨fd, ps, F1, hb⟩ := F.ex
  refine ⟨fun pins s σ H Q I h => ?_⟩
  refine wpAny_Call_Name_kw (ld_glob I hg F.mg ?_ hdb)
  refine PySem.W.callWith_K (h₀ := X.base) I.ok.mod.kin F.kp (thn (ha.run pos pins s σ H _ I h) fun us s1 ⟨vs, H1, I1, r, q⟩ => ⟨I1.kIn, ?_⟩) he hpl
  have hl : us.length = ps.length := by rw [← r.length]; exact F1.len _ _ _ _ q
  have b := hb s1 us I1.kIn (by rw [List.append_nil]; exact hl)
  rw [List.append_nil] at b
  refine wpAny_call (codeAny_mono (F1.run X.A X.stack s1 H1 ⟨us, []⟩ us vs Q _ (hr.mono hk) I1.env0 b r q) fun r s' hq => ?_)
  cases r with
  | error e => exact False.elim hq
  | ok fl =>
    cases fl with
    | ret u => exact I1.after hq
    | next => exact False.elim hq
    | brk => exact False.elim hq
    | cont => exact False.elim hq
end
end Ms
set_option Elab.async false
set_option linter.all false
set_option maxRecDepth 100000
set_option maxHeartbeats 4000000
/-! Ms, walks: list(zip(s, t)) and enumerate(t) of tuples. -/
namespace MsZ
open PySem RZ
open PySem.Sem (wp)
section
variable {prog : Program} {w : World} {A : Around} {E : Value → Shared → Prop} {s : Shared}
variable {z TI TO T i1 i2 l1 l2 : Addr} {f : Bool} {oT : Obj} {k1 k2 : Nat} {xs ys : Array Value}
/-- a zip of two tuples whose pair T is still out: the next pair -/
theorem held_item {x y : Value} {Q : Option Value → Shared → Prop} (D : ZipApart z TI TO i1 i2 l1 l2) (hz : IsZipHeld s.heap z TI TO T f) (hT : s.heap.get? T = some oT) (hTI : IsPair s.heap TI (.ref i1) (.ref i2))
    (h1 : s.heap.IsTupleIter i1 l1 k1) (h2 : s.heap.IsTupleIter i2 l2 k2) (hl1 : s.heap.IsTuple l1 xs) (hl2 : s.heap.IsTuple l2 ys) (hx : xs[k1]? = some x) (hy : ys[k2]? = some y)
    (hQ : ∀ h', IsZipHeld h' z TI TO T true → h'.IsTupleIter i1 l1 (k1 + 1) → h'.IsTupleIter i2 l2 (k2 + 1) → IsPair h' s.heap.objs.size x y → h'.objs.size = s.heap.objs.size + 1 →
      (∀ c o, c ≠ z → c ≠ i1 → c ≠ i2 → s.heap.get? c = some o → h'.get? c = some o) → Q (some (.ref s.heap.objs.size)) { s with heap := h' }) :
    wpAny (model prog w) A (pyNext (.ref z)) Q E s := by
  have ty : s.TypeIs (.ref z) "zip" := ⟨_, hz, rfl⟩
  unfold pyNext
  refine wpAny_bind (wpAny_attempt (wpAny_callSpecial?_slot (name := Str.ofString "__next__") ty F.slot_zip_next (wpAny_call_entry F.slot_zip_next ty F.entry_zip_next ?_ (F.args_zip_next_1 _))))
  show wpAny _ _ (field (.ref z) 2 >>= _) _ _ _
  refine wpAny_bind (wpAny_field hz rfl (x := .bool false) rfl ?_)
  show wpAny _ _ (field (.ref z) 3 >>= _) _ _ _
  refine wpAny_bind (wpAny_field hz rfl (x := .ref TI) rfl (wpAny_bind (wpAny_seqItems hTI rfl ?_)))
  show wpAny _ _ (Builtin.SmallTypes.ownedTupleIsFree (.ref z) >>= _) _ _ _
  refine wpAny_bind (wpAny_tupleHeld_zip hz hT fun g1 hz1 b1 => ?_)
  simp only [Bool.false_eq_true, if_false]
  rw [← Array.forIn_toList]
  simp only [List.forIn_cons, List.forIn_nil]
  refine wpAny_bind (wpAny_bind (wpAny_bind (wpAny_holding ?_)))
  show wpAny _ _ (Builtin.SmallTypes.nextOf (.ref i1) >>= _) _ _ _
  refine wpAny_bind (nextOf_tuple_item (s := { s with heap := g1 }) (h1.extBut b1.extBut D.i1z) (hl1.extBut b1.extBut D.l1z) hx fun g2 n1 b2 => wpAny_pure (wpAny_pure (wpAny_bind (wpAny_bind (wpAny_holding ?_)))))
  show wpAny _ _ (Builtin.SmallTypes.nextOf (.ref i2) >>= _) _ _ _
  refine wpAny_bind (nextOf_tuple_item (s := { s with heap := g2 }) ((h2.extBut b1.extBut D.i2z).extBut b2.extBut D.i12.symm) ((hl2.extBut b1.extBut D.l2z).extBut b2.extBut D.l2i1) hy fun g3 n2 b3 => wpAny_pure (wpAny_pure (wpAny_pure ?_)))
  show wpAny _ _ (newTuple [x, y] >>= _) _ _ _
  refine wpAny_bind (wpAny_newTuple (wpAny_pure ⟨_, rfl, wpAny_pure ?_⟩))
  have sz : g3.objs.size = s.heap.objs.size := by rw [b3.1, b2.1, b1.1]
  have hz3 : IsZipHeld g3 z TI TO T true := b3.extBut _ _ D.i2z.symm (b2.extBut _ _ D.i1z.symm hz1)
  have n13 : g3.IsTupleIter i1 l1 (k1 + 1) := n1.extBut b3.extBut D.i12
  have pr : IsPair (g3.push { cls := .type "tuple", data := .seq #[x, y] }) g3.objs.size x y := Heap.get?_push_size _ rfl
  have sz4 : (g3.push { cls := .type "tuple", data := .seq #[x, y] }).objs.size = g3.objs.size + 1 := Heap.size_push ..
  show Q (some (.ref g3.objs.size)) _
  rw [sz] at pr sz4 ⊢
  exact hQ _ (Heap.get?_push_of_some _ hz3) (n13.at fun o e => Heap.get?_push_of_some _ e) (n2.at fun o e => Heap.get?_push_of_some _ e) pr sz4 fun c o c1 c2 c3 e => Heap.get?_push_of_some _ (b3.extBut _ _ c3 (b2.extBut _ _ c2 (b1.extBut _ _ c1 e)))
/-- .. no further pair -/
theorem held_end {Q : Option Value → Shared → Prop} (hh : A.handled = none) (D : ZipApart z TI TO i1 i2 l1 l2) (hz : IsZipHeld s.heap z TI TO T f) (hT : s.heap.get? T = some oT) (hTI : IsPair s.heap TI (.ref i1) (.ref i2))
    (h1 : s.heap.IsTupleIter i1 l1 k1) (hl1 : s.heap.IsTuple l1 xs) (hx : xs[k1]? = none)
    (hQ : ∀ h', (∀ c o, c ≠ z → c ≠ i1 → c ≠ i2 → s.heap.get? c = some o → h'.get? c = some o) → Q none { s with heap := h' }) : wpAny (model prog w) A (pyNext (.ref z)) Q E s := by
  have ty : s.TypeIs (.ref z) "zip" := ⟨_, hz, rfl⟩
  unfold pyNext
  refine wpAny_bind (wpAny_attempt (wpAny_callSpecial?_slot (name := Str.ofString "__next__") ty F.slot_zip_next (wpAny_call_entry F.slot_zip_next ty F.entry_zip_next ?_ (F.args_zip_next_1 _))))
  show wpAny _ _ (field (.ref z) 2 >>= _) _ _ _
  refine wpAny_bind (wpAny_field hz rfl (x := .bool false) rfl ?_)
  show wpAny _ _ (field (.ref z) 3 >>= _) _ _ _
  refine wpAny_bind (wpAny_field hz rfl (x := .ref TI) rfl (wpAny_bind (wpAny_seqItems hTI rfl ?_)))
  show wpAny _ _ (Builtin.SmallTypes.ownedTupleIsFree (.ref z) >>= _) _ _ _
  refine wpAny_bind (wpAny_tupleHeld_zip hz hT fun g1 hz1 b1 => ?_)
  simp only [Bool.false_eq_true, if_false]
  rw [← Array.forIn_toList]
  simp only [List.forIn_cons, List.forIn_nil]
  refine wpAny_bind (wpAny_bind (wpAny_bind (wpAny_holding ?_)))
  show wpAny _ _ (Builtin.SmallTypes.nextOf (.ref i1) >>= _) _ _ _
  refine wpAny_bind (nextOf_tuple_end (s := { s with heap := g1 }) hh (h1.extBut b1.extBut D.i1z) (hl1.extBut b1.extBut D.l1z) hx fun g2 e b2 he => ?_)
  obtain ⟨o, ho, hc⟩ := he
  refine wpAny_bind (wpAny_isInstance (T := "StopIteration") (b := true) ⟨o, ho, hc⟩ isSubtype_stop ?_)
  exact wpAny_pure (hQ _ fun c o c1 c2 _ x => b2 _ _ c2 (b1.extBut _ _ c1 x))
end

/-- how far a zip has gone: nothing is out yet, or a pair T is -/
def St (h : Heap) (z TI TO i1 i2 l1 l2 S : Addr) (i : Nat) : Prop :=
  IsPair h TI (.ref i1) (.ref i2) ∧ h.IsTupleIter i1 l1 i ∧ h.IsTupleIter i2 l2 i ∧
    ((IsZip h z TI TO .none ∧ ∃ a b, IsPair h TO a b) ∨ ∃ T f oT, IsZipHeld h z TI TO T f ∧ h.get? T = some oT ∧ T ≠ z ∧ T ≠ i1 ∧ T ≠ i2 ∧ T ≠ S)
section
variable {prog : Program} {w : World} {A : Around} {E : Value → Shared → Prop} {s : Shared} {z TI TO i1 i2 l1 l2 S : Addr} {i : Nat} {xs ys : Array Value}
theorem St.at {h h' : Heap} (st : St h z TI TO i1 i2 l1 l2 S i) (nS : z ≠ S ∧ TI ≠ S ∧ TO ≠ S ∧ i1 ≠ S ∧ i2 ≠ S) (k : ∀ b o, b ≠ S → h.get? b = some o → h'.get? b = some o) : St h' z TI TO i1 i2 l1 l2 S i := by
  obtain ⟨a1, a2, a3, a4⟩ := st
  obtain ⟨n1, n2, n3, n4, n5⟩ := nS
  refine ⟨k _ _ n2 a1, a2.at fun o q => k _ o n4 q, a3.at fun o q => k _ o n5 q, ?_⟩
  rcases a4 with ⟨b1, a, b, b2⟩ | ⟨T, f, oT, b1, b2, c1, c2, c3, c4⟩
  · exact .inl ⟨k _ _ n1 b1, a, b, k _ _ n3 b2⟩
  · exact .inr ⟨T, f, oT, k _ _ n1 b1, k _ _ c4 b2, c1, c2, c3, c4⟩
theorem next_item {x y : Value} {Q : Option Value → Shared → Prop} (D : ZipApart z TI TO i1 i2 l1 l2) (st : St s.heap z TI TO i1 i2 l1 l2 S i) (hS : S < s.heap.objs.size)
    (hl1 : s.heap.IsTuple l1 xs) (hl2 : s.heap.IsTuple l2 ys) (hx : xs[i]? = some x) (hy : ys[i]? = some y)
    (hQ : ∀ h', St h' z TI TO i1 i2 l1 l2 S (i + 1) → IsPair h' s.heap.objs.size x y → (∀ c o, c ≠ z → c ≠ TO → c ≠ i1 → c ≠ i2 → s.heap.get? c = some o → h'.get? c = some o) → Q (some (.ref s.heap.objs.size)) { s with heap := h' }) :
    wpAny (model prog w) A (pyNext (.ref z)) Q E s := by
  obtain ⟨a1, a2, a3, a4⟩ := st
  have lt1 : i1 < s.heap.objs.size := by obtain ⟨_, e, _⟩ := a2; exact Heap.lt_size e
  have lt2 : i2 < s.heap.objs.size := by obtain ⟨_, e, _⟩ := a3; exact Heap.lt_size e
  rcases a4 with ⟨b1, a, b, b2⟩ | ⟨T, f, oT, b1, b2, c1, c2, c3, c4⟩
  · refine pyNext_zipT_item D b1 a1 b2 a2 a3 hl1 hl2 hx hy fun h' q1 q2 q3 q4 q5 q6 q7 => ?_
    refine hQ h' ⟨q7 _ _ D.TIz D.TITO D.TIi1 D.TIi2 a1, q3, q4, .inr ⟨_, false, _, q1, q5, Nat.ne_of_gt (Heap.lt_size b1), Nat.ne_of_gt lt1, Nat.ne_of_gt lt2, Nat.ne_of_gt hS⟩⟩ q5 q7
  · refine held_item D b1 b2 a1 a2 a3 hl1 hl2 hx hy fun h' q1 q3 q4 q5 q6 q7 => ?_
    exact hQ h' ⟨q7 _ _ D.TIz D.TIi1 D.TIi2 a1, q3, q4, .inr ⟨T, true, oT, q1, q7 _ _ c1 c2 c3 b2, c1, c2, c3, c4⟩⟩ q5 fun c o d1 _ d3 d4 e => q7 c o d1 d3 d4 e
theorem next_end {Q : Option Value → Shared → Prop} (hh : A.handled = none) (D : ZipApart z TI TO i1 i2 l1 l2) (st : St s.heap z TI TO i1 i2 l1 l2 S i)
    (hl1 : s.heap.IsTuple l1 xs) (hl2 : s.heap.IsTuple l2 ys) (hx : xs[i]? = none)
    (hQ : ∀ h', (∀ c o, c ≠ z → c ≠ TO → c ≠ i1 → c ≠ i2 → s.heap.get? c = some o → h'.get? c = some o) → Q none { s with heap := h' }) : wpAny (model prog w) A (pyNext (.ref z)) Q E s := by
  obtain ⟨a1, a2, a3, a4⟩ := st
  rcases a4 with ⟨b1, a, b, b2⟩ | ⟨T, f, oT, b1, b2, c1, c2, c3, c4⟩
  · exact pyNext_zipT_end hh D b1 a1 b2 a2 a3 hl1 hl2 (.inl hx) hQ
  · exact held_end hh D b1 b2 a1 a2 hl1 hx fun h' k => hQ h' fun c o d1 _ d3 d4 e => k c o d1 d3 d4 e

/-- the pairs made so far -/
structure Got (xs ys : Array Value) (lo : Addr) (h : Heap) (as : List Addr) : Prop where
  rise : as.Pairwise (· < ·)
  above : ∀ a ∈ as, lo < a
  pairs : ∀ (j : Nat) (a : Addr), as[j]? = some a → ∃ x y, xs[j]? = some x ∧ ys[j]? = some y ∧ IsPair h a x y
theorem Got.there {lo : Addr} {h : Heap} {as : List Addr} (g : Got xs ys lo h as) {a : Addr} (ha : a ∈ as) : a < h.objs.size := by
  obtain ⟨j, hj⟩ := List.mem_iff_getElem?.mp ha
  obtain ⟨_, _, _, _, e⟩ := g.pairs j a hj
  exact Heap.lt_size e
theorem loop {R : Result → Shared → Prop} (hh : A.handled = none) (D : ZipApart z TI TO i1 i2 l1 l2) (nS : z ≠ S ∧ TI ≠ S ∧ TO ≠ S ∧ i1 ≠ S ∧ i2 ≠ S) (nl : l1 ≠ S ∧ l2 ≠ S ∧ l1 ≠ TO ∧ l2 ≠ TO) (sz : xs.size = ys.size) (hn : xs.size ≤ sizeLine) (res : Value) {g0 : Heap} {lo : Addr} (hlo : z ≤ lo ∧ TO ≤ lo ∧ i1 ≤ lo ∧ i2 ≤ lo ∧ S ≤ lo)
    (hR : ∀ h' tk acc c as, (∀ b o, b ≠ S → b ≠ z → b ≠ TO → b ≠ i1 → b ≠ i2 → g0.get? b = some o → h'.get? b = some o) → h'.get? S = some { cls := .type "list", dict := none, data := .seq acc c, slots := #[] } → as.length = xs.size → Got xs ys lo h' as →
      acc.toList = as.map Value.ref → R (.ok (.ret res)) { s with heap := h', toks := tk }) :
    ∀ (k i : Nat) (h : Heap) (tk c : Nat) (acc : Array Value) (as : List Addr), xs.size - i = k → i ≤ xs.size → St h z TI TO i1 i2 l1 l2 S i → h.IsTuple l1 xs → h.IsTuple l2 ys → (∀ b o, b ≠ S → b ≠ z → b ≠ TO → b ≠ i1 → b ≠ i2 → g0.get? b = some o → h.get? b = some o) →
      h.get? S = some { cls := .type "list", dict := none, data := .seq acc c, slots := #[] } → acc.toList = as.map Value.ref → as.length = i → Got xs ys lo h as → lo < h.objs.size →
      codeAny (model prog w) A (.builtin "list.extend.loop" ⟨[.ref S, .ref z, res], []⟩) R { s with heap := h, toks := tk } := by
  obtain ⟨o1, o2, o3, o4, o5⟩ := hlo
  intro k
  induction k with
  | zero =>
    intro i h tk c acc as hk hi st e1 e2 keep hS hacc hal G hlt
    refine codeAny_builtin PySem.F.entry_extend_loop ?_
    rw [Around.under_plainId PySem.F.plain_extend_loop _]
    show wpAny _ A.in1 (pyNext (.ref z) >>= _) _ _ _
    refine wpAny_bind (next_end (s := { s with heap := h, toks := tk }) (A := A.in1) hh D st e1 e2 (by simp; omega) fun h' kp => ?_)
    obtain ⟨n1, n2, n3, n4, n5⟩ := nS
    refine wpAny_pure (hR h' tk acc c as (fun b o c1 c2 c3 c4 c5 e => kp b o c2 c3 c4 c5 (keep b o c1 c2 c3 c4 c5 e)) (kp S _ n1.symm n3.symm n4.symm n5.symm hS) (by omega) ⟨G.rise, G.above, fun j a hj => ?_⟩ hacc)
    obtain ⟨x, y, q1, q2, q3⟩ := G.pairs j a hj
    have la := G.above a (List.mem_of_getElem? hj)
    exact ⟨x, y, q1, q2, kp a _ (Nat.ne_of_gt (Nat.lt_of_le_of_lt o1 la)) (Nat.ne_of_gt (Nat.lt_of_le_of_lt o2 la)) (Nat.ne_of_gt (Nat.lt_of_le_of_lt o3 la)) (Nat.ne_of_gt (Nat.lt_of_le_of_lt o4 la)) q3⟩
  | succ k ih =>
    intro i h tk c acc as hk hi st e1 e2 keep hS hacc hal G hlt
    have ilt : i < xs.size := by omega
    have ilt2 : i < ys.size := by omega
    have asz : acc.size = i := by rw [← Array.length_toList, hacc, List.length_map, hal]
    have hSl : S < h.objs.size := Heap.lt_size hS
    refine codeAny_builtin PySem.F.entry_extend_loop ?_
    rw [Around.under_plainId PySem.F.plain_extend_loop _]
    show wpAny _ A.in1 (pyNext (.ref z) >>= _) _ _ _
    refine wpAny_bind (next_item (s := { s with heap := h, toks := tk }) D st hSl e1 e2 (x := xs[i]) (y := ys[i]) (by simp [ilt]) (by simp [ilt2]) fun h' st' pr kp => ?_)
    dsimp only at pr kp ⊢
    obtain ⟨n1, n2, n3, n4, n5⟩ := id nS
    have hS' := kp S _ n1.symm n3.symm n4.symm n5.symm hS
    have up : ∀ b o, b ≠ S → h'.get? b = some o → (h'.update S (Obj.mapSeq (·.push (Value.ref h.objs.size)))).get? b = some o := fun b o hb e => (Heap.get?_update_other _ _ (Ne.symm hb)).trans e
    have tup : ∀ {l : Addr} {vs : Array Value}, l ≠ S → l ≠ z → l ≠ TO → l ≠ i1 → l ≠ i2 → h.IsTuple l vs → (h'.update S (Obj.mapSeq (·.push (Value.ref h.objs.size)))).IsTuple l vs := fun {l vs} d1 d2 d3 d4 d5 q => q.at fun o e => up l o d1 (kp l o d2 d3 d4 d5 e)
    show wpAny _ A.in1 (updateSeq S (·.push (Value.ref h.objs.size)) >>= _) _ _ _
    refine wpAny_bind ?_
    refine wpAny_updateSeq hS' rfl (wpAny_pure ⟨plainId_quiet PySem.F.plain_extend_loop _, ih (i + 1) _ tk _ (acc.push (Value.ref h.objs.size)) (as ++ [h.objs.size]) (by omega) ilt (st'.at nS up)
      (tup nl.1 D.l1z nl.2.2.1 D.l1i1 D.l1i2 e1) (tup nl.2.1 D.l2z nl.2.2.2 D.l2i1 D.l2i2 e2) (fun b o c1 c2 c3 c4 c5 e => up b o c1 (kp b o c2 c3 c4 c5 (keep b o c1 c2 c3 c4 c5 e))) (Heap.get?_update_self _ hS' rfl)
      (by rw [Array.toList_push, hacc, List.map_append]; rfl) (by rw [List.length_append, hal]; rfl) ⟨?_, ?_, ?_⟩ ?_⟩) (by rw [asz]; omega) (by show (acc.push (Value.ref h.objs.size)).size ≤ sizeLine + 1; rw [Array.size_push, asz]; omega)
    · refine List.pairwise_append.mpr ⟨G.rise, List.pairwise_singleton _ _, fun a ha b hb => ?_⟩
      rw [List.mem_singleton.mp hb]
      exact G.there ha
    · intro a ha
      rcases List.mem_append.mp ha with ha | ha
      · exact G.above a ha
      · rw [List.mem_singleton.mp ha]
        exact hlt
    · intro j b hj
      rcases Nat.lt_trichotomy j as.length with h1 | h1 | h1
      · rw [List.getElem?_append_left h1] at hj
        obtain ⟨x, y, q1, q2, q3⟩ := G.pairs j b hj
        have lb := G.above b (List.mem_of_getElem? hj)
        exact ⟨x, y, q1, q2, up b _ (Nat.ne_of_gt (Nat.lt_of_le_of_lt o5 lb)) (kp b _ (Nat.ne_of_gt (Nat.lt_of_le_of_lt o1 lb)) (Nat.ne_of_gt (Nat.lt_of_le_of_lt o2 lb)) (Nat.ne_of_gt (Nat.lt_of_le_of_lt o3 lb)) (Nat.ne_of_gt (Nat.lt_of_le_of_lt o4 lb)) q3)⟩
      · subst h1
        obtain rfl : h.objs.size = b := by simpa using hj
        exact ⟨xs[as.length]'(by omega), ys[as.length]'(by omega), by simp, by simp, up _ _ (Nat.ne_of_gt hSl) (by simpa [hal] using pr)⟩
      · have hnone : (as ++ [h.objs.size])[j]? = none := List.getElem?_eq_none (by rw [List.length_append, List.length_singleton]; omega)
        rw [hnone] at hj
        cases hj
    · have e : (h'.update S (Obj.mapSeq (·.push (Value.ref h.objs.size)))).get? h.objs.size = _ := up _ _ (Nat.ne_of_gt hSl) pr
      exact Nat.lt_trans hlt (Heap.lt_size e)
end

/-! ### list(z) -/
theorem nz1 {a N S : Nat} (h : a < N) (q : N + 5 ≤ S) : a ≠ S := by omega
theorem nz2 {a N : Nat} (k : Nat) (h : a < N) : a ≠ N + k := by omega
theorem nz3 {b N : Nat} (k : Nat) (hk : k < 5) (h : b < N ∨ N + 5 ≤ b) : b ≠ N + k := by omega
theorem nz4 {b N S : Nat} (h : b < N + 5) (q : N + 5 ≤ S) : b ≠ S := by omega
theorem no_len : typeLookup (.type "zip") "__len__" = pure none := am_miss_of_fast (by decide +kernel)
theorem no_hint : typeLookup (.type "zip") "__length_hint__" = pure none := am_miss_of_fast (by decide +kernel)
section
variable {prog : Program} {w : World} {A : Around} {E : Value → Shared → Prop} {s : Shared} {z TI TO i1 i2 l1 l2 : Addr} {xs ys : Array Value}
theorem hint {Q : Bool → Shared → Prop} (hT : s.TypeIs (.ref z) "zip") (h : Q true s) : wpAny (model prog w) A (Builtin.List.listLengthHint (.ref z)) Q E s := by
  unfold Builtin.List.listLengthHint
  refine wpAny_bind (wpAny_specialOf hT no_len ?_)
  show wpAny _ _ (specialOf (.ref z) "__length_hint__" >>= _) _ _ _
  exact wpAny_bind (wpAny_specialOf hT no_hint (wpAny_pure h))
/-- what stands ahead of list(z): the zip is new, its parts lie just below it -/
structure Fresh (h : Heap) (N : Nat) (l1 l2 : Addr) (xs ys : Array Value) : Prop where
  z : IsZip h (N + 4) (N + 2) (N + 3) .none
  ti : IsPair h (N + 2) (.ref N) (.ref (N + 1))
  to : ∃ a b, IsPair h (N + 3) a b
  a1 : h.IsTupleIter N l1 0
  a2 : h.IsTupleIter (N + 1) l2 0
  b1 : h.IsTuple l1 xs
  b2 : h.IsTuple l2 ys
  sz : N + 5 ≤ h.objs.size
  lt : l1 < N ∧ l2 < N
  eq : xs.size = ys.size
  le : xs.size ≤ sizeLine
theorem Fresh.keeps {h h' : Heap} {N : Nat} (F : Fresh h N l1 l2 xs ys) (k : ∀ b o, b < N + 5 → h.get? b = some o → h'.get? b = some o) (sz : N + 5 ≤ h'.objs.size) : Fresh h' N l1 l2 xs ys := by
  obtain ⟨a, b, q⟩ := F.to
  have e : ∀ {b : Addr} {o : Obj}, b < N + 5 → h.get? b = some o → h'.get? b = some o := fun {b o} c d => k b o c d
  obtain ⟨m1, m2⟩ := F.lt
  exact ⟨e (Nat.lt_succ_self (N + 4)) F.z, e (show (N + 2 : Nat) < N + 5 by omega) F.ti, ⟨a, b, e (show (N + 3 : Nat) < N + 5 by omega) q⟩, F.a1.at fun o y => e (show (N : Nat) < N + 5 by omega) y, F.a2.at fun o y => e (show (N + 1 : Nat) < N + 5 by omega) y,
    F.b1.at fun o y => e (show l1 < N + 5 from Nat.lt_of_lt_of_le m1 (by omega)) y, F.b2.at fun o y => e (show l2 < N + 5 from Nat.lt_of_lt_of_le m2 (by omega)) y, sz, F.lt, F.eq, F.le⟩
theorem Fresh.apart {h : Heap} {N : Nat} (F : Fresh h N l1 l2 xs ys) : ZipApart (N + 4) (N + 2) (N + 3) N (N + 1) l1 l2 := PySem.W.ktu_apart N l1 l2 F.lt.1 F.lt.2
theorem extend {R : Result → Shared → Prop} {N : Nat} {S : Addr} (hh : A.handled = none) (F : Fresh s.heap N l1 l2 xs ys) (hS0 : N + 5 ≤ S) (res : Value) (c₀ : Nat) (hS : s.heap.get? S = some { cls := .type "list", data := .seq #[] c₀ })
    (hR : ∀ h' tk acc c as, (∀ b o, b ≠ S → b < N ∨ N + 5 ≤ b → s.heap.get? b = some o → h'.get? b = some o) → h'.get? S = some { cls := .type "list", dict := none, data := .seq acc c, slots := #[] } → as.length = xs.size → Got xs ys S h' as →
      acc.toList = as.map Value.ref → R (.ok (.ret res)) { s with heap := h', toks := tk }) :
    wpAny (model prog w) A.in1 (Builtin.List.listExtendWith (.ref S) (.ref (N + 4)) res)
      (fun fin s' => match fin with | .done f => R (.ok f) s' | .again c' => c'.quiet = true ∧ codeAny (model prog w) A c' R s') (fun e s' => R (.error e) s') s := by
  have hSl : S < s.heap.objs.size := Heap.lt_size hS
  have ty : ∀ {h : Heap} {g d t os}, IsZip h (N + 4) (N + 2) (N + 3) .none → (⟨h, g, d, t, os⟩ : Shared).TypeIs (.ref (N + 4)) "zip" := fun q => ⟨_, q, rfl⟩
  have nS : ((N + 4 : Nat) : Addr) ≠ S ∧ ((N + 2 : Nat) : Addr) ≠ S ∧ ((N + 3 : Nat) : Addr) ≠ S ∧ (N : Addr) ≠ S ∧ ((N + 1 : Nat) : Addr) ≠ S := by
    have q : N + 5 ≤ S := hS0
    refine ⟨?_, ?_, ?_, ?_, ?_⟩ <;> (show (_ : Nat) ≠ S; omega)
  have m1 : l1 < N := F.lt.1
  have m2 : l2 < N := F.lt.2
  have nl : l1 ≠ S ∧ l2 ≠ S ∧ l1 ≠ ((N + 3 : Nat) : Addr) ∧ l2 ≠ ((N + 3 : Nat) : Addr) := ⟨nz1 m1 hS0, nz1 m2 hS0, nz2 3 m1, nz2 3 m2⟩
  have lo : ((N + 4 : Nat) : Addr) ≤ S ∧ ((N + 3 : Nat) : Addr) ≤ S ∧ (N : Addr) ≤ S ∧ ((N + 1 : Nat) : Addr) ≤ S ∧ S ≤ S := by
    have q : N + 5 ≤ S := hS0
    refine ⟨?_, ?_, ?_, ?_, Nat.le_refl _⟩ <;> (show (_ : Nat) ≤ S; omega)
  have key : ∀ (h : Heap) (c₁ tk : Nat), (∀ b o, b ≠ S → s.heap.get? b = some o → h.get? b = some o) → S < h.objs.size →
      h.get? S = some { cls := .type "list", data := .seq #[] c₁ } → codeAny (model prog w) A (.builtin "list.extend.loop" ⟨[.ref S, .ref (N + 4), res], []⟩) R { s with heap := h, toks := tk } := by
    intro h c₁ tk hk hs1 hS₁
    obtain ⟨a, b, to⟩ := F.to
    refine loop (s := s) (g0 := s.heap) (lo := S) hh F.apart nS nl F.eq F.le res lo (fun h' tk' acc c as kp hS' hl G hacc => hR h' tk' acc c as (fun b o hb hr e => ?_) hS' hl G hacc) xs.size 0 h tk c₁ #[] [] (Nat.sub_zero _) (Nat.zero_le _)
      (St.at (h := s.heap) ⟨F.ti, F.a1, F.a2, .inl ⟨F.z, a, b, to⟩⟩ nS hk) (F.b1.at fun o e => hk l1 o nl.1 e) (F.b2.at fun o e => hk l2 o nl.2.1 e) (fun b o hb _ _ _ _ e => hk b o hb e) hS₁ rfl rfl
      ⟨List.Pairwise.nil, (fun _ ha => nomatch ha), (fun j a hj => by simp at hj)⟩ hs1
    exact kp b o hb (nz3 4 (by decide) hr) (nz3 3 (by decide) hr) (nz3 0 (by decide) hr) (nz3 1 (by decide) hr) e
  unfold Builtin.List.listExtendWith
  refine wpAny_bind (wpAny_typeOf (T := "zip") ⟨_, F.z, rfl⟩ ?_)
  have h1 : Builtin.List.listSameRef (.ref S) (.ref (N + 4)) = false := by
    have q : S ≠ ((N + 4 : Nat) : Addr) := nS.1.symm
    simp [Builtin.List.listSameRef]
    exact q
  have h2 : (Value.type "zip" == Value.type "list") = false := by decide
  have h3 : (Value.type "zip" == Value.type "tuple") = false := by decide
  simp only [h1, h2, h3, Bool.or_false, Bool.false_eq_true, if_false]
  refine wpAny_bind (wpAny_pyIter_zip F.z ?_)
  refine wpAny_bind (wpAny_holding (hint ⟨_, F.z, rfl⟩ ?_))
  refine wpAny_ite_split (fun _ => ?_) (fun hab => absurd rfl hab)
  refine wpAny_bind (wpAny_rule (wpAny_bind ?_))
  show wpAny _ _ (updateSeq S (·.push .none) >>= fun _ => updateSeq S (·.pop)) _ _ _
  refine wpAny_bind (wpAny_updateSeq hS rfl ?_)
  have hS₂ := Heap.get?_update_self (Obj.mapSeq (·.push Value.none)) hS rfl
  refine wpAny_updateSeq (hz := by seq_fits) hS₂ rfl ?_
  have hS₃ := Heap.get?_update_self (Obj.mapSeq (·.pop)) hS₂ rfl
  refine wpAny_pure ⟨plainId_quiet PySem.F.plain_extend_loop _, key _ _ _ (fun b o hb e => ?_) ?_ hS₃⟩
  · exact (Heap.get?_update_other _ _ (Ne.symm hb)).trans ((Heap.get?_update_other _ _ (Ne.symm hb)).trans e)
  · exact Heap.lt_size hS₃
theorem call_list_zip {Q : Value → Shared → Prop} {N : Nat} (hh : A.handled = none) (F : Fresh s.heap N l1 l2 xs ys)
    (hQ : ∀ h' tk acc c as, (∀ b o, b < N ∨ N + 5 ≤ b → s.heap.get? b = some o → h'.get? b = some o) → h'.get? s.heap.objs.size = some { cls := .type "list", dict := none, data := .seq acc c, slots := #[] } → as.length = xs.size → Got xs ys s.heap.objs.size h' as →
      acc.toList = as.map Value.ref → Q (.ref s.heap.objs.size) { s with heap := h', toks := tk }) :
    wpAny (model prog w) A (call (.type "list") [.ref (N + 4)]) Q E s := by
  refine callType_codes (Q₁ := fun obj s₁ => obj = .ref s.heap.objs.size ∧ s₁ = { s with heap := s.heap.push { cls := .type "list", data := .seq #[] } }) PySem.F.called_list (PySem.F.typeCall_list_1 _) PySem.F.entry_list_init
    (code_list_new _ ⟨rfl, rfl⟩) fun obj s₁ h₁ => ?_
  obtain ⟨rfl, rfl⟩ := h₁
  have hS : (s.heap.push { cls := .type "list", data := .seq #[] }).get? s.heap.objs.size = some { cls := .type "list", data := .seq #[] } := Heap.get?_push_size _ rfl
  have big : N + 5 ≤ s.heap.objs.size := F.sz
  have F1 : Fresh (s.heap.push { cls := .type "list", data := .seq #[] }) N l1 l2 xs ys := F.keeps (fun b o _ e => Heap.get?_push_of_some _ e) (by rw [Heap.size_push]; omega)
  refine ⟨⟨_, hS, rfl⟩, PySem.F.args_list_init_2 _ _, ?_⟩
  show wpAny _ _ (do let old ← Builtin.List.listItems (.ref s.heap.objs.size); Builtin.List.listUpdate (.ref s.heap.objs.size) (fun _ => #[]); letGo old.toList.reverse; Builtin.List.listExtendWith (.ref s.heap.objs.size) (.ref (N + 4)) .none) _ _ _
  refine wpAny_bind ?_
  unfold Builtin.List.listItems
  refine wpAny_bind (wpAny_seqItems hS rfl (wpAny_pure ?_))
  show wpAny _ _ (updateSeq s.heap.objs.size (fun _ => #[]) >>= fun _ => letGo (#[] : Array Value).toList.reverse >>= fun _ => Builtin.List.listExtendWith (.ref s.heap.objs.size) (.ref (N + 4)) .none) _ _ _
  refine wpAny_bind (wpAny_updateSeq hS rfl ?_)
  have hS₂ := Heap.get?_update_self (Obj.mapSeq (fun _ => (#[] : Array Value))) hS rfl
  have oth : ∀ b o, b ≠ s.heap.objs.size → (s.heap.push { cls := .type "list", data := .seq #[] }).get? b = some o → ((s.heap.push { cls := .type "list", data := .seq #[] }).update s.heap.objs.size (Obj.mapSeq (fun _ => (#[] : Array Value)))).get? b = some o :=
    fun b o hb e => (Heap.get?_update_other _ _ (Ne.symm hb)).trans e
  refine wpAny_bind (wpAny_letGo ?_)
  refine extend (A := A.in1) (N := N) (S := s.heap.objs.size) hh (F1.keeps (fun b o hb e => oth b o ?_ e) ?_) big .none _ hS₂ fun h' tk acc c as hk hS' hl G hacc => ⟨rfl, hQ h' tk acc c as (fun b o hb e => ?_) hS' hl G hacc⟩
  · exact nz4 hb big
  · exact Nat.le_trans big (Nat.le_of_lt (Heap.lt_size hS₂))
  · have nb : b ≠ s.heap.objs.size := Nat.ne_of_lt (Heap.lt_size e)
    exact hk b o nb hb (oth b o nb (Heap.get?_push_of_some _ e))
end
end MsZ
set_option Elab.async false
set_option linter.all false
set_option maxRecDepth 100000
set_option maxHeartbeats 4000000
/-! Ms: list(zip(s, t)) of two tuples. -/
namespace Ms
open PySem PySem.Spec PyProof.Rows L2
/-- pairs tracked at their addresses -/
def putP : Hp → List Addr → List (V × V) → Hp
  | H, a :: as, p :: ps => putP (upd H a (.tup [p.1, p.2])) as ps
  | H, _, _ => H
theorem putP_off {b : Addr} : ∀ (as : List Addr) (ps : List (V × V)) (H : Hp), b ∉ as → putP H as ps b = H b
  | [], _, _, _ => rfl
  | _ :: _, [], _, _ => rfl
  | a :: as, p :: ps, H, h => by
    show putP (upd H a (.tup [p.1, p.2])) as ps b = H b
    rw [putP_off as ps _ (fun z => h (List.mem_cons_of_mem _ z)), upd_ne (fun z => h (by rw [z]; exact List.mem_cons_self))]
theorem putP_at : ∀ (as : List Addr) (ps : List (V × V)) (H : Hp), as.length = ps.length → as.Nodup → Paired (fun (t : Addr) (p : V × V) => putP H as ps t = some (.tup [p.1, p.2])) as ps
  | [], [], _, _, _ => .nil
  | [], _ :: _, _, h, _ => by cases h
  | _ :: _, [], _, h, _ => by cases h
  | a :: as, p :: ps, H, h, hn => by
    have hn' := List.nodup_cons.mp hn
    refine .cons ?_ (putP_at as ps (upd H a (.tup [p.1, p.2])) (Nat.succ.inj h) hn'.2)
    show putP (upd H a (.tup [p.1, p.2])) as ps a = some (.tup [p.1, p.2])
    rw [putP_off as ps _ hn'.1, upd_same]
/-- what a list of new pairs asks -/
def NewPairs (H : Hp) (ps : List (V × V)) (Q : VK) : Prop := ∀ (H' : Hp) (p : Addr) (ts : List Addr), (∀ b o, H b = some o → H' b = some o) → H p = none → (∀ t ∈ ts, H t = none) → p ∉ ts → H' p = some (.lst (ts.map V.ref)) →
  Paired (fun (t : Addr) (q : V × V) => H' t = some (.tup [q.1, q.2])) ts ps → Q (.ref p) H'
def tLZip (K : PySem.W.Frag) (ta : TA) : TE := fun σ H Q => ta σ H fun vs H1 => ∃ (a b : Addr) (xs ys : List V), vs = [.ref a, .ref b] ∧ SqT K H1 a xs ∧ SqT K H1 b ys ∧ xs.length = ys.length ∧ NewPairs H1 (xs.zip ys) Q
section
variable {X : Cx}
theorem zip_laid {pins : List (Addr × Obj)} {σ : St} {H : Hp} {s s0 : Shared} {h' : Heap} {tk : Nat} {xs ys : List V} {us vs : List Value} {acc : Array Value} {c : Nat} {as : List Addr} (I : Inv X pins σ H s0) (hle : s0.heap.objs.size ≤ s.heap.objs.size) (es : { s with heap := h', toks := tk } = { s0 with heap := h', toks := tk }) (hz : xs.length ≤ sizeLine) (rx : Vals xs us) (ry : Vals ys vs) (hxy : xs.length = ys.length)
    (hk : ∀ b o, s0.heap.get? b = some o → h'.get? b = some o) (hS : h'.get? s.heap.objs.size = some { cls := .type "list", dict := none, data := .seq acc c, slots := #[] }) (hl : as.length = us.length) (hG : MsZ.Got us.toArray vs.toArray s.heap.objs.size h' as) (hacc : acc.toList = as.map Value.ref) :
    ∃ H' : Hp, (∀ b o, H b = some o → H' b = some o) ∧ H s.heap.objs.size = none ∧ (∀ t ∈ as, H t = none) ∧ s.heap.objs.size ∉ as ∧ H' s.heap.objs.size = some (.lst (as.map V.ref)) ∧ Paired (fun (t : Addr) (q : V × V) => H' t = some (.tup [q.1, q.2])) as (xs.zip ys) ∧ Inv X pins σ H' { s with heap := h', toks := tk } := by
  have lx := rx.length
  have ly := ry.length
  have hSn : s.heap.objs.size ∉ as := fun z => Nat.lt_irrefl _ (hG.above _ z)
  have nd : as.Nodup := List.Pairwise.imp (fun {a b} (h : a < b) => Nat.ne_of_lt h) hG.rise
  have new : ∀ t ∈ as, H t = none := fun t ht => I.hok.fresh (Nat.le_trans hle (Nat.le_of_lt (hG.above t ht)))
  have newS : H s.heap.objs.size = none := I.hok.fresh hle
  have lz : as.length = (xs.zip ys).length := by rw [List.length_zip]; omega
  have atP := putP_at as (xs.zip ys) (upd H s.heap.objs.size (.lst (as.map V.ref))) lz nd
  have off : ∀ b, b ∉ as → b ≠ s.heap.objs.size → putP (upd H s.heap.objs.size (.lst (as.map V.ref))) as (xs.zip ys) b = H b := fun b h1 h2 => by rw [putP_off as _ _ h1, upd_ne h2]
  have low : ∀ b o, s0.heap.get? b = some o → b ∉ as ∧ b ≠ s.heap.objs.size := fun b o e => ⟨fun z => absurd (Heap.lt_size e) (Nat.not_lt.mpr (Nat.le_trans hle (Nat.le_of_lt (hG.above b z)))), Nat.ne_of_lt (Nat.lt_of_lt_of_le (Heap.lt_size e) hle)⟩
  have kp : ∀ b u, H b = some u → (putP (upd H s.heap.objs.size (.lst (as.map V.ref))) as (xs.zip ys)) b = some u := fun b u e => by
    rw [off b (fun z => by rw [new b z] at e; cases e) (fun z => by rw [z, newS] at e; cases e)]
    exact e
  have eS : putP (upd H s.heap.objs.size (.lst (as.map V.ref))) as (xs.zip ys) s.heap.objs.size = some (.lst (as.map V.ref)) := by rw [putP_off as _ _ hSn, upd_same]
  refine ⟨putP (upd H s.heap.objs.size (.lst (as.map V.ref))) as (xs.zip ys), kp, newS, new, hSn, eS, atP, ?_⟩
  rw [es]
  refine I.call' (ch := []) rfl ⟨fun b o q _ _ _ => hk b o q, fun b o q _ _ _ => ⟨o.slots, hk b o q⟩, fun b o q n _ => ?_, fun b o q _ => ⟨o, hk b o q⟩, fun b xs q => kp b _ q, fun b o u q => kp b _ q, fun b ps q => ⟨#[], by rw [kp b _ q]; simp⟩⟩ (fun b u q => ?_) I.bare fun b z => by simp at z
  · obtain ⟨z1, z2⟩ := low b o q
    rw [off b z1 z2]
    exact n
  · by_cases hb : b ∈ as
    · obtain ⟨j, pk, e1, e2, e3⟩ := LiI.paired_ix atP hb
      rw [e3] at q
      cases q
      obtain ⟨x, y, f1, f2, f3⟩ := hG.pairs j b e1
      obtain ⟨g1, g2⟩ := List.getElem?_zip_eq_some.mp e2
      obtain ⟨u, k1, k2⟩ := LiI.paired_get rx g1
      obtain ⟨v, k3, k4⟩ := LiI.paired_get ry g2
      rw [List.getElem?_toArray] at f1 f2
      rw [f1] at k1
      rw [f2] at k3
      cases k1
      cases k3
      exact ⟨by show 2 ≤ sizeLine; decide, [x, y], .cons k2 (.cons k4 .nil), ⟨_, f3, rfl, _, rfl⟩⟩
    · by_cases hb2 : b = s.heap.objs.size
      · rw [hb2] at q ⊢
        rw [eS] at q
        cases q
        refine ⟨by rw [List.length_map]; omega, acc.toList, c, by rw [hacc]; exact LiI.vals_refs as, ?_⟩
        rw [Array.toArray_toList]
        exact hS
      · rw [off b hb hb2] at q
        exact (I.hok b u q).stay (fun d v _ y => hk d v y) (fun d y => kp d _ y) fun d xs y => kp d _ y
/-- list(zip(a, b)), both tuples of one length -/
theorem pe_lzip {e e2 : Expr} {ta : TA} {p p2 pos pos2 : Pos} (hg2 : Gl X "zip") (hm2 : X.mg "zip" = none) (hg : Gl X "list") (hm : X.mg "list" = none) (hv : bootBuiltins "list" = some (.type "list")) (ha : PA X [e, e2] ta) (hc : X.calm = true := by rfl)
    (hs2 : starEach [e, e2] X.env = (false, eval e X.env) :: starEach [e2] X.env := by rfl) (hpl2 : (backTo pos2 (starEach [e2] X.env)).any (·.1) = false := by rfl)
    (hs : starEach [.Call (.Name "zip" p2) [e, e2] [] pos2] X.env = (false, eval (.Call (.Name "zip" p2) [e, e2] [] pos2) X.env) :: starEach [] X.env := by rfl) :
    PE X (.Call (.Name "list" p) [.Call (.Name "zip" p2) [e, e2] [] pos2] [] pos) (tLZip X.K ta) := by
  refine ⟨fun pins s σ H Q I h => ?_⟩
  refine wpAny_Call_Name_kw (ld_blt I hg hm hv ?_)
  refine PyProof.Rows.callWith_type1 ?_ hs rfl
  rw [hs]
  show wpAny _ _ (spliced ((false, eval (.Call (.Name "zip" p2) [e, e2] [] pos2) X.env) :: backTo pos (starEach [] X.env))) _ _ s
  refine Calls.spliced_cons ?_
  refine Call_ (ld_blt I hg2 hm2 PyProof.Rows.boot_zip (PyProof.Rows.callWith_type1 (thn (ha.run pos2 pins s σ H _ I h) fun us s1 ⟨vs, H1, I1, r1, q1⟩ => ?_) hs2 hpl2))
  obtain ⟨a, b, xs, ys, ex, hqx, hqy, hl, q⟩ := q1
  subst ex
  obtain ⟨u1, u2, rfl, r, r'⟩ := vals2 r1
  cases r
  cases r'
  obtain ⟨its, rv, p1, hz⟩ := I1.tuple hqx
  obtain ⟨its2, rv2, p2', _⟩ := I1.tuple hqy
  have t1 : s1.heap.IsTuple a its.toArray := p1
  have t2 : s1.heap.IsTuple b its2.toArray := p2'
  obtain ⟨o1, ho1, _⟩ := id p1
  obtain ⟨o2, ho2, _⟩ := id p2'
  have lx := rv.length
  have ly := rv2.length
  refine RZ.call_zipT t1 t2 fun h' hz' hTI hTO h1 h2 hsz hk => ?_
  refine Calls.spliced_nil ?_
  have F : MsZ.Fresh h' s1.heap.objs.size a b its.toArray its2.toArray := ⟨hz', hTI, ⟨_, _, hTO⟩, h1, h2, t1.at fun o x => hk a o x, t2.at fun o x => hk b o x, Nat.le_of_eq hsz.symm, ⟨Heap.lt_size ho1, Heap.lt_size ho2⟩,
    by simp only [List.size_toArray]; omega, by simp only [List.size_toArray]; omega⟩
  refine MsZ.call_list_zip (s := { s1 with heap := h' }) (I.ok.hd hc) F fun h3 tk acc c as hk3 hS hl3 hG hacc => ?_
  obtain ⟨H', k1, k2, k3, k4, k5, k6, J⟩ := zip_laid (s := { s1 with heap := h' }) (s0 := s1) (tk := tk) I1 (by show s1.heap.objs.size ≤ h'.objs.size; omega) rfl hz rv rv2 hl (fun b o z => hk3 b o (.inl (Heap.lt_size z)) (hk b o z)) hS (by simpa using hl3) hG hacc
  exact ⟨.ref _, H', J, rfl, q H' _ as k1 k2 k3 k4 k5 k6⟩
end
end Ms
set_option Elab.async false
set_option linter.all false
set_option maxRecDepth 100000
set_option maxHeartbeats 4000000
/-! Ms: enumerate over a tuple. -/
namespace MsE
open PySem
open PySem.Sem (wp)
open AutoSeq1 (wpAny_loadPart')
theorem meets_new (l : Addr) (items : Array Value) (n : Nat) (dct : Option Addr) (sl : Array (Option Value)) :
    Meets (Builtin.«enumerate.__new__» ⟨[.type "enumerate", .ref l], []⟩) (fun _ R s => s.heap.get? l = some { cls := .type "tuple", dict := dct, data := .seq items n, slots := sl } ∧
      R (.ok (.ret (.ref (s.heap.push { cls := .type "tuple_iterator", data := .fields #[.ref l, .int 0 0] }).objs.size)))
        { s with heap := (s.heap.push { cls := .type "tuple_iterator", data := .fields #[.ref l, .int 0 0] }).push { cls := .type "enumerate", data := .fields #[.none, .bool false, .ref s.heap.objs.size, rawInt 0, .none, .none] } }) :=
  .of_wp fun prog w A R s h => by
    obtain ⟨hp, g, d, tk, os⟩ := s
    obtain ⟨hl, h⟩ := h
    have sub := sub_enumerate
    have t : Heap.IsTuple (Shared.heap ⟨hp, g, d, tk, os⟩) l items := ⟨_, hl, rfl, n, rfl⟩
    wp_walk using wpAny_loadPart' hl
    refine wpAny_stack_any fun st => wpAny_pure ?_
    split
    · rename_i c _ _ _ _ _
      cases (c == Value.type "enumerate")
      · wp_walk using wpAny_loadPart' hl, wpAny_pyIter_tuple t
        exact ⟨_, rfl, h⟩
      · wp_walk using wpAny_loadPart' hl, wpAny_pyIter_tuple t
        exact ⟨_, rfl, h⟩
    · wp_walk using wpAny_loadPart' hl, wpAny_pyIter_tuple t
      exact ⟨_, rfl, h⟩
section
variable {prog : Program} {w : World} {A : Around} {E : Value → Shared → Prop} {s : Shared}
theorem call_enum {l : Addr} {items : Array Value} {Q : Value → Shared → Prop} (hL : s.heap.IsTuple l items)
    (h : ∀ h', IsEnum h' (s.heap.objs.size + 1) s.heap.objs.size 0 .none → h'.IsTupleIter s.heap.objs.size l 0 → (∀ b o, s.heap.get? b = some o → h'.get? b = some o) → Q (.ref (s.heap.objs.size + 1)) { s with heap := h' }) :
    wpAny (model prog w) A (call (.type "enumerate") [.ref l]) Q E s := by
  obtain ⟨⟨c, dct, dt, sl⟩, hl, hc, n, hd⟩ := hL
  dsimp only at hc hd
  subst hc hd
  refine callType_new F.called_enumerate (by decide) (F.typeCall_enumerate_1 _) (F.newCall_enumerate_1 _) (fun obj => F.args_object_init_2 obj _) F.entry_enumerate_new (meets_new l items n dct sl) ⟨hl, ?_⟩
  have hz : (s.heap.push { cls := .type "tuple_iterator", data := .fields #[.ref l, .int 0 0] }).objs.size = s.heap.objs.size + 1 := Heap.size_push ..
  have he := Heap.get?_push_size (s.heap.push { cls := .type "tuple_iterator", data := .fields #[.ref l, .int 0 0] }) (o := { cls := .type "enumerate", data := .fields #[.none, .bool false, .ref s.heap.objs.size, rawInt 0, .none, .none] }) rfl
  rw [hz] at he
  show _ ∧ _
  rw [hz]
  exact ⟨⟨_, he, rfl⟩, h _ he ⟨_, Heap.get?_push_of_some _ (Heap.get?_push_size _ rfl), rfl, rfl⟩ fun b o x => Heap.get?_push_of_some _ (Heap.get?_push_of_some _ x)⟩
end
end MsE
namespace Ms
open PySem PySem.Spec PyProof.Rows L2
/-- enumerate(t): the tuple's items, each with its place in a new pair -/
def ItE (K : PySem.W.Frag) (a : Addr) : It :=
  ⟨fun i H => ∃ (xs : List V) (x : V), SqT K H a xs ∧ xs[i]? = some x, fun i H v H' => ∃ T x, v = .ref T ∧ H T = none ∧ H' = upd H T (.tup [.int (i : Nat), x]) ∧ ∀ xs, SqT K H a xs → xs[i]? = some x, fun i H => ∃ xs : List V, SqT K H a xs ∧ xs.length = i⟩
theorem turn_enumT {P : Program} {w : World} {K : PySem.W.Frag} {elts : List Expr} {kk : Nat} {tpos : Pos} (a e it : Addr) (hae : a ≠ e) (hai : a ≠ it) (hei : e ≠ it) :
    Turn P w K (.Tuple elts kk tpos) (ItE K a) [e, it] e (fun i h => (∃ old, IsEnum h e it ((i : Nat) : Int) old) ∧ h.IsTupleIter it a i) where
  mem := by simp
  obj := fun i h st b hb => by
    obtain ⟨⟨old, he⟩, ⟨o, ho, hc, hd⟩⟩ := st
    rcases (by simpa using hb : b = e ∨ b = it) with z | z
    · rw [z]; exact ⟨_, he, fun v q => nomatch q⟩
    · rw [z]; exact ⟨o, ho, fun v q => by rw [hd] at q; cases q⟩
  keep := fun i h h' st k => let ⟨⟨old, he⟩, hi⟩ := st; ⟨⟨old, k e (by simp) _ he⟩, hi.at fun o q => k it (by simp) o q⟩
  item := by
    intro X hP hw hK hc i pins s σ H E I hf st hg
    subst hP hw hK
    obtain ⟨⟨old, he⟩, hit⟩ := st
    obtain ⟨xs, x, hq, hx⟩ := hg
    obtain ⟨its, rv, p, hz⟩ := I.tuple hq
    obtain ⟨u, hu, ru⟩ := rv.get hx
    have t : s.heap.IsTuple a its.toArray := p
    have D := Draws.tuple (prog := X.prog) (w := X.w) (A := X.A.in1) (I.ok.hd hc) it a hai its.toArray
    have ni : i < its.toArray.size := by
      have q := List.getElem?_eq_some_iff.mp hu
      simpa using q.1
    have hel : e < s.heap.objs.size := Heap.lt_size he
    have hil : it < s.heap.objs.size := by obtain ⟨_, q, _⟩ := hit; exact Heap.lt_size q
    refine wpAny_pyNext_enum_itemC D he ⟨hit, t⟩ ni hei (by simp; exact ⟨hei, hae.symm⟩) fun y h' tk hy ho st' hT hsz hk => ?_
    have ey : y = u := by
      rw [List.getElem?_toArray, hu] at hy
      exact (Option.some.inj hy).symm
    subst ey
    refine ⟨_, rfl, wpAny_letOwnedTupleGo_enum (s := { s with heap := h', toks := tk + 1 }) ho fun h'' he' sb => ?_⟩
    have hT2 : h''.get? s.heap.objs.size = some { cls := .type "tuple", data := .seq #[.int i tk, y] } := (sb.2 _ (Nat.ne_of_gt hel)).trans hT
    have new : ObjOk X.prog X.w (upd H s.heap.objs.size (.tup [.int (i : Nat), x])) h'' s.heap.objs.size (.tup [.int (i : Nat), x]) :=
      ⟨by show 2 ≤ sizeLine; decide, [.int i tk, y], .cons ⟨_, rfl⟩ (.cons ru .nil), ⟨_, hT2, rfl, _, rfl⟩⟩
    have I1 : Inv X pins σ (upd H s.heap.objs.size (.tup [.int (i : Nat), x])) { s with heap := h'', toks := tk + 1 } :=
      I.turnedNew (ch := [e, it]) (fun b ob hb q => (sb.2 b (fun z => hb (by simp [z]))).trans (hk b ob (fun z => hb (by simp [z])) (fun z => hb (by simp [z])) q)) hf (Nat.le_refl _) new
    refine ⟨.ref s.heap.objs.size, _, I1, rfl, ⟨_, x, rfl, I.hok.fresh (Nat.le_refl _), rfl, fun ys hy => by rw [I.tuple_inj hy hq]; exact hx⟩, ⟨⟨y, ?_⟩, st'.1.at fun o q => (sb.2 it (Ne.symm hei)).trans q⟩, fun b hb => ?_⟩
    · have e1 : ((i + 1 : Nat) : Int) = (i : Int) + 1 := by omega
      rw [e1]; exact he'
    · have hb' : b < s.heap.objs.size := by
        rcases (by simpa using hb : b = e ∨ b = it) with z | z
        · rw [z]; exact hel
        · rw [z]; exact hil
      rw [upd_ne (Nat.ne_of_lt hb')]
      exact (hf b hb).1
  done := by
    intro X hP hw hK hc i pins s σ H E I hf st hg
    subst hP hw hK
    obtain ⟨⟨old, he⟩, hit⟩ := st
    obtain ⟨xs, hq, hx⟩ := hg
    obtain ⟨its, rv, p, hz⟩ := I.tuple hq
    have hl := rv.length
    have t : s.heap.IsTuple a its.toArray := p
    have D := Draws.tuple (prog := X.prog) (w := X.w) (A := X.A.in1) (I.ok.hd hc) it a hai its.toArray
    have ni : its.toArray.size = i := by simp; omega
    obtain ⟨f0, f1, f2, f3, f4, f5⟩ := hf it (by simp)
    exact wpAny_pyNext_enum_endD D he (by rw [ni]; exact ⟨hit, t⟩) fun h' eb => ⟨rfl, I.turned (t' := s.toks) (fun b o hb q => eb b o hb q) f0 f1 f3 f4 f5⟩
  self := fun A i s Q E st h => let ⟨⟨_, he⟩, _⟩ := st; wpAny_pyIter_enum he h
def iEnumT (K : PySem.W.Frag) (ta : TA) : TI := fun σ H R => ta σ H fun vs H1 => ∃ a xs, vs = [.ref a] ∧ SqT K H1 a xs ∧ R (ItE K a) H1
theorem pi_enumT {X : Cx} {e : Expr} {ta : TA} {p pos tpos : Pos} {elts : List Expr} {kk : Nat} (hg : Gl X "enumerate") (hm : X.mg "enumerate" = none) (ha : PA X [e] ta) (hs : starEach [e] X.env = [(false, eval e X.env)] := by rfl) :
    PI X (.Tuple elts kk tpos) (.Call (.Name "enumerate" p) [e] [] pos) (iEnumT X.K ta) := by
  refine ⟨fun pins s σ H R I h => ?_⟩
  refine Call_ (ld_blt I hg hm boot_enumerate (PyProof.Rows.callWith_type1 (thn (ha.run pos pins s σ H _ I h) fun us s1 ⟨vs, H1, I1, r1, q1⟩ => ?_) hs rfl))
  obtain ⟨a, xs, ex, hq, q⟩ := q1
  subst ex
  cases r1 with
  | cons r rr =>
    cases rr
    cases r
    obtain ⟨its, rv, p', hz⟩ := I1.tuple hq
    obtain ⟨o1, ho1, _⟩ := id p'
    have la : a < s1.heap.objs.size := Heap.lt_size ho1
    refine MsE.call_enum (items := its.toArray) p' fun h' he hit hk => wpAny_pyIter_enum he ?_
    have I2 : Inv X pins σ H1 { s1 with heap := h' } := I1.kept (t' := s1.toks) hk
    refine ⟨s1.heap.objs.size + 1, [s1.heap.objs.size + 1, s1.heap.objs.size], _, _, H1, rfl, I2, turn_enumT a (s1.heap.objs.size + 1) s1.heap.objs.size (Nat.ne_of_lt (Nat.lt_succ_of_lt la)) (Nat.ne_of_lt la) (Nat.succ_ne_self _), ⟨⟨.none, he⟩, hit⟩, fun b hb => ?_, q⟩
    have hle : s1.heap.objs.size ≤ b := by
      rcases (by simpa using hb : b = s1.heap.objs.size + 1 ∨ b = s1.heap.objs.size) with z | z
      · rw [z]; exact Nat.le_add_right _ _
      · rw [z]; exact Nat.le_refl _
    exact I1.fpOk hle (I1.hok.fresh hle)
theorem walk_enumT {K : PySem.W.Frag} {a : Addr} {xs : List V} : Walk (ItE K a) xs.length (fun H => SqT K H a xs) (YPair (fun i => some (.int (i : Nat))) (fun i => xs[i]?)) := by
  refine ⟨fun i _ hi q => ⟨xs, xs[i], q, by simp [hi]⟩, fun _ q => ⟨xs, q, rfl⟩, fun i H v H' _ q y => ?_⟩
  obtain ⟨T, x, h1, h2, h3, h4⟩ := y
  exact ⟨T, .int (i : Nat), x, h1, h2, h3, rfl, h4 xs q⟩
end Ms
set_option Elab.async false
set_option linter.all false
set_option maxRecDepth 100000
set_option maxHeartbeats 4000000
/-! Ms: from a def of the text to its promise. -/
namespace Ms
open PySem PySem.Spec PyProof.Rows L2
/-- the i-th statement of a class's body -/
def mem (s : Stmt) (i : Nat) : Stmt := match s with
  | .ClassDef (body := b) .. => b.getD i (.Pass ⟨0, 0, 0, 0⟩)
  | _ => .Pass ⟨0, 0, 0, 0⟩
/-- the def st stands at f -/
abbrev DefAt (K : PySem.W.Frag) (x qual : Str) (st : Stmt) (f : Addr) : Prop := ∃ fd, FunD K x qual (defArgs st) (defBody st) (defScope st) [] [] f fd
/-- its parameters are bound in their order -/
abbrev BindsIn (x qual : Str) (st : Stmt) (ps : List Str) : Prop := ∀ (kV doc pm : Value) (an : Option Addr) (cdv ct : Value) (us : List Value), us.length = ps.length → bindArgs (PySem.W.fnOf x qual (defArgs st) (defBody st) (defScope st) .none kV doc pm an cdv ct) ⟨us, []⟩ = pure (ps.zip us)
section
variable {P : Program} {w : World} {K : PySem.W.Frag} {mg : Str → Option Value} {base : Heap} {x qual : Str} {st : Stmt} {N ps : List Str} {k : Nat} {sp : Sp} {f : Addr}
/-- the body's term and its reading, no exception leaves it -/
abbrev Goal (P : Program) (w : World) (K : PySem.W.Frag) (mg : Str → Option Value) (base : Heap) (qual : Str) (st : Stmt) (N : List Str) (f : Addr) (cdv : Value) (A : Around) (outer : List Env) (s : Shared) (H : Hp) (vs : List V) (Q : VK) (E : XK) : Prop :=
  ∃ t, PSs (cxOf (L2.CX P w) P w K mg base N qual (defScope st) f cdv A outer s H E).nox (defBody st) t ∧ t { nx := fun _ H' => Q .non H', rt := Q } (L2.start N vs) H
/-- .. an exception may leave it -/
abbrev GoalX (P : Program) (w : World) (K : PySem.W.Frag) (mg : Str → Option Value) (base : Heap) (qual : Str) (st : Stmt) (N : List Str) (f : Addr) (cdv : Value) (A : Around) (outer : List Env) (s : Shared) (H : Hp) (vs : List V) (Q : VK) (E : XK) : Prop :=
  ∃ t, PSs (cxOf (L2.CX P w) P w K mg base N qual (defScope st) f cdv A outer s H E) (defBody st) t ∧ t { nx := fun _ H' => Q .non H', rt := Q } (L2.start N vs) H
abbrev Rm (k : Nat) (qual : Str) (st : Stmt) (f : Addr) (cdv : Value) (A : Around) (s : Shared) : Prop := Room k (A.deeper (envOfC qual (defScope st) s.heap.objs.size f cdv))
abbrev Body (P : Program) (w : World) (K : PySem.W.Frag) (mg : Str → Option Value) (base : Heap) (qual : Str) (st : Stmt) (N : List Str) (k : Nat) (f : Addr) (sp : Sp) : Prop :=
  ∀ (cdv : Value) (A : Around) (outer : List Env) (s : Shared) (H : Hp) (vs : List V) (Q : VK) (E : XK), Rm k qual st f cdv A s → sp vs H Q E → Goal P w K mg base qual st N f cdv A outer s H vs Q E
abbrev BodyX (P : Program) (w : World) (K : PySem.W.Frag) (mg : Str → Option Value) (base : Heap) (qual : Str) (st : Stmt) (N : List Str) (k : Nat) (f : Addr) (sp : Sp) : Prop :=
  ∀ (cdv : Value) (A : Around) (outer : List Env) (s : Shared) (H : Hp) (vs : List V) (Q : VK) (E : XK), Rm k qual st f cdv A s → sp vs H Q E → GoalX P w K mg base qual st N f cdv A outer s H vs Q E
theorem fn_okX (F : DefAt K x qual st f) (S : FnScope N ps (defScope st)) (len : ∀ vs H Q E, sp vs H Q E → vs.length = ps.length) (hb : BindsIn x qual st ps) (body : BodyX P w K mg base qual st N k f sp) : ∃ fd ps, FnOk P w K mg base (L2.CX P w) (k + 1) f fd ps sp ∧ Binds K fd ps [] := by
  obtain ⟨fd, F⟩ := F
  exact ⟨fd, ps, F.ok S len body, F.bindsN hb⟩
theorem fn_ok (F : DefAt K x qual st f) (S : FnScope N ps (defScope st)) (len : ∀ vs H Q E, sp vs H Q E → vs.length = ps.length) (hb : BindsIn x qual st ps) (body : Body P w K mg base qual st N k f sp) : ∃ fd ps, FnOk P w K mg base (L2.CX P w) (k + 1) f fd ps sp ∧ Binds K fd ps [] :=
  fn_okX F S len hb fun cdv A outer s H vs Q E hr h => let ⟨t, h1, h2⟩ := body cdv A outer s H vs Q E hr h; ⟨t, h1.nox, h2⟩
/-- a module's def by its name -/
structure At (K : PySem.W.Frag) (mg : Str → Option Value) (x : Str) (st : Stmt) : Prop where
  df : DefAt K x x st (He.ga K x)
  gl : mg x = some (.ref (He.ga K x))
theorem ok_of (D : At K mg x st) (S : FnScope N ps (defScope st)) (len : ∀ vs H Q E, sp vs H Q E → vs.length = ps.length) (hb : BindsIn x x st ps) (body : Body P w K mg base x st N k (He.ga K x) sp) : Ok P w K mg base x (k + 1) sp :=
  ⟨fn_ok D.df S len hb body, D.gl, let ⟨_, F⟩ := D.df; F.kp⟩
theorem ok_ofX (D : At K mg x st) (S : FnScope N ps (defScope st)) (len : ∀ vs H Q E, sp vs H Q E → vs.length = ps.length) (hb : BindsIn x x st ps) (body : BodyX P w K mg base x st N k (He.ga K x) sp) : Ok P w K mg base x (k + 1) sp :=
  ⟨fn_okX D.df S len hb body, D.gl, let ⟨_, F⟩ := D.df; F.kp⟩
/-- a method of a class by both names -/
structure MAt (K : PySem.W.Frag) (c m qual : Str) (st : Stmt) : Prop where
  df : DefAt K m qual st (He.ma K (He.ga K c) m)
  cl : Cls K (He.ga K c)
  me : Meth K (He.ga K c) m (He.ma K (He.ga K c) m)
theorem mok_of {c m : Str} (D : MAt K c m qual st) (S : FnScope N ps (defScope st)) (len : ∀ vs H Q E, sp vs H Q E → vs.length = ps.length) (hb : BindsIn m qual st ps) (body : Body P w K mg base qual st N k (He.ma K (He.ga K c) m) sp) : MOk P w K mg base c m (k + 1) sp :=
  ⟨fn_ok D.df S len hb body, D.cl, D.me⟩
end
/-- arguments bound one by one -/
theorem bi1 {x q : Str} {st : Stmt} {a : Str} (h : ∀ (kV doc pm : Value) (an : Option Addr) (cdv ct u : Value), bindArgs (PySem.W.fnOf x q (defArgs st) (defBody st) (defScope st) .none kV doc pm an cdv ct) ⟨[u], []⟩ = pure [(a, u)]) : BindsIn x q st [a] := fun kV doc pm an cdv ct us hl => match us, hl with
  | [u], _ => h kV doc pm an cdv ct u
theorem bi2 {x q : Str} {st : Stmt} {a b : Str} (h : ∀ (kV doc pm : Value) (an : Option Addr) (cdv ct u v : Value), bindArgs (PySem.W.fnOf x q (defArgs st) (defBody st) (defScope st) .none kV doc pm an cdv ct) ⟨[u, v], []⟩ = pure [(a, u), (b, v)]) : BindsIn x q st [a, b] := fun kV doc pm an cdv ct us hl => match us, hl with
  | [u, v], _ => h kV doc pm an cdv ct u v
theorem bi3 {x q : Str} {st : Stmt} {a b c : Str} (h : ∀ (kV doc pm : Value) (an : Option Addr) (cdv ct u v z : Value), bindArgs (PySem.W.fnOf x q (defArgs st) (defBody st) (defScope st) .none kV doc pm an cdv ct) ⟨[u, v, z], []⟩ = pure [(a, u), (b, v), (c, z)]) : BindsIn x q st [a, b, c] := fun kV doc pm an cdv ct us hl => match us, hl with
  | [u, v, z], _ => h kV doc pm an cdv ct u v z
theorem bi4 {x q : Str} {st : Stmt} {a b c d : Str} (h : ∀ (kV doc pm : Value) (an : Option Addr) (cdv ct u v z y : Value), bindArgs (PySem.W.fnOf x q (defArgs st) (defBody st) (defScope st) .none kV doc pm an cdv ct) ⟨[u, v, z, y], []⟩ = pure [(a, u), (b, v), (c, z), (d, y)]) : BindsIn x q st [a, b, c, d] := fun kV doc pm an cdv ct us hl => match us, hl with
  | [u, v, z, y], _ => h kV doc pm an cdv ct u v z y
/-! rules whose readings name the written part by itself -/
section
variable {X : Cx} (K : PySem.W.Frag) (e : X.K = K := by rfl)
def rTupOf (K : PySem.W.Frag) : List V → Hp → VK → Prop := fun xs H Q => ∃ p ys, xs = [.ref p] ∧ ((SqL K H p ys ∧ ∀ l, H l = none → Q (.ref l) (upd H l (.tup ys))) ∨ (SqT K H p ys ∧ Q (.ref p) H))
def rLstOf (K : PySem.W.Frag) : List V → Hp → VK → Prop := fun xs H Q => ∃ p ys, xs = [.ref p] ∧ (SqL K H p ys ∨ SqT K H p ys) ∧ ∀ l, H l = none → Q (.ref l) (upd H l (.lst ys))
def rLenOf (K : PySem.W.Frag) : List V → Hp → VK → Prop := fun xs H Q => ∃ p ys, xs = [.ref p] ∧ (SqL K H p ys ∨ SqT K H p ys) ∧ Q (.int ys.length) H
include e
theorem tupK : CallR X (.type "tuple") (rTupOf K) := by subst e; exact call_tuple_of
theorem lstK : CallR X (.type "list") (rLstOf K) := by subst e; exact call_list_of
theorem lenK : CallR X (.builtin "len") (rLenOf K) := by subst e; exact call_len_seq
theorem ixL : IxR X (rIxL K) := by subst e; exact ix_list
theorem ixT : IxR X (rIxT K) := by subst e; exact ix_tup
theorem isK : CallR X (.builtin "isinstance") (rIs K) := by subst e; exact cr_is
theorem isTK : CallR X (.builtin "isinstance") (rIsT K) := by subst e; exact cr_isT
theorem eqK (hu : X.A.units + 64 < cLine) : OpR X (compareOp .Eq) (rEqD K) := by subst e; exact op_eqD hu
theorem neK (hu : X.A.units + 64 < cLine) : OpR X (compareOp .NotEq) (rNeD K) := by subst e; exact op_neD hu
theorem maxK (hc : X.calm = true) : CallR X (.builtin "max") (rMax K) := by subst e; exact cr_max hc
end
section
variable {X : Cx} {k j : Nat} {sp : Sp} {E : L2.St → XK} {x m c : Str} {p pos apos : Pos} {e o : Expr} {es : List Expr} {ta tb : TE} {t : TA} (K : PySem.W.Frag)
theorem pe_nK (F : COk X.prog X.w X.K X.mg X.base x k sp) (hr : Room j X.A) (hk : k + 1 ≤ j) (hx : ∀ σ, PassesAt (L2.CX X.prog X.w) X σ (E σ)) (ha : PA X (e :: es) t) (hK : X.K = K := by rfl) (hg : Gl X x := by rfl)
    (hdb : (x == ("__debug__" : Str)) = false := by decide) (he : starEach (e :: es) X.env = (false, eval e X.env) :: starEach es X.env := by rfl) (hpl : (backTo pos (starEach es X.env)).any (·.1) = false := by rfl) :
    PE X (.Call (.Name x p) (e :: es) [] pos) (tMakeS (He.ga K x) sp E t) := by
  subst hK
  exact pe_n F hr hk hx ha hg hdb he hpl
theorem pe_mK {pl : Sem Bool} (F : MOk X.prog X.w X.K X.mg X.base c m k sp) (hr : Room j X.A) (hk : k ≤ j) (hx : ∀ σ, PassesAt (L2.CX X.prog X.w) X σ (E σ)) (he : PE X o ta) (ha : PA X (e :: es) t) (hK : X.K = K := by rfl)
    (hst : starEach (e :: es) X.env = (false, eval e X.env) :: starEach es X.env := by rfl) (hpl : (backTo pos (starEach es X.env)).any (·.1) = false := by rfl)
    (ht : eval (.Call (.Attribute o m apos) (e :: es) [] pos) X.env = (do
      let ov ← eval o X.env
      standAt apos.atName
      let (f, first) ← holding [ov] (getMethod ov m pl)
      callWith pos f first (backTo pos (starEach (e :: es) X.env)) (backToKw pos (keywordEach [] X.env))) := by rfl) :
    PE X (.Call (.Attribute o m apos) (e :: es) [] pos) (tMethS (He.ga K c) m sp E ta t) := by
  subst hK
  exact pe_m (pl := pl) F hr hk hx he ha hst hpl ht
theorem pe_binK {op : Operator} {a b : Expr} (F : BOk X.prog X.w X.K X.mg X.base c m k sp) (ho : PySem.dunder op.info.2 = m) (hr : Room j X.A) (hk : k ≤ j) (hx : ∀ σ, PassesAt (L2.CX X.prog X.w) X σ (E σ)) (ha : PE X a ta) (hb' : PE X b tb) (hK : X.K = K := by rfl) :
    PE X (.BinOp a op b pos) (tBinS (He.ga K c) sp E ta tb) := by
  subst hK
  exact pe_bin F ho hr hk hx ha hb'
theorem pe_eqSK {a b : Expr} (F : BOk X.prog X.w X.K X.mg X.base c "__eq__" k sp) (hr : Room j X.A) (hk : k ≤ j) (hx : ∀ σ, PassesAt (L2.CX X.prog X.w) X σ (E σ)) (ha : PE X a ta) (hb' : PE X b tb) (hK : X.K = K := by rfl) :
    PE X (.Compare a [.Eq] [b] pos) (tEqS K (He.ga K c) sp E ta tb) := by
  subst hK
  exact pe_eqS F hr hk hx ha hb'
end
section
variable {X : Cx} {T name id : String} {o e : Expr} {es : List Expr} {to : TE} {t : TA} {r : V → List V → Hp → VK → Prop} {apos cpos : Pos} (K : PySem.W.Frag)
theorem pe_bmK (pa : PlainAttrs T) (slot : Slot T name id) (hty : typeOf (.builtin id) = pure (.type "method_descriptor")) (hm : MtR X id r) (ho : PE X o to) (ha : PA X (e :: es) t) (hK : X.K = K := by rfl)
    (hbase : attributeBase o name X.env (eval o X.env) = eval o X.env := by rfl)
    (hfew : ((backTo cpos (starEach (e :: es) X.env)).all (fun x => !x.1) && (backToKw cpos (keywordEach [] X.env)).all (fun x => x.1.isSome) && decide ((e :: es).length + ([] : List Keyword).length + (if ([] : List Keyword).isEmpty then 0 else 1) < 30)) = true := by rfl)
    (hline : (apos.endLine == cpos.line) = true := by rfl) (hs : starEach (e :: es) X.env = (false, eval e X.env) :: starEach es X.env := by rfl) (hplain : (backTo cpos (starEach es X.env)).any (·.1) = false := by rfl) :
    PE X (.Call (.Attribute o name apos) (e :: es) [] cpos) (tBM K T r to t) := by
  subst hK
  exact pe_bm pa slot hty hm ho ha hbase hfew hline hs hplain
end
end Ms
set_option Elab.async false
set_option linter.all false
set_option maxRecDepth 100000
set_option maxHeartbeats 4000000
/-! Ms, the head: what the top has left, told by one run. -/
namespace Ms
open PySem PySem.Spec PyProof.Rows L2
abbrev Ck : Type := PySem.W.Frag → Bool
theorem and2 {a b : Bool} (h : (a && b) = true) : a = true ∧ b = true := by simpa using h
/-- the def behind a property, a classmethod, a staticmethod of the class named c -/
def recAt (K : PySem.W.Frag) (kind : String) (c m : Str) : Addr := match PySem.W.recIn K (He.ma K (He.ga K c) m) kind with
  | some (.ref g :: _) => g
  | _ => 0
def recB (K : PySem.W.Frag) (kind : String) (c m : Str) : Bool := match PySem.W.recIn K (He.ma K (He.ga K c) m) kind with
  | some (.ref g :: _) => decide (g = recAt K kind c m)
  | _ => false
theorem recB_ok {K : PySem.W.Frag} {kind : String} {c m : Str} (h : recB K kind c m = true) : ∃ rest, PySem.W.recIn K (He.ma K (He.ga K c) m) kind = some (.ref (recAt K kind c m) :: rest) := by
  unfold recB at h
  split at h
  · rename_i g rest e
    have q := of_decide_eq_true h
    rw [e, ← q]
    exact ⟨_, rfl⟩
  · cases h
def atB (K : PySem.W.Frag) (c m : Str) : Bool := He.eqO (PySem.W.findIn K (.ref (He.ga K c)) m) (some (some (.ref (He.ma K (He.ga K c) m))))
/-- a property -/
def ckProp (c m : Str) : Ck := fun K => atB K c m && (He.eqO (PySem.W.specialIn K (.ref (He.ma K (He.ga K c) m)) "__get__") (some (some (.builtin "property.__get__"))) && (decide (PySem.W.takesIn K (.ref (He.ma K (He.ga K c) m)) = some true) && recB K "property" c m))
theorem ckProp_ok {K : PySem.W.Frag} {c m : Str} (h : ckProp c m K = true) : PropOf K (He.ga K c) m (He.ma K (He.ga K c) m) (recAt K "property" c m) := by
  obtain ⟨h1, h⟩ := and2 h
  obtain ⟨h2, h⟩ := and2 h
  obtain ⟨h3, h4⟩ := and2 h
  exact ⟨He.eqO_ok h1, He.eqO_ok h2, of_decide_eq_true h3, recB_ok h4⟩
/-- the class is read as any class -/
def ckRead (c : Str) : Ck := fun K => PySem.W.readsIn K (He.ga K c) (.type "type") && He.eqO (PySem.W.specialIn K (.ref (He.ga K c)) "__getattribute__") (some (some (.builtin "type.__getattribute__")))
theorem ckRead_ok {K : PySem.W.Frag} {c : Str} (h : ckRead c K = true) : ClX.CRead K (He.ga K c) (.type "type") := by
  obtain ⟨h1, h2⟩ := and2 h
  exact ⟨h1, He.eqO_ok h2⟩
/-- a classmethod -/
def ckCm (c m : Str) : Ck := fun K => (match PySem.W.findCls K (.ref (He.ga K c)) (.type "type") m with
  | some (.get (.builtin n) (.ref p) .none (.ref d)) => decide (n = "classmethod.__get__") && (decide (p = He.ma K (He.ga K c) m) && decide (d = He.ga K c))
  | _ => false) && (recB K "classmethod" c m && PySem.W.fnIn K (recAt K "classmethod" c m))
theorem ckCm_ok {K : PySem.W.Frag} {c m : Str} (h : ckCm c m K = true) : ClX.CMet K (He.ga K c) (.type "type") m (He.ma K (He.ga K c) m) (recAt K "classmethod" c m) := by
  obtain ⟨h1, h⟩ := and2 h
  obtain ⟨h2, h3⟩ := and2 h
  refine ⟨?_, recB_ok h2, h3⟩
  split at h1
  · rename_i n p d e
    obtain ⟨a1, a⟩ := and2 h1
    obtain ⟨a2, a3⟩ := and2 a
    rw [e, of_decide_eq_true a1, of_decide_eq_true a2, of_decide_eq_true a3]
  · cases h1
/-- an own exception class with its own __init__ (or none) -/
def oexB (K : PySem.W.Frag) (C : Addr) : Bool := match K.lookup C with
  | some ⟨.type t, _, .cls cd, sl⟩ => (match cd.mro, sl.toList with
    | .ref D :: bm, [_, _, _, _, some (.builtin n), _] => decide (t = "type") && (decide (D = C) && (decide (n = "ValueError.__new__") && (!cd.hasDel && (cd.hasDict && PySem.HandSPX.refsVE bm))))
    | _, _ => false)
  | _ => false
theorem oexB_ok {K : PySem.W.Frag} {C : Addr} (h : oexB K C = true) : ∃ nm q N bs bm sn sub ab col dd k0 k1 k2 k3 k5, K.lookup C = some (excClassObj nm q C N bs bm true sn sub ab col dd k0 k1 k2 k3 k5 "ValueError.__new__") ∧ PySem.HandSPX.refsVE bm = true := by
  unfold oexB at h
  split at h
  · rename_i t dd cd sl e
    split at h
    · rename_i D bm k0 k1 k2 k3 n k5 em es
      obtain ⟨a1, h⟩ := and2 h
      obtain ⟨a2, h⟩ := and2 h
      obtain ⟨a3, h⟩ := and2 h
      obtain ⟨a4, h⟩ := and2 h
      obtain ⟨a5, a6⟩ := and2 h
      obtain ⟨n1, n2, n3, n4, n5, n6, n7, n8, n9, n10, n11⟩ := cd
      dsimp only at em a4 a5
      have d1 := of_decide_eq_true a1
      have d2 := of_decide_eq_true a2
      have d3 := of_decide_eq_true a3
      have d4 : n11 = false := by simpa using a4
      subst d1 d2 d3 d4 a5 em
      have esl : sl = #[k0, k1, k2, k3, some (.builtin "ValueError.__new__"), k5] := by
        obtain ⟨l⟩ := sl
        dsimp only at es
        rw [es]
      subst esl
      exact ⟨_, _, _, _, _, _, _, _, _, _, _, _, _, _, _, e, a6⟩
    · cases h
  · cases h
def ckOex (c : Str) : Ck := fun K => oexB K (He.ga K c) && (He.eqO (PySem.W.findIn K (.ref (He.ga K c)) "__setattr__") (some (some (.builtin "object.__setattr__"))) && (decide (PySem.W.subIn K (.ref (He.ga K c)) (.type "BaseException") = some true) &&
  (decide (PySem.W.typeIn K (.ref (He.ga K c)) = some (.type "type")) && PySem.W.keepIn K (.ref (He.ga K c)))))
theorem ckOex_ok {K : PySem.W.Frag} {c : Str} (h : ckOex c K = true) : OexC K (He.ga K c) := by
  obtain ⟨a1, h⟩ := and2 h
  obtain ⟨a2, h⟩ := and2 h
  obtain ⟨a3, h⟩ := and2 h
  obtain ⟨a4, a5⟩ := and2 h
  exact ⟨oexB_ok a1, He.eqO_ok a2, of_decide_eq_true a3, of_decide_eq_true a4, a5⟩
/-- .. its own __init__ -/
structure ExI (K : PySem.W.Frag) (mg : Str → Option Value) (c qual : Str) (st : Stmt) : Prop where
  o : OexC K (He.ga K c)
  iC : PySem.W.findIn K (.ref (He.ga K c)) "__init__" = some (some (.ref (He.ma K (He.ga K c) "__init__")))
  tI : PySem.W.typeIn K (.ref (He.ma K (He.ga K c) "__init__")) = some (.type "function")
  df : DefAt K "__init__" qual st (He.ma K (He.ga K c) "__init__")
  gl : mg c = some (.ref (He.ga K c))
def ckIni (c : Str) : Ck := fun K => atB K c "__init__" && decide (PySem.W.typeIn K (.ref (He.ma K (He.ga K c) "__init__")) = some (.type "function"))
theorem ckIni_ok {K : PySem.W.Frag} {c : Str} (h : ckIni c K = true) : PySem.W.findIn K (.ref (He.ga K c)) "__init__" = some (some (.ref (He.ma K (He.ga K c) "__init__"))) ∧ PySem.W.typeIn K (.ref (He.ma K (He.ga K c) "__init__")) = some (.type "function") := by
  obtain ⟨h1, h2⟩ := and2 h
  exact ⟨He.eqO_ok h1, of_decide_eq_true h2⟩
/-- an own exception class as isinstance and its fields ask -/
def ckEC (c : Str) : Ck := fun K => (PySem.W.clsIn K (He.ga K c)).isSome && (He.eqO (PySem.W.findIn K (.ref (He.ga K c)) "__getattribute__") (some (some (.builtin "BaseException.__getattribute__"))) && (He.eqO (PySem.W.findIn K (.ref (He.ga K c)) "__getattr__") (some none) &&
  (decide (PySem.W.subIn K (.ref (He.ga K c)) (.type "BaseException") = some true) && (He.eqO (PySem.W.findIn K (.ref (He.ga K c)) "__class__") (some (some (.builtin "object.__class__"))) && (He.eqO (PySem.W.specialIn K (.builtin "object.__class__") "__get__") (some (some (.builtin "getset_descriptor.__get__"))) &&
  (decide (PySem.W.takesIn K (.builtin "object.__class__") = some true) && (decide (PySem.W.mroIn K (He.ga K c) (.type "object") = some true) && PySem.W.hasDictIn K (He.ga K c))))))))
theorem ckEC_ok {K : PySem.W.Frag} {c : Str} (h : ckEC c K = true) : EC K (He.ga K c) := by
  obtain ⟨a1, h⟩ := and2 h
  obtain ⟨a2, h⟩ := and2 h
  obtain ⟨a3, h⟩ := and2 h
  obtain ⟨a4, h⟩ := and2 h
  obtain ⟨a5, h⟩ := and2 h
  obtain ⟨a6, h⟩ := and2 h
  obtain ⟨a7, h⟩ := and2 h
  obtain ⟨a8, a9⟩ := and2 h
  exact ⟨a1, He.eqO_ok a2, He.eqO_ok a3, of_decide_eq_true a4, He.eqO_ok a5, He.eqO_ok a6, of_decide_eq_true a7, of_decide_eq_true a8, a9⟩
/-- an own operator -/
structure Opr (K : PySem.W.Frag) (c m : Str) : Prop where
  sf : PySem.W.selfFirst K (He.ga K c) = true
  fi : PySem.W.findIn K (.ref (He.ga K c)) m = some (some (.ref (He.ma K (He.ga K c) m)))
  fn : PySem.W.isFn K (.ref (He.ma K (He.ga K c) m)) = true
def ckOpr (c m : Str) : Ck := fun K => PySem.W.selfFirst K (He.ga K c) && (atB K c m && PySem.W.isFn K (.ref (He.ma K (He.ga K c) m)))
theorem ckOpr_ok {K : PySem.W.Frag} {c m : Str} (h : ckOpr c m K = true) : Opr K c m := by
  obtain ⟨a1, h⟩ := and2 h
  obtain ⟨a2, a3⟩ := and2 h
  exact ⟨a1, He.eqO_ok a2, a3⟩
/-- what `x == y` asks of y's type -/
def ckNf (c : Str) (t : PySem.W.Frag → Value) : Ck := fun K => PySem.W.notFirst K (He.ga K c) (t K)
/-- isinstance's answers -/
def ckIs (t u : PySem.W.Frag → Value) (b : Bool) : Ck := fun K => decide (PySem.W.kitOne K (t K) (u K) = some b)
def ckExm (c d : Str) (b : Bool) : Ck := fun K => decide (PySem.W.exmOne K (.ref (He.ga K c)) (.ref (He.ga K d)) = some b)
/-- the class's own __class__, for isinstance of an instance -/
def ckCl (c : Str) : Ck := fun K => He.eqO (PySem.W.findIn K (.ref (He.ga K c)) "__class__") (some (some (.builtin "object.__class__"))) && (He.eqO (PySem.W.specialIn K (.builtin "object.__class__") "__get__") (some (some (.builtin "getset_descriptor.__get__"))) && (decide (PySem.W.takesIn K (.builtin "object.__class__") = some true) && decide (PySem.W.mroIn K (He.ga K c) (.type "object") = some true)))
structure ClC (K : PySem.W.Frag) (c : Str) : Prop where
  ca : PySem.W.findIn K (.ref (He.ga K c)) "__class__" = some (some (.builtin "object.__class__"))
  cg : PySem.W.specialIn K (.builtin "object.__class__") "__get__" = some (some (.builtin "getset_descriptor.__get__"))
  ct : PySem.W.takesIn K (.builtin "object.__class__") = some true
  ob : PySem.W.mroIn K (He.ga K c) (.type "object") = some true
theorem ckCl_ok {K : PySem.W.Frag} {c : Str} (h : ckCl c K = true) : ClC K c := by
  obtain ⟨a1, h⟩ := and2 h
  obtain ⟨a2, h⟩ := and2 h
  obtain ⟨a3, a4⟩ := and2 h
  exact ⟨He.eqO_ok a1, He.eqO_ok a2, of_decide_eq_true a3, of_decide_eq_true a4⟩
/-! ### defs anywhere -/
structure Df where
  at_ : PySem.W.Frag → Addr
  name : Str
  qual : Str
  st : Stmt
  dv : List V
/-- the def st with the defaults dv stands at f -/
abbrev DefAtD (K : PySem.W.Frag) (x qual : Str) (st : Stmt) (dv : List V) (f : Addr) : Prop := ∃ fd, FunD K x qual (defArgs st) (defBody st) (defScope st) dv [] f fd
def fnA (K : PySem.W.Frag) (a : Addr) : He.FnW := match K.lookup a with
  | some ⟨_, _, .func fd, _⟩ => some (fd.name, fd.qualname, fd.params, fd.body, fd.scope, fd.globals, fd.closure, fd.builtins)
  | _ => none
def Df.val (d : Df) : He.FnW := some (d.name, d.qual, defArgs d.st, .stmts (defBody d.st), defScope d.st, mainGlobals, [], builtinsNs)
def Df.ok (K : PySem.W.Frag) (d : Df) : Bool := PySem.W.keepIn K (.ref (d.at_ K)) && (match K.lookup (d.at_ K) with
  | some ⟨_, _, .func fd, _⟩ => PySem.W.codeIn K fd.code d.qual && He.dflB K fd.defaults d.dv
  | _ => false)
theorem Df.def_ {K : PySem.W.Frag} {d : Df} (e : fnA K (d.at_ K) = d.val) (c : d.ok K = true) : DefAtD K d.name d.qual d.st d.dv (d.at_ K) := by
  obtain ⟨kp, c2⟩ := and2 c
  unfold fnA at e
  cases q : K.lookup (d.at_ K) with
  | none => rw [q] at c2; cases c2
  | some o =>
    obtain ⟨oc, od, dt, osl⟩ := o
    rw [q] at c2 e
    cases dt with
    | func fd =>
      obtain ⟨n1, n2, n3, n4, n5, n6, n7, n8, n9, n10, n11, n12, n13, n14, n15⟩ := fd
      have e2 : (some (n1, n2, n3, n4, n5, n6, n7, n15) : He.FnW) = some (d.name, d.qual, defArgs d.st, .stmts (defBody d.st), defScope d.st, mainGlobals, [], builtinsNs) := e
      simp only [Option.some.injEq, Prod.mk.injEq] at e2
      obtain ⟨h1, h2, h3, h4, h5, h6, h7, h8⟩ := e2
      subst h1 h2 h3 h4 h5 h6 h7 h8
      obtain ⟨k1, k2⟩ := and2 (show (PySem.W.codeIn K n13 d.qual && He.dflB K n8 d.dv) = true from c2)
      exact ⟨_, ⟨oc, od, n8, n9, n10, n11, n12, n13, n14, osl, rfl, q, k1, He.dflB_ok k2, .inl rfl⟩, kp⟩
    | _ => cases c2
/-! ### the Hook -/
def asM (g : Addr → Option Obj) : Nat → List Addr
  | 0 => [mainGlobals, cStatics]
  | n + 1 => He.growD g (asM g n)
abbrev AlM : Type := Bool × List He.FnW
def obsM (fa : List Ck) (fn : List Df) (K : PySem.W.Frag) : AlM := (fa.all (fun f => f K) && fn.all fun d => d.ok K, fn.map fun d => fnA K (d.at_ K))
def valM (fn : List Df) : AlM := (true, fn.map Df.val)
def SaysM (fa : List Ck) (fn : List Df) (K : PySem.W.Frag) : Prop := obsM fa fn K = valM fn
def obsMG (n : Nat) (fa : List Ck) (fn : List Df) (g : Addr → Option Obj) : AlM := obsM fa fn (He.frG g (asM g n))
def hookM (n : Nat) (fa : List Ck) (fn : List Df) : PySem.W.Hook where
  α := AlM
  obs := fun s => obsMG n fa fn s.heap.get?
  val := fun _ => valM fn
  says := fun _ h => ∃ K : PySem.W.Frag, K.In h ∧ SaysM fa fn K
  of := fun _ _ e => ⟨_, He.frG_in, e⟩
  keeps := fun _ _ _ ⟨K, hK, c⟩ k => ⟨K, PySem.W.Frag.In.keeps hK k, c⟩
theorem obsMG_eq {n : Nat} {fa : List Ck} {fn : List Df} {g : Addr → Option Obj} {s : Shared} (h : ∀ a, g a = s.heap.get? a) : obsMG n fa fn g = (hookM n fa fn).obs s := by
  have e : g = s.heap.get? := funext h
  rw [e] <;> rfl
section
variable {fa : List Ck} {fn : List Df} {K : PySem.W.Frag}
theorem SaysM.both (c : SaysM fa fn K) : (∀ f ∈ fa, f K = true) ∧ (∀ d ∈ fn, d.ok K = true) ∧ fn.map (fun d => fnA K (d.at_ K)) = fn.map Df.val := by
  obtain ⟨h1, h2⟩ := Prod.mk.inj (show (fa.all (fun f => f K) && fn.all fun d => d.ok K, fn.map fun d => fnA K (d.at_ K)) = (true, fn.map Df.val) from c)
  obtain ⟨a, b⟩ := and2 h1
  exact ⟨List.all_eq_true.mp a, List.all_eq_true.mp b, h2⟩
theorem SaysM.fact (c : SaysM fa fn K) (i : Nat) {f : Ck} (h : fa[i]? = some f := by rfl) : f K = true := c.both.1 f (List.mem_of_getElem? h)
theorem SaysM.def_ (c : SaysM fa fn K) (i : Nat) {d : Df} (h : fn[i]? = some d := by rfl) : DefAtD K d.name d.qual d.st d.dv (d.at_ K) := by
  obtain ⟨_, c2, e⟩ := c.both
  have q : (fn.map fun d => fnA K (d.at_ K))[i]? = (fn.map Df.val)[i]? := by rw [e]
  rw [List.getElem?_map, List.getElem?_map, h] at q
  exact Df.def_ (Option.some.inj q) (c2 d (List.mem_of_getElem? h))
end
end Ms
set_option Elab.async false
set_option linter.all false
set_option maxRecDepth 100000
set_option maxHeartbeats 4000000
/-! Ms: names of five arguments. -/
namespace Ms
open PySem PySem.Spec PyProof.Rows L2
theorem bi5 {x q : Str} {st : Stmt} {a b c d e : Str} (h : ∀ (kV doc pm : Value) (an : Option Addr) (cdv ct u v z y t : Value), bindArgs (PySem.W.fnOf x q (defArgs st) (defBody st) (defScope st) .none kV doc pm an cdv ct) ⟨[u, v, z, y, t], []⟩ = pure [(a, u), (b, v), (c, z), (d, y), (e, t)]) : BindsIn x q st [a, b, c, d, e] := fun kV doc pm an cdv ct us hl => match us, hl with
  | [u, v, z, y, t], _ => h kV doc pm an cdv ct u v z y t
end Ms
set_option Elab.async false
set_option linter.all false
set_option maxRecDepth 100000
set_option maxHeartbeats 4000000
/-! K02: the text, what the head tells. -/
namespace K02
open PySem PySem.Spec PyProof.Rows L2 Ms
def top (i : Nat) : Stmt := PySem.Challenge.pw_manysights_k02_chains_whole.main.body.getD i (.Pass ⟨0, 0, 0, 0⟩)
abbrev sSizesDifferu__initu_ : Stmt := mem (top 3) 0
theorem scSizesDifferu__initu_ : FnScope ["self", "one", "two"] ["self", "one", "two"] (defScope sSizesDifferu__initu_) := ⟨rfl, rfl, rfl, by decide +kernel, rfl, by decide +kernel, by decide +kernel⟩
abbrev sBadLengthu__initu_ : Stmt := mem (top 4) 0
theorem scBadLengthu__initu_ : FnScope ["self", "count"] ["self", "count"] (defScope sBadLengthu__initu_) := ⟨rfl, rfl, rfl, by decide +kernel, rfl, by decide +kernel, by decide +kernel⟩
abbrev scheck_equal_sizes : Stmt := top 6
theorem sccheck_equal_sizes : FnScope ["sights", "sight"] ["sights"] (defScope scheck_equal_sizes) := ⟨rfl, rfl, rfl, by decide +kernel, rfl, by decide +kernel, by decide +kernel⟩
abbrev sfresh_cells : Stmt := top 7
theorem scfresh_cells : FnScope ["sights", "layer", "done", "found", "deal", "index", "sight", "mark"] ["sights", "layer", "done"] (defScope sfresh_cells) := ⟨rfl, rfl, rfl, by decide +kernel, rfl, by decide +kernel, by decide +kernel⟩
abbrev sfresh_deals : Stmt := top 8
theorem scfresh_deals : FnScope ["cells", "steps", "found", "fresh", "cell", "deal"] ["cells", "steps", "found"] (defScope sfresh_deals) := ⟨rfl, rfl, rfl, by decide +kernel, rfl, by decide +kernel, by decide +kernel⟩
abbrev sdistances : Stmt := top 9
theorem scdistances : FnScope ["sights", "starts", "found", "deal", "done", "layer", "steps"] ["sights", "starts"] (defScope sdistances) := ⟨rfl, rfl, rfl, by decide +kernel, rfl, by decide +kernel, by decide +kernel⟩
abbrev snext_step : Stmt := top 10
theorem scnext_step : FnScope ["sights", "deal", "far", "steps", "found", "index", "sight", "nearer", "other"] ["sights", "deal", "far", "steps"] (defScope snext_step) := ⟨rfl, rfl, rfl, by decide +kernel, rfl, by decide +kernel, by decide +kernel⟩
abbrev sfirst_chain : Stmt := top 11
theorem scfirst_chain : FnScope ["sights", "start", "goals", "far", "chain", "deal", "steps", "index"] ["sights", "start", "goals"] (defScope sfirst_chain) := ⟨rfl, rfl, rfl, by decide +kernel, rfl, by decide +kernel, by decide +kernel⟩
abbrev slinks : Stmt := top 12
theorem sclinks : FnScope ["sights", "start", "goal"] ["sights", "start", "goal"] (defScope slinks) := ⟨rfl, rfl, rfl, by decide +kernel, rfl, by decide +kernel, by decide +kernel⟩
abbrev sreached : Stmt := top 13
theorem screached : FnScope ["sights", "start"] ["sights", "start"] (defScope sreached) := ⟨rfl, rfl, rfl, by decide +kernel, rfl, by decide +kernel, by decide +kernel⟩
abbrev sis_closed : Stmt := top 14
theorem scis_closed : FnScope ["sights", "deals", "listed", "deal", "sight", "touched", "mark"] ["sights", "deals"] (defScope sis_closed) := ⟨rfl, rfl, rfl, by decide +kernel, rfl, by decide +kernel, by decide +kernel⟩
abbrev srenumbered : Stmt := top 16
theorem screnumbered : FnScope ["marks", "numbers", "found", "mark"] ["marks"] (defScope srenumbered) := ⟨rfl, rfl, rfl, by decide +kernel, rfl, by decide +kernel, by decide +kernel⟩
abbrev slisted_cells : Stmt := top 17
theorem sclisted_cells : FnScope ["marks", "found", "_", "deal", "mark", "cell"] ["marks"] (defScope slisted_cells) := ⟨rfl, rfl, rfl, by decide +kernel, rfl, by decide +kernel, by decide +kernel⟩
abbrev sjoined_marks : Stmt := top 18
theorem scjoined_marks : FnScope ["one", "two", "boss", "first", "mark", "other", "low", "high", "found", "root"] ["one", "two"] (defScope sjoined_marks) := ⟨rfl, rfl, rfl, by decide +kernel, rfl, by decide +kernel, by decide +kernel⟩
abbrev scheck_sizes : Stmt := top 19
theorem sccheck_sizes : FnScope ["one", "two"] ["one", "two"] (defScope scheck_sizes) := ⟨rfl, rfl, rfl, by decide +kernel, rfl, by decide +kernel, by decide +kernel⟩
abbrev sSightu__initu_ : Stmt := mem (top 20) 0
theorem scSightu__initu_ : FnScope ["self", "marks", "numbers"] ["self", "marks"] (defScope sSightu__initu_) := ⟨rfl, rfl, rfl, by decide +kernel, rfl, by decide +kernel, by decide +kernel⟩
abbrev sSight_nothing : Stmt := mem (top 20) 1
theorem scSight_nothing : FnScope ["cls", "size"] ["cls", "size"] (defScope sSight_nothing) := ⟨rfl, rfl, rfl, by decide +kernel, rfl, by decide +kernel, by decide +kernel⟩
abbrev sSight_everything : Stmt := mem (top 20) 2
theorem scSight_everything : FnScope ["cls", "size"] ["cls", "size"] (defScope sSight_everything) := ⟨rfl, rfl, rfl, by decide +kernel, rfl, by decide +kernel, by decide +kernel⟩
abbrev sSight_cells : Stmt := mem (top 20) 3
theorem scSight_cells : FnScope ["self"] ["self"] (defScope sSight_cells) := ⟨rfl, rfl, rfl, by decide +kernel, rfl, by decide +kernel, by decide +kernel⟩
abbrev sSight_cell_of : Stmt := mem (top 20) 4
theorem scSight_cell_of : FnScope ["self", "deal"] ["self", "deal"] (defScope sSight_cell_of) := ⟨rfl, rfl, rfl, by decide +kernel, rfl, by decide +kernel, by decide +kernel⟩
abbrev sSight_alike : Stmt := mem (top 20) 5
theorem scSight_alike : FnScope ["self", "one", "two"] ["self", "one", "two"] (defScope sSight_alike) := ⟨rfl, rfl, rfl, by decide +kernel, rfl, by decide +kernel, by decide +kernel⟩
abbrev sSightu__andu_ : Stmt := mem (top 20) 6
theorem scSightu__andu_ : FnScope ["self", "other", "pairs", "count"] ["self", "other"] (defScope sSightu__andu_) := ⟨rfl, rfl, rfl, by decide +kernel, rfl, by decide +kernel, by decide +kernel⟩
abbrev sSightu__oru_ : Stmt := mem (top 20) 7
theorem scSightu__oru_ : FnScope ["self", "other"] ["self", "other"] (defScope sSightu__oru_) := ⟨rfl, rfl, rfl, by decide +kernel, rfl, by decide +kernel, by decide +kernel⟩
abbrev sSightu__equ_ : Stmt := mem (top 20) 8
theorem scSightu__equ_ : FnScope ["self", "other"] ["self", "other"] (defScope sSightu__equ_) := ⟨rfl, rfl, rfl, by decide +kernel, rfl, by decide +kernel, by decide +kernel⟩
abbrev s_law_whole : Stmt := top 22
theorem sc_law_whole : FnScope ["value"] ["value"] (defScope s_law_whole) := ⟨rfl, rfl, rfl, by decide +kernel, rfl, by decide +kernel, by decide +kernel⟩
abbrev s_law_cell : Stmt := top 23
theorem sc_law_cell : FnScope ["script", "k", "seed", "cell"] ["script", "k"] (defScope s_law_cell) := ⟨rfl, rfl, rfl, by decide +kernel, rfl, by decide +kernel, by decide +kernel⟩
abbrev s_law_digits : Stmt := top 24
theorem sc_law_digits : FnScope ["cell", "sizes", "row", "rest", "seed", "k", "twice"] ["cell", "sizes"] (defScope s_law_digits) := ⟨rfl, rfl, rfl, by decide +kernel, rfl, by decide +kernel, by decide +kernel⟩
abbrev s_law_numbers : Stmt := top 25
theorem sc_law_numbers : FnScope ["actual", "due", "k"] ["actual", "due"] (defScope s_law_numbers) := ⟨rfl, rfl, rfl, by decide +kernel, rfl, by decide +kernel, by decide +kernel⟩
abbrev s_law_marks : Stmt := top 26
theorem sc_law_marks : FnScope ["marks", "numbers", "row", "mark"] ["marks"] (defScope s_law_marks) := ⟨rfl, rfl, rfl, by decide +kernel, rfl, by decide +kernel, by decide +kernel⟩
abbrev s_law_draw : Stmt := top 27
theorem sc_law_draw : FnScope ["script", "shape", "size", "many", "rows", "k", "wide"] ["script"] (defScope s_law_draw) := ⟨rfl, rfl, rfl, by decide +kernel, rfl, by decide +kernel, by decide +kernel⟩
abbrev s_law_draw_long : Stmt := top 28
theorem sc_law_draw_long : FnScope ["script", "size", "order", "turns", "k", "gap", "rows", "at", "one", "two", "third", "cell"] ["script", "size"] (defScope s_law_draw_long) := ⟨rfl, rfl, rfl, by decide +kernel, rfl, by decide +kernel, by decide +kernel⟩
abbrev s_law_alike : Stmt := top 29
theorem sc_law_alike : FnScope ["rows", "one", "two", "row"] ["rows", "one", "two"] (defScope s_law_alike) := ⟨rfl, rfl, rfl, by decide +kernel, rfl, by decide +kernel, by decide +kernel⟩
abbrev s_law_ways : Stmt := top 30
theorem sc_law_ways : FnScope ["rows", "size", "start", "ways", "k", "queue", "turn", "deal", "near"] ["rows", "size", "start"] (defScope s_law_ways) := ⟨rfl, rfl, rfl, by decide +kernel, rfl, by decide +kernel, by decide +kernel⟩
abbrev s_law_is_chain : Stmt := top 31
theorem sc_law_is_chain : FnScope ["actual", "rows", "start", "way", "at", "k", "least", "index"] ["actual", "rows", "start", "way"] (defScope s_law_is_chain) := ⟨rfl, rfl, rfl, by decide +kernel, rfl, by decide +kernel, by decide +kernel⟩
abbrev s_law_closed : Stmt := top 32
theorem sc_law_closed : FnScope ["rows", "size", "deals", "inside", "k", "deal", "near"] ["rows", "size", "deals"] (defScope s_law_closed) := ⟨rfl, rfl, rfl, by decide +kernel, rfl, by decide +kernel, by decide +kernel⟩
abbrev s_law_sets : Stmt := top 33
theorem sc_law_sets : FnScope ["script", "rows", "size", "met", "bits", "pieces", "taken", "k", "ways", "piece", "j", "place", "more", "rest", "drawn", "short"] ["script", "rows", "size", "met"] (defScope s_law_sets) := ⟨rfl, rfl, rfl, by decide +kernel, rfl, by decide +kernel, by decide +kernel⟩
abbrev s_law_asks_sets : Stmt := top 34
theorem sc_law_asks_sets : FnScope ["script", "sights", "rows", "size", "met", "deals", "given", "answer", "again"] ["script", "sights", "rows", "size", "met"] (defScope s_law_asks_sets) := ⟨rfl, rfl, rfl, by decide +kernel, rfl, by decide +kernel, by decide +kernel⟩
abbrev s_law_differs : Stmt := top 35
theorem sc_law_differs : FnScope ["sights", "size", "turn", "place", "third", "mixed", "last"] ["sights", "size", "turn"] (defScope s_law_differs) := ⟨rfl, rfl, rfl, by decide +kernel, rfl, by decide +kernel, by decide +kernel⟩
abbrev s_law_raised : Stmt := top 36
theorem sc_law_raised : FnScope ["mixed", "size", "third", "last", "raised", "error"] ["mixed", "size", "third", "last"] (defScope s_law_raised) := ⟨rfl, rfl, rfl, by decide +kernel, rfl, by decide +kernel, by decide +kernel⟩
abbrev s_law_error : Stmt := top 37
theorem sc_law_error : FnScope ["error", "size", "other"] ["error", "size", "other"] (defScope s_law_error) := ⟨rfl, rfl, rfl, by decide +kernel, rfl, by decide +kernel, by decide +kernel⟩
abbrev s_law_far : Stmt := top 38
theorem sc_law_far : FnScope ["script", "row", "size", "order", "k", "gap", "one", "two", "at", "rows", "sights", "marks", "start", "goal", "side", "step", "way", "turn", "answer"] ["script"] (defScope s_law_far) := ⟨rfl, rfl, rfl, by decide +kernel, rfl, by decide +kernel, by decide +kernel⟩
abbrev slaw : Stmt := top 39
theorem sclaw : FnScope ["script", "drawn", "size", "rows", "start", "ways", "met", "k", "far", "sights", "mark", "row", "goals", "deal", "goal", "some", "total", "sight", "stayed", "item"] ["script"] (defScope slaw) := ⟨rfl, rfl, rfl, by decide +kernel, rfl, by decide +kernel, by decide +kernel⟩
theorem bi_SizesDifferu__initu_ : BindsIn "__init__" "SizesDiffer.__init__" sSizesDifferu__initu_ ["self", "one", "two"] := bi3 fun _ _ _ _ _ _ _ _ _ => rfl
theorem bi_BadLengthu__initu_ : BindsIn "__init__" "BadLength.__init__" sBadLengthu__initu_ ["self", "count"] := bi2 fun _ _ _ _ _ _ _ _ => rfl
theorem bi_check_equal_sizes : BindsIn "check_equal_sizes" "check_equal_sizes" scheck_equal_sizes ["sights"] := bi1 fun _ _ _ _ _ _ _ => rfl
theorem bi_fresh_cells : BindsIn "fresh_cells" "fresh_cells" sfresh_cells ["sights", "layer", "done"] := bi3 fun _ _ _ _ _ _ _ _ _ => rfl
theorem bi_fresh_deals : BindsIn "fresh_deals" "fresh_deals" sfresh_deals ["cells", "steps", "found"] := bi3 fun _ _ _ _ _ _ _ _ _ => rfl
theorem bi_distances : BindsIn "distances" "distances" sdistances ["sights", "starts"] := bi2 fun _ _ _ _ _ _ _ _ => rfl
theorem bi_next_step : BindsIn "next_step" "next_step" snext_step ["sights", "deal", "far", "steps"] := bi4 fun _ _ _ _ _ _ _ _ _ _ => rfl
theorem bi_first_chain : BindsIn "first_chain" "first_chain" sfirst_chain ["sights", "start", "goals"] := bi3 fun _ _ _ _ _ _ _ _ _ => rfl
theorem bi_links : BindsIn "links" "links" slinks ["sights", "start", "goal"] := bi3 fun _ _ _ _ _ _ _ _ _ => rfl
theorem bi_reached : BindsIn "reached" "reached" sreached ["sights", "start"] := bi2 fun _ _ _ _ _ _ _ _ => rfl
theorem bi_is_closed : BindsIn "is_closed" "is_closed" sis_closed ["sights", "deals"] := bi2 fun _ _ _ _ _ _ _ _ => rfl
theorem bi_renumbered : BindsIn "renumbered" "renumbered" srenumbered ["marks"] := bi1 fun _ _ _ _ _ _ _ => rfl
theorem bi_listed_cells : BindsIn "listed_cells" "listed_cells" slisted_cells ["marks"] := bi1 fun _ _ _ _ _ _ _ => rfl
theorem bi_joined_marks : BindsIn "joined_marks" "joined_marks" sjoined_marks ["one", "two"] := bi2 fun _ _ _ _ _ _ _ _ => rfl
theorem bi_check_sizes : BindsIn "check_sizes" "check_sizes" scheck_sizes ["one", "two"] := bi2 fun _ _ _ _ _ _ _ _ => rfl
theorem bi_Sightu__initu_ : BindsIn "__init__" "Sight.__init__" sSightu__initu_ ["self", "marks"] := bi2 fun _ _ _ _ _ _ _ _ => rfl
theorem bi_Sight_nothing : BindsIn "nothing" "Sight.nothing" sSight_nothing ["cls", "size"] := bi2 fun _ _ _ _ _ _ _ _ => rfl
theorem bi_Sight_everything : BindsIn "everything" "Sight.everything" sSight_everything ["cls", "size"] := bi2 fun _ _ _ _ _ _ _ _ => rfl
theorem bi_Sight_cells : BindsIn "cells" "Sight.cells" sSight_cells ["self"] := bi1 fun _ _ _ _ _ _ _ => rfl
theorem bi_Sight_cell_of : BindsIn "cell_of" "Sight.cell_of" sSight_cell_of ["self", "deal"] := bi2 fun _ _ _ _ _ _ _ _ => rfl
theorem bi_Sight_alike : BindsIn "alike" "Sight.alike" sSight_alike ["self", "one", "two"] := bi3 fun _ _ _ _ _ _ _ _ _ => rfl
theorem bi_Sightu__andu_ : BindsIn "__and__" "Sight.__and__" sSightu__andu_ ["self", "other"] := bi2 fun _ _ _ _ _ _ _ _ => rfl
theorem bi_Sightu__oru_ : BindsIn "__or__" "Sight.__or__" sSightu__oru_ ["self", "other"] := bi2 fun _ _ _ _ _ _ _ _ => rfl
theorem bi_Sightu__equ_ : BindsIn "__eq__" "Sight.__eq__" sSightu__equ_ ["self", "other"] := bi2 fun _ _ _ _ _ _ _ _ => rfl
theorem bi__law_whole : BindsIn "_law_whole" "_law_whole" s_law_whole ["value"] := bi1 fun _ _ _ _ _ _ _ => rfl
theorem bi__law_cell : BindsIn "_law_cell" "_law_cell" s_law_cell ["script", "k"] := bi2 fun _ _ _ _ _ _ _ _ => rfl
theorem bi__law_digits : BindsIn "_law_digits" "_law_digits" s_law_digits ["cell", "sizes"] := bi2 fun _ _ _ _ _ _ _ _ => rfl
theorem bi__law_numbers : BindsIn "_law_numbers" "_law_numbers" s_law_numbers ["actual", "due"] := bi2 fun _ _ _ _ _ _ _ _ => rfl
theorem bi__law_marks : BindsIn "_law_marks" "_law_marks" s_law_marks ["marks"] := bi1 fun _ _ _ _ _ _ _ => rfl
theorem bi__law_draw : BindsIn "_law_draw" "_law_draw" s_law_draw ["script"] := bi1 fun _ _ _ _ _ _ _ => rfl
theorem bi__law_draw_long : BindsIn "_law_draw_long" "_law_draw_long" s_law_draw_long ["script", "size"] := bi2 fun _ _ _ _ _ _ _ _ => rfl
theorem bi__law_alike : BindsIn "_law_alike" "_law_alike" s_law_alike ["rows", "one", "two"] := bi3 fun _ _ _ _ _ _ _ _ _ => rfl
theorem bi__law_ways : BindsIn "_law_ways" "_law_ways" s_law_ways ["rows", "size", "start"] := bi3 fun _ _ _ _ _ _ _ _ _ => rfl
theorem bi__law_is_chain : BindsIn "_law_is_chain" "_law_is_chain" s_law_is_chain ["actual", "rows", "start", "way"] := bi4 fun _ _ _ _ _ _ _ _ _ _ => rfl
theorem bi__law_closed : BindsIn "_law_closed" "_law_closed" s_law_closed ["rows", "size", "deals"] := bi3 fun _ _ _ _ _ _ _ _ _ => rfl
theorem bi__law_sets : BindsIn "_law_sets" "_law_sets" s_law_sets ["script", "rows", "size", "met"] := bi4 fun _ _ _ _ _ _ _ _ _ _ => rfl
theorem bi__law_asks_sets : BindsIn "_law_asks_sets" "_law_asks_sets" s_law_asks_sets ["script", "sights", "rows", "size", "met"] := bi5 fun _ _ _ _ _ _ _ _ _ _ _ => rfl
theorem bi__law_differs : BindsIn "_law_differs" "_law_differs" s_law_differs ["sights", "size", "turn"] := bi3 fun _ _ _ _ _ _ _ _ _ => rfl
theorem bi__law_raised : BindsIn "_law_raised" "_law_raised" s_law_raised ["mixed", "size", "third", "last"] := bi4 fun _ _ _ _ _ _ _ _ _ _ => rfl
theorem bi__law_error : BindsIn "_law_error" "_law_error" s_law_error ["error", "size", "other"] := bi3 fun _ _ _ _ _ _ _ _ _ => rfl
theorem bi__law_far : BindsIn "_law_far" "_law_far" s_law_far ["script"] := bi1 fun _ _ _ _ _ _ _ => rfl
theorem bi_law : BindsIn "law" "law" slaw ["script"] := bi1 fun _ _ _ _ _ _ _ => rfl
/-- what the head has left -/
structure Tx (K : PySem.W.Frag) (mg : Str → Option Value) : Prop where
  f_len : mg "len" = none
  f_tuple : mg "tuple" = none
  f_list : mg "list" = none
  f_range : mg "range" = none
  f_enumerate : mg "enumerate" = none
  f_zip : mg "zip" = none
  f_int : mg "int" = none
  f_bool : mg "bool" = none
  f_max : mg "max" = none
  f_min : mg "min" = none
  f_abs : mg "abs" = none
  f_reversed : mg "reversed" = none
  f_sorted : mg "sorted" = none
  f_isinstance : mg "isinstance" = none
  f_ValueError : mg "ValueError" = none
  g_DealError : mg "DealError" = some (.ref (He.ga K "DealError"))
  g_NoDeals : mg "NoDeals" = some (.ref (He.ga K "NoDeals"))
  g_SizesDiffer : mg "SizesDiffer" = some (.ref (He.ga K "SizesDiffer"))
  g_BadLength : mg "BadLength" = some (.ref (He.ga K "BadLength"))
  g_Sight : mg "Sight" = some (.ref (He.ga K "Sight"))
  c_Sight : Cls K (He.ga K "Sight")
  n_size : NoAttr K (He.ga K "Sight") "size"
  n_marks : NoAttr K (He.ga K "Sight") "marks"
  n_cells : NoAttr K (He.ga K "Sight") "_cells"
  k_Sight : Mk K (He.ga K "Sight") (He.ma K (He.ga K "Sight") "__init__")
  m_cell_of : Meth K (He.ga K "Sight") "cell_of" (He.ma K (He.ga K "Sight") "cell_of")
  p_cells : PropOf K (He.ga K "Sight") "cells" (He.ma K (He.ga K "Sight") "cells") (recAt K "property" "Sight" "cells")
  r_Sight : ClX.CRead K (He.ga K "Sight") (.type "type")
  cm_nothing : ClX.CMet K (He.ga K "Sight") (.type "type") "nothing" (He.ma K (He.ga K "Sight") "nothing") (recAt K "classmethod" "Sight" "nothing")
  cm_everything : ClX.CMet K (He.ga K "Sight") (.type "type") "everything" (He.ma K (He.ga K "Sight") "everything") (recAt K "classmethod" "Sight" "everything")
  o_and : Opr K "Sight" "__and__"
  o_or : Opr K "Sight" "__or__"
  o_eq : Opr K "Sight" "__eq__"
  nf_NoneType : PySem.W.notFirst K (He.ga K "Sight") (.type "NoneType") = true
  nf_int : PySem.W.notFirst K (He.ga K "Sight") (.type "int") = true
  nf_bool : PySem.W.notFirst K (He.ga K "Sight") (.type "bool") = true
  nf_list : PySem.W.notFirst K (He.ga K "Sight") (.type "list") = true
  nf_tuple : PySem.W.notFirst K (He.ga K "Sight") (.type "tuple") = true
  nf_str : PySem.W.notFirst K (He.ga K "Sight") (.type "str") = true
  nf_Sight : PySem.W.notFirst K (He.ga K "Sight") (.ref (He.ga K "Sight")) = true
  cl_Sight : ClC K "Sight"
  is_Sight_Sight : PySem.W.kitOne K (.ref (He.ga K "Sight")) (.ref (He.ga K "Sight")) = some true
  is_int_int : PySem.W.kitOne K (.type "int") (.type "int") = some true
  is_int_bool : PySem.W.kitOne K (.type "int") (.type "bool") = some false
  is_tuple_tuple : PySem.W.kitOne K (.type "tuple") (.type "tuple") = some true
  is_bool_bool : PySem.W.kitOne K (.type "bool") (.type "bool") = some true
  is_NoDeals_NoDeals : PySem.W.kitOne K (.ref (He.ga K "NoDeals")) (.ref (He.ga K "NoDeals")) = some true
  is_NoDeals_ValueError : PySem.W.kitOne K (.ref (He.ga K "NoDeals")) (.type "ValueError") = some true
  is_SizesDiffer_SizesDiffer : PySem.W.kitOne K (.ref (He.ga K "SizesDiffer")) (.ref (He.ga K "SizesDiffer")) = some true
  is_SizesDiffer_ValueError : PySem.W.kitOne K (.ref (He.ga K "SizesDiffer")) (.type "ValueError") = some true
  is_SizesDiffer_NoDeals : PySem.W.kitOne K (.ref (He.ga K "SizesDiffer")) (.ref (He.ga K "NoDeals")) = some false
  is_SizesDiffer_BadLength : PySem.W.kitOne K (.ref (He.ga K "SizesDiffer")) (.ref (He.ga K "BadLength")) = some false
  x_NoDeals : PySem.W.exmOne K (.ref (He.ga K "NoDeals")) (.ref (He.ga K "DealError")) = some true
  ec_NoDeals : EC K (He.ga K "NoDeals")
  x_SizesDiffer : PySem.W.exmOne K (.ref (He.ga K "SizesDiffer")) (.ref (He.ga K "DealError")) = some true
  ec_SizesDiffer : EC K (He.ga K "SizesDiffer")
  e_NoDeals : PySem.W.excIn K (He.ga K "NoDeals") He.veBase "ValueError.__new__" = true ∧ PySem.W.keepIn K (.ref (He.ga K "NoDeals")) = true ∧ PySem.W.subIn K (.ref (He.ga K "NoDeals")) (.type "BaseException") = some true ∧ PySem.W.typeIn K (.ref (He.ga K "NoDeals")) = some (.type "type")
  oe_SizesDiffer : OexC K (He.ga K "SizesDiffer")
  ie_SizesDiffer : PySem.W.findIn K (.ref (He.ga K "SizesDiffer")) "__init__" = some (some (.ref (He.ma K (He.ga K "SizesDiffer") "__init__"))) ∧ PySem.W.typeIn K (.ref (He.ma K (He.ga K "SizesDiffer") "__init__")) = some (.type "function")
  nS_one : PySem.W.findIn K (.ref (He.ga K "SizesDiffer")) "one" = some none
  nS_two : PySem.W.findIn K (.ref (He.ga K "SizesDiffer")) "two" = some none
  gd_check_equal_sizes : mg "check_equal_sizes" = some (.ref (He.ga K "check_equal_sizes"))
  gd_fresh_cells : mg "fresh_cells" = some (.ref (He.ga K "fresh_cells"))
  gd_fresh_deals : mg "fresh_deals" = some (.ref (He.ga K "fresh_deals"))
  gd_distances : mg "distances" = some (.ref (He.ga K "distances"))
  gd_next_step : mg "next_step" = some (.ref (He.ga K "next_step"))
  gd_first_chain : mg "first_chain" = some (.ref (He.ga K "first_chain"))
  gd_links : mg "links" = some (.ref (He.ga K "links"))
  gd_reached : mg "reached" = some (.ref (He.ga K "reached"))
  gd_is_closed : mg "is_closed" = some (.ref (He.ga K "is_closed"))
  gd_renumbered : mg "renumbered" = some (.ref (He.ga K "renumbered"))
  gd_listed_cells : mg "listed_cells" = some (.ref (He.ga K "listed_cells"))
  gd_joined_marks : mg "joined_marks" = some (.ref (He.ga K "joined_marks"))
  gd_check_sizes : mg "check_sizes" = some (.ref (He.ga K "check_sizes"))
  gd__law_whole : mg "_law_whole" = some (.ref (He.ga K "_law_whole"))
  gd__law_cell : mg "_law_cell" = some (.ref (He.ga K "_law_cell"))
  gd__law_digits : mg "_law_digits" = some (.ref (He.ga K "_law_digits"))
  gd__law_numbers : mg "_law_numbers" = some (.ref (He.ga K "_law_numbers"))
  gd__law_marks : mg "_law_marks" = some (.ref (He.ga K "_law_marks"))
  gd__law_draw : mg "_law_draw" = some (.ref (He.ga K "_law_draw"))
  gd__law_draw_long : mg "_law_draw_long" = some (.ref (He.ga K "_law_draw_long"))
  gd__law_alike : mg "_law_alike" = some (.ref (He.ga K "_law_alike"))
  gd__law_ways : mg "_law_ways" = some (.ref (He.ga K "_law_ways"))
  gd__law_is_chain : mg "_law_is_chain" = some (.ref (He.ga K "_law_is_chain"))
  gd__law_closed : mg "_law_closed" = some (.ref (He.ga K "_law_closed"))
  gd__law_sets : mg "_law_sets" = some (.ref (He.ga K "_law_sets"))
  gd__law_asks_sets : mg "_law_asks_sets" = some (.ref (He.ga K "_law_asks_sets"))
  gd__law_differs : mg "_law_differs" = some (.ref (He.ga K "_law_differs"))
  gd__law_raised : mg "_law_raised" = some (.ref (He.ga K "_law_raised"))
  gd__law_error : mg "_law_error" = some (.ref (He.ga K "_law_error"))
  gd__law_far : mg "_law_far" = some (.ref (He.ga K "_law_far"))
  gd_law : mg "law" = some (.ref (He.ga K "law"))
  d_SizesDifferu__initu_ : DefAt K "__init__" "SizesDiffer.__init__" sSizesDifferu__initu_ (He.ma K (He.ga K "SizesDiffer") "__init__")
  d_check_equal_sizes : DefAt K "check_equal_sizes" "check_equal_sizes" scheck_equal_sizes (He.ga K "check_equal_sizes")
  d_fresh_cells : DefAt K "fresh_cells" "fresh_cells" sfresh_cells (He.ga K "fresh_cells")
  d_fresh_deals : DefAt K "fresh_deals" "fresh_deals" sfresh_deals (He.ga K "fresh_deals")
  d_distances : DefAt K "distances" "distances" sdistances (He.ga K "distances")
  d_next_step : DefAt K "next_step" "next_step" snext_step (He.ga K "next_step")
  d_first_chain : DefAt K "first_chain" "first_chain" sfirst_chain (He.ga K "first_chain")
  d_links : DefAt K "links" "links" slinks (He.ga K "links")
  d_reached : DefAt K "reached" "reached" sreached (He.ga K "reached")
  d_is_closed : DefAt K "is_closed" "is_closed" sis_closed (He.ga K "is_closed")
  d_renumbered : DefAt K "renumbered" "renumbered" srenumbered (He.ga K "renumbered")
  d_listed_cells : DefAt K "listed_cells" "listed_cells" slisted_cells (He.ga K "listed_cells")
  d_joined_marks : DefAt K "joined_marks" "joined_marks" sjoined_marks (He.ga K "joined_marks")
  d_check_sizes : DefAt K "check_sizes" "check_sizes" scheck_sizes (He.ga K "check_sizes")
  d_Sightu__initu_ : DefAt K "__init__" "Sight.__init__" sSightu__initu_ (He.ma K (He.ga K "Sight") "__init__")
  d_Sight_nothing : DefAt K "nothing" "Sight.nothing" sSight_nothing (recAt K "classmethod" "Sight" "nothing")
  d_Sight_everything : DefAt K "everything" "Sight.everything" sSight_everything (recAt K "classmethod" "Sight" "everything")
  d_Sight_cells : DefAt K "cells" "Sight.cells" sSight_cells (recAt K "property" "Sight" "cells")
  d_Sight_cell_of : DefAt K "cell_of" "Sight.cell_of" sSight_cell_of (He.ma K (He.ga K "Sight") "cell_of")
  d_Sightu__andu_ : DefAt K "__and__" "Sight.__and__" sSightu__andu_ (He.ma K (He.ga K "Sight") "__and__")
  d_Sightu__oru_ : DefAt K "__or__" "Sight.__or__" sSightu__oru_ (He.ma K (He.ga K "Sight") "__or__")
  d_Sightu__equ_ : DefAt K "__eq__" "Sight.__eq__" sSightu__equ_ (He.ma K (He.ga K "Sight") "__eq__")
  d__law_whole : DefAt K "_law_whole" "_law_whole" s_law_whole (He.ga K "_law_whole")
  d__law_cell : DefAt K "_law_cell" "_law_cell" s_law_cell (He.ga K "_law_cell")
  d__law_digits : DefAt K "_law_digits" "_law_digits" s_law_digits (He.ga K "_law_digits")
  d__law_numbers : DefAt K "_law_numbers" "_law_numbers" s_law_numbers (He.ga K "_law_numbers")
  d__law_marks : DefAt K "_law_marks" "_law_marks" s_law_marks (He.ga K "_law_marks")
  d__law_draw : DefAt K "_law_draw" "_law_draw" s_law_draw (He.ga K "_law_draw")
  d__law_draw_long : DefAt K "_law_draw_long" "_law_draw_long" s_law_draw_long (He.ga K "_law_draw_long")
  d__law_alike : DefAt K "_law_alike" "_law_alike" s_law_alike (He.ga K "_law_alike")
  d__law_ways : DefAt K "_law_ways" "_law_ways" s_law_ways (He.ga K "_law_ways")
  d__law_is_chain : DefAt K "_law_is_chain" "_law_is_chain" s_law_is_chain (He.ga K "_law_is_chain")
  d__law_closed : DefAt K "_law_closed" "_law_closed" s_law_closed (He.ga K "_law_closed")
  d__law_sets : DefAt K "_law_sets" "_law_sets" s_law_sets (He.ga K "_law_sets")
  d__law_asks_sets : DefAt K "_law_asks_sets" "_law_asks_sets" s_law_asks_sets (He.ga K "_law_asks_sets")
  d__law_differs : DefAt K "_law_differs" "_law_differs" s_law_differs (He.ga K "_law_differs")
  d__law_raised : DefAt K "_law_raised" "_law_raised" s_law_raised (He.ga K "_law_raised")
  d__law_error : DefAt K "_law_error" "_law_error" s_law_error (He.ga K "_law_error")
  d__law_far : DefAt K "_law_far" "_law_far" s_law_far (He.ga K "_law_far")
  d_law : DefAt K "law" "law" slaw (He.ga K "law")
def fa : List Ck := [
  (fun K => (He.Fa.free "len").ok K),
  (fun K => (He.Fa.free "tuple").ok K),
  (fun K => (He.Fa.free "list").ok K),
  (fun K => (He.Fa.free "range").ok K),
  (fun K => (He.Fa.free "enumerate").ok K),
  (fun K => (He.Fa.free "zip").ok K),
  (fun K => (He.Fa.free "int").ok K),
  (fun K => (He.Fa.free "bool").ok K),
  (fun K => (He.Fa.free "max").ok K),
  (fun K => (He.Fa.free "min").ok K),
  (fun K => (He.Fa.free "abs").ok K),
  (fun K => (He.Fa.free "reversed").ok K),
  (fun K => (He.Fa.free "sorted").ok K),
  (fun K => (He.Fa.free "isinstance").ok K),
  (fun K => (He.Fa.free "ValueError").ok K),
  (fun K => (He.Fa.glo "DealError").ok K),
  (fun K => (He.Fa.glo "NoDeals").ok K),
  (fun K => (He.Fa.glo "SizesDiffer").ok K),
  (fun K => (He.Fa.glo "BadLength").ok K),
  (fun K => (He.Fa.glo "Sight").ok K),
  (fun K => (He.Fa.cls "Sight").ok K),
  (fun K => (He.Fa.noat "Sight" "size").ok K),
  (fun K => (He.Fa.noat "Sight" "marks").ok K),
  (fun K => (He.Fa.noat "Sight" "_cells").ok K),
  (fun K => (He.Fa.mkr "Sight").ok K),
  (fun K => (He.Fa.meth "Sight" "cell_of").ok K),
  (ckProp "Sight" "cells"),
  (ckRead "Sight"),
  (ckCm "Sight" "nothing"),
  (ckCm "Sight" "everything"),
  (ckOpr "Sight" "__and__"),
  (ckOpr "Sight" "__or__"),
  (ckOpr "Sight" "__eq__"),
  (ckNf "Sight" fun _ => .type "NoneType"),
  (ckNf "Sight" fun _ => .type "int"),
  (ckNf "Sight" fun _ => .type "bool"),
  (ckNf "Sight" fun _ => .type "list"),
  (ckNf "Sight" fun _ => .type "tuple"),
  (ckNf "Sight" fun _ => .type "str"),
  (ckNf "Sight" fun K => .ref (He.ga K "Sight")),
  (ckCl "Sight"),
  (ckIs (fun K => .ref (He.ga K "Sight")) (fun K => .ref (He.ga K "Sight")) true),
  (ckIs (fun K => .type "int") (fun K => .type "int") true),
  (ckIs (fun K => .type "int") (fun K => .type "bool") false),
  (ckIs (fun K => .type "tuple") (fun K => .type "tuple") true),
  (ckIs (fun K => .type "bool") (fun K => .type "bool") true),
  (ckIs (fun K => .ref (He.ga K "NoDeals")) (fun K => .ref (He.ga K "NoDeals")) true),
  (ckIs (fun K => .ref (He.ga K "NoDeals")) (fun K => .type "ValueError") true),
  (ckIs (fun K => .ref (He.ga K "SizesDiffer")) (fun K => .ref (He.ga K "SizesDiffer")) true),
  (ckIs (fun K => .ref (He.ga K "SizesDiffer")) (fun K => .type "ValueError") true),
  (ckIs (fun K => .ref (He.ga K "SizesDiffer")) (fun K => .ref (He.ga K "NoDeals")) false),
  (ckIs (fun K => .ref (He.ga K "SizesDiffer")) (fun K => .ref (He.ga K "BadLength")) false),
  (ckExm "NoDeals" "DealError" true),
  (ckEC "NoDeals"),
  (ckExm "SizesDiffer" "DealError" true),
  (ckEC "SizesDiffer"),
  (fun K => (He.Fa.exc "NoDeals").ok K),
  (ckOex "SizesDiffer"),
  (ckIni "SizesDiffer"),
  (fun K => (He.Fa.noat "SizesDiffer" "one").ok K),
  (fun K => (He.Fa.noat "SizesDiffer" "two").ok K),
  (fun K => (He.Fa.glo "check_equal_sizes").ok K),
  (fun K => (He.Fa.glo "fresh_cells").ok K),
  (fun K => (He.Fa.glo "fresh_deals").ok K),
  (fun K => (He.Fa.glo "distances").ok K),
  (fun K => (He.Fa.glo "next_step").ok K),
  (fun K => (He.Fa.glo "first_chain").ok K),
  (fun K => (He.Fa.glo "links").ok K),
  (fun K => (He.Fa.glo "reached").ok K),
  (fun K => (He.Fa.glo "is_closed").ok K),
  (fun K => (He.Fa.glo "renumbered").ok K),
  (fun K => (He.Fa.glo "listed_cells").ok K),
  (fun K => (He.Fa.glo "joined_marks").ok K),
  (fun K => (He.Fa.glo "check_sizes").ok K),
  (fun K => (He.Fa.glo "_law_whole").ok K),
  (fun K => (He.Fa.glo "_law_cell").ok K),
  (fun K => (He.Fa.glo "_law_digits").ok K),
  (fun K => (He.Fa.glo "_law_numbers").ok K),
  (fun K => (He.Fa.glo "_law_marks").ok K),
  (fun K => (He.Fa.glo "_law_draw").ok K),
  (fun K => (He.Fa.glo "_law_draw_long").ok K),
  (fun K => (He.Fa.glo "_law_alike").ok K),
  (fun K => (He.Fa.glo "_law_ways").ok K),
  (fun K => (He.Fa.glo "_law_is_chain").ok K),
  (fun K => (He.Fa.glo "_law_closed").ok K),
  (fun K => (He.Fa.glo "_law_sets").ok K),
  (fun K => (He.Fa.glo "_law_asks_sets").ok K),
  (fun K => (He.Fa.glo "_law_differs").ok K),
  (fun K => (He.Fa.glo "_law_raised").ok K),
  (fun K => (He.Fa.glo "_law_error").ok K),
  (fun K => (He.Fa.glo "_law_far").ok K),
  (fun K => (He.Fa.glo "law").ok K)]
def fn : List Df := [
  ⟨fun K => He.ma K (He.ga K "SizesDiffer") "__init__", "__init__", "SizesDiffer.__init__", sSizesDifferu__initu_, []⟩,
  ⟨fun K => He.ga K "check_equal_sizes", "check_equal_sizes", "check_equal_sizes", scheck_equal_sizes, []⟩,
  ⟨fun K => He.ga K "fresh_cells", "fresh_cells", "fresh_cells", sfresh_cells, []⟩,
  ⟨fun K => He.ga K "fresh_deals", "fresh_deals", "fresh_deals", sfresh_deals, []⟩,
  ⟨fun K => He.ga K "distances", "distances", "distances", sdistances, []⟩,
  ⟨fun K => He.ga K "next_step", "next_step", "next_step", snext_step, []⟩,
  ⟨fun K => He.ga K "first_chain", "first_chain", "first_chain", sfirst_chain, []⟩,
  ⟨fun K => He.ga K "links", "links", "links", slinks, []⟩,
  ⟨fun K => He.ga K "reached", "reached", "reached", sreached, []⟩,
  ⟨fun K => He.ga K "is_closed", "is_closed", "is_closed", sis_closed, []⟩,
  ⟨fun K => He.ga K "renumbered", "renumbered", "renumbered", srenumbered, []⟩,
  ⟨fun K => He.ga K "listed_cells", "listed_cells", "listed_cells", slisted_cells, []⟩,
  ⟨fun K => He.ga K "joined_marks", "joined_marks", "joined_marks", sjoined_marks, []⟩,
  ⟨fun K => He.ga K "check_sizes", "check_sizes", "check_sizes", scheck_sizes, []⟩,
  ⟨fun K => He.ma K (He.ga K "Sight") "__init__", "__init__", "Sight.__init__", sSightu__initu_, []⟩,
  ⟨fun K => recAt K "classmethod" "Sight" "nothing", "nothing", "Sight.nothing", sSight_nothing, []⟩,
  ⟨fun K => recAt K "classmethod" "Sight" "everything", "everything", "Sight.everything", sSight_everything, []⟩,
  ⟨fun K => recAt K "property" "Sight" "cells", "cells", "Sight.cells", sSight_cells, []⟩,
  ⟨fun K => He.ma K (He.ga K "Sight") "cell_of", "cell_of", "Sight.cell_of", sSight_cell_of, []⟩,
  ⟨fun K => He.ma K (He.ga K "Sight") "__and__", "__and__", "Sight.__and__", sSightu__andu_, []⟩,
  ⟨fun K => He.ma K (He.ga K "Sight") "__or__", "__or__", "Sight.__or__", sSightu__oru_, []⟩,
  ⟨fun K => He.ma K (He.ga K "Sight") "__eq__", "__eq__", "Sight.__eq__", sSightu__equ_, []⟩,
  ⟨fun K => He.ga K "_law_whole", "_law_whole", "_law_whole", s_law_whole, []⟩,
  ⟨fun K => He.ga K "_law_cell", "_law_cell", "_law_cell", s_law_cell, []⟩,
  ⟨fun K => He.ga K "_law_digits", "_law_digits", "_law_digits", s_law_digits, []⟩,
  ⟨fun K => He.ga K "_law_numbers", "_law_numbers", "_law_numbers", s_law_numbers, []⟩,
  ⟨fun K => He.ga K "_law_marks", "_law_marks", "_law_marks", s_law_marks, []⟩,
  ⟨fun K => He.ga K "_law_draw", "_law_draw", "_law_draw", s_law_draw, []⟩,
  ⟨fun K => He.ga K "_law_draw_long", "_law_draw_long", "_law_draw_long", s_law_draw_long, []⟩,
  ⟨fun K => He.ga K "_law_alike", "_law_alike", "_law_alike", s_law_alike, []⟩,
  ⟨fun K => He.ga K "_law_ways", "_law_ways", "_law_ways", s_law_ways, []⟩,
  ⟨fun K => He.ga K "_law_is_chain", "_law_is_chain", "_law_is_chain", s_law_is_chain, []⟩,
  ⟨fun K => He.ga K "_law_closed", "_law_closed", "_law_closed", s_law_closed, []⟩,
  ⟨fun K => He.ga K "_law_sets", "_law_sets", "_law_sets", s_law_sets, []⟩,
  ⟨fun K => He.ga K "_law_asks_sets", "_law_asks_sets", "_law_asks_sets", s_law_asks_sets, []⟩,
  ⟨fun K => He.ga K "_law_differs", "_law_differs", "_law_differs", s_law_differs, []⟩,
  ⟨fun K => He.ga K "_law_raised", "_law_raised", "_law_raised", s_law_raised, []⟩,
  ⟨fun K => He.ga K "_law_error", "_law_error", "_law_error", s_law_error, []⟩,
  ⟨fun K => He.ga K "_law_far", "_law_far", "_law_far", s_law_far, []⟩,
  ⟨fun K => He.ga K "law", "law", "law", slaw, []⟩]
theorem tx_of {K : PySem.W.Frag} {h : Heap} {mg : Str → Option Value} (X : K.In h) (G : h.Ns mainGlobals mg) (c : SaysM fa fn K) : Tx K mg where
  f_len := He.free_ok X G (c.fact 0)
  f_tuple := He.free_ok X G (c.fact 1)
  f_list := He.free_ok X G (c.fact 2)
  f_range := He.free_ok X G (c.fact 3)
  f_enumerate := He.free_ok X G (c.fact 4)
  f_zip := He.free_ok X G (c.fact 5)
  f_int := He.free_ok X G (c.fact 6)
  f_bool := He.free_ok X G (c.fact 7)
  f_max := He.free_ok X G (c.fact 8)
  f_min := He.free_ok X G (c.fact 9)
  f_abs := He.free_ok X G (c.fact 10)
  f_reversed := He.free_ok X G (c.fact 11)
  f_sorted := He.free_ok X G (c.fact 12)
  f_isinstance := He.free_ok X G (c.fact 13)
  f_ValueError := He.free_ok X G (c.fact 14)
  g_DealError := He.glo_ok X G (c.fact 15)
  g_NoDeals := He.glo_ok X G (c.fact 16)
  g_SizesDiffer := He.glo_ok X G (c.fact 17)
  g_BadLength := He.glo_ok X G (c.fact 18)
  g_Sight := He.glo_ok X G (c.fact 19)
  c_Sight := He.cls_ok (c.fact 20)
  n_size := He.noat_ok (c.fact 21)
  n_marks := He.noat_ok (c.fact 22)
  n_cells := He.noat_ok (c.fact 23)
  k_Sight := He.mkr_ok (c.fact 24)
  m_cell_of := He.meth_ok (c.fact 25)
  p_cells := ckProp_ok (c.fact 26)
  r_Sight := ckRead_ok (c.fact 27)
  cm_nothing := ckCm_ok (c.fact 28)
  cm_everything := ckCm_ok (c.fact 29)
  o_and := ckOpr_ok (c.fact 30)
  o_or := ckOpr_ok (c.fact 31)
  o_eq := ckOpr_ok (c.fact 32)
  nf_NoneType := (c.fact 33)
  nf_int := (c.fact 34)
  nf_bool := (c.fact 35)
  nf_list := (c.fact 36)
  nf_tuple := (c.fact 37)
  nf_str := (c.fact 38)
  nf_Sight := (c.fact 39)
  cl_Sight := ckCl_ok (c.fact 40)
  is_Sight_Sight := of_decide_eq_true (c.fact 41)
  is_int_int := of_decide_eq_true (c.fact 42)
  is_int_bool := of_decide_eq_true (c.fact 43)
  is_tuple_tuple := of_decide_eq_true (c.fact 44)
  is_bool_bool := of_decide_eq_true (c.fact 45)
  is_NoDeals_NoDeals := of_decide_eq_true (c.fact 46)
  is_NoDeals_ValueError := of_decide_eq_true (c.fact 47)
  is_SizesDiffer_SizesDiffer := of_decide_eq_true (c.fact 48)
  is_SizesDiffer_ValueError := of_decide_eq_true (c.fact 49)
  is_SizesDiffer_NoDeals := of_decide_eq_true (c.fact 50)
  is_SizesDiffer_BadLength := of_decide_eq_true (c.fact 51)
  x_NoDeals := of_decide_eq_true (c.fact 52)
  ec_NoDeals := ckEC_ok (c.fact 53)
  x_SizesDiffer := of_decide_eq_true (c.fact 54)
  ec_SizesDiffer := ckEC_ok (c.fact 55)
  e_NoDeals := He.exc_ok (c.fact 56)
  oe_SizesDiffer := ckOex_ok (c.fact 57)
  ie_SizesDiffer := ckIni_ok (c.fact 58)
  nS_one := He.noat_ok (c.fact 59)
  nS_two := He.noat_ok (c.fact 60)
  gd_check_equal_sizes := He.glo_ok X G (c.fact 61)
  gd_fresh_cells := He.glo_ok X G (c.fact 62)
  gd_fresh_deals := He.glo_ok X G (c.fact 63)
  gd_distances := He.glo_ok X G (c.fact 64)
  gd_next_step := He.glo_ok X G (c.fact 65)
  gd_first_chain := He.glo_ok X G (c.fact 66)
  gd_links := He.glo_ok X G (c.fact 67)
  gd_reached := He.glo_ok X G (c.fact 68)
  gd_is_closed := He.glo_ok X G (c.fact 69)
  gd_renumbered := He.glo_ok X G (c.fact 70)
  gd_listed_cells := He.glo_ok X G (c.fact 71)
  gd_joined_marks := He.glo_ok X G (c.fact 72)
  gd_check_sizes := He.glo_ok X G (c.fact 73)
  gd__law_whole := He.glo_ok X G (c.fact 74)
  gd__law_cell := He.glo_ok X G (c.fact 75)
  gd__law_digits := He.glo_ok X G (c.fact 76)
  gd__law_numbers := He.glo_ok X G (c.fact 77)
  gd__law_marks := He.glo_ok X G (c.fact 78)
  gd__law_draw := He.glo_ok X G (c.fact 79)
  gd__law_draw_long := He.glo_ok X G (c.fact 80)
  gd__law_alike := He.glo_ok X G (c.fact 81)
  gd__law_ways := He.glo_ok X G (c.fact 82)
  gd__law_is_chain := He.glo_ok X G (c.fact 83)
  gd__law_closed := He.glo_ok X G (c.fact 84)
  gd__law_sets := He.glo_ok X G (c.fact 85)
  gd__law_asks_sets := He.glo_ok X G (c.fact 86)
  gd__law_differs := He.glo_ok X G (c.fact 87)
  gd__law_raised := He.glo_ok X G (c.fact 88)
  gd__law_error := He.glo_ok X G (c.fact 89)
  gd__law_far := He.glo_ok X G (c.fact 90)
  gd_law := He.glo_ok X G (c.fact 91)
  d_SizesDifferu__initu_ := c.def_ 0
  d_check_equal_sizes := c.def_ 1
  d_fresh_cells := c.def_ 2
  d_fresh_deals := c.def_ 3
  d_distances := c.def_ 4
  d_next_step := c.def_ 5
  d_first_chain := c.def_ 6
  d_links := c.def_ 7
  d_reached := c.def_ 8
  d_is_closed := c.def_ 9
  d_renumbered := c.def_ 10
  d_listed_cells := c.def_ 11
  d_joined_marks := c.def_ 12
  d_check_sizes := c.def_ 13
  d_Sightu__initu_ := c.def_ 14
  d_Sight_nothing := c.def_ 15
  d_Sight_everything := c.def_ 16
  d_Sight_cells := c.def_ 17
  d_Sight_cell_of := c.def_ 18
  d_Sightu__andu_ := c.def_ 19
  d_Sightu__oru_ := c.def_ 20
  d_Sightu__equ_ := c.def_ 21
  d__law_whole := c.def_ 22
  d__law_cell := c.def_ 23
  d__law_digits := c.def_ 24
  d__law_numbers := c.def_ 25
  d__law_marks := c.def_ 26
  d__law_draw := c.def_ 27
  d__law_draw_long := c.def_ 28
  d__law_alike := c.def_ 29
  d__law_ways := c.def_ 30
  d__law_is_chain := c.def_ 31
  d__law_closed := c.def_ 32
  d__law_sets := c.def_ 33
  d__law_asks_sets := c.def_ 34
  d__law_differs := c.def_ 35
  d__law_raised := c.def_ 36
  d__law_error := c.def_ 37
  d__law_far := c.def_ 38
  d_law := c.def_ 39
theorem Tx.a_check_equal_sizes {K : PySem.W.Frag} {mg : Str → Option Value} (T : Tx K mg) : At K mg "check_equal_sizes" scheck_equal_sizes := ⟨T.d_check_equal_sizes, T.gd_check_equal_sizes⟩
theorem Tx.a_fresh_cells {K : PySem.W.Frag} {mg : Str → Option Value} (T : Tx K mg) : At K mg "fresh_cells" sfresh_cells := ⟨T.d_fresh_cells, T.gd_fresh_cells⟩
theorem Tx.a_fresh_deals {K : PySem.W.Frag} {mg : Str → Option Value} (T : Tx K mg) : At K mg "fresh_deals" sfresh_deals := ⟨T.d_fresh_deals, T.gd_fresh_deals⟩
theorem Tx.a_distances {K : PySem.W.Frag} {mg : Str → Option Value} (T : Tx K mg) : At K mg "distances" sdistances := ⟨T.d_distances, T.gd_distances⟩
theorem Tx.a_next_step {K : PySem.W.Frag} {mg : Str → Option Value} (T : Tx K mg) : At K mg "next_step" snext_step := ⟨T.d_next_step, T.gd_next_step⟩
theorem Tx.a_first_chain {K : PySem.W.Frag} {mg : Str → Option Value} (T : Tx K mg) : At K mg "first_chain" sfirst_chain := ⟨T.d_first_chain, T.gd_first_chain⟩
theorem Tx.a_links {K : PySem.W.Frag} {mg : Str → Option Value} (T : Tx K mg) : At K mg "links" slinks := ⟨T.d_links, T.gd_links⟩
theorem Tx.a_reached {K : PySem.W.Frag} {mg : Str → Option Value} (T : Tx K mg) : At K mg "reached" sreached := ⟨T.d_reached, T.gd_reached⟩
theorem Tx.a_is_closed {K : PySem.W.Frag} {mg : Str → Option Value} (T : Tx K mg) : At K mg "is_closed" sis_closed := ⟨T.d_is_closed, T.gd_is_closed⟩
theorem Tx.a_renumbered {K : PySem.W.Frag} {mg : Str → Option Value} (T : Tx K mg) : At K mg "renumbered" srenumbered := ⟨T.d_renumbered, T.gd_renumbered⟩
theorem Tx.a_listed_cells {K : PySem.W.Frag} {mg : Str → Option Value} (T : Tx K mg) : At K mg "listed_cells" slisted_cells := ⟨T.d_listed_cells, T.gd_listed_cells⟩
theorem Tx.a_joined_marks {K : PySem.W.Frag} {mg : Str → Option Value} (T : Tx K mg) : At K mg "joined_marks" sjoined_marks := ⟨T.d_joined_marks, T.gd_joined_marks⟩
theorem Tx.a_check_sizes {K : PySem.W.Frag} {mg : Str → Option Value} (T : Tx K mg) : At K mg "check_sizes" scheck_sizes := ⟨T.d_check_sizes, T.gd_check_sizes⟩
theorem Tx.a__law_whole {K : PySem.W.Frag} {mg : Str → Option Value} (T : Tx K mg) : At K mg "_law_whole" s_law_whole := ⟨T.d__law_whole, T.gd__law_whole⟩
theorem Tx.a__law_cell {K : PySem.W.Frag} {mg : Str → Option Value} (T : Tx K mg) : At K mg "_law_cell" s_law_cell := ⟨T.d__law_cell, T.gd__law_cell⟩
theorem Tx.a__law_digits {K : PySem.W.Frag} {mg : Str → Option Value} (T : Tx K mg) : At K mg "_law_digits" s_law_digits := ⟨T.d__law_digits, T.gd__law_digits⟩
theorem Tx.a__law_numbers {K : PySem.W.Frag} {mg : Str → Option Value} (T : Tx K mg) : At K mg "_law_numbers" s_law_numbers := ⟨T.d__law_numbers, T.gd__law_numbers⟩
theorem Tx.a__law_marks {K : PySem.W.Frag} {mg : Str → Option Value} (T : Tx K mg) : At K mg "_law_marks" s_law_marks := ⟨T.d__law_marks, T.gd__law_marks⟩
theorem Tx.a__law_draw {K : PySem.W.Frag} {mg : Str → Option Value} (T : Tx K mg) : At K mg "_law_draw" s_law_draw := ⟨T.d__law_draw, T.gd__law_draw⟩
theorem Tx.a__law_draw_long {K : PySem.W.Frag} {mg : Str → Option Value} (T : Tx K mg) : At K mg "_law_draw_long" s_law_draw_long := ⟨T.d__law_draw_long, T.gd__law_draw_long⟩
theorem Tx.a__law_alike {K : PySem.W.Frag} {mg : Str → Option Value} (T : Tx K mg) : At K mg "_law_alike" s_law_alike := ⟨T.d__law_alike, T.gd__law_alike⟩
theorem Tx.a__law_ways {K : PySem.W.Frag} {mg : Str → Option Value} (T : Tx K mg) : At K mg "_law_ways" s_law_ways := ⟨T.d__law_ways, T.gd__law_ways⟩
theorem Tx.a__law_is_chain {K : PySem.W.Frag} {mg : Str → Option Value} (T : Tx K mg) : At K mg "_law_is_chain" s_law_is_chain := ⟨T.d__law_is_chain, T.gd__law_is_chain⟩
theorem Tx.a__law_closed {K : PySem.W.Frag} {mg : Str → Option Value} (T : Tx K mg) : At K mg "_law_closed" s_law_closed := ⟨T.d__law_closed, T.gd__law_closed⟩
theorem Tx.a__law_sets {K : PySem.W.Frag} {mg : Str → Option Value} (T : Tx K mg) : At K mg "_law_sets" s_law_sets := ⟨T.d__law_sets, T.gd__law_sets⟩
theorem Tx.a__law_asks_sets {K : PySem.W.Frag} {mg : Str → Option Value} (T : Tx K mg) : At K mg "_law_asks_sets" s_law_asks_sets := ⟨T.d__law_asks_sets, T.gd__law_asks_sets⟩
theorem Tx.a__law_differs {K : PySem.W.Frag} {mg : Str → Option Value} (T : Tx K mg) : At K mg "_law_differs" s_law_differs := ⟨T.d__law_differs, T.gd__law_differs⟩
theorem Tx.a__law_raised {K : PySem.W.Frag} {mg : Str → Option Value} (T : Tx K mg) : At K mg "_law_raised" s_law_raised := ⟨T.d__law_raised, T.gd__law_raised⟩
theorem Tx.a__law_error {K : PySem.W.Frag} {mg : Str → Option Value} (T : Tx K mg) : At K mg "_law_error" s_law_error := ⟨T.d__law_error, T.gd__law_error⟩
theorem Tx.a__law_far {K : PySem.W.Frag} {mg : Str → Option Value} (T : Tx K mg) : At K mg "_law_far" s_law_far := ⟨T.d__law_far, T.gd__law_far⟩
theorem Tx.a_law {K : PySem.W.Frag} {mg : Str → Option Value} (T : Tx K mg) : At K mg "law" slaw := ⟨T.d_law, T.gd_law⟩
end K02
set_option Elab.async false
set_option linter.all false
set_option maxRecDepth 100000
set_option maxHeartbeats 4000000
/-! d.setdefault(t, x) where the keys are tuples. -/
namespace Ms
open PySem PySem.Spec PyProof.Rows L2
section
variable {X : Cx} {pins : List (Addr × Obj)} {σ : St} {H : Hp} {s : Shared} {a b : Addr} {r : Value} {d : V} {k : List Key} {A : Around} {E : Value → Shared → Prop}
theorem d_setdT {kvs : List (List Key × V)} {Q : Value → Shared → Prop} (hu : A.units + 1 < cLine) (I : Inv X pins σ H s) (e : H a = some (.dT kvs)) (eb : H b = some (.tup (k.map kV))) (rd : RelV d r) (hl : kvs.length < sizeLine)
    (h1 : ∀ v, valV kvs k = some v → ∀ (w' : Value) (s' : Shared), Inv X pins σ H s' → RelV v w' → Q w' s')
    (h2 : valV kvs k = none → ∀ (w' : Value) (s' : Shared), Inv X pins σ (upd H a (.dT (putK kvs k d))) s' → RelV d w' → Q w' s') :
    wpAny (model X.prog X.w) A (call (.builtin "dict.setdefault") [.ref a, .ref b, r]) Q E s := by
  obtain ⟨z, hd, xs, rel, dd⟩ := dt_of I.hok e
  have hz : xs.length ≤ sizeLine := by rw [← Paired.length rel]; exact z
  refine call_setdefault_heap (hsz := hz) (knd := tupleKind (mixKind X.prog X.w)) (tupleKind_room_in1 hu) (key_of I.hok eb) hd dd (fun p hp => ?_) fun hn h' dd' hs => ?_
  · have q := rel.val k
    rw [hp] at q
    cases q0 : valV kvs k with
    | none =>
      rw [q0] at q
      exact (show False from q).elim
    | some v0 =>
      rw [q0] at q
      exact h1 v0 q0 _ _ (I.tok _) q
  · have q := rel.val k
    rw [hn] at q
    cases q0 : valV kvs k with
    | some v0 =>
      rw [q0] at q
      exact (show False from q).elim
    | none =>
      have hl2 : (putK kvs k d).length ≤ sizeLine := by
        have := length_putK kvs k d
        omega
      obtain ⟨q, es, ep, hq, g2, g3, g4, _, g5⟩ := dd'
      refine h2 q0 _ _ (d_write I (by rw [e]; exact True.intro) hs ⟨q, hq⟩ ⟨hl2, hd, _, (rel.put k eb rd).keeps fun c ys ec => ?_, q, es, ep, hq, g2, g3, g4, g5⟩) rd
      rw [upd_ne (ne_of ec e (fun z => nomatch z))]
      exact ec
end
/-- d.setdefault(y, z), y a tuple -/
def tDSetdT (td ty tx : TE) : TE := fun σ H Q => td σ H fun x H1 => ∃ a, x = .ref a ∧ IsD H1 a ∧ ty σ H1 fun y H2 => tx σ H2 fun z H3 => ∃ (kvs : List (List Key × V)) (k : List Key) (b : Addr), H3 a = some (.dT kvs) ∧ y = .ref b ∧ H3 b = some (.tup (k.map kV)) ∧ kvs.length < sizeLine ∧
  (∀ v, valV kvs k = some v → Q v H3) ∧ (valV kvs k = none → Q z (upd H3 a (.dT (putK kvs k z))))
section
variable {X : Cx} {o e f : Expr} {td ty tx : TE} {apos cpos : Pos}
theorem pe_dsetdT (hu : X.A.units + 1 < cLine) (ho : PE X o td) (he : PE X e ty) (hf : PE X f tx) (m : M2 X o "setdefault" apos e f cpos) : PE X (.Call (.Attribute o "setdefault" apos) [e, f] [] cpos) (tDSetdT td ty tx) := by
  refine ⟨fun pins s σ H Q I h => ?_⟩
  refine wpAny_Call_method m.base m.few m.line PySem.F.plainAttrs_dict PySem.F.slot_dict_setdefault PySem.F.type_dict_setdefault (thn (ho.run pins s σ H _ I h) fun u s1 ⟨x, H1, I1, rx, a, ex, d, q1⟩ => ?_)
  subst ex
  obtain rfl : u = Value.ref a := rx
  obtain ⟨t1, t2, _⟩ := isD_at I1 d
  refine ⟨t1, t2, ?_⟩
  rw [m.trees]
  refine Calls.callWith_builtin rfl (Calls.evalArgs_plain (Calls.spliced_cons (thn (he.run pins s1 σ H1 _ I1 q1) fun iv s2 ⟨y, H2, I2, ry, q2⟩ =>
    Calls.spliced_cons (thn (hf.run pins s2 σ H2 _ I2 q2) fun fv s3 ⟨z, H3, I3, rz, kvs, k, b, ea, ey, eb, hl, q3, q4⟩ => Calls.spliced_nil ?_))))
  subst ey
  obtain rfl : iv = Value.ref b := ry
  exact d_setdT hu I3 ea eb rz hl (fun v hv w' s4 I4 rw' => ⟨v, _, I4, rw', q3 v hv⟩) fun hn w' s4 I4 rw' => ⟨z, _, I4, rw', q4 hn⟩
end
end Ms
set_option Elab.async false
set_option linter.all false
set_option maxRecDepth 100000
set_option maxHeartbeats 4000000
/-! Ms, plain: numbers by first places, cells. -/
namespace Ms
theorem snoc_ind {α : Type} {C : List α → Prop} (h0 : C []) (hs : ∀ l a, C l → C (l ++ [a])) : ∀ l, C l := fun l => by
  have h : ∀ n (l : List α), l.length = n → C l := fun n => by
    induction n with
    | zero => intro l hl; rw [List.length_eq_zero_iff.mp hl]; exact h0
    | succ n ih =>
      intro l hl
      have ne : l ≠ [] := by intro z; rw [z] at hl; cases hl
      rw [← List.dropLast_concat_getLast ne]
      exact hs _ _ (ih _ (by rw [List.length_dropLast, hl]; rfl))
  exact h _ l rfl
section
variable {κ ι : Type} [DecidableEq κ] [DecidableEq ι]
/-- each once, by first places -/
def firsts (ks : List κ) : List κ := ks.foldl (fun acc k => if k ∈ acc then acc else acc ++ [k]) []
def ren (ks : List κ) : List Nat := ks.map fun k => (firsts ks).idxOf k
theorem firsts_nil : firsts ([] : List κ) = [] := rfl
theorem firsts_snoc (ks : List κ) (k : κ) : firsts (ks ++ [k]) = if k ∈ firsts ks then firsts ks else firsts ks ++ [k] := by
  unfold firsts
  rw [List.foldl_append] <;> rfl
theorem mem_firsts (ks : List κ) : ∀ k : κ, k ∈ firsts ks ↔ k ∈ ks := by
  induction ks using snoc_ind with
  | h0 => intro k; simp [firsts_nil]
  | hs l a ih =>
    intro k
    rw [firsts_snoc]
    by_cases h : a ∈ firsts l
    · rw [if_pos h, ih, List.mem_append, List.mem_singleton]
      exact ⟨.inl, fun z => z.elim id fun e => by rw [e]; exact (ih a).mp h⟩
    · rw [if_neg h, List.mem_append, List.mem_append, ih]
theorem firsts_nodup (ks : List κ) : (firsts ks).Nodup := by
  induction ks using snoc_ind with
  | h0 => exact List.nodup_nil
  | hs l a ih =>
    rw [firsts_snoc]
    by_cases h : a ∈ firsts l
    · rw [if_pos h]; exact ih
    · rw [if_neg h]
      exact List.nodup_append.mpr ⟨ih, List.nodup_cons.mpr ⟨List.not_mem_nil, List.nodup_nil⟩, fun x hx y hy e => h (by rw [List.mem_singleton] at hy; rw [← hy, ← e]; exact hx)⟩
theorem firsts_old {l : List κ} {k : κ} (h : k ∈ l) : firsts (l ++ [k]) = firsts l := by rw [firsts_snoc, if_pos ((mem_firsts l k).mpr h)]
theorem firsts_new {l : List κ} {k : κ} (h : ¬ k ∈ l) : firsts (l ++ [k]) = firsts l ++ [k] := by rw [firsts_snoc, if_neg fun z => h ((mem_firsts l k).mp z)]
theorem ix_snoc {l : List κ} {k j : κ} (h : j ∈ l) : (firsts (l ++ [k])).idxOf j = (firsts l).idxOf j := by
  by_cases hk : k ∈ l
  · rw [firsts_old hk]
  · rw [firsts_new hk, List.idxOf_append, if_pos ((mem_firsts l j).mpr h)]
theorem ix_self (l : List κ) (k : κ) : (firsts (l ++ [k])).idxOf k = (firsts l).idxOf k := by
  by_cases hk : k ∈ l
  · rw [firsts_old hk]
  · have hn : ¬ k ∈ firsts l := fun z => hk ((mem_firsts l k).mp z)
    rw [firsts_new hk, List.idxOf_append, if_neg hn, List.idxOf_eq_length hn]
    simp
theorem ren_snoc (l : List κ) (k : κ) : ren (l ++ [k]) = ren l ++ [(firsts l).idxOf k] := by
  unfold ren
  rw [List.map_append, List.map_singleton, ix_self]
  congr 1
  exact List.map_congr_left fun j hj => ix_snoc hj
theorem ren_nil : ren ([] : List κ) = [] := rfl
theorem ren_len (l : List κ) : (ren l).length = l.length := List.length_map ..
theorem ren_at {l : List κ} {i : Nat} {k : κ} (h : l[i]? = some k) : (ren l)[i]? = some ((firsts l).idxOf k) := by
  unfold ren
  rw [List.getElem?_map, h] <;> rfl
theorem ix_lt {l : List κ} {k : κ} (h : k ∈ l) : (firsts l).idxOf k < (firsts l).length := List.idxOf_lt_length_of_mem ((mem_firsts l k).mpr h)
theorem ix_inj {l : List κ} {k j : κ} (hk : k ∈ l) (hj : j ∈ l) (e : (firsts l).idxOf k = (firsts l).idxOf j) : k = j := by
  have h1 := List.getElem_idxOf (ix_lt hk)
  have h2 := List.getElem_idxOf (ix_lt hj)
  rw [← h1, ← h2]
  simp only [e]
/-- the pattern of equal places -/
def Alike (ks : List κ) (js : List ι) : Prop := ks.length = js.length ∧ ∀ (i j : Nat) (a b : κ) (c d : ι), ks[i]? = some a → ks[j]? = some b → js[i]? = some c → js[j]? = some d → (a = b ↔ c = d)
theorem Alike.symm {ks : List κ} {js : List ι} (h : Alike ks js) : Alike js ks := ⟨h.1.symm, fun i j a b c d h1 h2 h3 h4 => (h.2 i j c d a b h3 h4 h1 h2).symm⟩
theorem getE {α : Type} {l : List α} {i : Nat} (h : i < l.length) : l[i]? = some l[i] := List.getElem?_eq_getElem h
theorem ltE {α : Type} {l : List α} {i : Nat} {a : α} (h : l[i]? = some a) : i < l.length := (List.getElem?_eq_some_iff.mp h).1
theorem Alike.trans {μ : Type} [DecidableEq μ] {ks : List κ} {js : List ι} {ms : List μ} (h : Alike ks js) (g : Alike js ms) : Alike ks ms := ⟨h.1.trans g.1, fun i j a b c d h1 h2 h3 h4 => by
  have li : i < js.length := h.1 ▸ ltE h1
  have lj : j < js.length := h.1 ▸ ltE h2
  exact (h.2 i j _ _ _ _ h1 h2 (getE li) (getE lj)).trans (g.2 i j _ _ _ _ (getE li) (getE lj) h3 h4)⟩
theorem alike_ren (l : List κ) : Alike l (ren l) := ⟨(ren_len l).symm, fun i j a b c d h1 h2 h3 h4 => by
  rw [ren_at h1] at h3
  rw [ren_at h2] at h4
  rw [← Option.some.inj h3, ← Option.some.inj h4]
  exact ⟨fun e => by rw [e], fun e => ix_inj (List.mem_of_getElem? h1) (List.mem_of_getElem? h2) e⟩⟩
theorem alike_map {l : List κ} {f : κ → ι} (hf : ∀ a b, f a = f b → a = b) : Alike l (l.map f) := ⟨(List.length_map ..).symm, fun i j a b c d h1 h2 h3 h4 => by
  rw [List.getElem?_map, h1] at h3
  rw [List.getElem?_map, h2] at h4
  rw [← Option.some.inj h3, ← Option.some.inj h4]
  exact ⟨fun e => by rw [e], hf a b⟩⟩
theorem Alike.init {l : List κ} {k : κ} {m : List ι} {j : ι} (h : Alike (l ++ [k]) (m ++ [j])) : Alike l m := by
  obtain ⟨e, h⟩ := h
  have e' : l.length = m.length := by simpa using e
  refine ⟨e', fun p q a b c d h1 h2 h3 h4 => ?_⟩
  have up : ∀ {α : Type} {x : List α} {y a : α} {p : Nat}, x[p]? = some a → (x ++ [y])[p]? = some a := fun {α x y a p} z => by rw [List.getElem?_append_left (ltE z)]; exact z
  exact h p q a b c d (up h1) (up h2) (up h3) (up h4)
theorem ren_alike {ks : List κ} : ∀ {js : List ι}, Alike ks js → ren ks = ren js ∧ (firsts ks).length = (firsts js).length := by
  induction ks using snoc_ind with
  | h0 =>
    intro js h
    have e : js = [] := List.length_eq_zero_iff.mp h.1.symm
    rw [e]
    exact ⟨rfl, rfl⟩
  | hs l k ih =>
    intro js h
    have ne : js ≠ [] := fun z => by have := h.1; rw [z, List.length_append] at this; simp at this
    obtain ⟨m, j, rfl⟩ : ∃ m j, js = m ++ [j] := ⟨_, _, (List.dropLast_concat_getLast ne).symm⟩
    obtain ⟨r1, r2⟩ := ih h.init
    have el : l.length = m.length := h.init.1
    have last1 : (l ++ [k])[l.length]? = some k := by simp
    have last2 : (m ++ [j])[l.length]? = some j := by rw [el]; simp
    have up : ∀ {α : Type} {x : List α} {y a : α} {p : Nat}, x[p]? = some a → (x ++ [y])[p]? = some a := fun {α x y a p} z => by rw [List.getElem?_append_left (ltE z)]; exact z
    rw [ren_snoc, ren_snoc, r1]
    by_cases hk : k ∈ l
    · obtain ⟨p, hp⟩ := List.mem_iff_getElem?.mp hk
      have hp2 : p < m.length := el ▸ ltE hp
      have ej : m[p] = j := (h.2 p l.length k k _ _ (up hp) last1 (up (getE hp2)) last2).mp rfl
      have gj : m[p]? = some j := by rw [getE hp2, ej]
      have hj : j ∈ m := List.mem_of_getElem? gj
      have a1 := ren_at hp
      have a2 := ren_at gj
      rw [r1, a2] at a1
      rw [firsts_old hk, firsts_old hj, Option.some.inj a1]
      exact ⟨rfl, r2⟩
    · have hj : ¬ j ∈ m := fun z => by
        obtain ⟨p, hp⟩ := List.mem_iff_getElem?.mp z
        have hp2 : p < l.length := el ▸ ltE hp
        have ek : l[p] = k := (h.2 p l.length _ _ j j (up (getE hp2)) last1 (up hp) last2).mpr rfl
        exact hk (ek ▸ List.getElem_mem hp2)
      rw [firsts_new hk, firsts_new hj, List.idxOf_eq_length fun z => hk ((mem_firsts l k).mp z), List.idxOf_eq_length fun z => hj ((mem_firsts m j).mp z), r2]
      exact ⟨rfl, by rw [List.length_append, List.length_append, r2] <;> rfl⟩
theorem ren_ren (l : List κ) : ren (ren l) = ren l := (ren_alike (alike_ren l).symm).1
theorem ren_map {l : List κ} {f : κ → ι} (hf : ∀ a b, f a = f b → a = b) : ren (l.map f) = ren l := (ren_alike (alike_map hf).symm).1
/-- a row of numbers as a sight holds it -/
def Row (r : List Nat) : Prop := ren r = r
theorem row_ren (l : List κ) : Row (ren l) := ren_ren l
theorem firsts_ren (l : List κ) : firsts (ren l) = List.range (firsts l).length := by
  induction l using snoc_ind with
  | h0 => rfl
  | hs l k ih =>
    rw [ren_snoc]
    by_cases hk : k ∈ l
    · rw [firsts_old hk, firsts_old, ih]
      obtain ⟨p, hp⟩ := List.mem_iff_getElem?.mp hk
      exact List.mem_of_getElem? (ren_at hp)
    · have e := List.idxOf_eq_length fun z => hk ((mem_firsts l k).mp z)
      rw [e, firsts_new, ih, firsts_new hk, List.length_append, List.length_singleton, List.range_succ]
      intro z
      rw [← mem_firsts, ih, List.mem_range] at z
      exact Nat.lt_irrefl _ z
theorem ren_lt {l : List κ} {n : Nat} (h : n ∈ ren l) : n < (firsts l).length := by
  rw [← mem_firsts, firsts_ren, List.mem_range] at h
  exact h
theorem firsts_le (l : List κ) : (firsts l).length ≤ l.length := by
  induction l using snoc_ind with
  | h0 => exact Nat.le_refl _
  | hs l k ih =>
    rw [firsts_snoc, List.length_append, List.length_singleton]
    by_cases h : k ∈ firsts l
    · rw [if_pos h]; omega
    · rw [if_neg h, List.length_append, List.length_singleton]; omega
/-- where m stands -/
def places (m : κ) (ks : List κ) : List Nat := (List.range ks.length).filter fun i => decide (ks[i]? = some m)
def cellsOf (ks : List κ) : List (List Nat) := (firsts ks).map fun m => places m ks
theorem places_snoc (m : κ) (l : List κ) (k : κ) : places m (l ++ [k]) = if m = k then places m l ++ [l.length] else places m l := by
  unfold places
  rw [List.length_append, List.length_singleton, List.range_succ, List.filter_append]
  have e : (List.range l.length).filter (fun i => decide ((l ++ [k])[i]? = some m)) = (List.range l.length).filter fun i => decide (l[i]? = some m) := by
    refine List.filter_congr fun i hi => ?_
    rw [List.getElem?_append_left (List.mem_range.mp hi)]
  rw [e]
  by_cases h : m = k
  · rw [if_pos h, h]; simp
  · rw [if_neg h]
    have : ¬ k = m := fun z => h z.symm
    simp [this]
theorem places_out {m : κ} {l : List κ} (h : ¬ m ∈ l) : places m l = [] := by
  unfold places
  rw [List.filter_eq_nil_iff]
  intro i _
  simp only [decide_eq_true_eq]
  exact fun z => h (List.mem_of_getElem? z)
end
end Ms
set_option Elab.async false
set_option linter.all false
set_option maxRecDepth 100000
set_option maxHeartbeats 4000000
/-! Ms, plain: cells joined where they meet. -/
namespace Ms
inductive Eqv (G : Nat → Nat → Prop) : Nat → Nat → Prop where
  | of {a b : Nat} (h : G a b) : Eqv G a b
  | refl (a : Nat) : Eqv G a a
  | symm {a b : Nat} (h : Eqv G a b) : Eqv G b a
  | trans {a b c : Nat} (h : Eqv G a b) (g : Eqv G b c) : Eqv G a c
theorem Eqv.mono {G G' : Nat → Nat → Prop} (h : ∀ p q, G p q → Eqv G' p q) {a b : Nat} (e : Eqv G a b) : Eqv G' a b := by
  induction e with
  | of g => exact h _ _ g
  | refl a => exact .refl a
  | symm _ ih => exact ih.symm
  | trans _ _ i1 i2 => exact i1.trans i2
/-- two classes made one -/
def Mg (R : Nat → Nat → Prop) (u i a b : Nat) : Prop := R a b ∨ (R a u ∧ R i b) ∨ (R a i ∧ R u b)
theorem eqv_step {G G' : Nat → Nat → Prop} {u i : Nat} (h1 : ∀ p q, G p q → Eqv G' p q) (h2 : Eqv G' u i) (h3 : ∀ p q, G' p q → Mg (Eqv G) u i p q) (a b : Nat) : Eqv G' a b ↔ Mg (Eqv G) u i a b := by
  constructor
  · intro e
    induction e with
    | of g => exact h3 _ _ g
    | refl a => exact .inl (.refl a)
    | symm _ ih =>
      rcases ih with h | ⟨h, k⟩ | ⟨h, k⟩
      · exact .inl h.symm
      · exact .inr (.inr ⟨k.symm, h.symm⟩)
      · exact .inr (.inl ⟨k.symm, h.symm⟩)
    | trans _ _ i1 i2 =>
      rcases i1 with h | ⟨h, k⟩ | ⟨h, k⟩
      · rcases i2 with h' | ⟨h', k'⟩ | ⟨h', k'⟩
        · exact .inl (h.trans h')
        · exact .inr (.inl ⟨h.trans h', k'⟩)
        · exact .inr (.inr ⟨h.trans h', k'⟩)
      · rcases i2 with h' | ⟨h', k'⟩ | ⟨h', k'⟩
        · exact .inr (.inl ⟨h, k.trans h'⟩)
        · exact .inr (.inl ⟨h, k'⟩)
        · exact .inl (h.trans k')
      · rcases i2 with h' | ⟨h', k'⟩ | ⟨h', k'⟩
        · exact .inr (.inr ⟨h, k.trans h'⟩)
        · exact .inl (h.trans k')
        · exact .inr (.inr ⟨h, k'⟩)
  · have up : ∀ {p q}, Eqv G p q → Eqv G' p q := fun {p q} e => e.mono h1
    rintro (h | ⟨h, k⟩ | ⟨h, k⟩)
    · exact up h
    · exact ((up h).trans h2).trans (up k)
    · exact ((up h).trans h2.symm).trans (up k)
section
variable {κ ι : Type} [DecidableEq κ] [DecidableEq ι]
/-- places below m alike in one, places below n alike in two -/
def Gn (one : List κ) (m : Nat) (two : List ι) (n : Nat) (p q : Nat) : Prop := (p < m ∧ q < m ∧ one[p]? = one[q]?) ∨ (p < n ∧ q < n ∧ two[p]? = two[q]?)
theorem gn_swap {one : List κ} {two : List ι} {m n p q : Nat} : Gn one m two n p q ↔ Gn two n one m p q := Or.comm
/-- the first place of x -/
def ix1 (two : List ι) (x : ι) : Nat := two.idxOf x
theorem idx_first {two : List ι} {i : Nat} {x : ι} (h : two[i]? = some x) : ix1 two x ≤ i ∧ two[ix1 two x]? = some x := by
  unfold ix1
  have hx : x ∈ two := List.mem_of_getElem? h
  have l := List.idxOf_lt_length_of_mem hx
  refine ⟨?_, by rw [getE l, List.getElem_idxOf l]⟩
  rcases Nat.lt_or_ge i (two.idxOf x) with g | g
  · exfalso
    have q := List.not_of_lt_findIdx (p := fun y => y == x) (xs := two) (i := i) (by unfold List.idxOf at g; exact g)
    have li := ltE h
    rw [getE li] at h
    rw [Option.some.inj h] at q
    simp at q
  · exact g
/-- one more place of two -/
theorem gn_two {one : List κ} {two : List ι} {m i : Nat} {x : ι} (h : two[i]? = some x) (a b : Nat) : Eqv (Gn one m two (i + 1)) a b ↔ Mg (Eqv (Gn one m two i)) (ix1 two x) i a b := by
  obtain ⟨l, e⟩ := idx_first h
  refine eqv_step (fun p q g => .of ?_) (.of (.inr ⟨by omega, by omega, by rw [e, h]⟩)) (fun p q g => ?_) a b
  · rcases g with ⟨h1, h2, h3⟩ | ⟨h1, h2, h3⟩
    · exact .inl ⟨h1, h2, h3⟩
    · exact .inr ⟨by omega, by omega, h3⟩
  · rcases g with ⟨h1, h2, h3⟩ | ⟨h1, h2, h3⟩
    · exact .inl (.of (.inl ⟨h1, h2, h3⟩))
    · have key : ∀ q, q < i → two[q]? = some x → Eqv (Gn one m two i) (ix1 two x) q := fun q hq hx => by
        obtain ⟨l2, _⟩ := idx_first hx
        exact .of (.inr ⟨by omega, hq, by rw [e, hx]⟩)
      rcases Nat.lt_or_ge p i with hp | hp
      · rcases Nat.lt_or_ge q i with hq | hq
        · exact .inl (.of (.inr ⟨hp, hq, h3⟩))
        · have eq : q = i := by omega
          subst eq
          exact .inr (.inl ⟨(key p hp (by rw [h3, h])).symm, .refl _⟩)
      · have ep : p = i := by omega
        subst ep
        rcases Nat.lt_or_ge q p with hq | hq
        · exact .inr (.inr ⟨.refl _, key q hq (by rw [← h3, h])⟩)
        · have eq : q = p := by omega
          rw [eq]
          exact .inl (.refl _)
theorem gn_one {one : List κ} {two : List ι} {n i : Nat} {x : κ} (h : one[i]? = some x) (a b : Nat) : Eqv (Gn one (i + 1) two n) a b ↔ Mg (Eqv (Gn one i two n)) (ix1 one x) i a b := by
  have sw : ∀ m a b, Eqv (Gn one m two n) a b ↔ Eqv (Gn two n one m) a b := fun m a b => ⟨fun e => e.mono fun p q g => .of (gn_swap.mp g), fun e => e.mono fun p q g => .of (gn_swap.mpr g)⟩
  rw [sw, gn_two h]
  unfold Mg
  rw [← sw, ← sw, ← sw, ← sw, ← sw]
/-- the places that both rows join -/
def Jn (one : List κ) (two : List ι) (a b : Nat) : Prop := Eqv (Gn one one.length two two.length) a b
theorem jn_swap {one : List κ} {two : List ι} {a b : Nat} : Jn one two a b ↔ Jn two one a b :=
  ⟨fun e => e.mono fun p q g => .of (gn_swap.mp g), fun e => e.mono fun p q g => .of (gn_swap.mpr g)⟩
/-- a row whose places are alike where the two rows are joined -/
def Joins {μ : Type} (one : List κ) (two : List ι) (r : List μ) : Prop := r.length = one.length ∧ ∀ (i j : Nat) (a b : μ), r[i]? = some a → r[j]? = some b → (a = b ↔ Jn one two i j)
theorem Joins.alike {μ ν : Type} [DecidableEq μ] [DecidableEq ν] {one : List κ} {two : List ι} {r : List μ} {t : List ν} (h : Joins one two r) (g : Joins one two t) : Alike r t := ⟨h.1.trans g.1.symm, fun i j a b c d h1 h2 h3 h4 => (h.2 i j a b h1 h2).trans (g.2 i j c d h3 h4).symm⟩
theorem Joins.swap {μ : Type} {one : List κ} {two : List ι} {r : List μ} (e : one.length = two.length) (h : Joins one two r) : Joins two one r := ⟨h.1.trans e, fun i j a b h1 h2 => (h.2 i j a b h1 h2).trans jn_swap⟩
theorem Joins.ren {μ : Type} [DecidableEq μ] {one : List κ} {two : List ι} {r : List μ} (h : Joins one two r) : Joins one two (Ms.ren r) := by
  refine ⟨(ren_len r).trans h.1, fun i j a b h1 h2 => ?_⟩
  have l1 : i < r.length := by rw [← ren_len r]; exact ltE h1
  have l2 : j < r.length := by rw [← ren_len r]; exact ltE h2
  exact ((alike_ren r).2 i j _ _ _ _ (getE l1) (getE l2) h1 h2).symm.trans (h.2 i j _ _ (getE l1) (getE l2))
/-- where one is at least as fine, the join is two -/
theorem joins_fine {one : List κ} {two : List ι} (e : one.length = two.length) (h : ∀ (i j : Nat) (a : κ) (c d : ι), one[i]? = some a → one[j]? = some a → two[i]? = some c → two[j]? = some d → c = d) : Joins one two two := by
  refine ⟨e.symm, fun i j a b h1 h2 => ⟨fun z => .of (.inr ⟨ltE h1, ltE h2, by rw [h1, h2, z]⟩), fun z => ?_⟩⟩
  have key : ∀ {p q}, Jn one two p q → two[p]? = two[q]? := fun {p q} z => by
    induction z with
    | of g =>
      rcases g with ⟨g1, g2, g3⟩ | ⟨_, _, g3⟩
      · rw [getE g1, getE g2] at g3
        have k1 := getE (e ▸ g1 : _ < two.length)
        have k2 := getE (e ▸ g2 : _ < two.length)
        rw [k1, k2, h _ _ _ _ _ (getE g1) (by rw [getE g2]; exact g3.symm) k1 k2]
      · exact g3
    | refl a => rfl
    | symm _ ih => exact ih.symm
    | trans _ _ i1 i2 => exact i1.trans i2
  have q := key z
  rw [h1, h2] at q
  exact Option.some.inj q
end
/-! ### the forest of bosses -/
def at0 (l : List Nat) (i : Nat) : Nat := l.getD i 0
theorem at0_of {l : List Nat} {i x : Nat} (h : l[i]? = some x) : at0 l i = x := by
  unfold at0
  rw [List.getD_eq_getElem?_getD, h] <;> rfl
theorem of_at0 {l : List Nat} {i : Nat} (h : i < l.length) : l[i]? = some (at0 l i) := by
  rw [at0_of (getE h)]
  exact getE h
theorem at0_set {l : List Nat} {i v : Nat} (h : i < l.length) (x : Nat) : at0 (l.set i v) x = if x = i then v else at0 l x := by
  unfold at0
  rw [List.getD_eq_getElem?_getD, List.getD_eq_getElem?_getD, List.getElem?_set]
  by_cases e : i = x
  · subst e
    rw [if_pos rfl, if_pos rfl, if_pos h] <;> rfl
  · rw [if_neg e, if_neg fun z => e z.symm]
structure Forest (bs : List Nat) (r dp : Nat → Nat) : Prop where
  lt : ∀ x, x < bs.length → at0 bs x < bs.length
  up : ∀ x, x < bs.length → r (at0 bs x) = r x
  fix : ∀ x, x < bs.length → at0 bs x = x → r x = x
  dec : ∀ x, x < bs.length → at0 bs x ≠ x → dp (at0 bs x) < dp x
theorem Forest.root {bs : List Nat} {r dp : Nat → Nat} (F : Forest bs r dp) : ∀ (n x : Nat), dp x ≤ n → x < bs.length → r x < bs.length ∧ at0 bs (r x) = r x ∧ r (r x) = r x := by
  intro n
  induction n with
  | zero =>
    intro x hn hx
    by_cases e : at0 bs x = x
    · have q := F.fix x hx e
      rw [q]
      exact ⟨hx, e, q⟩
    · have := F.dec x hx e
      omega
  | succ n ih =>
    intro x hn hx
    by_cases e : at0 bs x = x
    · have q := F.fix x hx e
      rw [q]
      exact ⟨hx, e, q⟩
    · have h1 := F.dec x hx e
      rw [← F.up x hx]
      exact ih _ (by omega) (F.lt x hx)
/-- each its own boss -/
theorem forest_range (n : Nat) : Forest (List.range n) (fun x => x) (fun _ => 0) := by
  have e : ∀ x, x < (List.range n).length → at0 (List.range n) x = x := fun x h => at0_of (by rw [List.length_range] at h; exact List.getElem?_range h)
  exact ⟨fun x h => by rw [e x h]; exact h, fun x h => e x h, fun x _ _ => rfl, fun x h z => absurd (e x h) z⟩
/-- the path halved at x -/
theorem Forest.half {bs : List Nat} {r dp : Nat → Nat} (F : Forest bs r dp) {x : Nat} (hx : x < bs.length) (e : at0 bs x ≠ x) : Forest (bs.set x (at0 bs (at0 bs x))) r dp := by
  have l1 := F.lt x hx
  have d1 := F.dec x hx e
  have d2 : dp (at0 bs (at0 bs x)) ≤ dp (at0 bs x) := by
    by_cases z : at0 bs (at0 bs x) = at0 bs x
    · rw [z]; exact Nat.le_refl _
    · exact Nat.le_of_lt (F.dec _ l1 z)
  refine ⟨fun y hy => ?_, fun y hy => ?_, fun y hy => ?_, fun y hy => ?_⟩
  all_goals rw [List.length_set] at hy
  · rw [List.length_set, at0_set hx]
    by_cases z : y = x
    · rw [if_pos z]; exact F.lt _ l1
    · rw [if_neg z]; exact F.lt y hy
  · rw [at0_set hx]
    by_cases z : y = x
    · rw [if_pos z, F.up _ l1, F.up x hx, z]
    · rw [if_neg z]; exact F.up y hy
  · rw [at0_set hx]
    by_cases z : y = x
    · rw [if_pos z]
      intro q
      rw [q, z] at d2
      omega
    · rw [if_neg z]; exact F.fix y hy
  · rw [at0_set hx]
    by_cases z : y = x
    · rw [if_pos z, z]
      intro _
      omega
    · rw [if_neg z]; exact F.dec y hy
/-- the root hi gets the boss lo, a root -/
theorem Forest.link {bs : List Nat} {r dp : Nat → Nat} (F : Forest bs r dp) {lo hi : Nat} (h1 : lo < bs.length) (h2 : hi < bs.length) (e1 : at0 bs lo = lo) (e2 : at0 bs hi = hi) :
    ∃ r' dp', Forest (bs.set hi lo) r' dp' ∧ ∀ x, x < bs.length → r' x = if r x = hi then lo else r x := by
  have f1 := F.fix lo h1 e1
  have f2 := F.fix hi h2 e2
  by_cases z : lo = hi
  · refine ⟨r, dp, ?_, fun x _ => ?_⟩
    · have q : bs.set hi lo = bs := by
        refine List.ext_getElem? fun j => ?_
        rw [List.getElem?_set]
        by_cases w : hi = j
        · subst w
          rw [if_pos rfl, if_pos h2, of_at0 h2, e2, z]
        · rw [if_neg w]
      rw [q]
      exact F
    · by_cases w : r x = hi
      · rw [if_pos w, w, z]
      · rw [if_neg w]
  · refine ⟨fun x => if r x = hi then lo else r x, fun x => if r x = hi then dp x + dp lo + 1 else dp x, ⟨fun y hy => ?_, fun y hy => ?_, fun y hy => ?_, fun y hy => ?_⟩, fun x _ => rfl⟩
    all_goals rw [List.length_set] at hy
    · rw [List.length_set, at0_set h2]
      by_cases w : y = hi
      · rw [if_pos w]; exact h1
      · rw [if_neg w]; exact F.lt y hy
    · rw [at0_set h2]
      by_cases w : y = hi
      · rw [if_pos w, w, f1, f2, if_pos rfl, if_neg z]
      · rw [if_neg w, F.up y hy]
    · rw [at0_set h2]
      by_cases w : y = hi
      · rw [if_pos w]
        intro q
        exact absurd (q.trans w) z
      · rw [if_neg w]
        intro q
        have k := F.fix y hy q
        rw [k, if_neg w]
    · rw [at0_set h2]
      by_cases w : y = hi
      · rw [if_pos w, w, f1, f2, if_pos rfl, if_neg z]
        intro _
        omega
      · rw [if_neg w, F.up y hy]
        intro q
        have k := F.dec y hy q
        by_cases v : r y = hi
        · rw [if_pos v, if_pos v]; omega
        · rw [if_neg v, if_neg v]; exact k
end Ms
set_option Elab.async false
set_option linter.all false
/-! rows and how many cells they have. -/
namespace Ms
open PySem PySem.Spec PyProof.Rows L2
theorem pair_of {α β : Type} {F : α → β → Prop} : ∀ {xs : List α} {ys : List β}, xs.length = ys.length → (∀ (i : Nat) (x : α) (y : β), xs[i]? = some x → ys[i]? = some y → F x y) → Paired F xs ys
  | [], [], _, _ => .nil
  | [], _ :: _, h, _ => by cases h
  | _ :: _, [], h, _ => by cases h
  | x :: xs, y :: ys, h, k => .cons (k 0 x y rfl rfl) (pair_of (Nat.succ.inj h) fun i a b h1 h2 => k (i + 1) a b h1 h2)
/-- how many cells -/
def cnt (r : List Nat) : Nat := (firsts r).length
theorem row_firsts {r : List Nat} (h : Row r) : firsts r = List.range (cnt r) := by
  have q := firsts_ren r
  rw [show ren r = r from h] at q
  exact q
theorem row_cells {r : List Nat} (h : Row r) : cellsOf r = (List.range (cnt r)).map fun m => places m r := by
  unfold cellsOf
  rw [row_firsts h]
theorem row_mem {r : List Nat} (h : Row r) {m : Nat} : m ∈ r ↔ m < cnt r := by rw [← mem_firsts, row_firsts h, List.mem_range]
theorem places_len {κ : Type} [DecidableEq κ] (m : κ) (l : List κ) : (places m l).length ≤ l.length := by
  unfold places
  exact Nat.le_trans (List.length_filter_le _ _) (by rw [List.length_range]; exact Nat.le_refl _)
end Ms
set_option Elab.async false
set_option linter.all false
set_option maxRecDepth 100000
set_option maxHeartbeats 4000000
namespace K02
open PySem PySem.Spec PyProof.Rows L2 Ms
def nV (ns : List Nat) : List V := ns.map fun n => V.int (n : Nat)
theorem nV_at {l : List Nat} {i x : Nat} (h : l[i]? = some x) : (nV l)[i]? = some (.int (x : Nat)) := by
  unfold nV
  rw [List.getElem?_map, h] <;> rfl
theorem nV_at0 {l : List Nat} {i : Nat} (h : i < l.length) : (nV l)[i]? = some (.int (at0 l i : Nat)) := nV_at (of_at0 h)
theorem nV_len (l : List Nat) : (nV l).length = l.length := List.length_map ..
theorem nV_int (r : List Nat) : nV r = (r.map fun n => ((n : Nat) : Int)).map V.int := by
  unfold nV
  rw [List.map_map] <;> rfl
theorem nV_snoc (l : List Nat) (d : Nat) : nV l ++ [V.int (d : Nat)] = nV (l ++ [d]) := by
  unfold nV
  rw [List.map_append] <;> rfl
theorem fewS {n : Nat} (h : n < 16777216) : n < sizeLine := Nat.lt_of_lt_of_le h (by decide)
theorem same_new {H : Hp} {p : Addr} {o : HO} (h : H p = none) : Same H (upd H p o) := fun b q e => by
  rw [upd_ne (fun z => by rw [z, h] at e; cases e)]
  exact e
def pairV (p : Int × Int) : HO := .tup [.int p.1, .int p.2]
/-- numbers in a list or a tuple; pairs of numbers in a list -/
@[irreducible] def spRen (K : PySem.W.Frag) : Sp := fun vs H Q _ => ∃ a xs r, vs = [.ref a] ∧ xs.length ≤ sizeLine ∧
  ((∃ ns : List Int, xs = ns.map V.int ∧ r = ren ns ∧ (SqL K H a xs ∨ SqT K H a xs) ∧ ∀ H' p, Same H H' → H p = none → H' p = some (.tup (nV r)) → Q (.ref p) H') ∨
  ∃ (ts : List Addr) (ps : List (Int × Int)), xs = ts.map V.ref ∧ r = ren ps ∧ Paired (fun t p => H t = some (pairV p)) ts ps ∧ SqL K H a xs ∧ ∀ H' p, Same H H' → H p = none → H' p = some (.tup (nV r)) → Q (.ref p) H')
section
variable {κ : Type} [DecidableEq κ]
def tbl (ks : List κ) : List (κ × V) := ks.zipIdx.map fun p => (p.1, .int (p.2 : Nat))
theorem tbl_len (ks : List κ) : (tbl ks).length = ks.length := by simp [tbl]
theorem tbl_snoc (ks : List κ) (k : κ) : tbl (ks ++ [k]) = tbl ks ++ [(k, .int (ks.length : Nat))] := by simp [tbl, List.zipIdx_append]
theorem valV_tbl (ks : List κ) (k : κ) : valV (tbl ks) k = if k ∈ ks then some (.int (ks.idxOf k : Nat)) else none := by
  induction ks using snoc_ind with
  | h0 => rfl
  | hs l a ih =>
    rw [tbl_snoc]
    by_cases hk : k ∈ l
    · rw [if_pos hk] at ih
      rw [if_pos (List.mem_append_left _ hk), List.idxOf_append, if_pos hk]
      unfold valV at ih ⊢
      rw [List.find?_append]
      cases h : (tbl l).find? fun kv => decide (kv.1 = k) with
      | none => rw [h] at ih; cases ih
      | some q => rw [h] at ih; exact ih
    · rw [if_neg hk] at ih
      have h : (tbl l).find? (fun kv => decide (kv.1 = k)) = none := by
        unfold valV at ih
        exact Option.map_eq_none_iff.mp ih
      unfold valV
      rw [List.find?_append, h, List.idxOf_append, if_neg hk]
      by_cases e : a = k
      · subst e; simp
      · have e2 : ¬ k = a := fun z => e z.symm
        simp [e, e2, hk]
end
theorem int_inl (a b : Int) (h : (Sum.inl a : Key) = Sum.inl b) : a = b := Sum.inl.inj h
theorem Same.new2 {H : Hp} {d l : Addr} {o u : HO} (hd : H d = none) (hl : H l = none) : Same H (upd (upd H d o) l u) := fun b q e => by
  rw [upd_ne (fun z => by rw [z, hl] at e; cases e), upd_ne (fun z => by rw [z, hd] at e; cases e)]
  exact e
theorem ix_out {κ : Type} [DecidableEq κ] {l : List κ} {k : κ} (h : ¬ k ∈ l) : l.idxOf k = l.length := List.idxOf_eq_length h
theorem valV_some {κ : Type} [DecidableEq κ] {ks : List κ} {k : κ} (h : k ∈ ks) : valV (tbl ks) k = some (.int (ks.idxOf k : Nat)) := by rw [valV_tbl, if_pos h]
theorem nV_ren_take {κ : Type} [DecidableEq κ] {ks : List κ} {i : Nat} {k : κ} (h : ks[i]? = some k) : (nV (ren (ks.take i))).length = i := by
  unfold nV
  have := ltE h
  rw [List.length_map, ren_len, List.length_take]
  omega
/-- the loop's state -/
def PR {κ : Type} [DecidableEq κ] (K : PySem.W.Frag) (H : Hp) (a d l : Addr) (xs : List V) (mk : List (κ × V) → HO) (ks : List κ) (i : Nat) (σ : L2.St) (H1 : Hp) : Prop :=
  ∃ m, σ = [some (.ref a), some (.ref d), some (.ref l), m] ∧ Same H H1 ∧ H1 d = some (mk (tbl (firsts (ks.take i)))) ∧ H1 l = some (.lst (nV (ren (ks.take i))))
theorem Same.sqT {K : PySem.W.Frag} {H H' : Hp} {a : Addr} {xs : List V} (e : Same H H') (h : SqT K H a xs) : SqT K H' a xs := by
  rcases h with (h | ⟨o, h⟩) | h
  · exact .inl (.inl (e _ _ h))
  · exact .inl (.inr ⟨o, e _ _ h⟩)
  · exact .inr h
/-- the keys of the row, place by place -/
structure KeyIs {κ : Type} [DecidableEq κ] (F : κ → V → Prop) (xs : List V) (ks : List κ) : Prop where
  len : ks.length = xs.length
  at_ : ∀ (i : Nat) (x : V), xs[i]? = some x → ∃ k : κ, ks[i]? = some k ∧ F k x
theorem kis_int (ns : List Int) : KeyIs (fun k x => x = kV k) (ns.map V.int) (ns.map (Sum.inl : Int → Key)) := by
  refine ⟨by simp, fun i x hx => ?_⟩
  rw [List.getElem?_map] at hx
  cases e : ns[i]? with
  | none => rw [e] at hx; cases hx
  | some n =>
    rw [e] at hx
    cases hx
    exact ⟨.inl n, by rw [List.getElem?_map, e] <;> rfl, rfl⟩
abbrev kp (p : Int × Int) : List Key := [.inl p.1, .inl p.2]
theorem kp_inj (a b : Int × Int) (e : kp a = kp b) : a = b := by
  simp only [kp, List.cons.injEq, Sum.inl.injEq, and_true] at e
  exact Prod.ext e.1 e.2
theorem kis_pair {H : Hp} {ts : List Addr} {ps : List (Int × Int)} (hp : Paired (fun t p => H t = some (pairV p)) ts ps) : KeyIs (fun k x => ∃ b, x = .ref b ∧ H b = some (.tup (k.map kV))) (ts.map V.ref) (ps.map kp) := by
  refine ⟨by simp [Paired.length hp], fun i x hx => ?_⟩
  rw [List.getElem?_map] at hx
  cases e : ts[i]? with
  | none => rw [e] at hx; cases hx
  | some t =>
    rw [e] at hx
    cases hx
    obtain ⟨p, e2, e3⟩ := LiI.paired_get hp e
    exact ⟨kp p, by rw [List.getElem?_map, e2] <;> rfl, t, rfl, e3⟩
/-- where a key is found in the dict, by the place in the row -/
structure KeyAt {κ : Type} [DecidableEq κ] (H : Hp) (mk : List (κ × V) → HO) (xs : List V) (ks : List κ) : Prop where
  len : ks.length = xs.length
  at_ : ∀ (i : Nat) (x : V), xs[i]? = some x → ∃ k : κ, ks[i]? = some k ∧ (∀ (H1 : Hp) (kvs : List (κ × V)) (d : Addr), Same H H1 → H1 d = some (mk kvs) → DGet H1 d x (valV kvs k)) ∧
    ∀ (H1 : Hp) (kvs : List (κ × V)) (d : Addr) (v : V), Same H H1 → H1 d = some (mk kvs) → kvs.length < sizeLine → DPut H1 d x v (upd H1 d (mk (putK kvs k v)))
theorem key_int (H : Hp) (ns : List Int) : KeyAt H .dK (ns.map V.int) (ns.map (Sum.inl : Int → Key)) := by
  refine ⟨by simp, fun i x hx => ?_⟩
  rw [List.getElem?_map] at hx
  cases e : ns[i]? with
  | none => rw [e] at hx; cases hx
  | some n =>
    rw [e] at hx
    cases hx
    exact ⟨.inl n, by rw [List.getElem?_map, e] <;> rfl, fun H1 kvs d _ h => DGet.k (k := Sum.inl n) h, fun H1 kvs d v _ h hl => DPut.k (k := Sum.inl n) h hl⟩
theorem key_pair {H : Hp} {ts : List Addr} {ps : List (Int × Int)} (hp : Paired (fun t p => H t = some (pairV p)) ts ps) : KeyAt H .dT (ts.map V.ref) (ps.map kp) := by
  refine ⟨by simp [Paired.length hp], fun i x hx => ?_⟩
  rw [List.getElem?_map] at hx
  cases e : ts[i]? with
  | none => rw [e] at hx; cases hx
  | some t =>
    rw [e] at hx
    cases hx
    obtain ⟨p, e2, e3⟩ := LiI.paired_get hp e
    exact ⟨kp p, by rw [List.getElem?_map, e2] <;> rfl, fun H1 kvs d s h => DGet.t (k := kp p) h (s _ _ e3), fun H1 kvs d v s h hl => DPut.t (k := kp p) h (s _ _ e3) hl⟩
section
variable {P : Program} {w : World} {K : PySem.W.Frag} {mg : Str → Option Value} {base : Heap}
theorem ren_KL (T : Tx K mg) {cdv : Value} {A : Around} {outer : List Env} {s : Shared} {H : Hp} {Q : VK} {E : XK} {a : Addr} {xs : List V} {r : List Nat} {ks : List Key} (hr : Rm 0 "renumbered" srenumbered (He.ga K "renumbered") cdv A s)
    (hq0 : SqL K H a xs) (hz : xs.length ≤ sizeLine) (hk0 : KeyIs (fun k x => x = kV k) xs ks) (hr2 : ren ks = r) (hQ : ∀ H' p, Same H H' → H p = none → H' p = some (.tup (nV r)) → Q (.ref p) H') :
    Goal P w K mg base "renumbered" srenumbered ["marks", "numbers", "found", "mark"] (He.ga K "renumbered") cdv A outer s H [.ref a] Q E := by
  have hlen := hk0.len
  have hkey := hk0.at_
  have hq1 : ∀ (H1 : Hp), Same H H1 → SqL K H1 a xs := fun H1 s => Same.seq s hq0
  refine ⟨_, (pss_cons (ps_set (i := 1) screnumbered.nd rfl (by first | exact Or.inl rfl | exact Or.inr rfl) pe_dnewK)
    (pss_cons (ps_set (i := 2) screnumbered.nd rfl (by first | exact Or.inl rfl | exact Or.inr rfl) (pe_lst pa_nil))
    (pss_cons (ps_for PassesOwn.never rfl (pi_list (pv 0)) (pg_name (i := 3) screnumbered.nd rfl (by first | exact Or.inl rfl | exact Or.inr rfl))
    (pss_one (ps_expr (pe_bm PySem.F.plainAttrs_list PySem.F.slot_list_append PySem.F.type_list_append mt_append (pv 2) (pa_cons (pe_dsetd (pv 1) (pv 3) (pe_callB call_lenD (by rfl) T.f_len boot_len (pa_cons (pv 1) pa_nil)) ⟨rfl, rfl, rfl, rfl⟩) pa_nil)))))
    (pss_one (ps_ret (pe_callTy (tupK K) (by rfl) T.f_tuple (by decide +kernel) (pa_cons (pv 2) pa_nil))))))), ?_⟩
  refine fun d hd => ?_
  refine ⟨Nat.zero_le _, fun l hl => ?_⟩
  have hdl : d ≠ l := fun z => by rw [← z, upd_same] at hl; cases hl
  have nl : H l = none := by rw [upd_ne (fun z => hdl z.symm)] at hl; exact hl
  refine ⟨_, rfl, a, rfl, ⟨_, hq1 _ (Same.new2 hd nl)⟩, for_list (xs := xs) (PR K H a d l xs .dK ks) ?_ ?_ ?_ ?_⟩
  · exact ⟨none, rfl, Same.new2 hd nl, by rw [upd_ne hdl, upd_same] <;> rfl, by rw [upd_same] <;> rfl⟩
  · exact fun i σ H1 _ h => by obtain ⟨_, _, h1, _⟩ := h; exact hq1 _ h1
  · intro i x σ H1 hx h
    obtain ⟨m, rfl, s1, e1, e2⟩ := h
    obtain ⟨k, hk, rfl⟩ := hkey i x hx
    have tk : ks.take (i + 1) = ks.take i ++ [k] := by rw [List.take_add_one, hk] <;> rfl
    have li : i < xs.length := ltE hx
    have lt : (tbl (firsts (ks.take i))).length ≤ i := by
      rw [tbl_len]
      exact Nat.le_trans (firsts_le _) (List.length_take_le ..)
    refine ⟨_, rfl, .inl ⟨rfl, _, .inl (.inl e2)⟩, _, rfl, d, rfl, .inl ⟨_, .inl e1⟩, _, rfl, _, rfl, d, _, rfl, e1, _, k, e1, rfl, by omega, fun v hv => ?_, fun hv => ?_⟩
    · rw [valV_tbl] at hv
      by_cases hin : k ∈ firsts (ks.take i)
      · rw [if_pos hin] at hv
        cases hv
        refine ⟨l, _, _, rfl, rfl, e2, by rw [nV_ren_take hk]; omega, ?_⟩
        refine ⟨_, rfl, fun b o q => ?_, ?_, ?_⟩
        · rw [upd_ne (fun z => by rw [z, nl] at q; cases q)]
          exact s1 b o q
        · rw [upd_ne hdl, tk, firsts_old ((mem_firsts _ _).mp hin)]
          exact e1
        · rw [upd_same, tk, ren_snoc]
          simp [nV]
      · rw [if_neg hin] at hv
        cases hv
    · have hin : ¬ k ∈ firsts (ks.take i) := fun z => by rw [valV_tbl, if_pos z] at hv; cases hv
      rw [putK_new _ hv]
      have e2' : ∀ u, upd H1 d u l = some (.lst (nV (ren (ks.take i)))) := fun u => by rw [upd_ne (fun z => hdl z.symm)]; exact e2
      refine ⟨l, _, _, rfl, rfl, e2' _, by rw [nV_ren_take hk]; omega, ?_⟩
      refine ⟨_, rfl, fun b o q => ?_, ?_, ?_⟩
      · rw [upd_ne (fun z => by rw [z, nl] at q; cases q), upd_ne (fun z => by rw [z, hd] at q; cases q)]
        exact s1 b o q
      · rw [upd_ne hdl, upd_same, tk, firsts_new (fun z => hin ((mem_firsts _ _).mpr z)), tbl_snoc, tbl_len]
      · rw [upd_same, tk, ren_snoc, tbl_len, ix_out hin]
        simp [nV]
  · intro σ H1 h
    obtain ⟨m, rfl, s1, e1, e2⟩ := h
    refine ⟨_, rfl, l, _, rfl, .inl ⟨.inl (.inl e2), fun t ht => ?_⟩⟩
    have full : ks.take xs.length = ks := by rw [← hlen]; exact List.take_length
    rw [full, hr2]
    exact hQ _ t (fun b o q => by rw [upd_ne (fun z => by rw [z, s1.free ht] at q; cases q)]; exact s1 b o q) (s1.free ht) (upd_same ..)
theorem ren_TL (T : Tx K mg) {cdv : Value} {A : Around} {outer : List Env} {s : Shared} {H : Hp} {Q : VK} {E : XK} {a : Addr} {xs : List V} {r : List Nat} {ks : List (List Key)} (hr : Rm 0 "renumbered" srenumbered (He.ga K "renumbered") cdv A s)
    (hq0 : SqL K H a xs) (hz : xs.length ≤ sizeLine) (hk0 : KeyIs (fun k x => ∃ b, x = .ref b ∧ H b = some (.tup (k.map kV))) xs ks) (hr2 : ren ks = r) (hQ : ∀ H' p, Same H H' → H p = none → H' p = some (.tup (nV r)) → Q (.ref p) H') :
    Goal P w K mg base "renumbered" srenumbered ["marks", "numbers", "found", "mark"] (He.ga K "renumbered") cdv A outer s H [.ref a] Q E := by
  have hlen := hk0.len
  have hkey := hk0.at_
  have hq1 : ∀ (H1 : Hp), Same H H1 → SqL K H1 a xs := fun H1 s => Same.seq s hq0
  refine ⟨_, (pss_cons (ps_set (i := 1) screnumbered.nd rfl (by first | exact Or.inl rfl | exact Or.inr rfl) pe_dnewT)
    (pss_cons (ps_set (i := 2) screnumbered.nd rfl (by first | exact Or.inl rfl | exact Or.inr rfl) (pe_lst pa_nil))
    (pss_cons (ps_for PassesOwn.never rfl (pi_list (pv 0)) (pg_name (i := 3) screnumbered.nd rfl (by first | exact Or.inl rfl | exact Or.inr rfl))
    (pss_one (ps_expr (pe_bm PySem.F.plainAttrs_list PySem.F.slot_list_append PySem.F.type_list_append mt_append (pv 2) (pa_cons (pe_dsetdT (hu_of hr) (pv 1) (pv 3) (pe_callB call_len_dT (by rfl) T.f_len boot_len (pa_cons (pv 1) pa_nil)) ⟨rfl, rfl, rfl, rfl⟩) pa_nil)))))
    (pss_one (ps_ret (pe_callTy (tupK K) (by rfl) T.f_tuple (by decide +kernel) (pa_cons (pv 2) pa_nil))))))), ?_⟩
  refine fun d hd => ?_
  refine ⟨Nat.zero_le _, fun l hl => ?_⟩
  have hdl : d ≠ l := fun z => by rw [← z, upd_same] at hl; cases hl
  have nl : H l = none := by rw [upd_ne (fun z => hdl z.symm)] at hl; exact hl
  refine ⟨_, rfl, a, rfl, ⟨_, hq1 _ (Same.new2 hd nl)⟩, for_list (xs := xs) (PR K H a d l xs .dT ks) ?_ ?_ ?_ ?_⟩
  · exact ⟨none, rfl, Same.new2 hd nl, by rw [upd_ne hdl, upd_same] <;> rfl, by rw [upd_same] <;> rfl⟩
  · exact fun i σ H1 _ h => by obtain ⟨_, _, h1, _⟩ := h; exact hq1 _ h1
  · intro i x σ H1 hx h
    obtain ⟨m, rfl, s1, e1, e2⟩ := h
    obtain ⟨k, hk, b, rfl, hb⟩ := hkey i x hx
    have tk : ks.take (i + 1) = ks.take i ++ [k] := by rw [List.take_add_one, hk] <;> rfl
    have li : i < xs.length := ltE hx
    have lt : (tbl (firsts (ks.take i))).length ≤ i := by
      rw [tbl_len]
      exact Nat.le_trans (firsts_le _) (List.length_take_le ..)
    refine ⟨_, rfl, .inl ⟨rfl, _, .inl (.inl e2)⟩, _, rfl, d, rfl, .inr ⟨_, .inl e1⟩, _, rfl, _, rfl, d, _, rfl, e1, _, k, b, e1, rfl, s1 _ _ hb, by omega, fun v hv => ?_, fun hv => ?_⟩
    · rw [valV_tbl] at hv
      by_cases hin : k ∈ firsts (ks.take i)
      · rw [if_pos hin] at hv
        cases hv
        refine ⟨l, _, _, rfl, rfl, e2, by rw [nV_ren_take hk]; omega, ?_⟩
        refine ⟨_, rfl, fun b o q => ?_, ?_, ?_⟩
        · rw [upd_ne (fun z => by rw [z, nl] at q; cases q)]
          exact s1 b o q
        · rw [upd_ne hdl, tk, firsts_old ((mem_firsts _ _).mp hin)]
          exact e1
        · rw [upd_same, tk, ren_snoc]
          simp [nV]
      · rw [if_neg hin] at hv
        cases hv
    · have hin : ¬ k ∈ firsts (ks.take i) := fun z => by rw [valV_tbl, if_pos z] at hv; cases hv
      rw [putK_new _ hv]
      have e2' : ∀ u, upd H1 d u l = some (.lst (nV (ren (ks.take i)))) := fun u => by rw [upd_ne (fun z => hdl z.symm)]; exact e2
      refine ⟨l, _, _, rfl, rfl, e2' _, by rw [nV_ren_take hk]; omega, ?_⟩
      refine ⟨_, rfl, fun b o q => ?_, ?_, ?_⟩
      · rw [upd_ne (fun z => by rw [z, nl] at q; cases q), upd_ne (fun z => by rw [z, hd] at q; cases q)]
        exact s1 b o q
      · rw [upd_ne hdl, upd_same, tk, firsts_new (fun z => hin ((mem_firsts _ _).mpr z)), tbl_snoc, tbl_len]
      · rw [upd_same, tk, ren_snoc, tbl_len, ix_out hin]
        simp [nV]
  · intro σ H1 h
    obtain ⟨m, rfl, s1, e1, e2⟩ := h
    refine ⟨_, rfl, l, _, rfl, .inl ⟨.inl (.inl e2), fun t ht => ?_⟩⟩
    have full : ks.take xs.length = ks := by rw [← hlen]; exact List.take_length
    rw [full, hr2]
    exact hQ _ t (fun b o q => by rw [upd_ne (fun z => by rw [z, s1.free ht] at q; cases q)]; exact s1 b o q) (s1.free ht) (upd_same ..)
theorem ren_KT (T : Tx K mg) {cdv : Value} {A : Around} {outer : List Env} {s : Shared} {H : Hp} {Q : VK} {E : XK} {a : Addr} {xs : List V} {r : List Nat} {ks : List Key} (hr : Rm 0 "renumbered" srenumbered (He.ga K "renumbered") cdv A s)
    (hq0 : SqT K H a xs) (hz : xs.length ≤ sizeLine) (hk0 : KeyIs (fun k x => x = kV k) xs ks) (hr2 : ren ks = r) (hQ : ∀ H' p, Same H H' → H p = none → H' p = some (.tup (nV r)) → Q (.ref p) H') :
    Goal P w K mg base "renumbered" srenumbered ["marks", "numbers", "found", "mark"] (He.ga K "renumbered") cdv A outer s H [.ref a] Q E := by
  have hlen := hk0.len
  have hkey := hk0.at_
  have hq1 : ∀ (H1 : Hp), Same H H1 → SqT K H1 a xs := fun H1 s => Same.sqT s hq0
  refine ⟨_, (pss_cons (ps_set (i := 1) screnumbered.nd rfl (by first | exact Or.inl rfl | exact Or.inr rfl) pe_dnewK)
    (pss_cons (ps_set (i := 2) screnumbered.nd rfl (by first | exact Or.inl rfl | exact Or.inr rfl) (pe_lst pa_nil))
    (pss_cons (ps_for PassesOwn.never rfl (pi_tup (pv 0)) (pg_name (i := 3) screnumbered.nd rfl (by first | exact Or.inl rfl | exact Or.inr rfl))
    (pss_one (ps_expr (pe_bm PySem.F.plainAttrs_list PySem.F.slot_list_append PySem.F.type_list_append mt_append (pv 2) (pa_cons (pe_dsetd (pv 1) (pv 3) (pe_callB call_lenD (by rfl) T.f_len boot_len (pa_cons (pv 1) pa_nil)) ⟨rfl, rfl, rfl, rfl⟩) pa_nil)))))
    (pss_one (ps_ret (pe_callTy (tupK K) (by rfl) T.f_tuple (by decide +kernel) (pa_cons (pv 2) pa_nil))))))), ?_⟩
  refine fun d hd => ?_
  refine ⟨Nat.zero_le _, fun l hl => ?_⟩
  have hdl : d ≠ l := fun z => by rw [← z, upd_same] at hl; cases hl
  have nl : H l = none := by rw [upd_ne (fun z => hdl z.symm)] at hl; exact hl
  refine ⟨_, rfl, a, rfl, ⟨_, hq1 _ (Same.new2 hd nl)⟩, for_tup (xs := xs) (PR K H a d l xs .dK ks) ?_ ?_ ?_ ?_⟩
  · exact ⟨none, rfl, Same.new2 hd nl, by rw [upd_ne hdl, upd_same] <;> rfl, by rw [upd_same] <;> rfl⟩
  · exact fun i σ H1 _ h => by obtain ⟨_, _, h1, _⟩ := h; exact hq1 _ h1
  · intro i x σ H1 hx h
    obtain ⟨m, rfl, s1, e1, e2⟩ := h
    obtain ⟨k, hk, rfl⟩ := hkey i x hx
    have tk : ks.take (i + 1) = ks.take i ++ [k] := by rw [List.take_add_one, hk] <;> rfl
    have li : i < xs.length := ltE hx
    have lt : (tbl (firsts (ks.take i))).length ≤ i := by
      rw [tbl_len]
      exact Nat.le_trans (firsts_le _) (List.length_take_le ..)
    refine ⟨_, rfl, .inl ⟨rfl, _, .inl (.inl e2)⟩, _, rfl, d, rfl, .inl ⟨_, .inl e1⟩, _, rfl, _, rfl, d, _, rfl, e1, _, k, e1, rfl, by omega, fun v hv => ?_, fun hv => ?_⟩
    · rw [valV_tbl] at hv
      by_cases hin : k ∈ firsts (ks.take i)
      · rw [if_pos hin] at hv
        cases hv
        refine ⟨l, _, _, rfl, rfl, e2, by rw [nV_ren_take hk]; omega, ?_⟩
        refine ⟨_, rfl, fun b o q => ?_, ?_, ?_⟩
        · rw [upd_ne (fun z => by rw [z, nl] at q; cases q)]
          exact s1 b o q
        · rw [upd_ne hdl, tk, firsts_old ((mem_firsts _ _).mp hin)]
          exact e1
        · rw [upd_same, tk, ren_snoc]
          simp [nV]
      · rw [if_neg hin] at hv
        cases hv
    · have hin : ¬ k ∈ firsts (ks.take i) := fun z => by rw [valV_tbl, if_pos z] at hv; cases hv
      rw [putK_new _ hv]
      have e2' : ∀ u, upd H1 d u l = some (.lst (nV (ren (ks.take i)))) := fun u => by rw [upd_ne (fun z => hdl z.symm)]; exact e2
      refine ⟨l, _, _, rfl, rfl, e2' _, by rw [nV_ren_take hk]; omega, ?_⟩
      refine ⟨_, rfl, fun b o q => ?_, ?_, ?_⟩
      · rw [upd_ne (fun z => by rw [z, nl] at q; cases q), upd_ne (fun z => by rw [z, hd] at q; cases q)]
        exact s1 b o q
      · rw [upd_ne hdl, upd_same, tk, firsts_new (fun z => hin ((mem_firsts _ _).mpr z)), tbl_snoc, tbl_len]
      · rw [upd_same, tk, ren_snoc, tbl_len, ix_out hin]
        simp [nV]
  · intro σ H1 h
    obtain ⟨m, rfl, s1, e1, e2⟩ := h
    refine ⟨_, rfl, l, _, rfl, .inl ⟨.inl (.inl e2), fun t ht => ?_⟩⟩
    have full : ks.take xs.length = ks := by rw [← hlen]; exact List.take_length
    rw [full, hr2]
    exact hQ _ t (fun b o q => by rw [upd_ne (fun z => by rw [z, s1.free ht] at q; cases q)]; exact s1 b o q) (s1.free ht) (upd_same ..)
theorem ok_renumbered (T : Tx K mg) : Ok P w K mg base "renumbered" 1 (spRen K) := by
  refine ok_of T.a_renumbered screnumbered (fun vs H Q E h => ?_) bi_renumbered fun cdv A outer s H vs Q E hr h => ?_
  · unfold spRen at h
    obtain ⟨a, xs, r, rfl, _⟩ := h
    rfl
  unfold spRen at h
  obtain ⟨a, xs, r, rfl, hz, h⟩ := h
  rcases h with ⟨ns, rfl, rfl, hq | hq, hQ⟩ | ⟨ts, ps, rfl, rfl, hp, hq, hQ⟩
  · exact ren_KL T hr hq hz (kis_int ns) (ren_map int_inl) hQ
  · exact ren_KT T hr hq hz (kis_int ns) (ren_map int_inl) hQ
  · exact ren_TL T hr hq hz (kis_pair hp) (ren_map kp_inj) hQ
end
end K02
set_option Elab.async false
set_option linter.all false
set_option maxRecDepth 100000
set_option maxHeartbeats 4000000
/-! max(t) of a tuple of ints. -/
namespace Ms
open PySem PySem.Spec PyProof.Rows L2
section
variable {prog : Program} {w : World} {A : Around} {E : Value → Shared → Prop} {s : Shared} {l : Addr} {xs : Array (Int × Tok)}
theorem max_intTup {Q : Value → Shared → Prop} (hh : A.handled = none) (hl : s.heap.IsTuple l (intItems xs)) (hne : 0 < xs.size)
    (h : ∀ v h' tk, (intItems xs)[argBest (fun i j => decide (numAt xs i > numAt xs j)) (xs.size - 1)]? = some v → (∀ b o, s.heap.get? b = some o → h'.get? b = some o) → Q v { s with heap := h', toks := tk }) :
    wpAny (model prog w) A (call (.builtin "max") [.ref l]) Q E s := by
  have hlt : l < s.heap.objs.size := by obtain ⟨_, e, _⟩ := hl; exact Heap.lt_size e
  refine call_max_walk (wpAny_pyIter_tuple hl ?_)
  refine ⟨_, [_, l], [_], _, _, _, _, rfl, Walks.tuple (A := A.in1) hh _ l (Nat.ne_of_lt hlt) (intItems xs), ⟨⟨_, Heap.get?_push_size _ rfl, rfl, rfl⟩, hl.push _⟩, fun c hc => ?_, by simpa [intItems] using hne, CmpOf.ints_gt (numAt xs) (fun _ _ => intItems_at), fun v h' tk hP hk => ?_⟩
  · show c < (s.heap.push _).objs.size
    rw [Heap.size_push]
    rcases List.mem_cons.mp hc with rfl | hc
    · exact Nat.lt_succ_self _
    · rcases List.mem_cons.mp hc with rfl | hc
      · exact Nat.lt_succ_of_lt hlt
      · cases hc
  · refine h v h' tk (by simpa [intItems] using hP) fun b o e => ?_
    refine hk b o (fun hm => ?_) (Heap.get?_push_of_some _ e)
    rcases List.mem_cons.mp hm with e1 | hm
    · exact absurd (e1 ▸ Heap.lt_size e) (Nat.lt_irrefl _)
    · cases hm
theorem maxT_raw {its : List Value} {ns : List Int} {Q : Value → Shared → Prop} (hh : A.handled = none) (hl : s.heap.IsTuple l its.toArray) (hi : IntsAre its ns) (hne : 0 < ns.length)
    (h : ∀ h' tk M t', (∀ b o, s.heap.get? b = some o → h'.get? b = some o) → M ∈ ns → (∀ a, a ∈ ns → a ≤ M) → Q (.int M t') { s with heap := h', toks := tk }) : wpAny (model prog w) A (call (.builtin "max") [.ref l]) Q E s := by
  obtain ⟨xs, e⟩ := hi.allInts.items
  have hn : numsOf (intItems xs).toList = ns := by rw [← e]; exact hi.numsOf
  rw [nums_intItems] at hn
  subst hn
  rw [e] at hl
  have hsz : 0 < xs.size := by simpa using hne
  refine max_intTup hh hl hsz fun v h' tk hv hk => ?_
  obtain ⟨t, rfl⟩ := intItems_at hv
  obtain ⟨h1, h2⟩ := argBest_gt (numAt xs) (xs.size - 1)
  refine h h' tk _ t hk ?_ fun a ha => ?_
  · rw [numAt_eq]; exact PySem.getD_mem (by rw [List.length_map, Array.length_toList]; omega)
  · obtain ⟨j, hj, rfl⟩ := mem_getD ha
    rw [List.length_map, Array.length_toList] at hj
    rw [← numAt_eq]; exact h2 j (by omega)
end
section
variable {X : Cx}
/-- max of a tuple of ints -/
def rMaxT (K : PySem.W.Frag) : List V → Hp → VK → Prop := fun vs H Q => ∃ (a : Addr) (ns : List Int), vs = [V.ref a] ∧ SqT K H a (ns.map V.int) ∧ 0 < ns.length ∧ ∀ m, m ∈ ns → (∀ y, y ∈ ns → y ≤ m) → Q (.int m) H
theorem maxTK (K : PySem.W.Frag) (e : X.K = K := by rfl) (hc : X.calm = true) : CallR X (.builtin "max") (rMaxT K) := by
  subst e
  intro pins s σ H vs us Q I r h
  obtain ⟨a, ns, rfl, hs, hne, q⟩ := h
  obtain ⟨its, rv, hl, _⟩ := I.tuple hs
  rw [Vals.ref1 r]
  exact maxT_raw (I.ok.hd hc) hl rv.ints hne fun h' tk m t' hk h1 h2 => ⟨.int _, H, I.kept hk, ⟨_, rfl⟩, q m h1 h2⟩
end
end Ms
set_option Elab.async false
set_option linter.all false
set_option maxRecDepth 100000
set_option maxHeartbeats 4000000
namespace K02
open PySem PySem.Spec PyProof.Rows L2 Ms
theorem pimp {α β : Type} {F G : α → β → Prop} : ∀ {xs : List α} {ys : List β}, (∀ x y, x ∈ xs → F x y → G x y) → Paired F xs ys → Paired G xs ys
  | _, _, _, .nil => .nil
  | _, _, h, .cons r t => .cons (h _ _ List.mem_cons_self r) (pimp (fun x y m => h x y (List.mem_cons_of_mem _ m)) t)
theorem psnoc {α β : Type} {F : α → β → Prop} : ∀ {xs : List α} {ys : List β} {x : α} {y : β}, Paired F xs ys → F x y → Paired F (xs ++ [x]) (ys ++ [y])
  | _, _, _, _, .nil, h => .cons h .nil
  | _, _, _, _, .cons r t, h => .cons r (psnoc t h)
/-- the cells' tuple at p -/
def CellsAt (H : Hp) (p : Addr) (cs : List (List Nat)) : Prop := ∃ ts : List Addr, H p = some (.tup (ts.map V.ref)) ∧ Paired (fun t c => H t = some (.tup (nV c))) ts cs
theorem CellsAt.same {H H' : Hp} (s : Same H H') {p : Addr} {cs : List (List Nat)} (h : CellsAt H p cs) : CellsAt H' p cs := let ⟨ts, h1, h2⟩ := h; ⟨ts, s _ _ h1, pimp (fun _ _ _ z => s _ _ z) h2⟩
def spCells (K : PySem.W.Frag) : Sp := fun vs H Q _ => ∃ a r, vs = [.ref a] ∧ SqT K H a (nV r) ∧ r.length ≤ 16777216 ∧ Row r ∧ 0 < r.length ∧ ∀ H' p, Same H H' → H p = none → CellsAt H' p (cellsOf r) → Q (.ref p) H'
section
variable {κ ι : Type} [DecidableEq κ] [DecidableEq ι]
theorem valV_of (g : κ → V) (k : κ) : ∀ ks : List κ, valV (ks.map fun j => (j, g j)) k = if k ∈ ks then some (g k) else none
  | [] => rfl
  | j :: ks => by
    rw [List.map_cons]
    by_cases h : j = k
    · subst h
      rw [valV_pos (p := (j, g j)) rfl, if_pos List.mem_cons_self]
    · have h2 : ¬ k = j := fun z => h z.symm
      rw [valV_neg (p := (j, g j)) h, valV_of g k ks]
      simp [List.mem_cons, h2]
theorem firsts_map {f : κ → ι} (hf : ∀ a b, f a = f b → a = b) (ks : List κ) : firsts (ks.map f) = (firsts ks).map f := by
  induction ks using snoc_ind with
  | h0 => rfl
  | hs l k ih =>
    rw [List.map_append, List.map_singleton, firsts_snoc, firsts_snoc, ih]
    by_cases h : k ∈ firsts l
    · rw [if_pos h, if_pos (List.mem_map_of_mem h)]
    · rw [if_neg h, if_neg, List.map_append, List.map_singleton]
      intro z
      obtain ⟨j, hj, e⟩ := List.mem_map.mp z
      exact h (hf _ _ e ▸ hj)
theorem places_map {f : κ → ι} (hf : ∀ a b, f a = f b → a = b) (m : κ) (ks : List κ) : places (f m) (ks.map f) = places m ks := by
  unfold places
  rw [List.length_map]
  refine List.filter_congr fun i _ => ?_
  rw [List.getElem?_map]
  congr 1
  cases h : ks[i]? with
  | none => simp
  | some k =>
    simp only [Option.map_some, Option.some.injEq, eq_iff_iff]
    exact ⟨hf k m, fun e => by rw [e]⟩
theorem cells_map {f : κ → ι} (hf : ∀ a b, f a = f b → a = b) (ks : List κ) : cellsOf (ks.map f) = cellsOf ks := by
  unfold cellsOf
  rw [firsts_map hf, List.map_map]
  exact List.map_congr_left fun m _ => places_map hf m ks
end
abbrev kn (n : Nat) : Key := .inl (n : Int)
theorem kn_inj (a b : Nat) (h : kn a = kn b) : a = b := by
  have := Sum.inl.inj h
  omega
/-- the cells that are made -/
def PCl (Hf : Hp) (D : Addr) (cs : List (List Nat)) (i : Nat) (H1 : Hp) : Prop :=
  ∃ ts : List Addr, H1 D = some (.lst (ts.map V.ref)) ∧ Paired (fun t c => H1 t = some (.tup (nV c))) ts (cs.take i) ∧ Same Hf H1 ∧ ∀ t ∈ ts, Hf t = none
section
variable {P : Program} {w : World} {K : PySem.W.Frag} {mg : Str → Option Value} {base : Heap}
theorem ok_listed_cells (T : Tx K mg) : Ok P w K mg base "listed_cells" 1 (spCells K) := by
  refine ok_of T.a_listed_cells sclisted_cells (fun vs H Q E h => ?_) bi_listed_cells fun cdv A outer s H vs Q E hr h => ?_
  · obtain ⟨a, r, rfl, _⟩ := h
    rfl
  obtain ⟨a, r, rfl, ha, hz, hrow, hpos, hQ⟩ := h
  have ha1 : ∀ H1 : Hp, Same H H1 → SqT K H1 a (nV r) := fun H1 q => Same.sqT q ha
  refine ⟨_, (pss_cons (ps_setLc (i := 1) (own := [("_", 2)]) (g := gName 2) rfl sclisted_cells.nd rfl rfl (sw_true rfl rfl rfl (by decide +kernel)) (pi_range1 rfl T.f_range (pa_cons (pe_op op_add (pe_callB (maxTK K (hc := rfl)) (by rfl) T.f_max (by decide +kernel) (pa_cons (pv 0) pa_nil)) pe_int) pa_nil)) (blkOk_by (N := ["marks", "found", "_", "deal", "mark", "cell"]) (sc := defScope slisted_cells) (by decide +kernel)) (fun _ _ _ _ _ => (pg_name (i := 2) sclisted_cells.nd rfl (by first | exact Or.inl rfl | exact Or.inr rfl))) (fun _ _ _ _ _ => pts_nil) (fun _ _ _ _ _ => (pe_lst pa_nil)))
  (pss_cons (ps_for PassesOwn.never rfl (pi_enumT (by rfl) T.f_enumerate (pa_cons (pv 0) pa_nil)) (pg_tup rfl (pgs_cons (pg_name (i := 3) sclisted_cells.nd rfl (by first | exact Or.inl rfl | exact Or.inr rfl)) (pgs_cons (pg_name (i := 4) sclisted_cells.nd rfl (by first | exact Or.inl rfl | exact Or.inr rfl)) pgs_nil)))
  (pss_one (ps_expr (pe_bm PySem.F.plainAttrs_list PySem.F.slot_list_append PySem.F.type_list_append mt_append (pe_ix (ixL K) (pv 1) (pv 4) (fun _ _ => rfl)) (pa_cons (pv 3) pa_nil)))))
  (pss_one (ps_ret (pe_callTy (tupK K) (by rfl) T.f_tuple (by decide +kernel) (pa_cons (pe_lc (own := [("cell", 5)]) (g := gName 5) rfl sclisted_cells.nd (pi_list (pv 1)) (blkOk_by (N := ["marks", "found", "_", "deal", "mark", "cell"]) (sc := defScope slisted_cells) (by decide +kernel)) (fun _ _ _ _ _ => (pg_name (i := 5) sclisted_cells.nd rfl (by first | exact Or.inl rfl | exact Or.inr rfl))) (fun _ _ _ _ _ => pts_nil) (fun _ _ _ _ _ => (pe_callTy (tupK K) (by rfl) T.f_tuple (by decide +kernel) (pa_cons (pv 5) pa_nil)))) pa_nil)))))), ?_⟩
  refine ⟨_, rfl, a, r.map fun n => ((n : Nat) : Int), rfl, by rw [← nV_int]; exact ha, by rw [List.length_map]; exact hpos, fun mx hmx hle => ?_⟩
  have cpos : 0 < cnt r := by
    have q : at0 r 0 < cnt r := (row_mem hrow).mp (List.mem_of_getElem? (of_at0 hpos))
    omega
  have ecnt : mx + 1 = (cnt r : Nat) := by
    obtain ⟨n, hn, rfl⟩ := List.mem_map.mp hmx
    have h1 := (row_mem hrow).mp hn
    have h2 := hle (((cnt r - 1 : Nat) : Nat) : Int) (List.mem_map.mpr ⟨_, (row_mem hrow).mpr (by omega), rfl⟩)
    omega
  have cle : cnt r ≤ r.length := firsts_le r
  have big : (16777216 : Nat) ≤ sizeLine := by decide
  refine ⟨_, _, rfl, rfl, _, rfl, by omega, by omega, fun D nD => ?_⟩
  have et : (mx + 1).toNat = cnt r := by omega
  rw [et]
  refine lc_it walk_range (fun i H1 => ∃ ls : List Addr, H1 D = some (.lst (ls.map V.ref)) ∧ ls.length = i ∧ ls.Nodup ∧ Same H H1 ∧ ∀ l ∈ ls, H1 l = some (.lst []) ∧ H l = none) ?_ (fun _ _ _ _ => trivial) ?_ ?_
  · exact ⟨[], upd_same .., rfl, List.nodup_nil, same_new nD, fun l hl => by cases hl⟩
  · rintro i x H1 H2 hi ⟨ls, h1, h2, h3, h4, h5⟩ ⟨rfl, hx⟩
    refine ⟨rfl, Nat.zero_le _, fun l nl => ?_⟩
    have lD : l ≠ D := fun z => by rw [z, h1] at nl; cases nl
    refine ⟨ls.map V.ref, by rw [upd_ne lD.symm]; exact h1, by rw [List.length_map, h2]; omega, ls ++ [l], ?_, by rw [List.length_append, h2, List.length_singleton], ?_, fun b o q => ?_, fun l' hl' => ?_⟩
    · rw [upd_same, List.map_append, List.map_singleton]
    · exact List.nodup_append.mpr ⟨h3, List.nodup_cons.mpr ⟨List.not_mem_nil, List.nodup_nil⟩, fun x hx y hy e => by
        rw [List.mem_singleton.mp hy] at e
        rw [e] at hx
        have q := (h5 l hx).1
        rw [nl] at q
        cases q⟩
    · rw [upd_ne (fun z => by rw [z, nD] at q; cases q)]
      exact same_new nl _ _ (h4 _ _ q)
    · rcases List.mem_append.mp hl' with z | z
      · obtain ⟨q1, q2⟩ := h5 _ z
        refine ⟨?_, q2⟩
        rw [upd_ne (fun e => by rw [e, h1] at q1; cases ls with
          | nil => cases z
          | cons => cases q1)]
        exact same_new nl _ _ q1
      · rw [List.mem_singleton.mp z]
        exact ⟨by rw [upd_ne lD, upd_same], h4.free nl⟩
  · rintro H1 ⟨ls, h1, h2, h3, h4, h5⟩
    have la : ∀ m, m < cnt r → ls[m]? = some (ls.getD m 0) := fun m hm => by
      rw [List.getD_eq_getElem?_getD, getE (by rw [h2]; exact hm)] <;> rfl
    have inj : ∀ m m', m < cnt r → m' < cnt r → ls.getD m 0 = ls.getD m' 0 → m = m' := fun m m' hm hm' e => by
      have q1 := la m hm
      have q2 := la m' hm'
      rw [e] at q1
      exact (List.getElem?_inj (by rw [h2]; exact hm) h3).mp (q1.trans q2.symm)
    have lne : ∀ m, m < cnt r → ls.getD m 0 ≠ D := fun m hm e => by
      have q := (h5 _ (List.mem_of_getElem? (la m hm))).1
      rw [e, h1] at q
      cases ls with
      | nil => rw [← h2] at hm; exact absurd hm (Nat.not_lt_zero _)
      | cons => cases q
    refine ⟨_, rfl, a, nV r, rfl, ha1 _ h4, for_it (walk_enumT (xs := nV r)) (fun i σ H2 => ∃ m3 m4, σ = [some (.ref a), some (.ref D), none, m3, m4, none] ∧ H2 D = some (.lst (ls.map V.ref)) ∧ Same H H2 ∧ ∀ m, m < cnt r → H2 (ls.getD m 0) = some (.lst (nV (places m (r.take i))))) ?_ ?_ ?_ ?_⟩
    · exact ⟨none, none, rfl, h1, h4, fun m hm => (h5 _ (List.mem_of_getElem? (la m hm))).1⟩
    · exact fun i σ H1 _ h => by obtain ⟨_, _, _, _, h1, _⟩ := h; exact ha1 _ h1
    · rintro i v σ H2 H3 hi ⟨m3, m4, rfl, k1, k2, k3⟩ y
      obtain ⟨Tt, x0, x1, rfl, nT, rfl, hx0, hx1⟩ := y
      cases hx0
      have hi : i < r.length := by rw [nV_len] at hi; exact hi
      have ex : x1 = .int (at0 r i : Nat) := by
        have q := nV_at0 hi
        rw [show (nV r)[i]? = some x1 from hx1] at q
        exact Option.some.inj q
      subst ex
      have hm : at0 r i < cnt r := (row_mem hrow).mp (List.mem_of_getElem? (of_at0 hi))
      have s2 : Same H2 (upd H2 Tt (.tup [.int (i : Nat), .int (at0 r i : Nat)])) := same_new nT
      refine ⟨Tt, _, rfl, .inl (.inl (upd_same ..)), rfl, _, _, rfl, _, _, rfl, rfl, ?_⟩
      generalize hH3 : upd H2 Tt (.tup [.int (i : Nat), .int (at0 r i : Nat)]) = H3 at s2
      have g := s2 _ _ (k3 _ hm)
      refine ⟨_, rfl, _, rfl, D, _, _, _, rfl, rfl, .inl (.inl (s2 _ _ k1)), atI_nat (v := .ref (ls.getD (at0 r i) 0)) (by rw [List.getElem?_map, la _ hm] <;> rfl), ?_⟩
      refine ⟨.inl ⟨rfl, _, .inl (.inl g)⟩, _, rfl, _, _, _, rfl, rfl, g, ?_, ?_⟩
      · rw [nV_len]
        have := places_len (at0 r i) (r.take i)
        rw [List.length_take] at this
        omega
      rw [nV_snoc]
      refine ⟨_, _, rfl, by rw [upd_ne (lne _ hm).symm]; exact s2 _ _ k1, fun b o q => ?_, fun m hm' => ?_⟩
      · have q2 := (h5 _ (List.mem_of_getElem? (la _ hm))).2
        rw [upd_ne (fun z => by rw [z, q2] at q; cases q)]
        exact s2 _ _ (k2 _ _ q)
      · have tk : r.take (i + 1) = r.take i ++ [at0 r i] := by rw [List.take_add_one, of_at0 hi] <;> rfl
        rw [tk, places_snoc]
        by_cases e : m = at0 r i
        · rw [if_pos e, e, upd_same, List.length_take]
          have : min i r.length = i := by omega
          rw [this]
        · rw [if_neg e, upd_ne fun z => e (inj _ _ hm' hm z)]
          exact s2 _ _ (k3 _ hm')
    · rintro σ H2 ⟨m3, m4, rfl, k1, k2, k3⟩
      have e3 : ∀ m, m < cnt r → H2 (ls.getD m 0) = some (.lst (nV (places m r))) := fun m hm => by
        have q := k3 m hm
        rw [show r.take (nV r).length = r by rw [nV_len]; exact List.take_length] at q
        exact q
      refine ⟨_, rfl, D, rfl, ⟨_, .inl (.inl k1)⟩, fun D2 nD2 => ?_⟩
      have dD : D2 ≠ D := fun z => by rw [z, k1] at nD2; cases nD2
      refine lc_it (walk_list (xs := ls.map V.ref)) (PCl H2 D2 (cellsOf r)) ⟨[], upd_same .., .nil, same_new nD2, fun t ht => nomatch ht⟩ (fun i H3 _ h => by obtain ⟨_, _, _, h3, _⟩ := h; exact .inl (.inl (h3 _ _ k1))) ?_ ?_
      · rintro i x H4 H3 hi ⟨ts, g1, g2, g3, g4⟩ ⟨rfl, hx⟩
        have hi : i < cnt r := by rw [List.length_map, h2] at hi; exact hi
        rw [List.getElem?_map, la i hi] at hx
        cases hx
        refine ⟨rfl, ?_⟩
        refine ⟨_, rfl, _, _, rfl, .inl ⟨.inl (.inl (g3 _ _ (e3 i hi))), fun t nt => ?_⟩⟩
        have tD : D2 ≠ t := fun z => by rw [← z, g1] at nt; cases nt
        have s4 : Same H3 (upd H3 t (.tup (nV (places i r)))) := same_new nt
        have lts : ts.length = i := by
          rw [Paired.length g2, List.length_take, row_cells hrow, List.length_map, List.length_range]
          omega
        refine ⟨_, s4 _ _ g1, by rw [List.length_map]; omega, ts ++ [t], ?_, ?_, fun b o q => ?_, fun t' ht' => ?_⟩
        · rw [upd_same, List.map_append, List.map_singleton]
        · have tc : (cellsOf r).take (i + 1) = (cellsOf r).take i ++ [places i r] := by
            rw [List.take_add_one, row_cells hrow, List.getElem?_map, List.getElem?_range hi] <;> rfl
          rw [tc]
          refine psnoc (pimp (fun t' c _ z => ?_) g2) ?_
          · rw [upd_ne (fun q => by rw [q, g1] at z; cases z)]
            exact s4 _ _ z
          · rw [upd_ne (fun z => tD z.symm), upd_same]
        · rw [upd_ne (fun z => by rw [z, nD2] at q; cases q)]
          exact s4 _ _ (g3 _ _ q)
        · rcases List.mem_append.mp ht' with z | z
          · exact g4 _ z
          · rw [List.mem_singleton.mp z]
            exact g3.free nt
      · rintro H3 ⟨ts, g1, g2, g3, g4⟩
        refine ⟨D2, _, rfl, .inl ⟨.inl (.inl g1), fun p np => ?_⟩⟩
        have s5 : Same H (upd H3 p (.tup (ts.map V.ref))) := fun b o q => same_new np _ _ (g3 _ _ (k2 _ _ q))
        refine hQ _ p s5 ((show Same H H3 from fun b o q => g3 _ _ (k2 _ _ q)).free np) ⟨ts, upd_same .., ?_⟩
        have lt : (cellsOf r).take (ls.map V.ref).length = cellsOf r := by
          refine List.take_of_length_le ?_
          rw [row_cells hrow, List.length_map, List.length_map, List.length_range, h2]
          exact Nat.le_refl _
        rw [lt] at g2
        refine pimp (fun t c ht z => ?_) g2
        exact same_new np _ _ z
end
end K02
set_option Elab.async false
set_option linter.all false
set_option maxRecDepth 100000
set_option maxHeartbeats 4000000
namespace K02
open PySem PySem.Spec PyProof.Rows L2 Ms RZ
theorem ixN_n {n j : Nat} (h : j < n) : ixN n (j : Int) = some j := by
  unfold ixN
  rw [if_pos (by omega), if_pos (by omega)]
  simp
theorem nV_set (l : List Nat) (i v : Nat) : (nV l).set i (.int (v : Nat)) = nV (l.set i v) := by
  unfold nV
  rw [List.map_set]
theorem of_nV {l : List Nat} {i : Nat} {x : V} (h : (nV l)[i]? = some x) : ∃ n, l[i]? = some n ∧ x = .int (n : Nat) := by
  unfold nV at h
  rw [List.getElem?_map] at h
  cases e : l[i]? with
  | none => rw [e] at h; cases h
  | some n => rw [e] at h; exact ⟨n, rfl, (Option.some.inj h).symm⟩
/-- while boss[x] != x: boss[x] = boss[boss[x]]; x = boss[x] -/
def tfind (K : PySem.W.Frag) (s : Nat) : TS := tWhile (tTest (tOp rNe (tOp (rIxL K) (tVar 2) (tVar s)) (tVar s))) (tSeq (tAsg (tOp (rIxL K) (tVar 2) (tOp (rIxL K) (tVar 2) (tVar s))) (gSub (tVar 2) (tVar s) rSetL)) (tAsg (tOp (rIxL K) (tVar 2) (tVar s)) (gName s)))
theorem find_run {K : PySem.W.Frag} {s : Nat} (h2 : s ≠ 2) {D : Ends} {σ : L2.St} {H : Hp} {l : Addr} {bs : List Nat} {r dp : Nat → Nat} {x : Nat} (F : Forest bs r dp) (hl : H l = some (.lst (nV bs))) (s2 : σ[2]? = some (some (.ref l))) (ss : σ[s]? = some (some (.int (x : Nat)))) (hx : x < bs.length)
    (hQ : ∀ bs' H', Forest bs' r dp → bs'.length = bs.length → at0 bs' (r x) = r x → H' l = some (.lst (nV bs')) → (∀ b, b ≠ l → H' b = H b) → D.nx (σ.set s (some (.int (r x : Nat)))) H') : tfind K s D σ H := by
  refine ⟨fun m σ' H' => ∃ bs' y, m = dp y ∧ Forest bs' r dp ∧ bs'.length = bs.length ∧ y < bs.length ∧ r y = r x ∧ σ' = σ.set s (some (.int (y : Nat))) ∧ H' l = some (.lst (nV bs')) ∧ ∀ b, b ≠ l → H' b = H b, ⟨_, bs, x, rfl, F, rfl, hx, rfl, ?_, hl, fun _ _ => rfl⟩, ?_⟩
  · refine List.ext_getElem? fun j => ?_
    rw [List.getElem?_set]
    by_cases e : s = j
    · subst e
      rw [if_pos rfl, if_pos (ltE ss), ss]
    · rw [if_neg e]
  · rintro m σ' H' ⟨bs', y, rfl, F', hlen, hy, hr, rfl, hl', ho⟩
    have l2 : ∀ v : Option V, (σ.set s v)[2]? = some (some (.ref l)) := fun v => by rw [List.getElem?_set_ne h2]; exact s2
    have ls : ∀ v : Option V, (σ.set s v)[s]? = some v := fun v => by rw [List.getElem?_set_self (ltE ss)]
    have hy' : y < bs'.length := by rw [hlen]; exact hy
    refine ⟨_, l2 _, _, ls _, l, _, _, _, rfl, rfl, .inl (.inl hl'), atI_nat (nV_at0 hy'), _, ls _, rfl, _, rfl, ?_⟩
    by_cases e : at0 bs' y = y
    · have q : (!decide (V.int (at0 bs' y : Nat) = V.int (y : Nat))) = false := by rw [e]; simp
      rw [q]
      refine iteF ?_
      have q2 := F'.fix y hy' e
      have q3 := hQ bs' H' F' hlen (by rw [← hr, q2]; exact e) hl' ho
      rw [← hr, q2] at q3
      exact q3
    · have q : (!decide (V.int (at0 bs' y : Nat) = V.int (y : Nat))) = true := by
        have : ¬ V.int (at0 bs' y : Nat) = V.int (y : Nat) := fun z => e (by have := V.int.inj z; omega)
        rw [decide_eq_false this] <;> rfl
      rw [q]
      have l1 := F'.lt y hy'
      have F2 := F'.half hy' e
      have d1 := F'.dec y hy' e
      refine iteT ⟨fun σ1 H1 => ∃ m', m' < dp y ∧ ∃ bs' y, m' = dp y ∧ Forest bs' r dp ∧ bs'.length = bs.length ∧ y < bs.length ∧ r y = r x ∧ σ1 = σ.set s (some (.int (y : Nat))) ∧ H1 l = some (.lst (nV bs')) ∧ ∀ b, b ≠ l → H1 b = H b, fun _ _ z => z, ?_⟩
      refine ⟨_, l2 _, _, l2 _, _, ls _, l, _, _, _, rfl, rfl, .inl (.inl hl'), atI_nat (nV_at0 hy'), l, _, _, _, rfl, rfl, .inl (.inl hl'), atI_nat (nV_at0 l1), ?_⟩
      refine ⟨_, l2 _, _, ls _, l, _, _, _, rfl, rfl, hl', ixN_n (by rw [nV_len]; exact hy'), ?_⟩
      rw [nV_set]
      have g : upd H' l (.lst (nV (bs'.set y (at0 bs' (at0 bs' y))))) l = some (.lst (nV (bs'.set y (at0 bs' (at0 bs' y))))) := upd_same ..
      have hy2 : y < (bs'.set y (at0 bs' (at0 bs' y))).length := by rw [List.length_set]; exact hy'
      refine ⟨_, l2 _, _, ls _, l, _, _, _, rfl, rfl, .inl (.inl g), atI_nat (nV_at0 hy2), ?_⟩
      rw [at0_set hy', if_pos rfl]
      have l3 := F'.lt _ l1
      have d2 : dp (at0 bs' (at0 bs' y)) ≤ dp (at0 bs' y) := by
        by_cases z : at0 bs' (at0 bs' y) = at0 bs' y
        · rw [z]; exact Nat.le_refl _
        · exact Nat.le_of_lt (F'.dec _ l1 z)
      refine ⟨dp (at0 bs' (at0 bs' y)), by omega, _, _, rfl, F2, by rw [List.length_set]; exact hlen, by rw [← hlen]; exact l3, by rw [F'.up _ l1, F'.up y hy']; exact hr, by rw [List.set_set], g, fun b hb => ?_⟩
      rw [upd_ne hb]
      exact ho b hb
/-- low = first[other]; .. boss[high] = low -/
def tjoin (K : PySem.W.Frag) : TS := tSeq (tAsg (tDGet (tVar 3) (tVar 5)) (gName 6)) (tSeq (tfind K 6) (tSeq (tAsg (tVar 4) (gName 7)) (tSeq (tfind K 7) (tAsg (tVar 6) (gSub (tVar 2) (tVar 7) rSetL)))))
theorem join_run {K : PySem.W.Frag} {D : Ends} {H : Hp} {a b l d : Addr} {m3 m4 : Option V} {bs : List Nat} {r dp : Nat → Nat} {x y v : Nat} (F : Forest bs r dp) (hl : H l = some (.lst (nV bs))) (hx : x < bs.length) (hv : v < bs.length) (hd : DGet H d (.int (y : Nat)) (some (.int (v : Nat)))) (dl : d ≠ l)
    (hQ : ∀ bs' r' H' m3 m4, (∃ dp, Forest bs' r' dp) → bs'.length = bs.length → (∀ z, z < bs.length → r' z = if r z = r x then r v else r z) → H' l = some (.lst (nV bs')) → (∀ b, b ≠ l → H' b = H b) →
      D.nx [some (.ref a), some (.ref b), some (.ref l), some (.ref d), some (.int (x : Nat)), some (.int (y : Nat)), m3, m4, none, none] H') :
    tjoin K D [some (.ref a), some (.ref b), some (.ref l), some (.ref d), some (.int (x : Nat)), some (.int (y : Nat)), m3, m4, none, none] H := by
  refine ⟨_, rfl, _, rfl, d, _, rfl, hd, ?_⟩
  show tfind K 6 _ _ _
  refine find_run (x := v) (by decide) F hl rfl rfl hv fun bs1 H1 F1 e1 t1 l1 o1 => ?_
  refine ⟨_, rfl, ?_⟩
  show tfind K 7 _ _ _
  refine find_run (x := x) (by decide) F1 l1 rfl rfl (by rw [e1]; exact hx) fun bs2 H2 F2 e2 t2 l2 o2 => ?_
  obtain ⟨k1, k2, _⟩ := F2.root _ v (Nat.le_refl _) (by rw [e2, e1]; exact hv)
  obtain ⟨k3, k4, _⟩ := F2.root _ x (Nat.le_refl _) (by rw [e2, e1]; exact hx)
  obtain ⟨r', dp', F3, hr'⟩ := F2.link k1 k3 k2 k4
  refine ⟨_, rfl, _, rfl, _, rfl, l, _, _, _, rfl, rfl, l2, ixN_n (by rw [nV_len]; exact k3), ?_⟩
  rw [nV_set]
  exact hQ _ r' _ _ _ ⟨dp', F3⟩ (by rw [List.length_set, e2, e1]) (fun z hz => hr' z (by rw [e2, e1]; exact hz)) (upd_same ..) fun c hc => by rw [upd_ne hc, o2 c hc, o1 c hc]
theorem walk_zipT {K : PySem.W.Frag} {a b : Addr} {xs ys : List V} (hn : xs.length = ys.length) : Walk (ItzT K a b) xs.length (fun H => SqT K H a xs ∧ SqT K H b ys) (YPair (fun i => xs[i]?) (fun i => ys[i]?)) := by
  refine ⟨fun i _ hi q => ?_, fun _ q => ⟨xs, ys, q.1, q.2, .inl (Nat.le_refl _)⟩, fun i H v H' _ q y => ?_⟩
  · have h2 : i < ys.length := hn ▸ hi
    exact ⟨xs, ys, xs[i], ys[i], q.1, q.2, getE hi, getE h2⟩
  · obtain ⟨T, x, z, h1, h2, h3, h4, h5⟩ := y
    exact ⟨T, x, z, h1, h2, h3, h4 xs q.1, h5 ys q.2⟩
def spJoin (K : PySem.W.Frag) : Sp := fun vs H Q _ => ∃ a b one two, vs = [.ref a, .ref b] ∧ SqT K H a (nV one) ∧ SqT K H b (nV two) ∧ one.length = two.length ∧ (∀ x ∈ one, x < one.length) ∧ one.length ≤ 16777216 ∧ ∀ H' p r, Same H H' → H p = none → H' p = some (.lst (nV r)) → Joins one two r → Q (.ref p) H'
/-- the rows joined so far -/
structure PJ (H : Hp) (a b l d : Addr) (one two : List Nat) (i : Nat) (bs : List Nat) (r : Nat → Nat) (H1 : Hp) : Prop where
  same : Same H H1
  boss : H1 l = some (.lst (nV bs))
  dict : H1 d = some (.dK ((firsts ((two.map kn).take i)).map fun k => (k, .int (at0 one (ix1 (two.map kn) k) : Nat))))
  fo : ∃ dp, Forest bs r dp
  len : bs.length = one.length
  pat : ∀ p q, p < one.length → q < one.length → (r (at0 one p) = r (at0 one q) ↔ Eqv (Gn one one.length (two.map kn) i) p q)
theorem jn_map {one two : List Nat} (p q : Nat) : Eqv (Gn one one.length (two.map kn) two.length) p q ↔ Jn one two p q := by
  have key : ∀ p q, Gn one one.length (two.map kn) two.length p q ↔ Gn one one.length two two.length p q := fun p q => by
    unfold Gn
    refine or_congr Iff.rfl (and_congr_right fun h1 => and_congr_right fun h2 => ?_)
    rw [List.getElem?_map, List.getElem?_map, getE h1, getE h2]
    simp only [Option.map_some, Option.some.injEq]
    exact ⟨fun e => kn_inj _ _ e, fun e => by rw [e]⟩
  exact ⟨fun e => e.mono fun p q g => .of ((key p q).mp g), fun e => e.mono fun p q g => .of ((key p q).mpr g)⟩
section
variable {P : Program} {w : World} {K : PySem.W.Frag} {mg : Str → Option Value} {base : Heap}
theorem ok_joined_marks (T : Tx K mg) : Ok P w K mg base "joined_marks" 1 (spJoin K) := by
  refine ok_of T.a_joined_marks scjoined_marks (fun vs H Q E h => ?_) bi_joined_marks fun cdv A outer s H vs Q E hr h => ?_
  · obtain ⟨a, b, one, two, rfl, _⟩ := h
    rfl
  obtain ⟨a, b, one, two, rfl, ha, hb, hlen, hlt, hz, hQ⟩ := h
  have ha1 : ∀ H1 : Hp, Same H H1 → SqT K H1 a (nV one) := fun H1 s => Same.sqT s ha
  have hb1 : ∀ H1 : Hp, Same H H1 → SqT K H1 b (nV two) := fun H1 s => Same.sqT s hb
  refine ⟨_, (pss_cons (ps_set (i := 2) scjoined_marks.nd rfl (by first | exact Or.inl rfl | exact Or.inr rfl) (pe_listRg rfl (by rfl) T.f_list (prg_1 (by rfl) T.f_range (pe_callB (lenK K) (by rfl) T.f_len boot_len (pa_cons (pv 0) pa_nil)))))
  (pss_cons (ps_set (i := 3) scjoined_marks.nd rfl (by first | exact Or.inl rfl | exact Or.inr rfl) pe_dnewK)
  (pss_cons (ps_for PassesOwn.never rfl (pi_zipA (by rfl) T.f_zip (pa_cons (pv 0) (pa_cons (pv 1) pa_nil))) (pg_tup rfl (pgs_cons (pg_name (i := 4) scjoined_marks.nd rfl (by first | exact Or.inl rfl | exact Or.inr rfl)) (pgs_cons (pg_name (i := 5) scjoined_marks.nd rfl (by first | exact Or.inl rfl | exact Or.inr rfl)) pgs_nil)))
  (pss_cons (ps_if (pt_cmp (pc_dnotin (hu_of hr) (pv 5) (pv 3)))
    (pss_one (ps_dput (hu_of hr) (pv 3) (pv 5) (pv 4) rfl))
    pss_nil)
    (pss_cons (ps_set (i := 6) scjoined_marks.nd rfl (by first | exact Or.inl rfl | exact Or.inr rfl) (pe_dget (hu_of hr) (pv 3) (pv 5) (fun _ _ => rfl)))
    (pss_cons (ps_while PassesOwn.never (pt_cmpR op_ne (pe_ix (ixL K) (pv 2) (pv 6) (fun _ _ => rfl)) (pv 6) (nomark _))
    (pss_cons (ps_asg (pe_ix (ixL K) (pv 2) (pe_ix (ixL K) (pv 2) (pv 6) (fun _ _ => rfl)) (fun _ _ => rfl)) (pg_sub (pv 2) (pv 6) set_list))
      (pss_one (ps_set (i := 6) scjoined_marks.nd rfl (by first | exact Or.inl rfl | exact Or.inr rfl) (pe_ix (ixL K) (pv 2) (pv 6) (fun _ _ => rfl))))))
    (pss_cons (ps_set (i := 7) scjoined_marks.nd rfl (by first | exact Or.inl rfl | exact Or.inr rfl) (pv 4))
    (pss_cons (ps_while PassesOwn.never (pt_cmpR op_ne (pe_ix (ixL K) (pv 2) (pv 7) (fun _ _ => rfl)) (pv 7) (nomark _))
    (pss_cons (ps_asg (pe_ix (ixL K) (pv 2) (pe_ix (ixL K) (pv 2) (pv 7) (fun _ _ => rfl)) (fun _ _ => rfl)) (pg_sub (pv 2) (pv 7) set_list))
      (pss_one (ps_set (i := 7) scjoined_marks.nd rfl (by first | exact Or.inl rfl | exact Or.inr rfl) (pe_ix (ixL K) (pv 2) (pv 7) (fun _ _ => rfl))))))
    (pss_one (ps_asg (pv 6) (pg_sub (pv 2) (pv 7) set_list)))))))))
  (pss_cons (ps_set (i := 8) scjoined_marks.nd rfl (by first | exact Or.inl rfl | exact Or.inr rfl) (pe_lst pa_nil))
  (pss_cons (ps_for PassesOwn.never rfl (pi_tup (pv 0)) (pg_name (i := 4) scjoined_marks.nd rfl (by first | exact Or.inl rfl | exact Or.inr rfl))
  (pss_cons (ps_set (i := 9) scjoined_marks.nd rfl (by first | exact Or.inl rfl | exact Or.inr rfl) (pv 4))
    (pss_cons (ps_while PassesOwn.never (pt_cmpR op_ne (pe_ix (ixL K) (pv 2) (pv 9) (fun _ _ => rfl)) (pv 9) (nomark _))
    (pss_cons (ps_asg (pe_ix (ixL K) (pv 2) (pe_ix (ixL K) (pv 2) (pv 9) (fun _ _ => rfl)) (fun _ _ => rfl)) (pg_sub (pv 2) (pv 9) set_list))
      (pss_one (ps_set (i := 9) scjoined_marks.nd rfl (by first | exact Or.inl rfl | exact Or.inr rfl) (pe_ix (ixL K) (pv 2) (pv 9) (fun _ _ => rfl))))))
    (pss_one (ps_expr (pe_bm PySem.F.plainAttrs_list PySem.F.slot_list_append PySem.F.type_list_append mt_append (pv 8) (pa_cons (pv 9) pa_nil)))))))
  (pss_one (ps_ret (pv 8)))))))), ?_⟩
  refine ⟨_, rfl, a, _, rfl, .inr ha, _, rfl, ⟨by omega, by omega, by rw [nV_len]; omega, by rw [nV_len]; omega, by rw [nV_len]; omega⟩, fun l nl => ?_⟩
  refine fun d nd => ?_
  have dl : d ≠ l := fun z => by rw [z, upd_same] at nd; cases nd
  have nd1 : H d = none := by rw [upd_ne dl] at nd; exact nd
  have erg : rgV 0 ((nV one).length : Nat) = nV (List.range one.length) := by
    unfold rgV nV
    rw [List.length_map]
    simp
  rw [erg]
  refine ⟨_, rfl, _, rfl, a, b, nV one, nV two, rfl, .inr ⟨ha1 _ (Same.new2 nl nd1), hb1 _ (Same.new2 nl nd1), ?_⟩⟩
  refine for_it (walk_zipT (xs := nV one) (ys := nV two) (by rw [nV_len, nV_len]; exact hlen)) (fun i σ H1 => ∃ m1 m2 m3 m4 bs r, σ = [some (.ref a), some (.ref b), some (.ref l), some (.ref d), m1, m2, m3, m4, none, none] ∧ PJ H a b l d one two i bs r H1) ?_ ?_ ?_ ?_
  · refine ⟨none, none, none, none, List.range one.length, fun x => x, rfl, Same.new2 nl nd1, by rw [upd_ne (fun z => dl z.symm), upd_same], upd_same .., ⟨_, forest_range _⟩, List.length_range, fun p q hp hq => ⟨fun e => .of (.inl ⟨hp, hq, by rw [of_at0 hp, of_at0 hq, e]⟩), fun e => ?_⟩⟩
    have key : ∀ {p q}, Eqv (Gn one one.length (two.map kn) 0) p q → one[p]? = one[q]? := fun {p q} z => by
      induction z with
      | of g =>
        rcases g with ⟨_, _, g⟩ | ⟨g, _, _⟩
        · exact g
        · omega
      | refl a => rfl
      | symm _ ih => exact ih.symm
      | trans _ _ i1 i2 => exact i1.trans i2
    have q := key e
    rw [of_at0 hp, of_at0 hq] at q
    exact Option.some.inj q
  · rintro i σ H1 _ ⟨m1, m2, m3, m4, bs, r, _, J⟩
    exact ⟨ha1 _ J.same, hb1 _ J.same⟩
  · rintro i v σ H1 H2 hi ⟨m1, m2, m3, m4, bs, r, rfl, J⟩ ⟨Tt, x0, y0, rfl, nT, rfl, hx0, hy0⟩
    obtain ⟨x, hx, rfl⟩ := of_nV (show (nV one)[i]? = some x0 from hx0)
    obtain ⟨y, hy, rfl⟩ := of_nV (show (nV two)[i]? = some y0 from hy0)
    rw [nV_len] at hi
    have hky : (two.map kn)[i]? = some (kn y) := by rw [List.getElem?_map, hy] <;> rfl
    generalize hks : two.map kn = ks at *
    have lks : ks.length = one.length := by rw [← hks, List.length_map, hlen]
    have tk : ks.take (i + 1) = ks.take i ++ [kn y] := by rw [List.take_add_one, hky] <;> rfl
    have s2 : Same H1 (upd H1 Tt (.tup [.int (x : Nat), .int (y : Nat)])) := fun b o e => by rw [upd_ne (fun z => by rw [z, nT] at e; cases e)]; exact e
    refine ⟨Tt, _, rfl, .inl (.inl (upd_same ..)), rfl, _, _, rfl, _, _, rfl, rfl, ?_⟩
    generalize hH2 : upd H1 Tt (.tup [.int (x : Nat), .int (y : Nat)]) = H2 at s2
    have dict2 := J.dict
    rw [hks] at dict2
    have dict2 := s2 _ _ dict2
    have boss2 := s2 _ _ J.boss
    have pat2 := J.pat
    rw [hks] at pat2
    obtain ⟨dp, Fo⟩ := J.fo
    have hix := idx_first hky
    have hui : ix1 ks (kn y) < one.length := by omega
    have xlt : x < bs.length := by rw [J.len]; exact hlt x (List.mem_of_getElem? hx)
    have vlt : at0 one (ix1 ks (kn y)) < bs.length := by rw [J.len]; exact hlt _ (List.mem_of_getElem? (of_at0 hui))
    have rest : ∀ {D : Ends} (H3 : Hp), (∀ σ H1, (∃ m1 m2 m3 m4 bs r, σ = [some (.ref a), some (.ref b), some (.ref l), some (.ref d), m1, m2, m3, m4, none, none] ∧ PJ H a b l d one two (i + 1) bs r H1) → D.nx σ H1) → Same H H3 → H3 l = some (.lst (nV bs)) → H3 d = some (.dK ((firsts (ks.take (i + 1))).map fun k => (k, .int (at0 one (ix1 ks k) : Nat)))) →
        tjoin K D [some (.ref a), some (.ref b), some (.ref l), some (.ref d), some (.int (x : Nat)), some (.int (y : Nat)), m3, m4, none, none] H3 := by
      intro D H3 hD s3 b3 d3
      have gd : DGet H3 d (.int (y : Nat)) (some (.int (at0 one (ix1 ks (kn y)) : Nat))) := by
        have q := DGet.k (k := kn y) d3
        rw [valV_of, if_pos ((mem_firsts _ _).mpr (by rw [tk]; exact List.mem_append_right _ (List.mem_singleton.mpr rfl)))] at q
        exact q
      refine join_run Fo b3 xlt vlt gd dl fun bs' r' H' m3' m4' hF hl' hr' hb' ho' => hD _ _ ⟨_, _, m3', m4', bs', r', rfl, ?_⟩
      refine ⟨fun c o q => ?_, hb', ?_, hF, by rw [hl', J.len], fun p q hp hq => ?_⟩
      · rw [ho' c (fun z => by rw [z, nl] at q; cases q)]
        exact s3 _ _ q
      · rw [ho' d dl, hks]
        exact d3
      · have lt1 : ∀ p, p < one.length → at0 one p < bs.length := fun p hp => by rw [J.len]; exact hlt _ (List.mem_of_getElem? (of_at0 hp))
        rw [hr' _ (lt1 p hp), hr' _ (lt1 q hq), hks, gn_two hky]
        have ex : x = at0 one i := (at0_of hx).symm
        have P1 := fun p q hp hq => pat2 p q hp hq
        unfold Mg
        rw [← P1 p q hp hq, ← P1 p _ hp hui, ← P1 i q hi hq, ← P1 p i hp hi, ← P1 _ q hui hq, ex]
        generalize r (at0 one p) = A
        generalize r (at0 one q) = B
        generalize r (at0 one i) = C
        generalize r (at0 one (ix1 ks (kn y))) = D
        by_cases h1 : A = C
        · by_cases h2 : B = C
          · rw [if_pos h1, if_pos h2]
            exact ⟨fun _ => .inl (h1.trans h2.symm), fun _ => rfl⟩
          · rw [if_pos h1, if_neg h2]
            exact ⟨fun z => .inr (.inr ⟨h1, z⟩), fun z => by rcases z with z | ⟨z1, z2⟩ | ⟨z1, z2⟩ <;> omega⟩
        · by_cases h2 : B = C
          · rw [if_neg h1, if_pos h2]
            exact ⟨fun z => .inr (.inl ⟨z, h2.symm⟩), fun z => by rcases z with z | ⟨z1, z2⟩ | ⟨z1, z2⟩ <;> omega⟩
          · rw [if_neg h1, if_neg h2]
            exact ⟨.inl, fun z => by rcases z with z | ⟨z1, z2⟩ | ⟨z1, z2⟩ <;> omega⟩
    refine ⟨_, rfl, _, rfl, d, _, rfl, DGet.k (k := kn y) dict2, _, rfl, ?_⟩
    rw [valV_of]
    by_cases hin : kn y ∈ firsts (ks.take i)
    · rw [if_pos hin]
      refine iteF ?_
      show tjoin K _ _ _
      have he : firsts (ks.take (i + 1)) = firsts (ks.take i) := by rw [tk, firsts_old ((mem_firsts _ _).mp hin)]
      exact rest H2 (fun _ _ z => z) (fun b o q => s2 _ _ (J.same _ _ q)) boss2 (by rw [he]; exact dict2)
    · rw [if_neg hin]
      refine iteT ?_
      have vn : valV ((firsts (ks.take i)).map fun k => (k, V.int (at0 one (ix1 ks k) : Nat))) (kn y) = none := by rw [valV_of, if_neg hin]
      have lt : (firsts (ks.take i)).length ≤ i := Nat.le_trans (firsts_le _) (List.length_take_le ..)
      refine ⟨_, rfl, _, rfl, _, rfl, d, _, rfl, DPut.k (k := kn y) dict2 (by rw [List.length_map]; have : (16777216 : Nat) ≤ sizeLine := by decide
                                                                              omega), ?_⟩
      rw [putK_new _ vn]
      have hu : ix1 ks (kn y) = i := by
        obtain ⟨l1, e1⟩ := idx_first hky
        rcases Nat.lt_or_ge (ix1 ks (kn y)) i with g | g
        · exfalso
          refine hin ((mem_firsts _ _).mpr (List.mem_of_getElem? (i := ix1 ks (kn y)) ?_))
          rw [List.getElem?_take_of_lt g]
          exact e1
        · omega
      show tjoin K _ _ _
      refine rest _ (fun _ _ z => z) (fun b o q => ?_) ?_ ?_
      · rw [upd_ne (fun z => by rw [z, nd1] at q; cases q)]
        exact s2 _ _ (J.same _ _ q)
      · rw [upd_ne (fun z => dl z.symm)]
        exact boss2
      · rw [upd_same, tk, firsts_new (fun z => hin ((mem_firsts _ _).mpr z)), List.map_append, List.map_singleton, hu, at0_of hx]
  · rintro σ H1 ⟨m1, m2, m3, m4, bs, r, rfl, J⟩
    rw [nV_len] at J
    obtain ⟨dp, Fo⟩ := J.fo
    refine ⟨by show 0 ≤ sizeLine; decide, fun f nf => ?_⟩
    have fl : f ≠ l := fun z => by rw [z, J.boss] at nf; cases nf
    have sf : Same H (upd H1 f (.lst [])) := fun b o q => by
      have q1 := J.same _ _ q
      rw [upd_ne (fun z => by rw [z, nf] at q1; cases q1)]
      exact q1
    have nf0 : H f = none := J.same.free nf
    refine ⟨_, rfl, a, rfl, ⟨_, ha1 _ sf⟩, for_tup (xs := nV one) (fun i σ H2 => ∃ m1 m2 m3 m4 m9 bs', σ = [some (.ref a), some (.ref b), some (.ref l), some (.ref d), m1, m2, m3, m4, some (.ref f), m9] ∧ Same H H2 ∧ H2 l = some (.lst (nV bs')) ∧ Forest bs' r dp ∧ bs'.length = one.length ∧ H2 f = some (.lst (nV ((one.take i).map r)))) ?_ ?_ ?_ ?_⟩
    · exact ⟨m1, m2, m3, m4, none, bs, rfl, sf, by rw [upd_ne (fun z => fl z.symm)]; exact J.boss, Fo, J.len, upd_same ..⟩
    · rintro i σ H2 _ ⟨_, _, _, _, _, _, _, h, _⟩
      exact ha1 _ h
    · rintro i x0 σ H2 hx0 ⟨m1, m2, m3, m4, m9, bs', rfl, s2, b2, F2, e2, f2⟩
      obtain ⟨x, hx, rfl⟩ := of_nV hx0
      have hi := ltE hx
      have xlt : x < bs'.length := by rw [e2]; exact hlt x (List.mem_of_getElem? hx)
      refine ⟨_, rfl, ?_⟩
      show tfind K 9 _ _ _
      refine find_run (x := x) (by decide) F2 b2 rfl rfl xlt fun bs3 H3 F3 e3 _ l3 o3 => ?_
      have f3 : H3 f = some (.lst (nV ((one.take i).map r))) := by rw [o3 f fl]; exact f2
      refine ⟨_, rfl, .inl ⟨rfl, _, .inl (.inl f3)⟩, _, rfl, f, _, _, rfl, rfl, f3, ?_, ?_⟩
      · rw [nV_len, List.length_map, List.length_take]
        have : (16777216 : Nat) ≤ sizeLine := by decide
        omega
      · refine ⟨_, m2, m3, m4, _, bs3, rfl, fun c o q => ?_, ?_, F3, by rw [e3, e2], ?_⟩
        · rw [upd_ne (fun z => by rw [z, nf0] at q; cases q), o3 c (fun z => by rw [z, nl] at q; cases q)]
          exact s2 _ _ q
        · rw [upd_ne (fun z => fl z.symm)]
          exact l3
        · rw [upd_same, List.take_add_one, hx, List.map_append]
          unfold nV
          rw [List.map_append] <;> rfl
    · rintro σ H2 ⟨m1, m2, m3, m4, m9, bs', rfl, s2, b2, F2, e2, f2⟩
      rw [nV_len, List.take_length] at f2
      refine ⟨_, rfl, hQ _ f (one.map r) s2 nf0 f2 ⟨List.length_map .., fun p q x y hp hq => ?_⟩⟩
      have lp : p < one.length := by have := ltE hp; rw [List.length_map] at this; exact this
      have lq : q < one.length := by have := ltE hq; rw [List.length_map] at this; exact this
      rw [List.getElem?_map, of_at0 lp] at hp
      rw [List.getElem?_map, of_at0 lq] at hq
      rw [← Option.some.inj hp, ← Option.some.inj hq, J.pat p q lp lq, hlen]
      rw [← hlen]
      have q := jn_map (one := one) (two := two) p q
      rw [← hlen] at q
      exact q
end
end K02
set_option Elab.async false
set_option linter.all false
set_option maxRecDepth 100000
set_option maxHeartbeats 4000000
/-! Ms: rows of numbers compared. -/
namespace Ms
open PySem PySem.Spec PyProof.Rows L2
def dI (ns : List Int) : List PyData := ns.map PyData.int
theorem dpI {K : PySem.W.Frag} {H : Hp} : ∀ ns : List Int, DpAll K H (ns.map V.int) (dI ns)
  | [] => .nil
  | n :: ns => .cons (.int n) (dpI ns)
theorem layI : ∀ ns : List Int, PyData.canLayAll0 (dI ns) = true
  | [] => by simp [dI, PyData.canLayAll0]
  | n :: ns => by
    have ih := layI ns
    unfold dI at ih ⊢
    simp only [List.map_cons, PyData.canLayAll0, PyData.canLay0, ih, Bool.and_self]
theorem depI : ∀ ns : List Int, PyData.depthAll (dI ns) = 0
  | [] => by simp [dI, PyData.depthAll]
  | n :: ns => by
    have ih := depI ns
    unfold dI at ih ⊢
    simp only [List.map_cons, PyData.depthAll, PyData.depth, ih] <;> rfl
theorem eqvI : ∀ ns ms : List Int, PyData.eqvAll (dI ns) (dI ms) = decide (ns = ms)
  | [], [] => by simp [dI, PyData.eqvAll]
  | [], _ :: _ => by simp [dI, PyData.eqvAll]
  | _ :: _, [] => by simp [dI, PyData.eqvAll]
  | n :: ns, m :: ms => by
    have ih := eqvI ns ms
    unfold dI at ih ⊢
    simp only [List.map_cons, PyData.eqvAll, PyData.eqv, ih]
    by_cases h : n = m
    · subst h; simp
    · simp [h]
theorem shI (ns : List Int) : SeqAt.shaped (.list (dI ns)) = true := by
  unfold SeqAt.shaped
  simp only [PyData.canLay0, layI, PyData.depth, depI, Bool.true_and]
  decide
theorem shT (ns : List Int) : SeqAt.shaped (.tuple (dI ns)) = true := by
  unfold SeqAt.shaped
  simp only [PyData.canLay0, layI, PyData.depth, depI, Bool.true_and]
  decide
theorem eqvL (ns ms : List Int) : PyData.eqv (.list (dI ns)) (.list (dI ms)) = decide (ns = ms) := by
  rw [← eqvI] <;> simp [PyData.eqv]
theorem eqvT (ns ms : List Int) : PyData.eqv (.tuple (dI ns)) (.tuple (dI ms)) = decide (ns = ms) := by
  rw [← eqvI] <;> simp [PyData.eqv]
/-! rows of rows -/
def dR (rs : List (List Int)) : List PyData := rs.map fun r => .list (dI r)
theorem layR : ∀ rs : List (List Int), PyData.canLayAll0 (dR rs) = true
  | [] => by simp [dR, PyData.canLayAll0]
  | r :: rs => by
    have ih := layR rs
    unfold dR at ih ⊢
    simp only [List.map_cons, PyData.canLayAll0, PyData.canLay0, layI, ih, Bool.and_self]
theorem depR : ∀ rs : List (List Int), PyData.depthAll (dR rs) ≤ 1
  | [] => by simp [dR, PyData.depthAll]
  | r :: rs => by
    have ih := depR rs
    unfold dR at ih ⊢
    simp only [List.map_cons, PyData.depthAll, PyData.depth, depI]
    omega
theorem eqvR : ∀ rs ts : List (List Int), PyData.eqvAll (dR rs) (dR ts) = decide (rs = ts)
  | [], [] => by simp [dR, PyData.eqvAll]
  | [], _ :: _ => by simp [dR, PyData.eqvAll]
  | _ :: _, [] => by simp [dR, PyData.eqvAll]
  | r :: rs, t :: ts => by
    have ih := eqvR rs ts
    unfold dR at ih ⊢
    simp only [List.map_cons, PyData.eqvAll, eqvL, ih]
    by_cases h : r = t
    · subst h; simp
    · simp [h]
theorem shR (rs : List (List Int)) : SeqAt.shaped (.list (dR rs)) = true := by
  unfold SeqAt.shaped
  have h := depR rs
  have e : PyData.depth (.list (dR rs)) ≤ 64 := by
    unfold PyData.depth
    omega
  have l : PyData.canLay0 (.list (dR rs)) = true := by
    unfold PyData.canLay0
    exact layR rs
  rw [l, decide_eq_true e] <;> rfl
theorem eqvLR (rs ts : List (List Int)) : PyData.eqv (.list (dR rs)) (.list (dR ts)) = decide (rs = ts) := by
  rw [← eqvR] <;> simp [PyData.eqv]
theorem dpR {K : PySem.W.Frag} {H : Hp} {as : List Addr} {rs : List (List Int)} (h : Paired (fun a r => SqL K H a (r.map V.int)) as rs) : DpAll K H (as.map V.ref) (dR rs) := by
  induction h with
  | nil => exact .nil
  | cons r _ ih => exact .cons (.lst r (dpI _)) ih
end Ms
set_option Elab.async false
set_option linter.all false
set_option maxRecDepth 100000
set_option maxHeartbeats 4000000
namespace K02
open PySem PySem.Spec PyProof.Rows L2 Ms
abbrev CS (K : PySem.W.Frag) : Addr := He.ga K "Sight"
abbrev SD (K : PySem.W.Frag) : Addr := He.ga K "SizesDiffer"
abbrev ND (K : PySem.W.Frag) : Addr := He.ga K "NoDeals"
/-- a sight at p: the row of its marks -/
structure SightAt (K : PySem.W.Frag) (H : Hp) (p : Addr) (r : List Nat) : Prop where
  ex : ∃ dx t c, H p = some (.ins (CS K) dx [("size", .int (r.length : Nat)), ("marks", .ref t), ("_cells", .ref c)]) ∧ H t = some (.tup (nV r)) ∧ CellsAt H c (cellsOf r)
  row : Row r
  pos : 0 < r.length
  few : r.length ≤ 16777216
theorem SightAt.same {K : PySem.W.Frag} {H H' : Hp} (s : Same H H') {p : Addr} {r : List Nat} (h : SightAt K H p r) : SightAt K H' p r :=
  let ⟨dx, t, c, h1, h2, h3⟩ := h.ex
  ⟨⟨dx, t, c, s _ _ h1, s _ _ h2, h3.same s⟩, h.row, h.pos, h.few⟩
theorem row_lt {r : List Nat} (h : Row r) : ∀ x ∈ r, x < r.length := fun x hx => by
  rw [← show ren r = r from h] at hx
  have h1 := ren_lt hx
  have h2 := firsts_le r
  omega
/-- marks in a list or a tuple, or pairs of them in a list -/
def MarksAt (K : PySem.W.Frag) (H : Hp) (a : Addr) (r : List Nat) : Prop := ∃ xs : List V, xs.length ≤ 16777216 ∧ ((∃ ns : List Int, xs = ns.map V.int ∧ r = ren ns ∧ (SqL K H a xs ∨ SqT K H a xs)) ∨
  ∃ (ts : List Addr) (ps : List (Int × Int)), xs = ts.map V.ref ∧ r = ren ps ∧ Paired (fun t p => H t = some (pairV p)) ts ps ∧ SqL K H a xs)
theorem MarksAt.same {K : PySem.W.Frag} {H H' : Hp} (s : Same H H') {a : Addr} {r : List Nat} (h : MarksAt K H a r) : MarksAt K H' a r := by
  obtain ⟨xs, hz, h⟩ := h
  refine ⟨xs, hz, ?_⟩
  rcases h with ⟨ns, e1, e2, h | h⟩ | ⟨ts, ps, e1, e2, h, g⟩
  · exact .inl ⟨ns, e1, e2, .inl (Same.seq s h)⟩
  · exact .inl ⟨ns, e1, e2, .inr (Same.sqT s h)⟩
  · exact .inr ⟨ts, ps, e1, e2, pimp (fun _ _ _ z => s _ _ z) h, Same.seq s g⟩
theorem MarksAt.few {K : PySem.W.Frag} {H : Hp} {a : Addr} {r : List Nat} (h : MarksAt K H a r) : r.length ≤ 16777216 ∧ Row r := by
  obtain ⟨xs, hz, h⟩ := h
  rcases h with ⟨ns, rfl, rfl, _⟩ | ⟨ts, ps, rfl, rfl, h, _⟩
  · rw [List.length_map] at hz
    exact ⟨by rw [ren_len]; exact hz, row_ren _⟩
  · rw [List.length_map] at hz
    exact ⟨by rw [ren_len, ← Paired.length h]; exact hz, row_ren _⟩
theorem MarksAt.sp {K : PySem.W.Frag} {H : Hp} {a : Addr} {r : List Nat} {Q : VK} {E : XK} (h : MarksAt K H a r) (hQ : ∀ H' p, Same H H' → H p = none → H' p = some (.tup (nV r)) → Q (.ref p) H') : spRen K [.ref a] H Q E := by
  obtain ⟨xs, hz, h⟩ := h
  have big : (16777216 : Nat) ≤ sizeLine := by decide
  unfold spRen
  refine ⟨a, xs, r, rfl, Nat.le_trans hz big, ?_⟩
  rcases h with ⟨ns, e1, e2, h⟩ | ⟨ts, ps, e1, e2, h, g⟩
  · exact .inl ⟨ns, e1, e2, h, hQ⟩
  · exact .inr ⟨ts, ps, e1, e2, h, g, hQ⟩
/-! ### SizesDiffer -/
def spSD (K : PySem.W.Frag) : Sp := fun vs H Q _ => ∃ a x y, vs = [.ref a, x, y] ∧ H a = some (exo a (SD K) none) ∧
  ∀ d, H d = none → d ≠ a → Q .non (upd (upd (upd H d (exd d [("one", x)])) a (exo a (SD K) (some d))) d (exd d [("two", y), ("one", x)]))
section
variable {P : Program} {w : World} {K : PySem.W.Frag} {mg : Str → Option Value} {base : Heap}
theorem fn_sd (T : Tx K mg) : ∃ fd ps, FnOk P w K mg base (L2.CX P w) 1 (He.ma K (SD K) "__init__") fd ps (spSD K) ∧ Binds K fd ps [] := by
  refine fn_ok T.d_SizesDifferu__initu_ scSizesDifferu__initu_ (fun vs H Q E h => ?_) bi_SizesDifferu__initu_ fun cdv A outer s H vs Q E hr h => ?_
  · obtain ⟨a, x, y, rfl, _⟩ := h
    rfl
  obtain ⟨a, x, y, rfl, ha, hQ⟩ := h
  refine ⟨_, pss_cons (ps_ost (pv 0) (pv 1)) (pss_one (ps_ost (pv 0) (pv 2))), ?_⟩
  refine ⟨_, rfl, _, rfl, a, SD K, rfl, T.oe_SizesDiffer, T.nS_one, .inl ⟨ha, fun d nd ne => ?_⟩⟩
  refine ⟨_, rfl, _, rfl, a, SD K, rfl, T.oe_SizesDiffer, T.nS_two, .inr ⟨d, [("one", x)], upd_same .., ?_, by show 1 ≤ 900; decide, hQ d nd ne⟩⟩
  rw [upd_ne ne, upd_same]
/-- raise SizesDiffer(one.size, two.size), unless they are of one size -/
def spCheck (K : PySem.W.Frag) : Sp := fun vs H Q E => ∃ p q r t, vs = [.ref p, .ref q] ∧ SightAt K H p r ∧ SightAt K H q t ∧ (r.length = t.length → Q .non H) ∧
  (r.length ≠ t.length → ∀ d H', H d = none → H' d = some (.xd [("two", .int (t.length : Nat)), ("one", .int (r.length : Nat))]) → (∀ b, b ≠ d → H' b = H b) → E (.ref (SD K)) (some d) H')
theorem passF {X : Cx} : Passes (L2.CX X.prog X.w) X (fun _ _ _ => False) := fun pins σ H s e s' I c => (passN (X := X) σ) pins H s e s' I c
theorem ok_check_sizes (T : Tx K mg) : Ok P w K mg base "check_sizes" 3 (spCheck K) := by
  obtain ⟨fd, ps, F, hb⟩ := fn_sd (P := P) (w := w) (base := base) T
  refine ok_ofX T.a_check_sizes sccheck_sizes (fun vs H Q E h => ?_) bi_check_sizes fun cdv A outer s H vs Q E hr h => ?_
  · obtain ⟨p, q, r, t, rfl, _⟩ := h
    rfl
  obtain ⟨p, q, r, t, rfl, hp, hq, h1, h2⟩ := h
  refine ⟨_, (pss_one (ps_if (pt_cmpR op_ne (pe_fld (pv 0) rfl) (pe_fld (pv 1) rfl) (nomark _))
    (pss_one (ps_raise rfl (takes_of rfl rfl rfl rfl) (pmk_oex (dvs := []) T.oe_SizesDiffer T.ie_SizesDiffer.1 T.ie_SizesDiffer.2 F (hr.mono (by decide)) hb .nil passF (by rfl) T.g_SizesDiffer (pa_cons (pe_fld (pv 0) rfl) (pa_cons (pe_fld (pv 1) rfl) pa_nil)))))
    pss_nil)), ?_⟩
  obtain ⟨dx, tt, c, e1, _, _⟩ := hp.ex
  obtain ⟨dy, tu, cu, e2, _, _⟩ := hq.ex
  refine ⟨_, rfl, p, _, dx, _, _, rfl, e1, T.c_Sight, T.n_size, rfl, _, rfl, q, _, dy, _, _, rfl, e2, T.c_Sight, T.n_size, rfl, rfl, _, rfl, ?_⟩
  by_cases e : r.length = t.length
  · have z : (!decide (V.int (r.length : Nat) = V.int (t.length : Nat))) = false := by rw [e]; simp
    rw [z]
    exact iteF (h1 e)
  · have z : (!decide (V.int (r.length : Nat) = V.int (t.length : Nat))) = true := by
      have n : ¬ V.int (r.length : Nat) = V.int (t.length : Nat) := fun z => e (by have := V.int.inj z; omega)
      rw [decide_eq_false n] <;> rfl
    rw [z]
    refine iteT ?_
    refine ⟨_, rfl, p, _, dx, _, _, rfl, e1, T.c_Sight, T.n_size, rfl, _, rfl, q, _, dy, _, _, rfl, e2, T.c_Sight, T.n_size, rfl, by show 2 ≤ 1000; decide, fun a na => ?_⟩
    refine ⟨a, _, _, rfl, upd_same .., fun d nd ne => ⟨rfl, d, [("two", .int (t.length : Nat)), ("one", .int (r.length : Nat))], ?_, upd_same .., ?_, ?_⟩⟩
    · rw [upd_ne ne.symm, upd_same]
    · rw [upd_ne ne] at nd
      exact nd
    · refine h2 e d _ (by rw [upd_ne ne] at nd; exact nd) (upd_same ..) fun b hb => ?_
      rw [upd_ne hb]
      by_cases hba : b = a
      · rw [hba, del_same, na]
      · rw [del_ne hba, upd_ne hb, upd_ne hba, upd_ne hb, upd_ne hba]
/-! ### a new sight -/
def spInit (K : PySem.W.Frag) : Sp := fun vs H Q E => ∃ x dx a r, vs = [.ref x, .ref a] ∧ H x = some (.ins (CS K) dx []) ∧ MarksAt K H a r ∧
  (0 < r.length → ∀ H', (∀ b o, b ≠ x → H b = some o → H' b = some o) → (∃ t c, H' x = some (.ins (CS K) dx [("size", .int (r.length : Nat)), ("marks", .ref t), ("_cells", .ref c)]) ∧ H' t = some (.tup (nV r)) ∧ CellsAt H' c (cellsOf r)) → Q .non H') ∧
  (r.length = 0 → ∀ H', Same H H' → E (.ref (ND K)) none H')
theorem fn_init (T : Tx K mg) : ∃ fd ps, FnOk P w K mg base (L2.CX P w) 2 (He.ma K (CS K) "__init__") fd ps (spInit K) ∧ Binds K fd ps [] := by
  have O_renumbered : Ok P w K mg base "renumbered" 1 (spRen K) := ok_renumbered T
  have O_listed_cells : Ok P w K mg base "listed_cells" 1 (spCells K) := ok_listed_cells T
  refine fn_okX T.d_Sightu__initu_ scSightu__initu_ (fun vs H Q E h => ?_) bi_Sightu__initu_ fun cdv A outer s H vs Q E hr h => ?_
  · obtain ⟨x, dx, a, r, rfl, _⟩ := h
    rfl
  obtain ⟨x, dx, a, r, rfl, hx, hm, h1, h2⟩ := h
  obtain ⟨e1, e2, e3, e4⟩ := T.e_NoDeals
  refine ⟨_, (pss_cons (ps_set (i := 2) scSightu__initu_.nd rfl (by first | exact Or.inl rfl | exact Or.inr rfl) (pe_c (E := EN) O_renumbered hr (by decide) (fun σ => passN σ) (pa_cons (pv 1) pa_nil)))
  (pss_cons (ps_if (pt_cmpR op_eq (pe_callB (lenK K) (by rfl) T.f_len boot_len (pa_cons (pv 2) pa_nil)) pe_int (nomark _))
  (pss_one (ps_raise rfl (takes_of rfl rfl rfl rfl) (pmk_own0 PySem.F.excBase_ValueError e1 T.g_NoDeals e2 (raises_own e3 e4) (by rfl))))
  pss_nil)
  (pss_cons (ps_fld (pv 0) (pe_callB (lenK K) (by rfl) T.f_len boot_len (pa_cons (pv 2) pa_nil)) rfl)
  (pss_cons (ps_fld (pv 0) (pv 2) rfl)
  (pss_one (ps_fld (pv 0) (pe_c (E := EN) O_listed_cells hr (by decide) (fun σ => passN σ) (pa_cons (pv 2) pa_nil)) rfl)))))), ?_⟩
  refine ⟨_, rfl, ?_⟩
  show spRen K [V.ref a] H _ _
  refine hm.sp fun H1 t s1 nt ht => ?_
  refine ⟨_, rfl, t, _, rfl, .inr (.inl (.inl ht)), rfl, _, rfl, ?_⟩
  by_cases e : r.length = 0
  · have z : decide (V.int ((nV r).length : Nat) = V.int 0) = true := by rw [nV_len, e]; simp
    rw [z]
    exact iteT (h2 e H1 s1)
  · have z : decide (V.int ((nV r).length : Nat) = V.int 0) = false := by
      have n : ¬ V.int ((nV r).length : Nat) = V.int 0 := fun z => e (by have := V.int.inj z; rw [nV_len] at this; omega)
      exact decide_eq_false n
    rw [z]
    refine iteF ?_
    have x1 := s1 _ _ hx
    have tx : t ≠ x := fun z => by rw [z, hx] at nt; cases nt
    refine ⟨_, rfl, t, _, rfl, .inr (.inl (.inl ht)), _, rfl, x, _, dx, _, rfl, x1, T.c_Sight, T.n_size, by show 0 < 1000; decide, ?_⟩
    refine ⟨_, rfl, _, rfl, x, _, dx, _, rfl, upd_same .., T.c_Sight, T.n_marks, by show 1 < 1000; decide, ?_⟩
    have t2 : ∀ o o', upd (upd H1 x o) x o' t = some (.tup (nV r)) := fun o o' => by rw [upd_ne tx, upd_ne tx]; exact ht
    refine ⟨_, rfl, t, r, rfl, .inl (.inl (t2 _ _)), hm.few.1, hm.few.2, by omega, fun H2 c s2 nc hc => ?_⟩
    refine ⟨_, rfl, x, _, dx, _, rfl, s2 _ _ (upd_same ..), T.c_Sight, T.n_cells, by show 2 < 1000; decide, ?_⟩
    rw [nV_len]
    have keep : ∀ b o, b ≠ x → upd (upd H1 x (.ins (CS K) dx (putF "size" (.int ((nV r).length : Nat)) []))) x (.ins (CS K) dx (putF "marks" (.ref t) (putF "size" (.int ((nV r).length : Nat)) []))) b = some o → H2 b = some o := fun b o _ q => s2 _ _ q
    have ne : ∀ {b : Addr} {xs : List V}, H2 b = some (.tup xs) → b ≠ x := fun {b xs} q z => by
      rw [z, s2 _ _ (upd_same ..)] at q
      cases q
    have t3 := s2 _ _ (t2 (.ins (CS K) dx (putF "size" (.int ((nV r).length : Nat)) [])) (.ins (CS K) dx (putF "marks" (.ref t) (putF "size" (.int ((nV r).length : Nat)) []))))
    refine h1 (by omega) _ (fun b o hb q => ?_) ⟨t, c, upd_same .., by rw [upd_ne tx]; exact t3, ?_⟩
    · rw [upd_ne hb]
      exact s2 _ _ (by rw [upd_ne hb, upd_ne hb]; exact s1 _ _ q)
    · obtain ⟨ts, c1, c2⟩ := hc
      exact ⟨ts, by rw [upd_ne (ne c1)]; exact c1, pimp (fun t c _ z => by rw [upd_ne (ne z)]; exact z) c2⟩
theorem cok (T : Tx K mg) : COk P w K mg base "Sight" 2 (spInit K) := ⟨fn_init T, T.k_Sight, T.g_Sight⟩
/-- what Sight(marks) asks -/
theorem make_run {t : TA} {E : L2.St → XK} {σ : L2.St} {H : Hp} {Q : VK} (h : t σ H fun vs H1 => ∃ a r, vs = [.ref a] ∧ MarksAt K H1 a r ∧ (0 < r.length → ∀ H' p, Same H1 H' → H1 p = none → SightAt K H' p r → Q (.ref p) H') ∧ (r.length = 0 → ∀ H', Same H1 H' → E σ (.ref (ND K)) none H'))
    (mono : ∀ σ H Q Q', (∀ vs H1, Q vs H1 → Q' vs H1) → t σ H Q → t σ H Q') : tMakeS (CS K) (spInit K) E t σ H Q := by
  refine mono σ H _ _ (fun vs H1 z => ?_) h
  obtain ⟨a, r, rfl, hm, h1, h2⟩ := z
  intro x dx nx nd ne
  have xx : upd (upd H1 dx (.own x)) x (.ins (CS K) dx []) x = some (.ins (CS K) dx []) := upd_same ..
  have s0 : Same H1 (upd (upd H1 dx (.own x)) x (.ins (CS K) dx [])) := fun b o q => by
    rw [upd_ne (fun z => by rw [z, nx] at q; cases q), upd_ne (fun z => by rw [z, nd] at q; cases q)]
    exact q
  refine ⟨x, dx, a, r, rfl, xx, hm.same s0, fun hp H' k ⟨t, c, g1, g2, g3⟩ => ⟨rfl, h1 hp H' x (fun b o q => k b o (fun z => by rw [z, nx] at q; cases q) (s0 _ _ q)) nx ⟨⟨dx, t, c, g1, g2, g3⟩, hm.few.2, hp, hm.few.1⟩⟩, fun e H' s1 => h2 e H' (fun b o q => s1 _ _ (s0 _ _ q))⟩
end
end K02
set_option Elab.async false
set_option linter.all false
set_option maxRecDepth 100000
set_option maxHeartbeats 4000000
namespace K02
open PySem PySem.Spec PyProof.Rows L2 Ms
/-- Sight(marks), behind its argument -/
theorem make_fin {K : PySem.W.Frag} {H : Hp} {R : Addr → Hp → Prop} {E : XK} {a : Addr} {r : List Nat} (hm : MarksAt K H a r) (h1 : 0 < r.length → ∀ H' p, Same H H' → H p = none → SightAt K H' p r → R p H') (h2 : r.length = 0 → ∀ H', Same H H' → E (.ref (ND K)) none H') :
    ∀ x dx, H x = none → H dx = none → dx ≠ x → spInit K [.ref x, .ref a] (upd (upd H dx (.own x)) x (.ins (CS K) dx [])) (fun v H2 => v = .non ∧ R x H2) E := by
  intro x dx nx nd ne
  have s0 : Same H (upd (upd H dx (.own x)) x (.ins (CS K) dx [])) := fun b o q => by
    rw [upd_ne (fun z => by rw [z, nx] at q; cases q), upd_ne (fun z => by rw [z, nd] at q; cases q)]
    exact q
  exact ⟨x, dx, a, r, rfl, upd_same .., hm.same s0, fun hp H' k ⟨t, c, g1, g2, g3⟩ => ⟨rfl, h1 hp H' x (fun b o q => k b o (fun z => by rw [z, nx] at q; cases q) (s0 _ _ q)) nx ⟨⟨dx, t, c, g1, g2, g3⟩, hm.few.2, hp, hm.few.1⟩⟩, fun e H' s1 => h2 e H' (fun b o q => s1 _ _ (s0 _ _ q))⟩
theorem cells_at {r : List Nat} (h : Row r) {i : Nat} (hi : i < r.length) : (cellsOf r)[at0 r i]? = some (places (at0 r i) r) := by
  have e : firsts r = List.range (firsts r).length := by
    have q := firsts_ren r
    rw [show ren r = r from h] at q
    exact q
  have l : at0 r i < (firsts r).length := by
    have q := of_at0 hi
    rw [← show ren r = r from h] at q
    have q2 := ren_lt (List.mem_of_getElem? q)
    rw [show ren r = r from h] at q2
    exact q2
  unfold cellsOf
  rw [List.getElem?_map, e, List.getElem?_range l] <;> rfl
/-- numbers of a sight by its cells -/
def spGet (K : PySem.W.Frag) : Sp := fun vs H Q _ => ∃ p r, vs = [.ref p] ∧ SightAt K H p r ∧ ∀ c, CellsAt H c (cellsOf r) → Q (.ref c) H
def spCellOf (K : PySem.W.Frag) : Sp := fun vs H Q _ => ∃ (p : Addr) (r : List Nat) (i : Nat), vs = [.ref p, .int (i : Nat)] ∧ SightAt K H p r ∧ i < r.length ∧ ∀ c, H c = some (.tup (nV (places (at0 r i) r))) → Q (.ref c) H
def spAlike (K : PySem.W.Frag) : Sp := fun vs H Q _ => ∃ (p : Addr) (r : List Nat) (i j : Nat), vs = [.ref p, .int (i : Nat), .int (j : Nat)] ∧ SightAt K H p r ∧ i < r.length ∧ j < r.length ∧ Q (.bl (decide (at0 r i = at0 r j))) H
def spEq (K : PySem.W.Frag) : Sp := fun vs H Q _ => ∃ p r y, vs = [.ref p, y] ∧ SightAt K H p r ∧ ((∃ q t, y = .ref q ∧ SightAt K H q t ∧ Q (.bl (decide (r = t))) H) ∨ ∃ ty, TyX K H y ty ∧ PySem.W.kitOne K ty (.ref (CS K)) = some false ∧ Q (.bl false) H)
/-- the error of two sizes -/
def Differ (K : PySem.W.Frag) (H : Hp) (E : XK) (m n : Nat) : Prop := ∀ d H', H d = none → H' d = some (.xd [("two", .int (n : Nat)), ("one", .int (m : Nat))]) → (∀ b, b ≠ d → H' b = H b) → E (.ref (SD K)) (some d) H'
def spAnd (K : PySem.W.Frag) : Sp := fun vs H Q E => ∃ p q r t, vs = [.ref p, .ref q] ∧ SightAt K H p r ∧ SightAt K H q t ∧ (r.length = t.length → ∀ H' x, Same H H' → H x = none → SightAt K H' x (ren (r.zip t)) → Q (.ref x) H') ∧ (r.length ≠ t.length → Differ K H E r.length t.length)
def spOr (K : PySem.W.Frag) : Sp := fun vs H Q E => ∃ p q r t, vs = [.ref p, .ref q] ∧ SightAt K H p r ∧ SightAt K H q t ∧ (r.length = t.length → ∀ H' x u, Same H H' → H x = none → SightAt K H' x u → Joins r t u → Q (.ref x) H') ∧ (r.length ≠ t.length → Differ K H E r.length t.length)
def spNothing (K : PySem.W.Frag) : Sp := fun vs H Q _ => ∃ n : Nat, vs = [.ref (CS K), .int (n : Nat)] ∧ 0 < n ∧ n ≤ 16777216 ∧ ∀ H' x, Same H H' → H x = none → SightAt K H' x (ren (List.replicate n (0 : Int))) → Q (.ref x) H'
def spEvery (K : PySem.W.Frag) : Sp := fun vs H Q _ => ∃ n : Nat, vs = [.ref (CS K), .int (n : Nat)] ∧ 0 < n ∧ n ≤ 16777216 ∧ ∀ H' x, Same H H' → H x = none → SightAt K H' x (ren ((List.range n).map fun i => ((i : Nat) : Int))) → Q (.ref x) H'
theorem ci (a b : Nat) (h : ((a : Nat) : Int) = (b : Int)) : a = b := by omega
section
variable {P : Program} {w : World} {K : PySem.W.Frag} {mg : Str → Option Value} {base : Heap}
theorem fn_cells (T : Tx K mg) : ∃ fd ps, FnOk P w K mg base (L2.CX P w) 1 (recAt K "property" "Sight" "cells") fd ps (spGet K) ∧ Binds K fd ps [] := by
  refine fn_ok T.d_Sight_cells scSight_cells (fun vs H Q E h => ?_) bi_Sight_cells fun cdv A outer s H vs Q E hr h => ?_
  · obtain ⟨p, r, rfl, _⟩ := h
    rfl
  obtain ⟨p, r, rfl, hp, hQ⟩ := h
  obtain ⟨dx, t, c, e1, e2, e3⟩ := hp.ex
  exact ⟨_, (pss_one (ps_ret (pe_fld (pv 0) rfl))), _, rfl, p, _, dx, _, _, rfl, e1, T.c_Sight, T.n_cells, rfl, hQ c e3⟩
theorem mok_cell_of (T : Tx K mg) : MOk P w K mg base "Sight" "cell_of" 1 (spCellOf K) := by
  refine ⟨fn_ok T.d_Sight_cell_of scSight_cell_of (fun vs H Q E h => ?_) bi_Sight_cell_of fun cdv A outer s H vs Q E hr h => ?_, T.c_Sight, T.m_cell_of⟩
  · obtain ⟨p, r, i, rfl, _⟩ := h
    rfl
  obtain ⟨p, r, i, rfl, hp, hi, hQ⟩ := h
  obtain ⟨dx, t, c, e1, e2, ts, e3, e4⟩ := hp.ex
  obtain ⟨tc, k1, k2⟩ := HandSP_get e4 (cells_at hp.row hi)
  refine ⟨_, (pss_one (ps_ret (pe_ix (ixT K) (pe_fld (pv 0) rfl) (pe_ix (ixT K) (pe_fld (pv 0) rfl) (pv 1) (fun _ _ => rfl)) (fun _ _ => rfl)))), ?_⟩
  refine ⟨_, rfl, p, _, dx, _, _, rfl, e1, T.c_Sight, T.n_cells, rfl, _, rfl, p, _, dx, _, _, rfl, e1, T.c_Sight, T.n_marks, rfl, _, rfl, t, _, _, _, rfl, rfl, .inl (.inl e2), atI_nat (nV_at0 hi), c, _, _, _, rfl, rfl, .inl (.inl e3), atI_nat (v := .ref tc) ?_, hQ tc k2⟩
  rw [List.getElem?_map, k1] <;> rfl
where
  HandSP_get {α β : Type} {F : α → β → Prop} {xs : List α} {ys : List β} (h : Paired F xs ys) {i : Nat} {y : β} (e : ys[i]? = some y) : ∃ x, xs[i]? = some x ∧ F x y := by
    have l := Paired.length h
    have hi : i < xs.length := by rw [l]; exact ltE e
    obtain ⟨z, e2, f⟩ := LiI.paired_get h (getE hi)
    rw [e] at e2
    cases e2
    exact ⟨_, getE hi, f⟩
theorem ints_eq (r t : List Nat) : decide ((r.map fun n => ((n : Nat) : Int)) = t.map fun n => ((n : Nat) : Int)) = decide (r = t) := by
  by_cases h : r = t
  · rw [h]; simp
  · rw [decide_eq_false h, decide_eq_false]
    intro z
    exact h ((List.map_inj_right ci).mp z)
theorem bok_eq (T : Tx K mg) : BOk P w K mg base "Sight" "__eq__" 1 (spEq K) := by
  refine ⟨fn_ok T.d_Sightu__equ_ scSightu__equ_ (fun vs H Q E h => ?_) bi_Sightu__equ_ fun cdv A outer s H vs Q E hr h => ?_, T.o_eq.sf, T.o_eq.fi, T.o_eq.fn⟩
  · obtain ⟨p, r, y, rfl, _⟩ := h
    rfl
  obtain ⟨p, r, y, rfl, hp, h⟩ := h
  refine ⟨_, (pss_one (ps_ret (pe_and (pe_callB (isK K) (by rfl) T.f_isinstance (by decide +kernel) (pa_cons (pv 1) (pa_cons (pe_glob (v := .ref (He.ga K "Sight")) rfl T.g_Sight rfl) pa_nil))) (pe_one (pe_cmpR (eqK K (hu := hr.units)) (pe_fld (pv 0) rfl) (pe_fld (pv 1) rfl) (nomark _)))))), ?_⟩
  obtain ⟨dx, t, c, e1, e2, _⟩ := hp.ex
  rcases h with ⟨q, u, rfl, hq, hQ⟩ | ⟨ty, h1, h2, hQ⟩
  · obtain ⟨dy, t', c', g1, g2, _⟩ := hq.ex
    refine ⟨_, rfl, .ref q, .ref (CS K), _, _, true, rfl, .own _, .of (.base (.ins g1 T.c_Sight T.cl_Sight.ca T.cl_Sight.cg T.cl_Sight.ct T.cl_Sight.ob)), T.is_Sight_Sight, true, rfl, ?_⟩
    refine iteT ?_
    refine ⟨_, rfl, p, _, dx, _, _, rfl, e1, T.c_Sight, T.n_marks, rfl, _, rfl, q, _, dy, _, _, rfl, g1, T.c_Sight, T.n_marks, rfl, _, _, .tup (.inl (.inl e2)) (by rw [nV_int]; exact dpI _), .tup (.inl (.inl g2)) (by rw [nV_int]; exact dpI _), shT _, shT _, ?_⟩
    rw [eqvT, ints_eq]
    exact hQ
  · refine ⟨_, rfl, y, .ref (CS K), ty, _, false, rfl, .own _, .of h1, h2, false, rfl, ?_⟩
    exact iteF hQ
theorem bok_or (T : Tx K mg) : BOk P w K mg base "Sight" "__or__" 4 (spOr K) := by
  have O_check_sizes : Ok P w K mg base "check_sizes" 3 (spCheck K) := ok_check_sizes T
  have O_Sightu__initu_ : COk P w K mg base "Sight" 2 (spInit K) := cok T
  have O_joined_marks : Ok P w K mg base "joined_marks" 1 (spJoin K) := ok_joined_marks T
  refine ⟨fn_okX T.d_Sightu__oru_ scSightu__oru_ (fun vs H Q E h => ?_) bi_Sightu__oru_ fun cdv A outer s H vs Q E hr h => ?_, T.o_or.sf, T.o_or.fi, T.o_or.fn⟩
  · obtain ⟨p, q, r, t, rfl, _⟩ := h
    rfl
  obtain ⟨p, q, r, t, rfl, hp, hq, h1, h2⟩ := h
  refine ⟨_, (pss_cons (ps_expr (pe_c O_check_sizes hr (by decide) (passAt (takes_of rfl rfl rfl rfl)) (pa_cons (pv 0) (pa_cons (pv 1) pa_nil))))
  (pss_one (ps_ret (pe_n (E := EN) O_Sightu__initu_ hr (by decide) (fun σ => passN σ) (pa_cons (pe_c (E := EN) O_joined_marks hr (by decide) (fun σ => passN σ) (pa_cons (pe_fld (pv 0) rfl) (pa_cons (pe_fld (pv 1) rfl) pa_nil))) pa_nil))))), ?_⟩
  obtain ⟨dx, tt, c, e1, e2, _⟩ := hp.ex
  obtain ⟨dy, tu, c', g1, g2, _⟩ := hq.ex
  refine ⟨_, rfl, _, rfl, p, q, r, t, rfl, hp, hq, fun he => ?_, fun he d H' nd hd ho => h2 he d H' nd hd ho⟩
  refine ⟨_, rfl, p, _, dx, _, _, rfl, e1, T.c_Sight, T.n_marks, rfl, _, rfl, q, _, dy, _, _, rfl, g1, T.c_Sight, T.n_marks, rfl, tt, tu, r, t, rfl, .inl (.inl e2), .inl (.inl g2), he, row_lt hp.row, hp.few, fun H1 x u s1 nx hx hj => ?_⟩
  have hm : MarksAt K H1 x (ren u) := by
    refine ⟨nV u, ?_, .inl ⟨u.map fun n => ((n : Nat) : Int), nV_int u, (ren_map ci).symm, .inl (.inl (.inl hx))⟩⟩
    rw [nV_len, hj.1]
    exact hp.few
  refine make_fin hm (fun _ H' z s2 nz hz => h1 he H' z _ (fun b o k => s2 _ _ (s1 _ _ k)) (Same.free s1 nz) hz hj.ren) fun z => ?_
  rw [ren_len, hj.1] at z
  have := hp.pos
  omega
theorem fr_nothing (T : Tx K mg) : FnR P w K mg base (L2.CX P w) 4 (recAt K "classmethod" "Sight" "nothing") (spNothing K) := by
  have C : COk P w K mg base "Sight" 2 (spInit K) := cok T
  have F : ∃ fd ps, FnOk P w K mg base (L2.CX P w) 4 (recAt K "classmethod" "Sight" "nothing") fd ps (spNothing K) ∧ Binds K fd ps [] := by
    refine fn_ok T.d_Sight_nothing scSight_nothing (fun vs H Q E h => ?_) bi_Sight_nothing fun cdv A outer s H vs Q E hr h => ?_
    · obtain ⟨n, rfl, _⟩ := h
      rfl
    obtain ⟨n, rfl, hn, hz, hQ⟩ := h
    refine ⟨_, (pss_one (ps_ret (pe_nL (i := 0) (E := EN) C hr (by decide) (fun σ => passN σ) (pa_cons (pe_op op_rep (pe_lst (pa_cons pe_int pa_nil)) (pv 1)) pa_nil) rfl (by first | exact Or.inl rfl | exact Or.inr (Or.inl rfl))))), ?_⟩
    refine ⟨rfl, by show 1 ≤ sizeLine; decide, fun l nl => ?_⟩
    have big : (16777216 : Nat) ≤ sizeLine := by decide
    refine ⟨_, rfl, l, _, _, rfl, rfl, upd_same .., by omega, by omega, by show 1 * ((n : Nat) : Int).toNat ≤ sizeLine; omega, fun p np => ?_⟩
    have pl : p ≠ l := fun z => by rw [z, upd_same] at np; cases np
    have np0 : H p = none := by rw [upd_ne pl] at np; exact np
    have ef : (List.replicate ((n : Nat) : Int).toNat [V.int 0]).flatten = (List.replicate n (0 : Int)).map V.int := by
      have q : ((n : Nat) : Int).toNat = n := by omega
      rw [q]
      simp
    rw [ef]
    refine make_fin (r := ren (List.replicate n (0 : Int))) ⟨_, ?_, .inl ⟨_, rfl, rfl, .inl (.inl (.inl (upd_same ..)))⟩⟩ (fun _ H' x s1 nx hx => hQ H' x (fun b o q => s1 _ _ (same_new np _ _ (same_new nl _ _ q))) ?_ hx) fun z => ?_
    · rw [List.length_map, List.length_replicate]
      exact hz
    · exact (fun s : Same H _ => Same.free s nx) fun b o q => same_new np _ _ (same_new nl _ _ q)
    · rw [ren_len, List.length_replicate] at z
      omega
  obtain ⟨fd, ps, F, hb⟩ := F
  have R := F.raw hb .nil (dvs := [])
  exact R.imp fun vs H Q E h => by rw [List.append_nil]; exact h
theorem fr_every (T : Tx K mg) : FnR P w K mg base (L2.CX P w) 4 (recAt K "classmethod" "Sight" "everything") (spEvery K) := by
  have C : COk P w K mg base "Sight" 2 (spInit K) := cok T
  have F : ∃ fd ps, FnOk P w K mg base (L2.CX P w) 4 (recAt K "classmethod" "Sight" "everything") fd ps (spEvery K) ∧ Binds K fd ps [] := by
    refine fn_ok T.d_Sight_everything scSight_everything (fun vs H Q E h => ?_) bi_Sight_everything fun cdv A outer s H vs Q E hr h => ?_
    · obtain ⟨n, rfl, _⟩ := h
      rfl
    obtain ⟨n, rfl, hn, hz, hQ⟩ := h
    refine ⟨_, (pss_one (ps_ret (pe_nL (i := 0) (E := EN) C hr (by decide) (fun σ => passN σ) (pa_cons (pe_listRg rfl (by rfl) T.f_list (prg_1 (by rfl) T.f_range (pv 1))) pa_nil) rfl (by first | exact Or.inl rfl | exact Or.inr (Or.inl rfl))))), ?_⟩
    refine ⟨rfl, _, rfl, _, rfl, ⟨by omega, by omega, by omega, by omega, by omega⟩, fun p np => ?_⟩
    have ef : rgV 0 ((n : Nat) : Int) = ((List.range n).map fun i => ((i : Nat) : Int)).map V.int := by
      unfold rgV
      rw [List.map_map]
      have q : (((n : Nat) : Int) - 0).toNat = n := by omega
      rw [q]
      refine List.map_congr_left fun i _ => ?_
      show V.int (0 + (i : Int)) = V.int (i : Int)
      rw [Int.zero_add]
    rw [ef]
    refine make_fin (r := ren ((List.range n).map fun i => ((i : Nat) : Int))) ⟨_, ?_, .inl ⟨_, rfl, rfl, .inl (.inl (.inl (upd_same ..)))⟩⟩ (fun _ H' x s1 nx hx => hQ H' x (fun b o q => s1 _ _ (same_new np _ _ q)) ?_ hx) fun z => ?_
    · rw [List.length_map, List.length_map, List.length_range]
      exact hz
    · exact (fun s : Same H _ => Same.free s nx) fun b o q => same_new np _ _ q
    · rw [ren_len, List.length_map, List.length_range] at z
      omega
  obtain ⟨fd, ps, F, hb⟩ := F
  have R := F.raw hb .nil (dvs := [])
  exact R.imp fun vs H Q E h => by rw [List.append_nil]; exact h
end
end K02
set_option Elab.async false
set_option linter.all false
set_option maxRecDepth 100000
/-! Ms, plain: steps from a set of deals, the first of the shortest ways. -/
namespace Ms
/-! ### lists to which what is new is added -/
section
variable {α : Type} [DecidableEq α]
def adds (d xs : List α) : List α := xs.foldl (fun d x => if x ∈ d then d else d ++ [x]) d
theorem adds_nil (d : List α) : adds d [] = d := rfl
theorem adds_snoc (d xs : List α) (x : α) : adds d (xs ++ [x]) = if x ∈ adds d xs then adds d xs else adds d xs ++ [x] := by
  unfold adds
  rw [List.foldl_append] <;> rfl
theorem mem_adds (d xs : List α) (y : α) : y ∈ adds d xs ↔ y ∈ d ∨ y ∈ xs := by
  induction xs using snoc_ind with
  | h0 => simp [adds_nil]
  | hs l a ih =>
    rw [adds_snoc]
    by_cases h : a ∈ adds d l
    · rw [if_pos h, ih]
      have := ih
      constructor
      · rintro (q | q)
        · exact .inl q
        · exact .inr (List.mem_append_left _ q)
      · rintro (q | q)
        · exact .inl q
        · rcases List.mem_append.mp q with q | q
          · exact .inr q
          · rw [List.mem_singleton.mp q] at this ⊢
            exact this.mp h
    · rw [if_neg h]
      simp [ih, or_assoc]
theorem nodup_adds {d : List α} (hd : d.Nodup) (xs : List α) : (adds d xs).Nodup := by
  induction xs using snoc_ind with
  | h0 => exact hd
  | hs l a ih =>
    rw [adds_snoc]
    by_cases h : a ∈ adds d l
    · rw [if_pos h]; exact ih
    · rw [if_neg h]
      refine List.nodup_append.mpr ⟨ih, List.nodup_cons.mpr ⟨List.not_mem_nil, List.nodup_nil⟩, fun x hx y hy e => ?_⟩
      rw [List.mem_singleton.mp hy] at e
      exact h (e ▸ hx)
/-- what is added -/
def news (d xs : List α) : List α := (adds d xs).drop d.length
theorem adds_eq (d xs : List α) : adds d xs = d ++ news d xs := by
  unfold news
  induction xs using snoc_ind with
  | h0 => simp [adds_nil]
  | hs l a ih =>
    have hl : d.length ≤ (adds d l).length := by rw [ih, List.length_append]; omega
    rw [adds_snoc]
    by_cases h : a ∈ adds d l
    · rw [if_pos h]; exact ih
    · rw [if_neg h, List.drop_append_of_le_length hl, ← List.append_assoc, ← ih]
theorem news_nil (d : List α) : news d [] = [] := by unfold news; rw [adds_nil]; exact List.drop_length
theorem news_old {d xs : List α} {x : α} (h : x ∈ adds d xs) : news d (xs ++ [x]) = news d xs := by
  unfold news
  rw [adds_snoc, if_pos h]
theorem news_new {d xs : List α} {x : α} (h : ¬ x ∈ adds d xs) : news d (xs ++ [x]) = news d xs ++ [x] := by
  have hl : d.length ≤ (adds d xs).length := by rw [adds_eq d xs, List.length_append]; omega
  unfold news
  rw [adds_snoc, if_neg h, List.drop_append_of_le_length hl]
theorem mem_news {d : List α} (hd : d.Nodup) (xs : List α) (y : α) : y ∈ news d xs ↔ y ∈ xs ∧ ¬ y ∈ d := by
  have h1 := mem_adds d xs y
  have h2 := nodup_adds hd xs
  rw [adds_eq] at h1 h2
  rw [List.mem_append] at h1
  obtain ⟨_, _, h3⟩ := List.nodup_append.mp h2
  constructor
  · intro q
    have nd : ¬ y ∈ d := fun z => h3 y z y q rfl
    exact ⟨(h1.mp (.inr q)).resolve_left nd, nd⟩
  · rintro ⟨q1, q2⟩
    exact (h1.mpr (.inr q1)).resolve_left q2
theorem nodup_news {d : List α} (hd : d.Nodup) (xs : List α) : (news d xs).Nodup := by
  have h2 := nodup_adds hd xs
  rw [adds_eq] at h2
  exact (List.nodup_append.mp h2).2.1
theorem nodup_le {l m : List α} (h : l.Nodup) (s : ∀ x ∈ l, x ∈ m) : l.length ≤ m.length := by
  induction l generalizing m with
  | nil => exact Nat.zero_le _
  | cons x l ih =>
    obtain ⟨h1, h2⟩ := List.nodup_cons.mp h
    have hx := s x List.mem_cons_self
    have q := ih (m := m.erase x) h2 fun y hy => (List.mem_erase_of_ne (fun (e : y = x) => h1 (by rw [← e]; exact hy))).mpr (s y (List.mem_cons_of_mem _ hy))
    rw [List.length_erase_of_mem hx] at q
    have : 0 < m.length := List.length_pos_of_mem hx
    rw [List.length_cons]
    omega
end
/-! ### steps -/
section
variable (adj : Nat → Nat → Prop) (S : Nat → Prop)
def Rch : Nat → Nat → Prop
  | 0, v => S v
  | k + 1, v => Rch k v ∨ ∃ u, Rch k u ∧ adj u v
def Dst (k v : Nat) : Prop := Rch adj S k v ∧ ∀ j, j < k → ¬ Rch adj S j v
variable {adj S}
theorem Rch.mono {k l v : Nat} (h : Rch adj S k v) (hl : k ≤ l) : Rch adj S l v := by
  induction l with
  | zero => rw [Nat.le_zero.mp hl] at h; exact h
  | succ l ih =>
    by_cases e : k = l + 1
    · rw [← e]; exact h
    · exact .inl (ih (by omega))
theorem Rch.dst {k v : Nat} (h : Rch adj S k v) : ∃ j, j ≤ k ∧ Dst adj S j v := by
  induction k with
  | zero => exact ⟨0, Nat.le_refl _, h, fun j hj => absurd hj (Nat.not_lt_zero _)⟩
  | succ k ih =>
    by_cases q : Rch adj S k v
    · obtain ⟨j, h1, h2⟩ := ih q
      exact ⟨j, by omega, h2⟩
    · exact ⟨k + 1, Nat.le_refl _, h, fun j hj z => q (z.mono (by omega))⟩
theorem Dst.uniq {k l v : Nat} (h : Dst adj S k v) (g : Dst adj S l v) : k = l := by
  rcases Nat.lt_trichotomy k l with q | q | q
  · exact absurd h.1 (g.2 k q)
  · exact q
  · exact absurd g.1 (h.2 l q)
theorem Dst.back {k v : Nat} (h : Dst adj S (k + 1) v) : ∃ u, Dst adj S k u ∧ adj u v := by
  rcases h.1 with q | ⟨u, q1, q2⟩
  · exact absurd q (h.2 k (Nat.lt_succ_self _))
  · refine ⟨u, ⟨q1, fun j hj z => ?_⟩, q2⟩
    exact h.2 (j + 1) (by omega) (.inr ⟨u, z, q2⟩)
theorem Dst.on {k u v : Nat} (h : Dst adj S k u) (g : adj u v) : ∃ j, j ≤ k + 1 ∧ Dst adj S j v := Rch.dst (k := k + 1) (.inr ⟨u, h.1, g⟩)
theorem dst_zero {v : Nat} : Dst adj S 0 v ↔ S v := ⟨fun h => h.1, fun h => ⟨h, fun j hj => absurd hj (Nat.not_lt_zero _)⟩⟩
/-- a layer that is empty is the last -/
theorem no_more {s : Nat} (h : ∀ v, ¬ Dst adj S s v) {k v : Nat} (g : Dst adj S k v) : k < s := by
  rcases Nat.lt_or_ge k s with q | q
  · exact q
  · exfalso
    induction k generalizing v with
    | zero =>
      have : s = 0 := by omega
      subst this
      exact h _ g
    | succ k ih =>
      by_cases e : s = k + 1
      · subst e; exact h _ g
      · obtain ⟨u, q1, _⟩ := g.back
        exact ih q1 (by omega)
end
/-! ### ways -/
def Lx : List Nat → List Nat → Prop
  | x :: p, y :: q => x < y ∨ (x = y ∧ Lx p q)
  | _, _ => False
theorem Lx.irrefl : ∀ p : List Nat, ¬ Lx p p
  | [], h => h
  | x :: p, h => by
    rcases h with h | ⟨_, h⟩
    · exact Nat.lt_irrefl _ h
    · exact Lx.irrefl p h
theorem Lx.trans : ∀ {p q r : List Nat}, Lx p q → Lx q r → Lx p r
  | x :: p, y :: q, z :: r, h, g => by
    rcases h with h | ⟨rfl, h⟩
    · rcases g with g | ⟨rfl, g⟩
      · exact .inl (Nat.lt_trans h g)
      · exact .inl h
    · rcases g with g | ⟨rfl, g⟩
      · exact .inl g
      · exact .inr ⟨rfl, Lx.trans h g⟩
theorem Lx.snoc : ∀ {p q : List Nat} (a b : Nat), p.length = q.length → Lx p q → Lx (p ++ [a]) (q ++ [b])
  | x :: p, y :: q, a, b, hl, h => by
    rcases h with h | ⟨rfl, h⟩
    · exact .inl h
    · exact .inr ⟨rfl, Lx.snoc a b (Nat.succ.inj hl) h⟩
theorem Lx.last : ∀ (p : List Nat) {a b : Nat}, a < b → Lx (p ++ [a]) (p ++ [b])
  | [], a, b, h => .inl h
  | x :: p, a, b, h => .inr ⟨rfl, Lx.last p h⟩
/-- shorter, or as long and ahead -/
def Sl (p q : List Nat) : Prop := p.length < q.length ∨ (p.length = q.length ∧ Lx p q)
def Se (p q : List Nat) : Prop := p = q ∨ Sl p q
theorem Sl.irrefl (p : List Nat) : ¬ Sl p p := by
  rintro (h | ⟨_, h⟩)
  · exact Nat.lt_irrefl _ h
  · exact Lx.irrefl p h
theorem Sl.trans {p q r : List Nat} (h : Sl p q) (g : Sl q r) : Sl p r := by
  rcases h with h | ⟨h1, h2⟩
  · rcases g with g | ⟨g1, g2⟩
    · exact .inl (by omega)
    · exact .inl (by omega)
  · rcases g with g | ⟨g1, g2⟩
    · exact .inl (by omega)
    · exact .inr ⟨by omega, h2.trans g2⟩
theorem Sl.snoc {p q : List Nat} (a b : Nat) (h : Sl p q) : Sl (p ++ [a]) (q ++ [b]) := by
  rcases h with h | ⟨h1, h2⟩
  · exact .inl (by rw [List.length_append, List.length_append, List.length_singleton, List.length_singleton]; omega)
  · exact .inr ⟨by rw [List.length_append, List.length_append, List.length_singleton, List.length_singleton]; omega, h2.snoc a b h1⟩
theorem Sl.last (p : List Nat) {a b : Nat} (h : a < b) : Sl (p ++ [a]) (p ++ [b]) := .inr ⟨by simp, Lx.last p h⟩
theorem Se.trans {p q r : List Nat} (h : Se p q) (g : Se q r) : Se p r := by
  rcases h with rfl | h
  · exact g
  · rcases g with rfl | g
    · exact .inr h
    · exact .inr (h.trans g)
theorem Se.anti {p q : List Nat} (h : Se p q) (g : Se q p) : p = q := by
  rcases h with h | h
  · exact h
  · rcases g with g | g
    · exact g.symm
    · exact absurd (h.trans g) (Sl.irrefl p)
theorem Se.snoc {p q : List Nat} (a : Nat) (h : Se p q) : Se (p ++ [a]) (q ++ [a]) := by
  rcases h with rfl | h
  · exact .inl rfl
  · exact .inr (h.snoc a a)
/-- a way from u to v: the deals behind u -/
inductive Pth (adj : Nat → Nat → Prop) : Nat → List Nat → Nat → Prop where
  | nil (u : Nat) : Pth adj u [] u
  | cons {u x v : Nat} {p : List Nat} (h : adj u x) (t : Pth adj x p v) : Pth adj u (x :: p) v
theorem Pth.snoc {adj : Nat → Nat → Prop} {u v x : Nat} {p : List Nat} (h : Pth adj u p v) (g : adj v x) : Pth adj u (p ++ [x]) x := by
  induction h with
  | nil u => exact .cons g (.nil _)
  | cons h t ih => exact .cons h (ih g)
theorem Pth.un {adj : Nat → Nat → Prop} {u v : Nat} {p : List Nat} (h : Pth adj u p v) : p = [] ∧ u = v ∨ ∃ q w, p = q ++ [v] ∧ Pth adj u q w ∧ adj w v := by
  induction h with
  | nil u => exact .inl ⟨rfl, rfl⟩
  | @cons u x v p h t ih =>
    rcases ih with ⟨rfl, rfl⟩ | ⟨q, w, rfl, h1, h2⟩
    · exact .inr ⟨[], u, rfl, .nil _, h⟩
    · exact .inr ⟨x :: q, w, rfl, .cons h h1, h2⟩
theorem Pth.ind {adj : Nat → Nat → Prop} {u : Nat} {C : List Nat → Nat → Prop} (h0 : C [] u) (hs : ∀ p w v, Pth adj u p w → C p w → adj w v → C (p ++ [v]) v) {p : List Nat} {v : Nat} (h : Pth adj u p v) : C p v := by
  have k : ∀ n (p : List Nat) v, p.length = n → Pth adj u p v → C p v := by
    intro n
    induction n with
    | zero =>
      intro p v hl h
      rw [List.length_eq_zero_iff.mp hl] at h ⊢
      cases h
      exact h0
    | succ n ih =>
      intro p v hl h
      rcases h.un with ⟨rfl, _⟩ | ⟨q, w, rfl, h1, h2⟩
      · cases hl
      · have : q.length = n := by simpa using hl
        exact hs q w v h1 (ih q w this h1) h2
  exact k _ p v rfl h
theorem Pth.rch {adj : Nat → Nat → Prop} {S : Nat → Prop} (sym : ∀ a b, adj a b → adj b a) {u v : Nat} {p : List Nat} (h : Pth adj u p v) (hv : S v) : Rch adj S p.length u := by
  induction h with
  | nil u => exact hv
  | cons h t ih => exact .inr ⟨_, ih hv, sym _ _ h⟩
theorem rch_pth {adj : Nat → Nat → Prop} {S : Nat → Prop} {k v : Nat} (h : Rch adj S k v) : ∃ u p, S u ∧ Pth adj u p v := by
  induction k generalizing v with
  | zero => exact ⟨v, [], h, .nil _⟩
  | succ k ih =>
    rcases h with h | ⟨w, h, g⟩
    · exact ih h
    · obtain ⟨u, p, h1, h2⟩ := ih h
      exact ⟨u, _, h1, h2.snoc g⟩
/-! ### the way that goes to the least nearer deal at each step -/
section
variable (adj : Nat → Nat → Prop) (S : Nat → Prop)
/-- from u, d steps away, by the deals of c to v, e steps away, always to the least one nearer -/
inductive Gdy : Nat → Nat → List Nat → Nat → Nat → Prop where
  | nil (u d : Nat) : Gdy u d [] u d
  | cons {u d x v e : Nat} {c : List Nat} (h : adj u x) (hd : Dst adj S d x) (hl : ∀ y, adj u y → Dst adj S d y → x ≤ y) (t : Gdy x d c v e) : Gdy u (d + 1) (x :: c) v e
variable {adj S}
theorem Gdy.snoc {u d v e x : Nat} {c : List Nat} (g : Gdy adj S u d c v (e + 1)) (h : adj v x) (hd : Dst adj S e x) (hl : ∀ y, adj v y → Dst adj S e y → x ≤ y) : Gdy adj S u d (c ++ [x]) x e := by
  generalize hz : e + 1 = z at g
  induction g with
  | nil u d => subst hz; exact .cons h hd hl (.nil _ _)
  | cons h1 h2 h3 t ih => exact .cons h1 h2 h3 (ih h hl hz)
theorem Gdy.pth {u d v e : Nat} {c : List Nat} (g : Gdy adj S u d c v e) : Pth adj u c v := by
  induction g with
  | nil u d => exact .nil _
  | cons h1 h2 h3 t ih => exact .cons h1 ih
theorem Gdy.len {u d v e : Nat} {c : List Nat} (g : Gdy adj S u d c v e) : c.length + e = d := by
  induction g with
  | nil u d => simp
  | cons h1 h2 h3 t ih => rw [List.length_cons]; omega
theorem Gdy.least (sym : ∀ a b, adj a b → adj b a) {u d v : Nat} {c : List Nat} (g : Gdy adj S u d c v 0) (hu : Dst adj S d u) : ∀ {p : List Nat} {z : Nat}, Pth adj u p z → S z → Se c p := by
  generalize hz : 0 = e at g
  induction g with
  | nil u d =>
    subst hz
    intro p z hp hs
    cases p with
    | nil => exact .inl rfl
    | cons x p => exact .inr (.inl (Nat.zero_lt_succ _))
  | @cons u d x v e c h1 h2 h3 t ih =>
    intro p z hp hs
    have ll := Gdy.len t
    have lr : d + 1 ≤ p.length := by
      rcases Nat.lt_or_ge p.length (d + 1) with q | q
      · exact absurd (hp.rch sym hs) (hu.2 _ q)
      · exact q
    rcases Nat.lt_or_ge (d + 1) p.length with q | q
    · exact .inr (.inl (by rw [List.length_cons]; omega))
    · cases hp with
      | nil => cases lr
      | @cons _ y _ p ha tp =>
        rw [List.length_cons] at q lr
        have lp : p.length = d := by omega
        have ry := tp.rch sym hs
        rw [lp] at ry
        have dy : Dst adj S d y := ⟨ry, fun j hj z => hu.2 (j + 1) (by omega) (.inr ⟨y, z, sym _ _ ha⟩)⟩
        have le := h3 y ha dy
        have lc : (x :: c).length = (y :: p).length := by rw [List.length_cons, List.length_cons]; omega
        rcases Nat.lt_or_ge x y with lt | ge
        · exact .inr (.inr ⟨lc, .inl lt⟩)
        · have e1 : x = y := by omega
          subst e1
          rcases ih h2 hz tp hs with rfl | k
          · exact .inl rfl
          · refine .inr (.inr ⟨lc, .inr ⟨rfl, ?_⟩⟩)
            rcases k with k | ⟨_, k⟩
            · exfalso
              rw [List.length_cons, List.length_cons] at lc
              omega
            · exact k
end
end Ms
set_option Elab.async false
set_option linter.all false
set_option maxRecDepth 100000
set_option maxHeartbeats 4000000
/-! a row that is a list or a tuple: walked, walked with numbers, looked up. -/
namespace Ms
open PySem PySem.Spec PyProof.Rows L2
/-- a list or a tuple -/
def SqB (K : PySem.W.Frag) (b : Bool) (H : Hp) (a : Addr) (xs : List V) : Prop := if b = true then SqL K H a xs else SqT K H a xs
theorem SqB.either {K : PySem.W.Frag} {b : Bool} {H : Hp} {a : Addr} {xs : List V} (h : SqB K b H a xs) : SqL K H a xs ∨ SqT K H a xs := by
  cases b
  · exact .inr h
  · exact .inl h
theorem SqB.lst {K : PySem.W.Frag} {H : Hp} {a : Addr} {xs : List V} (h : SqL K H a xs) : SqB K true H a xs := h
theorem SqB.tup {K : PySem.W.Frag} {H : Hp} {a : Addr} {xs : List V} (h : SqT K H a xs) : SqB K false H a xs := h
section
variable {X : Cx} {tg : Expr}
def iSeq (K : PySem.W.Frag) (tl : TE) : TI := fun σ H R => tl σ H fun x H1 => ∃ a b xs, x = .ref a ∧ SqB K b H1 a xs ∧ ∀ J, Walk J xs.length (fun H => SqB K b H a xs) (YAt xs) → R J H1
theorem pi_seq (K : PySem.W.Frag) {l : Expr} {tl : TE} (hl : PE X l tl) (e : X.K = K := by rfl) : PI X tg l (iSeq K tl) := by
  subst e
  refine ⟨fun pins s σ H R I h => ?_⟩
  refine thn (hl.run pins s σ H _ I h) fun v s1 ⟨x, H1, I1, r1, q1⟩ => ?_
  obtain ⟨a, b, xs, e, hq, q⟩ := q1
  subst e
  cases r1
  cases b
  · obtain ⟨its, rv, p, hz⟩ := I1.tuple hq
    refine wpAny_pyIter_tuple (show s1.heap.IsTuple a its.toArray from p) ?_
    refine ⟨s1.heap.objs.size, [s1.heap.objs.size], _, _, H1, rfl, I1.kept (t' := s1.toks) fun b o e => Heap.get?_push_of_some _ e, turn_tuple a _, ⟨_, Heap.get?_push_size _ rfl, rfl, rfl⟩, fun b hb => ?_, q _ walk_tup⟩
    have e : b = s1.heap.objs.size := by simpa using hb
    subst e
    exact I1.fpOk (Nat.le_refl _) (I1.hok.fresh (Nat.le_refl _))
  · obtain ⟨its, rv, p, hz⟩ := I1.list hq
    refine wpAny_pyIter_list p.isList ?_
    refine ⟨s1.heap.objs.size, [s1.heap.objs.size], _, _, H1, rfl, I1.kept (t' := s1.toks) fun b o e => Heap.get?_push_of_some _ e, turn_list a _, ⟨_, Heap.get?_push_size _ rfl, rfl, rfl⟩, fun b hb => ?_, q _ walk_list⟩
    have e : b = s1.heap.objs.size := by simpa using hb
    subst e
    exact I1.fpOk (Nat.le_refl _) (I1.hok.fresh (Nat.le_refl _))
def iEnumS (K : PySem.W.Frag) (ta : TA) : TI := fun σ H R => ta σ H fun vs H1 => ∃ a b xs, vs = [.ref a] ∧ SqB K b H1 a xs ∧ ∀ J, Walk J xs.length (fun H => SqB K b H a xs) (YPair (fun i => some (.int (i : Nat))) (fun i => xs[i]?)) → R J H1
theorem pi_enumS (K : PySem.W.Frag) {e : Expr} {ta : TA} {p pos tpos : Pos} {elts : List Expr} {kk : Nat} (hg : Gl X "enumerate") (hm : X.mg "enumerate" = none) (ha : PA X [e] ta) (hs : starEach [e] X.env = [(false, eval e X.env)] := by rfl) (hK : X.K = K := by rfl) :
    PI X (.Tuple elts kk tpos) (.Call (.Name "enumerate" p) [e] [] pos) (iEnumS K ta) := by
  subst hK
  refine ⟨fun pins s σ H R I h => ?_⟩
  refine Call_ (ld_blt I hg hm boot_enumerate (PyProof.Rows.callWith_type1 (thn (ha.run pos pins s σ H _ I h) fun us s1 ⟨vs, H1, I1, r1, q1⟩ => ?_) hs rfl))
  obtain ⟨a, b, xs, ex, hq, q⟩ := q1
  subst ex
  cases r1 with
  | cons r rr =>
    cases rr
    cases r
    cases b
    · obtain ⟨its, rv, p', hz⟩ := I1.tuple hq
      obtain ⟨o1, ho1, _⟩ := id p'
      have la : a < s1.heap.objs.size := Heap.lt_size ho1
      refine MsE.call_enum (items := its.toArray) p' fun h' he hit hk => wpAny_pyIter_enum he ?_
      have I2 : Inv X pins σ H1 { s1 with heap := h' } := I1.kept (t' := s1.toks) hk
      refine ⟨s1.heap.objs.size + 1, [s1.heap.objs.size + 1, s1.heap.objs.size], _, _, H1, rfl, I2, turn_enumT a (s1.heap.objs.size + 1) s1.heap.objs.size (Nat.ne_of_lt (Nat.lt_succ_of_lt la)) (Nat.ne_of_lt la) (Nat.succ_ne_self _), ⟨⟨.none, he⟩, hit⟩, fun b hb => ?_, q _ walk_enumT⟩
      have hle : s1.heap.objs.size ≤ b := by
        rcases (by simpa using hb : b = s1.heap.objs.size + 1 ∨ b = s1.heap.objs.size) with z | z
        · rw [z]; exact Nat.le_add_right _ _
        · rw [z]; exact Nat.le_refl _
      exact I1.fpOk hle (I1.hok.fresh hle)
    · obtain ⟨its, rv, p', hz⟩ := I1.list hq
      refine call_enumerate_list p'.isList fun h' he hit hsz hk => wpAny_pyIter_enum he ?_
      have I2 : Inv X pins σ H1 { s1 with heap := h' } := I1.kept (t' := s1.toks) hk
      refine ⟨s1.heap.objs.size + 1, [s1.heap.objs.size + 1, s1.heap.objs.size], _, _, H1, rfl, I2, turn_enum a (s1.heap.objs.size + 1) s1.heap.objs.size, ⟨⟨.none, he⟩, hit, Nat.succ_ne_self _⟩, fun b hb => ?_, q _ walk_enum⟩
      have e' : b = s1.heap.objs.size + 1 ∨ b = s1.heap.objs.size := by simpa using hb
      have hle : s1.heap.objs.size ≤ b := by
        rcases e' with z | z
        · rw [z]; exact Nat.le_add_right _ _
        · rw [z]; exact Nat.le_refl _
      exact I1.fpOk hle (I1.hok.fresh hle)
/-- an item of a list or a tuple -/
def rIxQ (K : PySem.W.Frag) : R2 := fun x y H Q => ∃ p b xs i v, x = .ref p ∧ y = .int i ∧ SqB K b H p xs ∧ atI xs i = some v ∧ Q v H
theorem ixQ (K : PySem.W.Frag) (e : X.K = K := by rfl) : IxR X (rIxQ K) := by
  have hl : IxR X (rIxL K) := ixL K e
  have ht : IxR X (rIxT K) := ixT K e
  intro value slice pins s σ H x y v u Q I rx ry h hsub
  obtain ⟨p, b, xs, i, w, e1, e2, hs, h1, h2⟩ := h
  cases b
  · exact ht value slice pins s σ H x y v u Q I rx ry ⟨p, xs, i, w, e1, e2, hs, h1, h2⟩ hsub
  · exact hl value slice pins s σ H x y v u Q I rx ry ⟨p, xs, i, w, e1, e2, hs, h1, h2⟩ hsub
end
end Ms
set_option Elab.async false
set_option linter.all false
set_option maxRecDepth 100000
set_option maxHeartbeats 4000000
/-! dicts with numbers for keys; a comprehension of a dict. -/
namespace Ms
open PySem PySem.Spec PyProof.Rows L2
abbrev ikey (n : Nat) : Key := .inl (n : Int)
theorem ikey_inj {a b : Nat} (h : ikey a = ikey b) : a = b := by
  have := Sum.inl.inj h
  omega
/-- the keys with their values -/
def dkv (ks : List Nat) (f : Nat → V) : List (Key × V) := ks.map fun j => (ikey j, f j)
theorem dkv_len (ks : List Nat) (f : Nat → V) : (dkv ks f).length = ks.length := List.length_map ..
theorem valV_dkv (ks : List Nat) (f : Nat → V) (v : Nat) : valV (dkv ks f) (ikey v) = if v ∈ ks then some (f v) else none := by
  unfold dkv
  induction ks with
  | nil => rfl
  | cons j ks ih =>
    rw [List.map_cons]
    by_cases h : j = v
    · subst h
      rw [valV_pos (p := (ikey j, f j)) rfl, if_pos List.mem_cons_self]
    · have h2 : ¬ v = j := fun z => h z.symm
      rw [valV_neg (p := (ikey j, f j)) (fun z => h (ikey_inj z)), ih]
      simp [List.mem_cons, h2]
theorem valV_in {ks : List Nat} {f : Nat → V} {v : Nat} (h : v ∈ ks) : valV (dkv ks f) (ikey v) = some (f v) := by rw [valV_dkv, if_pos h]
theorem valV_out {ks : List Nat} {f : Nat → V} {v : Nat} (h : ¬ v ∈ ks) : valV (dkv ks f) (ikey v) = none := by rw [valV_dkv, if_neg h]
theorem dkv_snoc (ks : List Nat) (f : Nat → V) (v : Nat) : dkv (ks ++ [v]) f = dkv ks f ++ [(ikey v, f v)] := by
  unfold dkv
  rw [List.map_append] <;> rfl
theorem dkv_new {ks : List Nat} {f : Nat → V} {v : Nat} (h : ¬ v ∈ ks) : putK (dkv ks f) (ikey v) (f v) = dkv (ks ++ [v]) f := by rw [putK_new _ (valV_out h), dkv_snoc]
theorem putK_same {κ : Type} [DecidableEq κ] {kvs : List (κ × V)} {k : κ} {x : V} (h : ∀ p ∈ kvs, p.1 = k → p.2 = x) (hk : valV kvs k ≠ none) : putK kvs k x = kvs := by
  have e : (kvs.any fun kv => decide (kv.1 = k)) = true := by
    cases q : kvs.any fun kv => decide (kv.1 = k) with
    | true => rfl
    | false =>
      exfalso
      refine hk ?_
      unfold valV
      rw [List.find?_eq_none.mpr fun p hp => ?_]
      · rfl
      · have := List.any_eq_false.mp q p hp
        simpa using this
  unfold putK
  rw [if_pos e]
  have e2 : kvs.map (fun kv => if kv.1 = k then (kv.1, x) else kv) = kvs.map id := List.map_congr_left fun p hp => by
    by_cases z : p.1 = k
    · rw [if_pos z]
      exact Prod.ext rfl (h p hp z).symm
    · rw [if_neg z] <;> rfl
  rw [e2, List.map_id]
theorem dkv_old {ks : List Nat} {f : Nat → V} {v : Nat} (h : v ∈ ks) : putK (dkv ks f) (ikey v) (f v) = dkv ks f := by
  refine putK_same (fun p hp e => ?_) (by rw [valV_in h]; exact fun z => by cases z)
  obtain ⟨j, _, rfl⟩ := List.mem_map.mp hp
  rw [ikey_inj e]
theorem dkv_adds (ks xs : List Nat) (f : Nat → V) (v : Nat) : putK (dkv (adds ks xs) f) (ikey v) (f v) = dkv (adds ks (xs ++ [v])) f := by
  rw [adds_snoc]
  by_cases h : v ∈ adds ks xs
  · rw [if_pos h, dkv_old h]
  · rw [if_neg h, dkv_new h]
/-! pairs of numbers for keys -/
abbrev pk (p : Nat × Nat) : List Key := [ikey p.1, ikey p.2]
theorem pk_inj {p q : Nat × Nat} (h : pk p = pk q) : p = q := by
  injection h with h1 h2
  injection h2 with h2 _
  exact Prod.ext (ikey_inj h1) (ikey_inj h2)
def dkp (ps : List (Nat × Nat)) : List (List Key × V) := ps.map fun p => (pk p, .bl true)
theorem dkp_len (ps : List (Nat × Nat)) : (dkp ps).length = ps.length := List.length_map ..
theorem valV_dkp (ps : List (Nat × Nat)) (p : Nat × Nat) : valV (dkp ps) (pk p) = if p ∈ ps then some (.bl true) else none := by
  unfold dkp
  induction ps with
  | nil => rfl
  | cons j ps ih =>
    rw [List.map_cons]
    by_cases h : j = p
    · subst h
      rw [valV_pos (p := (pk j, V.bl true)) rfl, if_pos List.mem_cons_self]
    · have h2 : ¬ p = j := fun z => h z.symm
      rw [valV_neg (p := (pk j, V.bl true)) (fun z => h (pk_inj z)), ih]
      simp [List.mem_cons, h2]
theorem dkp_new {ps : List (Nat × Nat)} {p : Nat × Nat} (h : ¬ p ∈ ps) : putK (dkp ps) (pk p) (.bl true) = dkp (ps ++ [p]) := by
  rw [putK_new _ (by rw [valV_dkp, if_neg h])]
  unfold dkp
  rw [List.map_append] <;> rfl
/-! a comprehension of a dict, over anything that is walked -/
theorem dc_it {J : It} {n : Nat} {G : Hp → Prop} {Y : Nat → Hp → V → Hp → Prop} (w : Walk J n G Y) {g : TG} {tt : TT} {tk tv : TE} {vs : List Nat} {σ : L2.St} {H1 : Hp} {D : Addr} {Qd : Hp → Prop} (Pv : Nat → Hp → Prop) (h0 : Pv 0 (upd H1 D (.dK []))) (hG : ∀ i H, i ≤ n → Pv i H → G H)
    (hs : ∀ i x H H', i < n → Pv i H → Y i H x H' → g x (wipe σ vs) H' fun σ2 H2 => wipe σ2 vs = wipe σ vs ∧ tt σ2 H2 fun b H3 =>
      if b = true then tk σ2 H3 fun y H4 => tv σ2 H4 fun z H5 => ∃ kvs k, y = kV k ∧ H5 D = some (.dK kvs) ∧ kvs.length < sizeLine ∧ Pv (i + 1) (upd H5 D (.dK (putK kvs k z))) else Pv (i + 1) H3) (hd : ∀ H, Pv n H → Qd H) :
    ∃ W : Nat → Nat → Hp → Prop, (∃ m, W 0 m (upd H1 D (.dK []))) ∧ ∀ i m H, W i m H →
      (J.stop i H ∧ Qd H) ∨ (J.go i H ∧ ∃ Nx : Hp → Prop, (∀ H', Nx H' → ∃ m', m' < m ∧ W (i + 1) m' H') ∧ ∀ x H', J.yld i H x H' → g x (wipe σ vs) H' fun σ2 H2 => wipe σ2 vs = wipe σ vs ∧ tt σ2 H2 fun b H3 =>
        if b = true then tk σ2 H3 fun y H4 => tv σ2 H4 fun z H5 => ∃ kvs k, y = kV k ∧ H5 D = some (.dK kvs) ∧ kvs.length < sizeLine ∧ Nx (upd H5 D (.dK (putK kvs k z))) else Nx H3) := by
  refine ⟨fun i m H => m = n - i ∧ i ≤ n ∧ Pv i H, ⟨n, by simp, Nat.zero_le _, h0⟩, ?_⟩
  rintro i m H ⟨rfl, hi, p⟩
  have q := hG i H hi p
  by_cases hlt : i < n
  · exact .inr ⟨w.goes i H hlt q, Pv (i + 1), fun H' p' => ⟨n - (i + 1), by omega, rfl, hlt, p'⟩, fun x H' y => hs i x H H' hlt p (w.yields i H x H' hlt q y)⟩
  · have e : i = n := by omega
    subst e
    exact .inl ⟨w.stops H q, hd H p⟩
end Ms
namespace Ms
open PySem PySem.Spec PyProof.Rows L2
section
variable {X : Cx}
theorem ps_setDc {i : Nat} {y : Str} {py : Pos} {kx vx tg iter : Expr} {ifs : List Expr} {scope : Scope} {own : List (Str × Nat)} {pos spos : Pos} {wi : TI} {g : TG} {tt : TT} {tk tv : TE} (hc : X.calm = true) (hN : X.N.Nodup) (hy : X.N[i]? = some y) (hyl : X.env.scope.names.lookup y = some .local)
    (hsw : swapsWith (.DictComp kx vx [⟨tg, iter, ifs, 0⟩] scope pos) (some (.Name y py)) spos.line X.env = pure true) (hi : PI X tg iter wi) (ok : BlkOk X.N X.env.scope scope own)
    (hg : ∀ (s : Shared) (H : Hp) (C : Addr) (cl : List (Str × Addr)) (fp : List Addr), PG (X.blk s H scope (compEnvC scope cl C X.env) fp) tg g) (ht : ∀ (s : Shared) (H : Hp) (C : Addr) (cl : List (Str × Addr)) (fp : List Addr), PTs (X.blk s H scope (compEnvC scope cl C X.env) fp) ifs tt)
    (hk : ∀ (s : Shared) (H : Hp) (C : Addr) (cl : List (Str × Addr)) (fp : List Addr), PE (X.blk s H scope (compEnvC scope cl C X.env) fp) kx tk)
    (he : ∀ (s : Shared) (H : Hp) (C : Addr) (cl : List (Str × Addr)) (fp : List Addr), PE (X.blk s H scope (compEnvC scope cl C X.env) fp) vx tv) (hs : ∀ x, foldedSetIterable iter X.env x = pure x := by intro _; rfl) :
    PS X (.Assign [.Name y py] (.DictComp kx vx [⟨tg, iter, ifs, 0⟩] scope pos) spos) (tAsg (tDc wi g tt tk tv (own.map (·.2))) (gName i)) := by
  refine ⟨fun pins s σ H D I h => ?_⟩
  rw [exec_Assign_Name_used _ _ _ _ hsw]
  refine wpAny_bind (wpAny_standAt (wpAny_bind ?_))
  show wpAny _ X.A (do let _ ← comprehension (.DictComp kx vx [⟨tg, iter, ifs, 0⟩] scope pos) scope X.env (firstIterPos [⟨tg, iter, ifs, 0⟩] pos) newDict false (eval iter X.env) (some (assign (.Name y py) X.env))) _ _ s
  have h : tDc wi g tt tk tv (own.map (·.2)) σ H (fun x H1 => gName i x σ H1 D.nx) := h
  refine wpAny_bind (thn (dc_core (Qf := fun _ s' => SP X pins D .next s') hc hN I hi ok hg ht hk he hs h fun L C s' m H' I' q hn f => ?_) fun _ s' hq => wpAny_pure (wpAny_pure hq))
  show wpAny _ _ (assign (.Name y py) X.env (.ref L)) _ _ _
  refine wpAny_assign_Name (store_ok2 (v := V.ref L) I' hN hy (.inl hyl) rfl (fun s2 I2 ⟨a, sb, ha⟩ => ?_) (.inr hyl))
  obtain ⟨f0, f1, f2, f3, f4, f5⟩ := f
  have haC : C ≠ a := by
    rcases ha with z | z
    · rw [z]; exact f1
    · exact fun e => f4 y a z e.symm
  refine ⟨m, hn.sameBut sb haC, fun h3 sb3 => ?_⟩
  exact ⟨_, H', I2.turned (t' := s2.toks) (fun b o hb e => (sb3.2 b hb).trans e) f0 f1 f3 f4 f5, q⟩
theorem swd_true {kx vx : Expr} {gs : List Comprehension} {scope : Scope} {pos py : Pos} {y : Str} {l : Nat} {env : Env} (hk : env.scope.kind = .function) (hy : env.scope.names.lookup y = some .local) (hl : (py.line == pos.line) = true)
    (ha : (scope.names.any fun (n, k) => n == y && (k == .local || k == .cell)) = false) : swapsWith (.DictComp kx vx gs scope pos) (some (.Name y py)) l env = pure true := by
  have ky : env.kindOf y = some .local := hy
  have hb : env.blockKind = .function := by unfold Env.blockKind; rw [hk]; rfl
  unfold swapsWith
  simp only [hb, ky, ha, Expr.pos, hl]
  rfl
end
end Ms
namespace Ms
open PySem PySem.Spec PyProof.Rows L2
section
variable {X : Cx} (K : PySem.W.Frag) (e : X.K = K := by rfl)
include e
theorem inK : OpR X (compareOp .In) (rIn K false) := by subst e; exact op_in_seq
theorem notInK : OpR X (compareOp .NotIn) (rIn K true) := by subst e; exact op_notIn_seq
theorem sortedK : CallR X (.builtin "sorted") (rSortedI K) := by subst e; exact cr_sortedI
end
end Ms
namespace Ms
open PySem PySem.Spec PyProof.Rows L2
/-- a block inside of a block -/
theorem blkOk_to {N N' : List Str} {sc sc' scope : Scope} {own : List (Str × Nat)} (h : BlkOk N sc scope own) (e1 : N' = N) (e2 : sc' = sc) : BlkOk N' sc' scope own := by
  subst e1; subst e2; exact h
end Ms
set_option Elab.async false
set_option linter.all false
set_option maxRecDepth 100000
set_option maxHeartbeats 4000000
/-! sorted(d) of a dict of ints, of any length; min of a list of pairs of ints. -/
namespace Ms
open PySem PySem.Spec PyProof.Rows L2
section
variable {X : Cx}
def rSortedDI : List V → Hp → VK → Prop := fun xs H Q => ∃ (a : Addr) (kvs : List (Key × V)) (ks : List Int), xs = [.ref a] ∧ Rd H a (.dK kvs) ∧ kvs.map (·.1) = ks.map Sum.inl ∧
    ∀ (ys : List Int) (p : Addr), ys.Perm ks → ys.Pairwise (· ≤ ·) → H p = none → Q (.ref p) (upd H p (.lst (ys.map V.int)))
theorem cr_sortedDI (hcalm : X.calm = true) : CallR X (.builtin "sorted") rSortedDI := by
  intro pins s σ H xs us Q I r q
  obtain ⟨a, kvs, ks, ex, hd, hks, q⟩ := q
  subst ex
  obtain ⟨u, eu, rx⟩ := vals1 r
  subst eu
  cases rx
  obtain ⟨z, lo, vs, rel, dd⟩ := dk_rd I.hok hd
  obtain ⟨ep, hat⟩ := dd.dictAt
  have hkeys : vs.map (·.1) = ks.map Sum.inl := rel.keys.symm.trans hks
  have hl : vs.length = ks.length := by
    have e := congrArg List.length hkeys
    rw [List.length_map, List.length_map] at e
    exact e
  have h16 : vs.length ≤ sizeLine := by rw [← rel.length]; exact z
  refine Calls.call_function_entry PyProof.Rows.kind_sorted PyProof.Rows.plain_sorted PyProof.Rows.entry_sorted (PyProof.Rows.args_sorted1 _) ?_
  unfold Builtin.«sorted»
  refine wpAny_bind (m := checkCount "sorted" 1 1 _) (wpAny_pure ?_)
  refine wpAny_bind (PySem.W.kdu_collect (A := X.A.in1) (PySem.W.kdl_dict (knd := mixKind X.prog X.w) (kvs := vs) (ep := ep) lo) (I.ok.hd hcalm) hat h16 fun h' tk acc hk hacc => ?_)
  have hal : acc.toList.length = ks.length := by rw [Array.length_toList, hacc.1, hl]
  have hS : IntsAre acc.toList ks := ints_each hal fun j v e => by
    obtain ⟨k, x, e1, e2⟩ := hacc.2 j v (by rw [← Array.getElem?_toList]; exact e)
    have e3 : (vs.map (·.1))[j]? = some k := by rw [List.getElem?_map, e1]; rfl
    rw [hkeys, List.getElem?_map] at e3
    cases e4 : ks[j]? with
    | none => rw [e4] at e3; cases e3
    | some y =>
      rw [e4] at e3
      have e5 : Sum.inl y = k := Option.some.inj e3
      subst e5
      rcases keyIs_shape (show keyIs (Sum.inl y) v = true from e2) with ⟨i, t, ek, ev⟩ | ⟨z, t, ek, ev⟩
      · cases ek
        exact ⟨y, t, rfl, ev⟩
      · cases ek
  have I1 : Inv X pins σ H { s with heap := h', toks := tk } := I.kept hk
  have hal2 : acc.toList.length ≤ sizeLine := by rw [hal, ← hl]; exact h16
  refine wpAny_bind (wpAny_newList ?_ hal2)
  have hoL : (h'.push (seqObj "list" acc.toList.toArray 0)).get? h'.objs.size = some (seqObj "list" acc.toList.toArray 0) := Heap.get?_push_size _ rfl
  show wpAny _ _ _ _ _ { s with heap := h'.push (seqObj "list" acc.toList.toArray 0), toks := tk }
  refine wpAny_bind (wpAny_holding (wpAny_call_entry PyProof.Rows.slot_list_sort ⟨_, hoL, rfl⟩ PyProof.Rows.entry_list_sort
    (SrtO.list_sort_ord SrtO.swo_int hoL hal2 (fun h2 => SrtO.ints_sortable hS h2) fun out h1 h2 => ⟨_, rfl, ?_⟩) (PyProof.Rows.args_list_sort _)))
  obtain ⟨k1, k2, k3⟩ := SrtO.ints_out hS h1 h2
  obtain ⟨e', he'⟩ := PyProof.Rows.sortedHeap_at (vs := acc.toList) (out := out.toArray) hoL
  have hlen : ((out.map SrtO.iv).map V.int).length ≤ sizeLine := by
    rw [List.length_map, k2.length_eq, ← hl]
    exact h16
  refine wpAny_pure ⟨_, rfl, .ref h'.objs.size, upd H h'.objs.size (.lst ((out.map SrtO.iv).map V.int)), I1.laid (t' := tk) (fun b u e => ?_) (Nat.le_refl _)
    (show ObjOk X.prog X.w _ _ _ (.lst ((out.map SrtO.iv).map V.int)) from ⟨hlen, out, e', vals_of_ints k1, he'⟩), rfl, q _ _ k2 k3 (I1.hok.fresh (Nat.le_refl _))⟩
  have hb : b < h'.objs.size := Heap.lt_size e
  rw [PyProof.Rows.sortedHeap_old (Nat.ne_of_lt hb) (by rw [size_push']; exact Nat.lt_succ_of_lt hb)]
  exact Heap.get?_push_of_some _ e
/-! ### the least pair -/
def pairD (p : Int × Int) : PyData := .tuple [.int p.1, .int p.2]
def ltP2 (p q : Int × Int) : Prop := p.1 < q.1 ∨ (p.1 = q.1 ∧ p.2 < q.2)
instance (p q : Int × Int) : Decidable (ltP2 p q) := by unfold ltP2; infer_instance
theorem lt_pairD (p q : Int × Int) : PySem.W.dataLt (pairD p) (pairD q) = decide (ltP2 p q) := PySem.W.dataLt_ii p.1 p.2 q.1 q.2
theorem pairD_inj {p q : Int × Int} (h : pairD p = pairD q) : p = q := by
  unfold pairD at h
  injection h with h
  injection h with h1 h2
  injection h1 with h1
  injection h2 with h2 _
  injection h2 with h2
  exact Prod.ext h1 h2
theorem minD_pairs (p : Int × Int) : ∀ ps : List (Int × Int), ∃ m, m ∈ p :: ps ∧ PySem.W.minD (pairD p) (ps.map pairD) = pairD m ∧ ∀ q ∈ p :: ps, ¬ ltP2 q m := by
  intro ps
  unfold PySem.W.minD
  induction ps generalizing p with
  | nil => exact ⟨p, List.mem_cons_self, rfl, fun q hq => by
      rw [List.mem_singleton.mp hq]
      unfold ltP2
      omega⟩
  | cons k r ih =>
    rw [List.map_cons, List.foldl_cons, lt_pairD]
    by_cases h : ltP2 k p
    · rw [if_pos (decide_eq_true h)]
      obtain ⟨m, h1, h2, h3⟩ := ih k
      refine ⟨m, List.mem_cons_of_mem _ h1, h2, fun q hq => ?_⟩
      rcases List.mem_cons.mp hq with rfl | hq
      · have := h3 k List.mem_cons_self
        unfold ltP2 at *
        omega
      · exact h3 q hq
    · rw [if_neg (by rw [decide_eq_false h]; exact Bool.false_ne_true)]
      obtain ⟨m, h1, h2, h3⟩ := ih p
      refine ⟨m, ?_, h2, fun q hq => ?_⟩
      · rcases List.mem_cons.mp h1 with e | e
        · exact e ▸ List.mem_cons_self
        · exact List.mem_cons_of_mem _ (List.mem_cons_of_mem _ e)
      · rcases List.mem_cons.mp hq with rfl | hq
        · exact h3 _ List.mem_cons_self
        · rcases List.mem_cons.mp hq with rfl | hq
          · have := h3 p List.mem_cons_self
            unfold ltP2 at *
            omega
          · exact h3 q (List.mem_cons_of_mem _ hq)
def rMinP (K : PySem.W.Frag) : List V → Hp → VK → Prop := fun vs H Q => ∃ (a : Addr) (ts : List Addr) (ps : List (Int × Int)), vs = [V.ref a] ∧ SqL K H a (ts.map V.ref) ∧ Paired (fun t p => SqT K H t [.int p.1, .int p.2]) ts ps ∧ 0 < ps.length ∧
  ∀ (i : Nat) t p, ts[i]? = some t → ps[i]? = some p → (∀ q ∈ ps, ¬ ltP2 q p) → Q (.ref t) H
theorem dps {K : PySem.W.Frag} {H : Hp} : ∀ {ts : List Addr} {ps : List (Int × Int)}, Paired (fun t p => SqT K H t [.int p.1, .int p.2]) ts ps → DpAll K H (ts.map V.ref) (ps.map pairD)
  | _, _, .nil => .nil
  | _, _, .cons r t => .cons (.tup r (.cons (.int _) (.cons (.int _) .nil))) (dps t)
theorem minP_raw (K : PySem.W.Frag) (e : X.K = K := by rfl) (hc : X.calm = true) (hu : X.A.units + 64 < cLine) : CallR X (.builtin "min") (rMinP K) := by
  subst e
  intro pins s σ H vs us Q I r h
  obtain ⟨a, ts, ps, rfl, hs, hp, hne, q⟩ := h
  obtain ⟨its, rv, hl, _⟩ := I.list hs
  rw [Vals.ref1 r]
  obtain ⟨as, ra⟩ := Dp.readsAll I _ _ _ (dps hp) rv
  cases ps with
  | nil => exact absurd hne (Nat.lt_irrefl _)
  | cons p0 ps =>
    rw [List.map_cons] at ra
    have dp : ∀ (l : List (Int × Int)), PyData.depthAll (l.map pairD) ≤ 2 := fun l => by
      induction l with
      | nil => exact Nat.zero_le _
      | cons x l ih => exact Nat.max_le.mpr ⟨by simp [pairD, PyData.depth, PyData.depthAll], ih⟩
    have al : PySem.W.AlikeAll (pairD p0 :: ps.map pairD) := by
      rw [← List.map_cons]
      refine ⟨fun x hx y hy => ?_, fun x hx => ?_⟩
      · obtain ⟨x, _, rfl⟩ := List.mem_map.mp hx
        obtain ⟨y, _, rfl⟩ := List.mem_map.mp hy
        rfl
      · obtain ⟨x, _, rfl⟩ := List.mem_map.mp hx
        exact fun z => by cases z
    have dd : PyData.depthAll (pairD p0 :: ps.map pairD) ≤ 2 := by rw [← List.map_cons]; exact dp _
    refine PySem.W.min_list_data (I.ok.hd hc) hl.isList (x := pairD p0) (xs := ps.map pairD) (as := as) (by simpa using ra) al (by omega) fun i v h' tk bs hv rd hk => ?_
    have hv : its[i]? = some v := by simpa using hv
    obtain ⟨cs, r0, hi, hm, _⟩ := PySem.W.readsAll_at ra i v hv
    obtain ⟨m, m1, m2, m3⟩ := minD_pairs p0 ps
    rw [m2] at rd
    have e1 := (PyProof.Rows.reads_det (fun b o e _ => hk b o e) r0 rd).1
    rw [← List.map_cons, List.length_map] at hi
    have e2 : ((p0 :: ps).map pairD).getD i .none = pairD (p0 :: ps)[i] := by
      rw [List.getD_eq_getElem?_getD, List.getElem?_map, List.getElem?_eq_getElem hi] <;> rfl
    rw [← List.map_cons, e2] at e1
    have e3 : m = (p0 :: ps)[i] := pairD_inj e1
    have hit : i < ts.length := by rw [Paired.length hp]; exact hi
    obtain ⟨u, u1, u2⟩ := rv.get (i := i) (x := .ref ts[i]) (by rw [List.getElem?_map, List.getElem?_eq_getElem hit] <;> rfl)
    rw [hv] at u1
    cases u1
    exact ⟨.ref ts[i], H, I.kept hk, u2, q i _ _ (List.getElem?_eq_getElem hit) (List.getElem?_eq_getElem hi) (e3 ▸ m3)⟩
end
end Ms
set_option Elab.async false
set_option linter.all false
set_option maxRecDepth 100000
set_option maxHeartbeats 4000000
namespace K02
open PySem PySem.Spec PyProof.Rows L2 Ms
theorem pget2 {α β : Type} {F : α → β → Prop} {xs : List α} {ys : List β} (h : Paired F xs ys) {i : Nat} (hi : i < xs.length) : ∃ x y, xs[i]? = some x ∧ ys[i]? = some y ∧ F x y := by
  obtain ⟨y, e, f⟩ := LiI.paired_get h (getE hi)
  exact ⟨_, _, getE hi, e, f⟩
theorem SqB.same {K : PySem.W.Frag} {H H' : Hp} {b : Bool} {a : Addr} {xs : List V} (e : Same H H') (h : SqB K b H a xs) : SqB K b H' a xs := by
  cases b
  · exact Same.sqT e h
  · exact Same.seq e h
/-- all but what stands at d is as it was -/
def Off (d : Addr) (H H' : Hp) : Prop := ∀ b o, b ≠ d → H b = some o → H' b = some o
theorem Off.refl (d : Addr) (H : Hp) : Off d H H := fun _ _ _ h => h
theorem Off.trans {d : Addr} {H H1 H2 : Hp} (h : Off d H H1) (g : Off d H1 H2) : Off d H H2 := fun b o n e => g b o n (h b o n e)
theorem Off.upd {d : Addr} {H H1 : Hp} {o : HO} (h : Off d H H1) : Off d H (L2.upd H1 d o) := fun b u n e => by rw [upd_ne n]; exact h b u n e
theorem Off.new {d p : Addr} {H H1 : Hp} {o : HO} (h : Off d H H1) (n : H1 p = none) : Off d H (L2.upd H1 p o) := fun b u q e => same_new n _ _ (h b u q e)
theorem Off.put {d p : Addr} {H H1 : Hp} {o : HO} (h : Off d H H1) (n : H p = none) : Off d H (L2.upd H1 p o) := fun b u q e => by rw [upd_ne (fun z => by rw [z, n] at e; cases e)]; exact h b u q e
theorem Off.free {d p : Addr} {H H1 : Hp} (h : Off d H H1) (hd : ∃ o, H1 d = some o) (n : H1 p = none) : H p = none := by
  cases e : H p with
  | none => rfl
  | some o =>
    by_cases z : p = d
    · obtain ⟨u, q⟩ := hd
      rw [z, q] at n
      cases n
    · rw [h p o z e] at n
      cases n
theorem SqB.off {K : PySem.W.Frag} {H H' : Hp} {b : Bool} {a d : Addr} {xs : List V} (hd : (∃ kvs, H d = some (.dT kvs)) ∨ ∃ kvs, H d = some (.dK kvs)) (e : Off d H H') (h : SqB K b H a xs) : SqB K b H' a xs := by
  have ni : ∀ {o : HO}, H a = some o → (∀ kvs, o ≠ .dT kvs) → (∀ kvs, o ≠ .dK kvs) → a ≠ d := fun {o} q n1 n2 z => by
    rw [z] at q
    rcases hd with ⟨kvs, hd⟩ | ⟨kvs, hd⟩
    · rw [q] at hd
      exact n1 _ (Option.some.inj hd)
    · rw [q] at hd
      exact n2 _ (Option.some.inj hd)
  cases b
  · rcases h with (h | ⟨o, h⟩) | h
    · exact .inl (.inl (e _ _ (ni h (fun _ z => by cases z) fun _ z => by cases z) h))
    · exact .inl (.inr ⟨o, e _ _ (ni h (fun _ z => by cases z) fun _ z => by cases z) h⟩)
    · exact .inr h
  · rcases h with (h | ⟨o, h⟩) | h
    · exact .inl (.inl (e _ _ (ni h (fun _ z => by cases z) fun _ z => by cases z) h))
    · exact .inl (.inr ⟨o, e _ _ (ni h (fun _ z => by cases z) fun _ z => by cases z) h⟩)
    · exact .inr h
theorem SightAt.off {K : PySem.W.Frag} {H H' : Hp} {d p : Addr} {r : List Nat} (hd : (∃ kvs, H d = some (.dT kvs)) ∨ ∃ kvs, H d = some (.dK kvs)) (e : Off d H H') (h : SightAt K H p r) : SightAt K H' p r := by
  obtain ⟨⟨dx, t, c, h1, h2, ts, h3, h4⟩, a1, a2, a3⟩ := h
  have ni : ∀ {b : Addr} {o : HO}, H b = some o → (∀ kvs, o ≠ .dT kvs) → (∀ kvs, o ≠ .dK kvs) → b ≠ d := fun {b o} q n1 n2 z => by
    rw [z] at q
    rcases hd with ⟨kvs, hd⟩ | ⟨kvs, hd⟩
    · rw [q] at hd
      exact n1 _ (Option.some.inj hd)
    · rw [q] at hd
      exact n2 _ (Option.some.inj hd)
  have nt : ∀ {b : Addr} {xs : List V}, H b = some (.tup xs) → H' b = some (.tup xs) := fun {b xs} q => e _ _ (ni q (fun _ z => by cases z) fun _ z => by cases z) q
  exact ⟨⟨dx, t, c, e _ _ (ni h1 (fun _ z => by cases z) fun _ z => by cases z) h1, nt h2, ts, nt h3, pimp (fun _ _ _ z => nt z) h4⟩, a1, a2, a3⟩
def Sights (K : PySem.W.Frag) (b : Bool) (H : Hp) (a : Addr) (rs : List (List Nat)) : Prop := ∃ ts : List Addr, SqB K b H a (ts.map V.ref) ∧ Paired (fun t r => SightAt K H t r) ts rs
theorem Sights.same {K : PySem.W.Frag} {b : Bool} {H H' : Hp} {a : Addr} {rs : List (List Nat)} (s : Same H H') (h : Sights K b H a rs) : Sights K b H' a rs :=
  let ⟨ts, h1, h2⟩ := h
  ⟨ts, SqB.same s h1, pimp (fun _ _ _ z => z.same s) h2⟩
theorem Sights.off {K : PySem.W.Frag} {b : Bool} {H H' : Hp} {a d : Addr} {rs : List (List Nat)} (hd : (∃ kvs, H d = some (.dT kvs)) ∨ ∃ kvs, H d = some (.dK kvs)) (s : Off d H H') (h : Sights K b H a rs) : Sights K b H' a rs :=
  let ⟨ts, h1, h2⟩ := h
  ⟨ts, SqB.off hd s h1, pimp (fun _ _ _ z => SightAt.off hd s z) h2⟩
/-! ### one size for all -/
def spCkEq (K : PySem.W.Frag) : Sp := fun vs H Q E => ∃ (a : Addr) (b : Bool) (rs : List (List Nat)), vs = [.ref a] ∧ Sights K b H a rs ∧ ((∀ r ∈ rs, r.length = (rs.getD 0 []).length) → Q .non H) ∧
  ∀ (i : Nat) (r : List Nat), rs[i]? = some r → r.length ≠ (rs.getD 0 []).length → (∀ (j : Nat) (t : List Nat), j < i → rs[j]? = some t → t.length = (rs.getD 0 []).length) → Differ K H E (rs.getD 0 []).length r.length
section
variable {P : Program} {w : World} {K : PySem.W.Frag} {mg : Str → Option Value} {base : Heap}
theorem ok_check_equal_sizes (T : Tx K mg) : Ok P w K mg base "check_equal_sizes" 3 (spCkEq K) := by
  obtain ⟨fd, ps, F, hb⟩ := fn_sd (P := P) (w := w) (base := base) T
  refine ok_ofX T.a_check_equal_sizes sccheck_equal_sizes (fun vs H Q E h => ?_) bi_check_equal_sizes fun cdv A outer s H vs Q E hr h => ?_
  · obtain ⟨p, b, rs, rfl, _⟩ := h
    rfl
  obtain ⟨p, b, rs, rfl, ⟨ts, hs, hp⟩, h1, h2⟩ := h
  refine ⟨_, (pss_one (ps_for (passes_of rfl) rfl (pi_seq K (pv 0)) (pg_name (i := 1) sccheck_equal_sizes.nd rfl (by first | exact Or.inl rfl | exact Or.inr rfl))
  (pss_one (ps_if (pt_cmpR op_ne (pe_fld (pv 1) rfl) (pe_fld (pe_ix (ixQ K) (pv 0) pe_int (fun _ _ => rfl)) rfl) (nomark _))
    (pss_one (ps_raise rfl (takes_of rfl rfl rfl rfl) (pmk_oex (dvs := []) T.oe_SizesDiffer T.ie_SizesDiffer.1 T.ie_SizesDiffer.2 F (hr.mono (by decide)) hb .nil passF (by rfl) T.g_SizesDiffer (pa_cons (pe_fld (pe_ix (ixQ K) (pv 0) pe_int (fun _ _ => rfl)) rfl) (pa_cons (pe_fld (pv 1) rfl) pa_nil)))))
    pss_nil)))), ?_⟩
  have hl := Paired.length hp
  refine ⟨_, rfl, p, b, _, rfl, hs, fun J W => for_it W (fun i σ H1 => ∃ m, σ = [some (.ref p), m] ∧ H1 = H ∧ ∀ j t, j < i → rs[j]? = some t → t.length = (rs.getD 0 []).length) ?_ (fun i σ H1 _ h => by obtain ⟨_, _, rfl, _⟩ := h; exact hs) ?_ ?_⟩
  · exact ⟨none, rfl, rfl, fun j t hj _ => absurd hj (Nat.not_lt_zero _)⟩
  · rintro i x σ H1 H2 hi ⟨m, rfl, rfl, hk⟩ ⟨rfl, hx⟩
    rw [List.length_map] at hi
    obtain ⟨t, r, e1, e2, e3⟩ := pget2 hp hi
    rw [List.getElem?_map, e1] at hx
    cases hx
    obtain ⟨t0, r0, f1, f2, f3⟩ := pget2 hp (i := 0) (by omega)
    have g0 : rs.getD 0 [] = r0 := by rw [List.getD_eq_getElem?_getD, f2] <;> rfl
    obtain ⟨dx, tt, c, x1, _, _⟩ := e3.ex
    obtain ⟨dy, tu, cu, y1, _, _⟩ := f3.ex
    rw [g0] at h1 h2 hk ⊢
    refine ⟨_, rfl, t, _, dx, _, _, rfl, x1, T.c_Sight, T.n_size, rfl, _, rfl, p, b, _, 0, .ref t0, rfl, rfl, hs, atI_nat (j := 0) (by rw [List.getElem?_map, f1] <;> rfl), t0, _, dy, _, _, rfl, y1, T.c_Sight, T.n_size, rfl, rfl, _, rfl, ?_⟩
    by_cases e : r.length = r0.length
    · have z : (!decide (V.int (r.length : Nat) = V.int (r0.length : Nat))) = false := by rw [e]; simp
      rw [z]
      refine iteF ⟨_, rfl, rfl, fun j t' hj hjt => ?_⟩
      rcases Nat.lt_or_ge j i with q | q
      · exact hk j t' q hjt
      · have : j = i := by omega
        subst this
        rw [e2] at hjt
        cases hjt
        exact e
    · have z : (!decide (V.int (r.length : Nat) = V.int (r0.length : Nat))) = true := by
        have n : ¬ V.int (r.length : Nat) = V.int (r0.length : Nat) := fun z => e (by have := V.int.inj z; omega)
        rw [decide_eq_false n] <;> rfl
      rw [z]
      refine iteT ?_
      refine ⟨_, rfl, p, b, _, 0, .ref t0, rfl, rfl, hs, atI_nat (j := 0) (by rw [List.getElem?_map, f1] <;> rfl), t0, _, dy, _, _, rfl, y1, T.c_Sight, T.n_size, rfl, _, rfl, t, _, dx, _, _, rfl, x1, T.c_Sight, T.n_size, rfl, by show 2 ≤ 1000; decide, fun a na => ?_⟩
      refine ⟨a, _, _, rfl, upd_same .., fun d nd ne => ⟨rfl, d, [("two", .int (r.length : Nat)), ("one", .int (r0.length : Nat))], ?_, upd_same .., ?_, ?_⟩⟩
      · rw [upd_ne ne.symm, upd_same]
      · rw [upd_ne ne] at nd
        exact nd
      · refine h2 i r e2 e hk d _ (by rw [upd_ne ne] at nd; exact nd) (upd_same ..) fun b hb => ?_
        rw [upd_ne hb]
        by_cases hba : b = a
        · rw [hba, del_same, na]
        · rw [del_ne hba, upd_ne hb, upd_ne hba, upd_ne hb, upd_ne hba]
  · rintro σ H1 ⟨m, rfl, rfl, hk⟩
    rw [List.length_map] at hk
    refine h1 fun r hr => ?_
    obtain ⟨j, hj⟩ := List.getElem?_of_mem hr
    exact hk j r (by rw [hl]; exact ltE hj) hj
/-! ### the deals of cells that are new -/
def FDS (H : Hp) (l d : Addr) (ks : List Nat) (f : Nat → V) (xs : List Nat) (H1 : Hp) : Prop :=
  H1 l = some (.lst (nV (news ks xs))) ∧ H1 d = some (.dK (dkv (adds ks xs) f)) ∧ Off d H H1
def spFreshD (K : PySem.W.Frag) : Sp := fun vs H Q _ => ∃ (c d : Addr) (s : Nat) (ts : List Addr) (cs : List (List Nat)) (ks : List Nat) (f : Nat → V), vs = [.ref c, .int (s : Nat), .ref d] ∧ SqL K H c (ts.map V.ref) ∧
  Paired (fun t c => H t = some (.tup (nV c))) ts cs ∧ H d = some (.dK (dkv ks f)) ∧ (∀ v ∈ cs.flatten, ¬ v ∈ ks → f v = .int (s : Nat)) ∧ (∃ U : List Nat, (∀ v ∈ cs.flatten, v ∈ U) ∧ (∀ v ∈ ks, v ∈ U) ∧ U.length < 16777216) ∧ ks.Nodup ∧
  ∀ l H', H l = none → FDS H l d ks f cs.flatten H' → Q (.ref l) H'
theorem flat_take {α : Type} {cs : List (List α)} {i : Nat} {c : List α} (h : cs[i]? = some c) : (cs.take (i + 1)).flatten = (cs.take i).flatten ++ c := by
  rw [List.take_add_one, h]
  simp
theorem ok_fresh_deals (T : Tx K mg) : Ok P w K mg base "fresh_deals" 1 (spFreshD K) := by
  refine ok_of T.a_fresh_deals scfresh_deals (fun vs H Q E h => ?_) bi_fresh_deals fun cdv A outer s H vs Q E hr h => ?_
  · obtain ⟨c, d, s, ts, cs, ks, f, rfl, _⟩ := h
    rfl
  obtain ⟨c, d, st, ts, cs, ks, f, rfl, hc, hp, hd, hf, ⟨U, m1, m2, m3⟩, hnd, hQ⟩ := h
  have big : (16777216 : Nat) ≤ sizeLine := by decide
  have room : ∀ xs : List Nat, (∀ v ∈ xs, v ∈ U) → (adds ks xs).length < 16777216 := fun xs hx => by
    have q := nodup_le (m := U) (nodup_adds hnd xs) fun x hx2 => by
      rcases (mem_adds ks xs x).mp hx2 with z | z
      · exact m2 x z
      · exact hx x z
    omega
  have hl := Paired.length hp
  have hc1 : ∀ {l : Addr} {xs : List Nat} {H1 : Hp}, FDS H l d ks f xs H1 → SqL K H1 c (ts.map V.ref) := fun {l xs H1} h => SqB.off (b := true) (.inr ⟨_, hd⟩) h.2.2 hc
  refine ⟨_, (pss_cons (ps_set (i := 3) scfresh_deals.nd rfl (by first | exact Or.inl rfl | exact Or.inr rfl) (pe_lst pa_nil))
  (pss_cons (ps_for PassesOwn.never rfl (pi_list (pv 0)) (pg_name (i := 4) scfresh_deals.nd rfl (by first | exact Or.inl rfl | exact Or.inr rfl))
  (pss_one (ps_for PassesOwn.never rfl (pi_tup (pv 4)) (pg_name (i := 5) scfresh_deals.nd rfl (by first | exact Or.inl rfl | exact Or.inr rfl))
    (pss_one (ps_if (pt_cmp (pc_dnotin (hu_of hr) (pv 5) (pv 2)))
      (pss_cons (ps_dput (hu_of hr) (pv 2) (pv 5) (pv 1) rfl)
        (pss_one (ps_expr (pe_bm PySem.F.plainAttrs_list PySem.F.slot_list_append PySem.F.type_list_append mt_append (pv 3) (pa_cons (pv 5) pa_nil)))))
      pss_nil)))))
  (pss_one (ps_ret (pv 3))))), ?_⟩
  refine ⟨Nat.zero_le _, fun l nl => ?_⟩
  have ld : l ≠ d := fun z => by rw [z, hd] at nl; cases nl
  have ha : FDS H l d ks f [] (upd H l (.lst [])) := ⟨by rw [upd_same, news_nil] <;> rfl, by rw [upd_ne ld.symm]; exact hd, (Off.refl d H).new nl⟩
  refine ⟨_, rfl, c, rfl, ⟨_, hc1 ha⟩, for_it (walk_list (xs := ts.map V.ref)) (fun i σ H1 => ∃ m4 m5, σ = [some (.ref c), some (.int (st : Nat)), some (.ref d), some (.ref l), m4, m5] ∧ FDS H l d ks f (cs.take i).flatten H1) ?_ (fun i σ H1 _ h => by obtain ⟨_, _, _, h⟩ := h; exact hc1 h) ?_ ?_⟩
  · exact ⟨none, none, rfl, ha⟩
  · rintro i x σ H1 H2 hi ⟨m4, m5, rfl, hF⟩ ⟨rfl, hx⟩
    rw [List.length_map] at hi
    obtain ⟨t, cl, e1, e2, e3⟩ := pget2 hp hi
    rw [List.getElem?_map, e1] at hx
    cases hx
    have tne : ∀ {H3 : Hp} {xs : List Nat}, FDS H l d ks f xs H3 → H3 t = some (.tup (nV cl)) := fun {H3 xs} h => h.2.2 _ _ (fun z => by rw [z, hd] at e3; cases e3) e3
    refine ⟨_, rfl, t, rfl, ⟨_, .inl (.inl (tne hF))⟩, for_it (walk_tup (xs := nV cl)) (fun j σ H3 => ∃ m5, σ = [some (.ref c), some (.int (st : Nat)), some (.ref d), some (.ref l), some (.ref t), m5] ∧ FDS H l d ks f ((cs.take i).flatten ++ cl.take j) H3) ?_ (fun j σ H3 _ h => by obtain ⟨_, _, h⟩ := h; exact .inl (.inl (tne h))) ?_ ?_⟩
    · exact ⟨m5, rfl, by rw [List.take_zero, List.append_nil]; exact hF⟩
    · rintro j x σ H3 H4 hj ⟨m5, rfl, f1, f2, f3⟩ ⟨rfl, hx⟩
      rw [nV_len] at hj
      have hx : x = .int (at0 cl j : Nat) := by
        have q := nV_at0 hj
        rw [hx] at q
        exact Option.some.inj q
      subst hx
      have mem : at0 cl j ∈ cl := List.mem_of_getElem? (of_at0 hj)
      have memf : at0 cl j ∈ cs.flatten := List.mem_flatten.mpr ⟨cl, List.mem_of_getElem? e2, mem⟩
      have tk : (cs.take i).flatten ++ cl.take (j + 1) = ((cs.take i).flatten ++ cl.take j) ++ [at0 cl j] := by
        rw [List.take_add_one, of_at0 hj, List.append_assoc] <;> rfl
      have sub : ∀ v ∈ (cs.take i).flatten ++ cl.take j, v ∈ cs.flatten := fun v hv => by
        rcases List.mem_append.mp hv with z | z
        · obtain ⟨q, q1, q2⟩ := List.mem_flatten.mp z
          exact List.mem_flatten.mpr ⟨q, List.mem_of_mem_take q1, q2⟩
        · exact List.mem_flatten.mpr ⟨cl, List.mem_of_getElem? e2, List.mem_of_mem_take z⟩
      rw [tk]
      generalize hxs : (cs.take i).flatten ++ cl.take j = xs at *
      have rm := room xs fun v hv => m1 v (sub v hv)
      refine ⟨_, rfl, _, rfl, d, _, rfl, DGet.k (k := ikey (at0 cl j)) f2, _, rfl, ?_⟩
      rw [valV_dkv]
      by_cases hin : at0 cl j ∈ adds ks xs
      · rw [if_pos hin]
        refine iteF ⟨_, rfl, ?_⟩
        unfold FDS
        rw [news_old hin, adds_snoc, if_pos hin]
        exact ⟨f1, f2, f3⟩
      · rw [if_neg hin]
        refine iteT ?_
        have nk : ¬ at0 cl j ∈ ks := fun z => hin ((mem_adds ks xs _).mpr (.inl z))
        have fv : f (at0 cl j) = .int (st : Nat) := hf _ memf nk
        refine ⟨_, rfl, _, rfl, _, rfl, d, _, rfl, DPut.k (k := ikey (at0 cl j)) f2 (by rw [dkv_len]; omega), ?_⟩
        rw [← fv, dkv_new hin]
        have g1 : ∀ o, upd H4 d o l = some (.lst (nV (news ks xs))) := fun o => by rw [upd_ne ld]; exact f1
        have nle : (news ks xs).length < sizeLine := by
          have q := congrArg List.length (adds_eq ks xs)
          rw [List.length_append] at q
          omega
        refine ⟨_, rfl, .inl ⟨rfl, _, .inl (.inl (g1 _))⟩, _, rfl, l, _, _, rfl, rfl, g1 _, by rw [nV_len]; exact nle, ?_⟩
        refine ⟨_, rfl, ?_, ?_, ?_⟩
        · rw [upd_same, news_new hin, nV_snoc]
        · rw [upd_ne ld.symm, upd_same, adds_snoc, if_neg hin]
        · exact (Off.upd f3).put nl
    · rintro σ H3 ⟨m5, rfl, hF⟩
      refine ⟨_, _, rfl, ?_⟩
      rw [flat_take e2]
      rw [nV_len, List.take_length] at hF
      exact hF
  · rintro σ H3 ⟨m4, m5, rfl, hF⟩
    refine ⟨_, rfl, hQ l _ nl ?_⟩
    rw [List.length_map, hl, List.take_length] at hF
    exact hF
end
end K02
set_option Elab.async false
set_option linter.all false
set_option maxRecDepth 100000
/-! Ms, plain: one more step from a set of deals, by cells. -/
namespace Ms
abbrev rAt (rs : List (List Nat)) (i : Nat) : List Nat := rs.getD i []
theorem rAt_of {rs : List (List Nat)} {i : Nat} {r : List Nat} (h : rs[i]? = some r) : rAt rs i = r := by
  unfold rAt
  rw [List.getD_eq_getElem?_getD, h] <;> rfl
theorem rAt_mem {rs : List (List Nat)} {i : Nat} (h : i < rs.length) : rAt rs i ∈ rs := by
  rw [rAt_of (getE h)]
  exact List.getElem_mem h
/-- the cells of a deal, by sight and mark -/
def vrow (rs : List (List Nat)) (u : Nat) : List (Nat × Nat) := (List.range rs.length).map fun j => (j, at0 (rAt rs j) u)
def visits (rs : List (List Nat)) (us : List Nat) : List (Nat × Nat) := (us.map (vrow rs)).flatten
def cellAt (rs : List (List Nat)) (p : Nat × Nat) : List Nat := places p.2 (rAt rs p.1)
theorem vrow_at {rs : List (List Nat)} {u j : Nat} (h : j < rs.length) : (vrow rs u)[j]? = some (j, at0 (rAt rs j) u) := by
  unfold vrow
  rw [List.getElem?_map, List.getElem?_range h] <;> rfl
theorem vrow_len (rs : List (List Nat)) (u : Nat) : (vrow rs u).length = rs.length := by
  unfold vrow
  rw [List.length_map, List.length_range]
theorem mem_visits {rs : List (List Nat)} {us : List Nat} {p : Nat × Nat} : p ∈ visits rs us ↔ ∃ u ∈ us, p.1 < rs.length ∧ at0 (rAt rs p.1) u = p.2 := by
  unfold visits vrow
  rw [List.mem_flatten]
  constructor
  · rintro ⟨l, h1, h2⟩
    obtain ⟨u, hu, rfl⟩ := List.mem_map.mp h1
    obtain ⟨j, hj, rfl⟩ := List.mem_map.mp h2
    exact ⟨u, hu, List.mem_range.mp hj, rfl⟩
  · rintro ⟨u, hu, h1, h2⟩
    refine ⟨_, List.mem_map.mpr ⟨u, hu, rfl⟩, List.mem_map.mpr ⟨p.1, List.mem_range.mpr h1, ?_⟩⟩
    rw [h2]
theorem mem_places {m v : Nat} {r : List Nat} : v ∈ places m r ↔ v < r.length ∧ at0 r v = m := by
  unfold places
  rw [List.mem_filter, List.mem_range, decide_eq_true_eq]
  constructor
  · rintro ⟨h1, h2⟩
    exact ⟨h1, at0_of h2⟩
  · rintro ⟨h1, h2⟩
    exact ⟨h1, by rw [of_at0 h1, h2]⟩
/-- alike in one of the rows -/
def Nr (rs : List (List Nat)) (n : Nat) (u v : Nat) : Prop := u < n ∧ v < n ∧ ∃ i, i < rs.length ∧ at0 (rAt rs i) u = at0 (rAt rs i) v
theorem Nr.symm {rs : List (List Nat)} {n u v : Nat} (h : Nr rs n u v) : Nr rs n v u := let ⟨a, b, i, c, d⟩ := h; ⟨b, a, i, c, d.symm⟩
section
variable {rs : List (List Nat)} {n : Nat} {S : Nat → Prop} {f : Nat → Nat}
theorem reach_lt (hS : rs ≠ [] → ∀ v, S v → v < n) (h : rs ≠ []) {k v : Nat} (g : Dst (Nr rs n) S k v) : v < n := by
  cases k with
  | zero => exact hS h v (dst_zero.mp g)
  | succ k =>
    obtain ⟨u, _, q⟩ := g.back
    exact q.2.1
/-- after s steps: what is found, the last layer, the cells that are done -/
structure Lay (rs : List (List Nat)) (n : Nat) (S : Nat → Prop) (s : Nat) (ks us : List Nat) (dn : List (Nat × Nat)) : Prop where
  keys : ∀ v, v ∈ ks ↔ ∃ k, k ≤ s ∧ Dst (Nr rs n) S k v
  last : ∀ v, v ∈ us ↔ Dst (Nr rs n) S s v
  done : ∀ p : Nat × Nat, p ∈ dn ↔ ∃ u k, k < s ∧ Dst (Nr rs n) S k u ∧ p.1 < rs.length ∧ at0 (rAt rs p.1) u = p.2
  nk : ks.Nodup
  nd : dn.Nodup
theorem Lay.next (hl : ∀ r ∈ rs, r.length = n) (hS : rs ≠ [] → ∀ v, S v → v < n) {s : Nat} {ks us : List Nat} {dn : List (Nat × Nat)} (h : Lay rs n S s ks us dn) :
    Lay rs n S (s + 1) (adds ks ((news dn (visits rs us)).map (cellAt rs)).flatten) (news ks ((news dn (visits rs us)).map (cellAt rs)).flatten) (adds dn (visits rs us)) := by
  have hne : ∀ {i : Nat}, i < rs.length → rs ≠ [] := fun {i} q z => by rw [z] at q; exact Nat.not_lt_zero _ q
  have mf : ∀ v, v ∈ ((news dn (visits rs us)).map (cellAt rs)).flatten ↔ ∃ p : Nat × Nat, p ∈ visits rs us ∧ ¬ p ∈ dn ∧ v < (rAt rs p.1).length ∧ at0 (rAt rs p.1) v = p.2 := fun v => by
    rw [List.mem_flatten]
    constructor
    · rintro ⟨l, h1, h2⟩
      obtain ⟨p, hp, rfl⟩ := List.mem_map.mp h1
      obtain ⟨q1, q2⟩ := (mem_news h.nd _ _).mp hp
      exact ⟨p, q1, q2, mem_places.mp h2⟩
    · rintro ⟨p, h1, h2, h3⟩
      exact ⟨_, List.mem_map.mpr ⟨p, (mem_news h.nd _ _).mpr ⟨h1, h2⟩, rfl⟩, mem_places.mpr h3⟩
  have key : ∀ v, v ∈ news ks ((news dn (visits rs us)).map (cellAt rs)).flatten ↔ Dst (Nr rs n) S (s + 1) v := fun v => by
    rw [mem_news h.nk, mf]
    constructor
    · rintro ⟨⟨p, h1, h2, h3, h4⟩, h5⟩
      obtain ⟨u, q1, q2, q3⟩ := mem_visits.mp h1
      have du := (h.last u).mp q1
      have ln : (rAt rs p.1).length = n := hl _ (rAt_mem q2)
      have ul := reach_lt hS (hne q2) du
      obtain ⟨j, j1, j2⟩ := du.on (v := v) ⟨ul, by rw [← ln]; exact h3, p.1, q2, q3.trans h4.symm⟩
      by_cases e : j = s + 1
      · rw [← e]; exact j2
      · exact absurd ((h.keys v).mpr ⟨j, by omega, j2⟩) h5
    · intro d
      obtain ⟨u, q1, a1, a2, i, a3, a4⟩ := d.back
      have nk : ¬ v ∈ ks := fun z => by
        obtain ⟨k, k1, k2⟩ := (h.keys v).mp z
        have := k2.uniq d
        omega
      have ln : (rAt rs i).length = n := hl _ (rAt_mem a3)
      refine ⟨⟨(i, at0 (rAt rs i) u), mem_visits.mpr ⟨u, (h.last u).mpr q1, a3, rfl⟩, fun z => ?_, by rw [ln]; exact a2, a4.symm⟩, nk⟩
      obtain ⟨u', k, k1, k2, k3, k4⟩ := (h.done _).mp z
      have ul := reach_lt hS (hne a3) k2
      obtain ⟨j, j1, j2⟩ := k2.on (v := v) ⟨ul, a2, i, a3, k4.trans a4⟩
      have := j2.uniq d
      omega
  refine ⟨fun v => ?_, key, fun p => ?_, nodup_adds h.nk _, nodup_adds h.nd _⟩
  · rw [adds_eq, List.mem_append, key, h.keys]
    constructor
    · rintro (⟨k, h1, h2⟩ | h2)
      · exact ⟨k, by omega, h2⟩
      · exact ⟨s + 1, Nat.le_refl _, h2⟩
    · rintro ⟨k, h1, h2⟩
      by_cases e : k = s + 1
      · exact .inr (e ▸ h2)
      · exact .inl ⟨k, by omega, h2⟩
  · rw [mem_adds, h.done, mem_visits]
    constructor
    · rintro (⟨u, k, h1, h2, h3⟩ | ⟨u, h1, h2⟩)
      · exact ⟨u, k, by omega, h2, h3⟩
      · exact ⟨u, s, Nat.lt_succ_self _, (h.last u).mp h1, h2⟩
    · rintro ⟨u, k, h1, h2, h3⟩
      by_cases e : k = s
      · exact .inr ⟨u, (h.last u).mpr (e ▸ h2), h3⟩
      · exact .inl ⟨u, k, by omega, h2, h3⟩
theorem Lay.start {ks : List Nat} (h : ks.Nodup) (hm : ∀ v, v ∈ ks ↔ S v) : Lay rs n S 0 ks ks [] := by
  refine ⟨fun v => ?_, fun v => (hm v).trans dst_zero.symm, fun p => ?_, h, List.nodup_nil⟩
  · constructor
    · exact fun z => ⟨0, Nat.le_refl _, dst_zero.mpr ((hm v).mp z)⟩
    · rintro ⟨k, k1, k2⟩
      have : k = 0 := by omega
      subst this
      exact (hm v).mpr (dst_zero.mp k2)
  · constructor
    · exact fun z => nomatch z
    · rintro ⟨u, k, k1, _⟩
      exact absurd k1 (Nat.not_lt_zero _)
theorem Lay.all {s : Nat} {ks us : List Nat} {dn : List (Nat × Nat)} (h : Lay rs n S s ks us dn) (e : us = []) (v : Nat) : v ∈ ks ↔ ∃ k, Dst (Nr rs n) S k v := by
  rw [h.keys]
  have no : ∀ v, ¬ Dst (Nr rs n) S s v := fun v z => by
    have := (h.last v).mpr z
    rw [e] at this
    cases this
  exact ⟨fun ⟨k, _, q⟩ => ⟨k, q⟩, fun ⟨k, q⟩ => ⟨k, Nat.le_of_lt (no_more no q), q⟩⟩
end
theorem dist_of (adj : Nat → Nat → Prop) (S : Nat → Prop) : ∃ f : Nat → Nat, ∀ k v, Dst adj S k v → f v = k := by
  refine ⟨fun v => open Classical in if h : ∃ k, Dst adj S k v then h.choose else 0, fun k v d => ?_⟩
  have h : ∃ k, Dst adj S k v := ⟨k, d⟩
  simp only [dif_pos h]
  exact h.choose_spec.uniq d
end Ms
set_option Elab.async false
set_option linter.all false
set_option maxRecDepth 100000
set_option maxHeartbeats 4000000
namespace K02
open PySem PySem.Spec PyProof.Rows L2 Ms
theorem pgetY {α β : Type} {F : α → β → Prop} {xs : List α} {ys : List β} (h : Paired F xs ys) {i : Nat} {y : β} (e : ys[i]? = some y) : ∃ x, xs[i]? = some x ∧ F x y := by
  have l := Paired.length h
  have hi : i < xs.length := by rw [l]; exact ltE e
  obtain ⟨z, e2, f⟩ := LiI.paired_get h (getE hi)
  rw [e] at e2
  cases e2
  exact ⟨_, getE hi, f⟩
def FCS (rs : List (List Nat)) (H : Hp) (c d : Addr) (dn vis : List (Nat × Nat)) (H1 : Hp) : Prop :=
  (∃ cts : List Addr, H1 c = some (.lst (cts.map V.ref)) ∧ Paired (fun t p => H1 t = some (.tup (nV (cellAt rs p)))) cts (news dn vis)) ∧ H1 d = some (.dT (dkp (adds dn vis))) ∧ Off d H H1
def spFreshC (K : PySem.W.Frag) : Sp := fun vs H Q _ => ∃ (a l d : Addr) (b : Bool) (rs : List (List Nat)) (us : List Nat) (dn U : List (Nat × Nat)), vs = [.ref a, .ref l, .ref d] ∧ Sights K b H a rs ∧ SqL K H l (nV us) ∧
  H d = some (.dT (dkp dn)) ∧ (∀ u ∈ us, ∀ r ∈ rs, u < r.length) ∧ dn.Nodup ∧ (∀ p ∈ dn, p ∈ U) ∧ (∀ p ∈ visits rs us, p ∈ U) ∧ U.length < 16777216 ∧
  ∀ c H', H c = none → FCS rs H c d dn (visits rs us) H' → Q (.ref c) H'
section
variable {P : Program} {w : World} {K : PySem.W.Frag} {mg : Str → Option Value} {base : Heap}
theorem ok_fresh_cells (T : Tx K mg) : Ok P w K mg base "fresh_cells" 3 (spFreshC K) := by
  obtain ⟨fP, pP, FP, bP⟩ := fn_cells (P := P) (w := w) (base := base) T
  refine ok_of T.a_fresh_cells scfresh_cells (fun vs H Q E h => ?_) bi_fresh_cells fun cdv A outer s H vs Q E hr h => ?_
  · obtain ⟨a, l, d, b, rs, us, dn, U, rfl, _⟩ := h
    rfl
  obtain ⟨a, l, d, b, rs, us, dn, U, rfl, ⟨ts, hs, hp⟩, hl, hd, hlt, hnd, hU1, hU2, hUz, hQ⟩ := h
  have big : (16777216 : Nat) ≤ sizeLine := by decide
  have hrl := Paired.length hp
  have room : ∀ vis : List (Nat × Nat), (∀ p ∈ vis, p ∈ U) → (adds dn vis).length < 16777216 := fun vis h => by
    have q := nodup_le (m := U) (nodup_adds hnd vis) fun x hx => by
      rcases (mem_adds dn vis x).mp hx with z | z
      · exact hU1 x z
      · exact h x z
    omega
  have hl1 : ∀ {c : Addr} {vis} {H1 : Hp}, FCS rs H c d dn vis H1 → SqL K H1 l (nV us) := fun {c vis H1} h => SqB.off (b := true) (.inl ⟨_, hd⟩) h.2.2 hl
  have hs1 : ∀ {c : Addr} {vis} {H1 : Hp}, FCS rs H c d dn vis H1 → SqB K b H1 a (ts.map V.ref) := fun {c vis H1} h => SqB.off (.inl ⟨_, hd⟩) h.2.2 hs
  have nd : ∀ {t : Addr} {xs : List V}, H t = some (.tup xs) → t ≠ d := fun {t xs} q z => by rw [z, hd] at q; cases q
  refine ⟨_, (pss_cons (ps_set (i := 3) scfresh_cells.nd rfl (by first | exact Or.inl rfl | exact Or.inr rfl) (pe_lst pa_nil))
  (pss_cons (ps_for PassesOwn.never rfl (pi_list (pv 1)) (pg_name (i := 4) scfresh_cells.nd rfl (by first | exact Or.inl rfl | exact Or.inr rfl))
  (pss_one (ps_for PassesOwn.never rfl (pi_enumS K (by rfl) T.f_enumerate (pa_cons (pv 0) pa_nil)) (pg_tup rfl (pgs_cons (pg_name (i := 5) scfresh_cells.nd rfl (by first | exact Or.inl rfl | exact Or.inr rfl)) (pgs_cons (pg_name (i := 6) scfresh_cells.nd rfl (by first | exact Or.inl rfl | exact Or.inr rfl)) pgs_nil)))
    (pss_cons (ps_set (i := 7) scfresh_cells.nd rfl (by first | exact Or.inl rfl | exact Or.inr rfl) (pe_ix (ixT K) (pe_fld (pv 6) rfl) (pv 4) (fun _ _ => rfl)))
      (pss_one (ps_if (pt_cmp (pc_dnotin (hu_of hr) (pe_tup (pa_cons (pv 5) (pa_cons (pv 7) pa_nil))) (pv 2)))
      (pss_cons (ps_dput (hu_of hr) (pv 2) (pe_tup (pa_cons (pv 5) (pa_cons (pv 7) pa_nil))) pe_bl rfl)
        (pss_one (ps_expr (pe_bm PySem.F.plainAttrs_list PySem.F.slot_list_append PySem.F.type_list_append mt_append (pv 3) (pa_cons (pe_ix (ixT K) (pe_prop (pv 6) T.c_Sight T.p_cells FP (hr.mono (by decide)) bP .nil passF (by rfl)) (pv 7) (fun _ _ => rfl)) pa_nil)))))
      pss_nil))))))
  (pss_one (ps_ret (pv 3))))), ?_⟩
  refine ⟨Nat.zero_le _, fun c nc => ?_⟩
  have cd : c ≠ d := fun z => by rw [z, hd] at nc; cases nc
  have ha : FCS rs H c d dn [] (upd H c (.lst [])) := ⟨⟨[], upd_same .., by rw [news_nil]; exact .nil⟩, by rw [upd_ne cd.symm]; exact hd, (Off.refl d H).new nc⟩
  refine ⟨_, rfl, l, rfl, ⟨_, hl1 ha⟩, for_it (walk_list (xs := nV us)) (fun i σ H1 => ∃ m4 m5 m6 m7, σ = [some (.ref a), some (.ref l), some (.ref d), some (.ref c), m4, m5, m6, m7] ∧ FCS rs H c d dn ((us.map (vrow rs)).take i).flatten H1) ?_ (fun i σ H1 _ h => by obtain ⟨_, _, _, _, _, h⟩ := h; exact hl1 h) ?_ ?_⟩
  · exact ⟨none, none, none, none, rfl, ha⟩
  · rintro i x σ H1 H2 hi ⟨m4, m5, m6, m7, rfl, hF⟩ ⟨rfl, hx⟩
    rw [nV_len] at hi
    have hx : x = .int (at0 us i : Nat) := by
      have q := nV_at0 hi
      rw [hx] at q
      exact Option.some.inj q
    subst hx
    generalize hu : at0 us i = u
    have um : us[i]? = some u := by rw [← hu]; exact of_at0 hi
    have ui : u ∈ us := List.mem_of_getElem? um
    have ev : (us.map (vrow rs))[i]? = some (vrow rs u) := by rw [List.getElem?_map, um] <;> rfl
    refine ⟨_, rfl, a, b, _, rfl, hs1 hF, fun J W => for_it W (fun j σ H3 => ∃ m5 m6 m7, σ = [some (.ref a), some (.ref l), some (.ref d), some (.ref c), some (.int (u : Nat)), m5, m6, m7] ∧ FCS rs H c d dn (((us.map (vrow rs)).take i).flatten ++ (vrow rs u).take j) H3) ?_ (fun j σ H3 _ h => by obtain ⟨_, _, _, _, h⟩ := h; exact hs1 h) ?_ ?_⟩
    · exact ⟨m5, m6, m7, rfl, by rw [List.take_zero, List.append_nil]; exact hF⟩
    · rintro j v σ H3 H4 hj ⟨m5, m6, m7, rfl, ⟨cts, f1, f2⟩, f3, f4⟩ y
      obtain ⟨Tt, x0, x1, rfl, nT, rfl, hx0, hx1⟩ := y
      cases hx0
      rw [List.length_map] at hj
      obtain ⟨p, r, e1, e2, e3⟩ := pget2 hp hj
      have hx1 : (ts.map V.ref)[j]? = some x1 := hx1
      rw [List.getElem?_map, e1] at hx1
      cases hx1
      have hjr : j < rs.length := by rw [← hrl]; exact hj
      have er := rAt_of e2
      have ulr : u < r.length := hlt u ui r (List.mem_of_getElem? e2)
      have tk : ((us.map (vrow rs)).take i).flatten ++ (vrow rs u).take (j + 1) = (((us.map (vrow rs)).take i).flatten ++ (vrow rs u).take j) ++ [(j, at0 r u)] := by
        rw [List.take_add_one, vrow_at hjr, er, List.append_assoc] <;> rfl
      have sub : ∀ q ∈ ((us.map (vrow rs)).take i).flatten ++ (vrow rs u).take j, q ∈ U := fun q hq => hU2 q (by
        unfold visits
        rcases List.mem_append.mp hq with z | z
        · obtain ⟨g, g1, g2⟩ := List.mem_flatten.mp z
          exact List.mem_flatten.mpr ⟨g, List.mem_of_mem_take g1, g2⟩
        · exact List.mem_flatten.mpr ⟨vrow rs u, List.mem_of_getElem? ev, List.mem_of_mem_take z⟩)
      rw [tk]
      generalize hvis : ((us.map (vrow rs)).take i).flatten ++ (vrow rs u).take j = vis at *
      have rm := room vis sub
      have o5 := f4.new (o := .tup [.int (j : Nat), .ref p]) nT
      refine ⟨Tt, _, rfl, .inl (.inl (upd_same ..)), rfl, _, _, rfl, _, _, rfl, rfl, ?_⟩
      have k1 := same_new (o := .tup [.int (j : Nat), .ref p]) nT _ _ f1
      have k3 := same_new (o := .tup [.int (j : Nat), .ref p]) nT _ _ f3
      have f2 := pimp (fun t q _ z => same_new (o := .tup [.int (j : Nat), .ref p]) nT t _ z) f2
      generalize hH5 : upd H3 Tt (.tup [.int (j : Nat), .ref p]) = H5 at o5 k1 k3 f2
      obtain ⟨dx, t, cc, x1, x2, tcs, x3, x4⟩ := (SightAt.off (.inl ⟨_, hd⟩) o5 e3).ex
      refine ⟨_, rfl, p, _, dx, _, _, rfl, x1, T.c_Sight, T.n_marks, rfl, _, rfl, t, _, _, _, rfl, rfl, .inl (.inl x2), atI_nat (nV_at0 ulr), ?_⟩
      refine ⟨_, rfl, _, rfl, by show 2 ≤ sizeLine; decide, fun T1 nT1 => ?_⟩
      have o6 := o5.new (o := .tup [.int (j : Nat), .int (at0 r u : Nat)]) nT1
      have l1 := same_new (o := .tup [.int (j : Nat), .int (at0 r u : Nat)]) nT1 _ _ k1
      have l3 := same_new (o := .tup [.int (j : Nat), .int (at0 r u : Nat)]) nT1 _ _ k3
      refine ⟨_, rfl, d, _, rfl, DGet.t (k := pk (j, at0 r u)) l3 (upd_same ..), _, rfl, ?_⟩
      have f2 := pimp (fun t q _ z => same_new (o := .tup [.int (j : Nat), .int (at0 r u : Nat)]) nT1 t _ z) f2
      generalize hH6 : upd H5 T1 (.tup [.int (j : Nat), .int (at0 r u : Nat)]) = H6 at o6 l1 l3 f2
      rw [valV_dkp]
      by_cases hin : (j, at0 r u) ∈ adds dn vis
      · rw [if_pos hin]
        refine iteF ⟨_, _, _, rfl, ?_⟩
        unfold FCS
        rw [news_old hin, adds_snoc, if_pos hin]
        exact ⟨⟨cts, l1, f2⟩, l3, o6⟩
      · rw [if_neg hin]
        refine iteT ?_
        refine ⟨_, rfl, _, rfl, _, rfl, by show 2 ≤ sizeLine; decide, fun T2 nT2 => ?_⟩
        have o7 := o6.new (o := .tup [.int (j : Nat), .int (at0 r u : Nat)]) nT2
        have q1 := same_new (o := .tup [.int (j : Nat), .int (at0 r u : Nat)]) nT2 _ _ l1
        have q3 := same_new (o := .tup [.int (j : Nat), .int (at0 r u : Nat)]) nT2 _ _ l3
        refine ⟨d, _, rfl, DPut.t (k := pk (j, at0 r u)) q3 (upd_same ..) (by rw [dkp_len]; omega), ?_⟩
        have f2 := pimp (fun t q _ z => same_new (o := .tup [.int (j : Nat), .int (at0 r u : Nat)]) nT2 t _ z) f2
        generalize hH7 : upd H6 T2 (.tup [.int (j : Nat), .int (at0 r u : Nat)]) = H7 at o7 q1 q3 f2
        rw [dkp_new hin]
        have o8 := o7.upd (o := .dT (dkp (adds dn vis ++ [(j, at0 r u)])))
        have w1 : upd H7 d (.dT (dkp (adds dn vis ++ [(j, at0 r u)]))) c = some (.lst (cts.map V.ref)) := by rw [upd_ne cd]; exact q1
        have w3 : upd H7 d (.dT (dkp (adds dn vis ++ [(j, at0 r u)]))) d = some (.dT (dkp (adds dn vis ++ [(j, at0 r u)]))) := upd_same ..
        have f2 := pimp (G := fun t q => upd H7 d (.dT (dkp (adds dn vis ++ [(j, at0 r u)]))) t = some (.tup (nV (cellAt rs q)))) (fun t q _ z => by rw [upd_ne (fun e => by rw [e, q3] at z; cases z)]; exact z) f2
        generalize hH8 : upd H7 d (.dT (dkp (adds dn vis ++ [(j, at0 r u)]))) = H8 at o8 w1 w3 f2
        have S8 := SightAt.off (.inl ⟨_, hd⟩) o8 e3
        obtain ⟨dx8, t8, c8, y1, y2, y3⟩ := S8.ex
        have lenE : cts.length = (news dn vis).length := Paired.length f2
        have nle : (news dn vis).length < sizeLine := by
          have q := congrArg List.length (adds_eq dn vis)
          rw [List.length_append] at q
          omega
        refine ⟨_, rfl, .inl ⟨rfl, _, .inl (.inl w1)⟩, _, rfl, p, dx8, _, rfl, y1, p, r, rfl, S8, fun c9 hc9 => ?_⟩
        obtain ⟨tds, z1, z2⟩ := hc9
        obtain ⟨tc, g1, g2⟩ := pgetY z2 (cells_at e3.row ulr)
        refine ⟨_, rfl, c9, _, _, .ref tc, rfl, rfl, .inl (.inl z1), atI_nat (by rw [List.getElem?_map, g1] <;> rfl), c, _, _, rfl, rfl, w1, by rw [List.length_map, lenE]; exact nle, ?_⟩
        refine ⟨_, _, _, rfl, ⟨cts ++ [tc], ?_, ?_⟩, ?_, o8.put nc⟩
        · rw [upd_same, List.map_append, List.map_singleton]
        · rw [news_new hin]
          have ec : cellAt rs (j, at0 r u) = places (at0 r u) r := by
            unfold cellAt
            rw [er]
          refine psnoc (pimp (fun t q _ z => ?_) f2) ?_
          · rw [upd_ne (fun e => by rw [e, w1] at z; cases z)]
            exact z
          · rw [upd_ne (fun e => by rw [e, w1] at g2; cases g2), ec]
            exact g2
        · rw [upd_ne cd.symm, adds_snoc, if_neg hin]
          exact w3
    · rintro σ H3 ⟨m5, m6, m7, rfl, hF⟩
      refine ⟨_, _, _, _, rfl, ?_⟩
      rw [flat_take ev]
      rw [List.length_map, hrl, ← vrow_len rs u, List.take_length] at hF
      exact hF
  · rintro σ H3 ⟨m4, m5, m6, m7, rfl, hF⟩
    refine ⟨_, rfl, hQ c _ nc ?_⟩
    unfold visits
    rw [nV_len, ← List.length_map (f := vrow rs), List.take_length] at hF
    exact hF
end
end K02
set_option Elab.async false
set_option linter.all false
set_option maxRecDepth 100000
set_option maxHeartbeats 4000000
namespace K02
open PySem PySem.Spec PyProof.Rows L2 Ms
theorem pmapY {α β γ : Type} {F : α → β → Prop} {g : γ → β} : ∀ {xs : List α} {ys : List γ}, Paired (fun x y => F x (g y)) xs ys → Paired F xs (ys.map g)
  | _, _, .nil => .nil
  | _, _, .cons h t => .cons h (pmapY t)
/-- the steps that a dict tells -/
abbrev fV (f : Nat → Nat) : Nat → V := fun v => .int (f v : Nat)
abbrev inS (starts : List Nat) : Nat → Prop := fun v => v ∈ starts
/-- rows of one size, starts below it, not too many -/
structure Fit (rs : List (List Nat)) (n : Nat) (starts : List Nat) : Prop where
  len : ∀ r ∈ rs, r.length = n
  row : ∀ r ∈ rs, Row r
  lt : rs ≠ [] → ∀ v, inS starts v → v < n
  few : starts.length + n ≤ 200000
  rows : rs.length ≤ 50
def spDist (K : PySem.W.Frag) : Sp := fun vs H Q _ => ∃ (a g : Addr) (b : Bool) (rs : List (List Nat)) (n : Nat) (starts : List Nat) (f : Nat → Nat), vs = [.ref a, .ref g] ∧ Sights K b H a rs ∧ SqT K H g (nV starts) ∧ Fit rs n starts ∧
  (∀ k v, Dst (Nr rs n) (inS starts) k v → f v = k) ∧
  ∀ D ks H', Same H H' → H D = none → H' D = some (.dK (dkv ks (fV f))) → ks.Nodup → (∀ v, v ∈ ks ↔ ∃ k, Dst (Nr rs n) (inS starts) k v) → Q (.ref D) H'
section
variable {P : Program} {w : World} {K : PySem.W.Frag} {mg : Str → Option Value} {base : Heap}
theorem ok_distances (T : Tx K mg) : Ok P w K mg base "distances" 4 (spDist K) := by
  have O_fresh_cells : Ok P w K mg base "fresh_cells" 3 (spFreshC K) := ok_fresh_cells T
  have O_fresh_deals : Ok P w K mg base "fresh_deals" 1 (spFreshD K) := ok_fresh_deals T
  refine ok_of T.a_distances scdistances (fun vs H Q E h => ?_) bi_distances fun cdv A outer s H vs Q E hr h => ?_
  · obtain ⟨a, g, b, rs, n, starts, f, rfl, _⟩ := h
    rfl
  obtain ⟨a, g, b, rs, n, starts, f, rfl, hs, hg, hfit, hf, hQ⟩ := h
  have big : (16777216 : Nat) ≤ sizeLine := by decide
  have hfew := hfit.few
  have hz : ∀ v ∈ starts, f v = 0 := fun v hv => hf 0 v (dst_zero.mpr hv)
  refine ⟨_, (pss_cons (ps_setDc (i := 2) (own := [("deal", 3)]) (g := gName 3) rfl scdistances.nd rfl rfl (swd_true rfl rfl rfl (by decide +kernel)) (pi_tup (pv 1)) (blkOk_by (N := ["sights", "starts", "found", "deal", "done", "layer", "steps"]) (sc := defScope sdistances) (by decide +kernel)) (fun _ _ _ _ _ => (pg_name (i := 3) scdistances.nd rfl (by first | exact Or.inl rfl | exact Or.inr rfl))) (fun _ _ _ _ _ => pts_nil) (fun _ _ _ _ _ => (pv 3)) (fun _ _ _ _ _ => pe_int))
  (pss_cons (ps_set (i := 4) scdistances.nd rfl (by first | exact Or.inl rfl | exact Or.inr rfl) pe_dnewT)
  (pss_cons (ps_set (i := 5) scdistances.nd rfl (by first | exact Or.inl rfl | exact Or.inr rfl) (pe_callTy (call_list_dK rfl) (by rfl) T.f_list (by decide +kernel) (pa_cons (pv 2) pa_nil)))
  (pss_cons (ps_set (i := 6) scdistances.nd rfl (by first | exact Or.inl rfl | exact Or.inr rfl) pe_int)
  (pss_cons (ps_while PassesOwn.never (pt_truth (pv 5) (by intro _; rfl))
  (pss_cons (ps_aug (i := 6) scdistances.nd rfl (by first | exact Or.inl rfl | exact Or.inr rfl) pe_int ip_add)
    (pss_one (ps_set (i := 5) scdistances.nd rfl (by first | exact Or.inl rfl | exact Or.inr rfl) (pe_c (E := EN) O_fresh_deals hr (by decide) (fun σ => passN σ) (pa_cons (pe_c (E := EN) O_fresh_cells hr (by decide) (fun σ => passN σ) (pa_cons (pv 0) (pa_cons (pv 5) (pa_cons (pv 4) pa_nil)))) (pa_cons (pv 6) (pa_cons (pv 2) pa_nil))))))))
  (pss_one (ps_ret (pv 2)))))))), ?_⟩
  refine ⟨_, rfl, g, rfl, ⟨_, hg⟩, fun D nD => dc_it (walk_tup (xs := nV starts)) (fun i H1 => H1 D = some (.dK (dkv (adds [] (starts.take i)) (fV f))) ∧ Same H H1) ⟨by rw [upd_same] <;> rfl, same_new nD⟩ (fun i H1 _ h => Same.sqT h.2 hg) ?_ ?_⟩
  · rintro i x H1 H2 hi ⟨h1, h2⟩ ⟨rfl, hx⟩
    rw [nV_len] at hi
    have hx : x = .int (at0 starts i : Nat) := by
      have q := nV_at0 hi
      rw [hx] at q
      exact Option.some.inj q
    subst hx
    have mem : at0 starts i ∈ starts := List.mem_of_getElem? (of_at0 hi)
    have le : (adds [] (starts.take i)).length ≤ starts.length := nodup_le (nodup_adds List.nodup_nil _) fun x hx => by
      rcases (mem_adds [] _ x).mp hx with z | z
      · cases z
      · exact List.mem_of_mem_take z
    refine ⟨rfl, _, rfl, _, ikey (at0 starts i), rfl, h1, by rw [dkv_len]; omega, ?_, fun b o q => ?_⟩
    · have e0 : V.int 0 = fV f (at0 starts i) := by
        show V.int 0 = V.int (f (at0 starts i) : Nat)
        rw [hz _ mem] <;> rfl
      rw [upd_same, e0, dkv_adds, List.take_add_one, of_at0 hi] <;> rfl
    · rw [upd_ne (fun z => by rw [z, nD] at q; cases q)]
      exact h2 b o q
  rintro H1 ⟨h1, s1⟩
  rw [nV_len, List.take_length] at h1
  generalize hks : adds [] starts = ks0 at h1
  have nk0 : ks0.Nodup := by rw [← hks]; exact nodup_adds List.nodup_nil _
  have mk0 : ∀ v, v ∈ ks0 ↔ inS starts v := fun v => by
    rw [← hks, mem_adds]
    exact ⟨fun z => z.resolve_left (fun q => nomatch q), fun z => .inr z⟩
  refine fun dd nd => ?_
  have ne1 : D ≠ dd := fun z => by rw [← z, h1] at nd; cases nd
  have h1' : upd H1 dd (.dT []) D = some (.dK (dkv ks0 (fV f))) := by rw [upd_ne ne1]; exact h1
  refine ⟨_, rfl, D, _, rfl, h1', fun l nl => ?_⟩
  have nd0 : H dd = none := s1.free nd
  have s2 : Same H (upd (upd H1 dd (.dT [])) l (.lst ((dkv ks0 (fV f)).map fun kv => kV kv.1))) := fun b o q => same_new nl _ _ (same_new nd _ _ (s1 b o q))
  have nl1 : H1 l = none := (same_new (o := .dT []) nd).free nl
  have nl0 : H l = none := s1.free nl1
  have lD : l ≠ D := fun z => by rw [z, h1'] at nl; cases nl
  have ld : l ≠ dd := fun z => by rw [z, upd_same] at nl; cases nl
  have el : (dkv ks0 (fV f)).map (fun kv => kV kv.1) = nV ks0 := by
    unfold dkv nV
    rw [List.map_map] <;> rfl
  have uz : (starts ++ List.range n).length ≤ 200000 := by rw [List.length_append, List.length_range]; exact hfew
  have inU : ∀ {s : Nat} {ks us : List Nat} {dn}, Lay rs n (inS starts) s ks us dn → ∀ v ∈ ks, v ∈ starts ++ List.range n := fun {s ks us dn} h v hv => by
    obtain ⟨k, _, q⟩ := (h.keys v).mp hv
    cases k with
    | zero => exact List.mem_append_left _ (dst_zero.mp q)
    | succ k =>
      obtain ⟨u, _, z⟩ := q.back
      exact List.mem_append_right _ (List.mem_range.mpr z.2.1)
  rw [el] at s2 ⊢
  refine ⟨fun m σ H2 => ∃ (st : Nat) (ks us : List Nat) (dn : List (Nat × Nat)) (ll : Addr), m = 2 * (200000 - ks.length) + (if us = [] then 0 else 1) ∧ σ = [some (.ref a), some (.ref g), some (.ref D), none, some (.ref dd), some (.ref ll), some (.int (st : Nat))] ∧
    Lay rs n (inS starts) st ks us dn ∧ H2 D = some (.dK (dkv ks (fV f))) ∧ H2 dd = some (.dT (dkp dn)) ∧ H2 ll = some (.lst (nV us)) ∧ Same H H2 ∧ H ll = none, ⟨_, 0, ks0, ks0, [], l, rfl, rfl, Lay.start nk0 mk0, ?_, ?_, upd_same .., s2, nl0⟩, ?_⟩
  · rw [upd_ne lD.symm]; exact h1'
  · rw [upd_ne ld.symm, upd_same] <;> rfl
  rintro m σ H2 ⟨st, ks, us, dn, ll, rfl, rfl, hL, k1, k2, k3, s3, nll⟩
  refine ⟨_, rfl, _, .inl ⟨_, .inl (.inl k3), rfl⟩, ?_⟩
  cases us with
  | nil => exact iteF ⟨_, rfl, hQ D ks H2 s3 nD k1 hL.nk (hL.all rfl)⟩
  | cons u0 us0 =>
    generalize hus : u0 :: us0 = us at *
    have une : us ≠ [] := by rw [← hus]; exact fun z => by cases z
    have tr : (!(nV us).isEmpty) = true := by rw [← hus] <;> rfl
    rw [tr, if_neg une]
    have L2 := hL.next hfit.len hfit.lt
    have ksU := nodup_le hL.nk (inU hL)
    have ks2U := nodup_le L2.nk (inU L2)
    refine iteT ⟨fun σ' H' => ∃ m', m' < 2 * (200000 - ks.length) + 1 ∧ ∃ (st : Nat) (ks us : List Nat) (dn : List (Nat × Nat)) (ll : Addr), m' = 2 * (200000 - ks.length) + (if us = [] then 0 else 1) ∧ σ' = [some (.ref a), some (.ref g), some (.ref D), none, some (.ref dd), some (.ref ll), some (.int (st : Nat))] ∧
      Lay rs n (inS starts) st ks us dn ∧ H' D = some (.dK (dkv ks (fV f))) ∧ H' dd = some (.dT (dkp dn)) ∧ H' ll = some (.lst (nV us)) ∧ Same H H' ∧ H ll = none, fun _ _ z => z, ?_⟩
    refine ⟨_, rfl, _, _, rfl, rfl, ?_⟩
    have est : ((st : Nat) : Int) + 1 = ((st + 1 : Nat) : Int) := by omega
    dsimp only
    rw [est]
    have hS2 := hs.same s3
    have lldd : ll ≠ dd := fun z => by rw [z, k2] at k3; cases k3
    have llD : ll ≠ D := fun z => by rw [z, k1] at k3; cases k3
    generalize hUU : ((List.range (rs.length * n)).map fun i => (i / n, i % n)) = UU
    have zUU : UU.length < 16777216 := by
      rw [← hUU, List.length_map, List.length_range]
      have h1 := hfit.rows
      have h2 : n ≤ 200000 := by omega
      exact Nat.lt_of_le_of_lt (Nat.mul_le_mul h1 h2) (by decide)
    have mUU : ∀ p : Nat × Nat, p.1 < rs.length → p.2 < n → p ∈ UU := fun p h1 h2 => by
      rw [← hUU]
      refine List.mem_map.mpr ⟨p.1 * n + p.2, List.mem_range.mpr ?_, ?_⟩
      · have := Nat.mul_le_mul_right n (show p.1 + 1 ≤ rs.length from h1)
        rw [Nat.add_mul, Nat.one_mul] at this
        omega
      · have hn : 0 < n := by omega
        refine Prod.ext ?_ ?_
        · show (p.1 * n + p.2) / n = p.1
          rw [Nat.add_comm, Nat.add_mul_div_right _ _ hn, Nat.div_eq_of_lt h2, Nat.zero_add]
        · show (p.1 * n + p.2) % n = p.2
          rw [Nat.add_comm, Nat.add_mul_mod_self_right, Nat.mod_eq_of_lt h2]
    have hne : ∀ {i : Nat}, i < rs.length → rs ≠ [] := fun {i} q z => by rw [z] at q; exact Nat.not_lt_zero _ q
    have mkU : ∀ {i u k : Nat}, i < rs.length → Dst (Nr rs n) (inS starts) k u → at0 (rAt rs i) u < n := fun {i u k} hi hu => by
      have mem := rAt_mem hi
      have ul := reach_lt hfit.lt (hne hi) hu
      have ln := hfit.len _ mem
      have q := row_lt (hfit.row _ mem) _ (List.mem_of_getElem? (of_at0 (l := rAt rs i) (i := u) (by rw [ln]; exact ul)))
      rw [ln] at q
      exact q
    refine ⟨_, rfl, _, rfl, _, rfl, a, ll, dd, b, rs, us, dn, UU, rfl, hS2, .inl (.inl k3), k2, fun u hu r hr => ?_, hL.nd, fun p hp => ?_, fun p hp => ?_, zUU, fun c H3 nc hF => ?_⟩
    · have rne : rs ≠ [] := fun z => by rw [z] at hr; cases hr
      rw [hfit.len r hr]
      exact reach_lt hfit.lt rne ((hL.last u).mp hu)
    · obtain ⟨u, k, _, q2, q3, q4⟩ := (hL.done p).mp hp
      exact mUU p q3 (q4 ▸ mkU q3 q2)
    · obtain ⟨u, q1, q2, q3⟩ := mem_visits.mp hp
      exact mUU p q2 (q3 ▸ mkU q2 ((hL.last u).mp q1))
    obtain ⟨⟨cts, f1, f2⟩, f3, f4⟩ := hF
    have g1 : H3 D = some (.dK (dkv ks (fV f))) := f4 _ _ ne1 k1
    have nD2 := L2.nk
    refine ⟨_, rfl, _, rfl, c, D, st + 1, cts, (news dn (visits rs us)).map (cellAt rs), ks, fV f, rfl, .inl (.inl f1), pmapY f2, g1, fun v hv hv2 => ?_, ⟨starts ++ List.range n, fun v hv => ?_, inU hL, by omega⟩, hL.nk, fun l' H4 nl' hF2 => ?_⟩
    · have d1 := (L2.last v).mp ((mem_news hL.nk _ v).mpr ⟨hv, hv2⟩)
      show V.int (f v : Nat) = V.int ((st + 1 : Nat) : Nat)
      rw [hf _ _ d1]
    · exact inU L2 v ((mem_adds _ _ v).mpr (.inr hv))
    obtain ⟨e1, e2, e3⟩ := hF2
    have s4 : Same H H4 := fun q o z => by
      refine e3 _ _ (fun w => by rw [w, nD] at z; cases z) (f4 _ _ (fun w => by rw [w, nd0] at z; cases z) (s3 _ _ z))
    have nl2 : H l' = none := by
      have z1 := f4.free ⟨_, f3⟩ nl'
      exact s3.free z1
    have k9 : H4 dd = some (.dT (dkp (adds dn (visits rs us)))) := e3 _ _ ne1.symm f3
    refine ⟨_, ?_, _, _, _, _, l', rfl, rfl, L2, e2, k9, e1, s4, nl2⟩
    have al := congrArg List.length (adds_eq ks ((news dn (visits rs us)).map (cellAt rs)).flatten)
    rw [List.length_append] at al
    by_cases z : news ks ((news dn (visits rs us)).map (cellAt rs)).flatten = []
    · rw [if_pos z]
      omega
    · rw [if_neg z]
      have := List.length_pos_iff.mpr z
      omega
end
end K02
set_option Elab.async false
set_option linter.all false
set_option maxRecDepth 100000
set_option maxHeartbeats 4000000
namespace K02
open PySem PySem.Spec PyProof.Rows L2 Ms
/-- the deals of the cell of u in row j that are s steps away -/
def near (rs : List (List Nat)) (u : Nat) (ks : List Nat) (f : Nat → Nat) (s j : Nat) : List Nat := (cellAt rs (j, at0 (rAt rs j) u)).filter fun o => decide (o ∈ ks ∧ f o = s)
def fnd (rs : List (List Nat)) (u : Nat) (ks : List Nat) (f : Nat → Nat) (s i : Nat) : List (Nat × Nat) := (List.range i).filterMap fun j => (near rs u ks f s j).head?.map fun x => (x, j)
theorem mem_near {rs : List (List Nat)} {u : Nat} {ks : List Nat} {f : Nat → Nat} {s j y : Nat} : y ∈ near rs u ks f s j ↔ y < (rAt rs j).length ∧ at0 (rAt rs j) y = at0 (rAt rs j) u ∧ y ∈ ks ∧ f y = s := by
  unfold near cellAt
  rw [List.mem_filter, mem_places, decide_eq_true_eq, and_assoc]
theorem near_least {rs : List (List Nat)} {u : Nat} {ks : List Nat} {f : Nat → Nat} {s j x y : Nat} (h : (near rs u ks f s j).head? = some x) (hy : y ∈ near rs u ks f s j) : x ≤ y := by
  have p : (near rs u ks f s j).Pairwise (· < ·) := by
    unfold near cellAt places
    exact (List.pairwise_lt_range.filter _).filter _
  cases e : near rs u ks f s j with
  | nil => rw [e] at h; cases h
  | cons a l =>
    rw [e] at h hy p
    cases h
    rcases List.mem_cons.mp hy with rfl | q
    · exact Nat.le_refl _
    · exact Nat.le_of_lt ((List.pairwise_cons.mp p).1 y q)
theorem mem_fnd {rs : List (List Nat)} {u : Nat} {ks : List Nat} {f : Nat → Nat} {s i : Nat} {p : Nat × Nat} : p ∈ fnd rs u ks f s i ↔ p.2 < i ∧ (near rs u ks f s p.2).head? = some p.1 := by
  unfold fnd
  rw [List.mem_filterMap]
  constructor
  · rintro ⟨j, h1, h2⟩
    obtain ⟨x, h3, rfl⟩ := Option.map_eq_some_iff.mp h2
    exact ⟨List.mem_range.mp h1, h3⟩
  · rintro ⟨h1, h2⟩
    exact ⟨p.2, List.mem_range.mpr h1, by rw [h2] <;> rfl⟩
theorem fnd_snoc {rs : List (List Nat)} {u : Nat} {ks : List Nat} {f : Nat → Nat} {s i : Nat} : fnd rs u ks f s (i + 1) = fnd rs u ks f s i ++ (((near rs u ks f s i).head?.map fun x => (x, i)).toList) := by
  unfold fnd
  rw [List.range_succ, List.filterMap_append]
  cases h : (near rs u ks f s i).head?.map fun x => (x, i) <;> simp [h]
theorem head_near {rs : List (List Nat)} {u : Nat} {ks : List Nat} {f : Nat → Nat} {s j y : Nat} (hy : y ∈ near rs u ks f s j) : ∃ x, (near rs u ks f s j).head? = some x ∧ x ≤ y := by
  cases e : (near rs u ks f s j).head? with
  | none =>
    rw [List.head?_eq_none_iff.mp e] at hy
    cases hy
  | some x => exact ⟨x, rfl, near_least e hy⟩
/-- the least nearer deal and the first sight that joins it -/
structure Step (rs : List (List Nat)) (n : Nat) (S : Nat → Prop) (u s x i : Nat) : Prop where
  nr : Nr rs n u x
  ds : Dst (Nr rs n) S s x
  le : ∀ y, Nr rs n u y → Dst (Nr rs n) S s y → x ≤ y
  il : i < rs.length
  eq : at0 (rAt rs i) u = at0 (rAt rs i) x
  fi : ∀ j, j < i → at0 (rAt rs j) u ≠ at0 (rAt rs j) x
theorem step_of {rs : List (List Nat)} {n u s : Nat} {S : Nat → Prop} {ks : List Nat} {f : Nat → Nat} (hl : ∀ r ∈ rs, r.length = n) (hk : ∀ v, v ∈ ks ↔ ∃ k, Dst (Nr rs n) S k v) (hf : ∀ k v, Dst (Nr rs n) S k v → f v = k) (hu : u < n)
    {p : Nat × Nat} (hp : p ∈ fnd rs u ks f s rs.length) (hm : ∀ q ∈ fnd rs u ks f s rs.length, ¬ (q.1 < p.1 ∨ (q.1 = p.1 ∧ q.2 < p.2))) : Step rs n S u s p.1 p.2 := by
  obtain ⟨h1, h2⟩ := mem_fnd.mp hp
  have dst : ∀ {y}, y ∈ ks → f y = s → Dst (Nr rs n) S s y := fun {y} a b => by
    obtain ⟨k, d⟩ := (hk y).mp a
    rw [← b, hf k y d]
    exact d
  obtain ⟨a1, a2, a3, a4⟩ := mem_near.mp (List.mem_of_mem_head? h2)
  have ln : (rAt rs p.2).length = n := hl _ (rAt_mem h1)
  refine ⟨⟨hu, by rw [← ln]; exact a1, p.2, h1, a2.symm⟩, dst a3 a4, fun y hy dy => ?_, h1, a2.symm, fun j hj e => ?_⟩
  · obtain ⟨_, b2, j, b3, b4⟩ := hy
    have yn : y ∈ near rs u ks f s j := mem_near.mpr ⟨by rw [hl _ (rAt_mem b3)]; exact b2, b4.symm, (hk y).mpr ⟨s, dy⟩, hf _ _ dy⟩
    obtain ⟨x, c1, c2⟩ := head_near yn
    have := hm (x, j) (mem_fnd.mpr ⟨b3, c1⟩)
    have : ¬ (x < p.1) := fun z => this (.inl z)
    omega
  · have jl : j < rs.length := Nat.lt_trans hj h1
    have yn : p.1 ∈ near rs u ks f s j := mem_near.mpr ⟨by rw [hl _ (rAt_mem jl), ← ln]; exact a1, e.symm, a3, a4⟩
    obtain ⟨x, c1, c2⟩ := head_near yn
    have q := hm (x, j) (mem_fnd.mpr ⟨jl, c1⟩)
    have q1 : ¬ (x < p.1) := fun z => q (.inl z)
    have q2 : ¬ (x = p.1 ∧ j < p.2) := fun z => q (.inr z)
    exact q2 ⟨by omega, hj⟩
/-- what the dict of steps tells -/
structure Far (H : Hp) (D : Addr) (rs : List (List Nat)) (n : Nat) (S : Nat → Prop) (ks : List Nat) (f : Nat → Nat) : Prop where
  at_ : H D = some (.dK (dkv ks (fV f)))
  keys : ∀ v, v ∈ ks ↔ ∃ k, Dst (Nr rs n) S k v
  val : ∀ k v, Dst (Nr rs n) S k v → f v = k
theorem Far.same {H H' : Hp} {D : Addr} {rs : List (List Nat)} {n : Nat} {S : Nat → Prop} {ks : List Nat} {f : Nat → Nat} (s : Same H H') (h : Far H D rs n S ks f) : Far H' D rs n S ks f := ⟨s _ _ h.at_, h.keys, h.val⟩
def spStep (K : PySem.W.Frag) : Sp := fun vs H Q _ => ∃ (a D : Addr) (b : Bool) (rs : List (List Nat)) (n u s : Nat) (S : Nat → Prop) (ks : List Nat) (f : Nat → Nat), vs = [.ref a, .int (u : Nat), .ref D, .int (s : Nat)] ∧ Sights K b H a rs ∧ (∀ r ∈ rs, r.length = n) ∧ rs.length ≤ 1000 ∧
  Far H D rs n S ks f ∧ Dst (Nr rs n) S (s + 1) u ∧ ∀ t x i H', Same H H' → H' t = some (.tup [.int (x : Nat), .int (i : Nat)]) → Step rs n S u s x i → Q (.ref t) H'
section
variable {P : Program} {w : World} {K : PySem.W.Frag} {mg : Str → Option Value} {base : Heap}
theorem ok_next_step (T : Tx K mg) : Ok P w K mg base "next_step" 2 (spStep K) := by
  have O_Sight_cell_of : MOk P w K mg base "Sight" "cell_of" 1 (spCellOf K) := mok_cell_of T
  refine ok_of T.a_next_step scnext_step (fun vs H Q E h => ?_) bi_next_step fun cdv A outer s H vs Q E hr h => ?_
  · obtain ⟨a, D, b, rs, n, u, st, S, ks, f, rfl, _⟩ := h
    rfl
  obtain ⟨a, D, b, rs, n, u, st, S, ks, f, rfl, ⟨ts, hs, hp⟩, hl, hz, hF, hu, hQ⟩ := h
  have big : (16777216 : Nat) ≤ sizeLine := by decide
  have hrl := Paired.length hp
  have un : u < n := by
    obtain ⟨_, _, q⟩ := hu.back
    exact q.2.1
  refine ⟨_, (pss_cons (ps_set (i := 4) scnext_step.nd rfl (by first | exact Or.inl rfl | exact Or.inr rfl) (pe_lst pa_nil))
  (pss_cons (ps_for PassesOwn.never rfl (pi_enumS K (by rfl) T.f_enumerate (pa_cons (pv 0) pa_nil)) (pg_tup rfl (pgs_cons (pg_name (i := 5) scnext_step.nd rfl (by first | exact Or.inl rfl | exact Or.inr rfl)) (pgs_cons (pg_name (i := 6) scnext_step.nd rfl (by first | exact Or.inl rfl | exact Or.inr rfl)) pgs_nil)))
  (pss_cons (ps_setLc (i := 7) (own := [("other", 8)]) (g := gName 8) rfl scnext_step.nd rfl rfl (sw_true rfl rfl rfl (by decide +kernel)) (pi_tup (pe_mK K (E := EN) O_Sight_cell_of hr (by decide) (fun σ => passN σ) (pv 6) (pa_cons (pv 1) pa_nil))) (blkOk_by (N := ["sights", "deal", "far", "steps", "found", "index", "sight", "nearer", "other"]) (sc := defScope snext_step) (by decide +kernel)) (fun _ _ _ _ _ => (pg_name (i := 8) scnext_step.nd rfl (by first | exact Or.inl rfl | exact Or.inr rfl))) (fun _ _ _ _ _ => (pts_one (pt_cmpR op_eq (pe_dget1 (hu_of hr) (pv 2) (pv 8) ⟨rfl, rfl, rfl, rfl⟩) (pv 3) (nomark _)))) (fun _ _ _ _ _ => (pv 8)))
    (pss_one (ps_if (pt_truth (pv 7) (by intro _; rfl))
    (pss_one (ps_expr (pe_bm PySem.F.plainAttrs_list PySem.F.slot_list_append PySem.F.type_list_append mt_append (pv 4) (pa_cons (pe_tup (pa_cons (pe_ix (ixL K) (pv 7) pe_int (fun _ _ => rfl)) (pa_cons (pv 5) pa_nil))) pa_nil))))
    pss_nil))))
  (pss_one (ps_ret (pe_callB (minP_raw K (hc := rfl) (hu := hr.units)) (by rfl) T.f_min (by decide +kernel) (pa_cons (pv 4) pa_nil)))))), ?_⟩
  refine ⟨Nat.zero_le _, fun c nc => ?_⟩
  refine ⟨_, rfl, a, b, _, rfl, SqB.same (same_new nc) hs, fun J W => for_it W (fun i σ H1 => ∃ (m5 m6 m7 : Option V) (cts : List Addr), σ = [some (.ref a), some (.int (u : Nat)), some (.ref D), some (.int (st : Nat)), some (.ref c), m5, m6, m7, none] ∧ H1 c = some (.lst (cts.map V.ref)) ∧
    Paired (fun t (p : Nat × Nat) => H1 t = some (.tup [.int (p.1 : Nat), .int (p.2 : Nat)])) cts (fnd rs u ks f st i) ∧ Same H H1) ?_ (fun i σ H1 _ h => by obtain ⟨_, _, _, _, _, _, _, h⟩ := h; exact SqB.same h hs) ?_ ?_⟩
  · exact ⟨none, none, none, [], rfl, upd_same .., .nil, same_new nc⟩
  · rintro i v σ H1 H2 hi ⟨m5, m6, m7, cts, rfl, k1, k2, k3⟩ y
    obtain ⟨Tt, x0, x1, rfl, nT, rfl, hx0, hx1⟩ := y
    cases hx0
    rw [List.length_map] at hi
    obtain ⟨p, r, e1, e2, e3⟩ := pget2 hp hi
    have hx1 : (ts.map V.ref)[i]? = some x1 := hx1
    rw [List.getElem?_map, e1] at hx1
    cases hx1
    have er := rAt_of e2
    have rl : r.length = n := hl r (List.mem_of_getElem? e2)
    refine ⟨Tt, _, rfl, .inl (.inl (upd_same ..)), rfl, _, _, rfl, _, _, rfl, rfl, ?_⟩
    have s2 : Same H1 (upd H1 Tt (.tup [.int (i : Nat), .ref p])) := same_new nT
    generalize hH2 : upd H1 Tt (.tup [.int (i : Nat), .ref p]) = H2 at s2
    have s3 : Same H H2 := fun b o q => s2 _ _ (k3 _ _ q)
    have S2 := e3.same s3
    obtain ⟨dx, t, cc, x1, x2, x3⟩ := S2.ex
    have hc2 := s2 _ _ k1
    have hp2 := pimp (fun t (q : Nat × Nat) _ z => s2 t _ z) k2
    refine ⟨_, rfl, p, dx, _, rfl, x1, rfl, _, rfl, p, r, u, rfl, S2, by rw [rl]; exact un, fun ct hct => ?_⟩
    refine ⟨ct, rfl, ⟨_, .inl (.inl hct)⟩, fun L nL => ?_⟩
    have cL : c ≠ L := fun z => by rw [z] at hc2; rw [hc2] at nL; cases nL
    refine lc_it (walk_tup (xs := nV (places (at0 r u) r))) (fun j H3 => H3 L = some (.lst (nV (((places (at0 r u) r).take j).filter fun o => decide (o ∈ ks ∧ f o = st)))) ∧ Same H2 H3) ⟨by rw [upd_same] <;> rfl, same_new nL⟩ (fun j H3 _ h => .inl (.inl (h.2 _ _ hct))) ?_ ?_
    · rintro j x H3 H4 hj ⟨g1, g2⟩ ⟨rfl, hx⟩
      rw [nV_len] at hj
      have hx : x = .int (at0 (places (at0 r u) r) j : Nat) := by
        have q := nV_at0 hj
        rw [hx] at q
        exact Option.some.inj q
      subst hx
      generalize ho : at0 (places (at0 r u) r) j = o
      have om : (places (at0 r u) r)[j]? = some o := by rw [← ho]; exact of_at0 hj
      have tk : (places (at0 r u) r).take (j + 1) = (places (at0 r u) r).take j ++ [o] := by rw [List.take_add_one, om] <;> rfl
      refine ⟨rfl, ?_⟩
      refine ⟨_, rfl, D, rfl, .inl ⟨_, .inl (g2 _ _ (s3 _ _ hF.at_))⟩, _, rfl, _, DGet.k (k := ikey o) (g2 _ _ (s3 _ _ hF.at_)), ?_⟩
      have lz : (((places (at0 r u) r).take j).filter fun o => decide (o ∈ ks ∧ f o = st)).length < sizeLine := by
        have q1 := List.length_filter_le (fun o => decide (o ∈ ks ∧ f o = st)) ((places (at0 r u) r).take j)
        rw [List.length_take] at q1
        have q2 := places_len (at0 r u) r
        have q3 := e3.few
        omega
      rw [valV_dkv]
      by_cases hin : o ∈ ks
      · rw [if_pos hin]
        refine ⟨_, rfl, rfl, _, rfl, ?_⟩
        by_cases hst : f o = st
        · have z : decide (V.int (f o : Nat) = V.int (st : Nat)) = true := by rw [hst]; simp
          show if decide (V.int (f o : Nat) = V.int (st : Nat)) = true then _ else _
          rw [z]
          refine iteT ⟨_, rfl, _, g1, by rw [nV_len]; exact lz, ?_, fun q w e => ?_⟩
          · rw [upd_same, nV_snoc, tk, List.filter_append]
            have : [o].filter (fun o => decide (o ∈ ks ∧ f o = st)) = [o] := by simp [hin, hst]
            rw [this]
          · rw [upd_ne (fun z => by rw [z, nL] at e; cases e)]
            exact g2 _ _ e
        · have z : decide (V.int (f o : Nat) = V.int (st : Nat)) = false := decide_eq_false fun q => hst (by have := V.int.inj q; omega)
          show if decide (V.int (f o : Nat) = V.int (st : Nat)) = true then _ else _
          rw [z]
          refine iteF ⟨?_, g2⟩
          rw [tk, List.filter_append]
          have : [o].filter (fun o => decide (o ∈ ks ∧ f o = st)) = [] := by simp [hst]
          rw [this, List.append_nil]
          exact g1
      · rw [if_neg hin]
        refine ⟨_, rfl, rfl, _, rfl, iteF ⟨?_, g2⟩⟩
        rw [tk, List.filter_append]
        have : [o].filter (fun o => decide (o ∈ ks ∧ f o = st)) = [] := by simp [hin]
        rw [this, List.append_nil]
        exact g1
    · rintro H3 ⟨g1, g2⟩
      rw [nV_len, List.take_length] at g1
      have en : (places (at0 r u) r).filter (fun o => decide (o ∈ ks ∧ f o = st)) = near rs u ks f st i := by
        unfold near cellAt
        rw [er]
      rw [en] at g1
      have hc3 := g2 _ _ hc2
      have hp3 := pimp (fun t (q : Nat × Nat) _ z => g2 t _ z) hp2
      have s5 : Same H H3 := fun b o q => g2 _ _ (s3 _ _ q)
      refine ⟨_, rfl, _, .inl ⟨_, .inl (.inl g1), rfl⟩, ?_⟩
      cases hn : near rs u ks f st i with
      | nil =>
        refine iteF ⟨_, _, _, cts, rfl, hc3, ?_, s5⟩
        rw [fnd_snoc, hn]
        simpa using hp3
      | cons x0 l0 =>
        rw [hn] at g1
        refine iteT ⟨_, rfl, .inl ⟨rfl, _, .inl (.inl hc3)⟩, _, rfl, L, _, _, .int (x0 : Nat), rfl, rfl, .inl (.inl g1), atI_nat (j := 0) rfl, _, rfl, by show 2 ≤ sizeLine; decide, fun t nt => ?_⟩
        have ct : c ≠ t := fun z => by rw [← z, hc3] at nt; cases nt
        have s6 : Same H3 (upd H3 t (.tup [.int (x0 : Nat), .int (i : Nat)])) := same_new nt
        refine ⟨c, _, _, rfl, rfl, s6 _ _ hc3, ?_, ?_⟩
        · rw [List.length_map, Paired.length hp3]
          have : (fnd rs u ks f st i).length ≤ i := by
            unfold fnd
            exact Nat.le_trans (List.length_filterMap_le _ _) (by rw [List.length_range]; exact Nat.le_refl _)
          omega
        refine ⟨_, _, _, cts ++ [t], rfl, ?_, ?_, fun q w e => ?_⟩
        · rw [upd_same, List.map_append, List.map_singleton]
        · rw [fnd_snoc, hn]
          refine psnoc (pimp (fun t' q _ z => ?_) hp3) ?_
          · rw [upd_ne (fun e => by rw [e, hc3] at z; cases z)]
            exact s6 _ _ z
          · rw [upd_ne ct.symm, upd_same] <;> rfl
        · rw [upd_ne (fun z => by rw [z, nc] at e; cases e)]
          exact s6 _ _ (s5 _ _ e)
  · rintro σ H1 ⟨m5, m6, m7, cts, rfl, k1, k2, k3⟩
    rw [List.length_map, hrl] at k2
    have ne : 0 < (fnd rs u ks f st rs.length).length := by
      obtain ⟨y, dy, b1, b2, j, b3, b4⟩ := hu.back
      have yn : y ∈ near rs u ks f st j := mem_near.mpr ⟨by rw [hl _ (rAt_mem b3)]; exact b1, b4, (hF.keys y).mpr ⟨st, dy⟩, hF.val _ _ dy⟩
      obtain ⟨x, c1, _⟩ := head_near yn
      exact List.length_pos_of_mem ((mem_fnd (p := (x, j))).mpr ⟨b3, c1⟩)
    refine ⟨_, rfl, c, cts, (fnd rs u ks f st rs.length).map fun p => (((p.1 : Nat) : Int), ((p.2 : Nat) : Int)), rfl, .inl (.inl k1), pmapY (pimp (fun t q _ z => .inl (.inl z)) k2), by rw [List.length_map]; exact ne, fun i t p ht hpp hm => ?_⟩
    rw [List.getElem?_map] at hpp
    cases e : (fnd rs u ks f st rs.length)[i]? with
    | none => rw [e] at hpp; cases hpp
    | some q =>
      rw [e] at hpp
      cases hpp
      obtain ⟨t', e1, e2⟩ := pgetY k2 e
      rw [ht] at e1
      cases e1
      refine hQ t q.1 q.2 H1 k3 e2 (step_of hl hF.keys hF.val un (List.mem_of_getElem? e) fun q' hq' z => ?_)
      refine hm _ (List.mem_map.mpr ⟨q', hq', rfl⟩) ?_
      unfold ltP2
      dsimp only
      omega
end
end K02
set_option Elab.async false
set_option linter.all false
set_option maxRecDepth 100000
set_option maxHeartbeats 4000000
namespace K02
open PySem PySem.Spec PyProof.Rows L2 Ms
/-- the chain that is made, d steps away at its start and e steps at its end -/
inductive Chn (rs : List (List Nat)) (n : Nat) (S : Nat → Prop) : Nat → Nat → List (Nat × Nat) → Nat → Nat → Prop where
  | nil (u d : Nat) : Chn rs n S u d [] u d
  | cons {u d x i v e : Nat} {c : List (Nat × Nat)} (h : Step rs n S u d x i) (t : Chn rs n S x d c v e) : Chn rs n S u (d + 1) ((i, x) :: c) v e
section
variable {rs : List (List Nat)} {n : Nat} {S : Nat → Prop}
theorem Chn.snoc {u d v e x i : Nat} {c : List (Nat × Nat)} (g : Chn rs n S u d c v (e + 1)) (h : Step rs n S v e x i) : Chn rs n S u d (c ++ [(i, x)]) x e := by
  generalize hz : e + 1 = z at g
  induction g with
  | nil u d => subst hz; exact .cons h (.nil _ _)
  | cons h1 t ih => exact .cons h1 (ih h hz)
theorem Chn.gdy {u d v e : Nat} {c : List (Nat × Nat)} (g : Chn rs n S u d c v e) : Gdy (Nr rs n) S u d (c.map (·.2)) v e := by
  induction g with
  | nil u d => exact .nil _ _
  | cons h t ih => exact .cons h.nr h.ds h.le ih
theorem Chn.stop {u d v e : Nat} {c : List (Nat × Nat)} (g : Chn rs n S u d c v e) (h : Dst (Nr rs n) S d u) : Dst (Nr rs n) S e v := by
  induction g with
  | nil u d => exact h
  | cons h1 t ih => exact ih h1.ds
end
theorem dst_many {adj : Nat → Nat → Prop} {S : Nat → Prop} : ∀ {d v : Nat}, Dst adj S d v → ∃ l : List Nat, l.length = d + 1 ∧ l.Nodup ∧ ∀ x ∈ l, ∃ k, k ≤ d ∧ Dst adj S k x
  | 0, v, h => ⟨[v], rfl, List.nodup_cons.mpr ⟨List.not_mem_nil, List.nodup_nil⟩, fun x hx => ⟨0, Nat.le_refl _, by rw [List.mem_singleton.mp hx]; exact h⟩⟩
  | d + 1, v, h => by
    obtain ⟨u, hu, _⟩ := h.back
    obtain ⟨l, h1, h2, h3⟩ := dst_many hu
    refine ⟨v :: l, by rw [List.length_cons, h1], List.nodup_cons.mpr ⟨fun q => ?_, h2⟩, fun x hx => ?_⟩
    · obtain ⟨k, k1, k2⟩ := h3 v q
      have := k2.uniq h
      omega
    · rcases List.mem_cons.mp hx with rfl | q
      · exact ⟨d + 1, Nat.le_refl _, h⟩
      · obtain ⟨k, k1, k2⟩ := h3 x q
        exact ⟨k, by omega, k2⟩
theorem Fit.dlt {rs : List (List Nat)} {n : Nat} {starts : List Nat} (h : Fit rs n starts) {d v : Nat} (g : Dst (Nr rs n) (inS starts) d v) : d < 200000 := by
  obtain ⟨l, h1, h2, h3⟩ := dst_many g
  have q := nodup_le (m := starts ++ List.range n) h2 fun x hx => by
    obtain ⟨k, _, z⟩ := h3 x hx
    cases k with
    | zero => exact List.mem_append_left _ (dst_zero.mp z)
    | succ k =>
      obtain ⟨u, _, w⟩ := z.back
      exact List.mem_append_right _ (List.mem_range.mpr w.2.1)
  rw [List.length_append, List.length_range] at q
  have := h.few
  omega
/-- the tuple of pairs at t -/
def ChainAt (H : Hp) (t : Addr) (c : List (Nat × Nat)) : Prop := ∃ ts : List Addr, H t = some (.tup (ts.map V.ref)) ∧ Paired (fun t (p : Nat × Nat) => H t = some (.tup [.int (p.1 : Nat), .int (p.2 : Nat)])) ts c
theorem ChainAt.same {H H' : Hp} (s : Same H H') {t : Addr} {c : List (Nat × Nat)} (h : ChainAt H t c) : ChainAt H' t c := let ⟨ts, h1, h2⟩ := h; ⟨ts, s _ _ h1, pimp (fun _ _ _ z => s _ _ z) h2⟩
/-- what a first chain is answered with -/
def Answers (H : Hp) (Q : VK) (rs : List (List Nat)) (n : Nat) (goals : List Nat) (start : Nat) : Prop := (∀ H', Same H H' → (∀ k, ¬ Dst (Nr rs n) (inS goals) k start) → Q .non H') ∧
  ∀ t H' c d v, Same H H' → ChainAt H' t c → Dst (Nr rs n) (inS goals) d start → Chn rs n (inS goals) start d c v 0 → Q (.ref t) H'
def spFirst (K : PySem.W.Frag) : Sp := fun vs H Q _ => ∃ (a g : Addr) (b : Bool) (rs : List (List Nat)) (n start : Nat) (goals : List Nat), vs = [.ref a, .int (start : Nat), .ref g] ∧ Sights K b H a rs ∧ SqT K H g (nV goals) ∧ Fit rs n goals ∧ Answers H Q rs n goals start
section
variable {P : Program} {w : World} {K : PySem.W.Frag} {mg : Str → Option Value} {base : Heap}
theorem ok_first_chain (T : Tx K mg) : Ok P w K mg base "first_chain" 5 (spFirst K) := by
  have O_distances : Ok P w K mg base "distances" 4 (spDist K) := ok_distances T
  have O_next_step : Ok P w K mg base "next_step" 2 (spStep K) := ok_next_step T
  refine ok_of T.a_first_chain scfirst_chain (fun vs H Q E h => ?_) bi_first_chain fun cdv A outer s H vs Q E hr h => ?_
  · obtain ⟨a, g, b, rs, n, start, goals, rfl, _⟩ := h
    rfl
  obtain ⟨a, g, b, rs, n, start, goals, rfl, hs, hg, hfit, hQ1, hQ2⟩ := h
  have big : (16777216 : Nat) ≤ sizeLine := by decide
  obtain ⟨f, hf⟩ := dist_of (Nr rs n) (inS goals)
  refine ⟨_, (pss_cons (ps_set (i := 3) scfirst_chain.nd rfl (by first | exact Or.inl rfl | exact Or.inr rfl) (pe_c (E := EN) O_distances hr (by decide) (fun σ => passN σ) (pa_cons (pv 0) (pa_cons (pv 2) pa_nil))))
  (pss_cons (ps_if (pt_cmp (pc_dnotin (hu_of hr) (pv 1) (pv 3)))
  (pss_one (ps_ret pe_non))
  pss_nil)
  (pss_cons (ps_set (i := 4) scfirst_chain.nd rfl (by first | exact Or.inl rfl | exact Or.inr rfl) (pe_lst pa_nil))
  (pss_cons (ps_set (i := 5) scfirst_chain.nd rfl (by first | exact Or.inl rfl | exact Or.inr rfl) (pv 1))
  (pss_cons (ps_for PassesOwn.never rfl (pi_revR (by rfl) T.f_reversed (prg_1 (by rfl) T.f_range (pe_dget (hu_of hr) (pv 3) (pv 1) (fun _ _ => rfl)))) (pg_name (i := 6) scfirst_chain.nd rfl (by first | exact Or.inl rfl | exact Or.inr rfl))
  (pss_cons (ps_asg (pe_c (E := EN) O_next_step hr (by decide) (fun σ => passN σ) (pa_cons (pv 0) (pa_cons (pv 5) (pa_cons (pv 3) (pa_cons (pv 6) pa_nil))))) (pg_tup rfl (pgs_cons (pg_name (i := 5) scfirst_chain.nd rfl (by first | exact Or.inl rfl | exact Or.inr rfl)) (pgs_cons (pg_name (i := 7) scfirst_chain.nd rfl (by first | exact Or.inl rfl | exact Or.inr rfl)) pgs_nil))))
    (pss_one (ps_expr (pe_bm PySem.F.plainAttrs_list PySem.F.slot_list_append PySem.F.type_list_append mt_append (pv 4) (pa_cons (pe_tup (pa_cons (pv 7) (pa_cons (pv 5) pa_nil))) pa_nil))))))
  (pss_one (ps_ret (pe_callTy (tupK K) (by rfl) T.f_tuple (by decide +kernel) (pa_cons (pv 4) pa_nil))))))))), ?_⟩
  refine ⟨_, rfl, _, rfl, a, g, b, rs, n, goals, f, rfl, hs, hg, hfit, hf, fun D ks H1 s1 nD hD nk hkeys => ?_⟩
  have hF : Far H1 D rs n (inS goals) ks f := ⟨hD, hkeys, hf⟩
  refine ⟨_, rfl, _, rfl, D, _, rfl, DGet.k (k := ikey start) hD, _, rfl, ?_⟩
  rw [valV_dkv]
  by_cases hin : start ∈ ks
  · rw [if_pos hin]
    obtain ⟨d, hd⟩ := (hkeys start).mp hin
    have fd : f start = d := hf d start hd
    have dlt := hfit.dlt hd
    refine iteF ?_
    refine ⟨Nat.zero_le _, fun l nl => ?_⟩
    have s2 : Same H1 (upd H1 l (.lst [])) := same_new nl
    have nl0 : H l = none := s1.free nl
    have lD : l ≠ D := fun z => by rw [z, hD] at nl; cases nl
    refine ⟨_, rfl, ?_⟩
    refine ⟨_, rfl, _, rfl, D, _, rfl, by have q := DGet.k (k := ikey start) (s2 _ _ hD); rw [valV_in hin] at q; exact q, ?_⟩
    have big2 : (200000 : Int) < 2 ^ 62 := by decide
    refine ⟨_, rfl, by omega, by omega, by omega, by omega, ?_⟩
    have en : (((f start : Nat) : Int) - 0).toNat = d := by omega
    rw [en]
    refine for_it walk_rangeC (fun i σ H2 => ∃ (m6 m7 : Option V) (cts : List Addr) (c : List (Nat × Nat)) (v : Nat), σ = [some (.ref a), some (.int (start : Nat)), some (.ref g), some (.ref D), some (.ref l), some (.int (v : Nat)), m6, m7] ∧ H2 l = some (.lst (cts.map V.ref)) ∧
      Paired (fun t (p : Nat × Nat) => H2 t = some (.tup [.int (p.1 : Nat), .int (p.2 : Nat)])) cts c ∧ c.length = i ∧ Chn rs n (inS goals) start d c v (d - i) ∧ Same H1 H2) ?_ (fun _ _ _ _ _ => trivial) ?_ ?_
    · exact ⟨none, none, [], [], start, rfl, upd_same .., .nil, rfl, .nil _ _, s2⟩
    · rintro i x σ H2 H3 hi ⟨m6, m7, cts, c, v, rfl, k1, k2, k3, k4, k5⟩ ⟨rfl, hx⟩
      have hx : x = .int ((d - (i + 1) : Nat) : Nat) := hx.trans (congrArg V.int (by omega))
      subst hx
      have ed : d - i = d - (i + 1) + 1 := by omega
      rw [ed] at k4
      have dv := k4.stop hd
      have s3 : Same H H3 := fun b o q => k5 _ _ (s1 _ _ q)
      refine ⟨_, rfl, _, rfl, _, rfl, _, rfl, a, D, b, rs, n, v, d - (i + 1), inS goals, ks, f, rfl, hs.same s3, hfit.len, Nat.le_trans hfit.rows (by decide), hF.same k5, dv, fun t x j H4 s4 ht hst => ?_⟩
      refine ⟨t, _, rfl, .inl (.inl ht), rfl, _, _, rfl, _, _, rfl, rfl, ?_⟩
      have h1 := s4 _ _ k1
      refine ⟨_, rfl, .inl ⟨rfl, _, .inl (.inl h1)⟩, _, rfl, _, rfl, by show 2 ≤ sizeLine; decide, fun t2 nt2 => ?_⟩
      have s5 : Same H4 (upd H4 t2 (.tup [.int (j : Nat), .int (x : Nat)])) := same_new nt2
      have lt2 : l ≠ t2 := fun z => by rw [← z, h1] at nt2; cases nt2
      refine ⟨l, _, _, rfl, rfl, s5 _ _ h1, by rw [List.length_map, Paired.length k2, k3]; omega, ?_⟩
      refine ⟨_, _, cts ++ [t2], c ++ [(j, x)], x, rfl, ?_, ?_, by rw [List.length_append, k3, List.length_singleton], k4.snoc hst, fun q w e => ?_⟩
      · rw [upd_same, List.map_append, List.map_singleton]
      · refine psnoc (pimp (fun t' q _ z => ?_) k2) ?_
        · have z2 := s4 _ _ z
          rw [upd_ne (fun e => by rw [e, h1] at z2; cases z2)]
          exact s5 _ _ z2
        · rw [upd_ne lt2.symm, upd_same] <;> rfl
      · rw [upd_ne (fun z => by rw [z, nl] at e; cases e)]
        exact s5 _ _ (s4 _ _ (k5 _ _ e))
    · rintro σ H2 ⟨m6, m7, cts, c, v, rfl, k1, k2, k3, k4, k5⟩
      rw [Nat.sub_self] at k4
      refine ⟨_, rfl, l, _, rfl, .inl ⟨.inl (.inl k1), fun t nt => ?_⟩⟩
      exact hQ2 t _ c d v (fun b o q => same_new nt _ _ (k5 _ _ (s1 _ _ q))) ⟨cts, upd_same .., pimp (fun t' q _ z => same_new nt _ _ z) k2⟩ hd k4
  · rw [if_neg hin]
    exact iteT (hQ1 H1 s1 fun k z => hin ((hkeys start).mpr ⟨k, z⟩))
end
end K02
set_option Elab.async false
set_option linter.all false
set_option maxRecDepth 100000
set_option maxHeartbeats 4000000
/-! Ms: more rules that name the written part by itself; a comprehension of two fors. -/
namespace Ms
open PySem PySem.Spec PyProof.Rows L2
section
variable {X : Cx} {tg e o : Expr} {te ta : TE} {f : Str} {pos : Pos} (K : PySem.W.Frag)
theorem pe_fldK (ha : PE X o ta) (hK : X.K = K := by rfl) (hab : attributeBase o f X.env (eval o X.env) = eval o X.env := by rfl) : PE X (.Attribute o f pos) (tFld K ta f) := by
  subst hK
  exact pe_fld ha hab
theorem pi_tupK (he : PE X e te) (hK : X.K = K := by rfl) : PI X tg e (iTup K te) := by
  subst hK
  exact pi_tup he
theorem pi_listK (he : PE X e te) (hK : X.K = K := by rfl) : PI X tg e (iList K te) := by
  subst hK
  exact pi_list he
end
section
variable {J J1 : It} {n n1 : Nat} {G G1 : Hp → Prop} {Y Y1 : Nat → Hp → V → Hp → Prop}
/-- the inner walk of a comprehension of two fors -/
def In2 (J1 : It) (g1 : TG) (tt1 : TT) (te : TE) (vs1 : List Nat) (D : Addr) (σ2 : L2.St) (Nx : Hp → Prop) (H4 : Hp) : Prop :=
  ∃ W1 : Nat → Nat → Hp → Prop, (∃ m, W1 0 m H4) ∧ ∀ j k H, W1 j k H →
    (J1.stop j H ∧ Nx H) ∨ (J1.go j H ∧ ∃ Nx1 : Hp → Prop, (∀ H', Nx1 H' → ∃ k', k' < k ∧ W1 (j + 1) k' H') ∧ ∀ x H', J1.yld j H x H' → g1 x (wipe σ2 vs1) H' fun σ3 H5 => wipe σ3 vs1 = wipe σ2 vs1 ∧ tt1 σ3 H5 fun b H6 =>
      if b = true then te σ3 H6 fun y H7 => ∃ acc, H7 D = some (.lst acc) ∧ acc.length < sizeLine ∧ Nx1 (upd H7 D (.lst (acc ++ [y]))) else Nx1 H6)
theorem in2_it (w : Walk J1 n1 G1 Y1) {g1 : TG} {tt1 : TT} {te : TE} {vs1 : List Nat} {D : Addr} {σ2 : L2.St} {Nx : Hp → Prop} {H4 : Hp} (Pv : Nat → Hp → Prop) (h0 : Pv 0 H4) (hG : ∀ i H, i ≤ n1 → Pv i H → G1 H)
    (hs : ∀ i x H H', i < n1 → Pv i H → Y1 i H x H' → g1 x (wipe σ2 vs1) H' fun σ3 H5 => wipe σ3 vs1 = wipe σ2 vs1 ∧ tt1 σ3 H5 fun b H6 =>
      if b = true then te σ3 H6 fun y H7 => ∃ acc, H7 D = some (.lst acc) ∧ acc.length < sizeLine ∧ Pv (i + 1) (upd H7 D (.lst (acc ++ [y]))) else Pv (i + 1) H6) (hd : ∀ H, Pv n1 H → Nx H) : In2 J1 g1 tt1 te vs1 D σ2 Nx H4 := by
  refine ⟨fun i m H => m = n1 - i ∧ i ≤ n1 ∧ Pv i H, ⟨n1, by simp, Nat.zero_le _, h0⟩, ?_⟩
  rintro i m H ⟨rfl, hi, p⟩
  have q := hG i H hi p
  by_cases hlt : i < n1
  · exact .inr ⟨w.goes i H hlt q, Pv (i + 1), fun H' p' => ⟨n1 - (i + 1), by omega, rfl, hlt, p'⟩, fun x H' y => hs i x H H' hlt p (w.yields i H x H' hlt q y)⟩
  · have e : i = n1 := by omega
    subst e
    exact .inl ⟨w.stops H q, hd H p⟩
theorem lc2_it (w : Walk J n G Y) {g : TG} {tt : TT} {wi1 : TI} {g1 : TG} {tt1 : TT} {te : TE} {vs vs1 : List Nat} {σ : L2.St} {H1 : Hp} {D : Addr} {Qd : Hp → Prop} (Pv : Nat → Hp → Prop) (h0 : Pv 0 (upd H1 D (.lst []))) (hG : ∀ i H, i ≤ n → Pv i H → G H)
    (hs : ∀ i x H H', i < n → Pv i H → Y i H x H' → g x (wipe σ vs) H' fun σ2 H2 => wipe σ2 vs = wipe σ vs ∧ tt σ2 H2 fun b H3 =>
      if b = true then wi1 σ2 H3 fun J1 H4 => In2 J1 g1 tt1 te vs1 D σ2 (Pv (i + 1)) H4 else Pv (i + 1) H3) (hd : ∀ H, Pv n H → Qd H) :
    ∃ W : Nat → Nat → Hp → Prop, (∃ m, W 0 m (upd H1 D (.lst []))) ∧ ∀ i m H, W i m H →
      (J.stop i H ∧ Qd H) ∨ (J.go i H ∧ ∃ Nx : Hp → Prop, (∀ H', Nx H' → ∃ m', m' < m ∧ W (i + 1) m' H') ∧ ∀ x H', J.yld i H x H' → g x (wipe σ vs) H' fun σ2 H2 => wipe σ2 vs = wipe σ vs ∧ tt σ2 H2 fun b H3 =>
        if b = true then wi1 σ2 H3 fun J1 H4 => In2 J1 g1 tt1 te vs1 D σ2 Nx H4 else Nx H3) := by
  refine ⟨fun i m H => m = n - i ∧ i ≤ n ∧ Pv i H, ⟨n, by simp, Nat.zero_le _, h0⟩, ?_⟩
  rintro i m H ⟨rfl, hi, p⟩
  have q := hG i H hi p
  by_cases hlt : i < n
  · exact .inr ⟨w.goes i H hlt q, Pv (i + 1), fun H' p' => ⟨n - (i + 1), by omega, rfl, hlt, p'⟩, fun x H' y => hs i x H H' hlt p (w.yields i H x H' hlt q y)⟩
  · have e : i = n := by omega
    subst e
    exact .inl ⟨w.stops H q, hd H p⟩
end
end Ms
set_option Elab.async false
set_option linter.all false
set_option maxRecDepth 100000
set_option maxHeartbeats 4000000
namespace K02
open PySem PySem.Spec PyProof.Rows L2 Ms
/-- the first sight of another size -/
def Uneq (K : PySem.W.Frag) (H : Hp) (E : XK) (rs : List (List Nat)) : Prop := ∃ (i : Nat) (r : List Nat), rs[i]? = some r ∧ r.length ≠ (rs.getD 0 []).length ∧ (∀ (j : Nat) (t : List Nat), j < i → rs[j]? = some t → t.length = (rs.getD 0 []).length) ∧ Differ K H E (rs.getD 0 []).length r.length
theorem Fit.eq {rs : List (List Nat)} {n : Nat} {g : List Nat} (h : Fit rs n g) : ∀ r ∈ rs, r.length = (rs.getD 0 []).length := fun r hr => by
  cases rs with
  | nil => cases hr
  | cons r0 l =>
    rw [h.len r hr]
    exact (h.len r0 List.mem_cons_self).symm
theorem Uneq.one {K : PySem.W.Frag} {H : Hp} {E : XK} {rs : List (List Nat)} (h : Uneq K H E rs) : ¬ ∀ r ∈ rs, r.length = (rs.getD 0 []).length := fun z => by
  obtain ⟨i, r, h1, h2, _⟩ := h
  exact h2 (z r (List.mem_of_getElem? h1))
theorem Uneq.at_ {K : PySem.W.Frag} {H : Hp} {E : XK} {rs : List (List Nat)} (h : Uneq K H E rs) {j : Nat} {t : List Nat} (e1 : rs[j]? = some t) (e2 : t.length ≠ (rs.getD 0 []).length)
    (e3 : ∀ (i : Nat) (r : List Nat), i < j → rs[i]? = some r → r.length = (rs.getD 0 []).length) : Differ K H E (rs.getD 0 []).length t.length := by
  obtain ⟨i, r, h1, h2, h3, h4⟩ := h
  have e : j = i := by
    rcases Nat.lt_trichotomy j i with q | q | q
    · exact absurd (h3 j t q e1) e2
    · exact q
    · exact absurd (e3 i r q h1) h2
  subst e
  rw [h1] at e1
  cases e1
  exact h4
def spLinks (K : PySem.W.Frag) : Sp := fun vs H Q E => ∃ (a : Addr) (b : Bool) (rs : List (List Nat)) (start goal : Nat), vs = [.ref a, .int (start : Nat), .int (goal : Nat)] ∧ Sights K b H a rs ∧ ((∃ n, Fit rs n [goal] ∧ Answers H Q rs n [goal] start) ∨ Uneq K H E rs)
def spReached (K : PySem.W.Frag) : Sp := fun vs H Q E => ∃ (a : Addr) (b : Bool) (rs : List (List Nat)) (start : Nat), vs = [.ref a, .int (start : Nat)] ∧ Sights K b H a rs ∧
  ((∃ n, Fit rs n [start] ∧ ∀ (t : Addr) (l : List Nat) H', Same H H' → H' t = some (.tup (nV l)) → l.Pairwise (· ≤ ·) → l.Nodup → (∀ v, v ∈ l ↔ ∃ k, Dst (Nr rs n) (inS [start]) k v) → Q (.ref t) H') ∨ Uneq K H E rs)
/-- no deal of them joined to another -/
def Cl (rs : List (List Nat)) (n : Nat) (ds : List Nat) : Prop := ∀ u v, u ∈ ds → Nr rs n u v → v ∈ ds
def spClosed (K : PySem.W.Frag) : Sp := fun vs H Q E => ∃ (a g : Addr) (b b' : Bool) (rs : List (List Nat)) (ds : List Nat), vs = [.ref a, .ref g] ∧ Sights K b H a rs ∧ SqB K b' H g (nV ds) ∧
  ((∃ n, Fit rs n ds ∧ ∀ H' b, Same H H' → (b = true ↔ Cl rs n ds) → Q (.bl b) H') ∨ Uneq K H E rs)
theorem nats_of : ∀ {l : List Nat} {ys : List Int}, ys.Perm (l.map fun n => ((n : Nat) : Int)) → ∃ m : List Nat, ys = m.map (fun n => ((n : Nat) : Int)) ∧ m.Perm l := fun {l ys} h => by
  refine ⟨ys.map Int.toNat, ?_, ?_⟩
  · rw [List.map_map]
    have e : ys.map ((fun n => ((n : Nat) : Int)) ∘ Int.toNat) = ys.map id := List.map_congr_left fun y hy => by
      obtain ⟨n, _, rfl⟩ := List.mem_map.mp (h.mem_iff.mp hy)
      show ((((n : Nat) : Int).toNat : Nat) : Int) = (n : Int)
      omega
    rw [e, List.map_id]
  · have q := h.map Int.toNat
    rw [List.map_map] at q
    have e : l.map (Int.toNat ∘ fun n => ((n : Nat) : Int)) = l.map id := List.map_congr_left fun n _ => by
      show (((n : Nat) : Int)).toNat = n
      omega
    rw [e, List.map_id] at q
    exact q
section
variable {P : Program} {w : World} {K : PySem.W.Frag} {mg : Str → Option Value} {base : Heap}
theorem ok_links (T : Tx K mg) : Ok P w K mg base "links" 6 (spLinks K) := by
  have O_check_equal_sizes : Ok P w K mg base "check_equal_sizes" 3 (spCkEq K) := ok_check_equal_sizes T
  have O_first_chain : Ok P w K mg base "first_chain" 5 (spFirst K) := ok_first_chain T
  refine ok_ofX T.a_links sclinks (fun vs H Q E h => ?_) bi_links fun cdv A outer s H vs Q E hr h => ?_
  · obtain ⟨a, b, rs, start, goal, rfl, _⟩ := h
    rfl
  obtain ⟨a, b, rs, start, goal, rfl, hs, h⟩ := h
  refine ⟨_, (pss_cons (ps_expr (pe_c O_check_equal_sizes hr (by decide) (passAt (takes_of rfl rfl rfl rfl)) (pa_cons (pv 0) pa_nil)))
  (pss_one (ps_ret (pe_c (E := EN) O_first_chain hr (by decide) (fun σ => passN σ) (pa_cons (pv 0) (pa_cons (pv 1) (pa_cons (pe_tup (pa_cons (pv 2) pa_nil)) pa_nil))))))), ?_⟩
  rcases h with ⟨n, hfit, hA⟩ | h
  · refine ⟨_, rfl, a, b, rs, rfl, hs, fun _ => ?_, fun j t e1 e2 _ => absurd (hfit.eq t (List.mem_of_getElem? e1)) e2⟩
    refine ⟨_, rfl, _, rfl, _, rfl, by show 1 ≤ sizeLine; decide, fun t nt => ?_⟩
    have s1 : Same H (upd H t (.tup [.int (goal : Nat)])) := same_new nt
    exact ⟨a, t, b, rs, n, start, [goal], rfl, hs.same s1, .inl (.inl (upd_same ..)), hfit, fun H' s2 => hA.1 H' fun b o q => s2 _ _ (s1 _ _ q), fun t' H' c d v s2 => hA.2 t' H' c d v fun b o q => s2 _ _ (s1 _ _ q)⟩
  · exact ⟨_, rfl, a, b, rs, rfl, hs, fun z => absurd z h.one, fun j t e1 e2 e3 => h.at_ e1 e2 e3⟩
theorem ok_reached (T : Tx K mg) : Ok P w K mg base "reached" 5 (spReached K) := by
  have O_check_equal_sizes : Ok P w K mg base "check_equal_sizes" 3 (spCkEq K) := ok_check_equal_sizes T
  have O_distances : Ok P w K mg base "distances" 4 (spDist K) := ok_distances T
  refine ok_ofX T.a_reached screached (fun vs H Q E h => ?_) bi_reached fun cdv A outer s H vs Q E hr h => ?_
  · obtain ⟨a, b, rs, start, rfl, _⟩ := h
    rfl
  obtain ⟨a, b, rs, start, rfl, hs, h⟩ := h
  refine ⟨_, (pss_cons (ps_expr (pe_c O_check_equal_sizes hr (by decide) (passAt (takes_of rfl rfl rfl rfl)) (pa_cons (pv 0) pa_nil)))
  (pss_one (ps_ret (pe_callTy (tupK K) (by rfl) T.f_tuple (by decide +kernel) (pa_cons (pe_callB (cr_sortedDI rfl) (by rfl) T.f_sorted (by decide +kernel) (pa_cons (pe_c (E := EN) O_distances hr (by decide) (fun σ => passN σ) (pa_cons (pv 0) (pa_cons (pe_tup (pa_cons (pv 1) pa_nil)) pa_nil))) pa_nil)) pa_nil))))), ?_⟩
  rcases h with ⟨n, hfit, hA⟩ | h
  · refine ⟨_, rfl, a, b, rs, rfl, hs, fun _ => ?_, fun j t e1 e2 _ => absurd (hfit.eq t (List.mem_of_getElem? e1)) e2⟩
    refine ⟨_, rfl, _, rfl, by show 1 ≤ sizeLine; decide, fun t nt => ?_⟩
    have s1 : Same H (upd H t (.tup [.int (start : Nat)])) := same_new nt
    obtain ⟨f, hf⟩ := dist_of (Nr rs n) (inS [start])
    refine ⟨a, t, b, rs, n, [start], f, rfl, hs.same s1, .inl (.inl (upd_same ..)), hfit, hf, fun D ks H1 s2 nD hD nk hkeys => ?_⟩
    refine ⟨D, _, ks.map fun n => ((n : Nat) : Int), rfl, .inl hD, by unfold dkv; rw [List.map_map, List.map_map] <;> rfl, fun ys p hp hsort np => ?_⟩
    obtain ⟨m, rfl, hm⟩ := nats_of hp
    have s3 : Same H1 (upd H1 p (.lst ((m.map fun n => ((n : Nat) : Int)).map V.int))) := same_new np
    refine ⟨p, _, rfl, .inl ⟨.inl (.inl (upd_same ..)), fun q nq => ?_⟩⟩
    refine hA q m _ (fun b o z => same_new nq _ _ (s3 _ _ (s2 _ _ (s1 _ _ z)))) (by rw [upd_same, nV_int]) ?_ (hm.nodup_iff.mpr nk) fun v => hm.mem_iff.trans (hkeys v)
    refine (List.pairwise_map.mp hsort).imp fun {x y} h => by omega
  · exact ⟨_, rfl, a, b, rs, rfl, hs, fun z => absurd z h.one, fun j t e1 e2 e3 => h.at_ e1 e2 e3⟩
theorem ok_is_closed (T : Tx K mg) : Ok P w K mg base "is_closed" 4 (spClosed K) := by
  have O_check_equal_sizes : Ok P w K mg base "check_equal_sizes" 3 (spCkEq K) := ok_check_equal_sizes T
  refine ok_ofX T.a_is_closed scis_closed (fun vs H Q E h => ?_) bi_is_closed fun cdv A outer s H vs Q E hr h => ?_
  · obtain ⟨a, g, b, b', rs, ds, rfl, _⟩ := h
    rfl
  obtain ⟨a, g, b, b', rs, ds, rfl, hs, hg, h⟩ := h
  have big : (16777216 : Nat) ≤ sizeLine := by decide
  refine ⟨_, (pss_cons (ps_expr (pe_c O_check_equal_sizes hr (by decide) (passAt (takes_of rfl rfl rfl rfl)) (pa_cons (pv 0) pa_nil)))
  (pss_cons (ps_setDc (i := 2) (own := [("deal", 3)]) (g := gName 3) rfl scis_closed.nd rfl rfl (swd_true rfl rfl rfl (by decide +kernel)) (pi_seq K (pv 1)) (blkOk_by (N := ["sights", "deals", "listed", "deal", "sight", "touched", "mark"]) (sc := defScope sis_closed) (by decide +kernel)) (fun _ _ _ _ _ => (pg_name (i := 3) scis_closed.nd rfl (by first | exact Or.inl rfl | exact Or.inr rfl))) (fun _ _ _ _ _ => pts_nil) (fun _ _ _ _ _ => (pv 3)) (fun _ _ _ _ _ => pe_bl))
  (pss_cons (ps_for (passes_of rfl) rfl (pi_seq K (pv 0)) (pg_name (i := 4) scis_closed.nd rfl (by first | exact Or.inl rfl | exact Or.inr rfl))
  (pss_cons (ps_lock (ps_setDc (i := 5) (own := [("deal", 3)]) (g := gName 3) rfl scis_closed.nd rfl rfl (swd_true rfl rfl rfl (by decide +kernel)) (pi_keys (pv 2)) (blkOk_by (N := ["sights", "deals", "listed", "deal", "sight", "touched", "mark"]) (sc := defScope sis_closed) (by decide +kernel)) (fun _ _ _ _ _ => (pg_name (i := 3) scis_closed.nd rfl (by first | exact Or.inl rfl | exact Or.inr rfl))) (fun _ _ _ _ _ => pts_nil) (fun _ _ _ _ _ => (pe_ix (ixT K) (pe_fldK K (pv 4)) (pv 3) (fun _ _ => rfl))) (fun _ _ _ _ _ => pe_bl)))
    (pss_one (ps_for (passes_of rfl) rfl (pi_enumT (by rfl) T.f_enumerate (pa_cons (pe_fld (pv 4) rfl) pa_nil)) (pg_tup rfl (pgs_cons (pg_name (i := 3) scis_closed.nd rfl (by first | exact Or.inl rfl | exact Or.inr rfl)) (pgs_cons (pg_name (i := 6) scis_closed.nd rfl (by first | exact Or.inl rfl | exact Or.inr rfl)) pgs_nil)))
    (pss_one (ps_if (PW.pt (pw_and (pt_cmp (pc_din (hu_of hr) (pv 6) (pv 5))) (pw_and1 (pt_cmp (pc_dnotin (hu_of hr) (pv 3) (pv 2))))))
      (pss_one (ps_ret pe_bl))
      pss_nil))))))
  (pss_one (ps_ret pe_bl))))), ?_⟩
  rcases h with ⟨n, hfit, hA⟩ | h
  · refine ⟨_, rfl, a, b, rs, rfl, hs, fun _ => ?_, fun j t e1 e2 _ => absurd (hfit.eq t (List.mem_of_getElem? e1)) e2⟩
    have hfew := hfit.few
    have hA : ∀ H', Same H H' → (Cl rs n ds → Q (.bl true) H') ∧ (¬ Cl rs n ds → Q (.bl false) H') := fun H' s => ⟨fun c => hA H' true s ⟨fun _ => c, fun _ => rfl⟩, fun c => hA H' false s ⟨fun z => (by cases z), fun z => absurd z c⟩⟩
    refine ⟨_, rfl, g, b', _, rfl, hg, fun J W D nD => dc_it W (fun i H1 => H1 D = some (.dK (dkv (adds [] (ds.take i)) fun _ => .bl true)) ∧ Same H H1) ⟨by rw [upd_same] <;> rfl, same_new nD⟩ (fun i H1 _ h => SqB.same h.2 hg) ?_ ?_⟩
    · rintro i x H1 H2 hi ⟨h1, h2⟩ ⟨rfl, hx⟩
      rw [nV_len] at hi
      have hx : x = .int (at0 ds i : Nat) := by
        have q := nV_at0 hi
        rw [hx] at q
        exact Option.some.inj q
      subst hx
      have le : (adds [] (ds.take i)).length ≤ ds.length := nodup_le (nodup_adds List.nodup_nil _) fun x hx => by
        rcases (mem_adds [] _ x).mp hx with z | z
        · cases z
        · exact List.mem_of_mem_take z
      refine ⟨rfl, _, rfl, _, ikey (at0 ds i), rfl, h1, by rw [dkv_len]; omega, ?_, fun b o q => ?_⟩
      · rw [upd_same]
        have q := dkv_adds [] (ds.take i) (fun _ => V.bl true) (at0 ds i)
        rw [show putK (dkv (adds [] (ds.take i)) fun _ => V.bl true) (ikey (at0 ds i)) (V.bl true) = _ from q, List.take_add_one, of_at0 hi] <;> rfl
      · rw [upd_ne (fun z => by rw [z, nD] at q; cases q)]
        exact h2 b o q
    rintro H1 ⟨h1, s1⟩
    rw [nV_len, List.take_length] at h1
    generalize hks : adds [] ds = ks at h1
    have nk : ks.Nodup := by rw [← hks]; exact nodup_adds List.nodup_nil _
    have mk : ∀ v, v ∈ ks ↔ v ∈ ds := fun v => by
      rw [← hks, mem_adds]
      exact ⟨fun z => z.resolve_left (fun q => nomatch q), fun z => .inr z⟩
    have kz : ks.length ≤ 200000 := by
      have := nodup_le nk fun v hv => (mk v).mp hv
      omega
    obtain ⟨ts, hs1, hp⟩ := hs
    have hrl := Paired.length hp
    refine ⟨_, rfl, a, b, _, rfl, SqB.same s1 hs1, fun J W => for_it W (fun i σ H2 => ∃ (m3 m4 m5 m6 : Option V), σ = [some (.ref a), some (.ref g), some (.ref D), m3, m4, m5, m6] ∧ Same H1 H2 ∧ ∀ (j : Nat) (r : List Nat) (u v : Nat), j < i → rs[j]? = some r → u ∈ ds → v < n → at0 r u = at0 r v → v ∈ ds) ?_ (fun i σ H2 _ h => by obtain ⟨_, _, _, _, _, h, _⟩ := h; exact SqB.same h (SqB.same s1 hs1)) ?_ ?_⟩
    · exact ⟨none, none, none, none, rfl, fun b o q => q, fun j r u v hj => absurd hj (Nat.not_lt_zero _)⟩
    · rintro i x σ H2 H3 hi ⟨m3, m4, m5, m6, rfl, s2, hc⟩ ⟨rfl, hx⟩
      rw [List.length_map] at hi
      obtain ⟨p, r, e1, e2, e3⟩ := pget2 hp hi
      rw [List.getElem?_map, e1] at hx
      cases hx
      have s3 : Same H H3 := fun b o q => s2 _ _ (s1 _ _ q)
      have S3 := e3.same s3
      have rl : r.length = n := hfit.len r (List.mem_of_getElem? e2)
      have rne : rs ≠ [] := fun z => by rw [z] at e2; cases e2
      have hD3 := s2 _ _ h1
      refine ⟨D, _, hD3, trivial, fun od => ?_⟩
      have nf : ∀ {b : Addr} {o : HO}, b ≠ D → H3 b = some o → upd H3 D (.frz od (.dK (dkv ks fun _ => .bl true))) b = some o := fun {b o} n q => by rw [upd_ne n]; exact q
      obtain ⟨dx, t, cc, x1, x2, x3⟩ := S3.ex
      have pD : p ≠ D := fun z => by rw [z, hD3] at x1; cases x1
      have tD : t ≠ D := fun z => by rw [z, hD3] at x2; cases x2
      refine ⟨_, rfl, D, od, rfl, .inl ⟨_, upd_same .., fun D2 nD2 => ?_⟩⟩
      have dD2 : D2 ≠ D := fun z => by rw [z, upd_same] at nD2; cases nD2
      have nD3 : H3 D2 = none := by rw [upd_ne dD2] at nD2; exact nD2
      refine dc_it walk_keys (fun j H4 => H4 D2 = some (.dK (dkv (adds [] ((ks.map (at0 r)).take j)) fun _ => .bl true)) ∧ Same (upd H3 D (.frz od (.dK (dkv ks fun _ => .bl true)))) H4) ⟨by rw [upd_same] <;> rfl, same_new nD2⟩ (fun j H4 _ h => h.2 _ _ (upd_same ..)) ?_ ?_
      · rintro j x H4 H5 hj ⟨g1, g2⟩ ⟨rfl, k, v, hk, rfl⟩
        rw [dkv_len] at hj
        have ek : k = ikey (at0 ks j) := by
          unfold dkv at hk
          rw [List.getElem?_map, of_at0 hj] at hk
          cases hk
          rfl
        subst ek
        have kd : at0 ks j ∈ ds := (mk _).mp (List.mem_of_getElem? (of_at0 hj))
        have klt : at0 ks j < r.length := by rw [rl]; exact hfit.lt rne _ kd
        refine ⟨rfl, _, rfl, p, _, dx, _, _, rfl, g2 _ _ (nf pD x1), T.c_Sight, T.n_marks, rfl, _, rfl, t, _, _, _, rfl, rfl, .inl (.inl (g2 _ _ (nf tD x2))), atI_nat (nV_at0 klt), _, ikey (at0 r (at0 ks j)), rfl, g1, ?_, ?_, fun b o q => ?_⟩
        · rw [dkv_len]
          have le : (adds [] ((ks.map (at0 r)).take j)).length ≤ (ks.map (at0 r)).length := nodup_le (nodup_adds List.nodup_nil _) fun x hx => by
            rcases (mem_adds [] _ x).mp hx with z | z
            · cases z
            · exact List.mem_of_mem_take z
          rw [List.length_map] at le
          omega
        · rw [upd_same]
          have q := dkv_adds [] ((ks.map (at0 r)).take j) (fun _ => V.bl true) (at0 r (at0 ks j))
          rw [show putK (dkv (adds [] ((ks.map (at0 r)).take j)) fun _ => V.bl true) (ikey (at0 r (at0 ks j))) (V.bl true) = _ from q, List.take_add_one, List.getElem?_map, of_at0 hj] <;> rfl
        · rw [upd_ne (fun z => by rw [z, nD2] at q; cases q)]
          exact g2 b o q
      rintro H4 ⟨g1, g2⟩
      refine ⟨g2 _ _ (upd_same ..), ?_⟩
      rw [dkv_len, ← List.length_map (f := at0 r), List.take_length] at g1
      generalize htk : adds [] (ks.map (at0 r)) = tks at g1
      have mt : ∀ m, m ∈ tks ↔ ∃ u ∈ ds, at0 r u = m := fun m => by
        rw [← htk, mem_adds]
        constructor
        · rintro (z | z)
          · cases z
          · obtain ⟨u, hu, e⟩ := List.mem_map.mp z
            exact ⟨u, (mk u).mp hu, e⟩
        · rintro ⟨u, hu, e⟩
          exact .inr (List.mem_map.mpr ⟨u, (mk u).mpr hu, e⟩)
      have s5 : Same H3 (upd H4 D (.dK (dkv ks fun _ => .bl true))) := fun b o q => by
        by_cases z : b = D
        · subst z
          rw [hD3] at q
          cases q
          exact upd_same ..
        · rw [upd_ne z]
          exact g2 _ _ (nf z q)
      have g5 : upd H4 D (.dK (dkv ks fun _ => .bl true)) D2 = some (.dK (dkv tks fun _ => .bl true)) := by rw [upd_ne dD2]; exact g1
      generalize hH5 : upd H4 D (.dK (dkv ks fun _ => .bl true)) = H5 at s5 g5
      refine ⟨_, rfl, p, _, dx, _, _, rfl, s5 _ _ x1, T.c_Sight, T.n_marks, rfl, t, nV r, rfl, .inl (.inl (s5 _ _ x2)), for_it (walk_enumT (xs := nV r)) (fun j σ H6 => ∃ (m3 m6 : Option V), σ = [some (.ref a), some (.ref g), some (.ref D), m3, some (.ref p), some (.ref D2), m6] ∧ Same H5 H6 ∧ ∀ (u v : Nat), u ∈ ds → v < j → at0 r u = at0 r v → v ∈ ds) ?_ (fun j σ H6 _ h => by obtain ⟨_, _, _, h, _⟩ := h; exact .inl (.inl (h _ _ (s5 _ _ x2)))) ?_ ?_⟩
      · exact ⟨m3, m6, rfl, fun b o q => q, fun u v _ hv => absurd hv (Nat.not_lt_zero _)⟩
      · rintro j v σ H6 H7 hj ⟨m3, m6, rfl, s6, hin⟩ y
        obtain ⟨Tt, y0, y1, rfl, nT, rfl, hy0, hy1⟩ := y
        cases hy0
        rw [nV_len] at hj
        have hy1 : y1 = .int (at0 r j : Nat) := by
          have q := nV_at0 hj
          rw [show (nV r)[j]? = some y1 from hy1] at q
          exact Option.some.inj q
        subst hy1
        refine ⟨Tt, _, rfl, .inl (.inl (upd_same ..)), rfl, _, _, rfl, _, _, rfl, rfl, ?_⟩
        have s7 : Same H5 (upd H6 Tt (.tup [.int (j : Nat), .int (at0 r j : Nat)])) := fun b o q => same_new nT _ _ (s6 _ _ q)
        generalize hH7 : upd H6 Tt (.tup [.int (j : Nat), .int (at0 r j : Nat)]) = H7 at s7
        have hD7 : H7 D = some (.dK (dkv ks fun _ => .bl true)) := s7 _ _ (s5 _ _ hD3)
        refine ⟨_, rfl, _, rfl, D2, _, rfl, DGet.k (k := ikey (at0 r j)) (s7 _ _ g5), _, rfl, ?_⟩
        rw [valV_dkv]
        by_cases hm : at0 r j ∈ tks
        · rw [if_pos hm]
          refine iteT ?_
          refine ⟨_, rfl, _, rfl, D, _, rfl, DGet.k (k := ikey j) hD7, _, rfl, ?_⟩
          rw [valV_dkv]
          by_cases hj2 : j ∈ ks
          · rw [if_pos hj2]
            refine iteF ⟨_, _, rfl, s7, fun u v hu hv e => ?_⟩
            by_cases z : v = j
            · rw [z]; exact (mk j).mp hj2
            · exact hin u v hu (by omega) e
          · rw [if_neg hj2]
            refine iteT ((hA H7 fun b o q => s7 _ _ (s5 _ _ (s3 _ _ q))).2 fun cl => ?_)
            obtain ⟨u, hu, e⟩ := (mt _).mp hm
            have er := rAt_of e2
            exact hj2 ((mk j).mpr (cl u j hu ⟨hfit.lt rne u hu, by rw [← rl]; exact hj, i, by rw [← hrl]; exact hi, by rw [er]; exact e⟩))
        · rw [if_neg hm]
          refine iteF ⟨_, _, rfl, s7, fun u v hu hv e => ?_⟩
          by_cases z : v = j
          · rw [z] at e
            exact absurd ((mt _).mpr ⟨u, hu, e⟩) hm
          · exact hin u v hu (by omega) e
      · rintro σ H6 ⟨m3, m6, rfl, s6, hin⟩
        refine ⟨_, _, _, _, rfl, fun b o q => s6 _ _ (s5 _ _ (s2 _ _ q)), fun j r' u v hj hr' hu hv e => ?_⟩
        by_cases z : j = i
        · rw [z, e2] at hr'
          cases hr'
          exact hin u v hu (by rw [nV_len, rl]; exact hv) e
        · exact hc j r' u v (by omega) hr' hu hv e
    · rintro σ H2 ⟨m3, m4, m5, m6, rfl, s2, hc⟩
      refine (hA H2 fun b o q => s2 _ _ (s1 _ _ q)).1 fun u v hu hn => ?_
      obtain ⟨h3, h4, i, h5, h6⟩ := hn
      exact hc i _ u v (by rw [List.length_map, hrl]; exact h5) (by rw [getE h5, rAt_of (getE h5)]) hu h4 h6
  · exact ⟨_, rfl, a, b, rs, rfl, hs, fun z => absurd z h.one, fun j t e1 e2 e3 => h.at_ e1 e2 e3⟩
end
end K02
set_option Elab.async false
set_option linter.all false
set_option maxRecDepth 100000
/-! Ms, plain: a search by a queue finds the first of the shortest ways. -/
namespace Ms
structure BI (adj : Nat → Nat → Prop) (n s t m : Nat) (qs : List Nat) (wf : Nat → Option (List Nat)) : Prop where
  nd : qs.Nodup
  q0 : qs[0]? = some s
  w0 : wf s = some []
  mem : ∀ v, v ∈ qs ↔ ∃ p, wf v = some p
  lt : ∀ v ∈ qs, v < n
  pth : ∀ v p, wf v = some p → Pth adj s p v
  par : ∀ (v : Nat) (p : List Nat), wf v = some p → p = [] ∨ ∃ (i u : Nat) (q : List Nat), (i < t ∨ (i = t ∧ v < m)) ∧ qs[i]? = some u ∧ wf u = some q ∧ p = q ++ [v]
  srt : ∀ (i j u v : Nat) (p q : List Nat), i < j → qs[i]? = some u → qs[j]? = some v → wf u = some p → wf v = some q → Sl p q
  dn : ∀ (i u : Nat) (q : List Nat) (v : Nat), qs[i]? = some u → wf u = some q → adj u v → (i < t ∨ (i = t ∧ v < m)) → ∃ p, wf v = some p ∧ Se p (q ++ [v])
theorem at_uniq {l : List Nat} (h : l.Nodup) {i j x : Nat} (h1 : l[i]? = some x) (h2 : l[j]? = some x) : i = j := (List.getElem?_inj (ltE h1) h).mp (h1.trans h2.symm)
theorem Sl.nil_snoc (q : List Nat) (v : Nat) : Sl [] (q ++ [v]) := .inl (by simp)
section
variable {adj : Nat → Nat → Prop} {n s t m : Nat} {qs : List Nat} {wf : Nat → Option (List Nat)}
theorem BI.start (hs : s < n) : BI adj n s 0 0 [s] (fun v => if v = s then some [] else none) := by
  refine ⟨List.nodup_cons.mpr ⟨List.not_mem_nil, List.nodup_nil⟩, rfl, if_pos rfl, fun v => ?_, fun v hv => ?_, fun v p h => ?_, fun v p h => ?_, fun i j u v p q hij h1 h2 => ?_, fun i u q v _ _ _ h => ?_⟩
  · rw [List.mem_singleton]
    constructor
    · rintro rfl; exact ⟨[], if_pos rfl⟩
    · rintro ⟨p, hp⟩
      by_cases e : v = s
      · exact e
      · rw [if_neg e] at hp; cases hp
  · rw [List.mem_singleton.mp hv]; exact hs
  · by_cases e : v = s
    · rw [if_pos e] at h; cases h; rw [e]; exact .nil _
    · rw [if_neg e] at h; cases h
  · by_cases e : v = s
    · rw [if_pos e] at h; cases h; exact .inl rfl
    · rw [if_neg e] at h; cases h
  · have a := ltE h1
    have b := ltE h2
    simp at a b
    omega
  · rcases h with h | ⟨_, h⟩
    · exact absurd h (Nat.not_lt_zero _)
    · exact absurd h (Nat.not_lt_zero _)
/-- a deal that is met now -/
theorem BI.meet (h : BI adj n s t m qs wf) {u : Nat} {q : List Nat} (hu : qs[t]? = some u) (hq : wf u = some q) (hm : m < n) (hn : wf m = none) (ha : adj u m) :
    BI adj n s t (m + 1) (qs ++ [m]) (fun v => if v = m then some (q ++ [m]) else wf v) := by
  have nin : ¬ m ∈ qs := fun z => by obtain ⟨p, e⟩ := (h.mem m).mp z; rw [hn] at e; cases e
  have tl := ltE hu
  have old : ∀ {i x : Nat}, qs[i]? = some x → (qs ++ [m])[i]? = some x := fun {i x} e => by rw [List.getElem?_append_left (ltE e)]; exact e
  have wold : ∀ {v : Nat} {p : List Nat}, wf v = some p → (if v = m then some (q ++ [m]) else wf v) = some p := fun {v p} e => by rw [if_neg (fun z => by rw [z, hn] at e; cases e)]; exact e
  have split : ∀ {v : Nat} {p : List Nat}, (if v = m then some (q ++ [m]) else wf v) = some p → (v = m ∧ p = q ++ [m]) ∨ (v ≠ m ∧ wf v = some p) := fun {v p} e => by
    by_cases z : v = m
    · rw [if_pos z] at e; exact .inl ⟨z, (Option.some.inj e).symm⟩
    · rw [if_neg z] at e; exact .inr ⟨z, e⟩
  have back : ∀ {i x : Nat}, (qs ++ [m])[i]? = some x → (qs[i]? = some x) ∨ (i = qs.length ∧ x = m) := fun {i x} e => by
    rcases Nat.lt_trichotomy i qs.length with z | z | z
    · rw [List.getElem?_append_left z] at e; exact .inl e
    · rw [z, List.getElem?_append_right (Nat.le_refl _), Nat.sub_self] at e
      exact .inr ⟨z, (Option.some.inj e).symm⟩
    · rw [List.getElem?_eq_none (by rw [List.length_append, List.length_singleton]; omega)] at e; cases e
  have wu : u ≠ m := fun z => by rw [z, hn] at hq; cases hq
  refine ⟨List.nodup_append.mpr ⟨h.nd, List.nodup_cons.mpr ⟨List.not_mem_nil, List.nodup_nil⟩, fun x hx y hy e => nin (by rw [List.mem_singleton.mp hy] at e; exact e ▸ hx)⟩, old h.q0, wold h.w0, fun v => ?_, fun v hv => ?_, fun v p e => ?_, fun v p e => ?_, ?_, ?_⟩
  · rw [List.mem_append, List.mem_singleton, h.mem]
    constructor
    · rintro (⟨p, e⟩ | rfl)
      · exact ⟨p, wold e⟩
      · exact ⟨_, if_pos rfl⟩
    · rintro ⟨p, e⟩
      rcases split e with ⟨z, _⟩ | ⟨_, z⟩
      · exact .inr z
      · exact .inl ⟨p, z⟩
  · rcases List.mem_append.mp hv with z | z
    · exact h.lt v z
    · rw [List.mem_singleton.mp z]; exact hm
  · rcases split e with ⟨rfl, rfl⟩ | ⟨_, z⟩
    · exact (h.pth u q hq).snoc ha
    · exact h.pth v p z
  · rcases split e with ⟨rfl, rfl⟩ | ⟨_, z⟩
    · exact .inr ⟨t, u, q, .inr ⟨rfl, Nat.lt_succ_self _⟩, old hu, wold hq, rfl⟩
    · rcases h.par v p z with k | ⟨i, u', q', k1, k2, k3, k4⟩
      · exact .inl k
      · refine .inr ⟨i, u', q', ?_, old k2, wold k3, k4⟩
        rcases k1 with k1 | ⟨k1, k1'⟩
        · exact .inl k1
        · exact .inr ⟨k1, Nat.lt_succ_of_lt k1'⟩
  · intro i j a b p p' hij h1 h2 e1 e2
    rcases back h2 with z2 | ⟨zj, rfl⟩
    · rcases back h1 with z1 | ⟨zi, rfl⟩
      · have n1 : a ≠ m := fun z => nin (z ▸ List.mem_of_getElem? z1)
        have n2 : b ≠ m := fun z => nin (z ▸ List.mem_of_getElem? z2)
        rw [if_neg n1] at e1
        rw [if_neg n2] at e2
        exact h.srt i j a b p p' hij z1 z2 e1 e2
      · have := ltE z2
        omega
    · rw [if_pos rfl] at e2
      cases e2
      rcases back h1 with z1 | ⟨zi, rfl⟩
      · have n1 : a ≠ b := fun z => nin (z ▸ List.mem_of_getElem? z1)
        rw [if_neg n1] at e1
        rcases h.par a p e1 with rfl | ⟨i', u', q', k1, k2, k3, rfl⟩
        · exact Sl.nil_snoc _ _
        · rcases k1 with k1 | ⟨rfl, k1⟩
          · exact (h.srt i' t u' u q' q k1 k2 hu k3 hq).snoc _ _
          · rw [hu] at k2
            cases k2
            rw [hq] at k3
            cases k3
            exact Sl.last _ k1
      · omega
  · intro i a q' v h1 e1 g hi
    rcases back h1 with z1 | ⟨zi, rfl⟩
    · have n1 : a ≠ m := fun z => nin (z ▸ List.mem_of_getElem? z1)
      rw [if_neg n1] at e1
      rcases hi with hi | ⟨rfl, hi⟩
      · obtain ⟨p, p1, p2⟩ := h.dn i a q' v z1 e1 g (.inl hi)
        exact ⟨p, wold p1, p2⟩
      · rw [hu] at z1
        cases z1
        rw [hq] at e1
        cases e1
        by_cases e : v = m
        · subst e
          exact ⟨_, if_pos rfl, .inl rfl⟩
        · obtain ⟨p, p1, p2⟩ := h.dn _ u q v hu hq g (.inr ⟨rfl, by omega⟩)
          exact ⟨p, wold p1, p2⟩
    · rcases hi with hi | ⟨hi, _⟩
      · omega
      · omega
/-- a deal that is met already, or not joined -/
theorem BI.pass (h : BI adj n s t m qs wf) {u : Nat} {q : List Nat} (hu : qs[t]? = some u) (hq : wf u = some q) (hn : adj u m → ∃ p, wf m = some p) : BI adj n s t (m + 1) qs wf := by
  refine ⟨h.nd, h.q0, h.w0, h.mem, h.lt, h.pth, fun v p e => ?_, h.srt, fun i a q' v h1 e1 g hi => ?_⟩
  · rcases h.par v p e with k | ⟨i, u', q', k1, k2⟩
    · exact .inl k
    · refine .inr ⟨i, u', q', ?_, k2⟩
      rcases k1 with k1 | ⟨k1, k1'⟩
      · exact .inl k1
      · exact .inr ⟨k1, Nat.lt_succ_of_lt k1'⟩
  · rcases hi with hi | ⟨rfl, hi⟩
    · exact h.dn i a q' v h1 e1 g (.inl hi)
    · by_cases e : v = m
      · subst e
        rw [hu] at h1
        cases h1
        rw [hq] at e1
        cases e1
        obtain ⟨p, hp⟩ := hn g
        refine ⟨p, hp, .inr ?_⟩
        rcases h.par v p hp with rfl | ⟨i', u', q', k1, k2, k3, rfl⟩
        · exact Sl.nil_snoc _ _
        · rcases k1 with k1 | ⟨_, k1⟩
          · exact (h.srt i' _ u' u q' q k1 k2 hu k3 hq).snoc _ _
          · exact absurd k1 (Nat.lt_irrefl _)
      · exact h.dn _ a q' v h1 e1 g (.inr ⟨rfl, by omega⟩)
theorem BI.turn (h : BI adj n s t n qs wf) (hl : ∀ u v, adj u v → v < n) : BI adj n s (t + 1) 0 qs wf := by
  refine ⟨h.nd, h.q0, h.w0, h.mem, h.lt, h.pth, fun v p e => ?_, h.srt, fun i a q' v h1 e1 g hi => ?_⟩
  · rcases h.par v p e with k | ⟨i, u', q', k1, k2⟩
    · exact .inl k
    · refine .inr ⟨i, u', q', .inl ?_, k2⟩
      rcases k1 with k1 | ⟨k1, _⟩
      · omega
      · omega
  · refine h.dn i a q' v h1 e1 g ?_
    rcases hi with hi | ⟨_, hi⟩
    · by_cases e : i = t
      · exact .inr ⟨e, hl _ _ g⟩
      · exact .inl (by omega)
    · exact absurd hi (Nat.not_lt_zero _)
theorem BI.skip (h : BI adj n s t 0 qs wf) (ht : qs.length ≤ t) : BI adj n s (t + 1) 0 qs wf := by
  refine ⟨h.nd, h.q0, h.w0, h.mem, h.lt, h.pth, fun v p e => ?_, h.srt, fun i a q' v h1 e1 g hi => ?_⟩
  · rcases h.par v p e with k | ⟨i, u', q', k1, k2⟩
    · exact .inl k
    · refine .inr ⟨i, u', q', .inl ?_, k2⟩
      rcases k1 with k1 | ⟨_, k1⟩
      · omega
      · exact absurd k1 (Nat.not_lt_zero _)
  · refine h.dn i a q' v h1 e1 g (.inl ?_)
    have := ltE h1
    omega
theorem BI.len (h : BI adj n s t m qs wf) : ∀ (j : Nat) (v : Nat) (p : List Nat), qs[j]? = some v → wf v = some p → p.length ≤ j := by
  intro j
  induction j using Nat.strongRecOn with
  | ind j ih =>
    intro v p hv hp
    rcases h.par v p hp with rfl | ⟨i, u, q, _, k2, k3, rfl⟩
    · exact Nat.zero_le _
    · have lij : i < j := by
        rcases Nat.lt_trichotomy i j with z | z | z
        · exact z
        · subst z
          rw [hv] at k2
          cases k2
          rw [hp] at k3
          have := congrArg List.length (Option.some.inj k3)
          simp at this
        · rcases h.srt j i v u _ q z hv k2 hp k3 with g | ⟨g, _⟩
          · rw [List.length_append, List.length_singleton] at g; omega
          · rw [List.length_append, List.length_singleton] at g; omega
      have := ih i lij u q k2 k3
      rw [List.length_append, List.length_singleton]
      omega
/-- the ways to all deals that are met -/
structure Ways (adj : Nat → Nat → Prop) (s : Nat) (wf : Nat → Option (List Nat)) : Prop where
  pth : ∀ v p, wf v = some p → Pth adj s p v
  all : ∀ p v, Pth adj s p v → ∃ q, wf v = some q ∧ Se q p
theorem BI.ways (h : BI adj n s n 0 qs wf) : Ways adj s wf := by
  refine ⟨h.pth, fun p v hp => ?_⟩
  have ql : qs.length ≤ n := by
    have q := nodup_le (m := List.range n) h.nd fun v hv => List.mem_range.mpr (h.lt v hv)
    rw [List.length_range] at q
    exact q
  refine Pth.ind (C := fun p v => ∃ q, wf v = some q ∧ Se q p) ⟨[], h.w0, .inl rfl⟩ (fun p w v _ ih g => ?_) hp
  obtain ⟨q, q1, q2⟩ := ih
  obtain ⟨i, hi⟩ := List.getElem?_of_mem ((h.mem w).mpr ⟨q, q1⟩)
  have := ltE hi
  obtain ⟨p', k1, k2⟩ := h.dn i w q v hi q1 g (.inl (by omega))
  exact ⟨p', k1, k2.trans (q2.snoc v)⟩
end
theorem Ways.none {adj : Nat → Nat → Prop} {s : Nat} {wf : Nat → Option (List Nat)} (h : Ways adj s wf) {v : Nat} (e : wf v = none) (p : List Nat) : ¬ Pth adj s p v := fun z => by
  obtain ⟨q, k, _⟩ := h.all p v z
  rw [e] at k
  cases k
/-- the set of one goal -/
abbrev inSet (g : Nat) : Nat → Prop := fun v => v ∈ [g]
/-- the way that is found is the one that goes to the least nearer deal -/
theorem Ways.gdy {adj : Nat → Nat → Prop} (sym : ∀ a b, adj a b → adj b a) {s : Nat} {wf : Nat → Option (List Nat)} (h : Ways adj s wf) {g d v : Nat} {c : List Nat} (hd : Dst adj (inSet g) d s) (k : Gdy adj (inSet g) s d c v 0) (e : v = g) : wf g = some c := by
  subst e
  obtain ⟨q, q1, q2⟩ := h.all c v k.pth
  have z := k.least sym hd (h.pth v q q1) (show inSet v v from List.mem_singleton.mpr rfl)
  rw [q1, q2.anti z]
end Ms
set_option Elab.async false
set_option linter.all false
set_option maxRecDepth 100000
set_option maxHeartbeats 4000000
namespace K02
open PySem PySem.Spec PyProof.Rows L2 Ms
def spWhole : Sp := fun vs H Q _ => ∃ i, vs = [.int i] ∧ Q (.bl true) H
def spCellL (K : PySem.W.Frag) : Sp := fun vs H Q _ => ∃ (a : Addr) (ns : List Int) (k : Nat), vs = [.ref a, .int (k : Nat)] ∧ SqL K H a (ns.map V.int) ∧ ∀ z : Int, Q (.int z) H
def spDigits (K : PySem.W.Frag) : Sp := fun vs H Q _ => ∃ (c : Int) (s : Addr) (ss : List Nat), vs = [.int c, .ref s] ∧ SqL K H s (nV ss) ∧ (∀ x ∈ ss, 0 < x ∧ x < 1073741824) ∧ ss.length ≤ 16777216 ∧
  ∀ H' p ds, Same H H' → H p = none → H' p = some (.lst (nV ds)) → ds.length = ss.length → (∀ i, i < ss.length → at0 ds i < at0 ss i) → Q (.ref p) H'
def spGroups (K : PySem.W.Frag) : Sp := fun vs H Q _ => ∃ (a : Addr) (r : List Nat), vs = [.ref a] ∧ SqL K H a (nV r) ∧ Row r ∧ 0 < r.length ∧ r.length ≤ 16777216 ∧
  ∀ H' p ls, Same H H' → H p = none → H' p = some (.lst (ls.map V.ref)) → Paired (fun l c => H' l = some (.lst (nV c))) ls (cellsOf r) → Q (.ref p) H'
def spNumbers (K : PySem.W.Frag) : Sp := fun vs H Q _ => ∃ (t l : Addr) (xs : List Nat), vs = [.ref t, .ref l] ∧ H t = some (.tup (nV xs)) ∧ SqL K H l (nV xs) ∧ xs.length ≤ 16777216 ∧ Q (.bl true) H
def spAgrees (K : PySem.W.Frag) : Sp := fun vs H Q _ => ∃ (p l : Addr) (r : List Nat), vs = [.ref p, .ref l] ∧ SightAt K H p r ∧ SqL K H l (nV r) ∧ ∀ H', Same H H' → Q (.bl true) H'
def spAnswers (K : PySem.W.Frag) : Sp := fun vs H Q _ => ∃ (p l k : Addr) (r ls : List Nat), vs = [.ref p, .ref l, .ref k] ∧ SightAt K H p r ∧ SqL K H l (nV r) ∧ SqL K H k (nV ls) ∧ (∀ x ∈ ls, x < r.length) ∧ ∀ H', Same H H' → Q (.bl true) H'
def spLooked : Sp := fun vs H Q _ => ∃ (n : Nat) (z : Int), vs = [.int (n : Nat), .int z] ∧ 0 < n ∧ n ≤ 16777216 ∧ ∀ H' p ls, Same H H' → H p = none → H' p = some (.lst (nV ls)) → (∀ x ∈ ls, x < n) → Q (.ref p) H'
theorem nz {j : Int} (h : decide (j ≠ 0) = true) : j ≠ 0 := of_decide_eq_true h
theorem modPos {a m : Int} (h : 0 < m) : 0 ≤ a.fmod m ∧ a.fmod m < m := ⟨Int.fmod_nonneg_of_pos _ h, Int.fmod_lt_of_pos _ h⟩
section
variable {P : Program} {w : World} {K : PySem.W.Frag} {mg : Str → Option Value} {base : Heap}
theorem ok__law_whole (T : Tx K mg) : Ok P w K mg base "_law_whole" 1 spWhole := by
  refine ok_of T.a__law_whole sc_law_whole (fun vs H Q E h => ?_) bi__law_whole fun cdv A outer s H vs Q E hr h => ?_
  · obtain ⟨i, rfl, _⟩ := h
    rfl
  obtain ⟨i, rfl, hQ⟩ := h
  refine ⟨_, (pss_one (ps_ret (pe_and (pe_callB (isK K) (by rfl) T.f_isinstance (by decide +kernel) (pa_cons (pv 0) (pa_cons (pe_bltn (v := .ty "int") (by rfl) T.f_int (by decide +kernel) rfl) pa_nil))) (pe_one (pe_not (pe_callB (isK K) (by rfl) T.f_isinstance (by decide +kernel) (pa_cons (pv 0) (pa_cons (pe_bltn (v := .ty "bool") (by rfl) T.f_bool (by decide +kernel) rfl) pa_nil)))))))), ?_⟩
  refine ⟨_, rfl, .int i, .ty "int", _, _, true, rfl, .ty _, .of (.base (.int i)), T.is_int_int, true, rfl, ?_⟩
  refine iteT ?_
  refine ⟨_, rfl, .int i, .ty "bool", _, _, false, rfl, .ty _, .of (.base (.int i)), T.is_int_bool, false, rfl, hQ⟩
theorem wok__law_whole (T : Tx K mg) : WOk P w K mg base "_law_whole" 1 spWhole := by
  obtain ⟨fd, F⟩ := T.d__law_whole
  refine ⟨⟨fd, ["value"], Ms.FunD.warm F sc_law_whole (fun vs H Q E h => ?_) (fun cdv A outer s H vs Q E hr h => ?_), F.bindsN bi__law_whole⟩, T.gd__law_whole, F.kp⟩
  · obtain ⟨i, rfl, _⟩ := h
    rfl
  obtain ⟨i, rfl, hQ⟩ := h
  refine ⟨_, (pss_one (ps_ret (pe_and (pe_callB (isK K) (by rfl) T.f_isinstance (by decide +kernel) (pa_cons (pv 0) (pa_cons (pe_bltn (v := .ty "int") (by rfl) T.f_int (by decide +kernel) rfl) pa_nil))) (pe_one (pe_not (pe_callB (isK K) (by rfl) T.f_isinstance (by decide +kernel) (pa_cons (pv 0) (pa_cons (pe_bltn (v := .ty "bool") (by rfl) T.f_bool (by decide +kernel) rfl) pa_nil)))))))), ?_⟩
  refine ⟨_, rfl, .int i, .ty "int", _, _, true, rfl, .ty _, .of (.base (.int i)), T.is_int_int, true, rfl, ?_⟩
  refine iteT ?_
  refine ⟨_, rfl, .int i, .ty "bool", _, _, false, rfl, .ty _, .of (.base (.int i)), T.is_int_bool, false, rfl, hQ⟩
theorem ok__law_cell (T : Tx K mg) : Ok P w K mg base "_law_cell" 1 (spCellL K) := by
  refine ok_of T.a__law_cell sc_law_cell (fun vs H Q E h => ?_) bi__law_cell fun cdv A outer s H vs Q E hr h => ?_
  · obtain ⟨a, ns, k, rfl, _⟩ := h
    rfl
  obtain ⟨a, ns, k, rfl, ha, hQ⟩ := h
  refine ⟨_, (pss_cons (ps_if (pt_cmpR op_lt (pv 1) (pe_callB (lenK K) (by rfl) T.f_len boot_len (pa_cons (pv 0) pa_nil)) (nomark _))
  (pss_one (ps_ret (pe_ix (ixL K) (pv 0) (pv 1) (fun _ _ => rfl))))
  pss_nil)
  (pss_cons (ps_set (i := 2) sc_law_cell.nd rfl (by first | exact Or.inl rfl | exact Or.inr rfl) pe_int)
  (pss_cons (ps_for PassesOwn.never rfl (pi_list (pv 0)) (pg_name (i := 3) sc_law_cell.nd rfl (by first | exact Or.inl rfl | exact Or.inr rfl))
  (pss_one (ps_set (i := 2) sc_law_cell.nd rfl (by first | exact Or.inl rfl | exact Or.inr rfl) (pe_op op_modN (pe_callTy call_int1 (by rfl) T.f_int (by decide +kernel) (pa_cons (pe_op op_add (pe_op op_mul (pv 2) pe_int) (pe_op op_modN (pe_callTy call_int1 (by rfl) T.f_int (by decide +kernel) (pa_cons (pv 3) pa_nil)) pe_int)) pa_nil)) pe_int))))
  (pss_one (ps_ret (pe_op op_modN (pe_callTy call_int1 (by rfl) T.f_int (by decide +kernel) (pa_cons (pe_op op_mul (pe_op op_mul (pe_op op_add (pv 2) pe_int) (pe_op op_add (pv 1) pe_int)) pe_int) pa_nil)) pe_int)))))), ?_⟩
  refine ⟨_, rfl, _, rfl, a, _, rfl, .inl ha, _, _, rfl, rfl, _, rfl, ?_⟩
  by_cases hk : k < ns.length
  · have e : decide (((k : Nat) : Int) < ((ns.map V.int).length : Nat)) = true := decide_eq_true (by rw [List.length_map]; omega)
    rw [e]
    refine iteT ⟨_, rfl, _, rfl, a, _, _, _, rfl, rfl, ha, atI_nat (by rw [List.getElem?_map, getE hk] <;> rfl), hQ _⟩
  · have e : decide (((k : Nat) : Int) < ((ns.map V.int).length : Nat)) = false := decide_eq_false (by rw [List.length_map]; omega)
    rw [e]
    refine iteF ?_
    refine ⟨_, rfl, a, rfl, ⟨_, ha⟩, for_list (xs := ns.map V.int) (fun i σ H1 => ∃ (sd : Int) (m : Option V), σ = [some (.ref a), some (.int (k : Nat)), some (.int sd), m] ∧ 0 ≤ sd ∧ sd < 1000003 ∧ H1 = H) ?_ ?_ ?_ ?_⟩
    · exact ⟨17, none, rfl, by decide, by decide, rfl⟩
    · rintro i σ H1 _ ⟨_, _, _, _, _, rfl⟩
      exact ha
    · rintro i x σ H1 hx ⟨sd, m, rfl, h1, h2, rfl⟩
      rw [List.getElem?_map] at hx
      cases en : ns[i]? with
      | none => rw [en] at hx; cases hx
      | some n =>
        rw [en] at hx
        cases hx
        refine ⟨_, rfl, _, _, rfl, rfl, .inl ⟨by omega, by omega⟩, _, rfl, .inl ⟨_, rfl, _, _, rfl, rfl, nz rfl, _, _, rfl, rfl, .inl ⟨_, rfl, _, _, rfl, rfl, nz rfl, ?_⟩⟩⟩
        obtain ⟨g1, g2⟩ := modPos (a := sd * 31 + n.fmod 1000003) (m := 1000003) (by decide)
        exact ⟨_, _, rfl, g1, g2, rfl⟩
    · rintro σ H1 ⟨sd, m, rfl, h1, h2, rfl⟩
      refine ⟨_, rfl, _, _, rfl, rfl, _, rfl, _, _, rfl, rfl, _, _, rfl, rfl, .inl ⟨by omega, by omega⟩, _, _, rfl, rfl, .inr ⟨by decide, by decide⟩, .inl ⟨_, rfl, _, _, rfl, rfl, nz rfl, hQ _⟩⟩
end
end K02
set_option Elab.async false
set_option linter.all false
set_option maxRecDepth 100000
set_option maxHeartbeats 4000000
namespace K02
open PySem PySem.Spec PyProof.Rows L2 Ms
theorem digit {a : Int} {n : Nat} (h : 0 < n) : ∃ d : Nat, ((d : Nat) : Int) = a.fmod (n : Nat) ∧ d < n := by
  obtain ⟨g1, g2⟩ := modPos (a := a) (m := (n : Nat)) (by omega)
  exact ⟨(a.fmod (n : Nat)).toNat, by omega, by omega⟩
theorem at0_snoc {l : List Nat} {d j : Nat} : at0 (l ++ [d]) j = if j = l.length then d else at0 l j := by
  unfold at0
  rw [List.getD_eq_getElem?_getD, List.getD_eq_getElem?_getD]
  by_cases e : j = l.length
  · rw [if_pos e, e]; simp
  · rw [if_neg e]
    rcases Nat.lt_or_ge j l.length with h | h
    · rw [List.getElem?_append_left h]
    · have h1 : (l ++ [d])[j]? = none := List.getElem?_eq_none (by rw [List.length_append, List.length_singleton]; omega)
      have h2 : l[j]? = none := List.getElem?_eq_none h
      rw [h1, h2]
section
variable {P : Program} {w : World} {K : PySem.W.Frag} {mg : Str → Option Value} {base : Heap}
theorem ok__law_digits (T : Tx K mg) : Ok P w K mg base "_law_digits" 1 (spDigits K) := by
  refine ok_of T.a__law_digits sc_law_digits (fun vs H Q E h => ?_) bi__law_digits fun cdv A outer s H vs Q E hr h => ?_
  · obtain ⟨c, s, ss, rfl, _⟩ := h
    rfl
  obtain ⟨c, s, ss, rfl, hs, hp, hz, hQ⟩ := h
  have hs1 : ∀ H1 : Hp, Same H H1 → SqL K H1 s (nV ss) := fun H1 q => Same.seq q hs
  refine ⟨_, (pss_cons (ps_set (i := 2) sc_law_digits.nd rfl (by first | exact Or.inl rfl | exact Or.inr rfl) (pe_lst pa_nil))
  (pss_cons (ps_set (i := 3) sc_law_digits.nd rfl (by first | exact Or.inl rfl | exact Or.inr rfl) (pe_callB (call_max2 rfl) (by rfl) T.f_max (by decide +kernel) (pa_cons pe_int (pa_cons (pe_op op_sub (pe_callTy call_int1 (by rfl) T.f_int (by decide +kernel) (pa_cons (pv 0) pa_nil)) (pe_op op_pow pe_int pe_int)) pa_nil))))
  (pss_cons (ps_set (i := 4) sc_law_digits.nd rfl (by first | exact Or.inl rfl | exact Or.inr rfl) (pe_op op_modN (pe_callTy call_int1 (by rfl) T.f_int (by decide +kernel) (pa_cons (pv 0) pa_nil)) pe_int))
  (pss_cons (ps_for PassesOwn.never rfl (pi_range1 rfl T.f_range (pa_cons (pe_callB (lenK K) (by rfl) T.f_len boot_len (pa_cons (pv 1) pa_nil)) pa_nil)) (pg_name (i := 5) sc_law_digits.nd rfl (by first | exact Or.inl rfl | exact Or.inr rfl))
  (pss_cons (ps_set (i := 4) sc_law_digits.nd rfl (by first | exact Or.inl rfl | exact Or.inr rfl) (pe_op op_modN (pe_callTy call_int1 (by rfl) T.f_int (by decide +kernel) (pa_cons (pe_op op_add (pe_op op_add (pe_op op_mul (pv 4) pe_int) (pe_op op_mul pe_int (pv 5))) pe_int) pa_nil)) pe_int))
    (pss_one (ps_if (pt_cmpR op_gt (pv 3) pe_int (nomark _))
    (pss_cons (ps_expr (pe_bm PySem.F.plainAttrs_list PySem.F.slot_list_append PySem.F.type_list_append mt_append (pv 2) (pa_cons (pe_op op_modN (pe_callTy call_int1 (by rfl) T.f_int (by decide +kernel) (pa_cons (pv 3) pa_nil)) (pe_ix (ixL K) (pv 1) (pv 5) (fun _ _ => rfl))) pa_nil)))
      (pss_one (ps_set (i := 3) sc_law_digits.nd rfl (by first | exact Or.inl rfl | exact Or.inr rfl) (pe_op op_fdivN (pe_callTy call_int1 (by rfl) T.f_int (by decide +kernel) (pa_cons (pv 3) pa_nil)) (pe_ix (ixL K) (pv 1) (pv 5) (fun _ _ => rfl))))))
    (pss_cons (ps_set (i := 6) sc_law_digits.nd rfl (by first | exact Or.inl rfl | exact Or.inr rfl) (pe_op op_modN (pe_callTy call_int1 (by rfl) T.f_int (by decide +kernel) (pa_cons (pe_op op_mul (pv 4) (pe_op op_add (pe_op op_fdivN (pv 4) pe_int) pe_int)) pa_nil)) pe_int))
      (pss_one (ps_expr (pe_bm PySem.F.plainAttrs_list PySem.F.slot_list_append PySem.F.type_list_append mt_append (pv 2) (pa_cons (pe_op op_modN (pe_op op_fdivN (pv 6) pe_int) (pe_ix (ixL K) (pv 1) (pv 5) (fun _ _ => rfl))) pa_nil)))))))))
  (pss_one (ps_ret (pv 2))))))), ?_⟩
  refine ⟨Nat.zero_le _, fun l nl => ?_⟩
  have s0 := same_new (o := .lst []) nl
  refine ⟨_, rfl, .inl ⟨_, rfl, _, _, rfl, rfl, ⟨by decide, by decide, by decide⟩, _, _, rfl, rfl, _, _, rfl, ?_⟩⟩
  have r0 : (0 : Int) ≤ if c - 10 ^ (18 : Int).toNat > 0 then c - 10 ^ (18 : Int).toNat else 0 := by
    by_cases e : c - 10 ^ (18 : Int).toNat > 0
    · rw [if_pos e]; omega
    · rw [if_neg e]; decide
  generalize (if c - 10 ^ (18 : Int).toNat > 0 then c - 10 ^ (18 : Int).toNat else 0) = rest0 at r0
  refine ⟨_, rfl, .inl ⟨_, rfl, _, _, rfl, rfl, nz rfl, ?_⟩⟩
  obtain ⟨g1, g2⟩ := modPos (a := c) (m := 2147483629) (by decide)
  dsimp only
  generalize c.fmod 2147483629 = seed0 at g1 g2
  refine ⟨_, rfl, s, _, rfl, .inl (hs1 _ s0), _, rfl, by omega, by rw [nV_len]; omega, ?_⟩
  have en : (((nV ss).length : Nat) : Int).toNat = ss.length := by rw [nV_len]; omega
  rw [en]
  refine for_it walk_range (fun i σ H1 => ∃ (rest seed : Int) (m5 m6 : Option V) (ds : List Nat), σ = [some (.int c), some (.ref s), some (.ref l), some (.int rest), some (.int seed), m5, m6] ∧ 0 ≤ rest ∧ 0 ≤ seed ∧ seed < 2147483647 ∧ Same H H1 ∧ H1 l = some (.lst (nV ds)) ∧ ds.length = i ∧ ∀ j, j < i → at0 ds j < at0 ss j) ?_ (fun _ _ _ _ _ => trivial) ?_ ?_
  · exact ⟨rest0, seed0, none, none, [], rfl, r0, g1, by omega, s0, upd_same .., rfl, fun j hj => absurd hj (Nat.not_lt_zero _)⟩
  · rintro i x σ H1 H2 hi ⟨rest, seed, m5, m6, ds, rfl, h1, h2, h3, s1, hl, hlen, hlt⟩ ⟨rfl, hx⟩
    have hx : x = .int (i : Nat) := hx.trans (congrArg V.int (Int.zero_add _))
    subst hx
    have hss := hs1 _ s1
    have szp := hp _ (List.mem_of_getElem? (of_at0 hi))
    refine ⟨_, rfl, _, _, rfl, rfl, .inl ⟨by omega, by omega⟩, _, rfl, _, _, rfl, rfl, .inl ⟨by decide, by decide⟩, _, _, rfl, rfl, _, _, rfl, rfl, .inl ⟨_, rfl, _, _, rfl, rfl, nz rfl, ?_⟩⟩
    obtain ⟨k1, k2⟩ := modPos (a := seed * 48271 + 974711 * (i : Nat) + 12345) (m := 2147483647) (by decide)
    dsimp only
    generalize (seed * 48271 + 974711 * ((i : Nat) : Int) + 12345).fmod 2147483647 = seed1 at k1 k2
    refine ⟨_, rfl, _, _, rfl, rfl, _, rfl, ?_⟩
    have ap : ∀ d : Nat, d < at0 ss i → Same H (upd H2 l (.lst (nV (ds ++ [d])))) ∧ upd H2 l (.lst (nV (ds ++ [d]))) l = some (.lst (nV (ds ++ [d]))) ∧ (ds ++ [d]).length = i + 1 ∧ ∀ j, j < i + 1 → at0 (ds ++ [d]) j < at0 ss j := fun d hd => by
      refine ⟨fun b o q => ?_, upd_same .., by rw [List.length_append, hlen, List.length_singleton], fun j hj => ?_⟩
      · rw [upd_ne (fun z => by rw [z, nl] at q; cases q)]
        exact s1 _ _ q
      · rw [at0_snoc]
        by_cases e : j = ds.length
        · rw [if_pos e, e, hlen]; exact hd
        · rw [if_neg e]
          exact hlt j (by omega)
    by_cases hr0 : (0 : Int) < rest
    · rw [show decide (rest > 0) = true from decide_eq_true hr0]
      refine iteT ?_
      obtain ⟨d, hd, hdl⟩ := digit (a := rest) szp.1
      refine ⟨_, rfl, .inl ⟨rfl, _, .inl (.inl hl)⟩, _, rfl, .inl ⟨_, rfl, _, rfl, _, rfl, s, _, _, _, rfl, rfl, hss, atI_nat (nV_at0 hi), _, _, rfl, rfl, by show ((at0 ss i : Nat) : Int) ≠ 0; omega, l, _, _, rfl, rfl, hl, by rw [nV_len, hlen]; exact fewS (by omega), ?_⟩⟩
      dsimp only
      rw [← hd, nV_snoc]
      obtain ⟨a1, a2, a3, a4⟩ := ap d hdl
      refine ⟨_, rfl, .inl ⟨_, rfl, _, rfl, _, rfl, s, _, _, _, rfl, rfl, hs1 _ a1, atI_nat (nV_at0 hi), _, _, rfl, rfl, ⟨by omega, by omega⟩, ?_⟩⟩
      exact ⟨_, seed1, _, _, ds ++ [d], rfl, Int.fdiv_nonneg (by omega) (by omega), k1, k2, a1, a2, a3, a4⟩
    · rw [show decide (rest > 0) = false from decide_eq_false hr0]
      refine iteF ?_
      refine ⟨_, rfl, _, rfl, _, _, rfl, rfl, ⟨by decide, by decide⟩, _, _, rfl, rfl, _, _, rfl, rfl, .inl ⟨by omega, by omega⟩, .inl ⟨_, rfl, _, _, rfl, rfl, nz rfl, ?_⟩⟩
      dsimp only
      generalize (seed1 * (seed1.fdiv 65537 + 3)).fmod 2147483629 = tw
      obtain ⟨d, hd, hdl⟩ := digit (a := tw.fdiv 19) szp.1
      refine ⟨_, rfl, .inl ⟨rfl, _, .inl (.inl hl)⟩, _, rfl, _, _, rfl, rfl, ⟨by decide, by decide⟩, _, rfl, _, rfl, s, _, _, _, rfl, rfl, hss, atI_nat (nV_at0 hi), _, _, rfl, rfl, by show ((at0 ss i : Nat) : Int) ≠ 0; omega, l, _, _, rfl, rfl, hl, by rw [nV_len, hlen]; exact fewS (by omega), ?_⟩
      dsimp only
      rw [← hd, nV_snoc]
      obtain ⟨a1, a2, a3, a4⟩ := ap d hdl
      exact ⟨rest, seed1, _, _, ds ++ [d], rfl, h1, k1, k2, a1, a2, a3, a4⟩
  · rintro σ H1 ⟨rest, seed, m5, m6, ds, rfl, h1, h2, h3, s1, hl, hlen, hlt⟩
    exact ⟨_, rfl, hQ H1 l ds s1 nl hl hlen hlt⟩
end
end K02
set_option Elab.async false
set_option linter.all false
set_option maxRecDepth 100000
set_option maxHeartbeats 4000000
namespace K02
open PySem PySem.Spec PyProof.Rows L2 Ms
def spMarks (K : PySem.W.Frag) : Sp := fun vs H Q _ => ∃ (a : Addr) (xs : List V) (r : List Nat), vs = [.ref a] ∧ xs.length ≤ 16777216 ∧ SqL K H a xs ∧
  ((∃ ns : List Int, xs = ns.map V.int ∧ r = ren ns) ∨ ∃ (ts : List Addr) (ps : List (Int × Int)), xs = ts.map V.ref ∧ r = ren ps ∧ Paired (fun t p => H t = some (pairV p)) ts ps) ∧
  ∀ H' p, Same H H' → H p = none → H' p = some (.lst (nV r)) → Q (.ref p) H'
section
variable {P : Program} {w : World} {K : PySem.W.Frag} {mg : Str → Option Value} {base : Heap}
theorem mar_KL (T : Tx K mg) {cdv : Value} {A : Around} {outer : List Env} {s : Shared} {H : Hp} {Q : VK} {E : XK} {a : Addr} {xs : List V} {r : List Nat} {ks : List Key} (hr : Rm 0 "_law_marks" s_law_marks (He.ga K "_law_marks") cdv A s)
    (hq0 : SqL K H a xs) (hz : xs.length ≤ sizeLine) (hk0 : KeyAt H .dK xs ks) (hr2 : ren ks = r) (hQ : ∀ H' p, Same H H' → H p = none → H' p = some (.lst (nV r)) → Q (.ref p) H') :
    Goal P w K mg base "_law_marks" s_law_marks ["marks", "numbers", "row", "mark"] (He.ga K "_law_marks") cdv A outer s H [.ref a] Q E := by
  have hlen := hk0.len
  have hkey := hk0.at_
  have hq1 : ∀ (H1 : Hp), Same H H1 → SqL K H1 a xs := fun H1 s => Same.seq s hq0
  refine ⟨_, (pss_cons (ps_set (i := 1) sc_law_marks.nd rfl (by first | exact Or.inl rfl | exact Or.inr rfl) pe_dnewK)
    (pss_cons (ps_set (i := 2) sc_law_marks.nd rfl (by first | exact Or.inl rfl | exact Or.inr rfl) (pe_lst pa_nil))
    (pss_cons (ps_for PassesOwn.never rfl (pi_list (pv 0)) (pg_name (i := 3) sc_law_marks.nd rfl (by first | exact Or.inl rfl | exact Or.inr rfl))
    (pss_cons (ps_if (pt_cmp (pc_dnotin (hu_of hr) (pv 3) (pv 1)))
      (pss_one (ps_dput (hu_of hr) (pv 1) (pv 3) (pe_callB call_lenD (by rfl) T.f_len boot_len (pa_cons (pv 1) pa_nil)) rfl))
      pss_nil)
      (pss_one (ps_expr (pe_bm PySem.F.plainAttrs_list PySem.F.slot_list_append PySem.F.type_list_append mt_append (pv 2) (pa_cons (pe_dget (hu_of hr) (pv 1) (pv 3) (fun _ _ => rfl)) pa_nil))))))
    (pss_one (ps_ret (pv 2)))))), ?_⟩
  refine fun d hd => ?_
  refine ⟨Nat.zero_le _, fun l hl => ?_⟩
  have hdl : d ≠ l := fun z => by rw [← z, upd_same] at hl; cases hl
  have nl : H l = none := by rw [upd_ne (fun z => hdl z.symm)] at hl; exact hl
  refine ⟨_, rfl, a, rfl, ⟨_, hq1 _ (Same.new2 hd nl)⟩, for_list (xs := xs) (PR K H a d l xs .dK ks) ?_ ?_ ?_ ?_⟩
  · exact ⟨none, rfl, Same.new2 hd nl, by rw [upd_ne hdl, upd_same] <;> rfl, by rw [upd_same] <;> rfl⟩
  · exact fun i σ H1 _ h => by obtain ⟨_, _, h1, _⟩ := h; exact hq1 _ h1
  · intro i x σ H1 hx h
    obtain ⟨m, rfl, s1, e1, e2⟩ := h
    obtain ⟨k, hk, g1, g2⟩ := hkey i x hx
    refine ⟨_, rfl, _, rfl, d, _, rfl, g1 _ _ _ s1 e1, _, rfl, ?_⟩
    have tk : ks.take (i + 1) = ks.take i ++ [k] := by rw [List.take_add_one, hk] <;> rfl
    have li : i < xs.length := ltE hx
    have lt : (tbl (firsts (ks.take i))).length ≤ i := by
      rw [tbl_len]
      exact Nat.le_trans (firsts_le _) (List.length_take_le ..)
    rw [valV_tbl]
    by_cases hin : k ∈ firsts (ks.take i)
    · rw [if_pos hin]
      refine iteF ?_
      refine ⟨_, rfl, .inl ⟨rfl, _, .inl (.inl e2)⟩, _, rfl, _, rfl, d, _, rfl, by rw [← valV_some hin]; exact g1 _ _ _ s1 e1, l, _, _, rfl, rfl, e2, by rw [nV_ren_take hk]; omega, ?_⟩
      refine ⟨_, rfl, fun b o q => ?_, ?_, ?_⟩
      · rw [upd_ne (fun z => by rw [z, nl] at q; cases q)]
        exact s1 b o q
      · rw [upd_ne hdl, tk, firsts_old ((mem_firsts _ _).mp hin)]
        exact e1
      · rw [upd_same, tk, ren_snoc]
        simp [nV]
    · rw [if_neg hin]
      refine iteT ?_
      refine ⟨_, rfl, d, _, rfl, e1, _, rfl, _, rfl, d, _, rfl, g2 _ _ _ _ s1 e1 (by omega), ?_⟩
      have vn : valV (tbl (firsts (ks.take i))) k = none := by rw [valV_tbl, if_neg hin]
      rw [putK_new _ vn, tbl_len, ← tbl_snoc, ← firsts_new (fun z => hin ((mem_firsts _ _).mpr z)), ← tk]
      have e1' : upd H1 d (.dK (tbl (firsts (ks.take (i + 1))))) d = some (.dK (tbl (firsts (ks.take (i + 1))))) := upd_same ..
      have e2' : upd H1 d (.dK (tbl (firsts (ks.take (i + 1))))) l = some (.lst (nV (ren (ks.take i)))) := by rw [upd_ne (fun z => hdl z.symm)]; exact e2
      have s2 : Same H (upd H1 d (.dK (tbl (firsts (ks.take (i + 1)))))) := fun b o q => by
        rw [upd_ne (fun z => by rw [z, hd] at q; cases q)]
        exact s1 b o q
      have hin2 : k ∈ firsts (ks.take (i + 1)) := (mem_firsts _ _).mpr (by rw [tk]; exact List.mem_append_right _ (List.mem_singleton.mpr rfl))
      refine ⟨_, rfl, .inl ⟨rfl, _, .inl (.inl e2')⟩, _, rfl, _, rfl, d, _, rfl, by rw [← valV_some hin2]; exact g1 _ _ _ s2 e1', l, _, _, rfl, rfl, e2', by rw [nV_ren_take hk]; omega, ?_⟩
      refine ⟨_, rfl, fun b o q => ?_, ?_, ?_⟩
      · rw [upd_ne (fun z => by rw [z, nl] at q; cases q)]
        exact s2 b o q
      · rw [upd_ne hdl]
        exact e1'
      · rw [upd_same, tk, ren_snoc, ix_self]
        simp [nV]
  · intro σ H1 h
    obtain ⟨m, rfl, s1, e1, e2⟩ := h
    have full : ks.take xs.length = ks := by rw [← hlen]; exact List.take_length
    rw [full, hr2] at e2
    exact ⟨_, rfl, hQ H1 l s1 nl e2⟩

theorem mar_TL (T : Tx K mg) {cdv : Value} {A : Around} {outer : List Env} {s : Shared} {H : Hp} {Q : VK} {E : XK} {a : Addr} {xs : List V} {r : List Nat} {ks : List (List Key)} (hr : Rm 0 "_law_marks" s_law_marks (He.ga K "_law_marks") cdv A s)
    (hq0 : SqL K H a xs) (hz : xs.length ≤ sizeLine) (hk0 : KeyAt H .dT xs ks) (hr2 : ren ks = r) (hQ : ∀ H' p, Same H H' → H p = none → H' p = some (.lst (nV r)) → Q (.ref p) H') :
    Goal P w K mg base "_law_marks" s_law_marks ["marks", "numbers", "row", "mark"] (He.ga K "_law_marks") cdv A outer s H [.ref a] Q E := by
  have hlen := hk0.len
  have hkey := hk0.at_
  have hq1 : ∀ (H1 : Hp), Same H H1 → SqL K H1 a xs := fun H1 s => Same.seq s hq0
  refine ⟨_, (pss_cons (ps_set (i := 1) sc_law_marks.nd rfl (by first | exact Or.inl rfl | exact Or.inr rfl) pe_dnewT)
    (pss_cons (ps_set (i := 2) sc_law_marks.nd rfl (by first | exact Or.inl rfl | exact Or.inr rfl) (pe_lst pa_nil))
    (pss_cons (ps_for PassesOwn.never rfl (pi_list (pv 0)) (pg_name (i := 3) sc_law_marks.nd rfl (by first | exact Or.inl rfl | exact Or.inr rfl))
    (pss_cons (ps_if (pt_cmp (pc_dnotin (hu_of hr) (pv 3) (pv 1)))
      (pss_one (ps_dput (hu_of hr) (pv 1) (pv 3) (pe_callB call_len_dT (by rfl) T.f_len boot_len (pa_cons (pv 1) pa_nil)) rfl))
      pss_nil)
      (pss_one (ps_expr (pe_bm PySem.F.plainAttrs_list PySem.F.slot_list_append PySem.F.type_list_append mt_append (pv 2) (pa_cons (pe_dget (hu_of hr) (pv 1) (pv 3) (fun _ _ => rfl)) pa_nil))))))
    (pss_one (ps_ret (pv 2)))))), ?_⟩
  refine fun d hd => ?_
  refine ⟨Nat.zero_le _, fun l hl => ?_⟩
  have hdl : d ≠ l := fun z => by rw [← z, upd_same] at hl; cases hl
  have nl : H l = none := by rw [upd_ne (fun z => hdl z.symm)] at hl; exact hl
  refine ⟨_, rfl, a, rfl, ⟨_, hq1 _ (Same.new2 hd nl)⟩, for_list (xs := xs) (PR K H a d l xs .dT ks) ?_ ?_ ?_ ?_⟩
  · exact ⟨none, rfl, Same.new2 hd nl, by rw [upd_ne hdl, upd_same] <;> rfl, by rw [upd_same] <;> rfl⟩
  · exact fun i σ H1 _ h => by obtain ⟨_, _, h1, _⟩ := h; exact hq1 _ h1
  · intro i x σ H1 hx h
    obtain ⟨m, rfl, s1, e1, e2⟩ := h
    obtain ⟨k, hk, g1, g2⟩ := hkey i x hx
    refine ⟨_, rfl, _, rfl, d, _, rfl, g1 _ _ _ s1 e1, _, rfl, ?_⟩
    have tk : ks.take (i + 1) = ks.take i ++ [k] := by rw [List.take_add_one, hk] <;> rfl
    have li : i < xs.length := ltE hx
    have lt : (tbl (firsts (ks.take i))).length ≤ i := by
      rw [tbl_len]
      exact Nat.le_trans (firsts_le _) (List.length_take_le ..)
    rw [valV_tbl]
    by_cases hin : k ∈ firsts (ks.take i)
    · rw [if_pos hin]
      refine iteF ?_
      refine ⟨_, rfl, .inl ⟨rfl, _, .inl (.inl e2)⟩, _, rfl, _, rfl, d, _, rfl, by rw [← valV_some hin]; exact g1 _ _ _ s1 e1, l, _, _, rfl, rfl, e2, by rw [nV_ren_take hk]; omega, ?_⟩
      refine ⟨_, rfl, fun b o q => ?_, ?_, ?_⟩
      · rw [upd_ne (fun z => by rw [z, nl] at q; cases q)]
        exact s1 b o q
      · rw [upd_ne hdl, tk, firsts_old ((mem_firsts _ _).mp hin)]
        exact e1
      · rw [upd_same, tk, ren_snoc]
        simp [nV]
    · rw [if_neg hin]
      refine iteT ?_
      refine ⟨_, rfl, d, _, rfl, e1, _, rfl, _, rfl, d, _, rfl, g2 _ _ _ _ s1 e1 (by omega), ?_⟩
      have vn : valV (tbl (firsts (ks.take i))) k = none := by rw [valV_tbl, if_neg hin]
      rw [putK_new _ vn, tbl_len, ← tbl_snoc, ← firsts_new (fun z => hin ((mem_firsts _ _).mpr z)), ← tk]
      have e1' : upd H1 d (.dT (tbl (firsts (ks.take (i + 1))))) d = some (.dT (tbl (firsts (ks.take (i + 1))))) := upd_same ..
      have e2' : upd H1 d (.dT (tbl (firsts (ks.take (i + 1))))) l = some (.lst (nV (ren (ks.take i)))) := by rw [upd_ne (fun z => hdl z.symm)]; exact e2
      have s2 : Same H (upd H1 d (.dT (tbl (firsts (ks.take (i + 1)))))) := fun b o q => by
        rw [upd_ne (fun z => by rw [z, hd] at q; cases q)]
        exact s1 b o q
      have hin2 : k ∈ firsts (ks.take (i + 1)) := (mem_firsts _ _).mpr (by rw [tk]; exact List.mem_append_right _ (List.mem_singleton.mpr rfl))
      refine ⟨_, rfl, .inl ⟨rfl, _, .inl (.inl e2')⟩, _, rfl, _, rfl, d, _, rfl, by rw [← valV_some hin2]; exact g1 _ _ _ s2 e1', l, _, _, rfl, rfl, e2', by rw [nV_ren_take hk]; omega, ?_⟩
      refine ⟨_, rfl, fun b o q => ?_, ?_, ?_⟩
      · rw [upd_ne (fun z => by rw [z, nl] at q; cases q)]
        exact s2 b o q
      · rw [upd_ne hdl]
        exact e1'
      · rw [upd_same, tk, ren_snoc, ix_self]
        simp [nV]
  · intro σ H1 h
    obtain ⟨m, rfl, s1, e1, e2⟩ := h
    have full : ks.take xs.length = ks := by rw [← hlen]; exact List.take_length
    rw [full, hr2] at e2
    exact ⟨_, rfl, hQ H1 l s1 nl e2⟩

theorem ok__law_marks (T : Tx K mg) : Ok P w K mg base "_law_marks" 1 (spMarks K) := by
  refine ok_of T.a__law_marks sc_law_marks (fun vs H Q E h => ?_) bi__law_marks fun cdv A outer s H vs Q E hr h => ?_
  · obtain ⟨a, xs, r, rfl, _⟩ := h
    rfl
  obtain ⟨a, xs, r, rfl, hz, hq, h, hQ⟩ := h
  have hz2 : xs.length ≤ sizeLine := Nat.le_trans hz (by decide)
  rcases h with ⟨ns, rfl, rfl⟩ | ⟨ts, ps, rfl, rfl, hp⟩
  · exact mar_KL T hr hq hz2 (key_int H ns) (ren_map int_inl) hQ
  · exact mar_TL T hr hq hz2 (key_pair hp) (ren_map kp_inj) hQ
end
end K02
set_option Elab.async false
set_option linter.all false
set_option maxRecDepth 100000
set_option maxHeartbeats 4000000
namespace K02
open PySem PySem.Spec PyProof.Rows L2 Ms
section
variable {P : Program} {w : World} {K : PySem.W.Frag} {mg : Str → Option Value} {base : Heap}
theorem ok__law_numbers (T : Tx K mg) : Ok P w K mg base "_law_numbers" 2 (spNumbers K) := by
  have O__law_whole : Ok P w K mg base "_law_whole" 1 spWhole := ok__law_whole T
  refine ok_of T.a__law_numbers sc_law_numbers (fun vs H Q E h => ?_) bi__law_numbers fun cdv A outer s H vs Q E hr h => ?_
  · obtain ⟨t, l, xs, rfl, _⟩ := h
    rfl
  obtain ⟨t, l, xs, rfl, ht, hl, hz, hQ⟩ := h
  refine ⟨_, (pss_cons (ps_if (PW.pt (pw_or (pt_not (pt_val (pe_callB (isK K) (by rfl) T.f_isinstance (by decide +kernel) (pa_cons (pv 0) (pa_cons (pe_bltn (v := .ty "tuple") (by rfl) T.f_tuple (by decide +kernel) rfl) pa_nil))))) (pw_or1 (pt_cmpR op_ne (pe_callB (lenK K) (by rfl) T.f_len boot_len (pa_cons (pv 0) pa_nil)) (pe_callB (lenK K) (by rfl) T.f_len boot_len (pa_cons (pv 1) pa_nil)) (nomark _)))))
  (pss_one (ps_ret pe_bl))
  pss_nil)
  (pss_cons (ps_for PassesOwn.never rfl (pi_range1 rfl T.f_range (pa_cons (pe_callB (lenK K) (by rfl) T.f_len boot_len (pa_cons (pv 1) pa_nil)) pa_nil)) (pg_name (i := 2) sc_law_numbers.nd rfl (by first | exact Or.inl rfl | exact Or.inr rfl))
  (pss_one (ps_if (PW.pt (pw_or (pt_not (pt_val (pe_c (E := EN) O__law_whole hr (by decide) (fun σ => passN σ) (pa_cons (pe_ix (ixT K) (pv 0) (pv 2) (fun _ _ => rfl)) pa_nil)))) (pw_or1 (pt_cmpR op_ne (pe_ix (ixT K) (pv 0) (pv 2) (fun _ _ => rfl)) (pe_ix (ixL K) (pv 1) (pv 2) (fun _ _ => rfl)) (nomark _)))))
    (pss_one (ps_ret pe_bl))
    pss_nil)))
  (pss_one (ps_ret pe_bl)))), ?_⟩
  refine ⟨_, rfl, .ref t, .ty "tuple", _, _, true, rfl, .ty _, .of (.base (.tup ht)), T.is_tuple_tuple, true, rfl, ?_⟩
  refine iteF ?_
  refine ⟨_, rfl, t, _, rfl, .inr (.inl (.inl ht)), _, rfl, l, _, rfl, .inl hl, rfl, _, rfl, ?_⟩
  have ne : (!decide (V.int ((nV xs).length : Nat) = V.int ((nV xs).length : Nat))) = false := by simp
  rw [ne]
  refine iteF ?_
  refine ⟨_, rfl, l, _, rfl, .inl hl, _, rfl, by omega, by rw [nV_len]; omega, ?_⟩
  have en : (((nV xs).length : Nat) : Int).toNat = xs.length := by rw [nV_len]; omega
  rw [en]
  refine for_it walk_range (fun i σ H2 => ∃ m, σ = [some (.ref t), some (.ref l), m] ∧ H2 = H) ?_ (fun _ _ _ _ _ => trivial) ?_ ?_
  · exact ⟨none, rfl, rfl⟩
  · rintro i x σ H2 H3 hi ⟨m, rfl, rfl⟩ ⟨rfl, hx⟩
    have hx : x = .int (i : Nat) := hx.trans (congrArg V.int (Int.zero_add _))
    subst hx
    refine ⟨_, rfl, _, rfl, t, _, _, _, rfl, rfl, .inl (.inl ht), atI_nat (nV_at0 hi), _, rfl, true, rfl, ?_⟩
    refine iteF ?_
    refine ⟨_, rfl, _, rfl, t, _, _, _, rfl, rfl, .inl (.inl ht), atI_nat (nV_at0 hi), _, rfl, _, rfl, l, _, _, _, rfl, rfl, hl, atI_nat (nV_at0 hi), rfl, _, rfl, ?_⟩
    have ne : (!decide (V.int (at0 xs i : Nat) = V.int (at0 xs i : Nat))) = false := by simp
    rw [ne]
    exact iteF ⟨_, rfl, rfl⟩
  · rintro σ H2 ⟨m, rfl, rfl⟩
    exact hQ
end
end K02
set_option Elab.async false
set_option linter.all false
set_option maxRecDepth 100000
set_option maxHeartbeats 4000000
namespace K02
open PySem PySem.Spec PyProof.Rows L2 Ms
theorem spNumbers_in {K : PySem.W.Frag} {H : Hp} {Q : VK} {E : XK} {t l : Addr} {xs : List Nat} (ht : H t = some (.tup (nV xs))) (hl : SqL K H l (nV xs)) (hz : xs.length ≤ 16777216) (hQ : Q (.bl true) H) : spNumbers K [.ref t, .ref l] H Q E := ⟨t, l, xs, rfl, ht, hl, hz, hQ⟩
theorem SightAt.ins {K : PySem.W.Frag} {H : Hp} {p : Addr} {r : List Nat} (h : SightAt K H p r) : ∃ dx fs, H p = some (.ins (CS K) dx fs) := let ⟨dx, _, _, e, _⟩ := h.ex; ⟨dx, _, e⟩
theorem pget {α β : Type} {F : α → β → Prop} {xs : List α} {ys : List β} (h : Paired F xs ys) {i : Nat} {y : β} (e : ys[i]? = some y) : ∃ x, xs[i]? = some x ∧ F x y := by
  have l := Paired.length h
  have hi : i < xs.length := by rw [l]; exact ltE e
  obtain ⟨z, e2, f⟩ := LiI.paired_get h (getE hi)
  rw [e] at e2
  cases e2
  exact ⟨_, getE hi, f⟩
section
variable {P : Program} {w : World} {K : PySem.W.Frag} {mg : Str → Option Value} {base : Heap}
end
end K02
set_option Elab.async false
set_option linter.all false
set_option maxRecDepth 100000
set_option maxHeartbeats 4000000
namespace K02
open PySem PySem.Spec PyProof.Rows L2 Ms
theorem same2 {H H1 H2 : Hp} (a : Same H H1) (b : Same H1 H2) : Same H H2 := fun c o q => b _ _ (a _ _ q)
theorem same_put {H H1 : Hp} {p : Addr} {o : HO} (h : H p = none) (s : Same H H1) : Same H (upd H1 p o) := fun b q e => by
  rw [upd_ne (fun z => by rw [z, h] at e; cases e)]
  exact s b q e
/-- rows of numbers -/
def RowsL (H : Hp) (R : Addr) (ws : List (List Nat)) : Prop := ∃ ts : List Addr, H R = some (.lst (ts.map V.ref)) ∧ Paired (fun t w => H t = some (.lst (nV w))) ts ws
theorem RowsL.same {H H' : Hp} (s : Same H H') {R : Addr} {ws : List (List Nat)} (h : RowsL H R ws) : RowsL H' R ws := let ⟨ts, h1, h2⟩ := h; ⟨ts, s _ _ h1, pimp (fun _ _ _ z => s _ _ z) h2⟩
/-- alike in a row -/
def nra (ws : List (List Nat)) (u v : Nat) : Bool := ws.any fun w => decide (at0 w u = at0 w v)
theorem nra_iff {ws : List (List Nat)} {n u v : Nat} (hu : u < n) (hv : v < n) : nra ws u v = true ↔ Nr ws n u v := by
  unfold nra
  rw [List.any_eq_true]
  constructor
  · rintro ⟨w, h1, h2⟩
    obtain ⟨i, hi⟩ := List.getElem?_of_mem h1
    exact ⟨hu, hv, i, ltE hi, by rw [rAt_of hi]; exact of_decide_eq_true h2⟩
  · rintro ⟨_, _, i, h1, h2⟩
    exact ⟨_, rAt_mem h1, decide_eq_true h2⟩
theorem nra_snoc (ws : List (List Nat)) (w : List Nat) (u v : Nat) : nra (ws ++ [w]) u v = (nra ws u v || decide (at0 w u = at0 w v)) := by
  unfold nra
  rw [List.any_append]
  simp
def spAlikeL (K : PySem.W.Frag) : Sp := fun vs H Q _ => ∃ (R : Addr) (ws : List (List Nat)) (u v : Nat), vs = [.ref R, .int (u : Nat), .int (v : Nat)] ∧ RowsL H R ws ∧ (∀ w ∈ ws, u < w.length ∧ v < w.length) ∧ Q (.bl (nra ws u v)) H
/-- the ways that are found, by deal -/
def WaysAt (X : List Addr) (H : Hp) (W : Addr) (n : Nat) (wf : Nat → Option (List Nat)) : Prop := ∃ vs : List V, H W = some (.lst vs) ∧ vs.length = n ∧ ∀ i, i < n → (wf i = none ∧ vs[i]? = some .non) ∨ ∃ p t, wf i = some p ∧ vs[i]? = some (.ref t) ∧ H t = some (.lst (nV p)) ∧ t ∉ X
theorem WaysAt.same {X : List Addr} {H H' : Hp} (s : Same H H') {W : Addr} {n : Nat} {wf : Nat → Option (List Nat)} (h : WaysAt X H W n wf) : WaysAt X H' W n wf := by
  obtain ⟨vs, h1, h2, h3⟩ := h
  refine ⟨vs, s _ _ h1, h2, fun i hi => ?_⟩
  rcases h3 i hi with q | ⟨p, t, q1, q2, q3, q4⟩
  · exact .inl q
  · exact .inr ⟨p, t, q1, q2, s _ _ q3, q4⟩
def spWays (K : PySem.W.Frag) : Sp := fun vs H Q _ => ∃ (R : Addr) (ws : List (List Nat)) (n st : Nat), vs = [.ref R, .int (n : Nat), .int (st : Nat)] ∧ RowsL H R ws ∧ (∀ w ∈ ws, w.length = n) ∧ st < n ∧ n ≤ 4000 ∧
  ∀ H' W wf, Same H H' → H W = none → WaysAt [] H' W n wf → Ms.Ways (Nr ws n) st wf → (∀ v p, wf v = some p → v < n) → Q (.ref W) H'
section
variable {P : Program} {w : World} {K : PySem.W.Frag} {mg : Str → Option Value} {base : Heap}
theorem ok__law_alike (T : Tx K mg) : Ok P w K mg base "_law_alike" 1 (spAlikeL K) := by
  refine ok_of T.a__law_alike sc_law_alike (fun vs H Q E h => ?_) bi__law_alike fun cdv A outer s H vs Q E hr h => ?_
  · obtain ⟨R, ws, u, v, rfl, _⟩ := h
    rfl
  obtain ⟨R, ws, u, v, rfl, ⟨ts, hR, hp⟩, hl, hQ⟩ := h
  refine ⟨_, (pss_cons (ps_for PassesOwn.never rfl (pi_list (pv 0)) (pg_name (i := 3) sc_law_alike.nd rfl (by first | exact Or.inl rfl | exact Or.inr rfl))
  (pss_one (ps_if (pt_cmpR op_eq (pe_ix (ixL K) (pv 3) (pv 1) (fun _ _ => rfl)) (pe_ix (ixL K) (pv 3) (pv 2) (fun _ _ => rfl)) (nomark _))
    (pss_one (ps_ret pe_bl))
    pss_nil)))
  (pss_one (ps_ret pe_bl))), ?_⟩
  have hwl := Paired.length hp
  refine ⟨_, rfl, R, rfl, ⟨_, .inl (.inl hR)⟩, for_it (walk_list (xs := ts.map V.ref)) (fun i σ H1 => ∃ m, σ = [some (.ref R), some (.int (u : Nat)), some (.int (v : Nat)), m] ∧ H1 = H ∧ nra (ws.take i) u v = false) ?_ (fun i σ H1 _ h => by obtain ⟨_, _, rfl, _⟩ := h; exact .inl (.inl hR)) ?_ ?_⟩
  · exact ⟨none, rfl, rfl, rfl⟩
  · rintro i x σ H1 H2 hi ⟨m, rfl, rfl, hn⟩ ⟨rfl, hx⟩
    rw [List.length_map] at hi
    obtain ⟨t, r, e1, e2, e3⟩ := pget2 hp hi
    rw [List.getElem?_map, e1] at hx
    cases hx
    obtain ⟨l1, l2⟩ := hl r (List.mem_of_getElem? e2)
    refine ⟨_, rfl, _, rfl, t, _, _, _, rfl, rfl, .inl (.inl e3), atI_nat (nV_at0 l1), _, rfl, _, rfl, t, _, _, _, rfl, rfl, .inl (.inl e3), atI_nat (nV_at0 l2), rfl, _, rfl, ?_⟩
    by_cases e : at0 r u = at0 r v
    · have z : decide (V.int (at0 r u : Nat) = V.int (at0 r v : Nat)) = true := by rw [e]; simp
      rw [z]
      have q : nra ws u v = true := by
        unfold nra
        exact List.any_eq_true.mpr ⟨r, List.mem_of_getElem? e2, decide_eq_true e⟩
      rw [q] at hQ
      exact iteT hQ
    · have z : decide (V.int (at0 r u : Nat) = V.int (at0 r v : Nat)) = false := decide_eq_false fun q => e (ci _ _ (V.int.inj q))
      rw [z]
      refine iteF ⟨_, rfl, rfl, ?_⟩
      rw [List.take_add_one, e2]
      show nra (ws.take i ++ [r]) u v = false
      rw [nra_snoc, hn, decide_eq_false e] <;> rfl
  · rintro σ H1 ⟨m, rfl, rfl, hn⟩
    rw [List.length_map, hwl, List.take_length] at hn
    rw [hn] at hQ
    exact hQ
theorem ok__law_ways (T : Tx K mg) : Ok P w K mg base "_law_ways" 2 (spWays K) := by
  have O__law_alike : Ok P w K mg base "_law_alike" 1 (spAlikeL K) := ok__law_alike T
  refine ok_of T.a__law_ways sc_law_ways (fun vs H Q E h => ?_) bi__law_ways fun cdv A outer s H vs Q E hr h => ?_
  · obtain ⟨R, ws, n, st, rfl, _⟩ := h
    rfl
  obtain ⟨R, ws, n, st, rfl, hR, hl, hst, hz, hQ⟩ := h
  have big : (16777216 : Nat) ≤ sizeLine := by decide
  have big2 : (4000 : Int) < 2 ^ 62 := by decide
  refine ⟨_, (pss_cons (ps_setLc (i := 3) (own := [("k", 4)]) (g := gName 4) rfl sc_law_ways.nd rfl rfl (sw_true rfl rfl rfl (by decide +kernel)) (pi_range1 rfl T.f_range (pa_cons (pv 1) pa_nil)) (blkOk_by (N := ["rows", "size", "start", "ways", "k", "queue", "turn", "deal", "near"]) (sc := defScope s_law_ways) (by decide +kernel)) (fun _ _ _ _ _ => (pg_name (i := 4) sc_law_ways.nd rfl (by first | exact Or.inl rfl | exact Or.inr rfl))) (fun _ _ _ _ _ => pts_nil) (fun _ _ _ _ _ => pe_non))
  (pss_cons (ps_asg (pe_lst pa_nil) (pg_sub (pv 3) (pv 2) set_list))
  (pss_cons (ps_set (i := 5) sc_law_ways.nd rfl (by first | exact Or.inl rfl | exact Or.inr rfl) (pe_lst (pa_cons (pv 2) pa_nil)))
  (pss_cons (ps_for PassesOwn.never rfl (pi_range1 rfl T.f_range (pa_cons (pv 1) pa_nil)) (pg_name (i := 6) sc_law_ways.nd rfl (by first | exact Or.inl rfl | exact Or.inr rfl))
  (pss_one (ps_if (pt_cmpR op_lt (pv 6) (pe_callB (lenK K) (by rfl) T.f_len boot_len (pa_cons (pv 5) pa_nil)) (nomark _))
    (pss_cons (ps_set (i := 7) sc_law_ways.nd rfl (by first | exact Or.inl rfl | exact Or.inr rfl) (pe_ix (ixL K) (pv 5) (pv 6) (fun _ _ => rfl)))
      (pss_one (ps_for PassesOwn.never rfl (pi_range1 rfl T.f_range (pa_cons (pv 1) pa_nil)) (pg_name (i := 8) sc_law_ways.nd rfl (by first | exact Or.inl rfl | exact Or.inr rfl))
      (pss_one (ps_if (PW.pt (pw_and (pt_cmpR op_isN (pe_ix (ixL K) (pv 3) (pv 8) (fun _ _ => rfl)) pe_non (nomark _)) (pw_and1 (pt_val (pe_c (E := EN) O__law_alike hr (by decide) (fun σ => passN σ) (pa_cons (pv 0) (pa_cons (pv 7) (pa_cons (pv 8) pa_nil))))))))
        (pss_cons (ps_asg (pe_op op_cat (pe_ix (ixL K) (pv 3) (pv 7) (fun _ _ => rfl)) (pe_lst (pa_cons (pv 8) pa_nil))) (pg_sub (pv 3) (pv 8) set_list))
          (pss_one (ps_expr (pe_bm PySem.F.plainAttrs_list PySem.F.slot_list_append PySem.F.type_list_append mt_append (pv 5) (pa_cons (pv 8) pa_nil)))))
        pss_nil)))))
    pss_nil)))
  (pss_one (ps_ret (pv 3))))))), ?_⟩
  refine ⟨_, rfl, _, rfl, by omega, by omega, fun W nW => ?_⟩
  have en : ((n : Nat) : Int).toNat = n := by omega
  rw [en]
  refine lc_it walk_range (fun i H1 => H1 W = some (.lst (List.replicate i V.non)) ∧ Same H H1) ⟨upd_same .., same_new nW⟩ (fun _ _ _ _ => trivial) ?_ ?_
  · rintro i x H1 H2 hi ⟨h1, h2⟩ ⟨rfl, hx⟩
    refine ⟨rfl, _, h1, by rw [List.length_replicate]; omega, ?_, same_put nW h2⟩
    rw [upd_same, ← List.replicate_succ']
  rintro H1 ⟨h1, s1⟩
  refine ⟨Nat.zero_le _, fun t0 nt0 => ?_⟩
  have t0W : t0 ≠ W := fun z => by rw [z, h1] at nt0; cases nt0
  have k1 : upd H1 t0 (.lst []) W = some (.lst (List.replicate n V.non)) := by rw [upd_ne t0W.symm]; exact h1
  refine ⟨_, rfl, _, rfl, W, _, _, st, rfl, rfl, k1, ixN_n (by rw [List.length_replicate]; exact hst), ?_⟩
  generalize hH2 : upd (upd H1 t0 (.lst [])) W (.lst ((List.replicate n V.non).set st (.ref t0))) = H2
  have w0 : H2 W = some (.lst ((List.replicate n V.non).set st (.ref t0))) := by rw [← hH2, upd_same]
  have y0 : H2 t0 = some (.lst []) := by rw [← hH2, upd_ne t0W, upd_same]
  have s2 : Same H H2 := fun b o q => by
    rw [← hH2, upd_ne (fun z => by rw [z, nW] at q; cases q)]
    exact same_new nt0 _ _ (s1 _ _ q)
  refine ⟨_, rfl, by show 1 ≤ sizeLine; decide, fun Qd nQ => ?_⟩
  have QW : Qd ≠ W := fun z => by rw [z, w0] at nQ; cases nQ
  have Qt : Qd ≠ t0 := fun z => by rw [z, y0] at nQ; cases nQ
  have nQ0 : H Qd = none := s2.free nQ
  refine ⟨_, rfl, _, rfl, by omega, by omega, ?_⟩
  rw [en]
  refine for_it walk_range (fun i σ H3 => ∃ (m6 m7 m8 : Option V) (qs : List Nat) (wf : Nat → Option (List Nat)), σ = [some (.ref R), some (.int (n : Nat)), some (.int (st : Nat)), some (.ref W), none, some (.ref Qd), m6, m7, m8] ∧ BI (Nr ws n) n st i 0 qs wf ∧ WaysAt [W, Qd] H3 W n wf ∧ H3 Qd = some (.lst (nV qs)) ∧ Same H H3) ?_ (fun _ _ _ _ _ => trivial) ?_ ?_
  · refine ⟨none, none, none, [st], _, rfl, BI.start hst, ⟨_, by rw [upd_ne QW.symm]; exact w0, by rw [List.length_set, List.length_replicate], fun i hi => ?_⟩, upd_same .., fun b o q => same_new nQ _ _ (s2 _ _ q)⟩
    by_cases e : i = st
    · refine .inr ⟨[], t0, if_pos e, ?_, by rw [upd_ne Qt.symm]; exact y0, ?_⟩
      · rw [e, List.getElem?_set_self (by rw [List.length_replicate]; exact hst)]
      · simp [t0W, Qt.symm]
    · refine .inl ⟨if_neg e, ?_⟩
      rw [List.getElem?_set_ne (fun z => e z.symm), List.getElem?_replicate, if_pos hi]
  · rintro i x σ H3 H4 hi ⟨m6, m7, m8, qs, wf, rfl, hB, hW, hq, s3⟩ ⟨rfl, hx⟩
    have hx : x = .int (i : Nat) := hx.trans (congrArg V.int (Int.zero_add _))
    subst hx
    have ql : qs.length ≤ n := by
      have q := nodup_le (m := List.range n) hB.nd fun v hv => List.mem_range.mpr (hB.lt v hv)
      rw [List.length_range] at q
      exact q
    refine ⟨_, rfl, _, rfl, Qd, _, rfl, .inl (.inl (.inl hq)), _, _, rfl, rfl, _, rfl, ?_⟩
    rw [nV_len]
    by_cases hlt : i < qs.length
    · have z : decide (((i : Nat) : Int) < ((qs.length : Nat) : Int)) = true := decide_eq_true (by omega)
      rw [z]
      refine iteT ?_
      generalize hu : at0 qs i = u
      have um : qs[i]? = some u := by rw [← hu]; exact of_at0 hlt
      have un := hB.lt u (List.mem_of_getElem? um)
      obtain ⟨q, hwu⟩ := (hB.mem u).mp (List.mem_of_getElem? um)
      refine ⟨_, rfl, _, rfl, Qd, _, _, _, rfl, rfl, .inl (.inl hq), atI_nat (nV_at um), ?_⟩
      refine ⟨_, rfl, _, rfl, by omega, by omega, ?_⟩
      rw [en]
      refine for_it walk_range (fun m σ H5 => ∃ (m8 : Option V) (qs : List Nat) (wf : Nat → Option (List Nat)), σ = [some (.ref R), some (.int (n : Nat)), some (.int (st : Nat)), some (.ref W), none, some (.ref Qd), some (.int (i : Nat)), some (.int (u : Nat)), m8] ∧ BI (Nr ws n) n st i m qs wf ∧ qs[i]? = some u ∧ wf u = some q ∧ WaysAt [W, Qd] H5 W n wf ∧ H5 Qd = some (.lst (nV qs)) ∧ Same H H5) ?_ (fun _ _ _ _ _ => trivial) ?_ ?_
      · exact ⟨m8, qs, wf, rfl, hB, um, hwu, hW, hq, s3⟩
      · rintro m x σ H0 H5 hm ⟨m8, qs, wf, rfl, hB, um, hwu, hW, hq, s5⟩ ⟨rfl, hx⟩
        have hx : x = .int (m : Nat) := hx.trans (congrArg V.int (Int.zero_add _))
        subst hx
        obtain ⟨vs, v1, v2, v3⟩ := hW
        rcases v3 m hm with ⟨q1, q2⟩ | ⟨p, t, q1, q2, q3, q4⟩
        · refine ⟨_, rfl, _, rfl, W, _, _, _, rfl, rfl, .inl (.inl v1), atI_nat q2, rfl, _, rfl, ?_⟩
          refine iteT ?_
          refine ⟨_, rfl, _, rfl, _, rfl, R, ws, u, m, rfl, hR.same s5, fun w hw => ⟨by rw [hl w hw]; exact un, by rw [hl w hw]; exact hm⟩, _, rfl, ?_⟩
          by_cases ha : nra ws u m = true
          · rw [ha]
            refine iteT ?_
            have hadj := (nra_iff un hm).mp ha
            have nw := hB.meet um hwu hm q1 hadj
            have qlen := hB.len _ _ _ um hwu
            rcases v3 u un with ⟨z1, _⟩ | ⟨p0, tu, z1, z2, z3, z4⟩
            · rw [hwu] at z1; cases z1
            rw [hwu] at z1
            cases z1
            refine ⟨_, rfl, _, rfl, W, _, _, .ref tu, rfl, rfl, .inl (.inl v1), atI_nat z2, _, rfl, by show 1 ≤ sizeLine; decide, fun L nL => ?_⟩
            have sL : Same H5 (upd H5 L (.lst [.int (m : Nat)])) := same_new nL
            have eL : upd H5 L (.lst [.int (m : Nat)]) L = some (.lst [.int (m : Nat)]) := upd_same ..
            generalize hH6 : upd H5 L (.lst [.int (m : Nat)]) = H6 at sL eL
            refine ⟨tu, L, _, _, rfl, rfl, sL _ _ z3, eL, by rw [nV_len, List.length_singleton]; omega, fun p np => ?_⟩
            have sp : Same H6 (upd H6 p (.lst (nV q ++ [.int (m : Nat)]))) := same_new np
            have ep : upd H6 p (.lst (nV q ++ [.int (m : Nat)])) p = some (.lst (nV q ++ [.int (m : Nat)])) := upd_same ..
            rw [nV_snoc] at sp ep ⊢
            generalize hH7 : upd H6 p (.lst (nV (q ++ [m]))) = H7 at sp ep
            have s7 : Same H5 H7 := same2 sL sp
            have pW : p ≠ W := fun z => by rw [z] at np; rw [sL _ _ v1] at np; cases np
            have pQ : p ≠ Qd := fun z => by rw [z] at np; rw [sL _ _ hq] at np; cases np
            refine ⟨_, rfl, _, rfl, W, _, _, m, rfl, rfl, s7 _ _ v1, ixN_n (by rw [v2]; exact hm), ?_⟩
            have g1 : upd H7 W (.lst (vs.set m (.ref p))) Qd = some (.lst (nV qs)) := by rw [upd_ne QW]; exact s7 _ _ hq
            have ql : qs.length ≤ n := by
              have q := nodup_le (m := List.range n) hB.nd fun v hv => List.mem_range.mpr (hB.lt v hv)
              rw [List.length_range] at q
              exact q
            refine ⟨_, rfl, .inl ⟨rfl, _, .inl (.inl g1)⟩, _, rfl, Qd, _, _, rfl, rfl, g1, by rw [nV_len]; omega, ?_⟩
            rw [nV_snoc]
            refine ⟨_, qs ++ [m], _, rfl, nw, by rw [List.getElem?_append_left (ltE um)]; exact um, ?_, ⟨vs.set m (.ref p), by rw [upd_ne QW.symm, upd_same], by rw [List.length_set]; exact v2, fun j hj => ?_⟩, upd_same .., fun b o z => ?_⟩
            · show (if u = m then some (q ++ [m]) else wf u) = some q
              rw [if_neg (fun z => by rw [z, q1] at hwu; cases hwu)]
              exact hwu
            · by_cases e : j = m
              · refine .inr ⟨q ++ [m], p, by show (if j = m then _ else _) = _; rw [if_pos e], ?_, by rw [upd_ne pQ, upd_ne pW]; exact ep, ?_⟩
                · rw [e, List.getElem?_set_self (by rw [v2]; exact hm)]
                · simp [pW, pQ]
              · have e2 : (vs.set m (.ref p))[j]? = vs[j]? := List.getElem?_set_ne (fun z => e z.symm)
                rw [e2]
                rcases v3 j hj with ⟨a1, a2⟩ | ⟨p1, t1, a1, a2, a3, a4⟩
                · exact .inl ⟨by show (if j = m then _ else _) = _; rw [if_neg e]; exact a1, a2⟩
                · have a5 : t1 ≠ W ∧ t1 ≠ Qd := by simpa using a4
                  exact .inr ⟨p1, t1, by show (if j = m then _ else _) = _; rw [if_neg e]; exact a1, a2, by rw [upd_ne a5.2, upd_ne a5.1]; exact s7 _ _ a3, a4⟩
            · rw [upd_ne (fun y => by rw [y, nQ0] at z; cases z), upd_ne (fun y => by rw [y, nW] at z; cases z)]
              exact s7 _ _ (s5 _ _ z)
          · have hf : nra ws u m = false := by cases h : nra ws u m with | true => exact absurd h ha | false => rfl
            rw [hf]
            exact iteF ⟨_, qs, wf, rfl, hB.pass um hwu (fun g => absurd ((nra_iff un hm).mpr g) ha), um, hwu, ⟨vs, v1, v2, v3⟩, hq, s5⟩
        · refine ⟨_, rfl, _, rfl, W, _, _, _, rfl, rfl, .inl (.inl v1), atI_nat q2, rfl, _, rfl, ?_⟩
          have z : decide (V.ref t = V.non) = false := decide_eq_false fun z => by cases z
          rw [z]
          exact iteF ⟨_, qs, wf, rfl, hB.pass um hwu (fun _ => ⟨p, q1⟩), um, hwu, ⟨vs, v1, v2, v3⟩, hq, s5⟩
      · rintro σ H5 ⟨m8, qs, wf, rfl, hB, um, hwu, hW, hq, s5⟩
        exact ⟨_, _, _, qs, wf, rfl, hB.turn fun u v g => g.2.1, hW, hq, s5⟩
    · have z : decide (((i : Nat) : Int) < ((qs.length : Nat) : Int)) = false := decide_eq_false (by omega)
      rw [z]
      exact iteF ⟨_, _, _, qs, wf, rfl, hB.skip (by omega), hW, hq, s3⟩
  · rintro σ H3 ⟨m6, m7, m8, qs, wf, rfl, hB, hW, hq, s3⟩
    refine ⟨_, rfl, hQ H3 W wf s3 nW ?_ hB.ways fun v p e => hB.lt v ((hB.mem v).mpr ⟨p, e⟩)⟩
    obtain ⟨vs, v1, v2, v3⟩ := hW
    exact ⟨vs, v1, v2, fun i hi => (v3 i hi).imp id fun ⟨p, t, a, b, c, _⟩ => ⟨p, t, a, b, c, List.not_mem_nil⟩⟩
end
end K02
set_option Elab.async false
set_option linter.all false
set_option maxRecDepth 100000
set_option maxHeartbeats 4000000
namespace K02
open PySem PySem.Spec PyProof.Rows L2 Ms
/-- the deal ahead of the k-th step -/
def prv (st : Nat) (c : List (Nat × Nat)) (k : Nat) : Nat := (st :: c.map (·.2)).getD k 0
/-- the first row that joins two deals -/
structure FirstIn (ws : List (List Nat)) (u x i : Nat) : Prop where
  il : i < ws.length
  eq : at0 (rAt ws i) u = at0 (rAt ws i) x
  fi : ∀ j, j < i → at0 (rAt ws j) u ≠ at0 (rAt ws j) x
theorem head_filter {n i : Nat} {p : Nat → Bool} (h : i < n) (hp : p i = true) (hf : ∀ j, j < i → p j = false) : ((List.range n).filter p)[0]? = some i := by
  have e : List.range n = List.range i ++ (i :: (List.range (n - i - 1)).map (i + 1 + ·)) := by
    have e1 : n = i + (n - i - 1 + 1) := by omega
    rw [e1, List.range_add, List.range_succ_eq_map]
    congr 1
    rw [List.map_cons, List.map_map]
    simp
    intro a _
    omega
  rw [e, List.filter_append]
  have z : (List.range i).filter p = [] := List.filter_eq_nil_iff.mpr fun j hj => by rw [hf j (List.mem_range.mp hj)]; exact Bool.false_ne_true
  rw [z, List.nil_append, List.filter_cons_of_pos hp] <;> rfl
def spIsChain (K : PySem.W.Frag) : Sp := fun vs H Q _ => ∃ (x y : V) (R : Addr) (ws : List (List Nat)) (n st : Nat), vs = [x, .ref R, .int (st : Nat), y] ∧ RowsL H R ws ∧ (∀ w ∈ ws, w.length = n) ∧ ws.length ≤ 1000 ∧ (∀ H', Same H H' → Q (.bl true) H') ∧
  ((x = .non ∧ y = .non) ∨ ∃ (t wl : Addr) (c : List (Nat × Nat)), x = .ref t ∧ y = .ref wl ∧ ChainAt H t c ∧ SqL K H wl (nV (c.map (·.2))) ∧ c.length ≤ 200000 ∧ st < n ∧ (∀ p ∈ c, p.2 < n) ∧ ∀ k p, c[k]? = some p → FirstIn ws (prv st c k) p.2 p.1)
def spClosedL (K : PySem.W.Frag) : Sp := fun vs H Q _ => ∃ (R g : Addr) (ws : List (List Nat)) (n : Nat) (ds : List Nat), vs = [.ref R, .int (n : Nat), .ref g] ∧ RowsL H R ws ∧ (∀ w ∈ ws, w.length = n) ∧ n ≤ 4000 ∧ SqL K H g (nV ds) ∧ (∀ d ∈ ds, d < n) ∧
  ∀ H' b, Same H H' → (b = true ↔ Cl ws n ds) → Q (.bl b) H'
section
variable {P : Program} {w : World} {K : PySem.W.Frag} {mg : Str → Option Value} {base : Heap}
theorem ok__law_is_chain (T : Tx K mg) : Ok P w K mg base "_law_is_chain" 3 (spIsChain K) := by
  have O__law_numbers : Ok P w K mg base "_law_numbers" 2 (spNumbers K) := ok__law_numbers T
  refine ok_of T.a__law_is_chain sc_law_is_chain (fun vs H Q E h => ?_) bi__law_is_chain fun cdv A outer s H vs Q E hr h => ?_
  · obtain ⟨x, y, R, ws, n, st, rfl, _⟩ := h
    rfl
  obtain ⟨x, y, R, ws, n, st, rfl, hR, hl, hw, hQ, h⟩ := h
  have big : (16777216 : Nat) ≤ sizeLine := by decide
  have big2 : (200000 : Int) < 2 ^ 62 := by decide
  refine ⟨_, (pss_cons (ps_if (pt_cmpR op_isN (pv 3) pe_non (nomark _))
  (pss_one (ps_ret (pe_cmpR op_isN (pv 0) pe_non (nomark _))))
  pss_nil)
  (pss_cons (ps_if (PW.pt (pw_or (pt_not (pt_val (pe_callB (isK K) (by rfl) T.f_isinstance (by decide +kernel) (pa_cons (pv 0) (pa_cons (pe_bltn (v := .ty "tuple") (by rfl) T.f_tuple (by decide +kernel) rfl) pa_nil))))) (pw_or1 (pt_cmpR op_ne (pe_callB (lenK K) (by rfl) T.f_len boot_len (pa_cons (pv 0) pa_nil)) (pe_callB (lenK K) (by rfl) T.f_len boot_len (pa_cons (pv 3) pa_nil)) (nomark _)))))
  (pss_one (ps_ret pe_bl))
  pss_nil)
  (pss_cons (ps_set (i := 4) sc_law_is_chain.nd rfl (by first | exact Or.inl rfl | exact Or.inr rfl) (pv 2))
  (pss_cons (ps_for PassesOwn.never rfl (pi_range1 rfl T.f_range (pa_cons (pe_callB (lenK K) (by rfl) T.f_len boot_len (pa_cons (pv 3) pa_nil)) pa_nil)) (pg_name (i := 5) sc_law_is_chain.nd rfl (by first | exact Or.inl rfl | exact Or.inr rfl))
  (pss_cons (ps_setLc (i := 6) (own := [("index", 7)]) (g := gName 7) rfl sc_law_is_chain.nd rfl rfl (sw_true rfl rfl rfl (by decide +kernel)) (pi_range1 rfl T.f_range (pa_cons (pe_callB (lenK K) (by rfl) T.f_len boot_len (pa_cons (pv 1) pa_nil)) pa_nil)) (blkOk_by (N := ["actual", "rows", "start", "way", "at", "k", "least", "index"]) (sc := defScope s_law_is_chain) (by decide +kernel)) (fun _ _ _ _ _ => (pg_name (i := 7) sc_law_is_chain.nd rfl (by first | exact Or.inl rfl | exact Or.inr rfl))) (fun _ _ _ _ _ => (pts_one (pt_cmpR op_eq (pe_ix (ixL K) (pe_ix (ixL K) (pv 1) (pv 7) (fun _ _ => rfl)) (pv 4) (fun _ _ => rfl)) (pe_ix (ixL K) (pe_ix (ixL K) (pv 1) (pv 7) (fun _ _ => rfl)) (pe_ix (ixL K) (pv 3) (pv 5) (fun _ _ => rfl)) (fun _ _ => rfl)) (nomark _)))) (fun _ _ _ _ _ => (pv 7)))
    (pss_cons (ps_if (pt_not (pt_val (pe_c (E := EN) O__law_numbers hr (by decide) (fun σ => passN σ) (pa_cons (pe_ix (ixT K) (pv 0) (pv 5) (fun _ _ => rfl)) (pa_cons (pe_lst (pa_cons (pe_ix (ixL K) (pv 6) pe_int (fun _ _ => rfl)) (pa_cons (pe_ix (ixL K) (pv 3) (pv 5) (fun _ _ => rfl)) pa_nil))) pa_nil)))))
    (pss_one (ps_ret pe_bl))
    pss_nil)
    (pss_one (ps_set (i := 4) sc_law_is_chain.nd rfl (by first | exact Or.inl rfl | exact Or.inr rfl) (pe_ix (ixL K) (pv 3) (pv 5) (fun _ _ => rfl)))))))
  (pss_one (ps_ret pe_bl)))))), ?_⟩
  rcases h with ⟨rfl, rfl⟩ | ⟨t, wl, c, rfl, rfl, ⟨ts, ht, hp⟩, hwl, hz, hst, hcl, hfi⟩
  · exact ⟨_, rfl, rfl, _, rfl, iteT ⟨_, rfl, rfl, hQ H fun b o q => q⟩⟩
  refine ⟨_, rfl, rfl, _, rfl, iteF ?_⟩
  have tl := Paired.length hp
  refine ⟨_, rfl, .ref t, .ty "tuple", _, _, true, rfl, .ty _, .of (.base (.tup ht)), T.is_tuple_tuple, true, rfl, ?_⟩
  refine iteF ?_
  refine ⟨_, rfl, t, _, rfl, .inr (.inl (.inl ht)), _, rfl, wl, _, rfl, .inl hwl, rfl, _, rfl, ?_⟩
  have ne : (!decide (V.int ((ts.map V.ref).length : Nat) = V.int ((nV (c.map (·.2))).length : Nat))) = false := by rw [List.length_map, nV_len, List.length_map, tl]; simp
  rw [ne]
  refine iteF ?_
  refine ⟨_, rfl, ?_⟩
  refine ⟨_, rfl, wl, _, rfl, .inl hwl, _, rfl, by omega, by rw [nV_len, List.length_map]; omega, ?_⟩
  have en : (((nV (c.map (·.2))).length : Nat) : Int).toNat = c.length := by rw [nV_len, List.length_map]; omega
  rw [en]
  obtain ⟨rs, hRr, hRp⟩ := id hR
  have rl := Paired.length hRp
  refine for_it walk_range (fun k σ H1 => ∃ (m5 m6 : Option V), σ = [some (.ref t), some (.ref R), some (.int (st : Nat)), some (.ref wl), some (.int (prv st c k : Nat)), m5, m6, none] ∧ Same H H1) ?_ (fun _ _ _ _ _ => trivial) ?_ ?_
  · exact ⟨none, none, rfl, fun b o q => q⟩
  · rintro k x σ H0 H1 hk ⟨m5, m6, rfl, s1⟩ ⟨rfl, hx⟩
    have hx : x = .int (k : Nat) := hx.trans (congrArg V.int (Int.zero_add _))
    subst hx
    obtain ⟨tp, p, e1, e2, e3⟩ := pget2 hp (i := k) (by rw [tl]; exact hk)
    have hF := hfi k p e2
    have hc2 : (nV (c.map (·.2)))[k]? = some (.int (p.2 : Nat)) := nV_at (by rw [List.getElem?_map, e2] <;> rfl)
    have pl := hcl p (List.mem_of_getElem? e2)
    have ul : prv st c k < n := by
      unfold prv
      cases k with
      | zero => exact hst
      | succ k =>
        have hk' : k < c.length := by omega
        rw [List.getD_cons_succ, List.getD_eq_getElem?_getD, List.getElem?_map, getE hk']
        exact hcl _ (List.getElem_mem hk')
    generalize hu : prv st c k = u at *
    refine ⟨_, rfl, R, _, rfl, .inl (.inl (.inl (s1 _ _ hRr))), _, rfl, by omega, by rw [List.length_map]; omega, fun L nL => ?_⟩
    have er : (((rs.map V.ref).length : Nat) : Int).toNat = ws.length := by rw [List.length_map]; omega
    rw [er]
    refine lc_it walk_range (fun i H2 => H2 L = some (.lst (nV ((List.range i).filter fun j => decide (at0 (rAt ws j) u = at0 (rAt ws j) p.2)))) ∧ Same H1 H2) ⟨by rw [upd_same] <;> rfl, same_new nL⟩ (fun _ _ _ _ => trivial) ?_ ?_
    · rintro i x H0 H2 hi ⟨h1, h2⟩ ⟨rfl, hx⟩
      have hx : x = .int (i : Nat) := hx.trans (congrArg V.int (Int.zero_add _))
      subst hx
      obtain ⟨tr, r, f1, f2, f3⟩ := pget2 hRp (i := i) (by rw [rl]; exact hi)
      have rn := hl r (List.mem_of_getElem? f2)
      have er := rAt_of f2
      have s2 : Same H H2 := same2 s1 h2
      have gr := s2 _ _ f3
      have row : (rs.map V.ref)[i]? = some (.ref tr) := by rw [List.getElem?_map, f1] <;> rfl
      refine ⟨rfl, ?_⟩
      refine ⟨_, rfl, _, rfl, R, _, _, .ref tr, rfl, rfl, .inl (.inl (s2 _ _ hRr)), atI_nat row, _, rfl, tr, _, _, _, rfl, rfl, .inl (.inl gr), atI_nat (nV_at0 (by rw [rn]; exact ul)),
        _, rfl, _, rfl, R, _, _, .ref tr, rfl, rfl, .inl (.inl (s2 _ _ hRr)), atI_nat row, _, rfl, _, rfl, wl, _, _, .int (p.2 : Nat), rfl, rfl, Same.seq s2 hwl, atI_nat hc2, tr, _, _, _, rfl, rfl, .inl (.inl gr), atI_nat (nV_at0 (by rw [rn]; exact pl)), rfl, _, rfl, ?_⟩
      have fr : (List.range (i + 1)).filter (fun j => decide (at0 (rAt ws j) u = at0 (rAt ws j) p.2)) = (List.range i).filter (fun j => decide (at0 (rAt ws j) u = at0 (rAt ws j) p.2)) ++ (if at0 r u = at0 r p.2 then [i] else []) := by
        rw [List.range_succ, List.filter_append]
        congr 1
        by_cases e : at0 r u = at0 r p.2
        · rw [if_pos e]
          exact List.filter_cons_of_pos (decide_eq_true (by rw [er]; exact e))
        · rw [if_neg e]
          exact List.filter_cons_of_neg (by rw [decide_eq_true_eq, er]; exact e)
      rw [fr]
      by_cases e : at0 r u = at0 r p.2
      · have z : decide (V.int (at0 r u : Nat) = V.int (at0 r p.2 : Nat)) = true := by rw [e]; simp
        rw [z, if_pos e]
        refine iteT ⟨_, rfl, _, h1, ?_, ?_, same_put nL h2⟩
        · rw [nV_len]
          have := List.length_filter_le (fun j => decide (at0 (rAt ws j) u = at0 (rAt ws j) p.2)) (List.range i)
          rw [List.length_range] at this
          omega
        · rw [upd_same, nV_snoc]
      · have z : decide (V.int (at0 r u : Nat) = V.int (at0 r p.2 : Nat)) = false := decide_eq_false fun q => e (ci _ _ (V.int.inj q))
        rw [z, if_neg e, List.append_nil]
        exact iteF ⟨h1, h2⟩
    rintro H2 ⟨h1, h2⟩
    have s2 : Same H H2 := same2 s1 h2
    have hd := head_filter (n := ws.length) (p := fun j => decide (at0 (rAt ws j) u = at0 (rAt ws j) p.2)) hF.il (decide_eq_true hF.eq) fun j hj => decide_eq_false (hF.fi j hj)
    refine ⟨_, rfl, _, rfl, t, _, _, .ref tp, rfl, rfl, .inl (.inl (s2 _ _ ht)), atI_nat (by rw [List.getElem?_map, e1] <;> rfl), _, rfl, L, _, _, .int (p.1 : Nat), rfl, rfl, .inl (.inl h1), atI_nat (j := 0) (nV_at hd), _, rfl, _, rfl, wl, _, _, .int (p.2 : Nat), rfl, rfl, Same.seq s2 hwl, atI_nat hc2, by show 2 ≤ sizeLine; decide, fun D nD => ?_⟩
    have s3 : Same H2 (upd H2 D (.lst [.int (p.1 : Nat), .int (p.2 : Nat)])) := same_new nD
    refine ⟨tp, D, [p.1, p.2], rfl, s3 _ _ (s2 _ _ e3), .inl (.inl (upd_same ..)), by show 2 ≤ 16777216; decide, true, rfl, ?_⟩
    refine iteF ?_
    refine ⟨_, rfl, _, rfl, wl, _, _, .int (p.2 : Nat), rfl, rfl, Same.seq s3 (Same.seq s2 hwl), atI_nat hc2, some (.int (k : Nat)), some (.ref L), ?_, same2 s2 s3⟩
    have ep : prv st c (k + 1) = p.2 := by
      unfold prv
      rw [List.getD_cons_succ, List.getD_eq_getElem?_getD, List.getElem?_map, e2] <;> rfl
    rw [ep] <;> rfl
  · rintro σ H1 ⟨m5, m6, rfl, s1⟩
    exact hQ H1 s1
theorem ok__law_closed (T : Tx K mg) : Ok P w K mg base "_law_closed" 2 (spClosedL K) := by
  have O__law_alike : Ok P w K mg base "_law_alike" 1 (spAlikeL K) := ok__law_alike T
  refine ok_of T.a__law_closed sc_law_closed (fun vs H Q E h => ?_) bi__law_closed fun cdv A outer s H vs Q E hr h => ?_
  · obtain ⟨R, g, ws, n, ds, rfl, _⟩ := h
    rfl
  obtain ⟨R, g, ws, n, ds, rfl, hR, hl, hz, hg, hd, hQ⟩ := h
  have hQ : ∀ H', Same H H' → (Cl ws n ds → Q (.bl true) H') ∧ (¬ Cl ws n ds → Q (.bl false) H') := fun H' s => ⟨fun c => hQ H' true s ⟨fun _ => c, fun _ => rfl⟩, fun c => hQ H' false s ⟨fun z => (by cases z), fun z => absurd z c⟩⟩
  have big : (16777216 : Nat) ≤ sizeLine := by decide
  have big2 : (4000 : Int) < 2 ^ 62 := by decide
  refine ⟨_, (pss_cons (ps_setLc (i := 3) (own := [("k", 4)]) (g := gName 4) rfl sc_law_closed.nd rfl rfl (sw_true rfl rfl rfl (by decide +kernel)) (pi_range1 rfl T.f_range (pa_cons (pv 1) pa_nil)) (blkOk_by (N := ["rows", "size", "deals", "inside", "k", "deal", "near"]) (sc := defScope s_law_closed) (by decide +kernel)) (fun _ _ _ _ _ => (pg_name (i := 4) sc_law_closed.nd rfl (by first | exact Or.inl rfl | exact Or.inr rfl))) (fun _ _ _ _ _ => pts_nil) (fun _ _ _ _ _ => pe_bl))
  (pss_cons (ps_for PassesOwn.never rfl (pi_list (pv 2)) (pg_name (i := 5) sc_law_closed.nd rfl (by first | exact Or.inl rfl | exact Or.inr rfl))
  (pss_one (ps_asg pe_bl (pg_sub (pv 3) (pv 5) set_list))))
  (pss_cons (ps_for PassesOwn.never rfl (pi_range1 rfl T.f_range (pa_cons (pv 1) pa_nil)) (pg_name (i := 5) sc_law_closed.nd rfl (by first | exact Or.inl rfl | exact Or.inr rfl))
  (pss_one (ps_for PassesOwn.never rfl (pi_range1 rfl T.f_range (pa_cons (pv 1) pa_nil)) (pg_name (i := 6) sc_law_closed.nd rfl (by first | exact Or.inl rfl | exact Or.inr rfl))
    (pss_one (ps_if (PW.pt (pw_and (pt_val (pe_ix (ixL K) (pv 3) (pv 5) (fun _ _ => rfl))) (pw_and (pt_not (pt_val (pe_ix (ixL K) (pv 3) (pv 6) (fun _ _ => rfl)))) (pw_and1 (pt_val (pe_c (E := EN) O__law_alike hr (by decide) (fun σ => passN σ) (pa_cons (pv 0) (pa_cons (pv 5) (pa_cons (pv 6) pa_nil)))))))))
      (pss_one (ps_ret pe_bl))
      pss_nil)))))
  (pss_one (ps_ret pe_bl))))), ?_⟩
  refine ⟨_, rfl, _, rfl, by omega, by omega, fun I nI => ?_⟩
  have en : ((n : Nat) : Int).toNat = n := by omega
  rw [en]
  refine lc_it walk_range (fun i H1 => H1 I = some (.lst (List.replicate i (V.bl false))) ∧ Same H H1) ⟨upd_same .., same_new nI⟩ (fun _ _ _ _ => trivial) ?_ ?_
  · rintro i x H0 H2 hi ⟨h1, h2⟩ ⟨rfl, hx⟩
    refine ⟨rfl, _, h1, by rw [List.length_replicate]; omega, ?_, same_put nI h2⟩
    rw [upd_same, ← List.replicate_succ']
  rintro H1 ⟨h1, s1⟩
  refine ⟨_, rfl, g, rfl, ⟨_, Same.seq s1 hg⟩, for_it (walk_list (xs := nV ds)) (fun i σ H2 => ∃ m5, σ = [some (.ref R), some (.int (n : Nat)), some (.ref g), some (.ref I), none, m5, none] ∧ H2 I = some (.lst ((List.range n).map fun j => .bl (decide (j ∈ ds.take i)))) ∧ Same H H2) ?_ (fun i σ H2 _ h => by obtain ⟨_, _, _, h⟩ := h; exact Same.seq h hg) ?_ ?_⟩
  · refine ⟨none, rfl, ?_, s1⟩
    rw [h1]
    congr 2
    refine (List.eq_replicate_iff.mpr ⟨by rw [List.length_map, List.length_range], fun x hx => ?_⟩).symm
    obtain ⟨j, _, rfl⟩ := List.mem_map.mp hx
    simp
  · rintro i x σ H0 H2 hi ⟨m5, rfl, k1, k2⟩ ⟨rfl, hx⟩
    rw [nV_len] at hi
    have hx : x = .int (at0 ds i : Nat) := by
      have q := nV_at0 hi
      rw [hx] at q
      exact Option.some.inj q
    subst hx
    have mem : at0 ds i ∈ ds := List.mem_of_getElem? (of_at0 hi)
    refine ⟨_, rfl, _, rfl, I, _, _, at0 ds i, rfl, rfl, k1, ixN_n (by rw [List.length_map, List.length_range]; exact hd _ mem), _, rfl, ?_, same_put nI k2⟩
    rw [upd_same]
    congr 2
    refine List.ext_getElem? fun j => ?_
    rw [List.getElem?_set]
    by_cases e : at0 ds i = j
    · rw [if_pos e, ← e, if_pos (by rw [List.length_map, List.length_range]; exact hd _ mem), List.getElem?_map, List.getElem?_range (hd _ mem)]
      show some (V.bl true) = some (V.bl (decide (at0 ds i ∈ ds.take (i + 1))))
      rw [decide_eq_true (show at0 ds i ∈ ds.take (i + 1) by rw [List.take_add_one, of_at0 hi]; exact List.mem_append_right _ List.mem_cons_self)]
    · rw [if_neg e, List.getElem?_map, List.getElem?_map]
      by_cases hj : j < n
      · rw [List.getElem?_range hj]
        show some (V.bl (decide (j ∈ ds.take i))) = some (V.bl (decide (j ∈ ds.take (i + 1))))
        have : (j ∈ ds.take (i + 1)) ↔ j ∈ ds.take i := by
          rw [List.take_add_one, of_at0 hi, List.mem_append]
          exact ⟨fun z => z.resolve_right fun q => e (List.mem_singleton.mp q).symm, .inl⟩
        rw [decide_eq_decide.mpr this]
      · rw [List.getElem?_eq_none (by rw [List.length_range]; omega)] <;> rfl
  rintro σ H2 ⟨m5, rfl, k1, k2⟩
  rw [nV_len, List.take_length] at k1
  have look : ∀ {H3 : Hp} {j : Nat}, Same H2 H3 → j < n → ∃ xs, H3 I = some (.lst xs) ∧ xs[j]? = some (V.bl (decide (j ∈ ds))) := fun {H3 j} s hj => ⟨_, s _ _ k1, by rw [List.getElem?_map, List.getElem?_range hj] <;> rfl⟩
  refine ⟨_, rfl, _, rfl, by omega, by omega, ?_⟩
  rw [en]
  refine for_it walk_range (fun i σ H3 => ∃ m5 m6, σ = [some (.ref R), some (.int (n : Nat)), some (.ref g), some (.ref I), none, m5, m6] ∧ H3 = H2 ∧ ∀ u v, u < i → u ∈ ds → Nr ws n u v → v ∈ ds) ?_ (fun _ _ _ _ _ => trivial) ?_ ?_
  · exact ⟨m5, none, rfl, rfl, fun u v h => absurd h (Nat.not_lt_zero _)⟩
  · rintro i x σ H0 H3 hi ⟨m5, m6, rfl, rfl, hc⟩ ⟨rfl, hx⟩
    have hx : x = .int (i : Nat) := hx.trans (congrArg V.int (Int.zero_add _))
    subst hx
    refine ⟨_, rfl, _, rfl, by omega, by omega, ?_⟩
    rw [en]
    refine for_it walk_range (fun j σ H4 => ∃ m6, σ = [some (.ref R), some (.int (n : Nat)), some (.ref g), some (.ref I), none, some (.int (i : Nat)), m6] ∧ H4 = H3 ∧ ∀ v, v < j → i ∈ ds → Nr ws n i v → v ∈ ds) ?_ (fun _ _ _ _ _ => trivial) ?_ ?_
    · exact ⟨m6, rfl, rfl, fun v h => absurd h (Nat.not_lt_zero _)⟩
    · rintro j x σ H0 H4 hj ⟨m6, rfl, rfl, hc2⟩ ⟨rfl, hx⟩
      have hx : x = .int (j : Nat) := hx.trans (congrArg V.int (Int.zero_add _))
      subst hx
      obtain ⟨xs, x1, x2⟩ := look (fun b o q => q) hi
      obtain ⟨ys, y1, y2⟩ := look (fun b o q => q) hj
      have more : (¬ (i ∈ ds ∧ ¬ j ∈ ds ∧ Nr ws n i j)) → ∀ v, v < j + 1 → i ∈ ds → Nr ws n i v → v ∈ ds := fun no v hv hids hn => by
        by_cases e : v = j
        · subst e
          exact Classical.byContradiction fun z => no ⟨hids, z, hn⟩
        · exact hc2 v (by omega) hids hn
      refine ⟨_, rfl, _, rfl, I, _, _, _, rfl, rfl, .inl (.inl x1), atI_nat x2, _, rfl, ?_⟩
      by_cases hids : i ∈ ds
      · rw [decide_eq_true hids]
        refine iteT ?_
        refine ⟨_, rfl, _, rfl, I, _, _, _, rfl, rfl, .inl (.inl y1), atI_nat y2, _, rfl, ?_⟩
        by_cases hjds : j ∈ ds
        · rw [decide_eq_true hjds]
          exact iteF ⟨_, rfl, rfl, more fun z => z.2.1 hjds⟩
        · rw [decide_eq_false hjds]
          refine iteT ?_
          refine ⟨_, rfl, _, rfl, _, rfl, R, ws, i, j, rfl, hR.same k2, fun w hw => ⟨by rw [hl w hw]; exact hi, by rw [hl w hw]; exact hj⟩, _, rfl, ?_⟩
          by_cases ha : nra ws i j = true
          · rw [ha]
            exact iteT ((hQ _ k2).2 fun cl => hjds (cl i j hids ((nra_iff hi hj).mp ha)))
          · have hf : nra ws i j = false := by cases h : nra ws i j with | true => exact absurd h ha | false => rfl
            rw [hf]
            exact iteF ⟨_, rfl, rfl, more fun z => ha ((nra_iff hi hj).mpr z.2.2)⟩
      · rw [decide_eq_false hids]
        exact iteF ⟨_, rfl, rfl, more fun z => hids z.1⟩
    · rintro σ H4 ⟨m6, rfl, rfl, hc2⟩
      refine ⟨_, _, rfl, rfl, fun u v hu hud hn => ?_⟩
      by_cases e : u = i
      · subst e
        exact hc2 v hn.2.1 hud hn
      · exact hc u v (by omega) hud hn
  · rintro σ H3 ⟨m5, m6, rfl, rfl, hc⟩
    exact (hQ _ k2).1 fun u v hu hn => hc u v hn.1 hu hn
end
end K02
set_option Elab.async false
set_option linter.all false
set_option maxRecDepth 100000
set_option maxHeartbeats 4000000
namespace K02
open PySem PySem.Spec PyProof.Rows L2 Ms
theorem nV_flat (l : List Nat) : (nV l).all flatV = true := List.all_eq_true.mpr fun x hx => by
  obtain ⟨n, _, rfl⟩ := List.mem_map.mp hx
  rfl
theorem rep_n (sn wn : Nat) : (List.replicate ((sn : Nat) : Int).toNat [V.int (wn : Nat)]).flatten = nV (List.replicate sn wn) := by
  have q : ((sn : Nat) : Int).toNat = sn := by omega
  rw [q]
  simp [nV]
theorem cut_head (os : List Nat) (k : Nat) : cutV (nV os) none (some ((k : Nat) : Int)) = nV (os.take k) := by
  unfold cutV
  rw [HT.sIx_nat, HT.sIx_none, List.drop_zero, nV_len, Nat.sub_zero]
  unfold nV
  rw [List.map_take]
  rcases Nat.le_total k os.length with h | h
  · rw [Nat.min_eq_left h]
  · rw [Nat.min_eq_right h, List.take_of_length_le (by rw [List.length_map]; exact Nat.le_refl _), List.take_of_length_le (by rw [List.length_map]; exact h)]
theorem cut_any (os : List Nat) (lo hi : Option Int) : ∃ l : List Nat, cutV (nV os) lo hi = nV l ∧ l.length ≤ os.length ∧ ∀ x ∈ l, x ∈ os := by
  refine ⟨(os.drop (HT.sIx (nV os).length 0 lo)).take (HT.sIx (nV os).length (nV os).length hi - HT.sIx (nV os).length 0 lo), ?_, ?_, fun x hx => List.mem_of_mem_drop (List.mem_of_mem_take hx)⟩
  · unfold cutV nV
    rw [List.map_take, List.map_drop]
  · rw [List.length_take, List.length_drop]
    omega
/-- numbers below n, at most m of them -/
def Few (n m : Nat) (l : List Nat) : Prop := l.length ≤ m ∧ ∀ x ∈ l, x < n
theorem Few.app {n a b : Nat} {l k : List Nat} (h : Few n a l) (g : Few n b k) : Few n (a + b) (l ++ k) := by
  refine ⟨by rw [List.length_append]; have := h.1; have := g.1; omega, fun x hx => ?_⟩
  rcases List.mem_append.mp hx with z | z
  · exact h.2 x z
  · exact g.2 x z
theorem Few.mono {n a b : Nat} {l : List Nat} (h : Few n a l) (e : a ≤ b) : Few n b l := ⟨Nat.le_trans h.1 e, h.2⟩
theorem Few.cut {n a : Nat} {l k : List Nat} (h : Few n a l) (e1 : k.length ≤ l.length) (e2 : ∀ x ∈ k, x ∈ l) : Few n a k := ⟨Nat.le_trans e1 h.1, fun x hx => h.2 x (e2 x hx)⟩
def spSets (K : PySem.W.Frag) : Sp := fun vs H Q _ => ∃ (a R M : Addr) (ns : List Int) (ws : List (List Nat)) (n : Nat) (met : List Nat), vs = [.ref a, .ref R, .int (n : Nat), .ref M] ∧ SqL K H a (ns.map V.int) ∧ RowsL H R ws ∧ (∀ w ∈ ws, w.length = n) ∧ 0 < n ∧ n ≤ 200 ∧
  H M = some (.lst (nV met)) ∧ Few n n met ∧ 0 < met.length ∧ ∀ H' p sets, Same H H' → H p = none → RowsL H' p sets → (∀ d ∈ sets, Few n 80000 d) → Q (.ref p) H'
section
variable {P : Program} {w : World} {K : PySem.W.Frag} {mg : Str → Option Value} {base : Heap}
theorem ok__law_sets (T : Tx K mg) : Ok P w K mg base "_law_sets" 3 (spSets K) := by
  have O__law_digits : Ok P w K mg base "_law_digits" 1 (spDigits K) := ok__law_digits T
  have O__law_cell : Ok P w K mg base "_law_cell" 1 (spCellL K) := ok__law_cell T
  have O__law_ways : Ok P w K mg base "_law_ways" 2 (spWays K) := ok__law_ways T
  refine ok_of T.a__law_sets sc_law_sets (fun vs H Q E h => ?_) bi__law_sets fun cdv A outer s H vs Q E hr h => ?_
  · obtain ⟨a, R, M, ns, ws, n, met, rfl, _⟩ := h
    rfl
  obtain ⟨a, R, M, ns, ws, n, met, rfl, ha, hR, hl, n0, n1, hM, hmet, hm0, hQ⟩ := h
  have big : (16777216 : Nat) ≤ sizeLine := by decide
  have big2 : (4000 : Int) < 2 ^ 62 := by decide
  have en : ((n : Nat) : Int).toNat = n := by omega
  refine ⟨_, (pss_cons (ps_set (i := 4) sc_law_sets.nd rfl (by first | exact Or.inl rfl | exact Or.inr rfl) (pe_c (E := EN) O__law_digits hr (by decide) (fun σ => passN σ) (pa_cons (pe_c (E := EN) O__law_cell hr (by decide) (fun σ => passN σ) (pa_cons (pv 0) (pa_cons pe_int pa_nil))) (pa_cons (pe_op op_rep (pe_lst (pa_cons pe_int pa_nil)) (pv 2)) pa_nil))))
  (pss_cons (ps_set (i := 5) sc_law_sets.nd rfl (by first | exact Or.inl rfl | exact Or.inr rfl) (pe_lst pa_nil))
  (pss_cons (ps_set (i := 6) sc_law_sets.nd rfl (by first | exact Or.inl rfl | exact Or.inr rfl) (pe_lst pa_nil))
  (pss_cons (ps_for PassesOwn.never rfl (pi_range1 rfl T.f_range (pa_cons (pv 2) pa_nil)) (pg_name (i := 7) sc_law_sets.nd rfl (by first | exact Or.inl rfl | exact Or.inr rfl))
  (pss_one (ps_if (pt_cmpR (notInK K) (pv 7) (pv 6) (by rfl))
    (pss_cons (ps_set (i := 8) sc_law_sets.nd rfl (by first | exact Or.inl rfl | exact Or.inr rfl) (pe_c (E := EN) O__law_ways hr (by decide) (fun σ => passN σ) (pa_cons (pv 1) (pa_cons (pv 2) (pa_cons (pv 7) pa_nil)))))
      (pss_cons (ps_setLc (i := 9) (own := [("j", 10)]) (g := gName 10) rfl sc_law_sets.nd rfl rfl (sw_true rfl rfl rfl (by decide +kernel)) (pi_range1 rfl T.f_range (pa_cons (pv 2) pa_nil)) (blkOk_by (N := ["script", "rows", "size", "met", "bits", "pieces", "taken", "k", "ways", "piece", "j", "place", "more", "rest", "drawn", "short"]) (sc := defScope s_law_sets) (by decide +kernel)) (fun _ _ _ _ _ => (pg_name (i := 10) sc_law_sets.nd rfl (by first | exact Or.inl rfl | exact Or.inr rfl))) (fun _ _ _ _ _ => (pts_one (pt_cmpR op_notN (pe_ix (ixL K) (pv 8) (pv 10) (fun _ _ => rfl)) pe_non (nomark _)))) (fun _ _ _ _ _ => (pv 10)))
      (pss_cons (ps_set (i := 6) sc_law_sets.nd rfl (by first | exact Or.inl rfl | exact Or.inr rfl) (pe_op op_cat (pv 6) (pv 9)))
      (pss_one (ps_set (i := 5) sc_law_sets.nd rfl (by first | exact Or.inl rfl | exact Or.inr rfl) (pe_op op_cat (pv 5) (pe_ix (ixL K) (pe_lst (pa_cons (pe_lst pa_nil) (pa_cons (pv 9) pa_nil))) (pe_ix (ixL K) (pv 4) (pv 7) (fun _ _ => rfl)) (fun _ _ => rfl))))))))
    pss_nil)))
  (pss_cons (ps_set (i := 11) sc_law_sets.nd rfl (by first | exact Or.inl rfl | exact Or.inr rfl) (pe_op op_modN (pe_callTy call_int1 (by rfl) T.f_int (by decide +kernel) (pa_cons (pe_c (E := EN) O__law_cell hr (by decide) (fun σ => passN σ) (pa_cons (pv 0) (pa_cons pe_int pa_nil))) pa_nil)) (pe_callB (lenK K) (by rfl) T.f_len boot_len (pa_cons (pv 3) pa_nil))))
  (pss_cons (ps_set (i := 12) sc_law_sets.nd rfl (by first | exact Or.inl rfl | exact Or.inr rfl) (pe_lst (pa_cons (pe_op op_modN (pe_callTy call_int1 (by rfl) T.f_int (by decide +kernel) (pa_cons (pe_c (E := EN) O__law_cell hr (by decide) (fun σ => passN σ) (pa_cons (pv 0) (pa_cons pe_int pa_nil))) pa_nil)) (pv 2)) pa_nil)))
  (pss_cons (ps_setLc (i := 13) (own := [("k", 7)]) (g := gName 7) rfl sc_law_sets.nd rfl rfl (sw_true rfl rfl rfl (by decide +kernel)) (pi_range1 rfl T.f_range (pa_cons (pv 2) pa_nil)) (blkOk_by (N := ["script", "rows", "size", "met", "bits", "pieces", "taken", "k", "ways", "piece", "j", "place", "more", "rest", "drawn", "short"]) (sc := defScope s_law_sets) (by decide +kernel)) (fun _ _ _ _ _ => (pg_name (i := 7) sc_law_sets.nd rfl (by first | exact Or.inl rfl | exact Or.inr rfl))) (fun _ _ _ _ _ => (pts_one (pt_cmpR (notInK K) (pv 7) (pv 3) (by rfl)))) (fun _ _ _ _ _ => (pv 7)))
  (pss_cons (ps_setLc (i := 14) (own := [("k", 7)]) (g := gName 7) rfl sc_law_sets.nd rfl rfl (sw_true rfl rfl rfl (by decide +kernel)) (pi_range1 rfl T.f_range (pa_cons (pv 2) pa_nil)) (blkOk_by (N := ["script", "rows", "size", "met", "bits", "pieces", "taken", "k", "ways", "piece", "j", "place", "more", "rest", "drawn", "short"]) (sc := defScope s_law_sets) (by decide +kernel)) (fun _ _ _ _ _ => (pg_name (i := 7) sc_law_sets.nd rfl (by first | exact Or.inl rfl | exact Or.inr rfl))) (fun _ _ _ _ _ => (pts_one (pt_cmpR op_eq (pe_ix (ixL K) (pv 4) (pv 7) (fun _ _ => rfl)) pe_int (nomark _)))) (fun _ _ _ _ _ => (pv 7)))
  (pss_cons (ps_set (i := 15) sc_law_sets.nd rfl (by first | exact Or.inl rfl | exact Or.inr rfl) (pe_op op_cat (pe_slice sl_list (pv 3) po_none (po_some (pv 11))) (pe_slice sl_list (pv 3) (po_some (pe_op op_add (pv 11) pe_int)) po_none)))
  (pss_one (ps_ret (pe_lst (pa_cons (pv 3) (pa_cons (pv 13) (pa_cons (pv 15) (pa_cons (pv 14) (pa_cons (pe_op op_cat (pv 5) (pe_slice sl_list (pv 5) po_none (po_some pe_int))) (pa_cons (pe_op op_cat (pv 12) (pv 5)) (pa_cons (pe_lc (own := [("k", 7)]) (g := gName 7) rfl sc_law_sets.nd (pi_range1 rfl T.f_range (pa_cons (pv 2) pa_nil)) (blkOk_by (N := ["script", "rows", "size", "met", "bits", "pieces", "taken", "k", "ways", "piece", "j", "place", "more", "rest", "drawn", "short"]) (sc := defScope s_law_sets) (by decide +kernel)) (fun _ _ _ _ _ => (pg_name (i := 7) sc_law_sets.nd rfl (by first | exact Or.inl rfl | exact Or.inr rfl))) (fun _ _ _ _ _ => pts_nil) (fun _ _ _ _ _ => (pe_op op_sub (pe_op op_sub (pv 2) pe_int) (pv 7)))) (pa_cons (pe_lst pa_nil) (pa_cons (pv 12) pa_nil))))))))))))))))))))), ?_⟩
  refine ⟨_, rfl, a, ns, 2, rfl, ha, fun c2 => ?_⟩
  refine ⟨by show 1 ≤ sizeLine; decide, fun l nl => ?_⟩
  have sl := same_new (o := .lst [.int 2]) nl
  have hl2 : upd H l (.lst [.int 2]) l = some (.lst [.int 2]) := upd_same ..
  generalize upd H l (.lst [.int 2]) = H1 at sl hl2
  refine ⟨_, rfl, l, _, _, rfl, rfl, hl2, by omega, by omega, ?_, fun p np => ?_⟩
  · show 1 * ((n : Nat) : Int).toNat ≤ sizeLine
    rw [en]; omega
  rw [show ([V.int 2] : List V) = [V.int (2 : Nat)] from rfl, rep_n n 2]
  have sp := same2 sl (same_new (o := .lst (nV (List.replicate n 2))) np)
  have hp : upd H1 p (.lst (nV (List.replicate n 2))) p = some (.lst (nV (List.replicate n 2))) := upd_same ..
  generalize upd H1 p (.lst (nV (List.replicate n 2))) = H2 at sp hp
  refine ⟨c2, p, List.replicate n 2, rfl, .inl (.inl hp), fun x hx => by rw [List.eq_of_mem_replicate hx]; decide, by rw [List.length_replicate]; omega, fun H3 B bs s3 nB hB hbl hbt => ?_⟩
  rw [List.length_replicate] at hbl
  have s3 := same2 sp s3
  have bt : ∀ i, i < n → at0 bs i < 2 := fun i hi => by
    have q := hbt i (by rw [List.length_replicate]; exact hi)
    have e : at0 (List.replicate n 2) i = 2 := at0_of (by rw [List.getElem?_replicate, if_pos hi])
    rw [e] at q
    exact q
  refine ⟨Nat.zero_le _, fun pp0 npp => ?_⟩
  have h4 := same2 s3 (same_new (o := .lst []) npp)
  have hB4 := same_new (o := .lst []) npp _ _ hB
  have hpp : upd H3 pp0 (.lst []) pp0 = some (.lst (nV [])) := upd_same ..
  generalize upd H3 pp0 (.lst []) = H4 at h4 hB4 hpp
  refine ⟨Nat.zero_le _, fun tt0 ntt => ?_⟩
  have h5 := same2 h4 (same_new (o := .lst []) ntt)
  have hB5 := same_new (o := .lst []) ntt _ _ hB4
  have hpp5 := same_new (o := .lst []) ntt _ _ hpp
  have htt : upd H4 tt0 (.lst []) tt0 = some (.lst (nV [])) := upd_same ..
  generalize upd H4 tt0 (.lst []) = H5 at h5 hB5 hpp5 htt
  refine ⟨_, rfl, _, rfl, by omega, by omega, ?_⟩
  rw [en]
  refine for_it walk_range (fun i σ H6 => ∃ (m7 m8 m9 : Option V) (pp tt : Addr) (ps tk : List Nat), σ = [some (.ref a), some (.ref R), some (.int (n : Nat)), some (.ref M), some (.ref B), some (.ref pp), some (.ref tt), m7, m8, m9, none, none, none, none, none, none] ∧
    H6 pp = some (.lst (nV ps)) ∧ H6 tt = some (.lst (nV tk)) ∧ Few n (i * n) ps ∧ tk.length ≤ i * n ∧ Same H5 H6) ?_ (fun _ _ _ _ _ => trivial) ?_ ?_
  · exact ⟨none, none, none, pp0, tt0, [], [], rfl, hpp5, htt, ⟨Nat.zero_le _, fun x hx => by cases hx⟩, Nat.zero_le _, fun b o q => q⟩
  · rintro i x σ H0 H6 hi ⟨m7, m8, m9, pp, tt, ps, tk, rfl, k1, k2, k3, k4, k5⟩ ⟨rfl, hx⟩
    have hx : x = .int (i : Nat) := hx.trans (congrArg V.int (Int.zero_add _))
    subst hx
    have mul1 : (i + 1) * n = i * n + n := by rw [Nat.add_mul, Nat.one_mul]
    have mul2 : i * n ≤ 200 * 200 := Nat.mul_le_mul (by omega) n1
    have s6 := same2 h5 k5
    refine ⟨_, rfl, _, rfl, tt, _, rfl, .inl (.inl (.inl k2)), rfl, nV_flat _, _, rfl, ?_⟩
    generalize (if true = true then !inV (V.int (i : Nat)) (nV tk) else inV (V.int (i : Nat)) (nV tk)) = bb
    cases bb with
    | false => exact iteF ⟨_, _, _, pp, tt, ps, tk, rfl, k1, k2, k3.mono (by omega), by omega, k5⟩
    | true =>
    refine iteT ?_
    refine ⟨_, rfl, _, rfl, _, rfl, R, ws, n, i, rfl, hR.same s6, hl, hi, by omega, fun H7 W wf s7 nW hW _ _ => ?_⟩
    obtain ⟨vs, v1, v2, v3⟩ := hW
    have t7 := s7 _ _ k2
    have p7 := s7 _ _ k1
    refine ⟨_, rfl, _, rfl, by omega, by omega, fun D nD => ?_⟩
    rw [en]
    refine lc_it walk_range (fun j H8 => ∃ pl : List Nat, H8 D = some (.lst (nV pl)) ∧ Few n j pl ∧ Same H7 H8) ⟨[], upd_same .., ⟨Nat.zero_le _, fun x hx => by cases hx⟩, same_new nD⟩ (fun _ _ _ _ => trivial) ?_ ?_
    · rintro j x H0 H8 hj ⟨pl, q1, q2, q3⟩ ⟨rfl, hx⟩
      have hx : x = .int (j : Nat) := hx.trans (congrArg V.int (Int.zero_add _))
      subst hx
      have g8 := q3 _ _ v1
      rcases v3 j hj with ⟨_, e2⟩ | ⟨_, t, _, e2, _, _⟩
      · refine ⟨rfl, _, rfl, _, rfl, W, _, _, _, rfl, rfl, .inl (.inl g8), atI_nat e2, rfl, _, rfl, iteF ⟨pl, q1, q2.mono (by omega), q3⟩⟩
      · refine ⟨rfl, _, rfl, _, rfl, W, _, _, _, rfl, rfl, .inl (.inl g8), atI_nat e2, rfl, _, rfl, ?_⟩
        have z : (!decide (V.ref t = V.non)) = true := by
          have no : ¬ V.ref t = V.non := fun z => by cases z
          rw [decide_eq_false no] <;> rfl
        rw [z]
        refine iteT ⟨_, rfl, _, q1, by rw [nV_len]; have := q2.1; omega, pl ++ [j], by rw [upd_same, nV_snoc], q2.app ⟨Nat.le_refl 1, fun x hx => by rw [List.mem_singleton.mp hx]; exact hj⟩, same_put nD q3⟩
    rintro H8 ⟨pl, q1, q2, q3⟩
    have t8 := q3 _ _ t7
    have p8 := q3 _ _ p7
    refine ⟨_, rfl, _, rfl, tt, D, _, _, rfl, rfl, t8, q1, by rw [nV_len, nV_len]; have := q2.1; omega, fun t9 nt9 => ?_⟩
    have e9 : nV tk ++ nV pl = nV (tk ++ pl) := by unfold nV; rw [List.map_append]
    rw [e9]
    have s9 := same_new (o := .lst (nV (tk ++ pl))) nt9
    have h9 : upd H8 t9 (.lst (nV (tk ++ pl))) t9 = some (.lst (nV (tk ++ pl))) := upd_same ..
    generalize upd H8 t9 (.lst (nV (tk ++ pl))) = H9 at s9 h9
    refine ⟨_, rfl, Nat.zero_le _, fun e0 ne0 => ?_⟩
    have s10 := same_new (o := .lst []) ne0
    have h10 : upd H9 e0 (.lst []) e0 = some (.lst (nV [])) := upd_same ..
    generalize upd H9 e0 (.lst []) = H10 at s10 h10
    refine ⟨_, rfl, by show 2 ≤ sizeLine; decide, fun L nL => ?_⟩
    have s11 := same_new (o := .lst [.ref e0, .ref D]) nL
    have h11 : upd H10 L (.lst [.ref e0, .ref D]) L = some (.lst [.ref e0, .ref D]) := upd_same ..
    generalize upd H10 L (.lst [.ref e0, .ref D]) = H11 at s11 h11
    have c11 : Same H8 H11 := same2 s9 (same2 s10 s11)
    have cB : H11 B = some (.lst (nV bs)) := c11 _ _ (q3 _ _ (s7 _ _ (k5 _ _ hB5)))
    have b2 := bt i hi
    obtain ⟨X, xl, x1, x2, x3⟩ : ∃ X xl, [V.ref e0, V.ref D][at0 bs i]? = some (.ref X) ∧ H11 X = some (.lst (nV xl)) ∧ Few n n xl := by
      rcases (by omega : at0 bs i = 0 ∨ at0 bs i = 1) with z | z
      · rw [z]; exact ⟨e0, [], rfl, s11 _ _ h10, ⟨Nat.zero_le _, fun x hx => by cases hx⟩⟩
      · rw [z]; exact ⟨D, pl, rfl, c11 _ _ q1, q2⟩
    refine ⟨_, rfl, _, rfl, B, _, _, _, rfl, rfl, .inl (.inl cB), atI_nat (nV_at0 (by rw [hbl]; exact hi)), L, _, _, .ref X, rfl, rfl, .inl (.inl h11), atI_nat x1, pp, X, _, _, rfl, rfl, c11 _ _ p8, x2, by rw [nV_len, nV_len]; have := x3.1; have := k3.1; omega, fun p12 np12 => ?_⟩
    have e12 : nV ps ++ nV xl = nV (ps ++ xl) := by unfold nV; rw [List.map_append]
    rw [e12]
    have s12 := same_new (o := .lst (nV (ps ++ xl))) np12
    refine ⟨_, _, _, p12, t9, ps ++ xl, tk ++ pl, rfl, upd_same .., s12 _ _ (s11 _ _ (s10 _ _ h9)), (k3.app x3).mono (by omega), by rw [List.length_append]; have := q2.1; omega, ?_⟩
    exact same2 k5 (same2 s7 (same2 q3 (same2 c11 s12)))
  · rintro σ H6 ⟨m7, m8, m9, pp, tt, ps, tk, rfl, k1, k2, k3, k4, k5⟩
    have mul2 : n * n ≤ 200 * 200 := Nat.mul_le_mul n1 n1
    have s6 := same2 h5 k5
    have hB6 := k5 _ _ hB5
    have hM6 := s6 _ _ hM
    have nzm : ((met.length : Nat) : Int) ≠ 0 := by omega
    have nzn : ((n : Nat) : Int) ≠ 0 := by omega
    refine ⟨_, rfl, a, ns, 3, rfl, Same.seq s6 ha, fun c3 => .inl ⟨_, rfl, _, rfl, M, _, rfl, .inl (.inl (.inl hM6)), _, _, rfl, rfl, by rw [nV_len]; exact nzm, ?_⟩⟩
    rw [nV_len]
    obtain ⟨pl, e1, l1⟩ := digit (a := c3) hm0
    dsimp only
    rw [← e1]
    refine ⟨_, rfl, a, ns, 3, rfl, Same.seq s6 ha, fun c4 => .inl ⟨_, rfl, _, rfl, _, _, rfl, rfl, nzn, ?_⟩⟩
    obtain ⟨mr, e2, l2⟩ := digit (a := c4) n0
    dsimp only
    rw [← e2]
    refine ⟨by show 1 ≤ sizeLine; decide, fun mo nmo => ?_⟩
    have s7 := same_new (o := .lst [.int (mr : Nat)]) nmo
    have h7 : upd H6 mo (.lst [.int (mr : Nat)]) mo = some (.lst (nV [mr])) := upd_same ..
    generalize upd H6 mo (.lst [.int (mr : Nat)]) = H7 at s7 h7
    have hM7 := s7 _ _ hM6
    have hB7 := s7 _ _ hB6
    have k17 := s7 _ _ k1
    have s7 := same2 s6 s7
    refine ⟨_, rfl, _, rfl, by omega, by omega, fun D nD => ?_⟩
    rw [en]
    refine lc_it walk_range (fun j H8 => ∃ pl : List Nat, H8 D = some (.lst (nV pl)) ∧ Few n j pl ∧ Same H7 H8) ⟨[], upd_same .., ⟨Nat.zero_le _, fun x hx => by cases hx⟩, same_new nD⟩ (fun _ _ _ _ => trivial) ?_ ?_
    · rintro j x H0 H8 hj ⟨pl, q1, q2, q3⟩ ⟨rfl, hx⟩
      have hx : x = .int (j : Nat) := hx.trans (congrArg V.int (Int.zero_add _))
      subst hx
      refine ⟨rfl, _, rfl, _, rfl, M, _, rfl, .inl (.inl (.inl (q3 _ _ hM7))), rfl, nV_flat _, _, rfl, ?_⟩
      generalize (if true = true then !inV (V.int (j : Nat)) (nV met) else inV (V.int (j : Nat)) (nV met)) = bb
      cases bb with
      | false => exact iteF ⟨pl, q1, q2.mono (by omega), q3⟩
      | true => exact iteT ⟨_, rfl, _, q1, by rw [nV_len]; have := q2.1; omega, pl ++ [j], by rw [upd_same, nV_snoc], q2.app ⟨Nat.le_refl 1, fun x hx => by rw [List.mem_singleton.mp hx]; exact hj⟩, same_put nD q3⟩
    rintro H8 ⟨rest, r1, r2, s8⟩
    have hM8 := s8 _ _ hM7
    have hB8 := s8 _ _ hB7
    have k18 := s8 _ _ k17
    have h8 := s8 _ _ h7
    have s8 := same2 s7 s8
    refine ⟨_, rfl, _, rfl, by omega, by omega, fun D2 nD2 => ?_⟩
    rw [en]
    refine lc_it walk_range (fun j H9 => ∃ pl : List Nat, H9 D2 = some (.lst (nV pl)) ∧ Few n j pl ∧ Same H8 H9) ⟨[], upd_same .., ⟨Nat.zero_le _, fun x hx => by cases hx⟩, same_new nD2⟩ (fun _ _ _ _ => trivial) ?_ ?_
    · rintro j x H0 H9 hj ⟨pl, q1, q2, q3⟩ ⟨rfl, hx⟩
      have hx : x = .int (j : Nat) := hx.trans (congrArg V.int (Int.zero_add _))
      subst hx
      refine ⟨rfl, _, rfl, _, rfl, B, _, _, _, rfl, rfl, .inl (.inl (q3 _ _ hB8)), atI_nat (nV_at0 (by rw [hbl]; exact hj)), rfl, _, rfl, ?_⟩
      generalize decide (V.int (at0 bs j : Nat) = V.int 1) = bb
      cases bb with
      | false => exact iteF ⟨pl, q1, q2.mono (by omega), q3⟩
      | true => exact iteT ⟨_, rfl, _, q1, by rw [nV_len]; have := q2.1; omega, pl ++ [j], by rw [upd_same, nV_snoc], q2.app ⟨Nat.le_refl 1, fun x hx => by rw [List.mem_singleton.mp hx]; exact hj⟩, same_put nD2 q3⟩
    rintro H9 ⟨drawn, d1, d2, s9⟩
    have hM9 := s9 _ _ hM8
    have k19 := s9 _ _ k18
    have h9 := s9 _ _ h8
    have r9 := s9 _ _ r1
    have s9 := same2 s8 s9
    refine ⟨_, rfl, _, rfl, _, rfl, M, _, rfl, .inl (.inl hM9), fun q nq => ?_⟩
    obtain ⟨l1, c1, c1l, c1m⟩ := cut_any met none (some ((pl : Nat) : Int))
    rw [c1]
    have sa := same_new (o := .lst (nV l1)) nq
    have ha1 : upd H9 q (.lst (nV l1)) q = some (.lst (nV l1)) := upd_same ..
    generalize upd H9 q (.lst (nV l1)) = Ha at sa ha1
    refine ⟨_, rfl, _, rfl, _, _, rfl, rfl, _, rfl, M, _, rfl, .inl (.inl (sa _ _ hM9)), fun q2 nq2 => ?_⟩
    obtain ⟨l2', c2, c2l, c2m⟩ := cut_any met (some (((pl : Nat) : Int) + 1)) none
    rw [c2]
    have sb := same_new (o := .lst (nV l2')) nq2
    have hb1 : upd Ha q2 (.lst (nV l2')) q2 = some (.lst (nV l2')) := upd_same ..
    generalize upd Ha q2 (.lst (nV l2')) = Hb at sb hb1
    have f1 := hmet.cut c1l c1m
    have f2 := hmet.cut c2l c2m
    refine ⟨q, q2, _, _, rfl, rfl, sb _ _ ha1, hb1, by rw [nV_len, nV_len]; have := f1.1; have := f2.1; omega, fun sh nsh => ?_⟩
    have esh : nV l1 ++ nV l2' = nV (l1 ++ l2') := by unfold nV; rw [List.map_append]
    rw [esh]
    have sc := same_new (o := .lst (nV (l1 ++ l2'))) nsh
    have hsh : upd Hb sh (.lst (nV (l1 ++ l2'))) sh = some (.lst (nV (l1 ++ l2'))) := upd_same ..
    generalize upd Hb sh (.lst (nV (l1 ++ l2'))) = Hc at sc hsh
    have s9c := same2 sa (same2 sb sc)
    have kc := s9c _ _ k19
    refine ⟨_, rfl, _, rfl, _, rfl, _, rfl, _, rfl, _, rfl, _, rfl, pp, _, rfl, .inl (.inl kc), fun q3 nq3 => ?_⟩
    obtain ⟨l3, c3', c3l, c3m⟩ := cut_any ps none (some 1)
    rw [c3']
    have sd := same_new (o := .lst (nV l3)) nq3
    have hd1 : upd Hc q3 (.lst (nV l3)) q3 = some (.lst (nV l3)) := upd_same ..
    generalize upd Hc q3 (.lst (nV l3)) = Hd at sd hd1
    have f3 := k3.cut c3l c3m
    refine ⟨pp, q3, _, _, rfl, rfl, sd _ _ kc, hd1, by rw [nV_len, nV_len]; have := k3.1; have := f3.1; omega, fun p5 np5 => ?_⟩
    have ep5 : nV ps ++ nV l3 = nV (ps ++ l3) := by unfold nV; rw [List.map_append]
    rw [ep5]
    have se := same_new (o := .lst (nV (ps ++ l3))) np5
    have he1 : upd Hd p5 (.lst (nV (ps ++ l3))) p5 = some (.lst (nV (ps ++ l3))) := upd_same ..
    generalize upd Hd p5 (.lst (nV (ps ++ l3))) = He at se he1
    have hmo := se _ _ (sd _ _ (s9c _ _ h9))
    refine ⟨_, rfl, _, rfl, mo, pp, _, _, rfl, rfl, hmo, se _ _ (sd _ _ kc), by rw [nV_len, nV_len, List.length_singleton]; have := k3.1; omega, fun p6 np6 => ?_⟩
    have ep6 : nV [mr] ++ nV ps = nV ([mr] ++ ps) := by unfold nV; rw [List.map_append]
    rw [ep6]
    have sf := same_new (o := .lst (nV ([mr] ++ ps))) np6
    have hf1 : upd He p6 (.lst (nV ([mr] ++ ps))) p6 = some (.lst (nV ([mr] ++ ps))) := upd_same ..
    generalize upd He p6 (.lst (nV ([mr] ++ ps))) = Hf at sf hf1
    refine ⟨_, rfl, _, rfl, by omega, by omega, fun D3 nD3 => ?_⟩
    rw [en]
    refine lc_it walk_range (fun j Hg => ∃ pl : List Nat, Hg D3 = some (.lst (nV pl)) ∧ Few n j pl ∧ Same Hf Hg) ⟨[], upd_same .., ⟨Nat.zero_le _, fun x hx => by cases hx⟩, same_new nD3⟩ (fun _ _ _ _ => trivial) ?_ ?_
    · rintro j x H0 Hg hj ⟨pl, q1, q2, q3⟩ ⟨rfl, hx⟩
      have hx : x = .int (j : Nat) := hx.trans (congrArg V.int (Int.zero_add _))
      subst hx
      refine ⟨rfl, _, rfl, _, _, rfl, rfl, _, rfl, _, _, rfl, rfl, ?_⟩
      have ev : ((n : Nat) : Int) - 1 - ((j : Nat) : Int) = ((n - 1 - j : Nat) : Int) := by omega
      dsimp only
      rw [ev]
      exact ⟨_, q1, by rw [nV_len]; have := q2.1; omega, pl ++ [n - 1 - j], by rw [upd_same, nV_snoc], q2.app ⟨Nat.le_refl 1, fun x hx => by rw [List.mem_singleton.mp hx]; omega⟩, same_put nD3 q3⟩
    rintro Hg ⟨turned, u1, u2, sg⟩
    refine ⟨Nat.zero_le _, fun em nem => ?_⟩
    have sh' := same_new (o := .lst []) nem
    have hem : upd Hg em (.lst []) em = some (.lst (nV [])) := upd_same ..
    generalize upd Hg em (.lst []) = Hh at sh' hem
    refine ⟨_, rfl, by show 9 ≤ sizeLine; decide, fun P9 nP9 => ?_⟩
    have si := same_new (o := .lst [.ref M, .ref D, .ref sh, .ref D2, .ref p5, .ref p6, .ref D3, .ref em, .ref mo]) nP9
    have sI : Same Hf (upd Hh P9 (.lst [.ref M, .ref D, .ref sh, .ref D2, .ref p5, .ref p6, .ref D3, .ref em, .ref mo])) := same2 sg (same2 sh' si)
    have sC : Same Hc (upd Hh P9 (.lst [.ref M, .ref D, .ref sh, .ref D2, .ref p5, .ref p6, .ref D3, .ref em, .ref mo])) := same2 sd (same2 se (same2 sf sI))
    have sH : Same H (upd Hh P9 (.lst [.ref M, .ref D, .ref sh, .ref D2, .ref p5, .ref p6, .ref D3, .ref em, .ref mo])) := same2 s9 (same2 s9c sC)
    have nP : H P9 = none := (same2 s9 (same2 s9c (same2 sd (same2 se (same2 sf (same2 sg sh')))))).free nP9
    refine hQ _ P9 [met, rest, l1 ++ l2', drawn, ps ++ l3, [mr] ++ ps, turned, [], [mr]] sH nP ⟨[M, D, sh, D2, p5, p6, D3, em, mo], upd_same .., ?_⟩ fun d hd => ?_
    · exact .cons (sH _ _ hM) (.cons (sC _ _ (s9c _ _ r9)) (.cons (sC _ _ hsh) (.cons (sC _ _ (s9c _ _ d1)) (.cons (sI _ _ (sf _ _ he1)) (.cons (sI _ _ hf1) (.cons (si _ _ (sh' _ _ u1)) (.cons (si _ _ hem) (.cons (sI _ _ (sf _ _ hmo)) .nil))))))))
    · have one : Few n 1 [mr] := ⟨Nat.le_refl 1, fun x hx => by rw [List.mem_singleton.mp hx]; exact l2⟩
      simp only [List.mem_cons, List.not_mem_nil, or_false] at hd
      rcases hd with rfl | rfl | rfl | rfl | rfl | rfl | rfl | rfl | rfl
      · exact hmet.mono (by omega)
      · exact r2.mono (by omega)
      · exact (f1.app f2).mono (by omega)
      · exact d2.mono (by omega)
      · exact (k3.app f3).mono (by omega)
      · exact (one.app k3).mono (by omega)
      · exact u2.mono (by omega)
      · exact ⟨Nat.zero_le _, fun x hx => by cases hx⟩
      · exact one.mono (by omega)
end
end K02
set_option Elab.async false
set_option linter.all false
set_option maxRecDepth 100000
set_option maxHeartbeats 4000000
namespace K02
open PySem PySem.Spec PyProof.Rows L2 Ms
def spErr (K : PySem.W.Frag) : Sp := fun vs H Q _ => ∃ (e : Addr) (m n : Nat), vs = [.ref e, .int (m : Nat), .int (n : Nat)] ∧ IsEx (SD K) (some [("two", .int (n : Nat)), ("one", .int (m : Nat))]) e H ∧ ∀ H', Same H H' → Q (.bl true) H'
theorem isEx_same {D e : Addr} {fs : Option (List (Str × V))} {H H' : Hp} (s : Same H H') (h : IsEx D fs e H) : IsEx D fs e H' := by
  cases fs with
  | none => exact s _ _ h
  | some l =>
    obtain ⟨dd, h1, h2⟩ := h
    exact ⟨dd, s _ _ h1, s _ _ h2⟩
section
variable {P : Program} {w : World} {K : PySem.W.Frag} {mg : Str → Option Value} {base : Heap}
theorem wok__law_error (T : Tx K mg) : WOk P w K mg base "_law_error" 2 (spErr K) := by
  have W : WOk P w K mg base "_law_whole" 1 spWhole := wok__law_whole T
  obtain ⟨fd, F⟩ := T.d__law_error
  refine ⟨⟨fd, _, Ms.FunD.warm F sc_law_error (fun vs H Q E h => ?_) (fun cdv A outer s H vs Q E hr h => ?_), F.bindsN bi__law_error⟩, T.gd__law_error, F.kp⟩
  · obtain ⟨e, m, n, rfl, _⟩ := h
    rfl
  obtain ⟨e, m, n, rfl, he, hQ⟩ := h
  refine ⟨_, (pss_cons (ps_if (PW.pt (pw_or (pt_not (pt_val (pe_callB (isK K) (by rfl) T.f_isinstance (by decide +kernel) (pa_cons (pv 0) (pa_cons (pe_glob (v := .ref (He.ga K "SizesDiffer")) rfl T.g_SizesDiffer rfl) pa_nil))))) (pw_or1 (pt_not (pt_val (pe_callB (isK K) (by rfl) T.f_isinstance (by decide +kernel) (pa_cons (pv 0) (pa_cons (pe_bltn (v := .ty "ValueError") (by rfl) T.f_ValueError (by decide +kernel) rfl) pa_nil))))))))
    (pss_one (ps_ret pe_bl))
    pss_nil)
    (pss_cons (ps_if (PW.pt (pw_or (pt_val (pe_callB (isTK K) (by rfl) T.f_isinstance (by decide +kernel) (pa_cons (pv 0) (pa_cons (pe_tup (pa_cons (pe_glob (v := .ref (He.ga K "NoDeals")) rfl T.g_NoDeals rfl) (pa_cons (pe_glob (v := .ref (He.ga K "BadLength")) rfl T.g_BadLength rfl) pa_nil))) pa_nil)))) (pw_or (pt_not (pt_val (pe_w W hr (by decide) (pa_cons (pe_exf (pv 0)) pa_nil)))) (pw_or1 (pt_not (pt_val (pe_w W hr (by decide) (pa_cons (pe_exf (pv 0)) pa_nil))))))))
    (pss_one (ps_ret pe_bl))
    pss_nil)
    (pss_one (ps_ret (pe_and (pe_cmpR op_eq (pe_exf (pv 0)) (pv 1) (nomark _)) (pe_one (pe_cmpR op_eq (pe_exf (pv 0)) (pv 2) (nomark _)))))))), ?_⟩
  refine ⟨_, rfl, .ref e, .ref (SD K), _, _, true, rfl, .own _, .ex he T.ec_SizesDiffer, T.is_SizesDiffer_SizesDiffer, true, rfl, ?_⟩
  refine iteF ?_
  refine ⟨_, rfl, .ref e, .ty "ValueError", _, _, true, rfl, .ty _, .ex he T.ec_SizesDiffer, T.is_SizesDiffer_ValueError, true, rfl, ?_⟩
  refine iteF ?_
  refine ⟨_, rfl, by show 2 ≤ sizeLine; decide, fun t nt => ?_⟩
  have s1 := same_new (o := .tup [.ref (ND K), .ref (He.ga K "BadLength")]) nt
  have he1 := isEx_same s1 he
  refine ⟨.ref e, t, _, _, _, false, rfl, upd_same .., .cons (.own _) (.cons (.own _) .nil), .ex he1 T.ec_SizesDiffer, ?_, false, rfl, ?_⟩
  · unfold PySem.W.kitAny
    rw [T.is_SizesDiffer_NoDeals]
    unfold PySem.W.kitAny
    rw [T.is_SizesDiffer_BadLength]
    rfl
  refine iteF ?_
  refine ⟨_, rfl, e, SD K, _, _, rfl, he1, T.ec_SizesDiffer, T.nS_one, rfl, _, rfl, true, rfl, ?_⟩
  refine iteF ?_
  refine ⟨_, rfl, e, SD K, _, _, rfl, he1, T.ec_SizesDiffer, T.nS_two, rfl, _, rfl, true, rfl, ?_⟩
  refine iteF ?_
  refine ⟨_, rfl, e, SD K, _, _, rfl, he1, T.ec_SizesDiffer, T.nS_one, rfl, _, rfl, rfl, _, rfl, ?_⟩
  have q1 : decide (V.int (m : Nat) = V.int (m : Nat)) = true := by simp
  have q2 : decide (V.int (n : Nat) = V.int (n : Nat)) = true := by simp
  rw [q1]
  refine iteT ?_
  refine ⟨_, rfl, e, SD K, _, _, rfl, he1, T.ec_SizesDiffer, T.nS_two, rfl, _, rfl, rfl, ?_⟩
  rw [q2]
  exact hQ _ s1
end
end K02
set_option Elab.async false
set_option linter.all false
set_option maxRecDepth 100000
set_option maxHeartbeats 800000
namespace K02
open PySem PySem.Spec PyProof.Rows L2 Ms
def spRaised (K : PySem.W.Frag) : Sp := fun vs H Q _ => ∃ (M : Addr) (rs : List (List Nat)) (m n la i : Nat) (r : List Nat), vs = [.ref M, .int (m : Nat), .int (n : Nat), .int (la : Nat)] ∧ Sights K true H M rs ∧ (rs.getD 0 []).length = m ∧ rs[i]? = some r ∧ r.length = n ∧ m ≠ n ∧
  (∀ (j : Nat) (t : List Nat), j < i → rs[j]? = some t → t.length = (rs.getD 0 []).length) ∧ ∀ H', Same H H' → Q (.int 5) H'
theorem seq_cut {a b : TS} {D : Ends} {σ : L2.St} {H : Hp} (h : ∀ D1 : Ends, D1.nx = b D → a D1 σ H) : tSeq a b D σ H := h _ rfl
section
variable {P : Program} {w : World} {K : PySem.W.Frag} {mg : Str → Option Value} {base : Heap}
theorem ok__law_raised (T : Tx K mg) : Ok P w K mg base "_law_raised" 7 (spRaised K) := by
  have O_links : Ok P w K mg base "links" 6 (spLinks K) := ok_links T
  have O_reached : Ok P w K mg base "reached" 5 (spReached K) := ok_reached T
  have O_is_closed : Ok P w K mg base "is_closed" 4 (spClosed K) := ok_is_closed T
  have W : WOk P w K mg base "_law_error" 2 (spErr K) := wok__law_error T
  refine ok_of T.a__law_raised sc_law_raised (fun vs H Q E h => ?_) bi__law_raised fun cdv A outer s H vs Q E hr h => ?_
  · obtain ⟨M, rs, m, n, la, i, r, rfl, _⟩ := h
    rfl
  obtain ⟨M, rs, m, n, la, i, r, rfl, hs, h0, h1, hr2, hne, h3, hQ⟩ := h
  refine ⟨_, (pss_cons (ps_set (i := 4) sc_law_raised.nd rfl (by first | exact Or.inl rfl | exact Or.inr rfl) pe_int)
  (pss_cons (ps_try (i := 5) rfl rfl sc_law_raised.nd rfl rfl ⟨rfl, by decide, .inl T.g_DealError⟩ rfl takes0
      (fun W1 pn xe tk _ => (pss_one (ps_expr (pe_c O_links hr (by decide) (passAt tk) (pa_cons (pv 0) (pa_cons pe_int (pa_cons (pv 3) pa_nil)))))))
      (fun a pn => (pss_one (ps_set (i := 4) sc_law_raised.nd rfl (by first | exact Or.inl rfl | exact Or.inr rfl) (pe_op op_add (pv 4) (pe_callTy call_int1 (by rfl) T.f_int (by decide +kernel) (pa_cons (pe_w W (roomW_mark hr _) (by decide) (pa_cons (pv 5) (pa_cons (pv 1) (pa_cons (pv 2) pa_nil)))) pa_nil)))))))
  (pss_cons (ps_try (i := 5) rfl rfl sc_law_raised.nd rfl rfl ⟨rfl, by decide, .inl T.g_DealError⟩ rfl takes0
      (fun W1 pn xe tk _ => (pss_one (ps_expr (pe_c O_reached hr (by decide) (passAt tk) (pa_cons (pv 0) (pa_cons (pv 3) pa_nil))))))
      (fun a pn => (pss_one (ps_set (i := 4) sc_law_raised.nd rfl (by first | exact Or.inl rfl | exact Or.inr rfl) (pe_op op_add (pv 4) (pe_callTy call_int1 (by rfl) T.f_int (by decide +kernel) (pa_cons (pe_w W (roomW_mark hr _) (by decide) (pa_cons (pv 5) (pa_cons (pv 1) (pa_cons (pv 2) pa_nil)))) pa_nil)))))))
  (pss_cons (ps_try (i := 5) rfl rfl sc_law_raised.nd rfl rfl ⟨rfl, by decide, .inl T.g_DealError⟩ rfl takes0
      (fun W1 pn xe tk _ => (pss_one (ps_expr (pe_c O_is_closed hr (by decide) (passAt tk) (pa_cons (pv 0) (pa_cons (pe_lst (pa_cons pe_int pa_nil)) pa_nil))))))
      (fun a pn => (pss_one (ps_set (i := 4) sc_law_raised.nd rfl (by first | exact Or.inl rfl | exact Or.inr rfl) (pe_op op_add (pv 4) (pe_callTy call_int1 (by rfl) T.f_int (by decide +kernel) (pa_cons (pe_w W (roomW_mark hr _) (by decide) (pa_cons (pv 5) (pa_cons (pv 1) (pa_cons (pv 2) pa_nil)))) pa_nil)))))))
  (pss_cons (ps_try (i := 5) rfl rfl sc_law_raised.nd rfl rfl ⟨rfl, by decide, .inl T.g_DealError⟩ rfl takes0
      (fun W1 pn xe tk _ => (pss_one (ps_expr (pe_c O_is_closed hr (by decide) (passAt tk) (pa_cons (pv 0) (pa_cons (pe_lst pa_nil) pa_nil))))))
      (fun a pn => (pss_one (ps_set (i := 4) sc_law_raised.nd rfl (by first | exact Or.inl rfl | exact Or.inr rfl) (pe_op op_add (pv 4) (pe_callTy call_int1 (by rfl) T.f_int (by decide +kernel) (pa_cons (pe_w W (roomW_mark hr _) (by decide) (pa_cons (pv 5) (pa_cons (pv 1) (pa_cons (pv 2) pa_nil)))) pa_nil)))))))
  (pss_cons (ps_try (i := 5) rfl rfl sc_law_raised.nd rfl rfl ⟨rfl, by decide, .inl T.g_DealError⟩ rfl takes0
      (fun W1 pn xe tk _ => (pss_one (ps_expr (pe_c O_links hr (by decide) (passAt tk) (pa_cons (pe_callTy (tupK K) (by rfl) T.f_tuple (by decide +kernel) (pa_cons (pv 0) pa_nil)) (pa_cons (pv 3) (pa_cons (pv 3) pa_nil)))))))
      (fun a pn => (pss_one (ps_set (i := 4) sc_law_raised.nd rfl (by first | exact Or.inl rfl | exact Or.inr rfl) (pe_op op_add (pv 4) (pe_callTy call_int1 (by rfl) T.f_int (by decide +kernel) (pa_cons (pe_w W (roomW_mark hr _) (by decide) (pa_cons (pv 5) (pa_cons (pv 1) (pa_cons (pv 2) pa_nil)))) pa_nil)))))))
  (pss_one (ps_ret (pv 4))))))))), ?_⟩
  refine seq_cut fun D0 f0 => ?_
  show D0.nx [some (.ref M), some (.int (m : Nat)), some (.int (n : Nat)), some (.int (la : Nat)), some (.int 0), none] H
  rw [f0]
  refine seq_cut fun D1 f1 => ?_
  refine ⟨_, rfl, _, rfl, M, true, rs, 0, la, rfl, hs, .inr ⟨i, r, h1, by rw [h0, hr2]; exact fun z => hne z.symm, h3, fun d1 H1a nd1 hd1 ho1 => ?_⟩⟩
  rw [h0, hr2] at hd1
  have sa1 : Same H H1a := fun b o z => by rw [ho1 b (fun y => by rw [y, nd1] at z; cases z)]; exact z
  refine ⟨true, T.x_SizesDiffer, fun _ e1 ne1 => ?_, fun q => nomatch q⟩
  have sb1 := same_new (o := exT e1 (.ref (SD K)) (some d1)) ne1
  refine ⟨_, rfl, _, rfl, _, rfl, _, rfl, e1, m, n, rfl, ⟨d1, upd_same .., sb1 _ _ hd1⟩, fun H1 sc1 => ?_⟩
  refine .inr ⟨_, rfl, _, _, rfl, rfl, ?_⟩
  show D1.nx [some (.ref M), some (.int (m : Nat)), some (.int (n : Nat)), some (.int (la : Nat)), some (.int 1), none] H1
  rw [f1]
  refine seq_cut fun D2 f2 => ?_
  have t1 : Same H H1 := same2 sa1 (same2 sb1 sc1)
  refine ⟨_, rfl, _, rfl, M, true, rs, la, rfl, hs.same t1, .inr ⟨i, r, h1, by rw [h0, hr2]; exact fun z => hne z.symm, h3, fun d2 H2a nd2 hd2 ho2 => ?_⟩⟩
  rw [h0, hr2] at hd2
  have sa2 : Same H1 H2a := fun b o z => by rw [ho2 b (fun y => by rw [y, nd2] at z; cases z)]; exact z
  refine ⟨true, T.x_SizesDiffer, fun _ e2 ne2 => ?_, fun q => nomatch q⟩
  have sb2 := same_new (o := exT e2 (.ref (SD K)) (some d2)) ne2
  refine ⟨_, rfl, _, rfl, _, rfl, _, rfl, e2, m, n, rfl, ⟨d2, upd_same .., sb2 _ _ hd2⟩, fun H2 sc2 => ?_⟩
  refine .inr ⟨_, rfl, _, _, rfl, rfl, ?_⟩
  show D2.nx [some (.ref M), some (.int (m : Nat)), some (.int (n : Nat)), some (.int (la : Nat)), some (.int 2), none] H2
  rw [f2]
  refine seq_cut fun D3 f3 => ?_
  have t2 : Same H H2 := same2 t1 (same2 sa2 (same2 sb2 sc2))
  refine ⟨_, rfl, by show 1 ≤ sizeLine; decide, fun g1 ng1 => ?_⟩
  have u1 := same_new (o := .lst [.int 0]) ng1
  have v1 : upd H2 g1 (.lst [.int 0]) g1 = some (.lst (nV [0])) := upd_same ..
  generalize upd H2 g1 (.lst [.int 0]) = H2b at u1 v1
  refine ⟨M, g1, true, true, rs, [0], rfl, hs.same (same2 t2 u1), .inl (.inl v1), .inr ⟨i, r, h1, by rw [h0, hr2]; exact fun z => hne z.symm, h3, fun d3 H3a nd3 hd3 ho3 => ?_⟩⟩
  rw [h0, hr2] at hd3
  have sa3 : Same H2b H3a := fun b o z => by rw [ho3 b (fun y => by rw [y, nd3] at z; cases z)]; exact z
  refine ⟨true, T.x_SizesDiffer, fun _ e3 ne3 => ?_, fun q => nomatch q⟩
  have sb3 := same_new (o := exT e3 (.ref (SD K)) (some d3)) ne3
  refine ⟨_, rfl, _, rfl, _, rfl, _, rfl, e3, m, n, rfl, ⟨d3, upd_same .., sb3 _ _ hd3⟩, fun H3 sc3 => ?_⟩
  refine .inr ⟨_, rfl, _, _, rfl, rfl, ?_⟩
  show D3.nx [some (.ref M), some (.int (m : Nat)), some (.int (n : Nat)), some (.int (la : Nat)), some (.int 3), none] H3
  rw [f3]
  refine seq_cut fun D4 f4 => ?_
  have t3 : Same H H3 := same2 t2 (same2 u1 (same2 sa3 (same2 sb3 sc3)))
  refine ⟨_, rfl, Nat.zero_le _, fun g2 ng2 => ?_⟩
  have u2 := same_new (o := .lst []) ng2
  have v2 : upd H3 g2 (.lst []) g2 = some (.lst (nV [])) := upd_same ..
  generalize upd H3 g2 (.lst []) = H3b at u2 v2
  refine ⟨M, g2, true, true, rs, [], rfl, hs.same (same2 t3 u2), .inl (.inl v2), .inr ⟨i, r, h1, by rw [h0, hr2]; exact fun z => hne z.symm, h3, fun d4 H4a nd4 hd4 ho4 => ?_⟩⟩
  rw [h0, hr2] at hd4
  have sa4 : Same H3b H4a := fun b o z => by rw [ho4 b (fun y => by rw [y, nd4] at z; cases z)]; exact z
  refine ⟨true, T.x_SizesDiffer, fun _ e4 ne4 => ?_, fun q => nomatch q⟩
  have sb4 := same_new (o := exT e4 (.ref (SD K)) (some d4)) ne4
  refine ⟨_, rfl, _, rfl, _, rfl, _, rfl, e4, m, n, rfl, ⟨d4, upd_same .., sb4 _ _ hd4⟩, fun H4 sc4 => ?_⟩
  refine .inr ⟨_, rfl, _, _, rfl, rfl, ?_⟩
  show D4.nx [some (.ref M), some (.int (m : Nat)), some (.int (n : Nat)), some (.int (la : Nat)), some (.int 4), none] H4
  rw [f4]
  refine seq_cut fun D5 f5 => ?_
  have t4 : Same H H4 := same2 t3 (same2 u2 (same2 sa4 (same2 sb4 sc4)))
  obtain ⟨ts, hs1, hp⟩ := hs.same t4
  refine ⟨_, rfl, M, _, rfl, .inl ⟨hs1, fun g3 ng3 => ?_⟩⟩
  have u3 := same_new (o := .tup (ts.map V.ref)) ng3
  have v3 : Sights K false (upd H4 g3 (.tup (ts.map V.ref))) g3 rs := ⟨ts, .inl (.inl (upd_same ..)), pimp (fun _ _ _ z => z.same u3) hp⟩
  generalize upd H4 g3 (.tup (ts.map V.ref)) = H4b at u3 v3
  refine ⟨_, rfl, _, rfl, g3, false, rs, la, la, rfl, v3, .inr ⟨i, r, h1, by rw [h0, hr2]; exact fun z => hne z.symm, h3, fun d5 H5a nd5 hd5 ho5 => ?_⟩⟩
  rw [h0, hr2] at hd5
  have sa5 : Same H4b H5a := fun b o z => by rw [ho5 b (fun y => by rw [y, nd5] at z; cases z)]; exact z
  refine ⟨true, T.x_SizesDiffer, fun _ e5 ne5 => ?_, fun q => nomatch q⟩
  have sb5 := same_new (o := exT e5 (.ref (SD K)) (some d5)) ne5
  refine ⟨_, rfl, _, rfl, _, rfl, _, rfl, e5, m, n, rfl, ⟨d5, upd_same .., sb5 _ _ hd5⟩, fun H5 sc5 => ?_⟩
  refine .inr ⟨_, rfl, _, _, rfl, rfl, ?_⟩
  show D5.nx [some (.ref M), some (.int (m : Nat)), some (.int (n : Nat)), some (.int (la : Nat)), some (.int 5), none] H5
  rw [f5]
  have t5 : Same H H5 := same2 t4 (same2 u3 (same2 sa5 (same2 sb5 sc5)))
  exact ⟨_, rfl, hQ _ t5⟩
end
end K02
set_option Elab.async false
set_option linter.all false
set_option maxRecDepth 100000
set_option maxHeartbeats 1000000
namespace K02
open PySem PySem.Spec PyProof.Rows L2 Ms
theorem cut_take (xs : List V) (k : Nat) : cutV xs none (some ((k : Nat) : Int)) = xs.take k := by
  unfold cutV
  rw [HT.sIx_nat, HT.sIx_none, List.drop_zero, Nat.sub_zero]
  rcases Nat.le_total k xs.length with h | h
  · rw [Nat.min_eq_left h]
  · rw [Nat.min_eq_right h, List.take_of_length_le (Nat.le_refl _), List.take_of_length_le h]
theorem cut_drop (xs : List V) (k : Nat) (h : k ≤ xs.length) : cutV xs (some ((k : Nat) : Int)) none = xs.drop k := by
  unfold cutV
  rw [HT.sIx_nat, HT.sIx_none, Nat.min_eq_left h]
  exact List.take_of_length_le (by rw [List.length_drop]; exact Nat.le_refl _)
theorem papp {α β : Type} {R : α → β → Prop} : ∀ {a c : List α} {b d : List β}, Paired R a b → Paired R c d → Paired R (a ++ c) (b ++ d)
  | _, _, _, _, .nil, g => g
  | _, _, _, _, .cons h t, g => .cons h (papp t g)
theorem ptake {α β : Type} {R : α → β → Prop} : ∀ {a : List α} {b : List β} (k : Nat), Paired R a b → Paired R (a.take k) (b.take k)
  | _, _, 0, _ => .nil
  | _, _, _ + 1, .nil => .nil
  | _, _, k + 1, .cons h t => .cons h (ptake k t)
theorem pdrop {α β : Type} {R : α → β → Prop} : ∀ {a : List α} {b : List β} (k : Nat), Paired R a b → Paired R (a.drop k) (b.drop k)
  | _, _, 0, h => h
  | _, _, _ + 1, .nil => .nil
  | _, _, k + 1, .cons h t => pdrop k t
def spDiffer3 (K : PySem.W.Frag) : Sp := fun vs H Q _ => ∃ (S : Addr) (rs : List (List Nat)) (n : Nat) (z : Int), vs = [.ref S, .int (n : Nat), .int z] ∧ (∃ ts : List Addr, H S = some (.lst (ts.map V.ref)) ∧ Paired (fun t r => SightAt K H t r) ts rs) ∧ 0 < rs.length ∧ rs.length ≤ 40 ∧ (∀ r ∈ rs, r.length = n) ∧ 0 < n ∧ n ≤ 200 ∧
  ∀ H', Same H H' → Q (.bl true) H'
section
variable {P : Program} {w : World} {K : PySem.W.Frag} {mg : Str → Option Value} {base : Heap}
theorem ok__law_differs (T : Tx K mg) : Ok P w K mg base "_law_differs" 8 (spDiffer3 K) := by
  have O__law_raised : Ok P w K mg base "_law_raised" 7 (spRaised K) := ok__law_raised T
  have F1 : FnR P w K mg base (L2.CX P w) 4 (recAt K "classmethod" "Sight" "nothing") (spNothing K) := fr_nothing T
  have F2 : FnR P w K mg base (L2.CX P w) 4 (recAt K "classmethod" "Sight" "everything") (spEvery K) := fr_every T
  refine ok_of T.a__law_differs sc_law_differs (fun vs H Q E h => ?_) bi__law_differs fun cdv A outer s H vs Q E hr h => ?_
  · obtain ⟨S, rs, n, z, rfl, _⟩ := h
    rfl
  obtain ⟨S, rs, n, z, rfl, ⟨ts, hS, hp⟩, k0, k1, hl, n0, n1, hQ⟩ := h
  have big : (16777216 : Nat) ≤ sizeLine := by decide
  have tl := Paired.length hp
  refine ⟨_, (pss_cons (ps_set (i := 3) sc_law_differs.nd rfl (by first | exact Or.inl rfl | exact Or.inr rfl) (pe_op op_add pe_int (pe_op op_modN (pe_callTy call_int1 (by rfl) T.f_int (by decide +kernel) (pa_cons (pv 2) pa_nil)) (pe_callB (lenK K) (by rfl) T.f_len boot_len (pa_cons (pv 0) pa_nil)))))
  (pss_cons (ps_set (i := 4) sc_law_differs.nd rfl (by first | exact Or.inl rfl | exact Or.inr rfl) (pe_op op_add (pe_op op_add (pv 1) pe_int) (pe_op op_modN (pe_op op_fdivN (pe_callTy call_int1 (by rfl) T.f_int (by decide +kernel) (pa_cons (pv 2) pa_nil)) pe_int) pe_int)))
  (pss_cons (ps_if (PW.pt (pw_and (pt_cmpR op_gt (pv 1) pe_int (nomark _)) (pw_and1 (pt_cmpR op_eq (pe_op op_modN (pe_op op_fdivN (pe_callTy call_int1 (by rfl) T.f_int (by decide +kernel) (pa_cons (pv 2) pa_nil)) pe_int) pe_int) pe_int (nomark _)))))
  (pss_one (ps_set (i := 4) sc_law_differs.nd rfl (by first | exact Or.inl rfl | exact Or.inr rfl) (pe_op op_sub (pv 1) pe_int)))
  pss_nil)
  (pss_cons (ps_set (i := 5) sc_law_differs.nd rfl (by first | exact Or.inl rfl | exact Or.inr rfl) (pe_op op_cat (pe_op op_cat (pe_op op_cat (pe_slice sl_list (pv 0) po_none (po_some (pv 3))) (pe_lst (pa_cons (ClX.pe_cmeth (pe_glob (v := .ref (He.ga K "Sight")) rfl T.g_Sight rfl) T.r_Sight T.cm_everything F2 (hr.mono (by decide)) passF (pa_cons (pv 4) pa_nil)) pa_nil))) (pe_slice sl_list (pv 0) (po_some (pv 3)) po_none)) (pe_lst (pa_cons (ClX.pe_cmeth (pe_glob (v := .ref (He.ga K "Sight")) rfl T.g_Sight rfl) T.r_Sight T.cm_nothing F1 (hr.mono (by decide)) passF (pa_cons (pe_op op_add (pv 1) pe_int) pa_nil)) pa_nil))))
  (pss_cons (ps_set (i := 6) sc_law_differs.nd rfl (by first | exact Or.inl rfl | exact Or.inr rfl) (pe_op op_sub (pe_callB (call_min2 rfl) (by rfl) T.f_min (by decide +kernel) (pa_cons (pv 1) (pa_cons (pv 4) pa_nil))) pe_int))
  (pss_one (ps_ret (pe_and (pe_cmpR op_eq (pe_c (E := EN) O__law_raised hr (by decide) (fun σ => passN σ) (pa_cons (pv 5) (pa_cons (pv 1) (pa_cons (pv 4) (pa_cons (pv 6) pa_nil))))) pe_int (nomark _)) (pe_one (pe_cmpR op_eq (pe_callB (lenK K) (by rfl) T.f_len boot_len (pa_cons (pv 5) pa_nil)) (pe_op op_add (pe_callB (lenK K) (by rfl) T.f_len boot_len (pa_cons (pv 0) pa_nil)) pe_int) (nomark _))))))))))), ?_⟩
  have nzk : (((ts.map V.ref).length : Nat) : Int) ≠ 0 := by rw [List.length_map]; omega
  refine ⟨_, rfl, .inl ⟨_, rfl, _, rfl, S, _, rfl, .inl (.inl (.inl hS)), _, _, rfl, rfl, nzk, _, _, rfl, rfl, ?_⟩⟩
  obtain ⟨pl, e1, l1⟩ := digit (a := z) (n := (ts.map V.ref).length) (by rw [List.length_map]; omega)
  rw [List.length_map, tl] at l1
  dsimp only
  rw [← e1]
  have e2 : (1 : Int) + ((pl : Nat) : Int) = ((pl + 1 : Nat) : Int) := by omega
  rw [e2]
  obtain ⟨d3, e3, l3⟩ := digit (a := z.fdiv 7) (n := 3) (by decide)
  refine ⟨_, rfl, _, _, rfl, rfl, _, rfl, .inl ⟨_, rfl, _, _, rfl, rfl, ⟨by decide, by decide⟩, _, _, rfl, rfl, by show (3 : Int) ≠ 0; decide, _, _, rfl, rfl, ?_⟩⟩
  dsimp only
  have e4 : ((n : Nat) : Int) + 1 + (z.fdiv 7).fmod 3 = ((n + 1 + d3 : Nat) : Int) := by
    have : (z.fdiv 7).fmod 3 = ((d3 : Nat) : Int) := e3.symm
    rw [this]
    omega
  rw [e4]
  refine seq_cut fun D1 f1 => ?_
  have rest : ∀ t : Nat, 0 < t → t ≠ n → t ≤ n + 3 → D1.nx [some (.ref S), some (.int (n : Nat)), some (.int z), some (.int ((pl + 1 : Nat) : Nat)), some (.int (t : Nat)), none, none] H := by
    intro t t0 tn t3
    rw [f1]
    refine ⟨_, rfl, _, rfl, _, rfl, S, _, rfl, .inl (.inl hS), fun q nq => ?_⟩
    rw [cut_take, ← List.map_take]
    have sa := same_new (o := .lst ((ts.take (pl + 1)).map V.ref)) nq
    have ha : upd H q (.lst ((ts.take (pl + 1)).map V.ref)) q = some (.lst ((ts.take (pl + 1)).map V.ref)) := upd_same ..
    generalize upd H q (.lst ((ts.take (pl + 1)).map V.ref)) = Ha at sa ha
    refine ⟨rfl, _, rfl, t, rfl, t0, by omega, fun Hb x sb nx hx => ?_⟩
    have hxl : (ren ((List.range t).map fun i => ((i : Nat) : Int))).length = t := by rw [ren_len, List.length_map, List.length_range]
    generalize ren ((List.range t).map fun i => ((i : Nat) : Int)) = er at hx hxl
    refine ⟨by show 1 ≤ sizeLine; decide, fun q2 nq2 => ?_⟩
    have sc := same_new (o := .lst [.ref x]) nq2
    have hc : upd Hb q2 (.lst [.ref x]) q2 = some (.lst [.ref x]) := upd_same ..
    generalize upd Hb q2 (.lst [.ref x]) = Hc at sc hc
    refine ⟨q, q2, _, _, rfl, rfl, sc _ _ (sb _ _ ha), hc, by rw [List.length_map, List.length_take, List.length_singleton]; omega, fun q3 nq3 => ?_⟩
    have sd := same_new (o := .lst ((ts.take (pl + 1)).map V.ref ++ [.ref x])) nq3
    have hd : upd Hc q3 (.lst ((ts.take (pl + 1)).map V.ref ++ [.ref x])) q3 = some (.lst ((ts.take (pl + 1)).map V.ref ++ [.ref x])) := upd_same ..
    generalize upd Hc q3 (.lst ((ts.take (pl + 1)).map V.ref ++ [.ref x])) = Hd at sd hd
    have sHd : Same H Hd := same2 sa (same2 sb (same2 sc sd))
    refine ⟨_, rfl, _, rfl, _, rfl, S, _, rfl, .inl (.inl (sHd _ _ hS)), fun q4 nq4 => ?_⟩
    rw [cut_drop _ _ (by rw [List.length_map]; omega), ← List.map_drop]
    have se := same_new (o := .lst ((ts.drop (pl + 1)).map V.ref)) nq4
    have he : upd Hd q4 (.lst ((ts.drop (pl + 1)).map V.ref)) q4 = some (.lst ((ts.drop (pl + 1)).map V.ref)) := upd_same ..
    generalize upd Hd q4 (.lst ((ts.drop (pl + 1)).map V.ref)) = He at se he
    refine ⟨q3, q4, _, _, rfl, rfl, se _ _ hd, he, by rw [List.length_append, List.length_map, List.length_map, List.length_take, List.length_drop, List.length_singleton]; omega, fun q5 nq5 => ?_⟩
    have sf := same_new (o := .lst (((ts.take (pl + 1)).map V.ref ++ [.ref x]) ++ (ts.drop (pl + 1)).map V.ref)) nq5
    have hf : upd He q5 (.lst (((ts.take (pl + 1)).map V.ref ++ [.ref x]) ++ (ts.drop (pl + 1)).map V.ref)) q5 = some (.lst (((ts.take (pl + 1)).map V.ref ++ [.ref x]) ++ (ts.drop (pl + 1)).map V.ref)) := upd_same ..
    generalize upd He q5 (.lst (((ts.take (pl + 1)).map V.ref ++ [.ref x]) ++ (ts.drop (pl + 1)).map V.ref)) = Hf at sf hf
    have e5 : ((n : Nat) : Int) + 4 = ((n + 4 : Nat) : Int) := by omega
    refine ⟨rfl, _, rfl, _, _, rfl, rfl, n + 4, by rw [← e5], by omega, by omega, fun Hg y sg ny hy => ?_⟩
    have hyl : (ren (List.replicate (n + 4) (0 : Int))).length = n + 4 := by rw [ren_len, List.length_replicate]
    generalize ren (List.replicate (n + 4) (0 : Int)) = nr at hy hyl
    refine ⟨by show 1 ≤ sizeLine; decide, fun q6 nq6 => ?_⟩
    have sh := same_new (o := .lst [.ref y]) nq6
    have hh : upd Hg q6 (.lst [.ref y]) q6 = some (.lst [.ref y]) := upd_same ..
    generalize upd Hg q6 (.lst [.ref y]) = Hh at sh hh
    refine ⟨q5, q6, _, _, rfl, rfl, sh _ _ (sg _ _ hf), hh, by simp only [List.length_append, List.length_map, List.length_take, List.length_drop, List.length_singleton]; omega, fun Mx nMx => ?_⟩
    have eM : ((ts.take (pl + 1)).map V.ref ++ [.ref x]) ++ (ts.drop (pl + 1)).map V.ref ++ [.ref y] = ((ts.take (pl + 1) ++ [x]) ++ ts.drop (pl + 1) ++ [y]).map V.ref := by
      simp only [List.map_append, List.map_cons, List.map_nil]
    rw [eM]
    have si := same_new (o := .lst (((ts.take (pl + 1) ++ [x]) ++ ts.drop (pl + 1) ++ [y]).map V.ref)) nMx
    have hi : upd Hh Mx (.lst (((ts.take (pl + 1) ++ [x]) ++ ts.drop (pl + 1) ++ [y]).map V.ref)) Mx = some (.lst (((ts.take (pl + 1) ++ [x]) ++ ts.drop (pl + 1) ++ [y]).map V.ref)) := upd_same ..
    generalize upd Hh Mx (.lst (((ts.take (pl + 1) ++ [x]) ++ ts.drop (pl + 1) ++ [y]).map V.ref)) = Hi at si hi
    have sHb : Same Hb Hi := same2 sc (same2 sd (same2 se (same2 sf (same2 sg (same2 sh si)))))
    have sH : Same H Hi := same2 sa (same2 sb sHb)
    have hpi := pimp (fun _ _ _ z => z.same sH) hp
    have paired : Paired (fun t r => SightAt K Hi t r) ((ts.take (pl + 1) ++ [x]) ++ ts.drop (pl + 1) ++ [y]) ((rs.take (pl + 1) ++ [er]) ++ rs.drop (pl + 1) ++ [nr]) :=
      papp (papp (papp (ptake _ hpi) (.cons (hx.same sHb) .nil)) (pdrop _ hpi)) (.cons (hy.same (same2 sh si)) .nil)
    have mn : (if ((t : Nat) : Int) < ((n : Nat) : Int) then ((t : Nat) : Int) else ((n : Nat) : Int)) = ((min n t : Nat) : Int) := by
      by_cases c : t < n
      · rw [if_pos (by omega)]; omega
      · rw [if_neg (by omega)]; omega
    refine ⟨_, rfl, _, rfl, _, _, rfl, _, _, rfl, rfl, ?_⟩
    dsimp only
    rw [mn]
    have e6 : ((min n t : Nat) : Int) - 1 = ((min n t - 1 : Nat) : Int) := by omega
    rw [e6]
    have pt : (rs.take (pl + 1)).length = pl + 1 := by rw [List.length_take]; omega
    have at0' : ((rs.take (pl + 1) ++ [er]) ++ rs.drop (pl + 1) ++ [nr]).getD 0 [] = rs.getD 0 [] := by
      rw [List.getD_eq_getElem?_getD, List.getD_eq_getElem?_getD, List.append_assoc, List.append_assoc, List.getElem?_append_left (by omega), List.getElem?_take_of_lt (by omega)]
    have r0 : (rs.getD 0 []).length = n := hl _ (by rw [List.getD_eq_getElem?_getD, getE k0]; exact List.getElem_mem k0)
    refine ⟨_, rfl, _, rfl, _, rfl, _, rfl, Mx, (rs.take (pl + 1) ++ [er]) ++ rs.drop (pl + 1) ++ [nr], n, t, min n t - 1, pl + 1, er, rfl, ⟨_, .inl (.inl hi), paired⟩, by rw [at0']; exact r0, ?_, hxl, fun e => tn e.symm, fun j u hj hu => ?_, fun Hj sj => ?_⟩
    · rw [List.append_assoc, List.append_assoc, List.getElem?_append_right (by omega), pt, Nat.sub_self] <;> rfl
    · rw [List.append_assoc, List.append_assoc, List.getElem?_append_left (by omega), List.getElem?_take_of_lt hj] at hu
      rw [at0', r0]
      exact hl u (List.mem_of_getElem? hu)
    refine ⟨rfl, true, rfl, ?_⟩
    refine iteT ?_
    refine ⟨_, rfl, Mx, _, rfl, .inl (.inl (.inl (sj _ _ hi))), _, rfl, S, _, rfl, .inl (.inl (.inl (sj _ _ (sH _ _ hS)))), _, _, rfl, rfl, rfl, ?_⟩
    have fin : decide (V.int ((((ts.take (pl + 1) ++ [x]) ++ ts.drop (pl + 1) ++ [y]).map V.ref).length : Nat) = V.int ((((ts.map V.ref).length : Nat) : Int) + 2)) = true := by
      refine decide_eq_true (congrArg V.int ?_)
      simp only [List.length_append, List.length_map, List.length_take, List.length_drop, List.length_singleton]
      omega
    have hq := hQ Hj (same2 sH sj)
    rw [← fin] at hq
    exact hq
  refine ⟨_, rfl, _, _, rfl, rfl, _, rfl, ?_⟩
  have t1 : 0 < n + 1 + d3 := by omega
  by_cases c : 1 < n
  · have zc : decide (((n : Nat) : Int) > 1) = true := decide_eq_true (by omega)
    rw [zc]
    refine iteT ?_
    refine ⟨_, rfl, .inl ⟨_, rfl, _, _, rfl, rfl, ⟨by decide, by decide⟩, _, _, rfl, rfl, by show (2 : Int) ≠ 0; decide, rfl, _, rfl, ?_⟩⟩
    dsimp only
    generalize decide (V.int ((z.fdiv 21).fmod 2) = V.int 1) = bb
    cases bb with
    | true =>
      refine iteT ⟨_, rfl, _, _, rfl, rfl, ?_⟩
      have e7 : ((n : Nat) : Int) - 1 = ((n - 1 : Nat) : Int) := by omega
      dsimp only
      rw [e7]
      exact rest (n - 1) (by omega) (by omega) (by omega)
    | false => exact iteF (rest (n + 1 + d3) t1 (by omega) (by omega))
  · have zc : decide (((n : Nat) : Int) > 1) = false := decide_eq_false (by omega)
    rw [zc]
    exact iteF (rest (n + 1 + d3) t1 (by omega) (by omega))
end
end K02
set_option Elab.async false
set_option linter.all false
set_option maxRecDepth 100000
set_option maxHeartbeats 1000000
namespace K02
open PySem PySem.Spec PyProof.Rows L2 Ms
/-- the sights' rows beside the law's own -/
structure Twin (rs ws : List (List Nat)) (n : Nat) : Prop where
  len : rs.length = ws.length
  rl : ∀ r ∈ rs, r.length = n
  row : ∀ r ∈ rs, Row r
  wl : ∀ w ∈ ws, w.length = n
  al : ∀ i, i < rs.length → ∀ u v, u < n → v < n → (at0 (rAt rs i) u = at0 (rAt rs i) v ↔ at0 (rAt ws i) u = at0 (rAt ws i) v)
  few : rs.length ≤ 40
theorem Twin.nr {rs ws : List (List Nat)} {n : Nat} (h : Twin rs ws n) (u v : Nat) : Nr rs n u v ↔ Nr ws n u v := by
  constructor
  · rintro ⟨a, b, i, c, d⟩
    exact ⟨a, b, i, by rw [← h.len]; exact c, (h.al i c u v a b).mp d⟩
  · rintro ⟨a, b, i, c, d⟩
    have c' : i < rs.length := by rw [h.len]; exact c
    exact ⟨a, b, i, c', (h.al i c' u v a b).mpr d⟩
theorem Twin.nrE {rs ws : List (List Nat)} {n : Nat} (h : Twin rs ws n) : Nr rs n = Nr ws n := by
  funext u v
  exact propext (h.nr u v)
theorem Twin.cl {rs ws : List (List Nat)} {n : Nat} (h : Twin rs ws n) (ds : List Nat) : Cl rs n ds ↔ Cl ws n ds := by
  unfold Cl
  rw [h.nrE]
theorem Twin.fit {rs ws : List (List Nat)} {n : Nat} (h : Twin rs ws n) {ds : List Nat} {m : Nat} (hd : Few n m ds) (hm : m + n ≤ 200000) : Fit rs n ds :=
  ⟨h.rl, h.row, fun _ v hv => hd.2 v hv, by have := hd.1; omega, Nat.le_trans h.few (by decide)⟩
theorem bl_eq {a b : Bool} {C : Prop} (h : a = true ↔ C) (g : b = true ↔ C) : a = b := by
  cases a <;> cases b <;> simp_all
def spAsksSets (K : PySem.W.Frag) : Sp := fun vs H Q _ => ∃ (a S R M : Addr) (ns : List Int) (rs ws : List (List Nat)) (n : Nat) (met : List Nat), vs = [.ref a, .ref S, .ref R, .int (n : Nat), .ref M] ∧ SqL K H a (ns.map V.int) ∧ Sights K true H S rs ∧ RowsL H R ws ∧ Twin rs ws n ∧ 0 < n ∧ n ≤ 200 ∧
  H M = some (.lst (nV met)) ∧ Few n n met ∧ 0 < met.length ∧ ∀ H', Same H H' → Q (.bl true) H'
section
variable {P : Program} {w : World} {K : PySem.W.Frag} {mg : Str → Option Value} {base : Heap}
theorem ok__law_asks_sets (T : Tx K mg) : Ok P w K mg base "_law_asks_sets" 5 (spAsksSets K) := by
  have O__law_sets : Ok P w K mg base "_law_sets" 3 (spSets K) := ok__law_sets T
  have O_is_closed : Ok P w K mg base "is_closed" 4 (spClosed K) := ok_is_closed T
  have O__law_closed : Ok P w K mg base "_law_closed" 2 (spClosedL K) := ok__law_closed T
  refine ok_of T.a__law_asks_sets sc_law_asks_sets (fun vs H Q E h => ?_) bi__law_asks_sets fun cdv A outer s H vs Q E hr h => ?_
  · obtain ⟨a, S, R, M, ns, rs, ws, n, met, rfl, _⟩ := h
    rfl
  obtain ⟨a, S, R, M, ns, rs, ws, n, met, rfl, ha, hs, hR, tw, n0, n1, hM, hmet, hm0, hQ⟩ := h
  have big : (16777216 : Nat) ≤ sizeLine := by decide
  refine ⟨_, (pss_cons (ps_for PassesOwn.never rfl (pi_list (pe_c (E := EN) O__law_sets hr (by decide) (fun σ => passN σ) (pa_cons (pv 0) (pa_cons (pv 2) (pa_cons (pv 3) (pa_cons (pv 4) pa_nil)))))) (pg_name (i := 5) sc_law_asks_sets.nd rfl (by first | exact Or.inl rfl | exact Or.inr rfl))
  (pss_cons (ps_set (i := 6) sc_law_asks_sets.nd rfl (by first | exact Or.inl rfl | exact Or.inr rfl) (pe_callTy (lstK K) (by rfl) T.f_list (by decide +kernel) (pa_cons (pv 5) pa_nil)))
    (pss_cons (ps_set (i := 7) sc_law_asks_sets.nd rfl (by first | exact Or.inl rfl | exact Or.inr rfl) (pe_c (E := EN) O_is_closed hr (by decide) (fun σ => passN σ) (pa_cons (pv 1) (pa_cons (pv 6) pa_nil))))
    (pss_cons (ps_set (i := 8) sc_law_asks_sets.nd rfl (by first | exact Or.inl rfl | exact Or.inr rfl) (pe_c (E := EN) O_is_closed hr (by decide) (fun σ => passN σ) (pa_cons (pe_callTy (tupK K) (by rfl) T.f_tuple (by decide +kernel) (pa_cons (pv 1) pa_nil)) (pa_cons (pe_callTy (tupK K) (by rfl) T.f_tuple (by decide +kernel) (pa_cons (pv 5) pa_nil)) pa_nil))))
    (pss_cons (ps_if (PW.pt (pw_or (pt_not (pt_val (pe_callB (isK K) (by rfl) T.f_isinstance (by decide +kernel) (pa_cons (pv 7) (pa_cons (pe_bltn (v := .ty "bool") (by rfl) T.f_bool (by decide +kernel) rfl) pa_nil))))) (pw_or (pt_not (pt_val (pe_callB (isK K) (by rfl) T.f_isinstance (by decide +kernel) (pa_cons (pv 8) (pa_cons (pe_bltn (v := .ty "bool") (by rfl) T.f_bool (by decide +kernel) rfl) pa_nil))))) (pw_or1 (pt_cmpR (neK K (hu := hr.units)) (pv 6) (pv 5) (nomark _))))))
    (pss_one (ps_ret pe_bl))
    pss_nil)
    (pss_one (ps_if (PW.pt (pw_or (pt_cmpR op_ne (pv 7) (pe_c (E := EN) O__law_closed hr (by decide) (fun σ => passN σ) (pa_cons (pv 2) (pa_cons (pv 3) (pa_cons (pv 5) pa_nil)))) (nomark _)) (pw_or1 (pt_cmpR op_ne (pv 8) (pv 7) (nomark _)))))
    (pss_one (ps_ret pe_bl))
    pss_nil)))))))
  (pss_one (ps_ret pe_bl))), ?_⟩
  refine ⟨_, rfl, _, rfl, _, rfl, _, rfl, a, R, M, ns, ws, n, met, rfl, ha, hR, tw.wl, n0, n1, hM, hmet, hm0, fun H1 p sets s1 np ⟨ts, hp1, hp2⟩ hfew => ?_⟩
  have hl := Paired.length hp2
  refine ⟨p, rfl, ⟨_, .inl (.inl hp1)⟩, for_it (walk_list (xs := ts.map V.ref)) (fun i σ H2 => ∃ (m5 m6 m7 m8 : Option V), σ = [some (.ref a), some (.ref S), some (.ref R), some (.int (n : Nat)), some (.ref M), m5, m6, m7, m8] ∧ Same H1 H2) ?_ (fun i σ H2 _ h => by obtain ⟨_, _, _, _, _, h⟩ := h; exact .inl (.inl (h _ _ hp1))) ?_ ?_⟩
  · exact ⟨none, none, none, none, rfl, fun b o q => q⟩
  · rintro i x σ H0 H2 hi ⟨m5, m6, m7, m8, rfl, s2⟩ ⟨rfl, hx⟩
    rw [List.length_map] at hi
    obtain ⟨t, ds, e1, e2, e3⟩ := pget2 hp2 hi
    rw [List.getElem?_map, e1] at hx
    cases hx
    have hfd := hfew ds (List.mem_of_getElem? e2)
    have hfit := tw.fit hfd (by omega)
    have h2 := s2 _ _ e3
    have sA : Same H H2 := same2 s1 s2
    refine ⟨_, rfl, t, _, rfl, .inl (.inl (.inl h2)), fun g ng => ?_⟩
    have sg := same_new (o := .lst (nV ds)) ng
    have hg : upd H2 g (.lst (nV ds)) g = some (.lst (nV ds)) := upd_same ..
    generalize upd H2 g (.lst (nV ds)) = H3 at sg hg
    have sB : Same H H3 := same2 sA sg
    refine ⟨_, rfl, _, rfl, S, g, true, true, rs, ds, rfl, hs.same sB, .inl (.inl hg), .inl ⟨n, hfit, fun H4 b1 s4 hb1 => ?_⟩⟩
    have sC := same2 sB s4
    obtain ⟨us, hS4, hp4⟩ := hs.same sC
    refine ⟨_, rfl, S, _, rfl, .inl ⟨hS4, fun q nq => ?_⟩⟩
    have sq := same_new (o := .tup (us.map V.ref)) nq
    have hSq : Sights K false (upd H4 q (.tup (us.map V.ref))) q rs := ⟨us, .inl (.inl (upd_same ..)), pimp (fun _ _ _ z => z.same sq) hp4⟩
    generalize upd H4 q (.tup (us.map V.ref)) = H5 at sq hSq
    refine ⟨_, rfl, t, _, rfl, .inl ⟨.inl (.inl (sq _ _ (s4 _ _ (sg _ _ h2)))), fun q2 nq2 => ?_⟩⟩
    have sq2 := same_new (o := .tup (nV ds)) nq2
    have hq2 : upd H5 q2 (.tup (nV ds)) q2 = some (.tup (nV ds)) := upd_same ..
    generalize upd H5 q2 (.tup (nV ds)) = H6 at sq2 hq2
    refine ⟨q, q2, false, false, rs, ds, rfl, hSq.same sq2, .inl (.inl hq2), .inl ⟨n, hfit, fun H7 b2 s7 hb2 => ?_⟩⟩
    have eb : b2 = b1 := bl_eq hb2 hb1
    subst eb
    have sD : Same H4 H7 := same2 sq (same2 sq2 s7)
    have hg7 := sD _ _ (s4 _ _ hg)
    have ht7 := sD _ _ (s4 _ _ (sg _ _ h2))
    refine ⟨_, rfl, .bl _, .ty "bool", _, _, true, rfl, .ty _, .of (.base (.bl _)), T.is_bool_bool, true, rfl, ?_⟩
    refine iteF ?_
    refine ⟨_, rfl, .bl _, .ty "bool", _, _, true, rfl, .ty _, .of (.base (.bl _)), T.is_bool_bool, true, rfl, ?_⟩
    refine iteF ?_
    have dp : ∀ z : Addr, H7 z = some (.lst (nV ds)) → Dp K H7 (.ref z) (.list (dI (ds.map fun n => ((n : Nat) : Int)))) := fun z hz => .lst (.inl (.inl (by rw [← nV_int]; exact hz))) (dpI _)
    refine ⟨_, rfl, _, rfl, _, _, dp g hg7, dp t ht7, shI _, shI _, _, rfl, ?_⟩
    rw [eqvL, decide_eq_true rfl]
    refine iteF ?_
    refine ⟨_, rfl, _, rfl, _, rfl, _, rfl, R, t, ws, n, ds, rfl, hR.same (same2 sC sD), tw.wl, by omega, .inl (.inl ht7), hfd.2, fun H8 b3 s8 hb3 => ?_⟩
    have eb : b3 = b2 := bl_eq hb3 (hb2.trans (tw.cl ds))
    subst eb
    refine ⟨rfl, _, rfl, ?_⟩
    have z1 : (!decide (V.bl b3 = V.bl b3)) = false := by simp
    rw [z1]
    refine iteF ?_
    refine ⟨_, rfl, _, rfl, rfl, _, rfl, ?_⟩
    rw [z1]
    exact iteF ⟨_, _, _, _, rfl, same2 s2 (same2 sg (same2 s4 (same2 sD s8)))⟩
  · rintro σ H2 ⟨m5, m6, m7, m8, rfl, s2⟩
    exact hQ H2 (same2 s1 s2)
end
end K02
set_option Elab.async false
set_option linter.all false
set_option maxRecDepth 100000
set_option maxHeartbeats 1000000
namespace K02
open PySem PySem.Spec PyProof.Rows L2 Ms
theorem fdiv_n (a b : Nat) (h : 0 < b) : ((a : Nat) : Int).fdiv (b : Nat) = ((a / b : Nat) : Int) := by
  rw [Int.fdiv_eq_ediv_of_nonneg _ (by omega)]
  exact (Int.natCast_ediv a b).symm
theorem fdiv2 (n : Nat) : ((n : Nat) : Int).fdiv 2 = ((n / 2 : Nat) : Int) := fdiv_n n 2 (by decide)
/-- what is drawn -/
def Drawn (H : Hp) (p : Addr) (n : Nat) (ws : List (List Nat)) : Prop := ∃ R, H p = some (.lst [.int (n : Nat), .ref R]) ∧ RowsL H R ws ∧ (∀ w ∈ ws, w.length = n) ∧ ws.length ≤ 8 ∧ 0 < n ∧ n ≤ 200
def spLong (K : PySem.W.Frag) : Sp := fun vs H Q _ => ∃ (a : Addr) (ns : List Int) (n : Nat), vs = [.ref a, .int (n : Nat)] ∧ SqL K H a (ns.map V.int) ∧ 0 < n ∧ n ≤ 200 ∧ ∀ H' p ws, Same H H' → H p = none → Drawn H' p n ws → Q (.ref p) H'
/-- three rows of n numbers -/
structure Three (H0 H : Hp) (R a1 a2 a3 : Addr) (n : Nat) : Prop where
  r : H R = some (.lst [.ref a1, .ref a2, .ref a3])
  w1 : ∃ w : List Nat, H a1 = some (.lst (nV w)) ∧ w.length = n
  w2 : ∃ w : List Nat, H a2 = some (.lst (nV w)) ∧ w.length = n
  w3 : ∃ w : List Nat, H a3 = some (.lst (nV w)) ∧ w.length = n
  s : Same H0 H
theorem Three.put1 {H0 H : Hp} {R a1 a2 a3 : Addr} {n : Nat} (h : Three H0 H R a1 a2 a3 n) (n1 : H0 a1 = none) (e2 : a2 ≠ a1) (e3 : a3 ≠ a1) {w : List Nat} (hw : w.length = n) : Three H0 (upd H a1 (.lst (nV w))) R a1 a2 a3 n := by
  have rn : R ≠ a1 := fun z => by
    have q := h.r
    obtain ⟨w, x, _⟩ := h.w1
    rw [z, x] at q
    cases w with
    | nil => cases q
    | cons _ _ => cases q
  exact ⟨by rw [upd_ne rn]; exact h.r, ⟨w, upd_same .., hw⟩, let ⟨w, x, y⟩ := h.w2; ⟨w, by rw [upd_ne e2]; exact x, y⟩, let ⟨w, x, y⟩ := h.w3; ⟨w, by rw [upd_ne e3]; exact x, y⟩, same_put n1 h.s⟩
theorem Three.put2 {H0 H : Hp} {R a1 a2 a3 : Addr} {n : Nat} (h : Three H0 H R a1 a2 a3 n) (n1 : H0 a2 = none) (e2 : a1 ≠ a2) (e3 : a3 ≠ a2) {w : List Nat} (hw : w.length = n) : Three H0 (upd H a2 (.lst (nV w))) R a1 a2 a3 n := by
  have rn : R ≠ a2 := fun z => by
    have q := h.r
    obtain ⟨w, x, _⟩ := h.w2
    rw [z, x] at q
    cases w with
    | nil => cases q
    | cons _ _ => cases q
  exact ⟨by rw [upd_ne rn]; exact h.r, let ⟨w, x, y⟩ := h.w1; ⟨w, by rw [upd_ne e2]; exact x, y⟩, ⟨w, upd_same .., hw⟩, let ⟨w, x, y⟩ := h.w3; ⟨w, by rw [upd_ne e3]; exact x, y⟩, same_put n1 h.s⟩
theorem Three.put3 {H0 H : Hp} {R a1 a2 a3 : Addr} {n : Nat} (h : Three H0 H R a1 a2 a3 n) (n1 : H0 a3 = none) (e2 : a1 ≠ a3) (e3 : a2 ≠ a3) {w : List Nat} (hw : w.length = n) : Three H0 (upd H a3 (.lst (nV w))) R a1 a2 a3 n := by
  have rn : R ≠ a3 := fun z => by
    have q := h.r
    obtain ⟨w, x, _⟩ := h.w3
    rw [z, x] at q
    cases w with
    | nil => cases q
    | cons _ _ => cases q
  exact ⟨by rw [upd_ne rn]; exact h.r, let ⟨w, x, y⟩ := h.w1; ⟨w, by rw [upd_ne e2]; exact x, y⟩, let ⟨w, x, y⟩ := h.w2; ⟨w, by rw [upd_ne e3]; exact x, y⟩, ⟨w, upd_same .., hw⟩, same_put n1 h.s⟩
section
variable {P : Program} {w : World} {K : PySem.W.Frag} {mg : Str → Option Value} {base : Heap}
theorem ok__law_draw_long (T : Tx K mg) : Ok P w K mg base "_law_draw_long" 2 (spLong K) := by
  have O__law_digits : Ok P w K mg base "_law_digits" 1 (spDigits K) := ok__law_digits T
  have O__law_cell : Ok P w K mg base "_law_cell" 1 (spCellL K) := ok__law_cell T
  refine ok_of T.a__law_draw_long sc_law_draw_long (fun vs H Q E h => ?_) bi__law_draw_long fun cdv A outer s H vs Q E hr h => ?_
  · obtain ⟨a, ns, n, rfl, _⟩ := h
    rfl
  obtain ⟨a, ns, n, rfl, ha, n0, n1, hQ⟩ := h
  have big : (16777216 : Nat) ≤ sizeLine := by decide
  have big2 : (4000 : Int) < 2 ^ 62 := by decide
  have en : ((n : Nat) : Int).toNat = n := by omega
  refine ⟨_, (pss_cons (ps_set (i := 2) sc_law_draw_long.nd rfl (by first | exact Or.inl rfl | exact Or.inr rfl) (pe_lst pa_nil))
  (pss_cons (ps_set (i := 3) sc_law_draw_long.nd rfl (by first | exact Or.inl rfl | exact Or.inr rfl) (pe_c (E := EN) O__law_digits hr (by decide) (fun σ => passN σ) (pa_cons (pe_c (E := EN) O__law_cell hr (by decide) (fun σ => passN σ) (pa_cons (pv 0) (pa_cons pe_int pa_nil))) (pa_cons (pe_lc (own := [("k", 4)]) (g := gName 4) rfl sc_law_draw_long.nd (pi_range1 rfl T.f_range (pa_cons (pv 1) pa_nil)) (blkOk_by (N := ["script", "size", "order", "turns", "k", "gap", "rows", "at", "one", "two", "third", "cell"]) (sc := defScope s_law_draw_long) (by decide +kernel)) (fun _ _ _ _ _ => (pg_name (i := 4) sc_law_draw_long.nd rfl (by first | exact Or.inl rfl | exact Or.inr rfl))) (fun _ _ _ _ _ => pts_nil) (fun _ _ _ _ _ => (pe_op op_add (pv 4) pe_int))) pa_nil))))
  (pss_cons (ps_for PassesOwn.never rfl (pi_range1 rfl T.f_range (pa_cons (pv 1) pa_nil)) (pg_name (i := 4) sc_law_draw_long.nd rfl (by first | exact Or.inl rfl | exact Or.inr rfl))
  (pss_one (ps_expr (pe_bm PySem.F.plainAttrs_list PySem.F.slot_list_insert PySem.F.type_list_insert mt_insert (pv 2) (pa_cons (pe_ix (ixL K) (pv 3) (pv 4) (fun _ _ => rfl)) (pa_cons (pv 4) pa_nil))))))
  (pss_cons (ps_set (i := 5) sc_law_draw_long.nd rfl (by first | exact Or.inl rfl | exact Or.inr rfl) (pe_op op_modN (pe_callTy call_int1 (by rfl) T.f_int (by decide +kernel) (pa_cons (pe_c (E := EN) O__law_cell hr (by decide) (fun σ => passN σ) (pa_cons (pv 0) (pa_cons pe_int pa_nil))) pa_nil)) (pe_op op_mul pe_int (pv 1))))
  (pss_cons (ps_set (i := 6) sc_law_draw_long.nd rfl (by first | exact Or.inl rfl | exact Or.inr rfl) (pe_lst (pa_cons (pe_lc (own := [("k", 4)]) (g := gName 4) rfl sc_law_draw_long.nd (pi_range1 rfl T.f_range (pa_cons (pv 1) pa_nil)) (blkOk_by (N := ["script", "size", "order", "turns", "k", "gap", "rows", "at", "one", "two", "third", "cell"]) (sc := defScope s_law_draw_long) (by decide +kernel)) (fun _ _ _ _ _ => (pg_name (i := 4) sc_law_draw_long.nd rfl (by first | exact Or.inl rfl | exact Or.inr rfl))) (fun _ _ _ _ _ => pts_nil) (fun _ _ _ _ _ => pe_int)) (pa_cons (pe_lc (own := [("k", 4)]) (g := gName 4) rfl sc_law_draw_long.nd (pi_range1 rfl T.f_range (pa_cons (pv 1) pa_nil)) (blkOk_by (N := ["script", "size", "order", "turns", "k", "gap", "rows", "at", "one", "two", "third", "cell"]) (sc := defScope s_law_draw_long) (by decide +kernel)) (fun _ _ _ _ _ => (pg_name (i := 4) sc_law_draw_long.nd rfl (by first | exact Or.inl rfl | exact Or.inr rfl))) (fun _ _ _ _ _ => pts_nil) (fun _ _ _ _ _ => pe_int)) (pa_cons (pe_lc (own := [("k", 4)]) (g := gName 4) rfl sc_law_draw_long.nd (pi_range1 rfl T.f_range (pa_cons (pv 1) pa_nil)) (blkOk_by (N := ["script", "size", "order", "turns", "k", "gap", "rows", "at", "one", "two", "third", "cell"]) (sc := defScope s_law_draw_long) (by decide +kernel)) (fun _ _ _ _ _ => (pg_name (i := 4) sc_law_draw_long.nd rfl (by first | exact Or.inl rfl | exact Or.inr rfl))) (fun _ _ _ _ _ => pts_nil) (fun _ _ _ _ _ => (pv 4))) pa_nil)))))
  (pss_cons (ps_for PassesOwn.never rfl (pi_range1 rfl T.f_range (pa_cons (pv 1) pa_nil)) (pg_name (i := 7) sc_law_draw_long.nd rfl (by first | exact Or.inl rfl | exact Or.inr rfl))
  (pss_cons (ps_set (i := 8) sc_law_draw_long.nd rfl (by first | exact Or.inl rfl | exact Or.inr rfl) (pe_ix (ixL K) (pv 6) pe_int (fun _ _ => rfl)))
    (pss_cons (ps_asg (pe_op op_fdivN (pv 7) pe_int) (pg_sub (pv 8) (pe_ix (ixL K) (pv 2) (pv 7) (fun _ _ => rfl)) set_list))
    (pss_cons (ps_set (i := 9) sc_law_draw_long.nd rfl (by first | exact Or.inl rfl | exact Or.inr rfl) (pe_ix (ixL K) (pv 6) pe_int (fun _ _ => rfl)))
    (pss_one (ps_asg (pe_op op_add (pe_op op_fdivN (pe_op op_add (pv 7) pe_int) pe_int) (pe_op op_mul (pe_callTy call_int1 (by rfl) T.f_int (by decide +kernel) (pa_cons (pe_cmpR op_ge (pv 7) (pv 5) (nomark _)) pa_nil)) (pv 1))) (pg_sub (pv 9) (pe_ix (ixL K) (pv 2) (pv 7) (fun _ _ => rfl)) set_list)))))))
  (pss_cons (ps_set (i := 10) sc_law_draw_long.nd rfl (by first | exact Or.inl rfl | exact Or.inr rfl) (pe_ix (ixL K) (pv 6) pe_int (fun _ _ => rfl)))
  (pss_cons (ps_for PassesOwn.never rfl (pi_list (pe_slice sl_list (pe_c (E := EN) O__law_digits hr (by decide) (fun σ => passN σ) (pa_cons (pe_c (E := EN) O__law_cell hr (by decide) (fun σ => passN σ) (pa_cons (pv 0) (pa_cons pe_int pa_nil))) (pa_cons (pe_lst (pa_cons (pv 1) (pa_cons (pv 1) (pa_cons (pv 1) pa_nil)))) pa_nil))) po_none (po_some (pe_op op_modN (pe_callTy call_int1 (by rfl) T.f_int (by decide +kernel) (pa_cons (pe_c (E := EN) O__law_cell hr (by decide) (fun σ => passN σ) (pa_cons (pv 0) (pa_cons pe_int pa_nil))) pa_nil)) pe_int)))) (pg_name (i := 11) sc_law_draw_long.nd rfl (by first | exact Or.inl rfl | exact Or.inr rfl))
  (pss_one (ps_asg (pe_ix (ixL K) (pv 10) (pe_op op_modN (pe_callTy call_int1 (by rfl) T.f_int (by decide +kernel) (pa_cons (pe_op op_add (pv 11) pe_int) pa_nil)) (pv 1)) (fun _ _ => rfl)) (pg_sub (pv 10) (pv 11) set_list))))
  (pss_one (ps_ret (pe_lst (pa_cons (pv 1) (pa_cons (pv 6) pa_nil))))))))))))), ?_⟩
  refine ⟨Nat.zero_le _, fun O nO => ?_⟩
  have s1 := same_new (o := .lst []) nO
  have hO : upd H O (.lst []) O = some (.lst (nV [])) := upd_same ..
  generalize upd H O (.lst []) = H1 at s1 hO
  refine ⟨_, rfl, a, ns, 4, rfl, Same.seq s1 ha, fun c4 => ?_⟩
  refine ⟨_, rfl, _, rfl, by omega, by omega, fun D nD => ?_⟩
  rw [en]
  refine lc_it walk_range (fun i H2 => H2 D = some (.lst (nV ((List.range i).map (· + 1)))) ∧ Same H1 H2) ⟨upd_same .., same_new nD⟩ (fun _ _ _ _ => trivial) ?_ ?_
  · rintro i x H0 H2 hi ⟨q1, q2⟩ ⟨rfl, hx⟩
    have hx : x = .int (i : Nat) := hx.trans (congrArg V.int (Int.zero_add _))
    subst hx
    refine ⟨rfl, _, rfl, _, _, rfl, rfl, _, q1, by rw [nV_len, List.length_map, List.length_range]; exact fewS (by omega), ?_, same_put nD q2⟩
    dsimp only
    rw [upd_same, show V.int (((i : Nat) : Int) + 1) = V.int ((i + 1 : Nat) : Nat) from rfl, nV_snoc, List.range_succ, List.map_append] <;> rfl
  rintro H2 ⟨hD, s2⟩
  refine ⟨c4, D, (List.range n).map (· + 1), rfl, .inl (.inl hD), fun x hx => ?_, by rw [List.length_map, List.length_range]; omega, fun H3 p ds s3 np hp hlen hlt => ?_⟩
  · obtain ⟨y, hy, rfl⟩ := List.mem_map.mp hx
    have := List.mem_range.mp hy
    omega
  rw [List.length_map, List.length_range] at hlen hlt
  have tk : ∀ k, k < n → at0 ds k < k + 1 := fun k hk => by
    have q := hlt k hk
    have e : at0 ((List.range n).map (· + 1)) k = k + 1 := at0_of (by rw [List.getElem?_map, List.getElem?_range hk] <;> rfl)
    rw [e] at q
    exact q
  have hO3 := s3 _ _ (s2 _ _ hO)
  have sH3 : Same H H3 := same2 s1 (same2 s2 s3)
  refine ⟨_, rfl, _, rfl, by omega, by omega, ?_⟩
  rw [en]
  refine for_it walk_range (fun i σ H4 => ∃ m4 os, σ = [some (.ref a), some (.int (n : Nat)), some (.ref O), some (.ref p), m4, none, none, none, none, none, none, none] ∧ H4 O = some (.lst (nV os)) ∧ os.length = i ∧ (∀ x ∈ os, x < n) ∧ Same H H4 ∧ H4 p = some (.lst (nV ds))) ⟨none, [], rfl, hO3, rfl, fun x hx => (nomatch hx), sH3, hp⟩ (fun _ _ _ _ _ => trivial) ?_ ?_
  · rintro i x σ H0 H4 hi ⟨m4, os, rfl, o1, o2, o3, o4, o5⟩ ⟨rfl, hx⟩
    have hx : x = .int (i : Nat) := hx.trans (congrArg V.int (Int.zero_add _))
    subst hx
    have Op : p ≠ O := fun z => by rw [z] at np; rw [s2 _ _ hO] at np; cases np
    refine ⟨_, rfl, .inl ⟨rfl, _, .inl (.inl o1)⟩, _, rfl, _, rfl, p, _, _, _, rfl, rfl, .inl (.inl o5), atI_nat (nV_at0 (by rw [hlen]; exact hi)), _, rfl, O, _, _, _, rfl, rfl, o1, by rw [nV_len, o2]; exact fewS (by omega), by omega, ?_, ?_⟩
    · have := tk i hi
      omega
    have et : ((at0 ds i : Nat) : Int).toNat = at0 ds i := by omega
    rw [et]
    have ei : (nV os).take (at0 ds i) ++ [.int ((i : Nat) : Int)] ++ (nV os).drop (at0 ds i) = nV (os.take (at0 ds i) ++ [i] ++ os.drop (at0 ds i)) := by
      unfold nV
      rw [List.map_append, List.map_append, List.map_take, List.map_drop] <;> rfl
    rw [ei]
    have ti := tk i hi
    refine ⟨_, _, rfl, upd_same .., by rw [List.length_append, List.length_append, List.length_take, List.length_drop, List.length_singleton]; omega, fun x hx => ?_, same_put nO o4, by rw [upd_ne Op]; exact o5⟩
    rcases List.mem_append.mp hx with z | z
    · rcases List.mem_append.mp z with z | z
      · exact o3 x (List.mem_of_mem_take z)
      · rw [List.mem_singleton.mp z]
        exact hi
    · exact o3 x (List.mem_of_mem_drop z)
  · rintro σ H4 ⟨m4, os, rfl, o1, o2, o3, s4, o5⟩
    have nz2 : (2 : Int) * ((n : Nat) : Int) ≠ 0 := by omega
    refine ⟨_, rfl, a, ns, 5, rfl, Same.seq s4 ha, fun c5 => .inl ⟨_, rfl, _, rfl, _, _, rfl, rfl, .inl ⟨by decide, by decide⟩, _, _, rfl, rfl, nz2, ?_⟩⟩
    dsimp only
    generalize c5.fmod (2 * ((n : Nat) : Int)) = gap
    refine ⟨_, rfl, _, rfl, by omega, by omega, fun a1 na1 => ?_⟩
    rw [en]
    refine lc_it walk_range (fun i H5 => H5 a1 = some (.lst (nV (List.replicate i 0))) ∧ Same H4 H5) ⟨upd_same .., same_new na1⟩ (fun _ _ _ _ => trivial) ?_ ?_
    · rintro i x H0 H5 hi ⟨q1, q2⟩ ⟨rfl, hx⟩
      refine ⟨rfl, _, q1, by rw [nV_len, List.length_replicate]; omega, ?_, same_put na1 q2⟩
      rw [upd_same, show V.int 0 = V.int ((0 : Nat) : Nat) from rfl, nV_snoc, ← List.replicate_succ']
    rintro H5 ⟨h1, s5⟩
    refine ⟨_, rfl, _, rfl, by omega, by omega, fun a2 na2 => ?_⟩
    rw [en]
    refine lc_it walk_range (fun i H6 => H6 a2 = some (.lst (nV (List.replicate i 0))) ∧ Same H5 H6) ⟨upd_same .., same_new na2⟩ (fun _ _ _ _ => trivial) ?_ ?_
    · rintro i x H0 H6 hi ⟨q1, q2⟩ ⟨rfl, hx⟩
      refine ⟨rfl, _, q1, by rw [nV_len, List.length_replicate]; omega, ?_, same_put na2 q2⟩
      rw [upd_same, show V.int 0 = V.int ((0 : Nat) : Nat) from rfl, nV_snoc, ← List.replicate_succ']
    rintro H6 ⟨h2, s6⟩
    refine ⟨_, rfl, _, rfl, by omega, by omega, fun a3 na3 => ?_⟩
    rw [en]
    refine lc_it walk_range (fun i H7 => H7 a3 = some (.lst (nV (List.range i))) ∧ Same H6 H7) ⟨upd_same .., same_new na3⟩ (fun _ _ _ _ => trivial) ?_ ?_
    · rintro i x H0 H7 hi ⟨q1, q2⟩ ⟨rfl, hx⟩
      have hx : x = .int (i : Nat) := hx.trans (congrArg V.int (Int.zero_add _))
      subst hx
      refine ⟨rfl, _, rfl, _, q1, by rw [nV_len, List.length_range]; omega, ?_, same_put na3 q2⟩
      rw [upd_same, nV_snoc, List.range_succ]
    rintro H7 ⟨h3, s7⟩
    refine ⟨by show 3 ≤ sizeLine; decide, fun R nR => ?_⟩
    have e21 : a2 ≠ a1 := fun z => by rw [z, h1] at na2; cases na2
    have e31 : a3 ≠ a1 := fun z => by rw [z, s6 _ _ h1] at na3; cases na3
    have e32 : a3 ≠ a2 := fun z => by rw [z, h2] at na3; cases na3
    have n2 : H4 a2 = none := s5.free na2
    have n3 : H4 a3 = none := s5.free (s6.free na3)
    have s47 : Same H4 H7 := same2 s5 (same2 s6 s7)
    have t8 : Three H4 (upd H7 R (.lst [.ref a1, .ref a2, .ref a3])) R a1 a2 a3 n := ⟨upd_same .., ⟨_, same_new nR _ _ (s7 _ _ (s6 _ _ h1)), by rw [List.length_replicate]⟩, ⟨_, same_new nR _ _ (s7 _ _ h2), by rw [List.length_replicate]⟩, ⟨_, same_new nR _ _ h3, by rw [List.length_range]⟩, same2 s47 (same_new nR)⟩
    generalize upd H7 R (.lst [.ref a1, .ref a2, .ref a3]) = H8 at t8
    refine ⟨_, rfl, _, rfl, by omega, by omega, ?_⟩
    rw [en]
    refine for_it walk_range (fun i σ H9 => ∃ m7 m8 m9, σ = [some (.ref a), some (.int (n : Nat)), some (.ref O), some (.ref p), m4, some (.int gap), some (.ref R), m7, m8, m9, none, none] ∧ Three H4 H9 R a1 a2 a3 n) ⟨none, none, none, rfl, t8⟩ (fun _ _ _ _ _ => trivial) ?_ ?_
    · rintro i x σ H0 H9 hi ⟨m7, m8, m9, rfl, t9⟩ ⟨rfl, hx⟩
      have hx : x = .int (i : Nat) := hx.trans (congrArg V.int (Int.zero_add _))
      subst hx
      have hio : i < os.length := by rw [o2]; exact hi
      have olt : at0 os i < n := o3 _ (List.mem_of_getElem? (of_at0 hio))
      obtain ⟨w1, x1, y1⟩ := t9.w1
      refine ⟨_, rfl, R, _, _, .ref a1, rfl, rfl, .inl (.inl t9.r), atI_nat (j := 0) rfl, ?_⟩
      refine ⟨_, rfl, _, _, rfl, rfl, ⟨by decide, by decide⟩, _, rfl, _, rfl, _, rfl, O, _, _, _, rfl, rfl, .inl (.inl (t9.s _ _ o1)), atI_nat (nV_at0 hio), a1, _, _, at0 os i, rfl, rfl, x1, ixN_n (by rw [nV_len, y1]; exact olt), ?_⟩
      dsimp only
      rw [fdiv2, nV_set]
      have t10 := t9.put1 na1 e21 e31 (w := w1.set (at0 os i) (i / 2)) (by rw [List.length_set]; exact y1)
      generalize upd H9 a1 (.lst (nV (w1.set (at0 os i) (i / 2)))) = H10 at t10
      obtain ⟨w2, x2, y2⟩ := t10.w2
      refine ⟨_, rfl, R, _, _, .ref a2, rfl, rfl, .inl (.inl t10.r), atI_nat (j := 1) rfl, ?_⟩
      refine ⟨_, rfl, _, _, rfl, rfl, _, _, rfl, rfl, ⟨by decide, by decide⟩, _, rfl, _, rfl, _, _, rfl, rfl, .inr ⟨_, rfl, _, rfl, _, _, rfl, rfl, .inl (by cases decide (((i : Nat) : Int) ≥ gap) <;> exact ⟨by decide, by decide⟩), _, _, rfl, rfl, ?_⟩⟩
      obtain ⟨v, hv⟩ : ∃ v : Nat, (((i : Nat) : Int) + 1).fdiv 2 + (if decide (((i : Nat) : Int) ≥ gap) = true then 1 else 0) * ((n : Nat) : Int) = ((v : Nat) : Int) := by
        have e1 : (((i : Nat) : Int) + 1).fdiv 2 = (((i + 1) / 2 : Nat) : Int) := fdiv2 (i + 1)
        rw [e1]
        by_cases c : decide (((i : Nat) : Int) ≥ gap) = true
        · rw [if_pos c]
          exact ⟨(i + 1) / 2 + n, by omega⟩
        · rw [if_neg c]
          exact ⟨(i + 1) / 2, by omega⟩
      dsimp only
      rw [hv]
      refine ⟨_, rfl, _, rfl, _, rfl, O, _, _, _, rfl, rfl, .inl (.inl (t10.s _ _ o1)), atI_nat (nV_at0 hio), a2, _, _, at0 os i, rfl, rfl, x2, ixN_n (by rw [nV_len, y2]; exact olt), ?_⟩
      rw [nV_set]
      exact ⟨_, _, _, rfl, t10.put2 n2 e21.symm e32 (w := w2.set (at0 os i) v) (by rw [List.length_set]; exact y2)⟩
    · rintro σ H9 ⟨m7, m8, m9, rfl, t9⟩
      refine ⟨_, rfl, R, _, _, .ref a3, rfl, rfl, .inl (.inl t9.r), atI_nat (j := 2) rfl, ?_⟩
      have s9 : Same H H9 := same2 s4 t9.s
      refine ⟨_, rfl, a, ns, 6, rfl, Same.seq s9 ha, fun c6 => ?_⟩
      refine ⟨_, rfl, _, rfl, _, rfl, by show 3 ≤ sizeLine; decide, fun l nl => ?_⟩
      have sl := same_new (o := .lst [.int (n : Nat), .int (n : Nat), .int (n : Nat)]) nl
      have hll : upd H9 l (.lst [.int (n : Nat), .int (n : Nat), .int (n : Nat)]) l = some (.lst (nV [n, n, n])) := upd_same ..
      generalize upd H9 l (.lst [.int (n : Nat), .int (n : Nat), .int (n : Nat)]) = H10 at sl hll
      refine ⟨c6, l, [n, n, n], rfl, .inl (.inl hll), fun x hx => ?_, by show 3 ≤ 16777216; decide, fun H11 q qs s11 nq hq hql hqt => ?_⟩
      · simp only [List.mem_cons, List.not_mem_nil, or_false] at hx
        omega
      have s11' : Same H H11 := same2 s9 (same2 sl s11)
      refine ⟨_, rfl, a, ns, 6, rfl, Same.seq s11' ha, fun c7 => .inl ⟨_, rfl, _, _, rfl, rfl, by show (4 : Int) ≠ 0; decide, _, rfl, q, _, rfl, .inl (.inl hq), fun q2 nq2 => ?_⟩⟩
      dsimp only
      obtain ⟨cs, ec, _, cm⟩ := cut_any qs none (some (c7.fmod 4))
      rw [ec]
      have clt : ∀ x ∈ cs, x < n := fun x hx => by
        obtain ⟨j, hj⟩ := List.getElem?_of_mem (cm x hx)
        have jl : j < 3 := by have := ltE hj; rw [hql] at this; exact this
        have z := hqt j jl
        rw [at0_of hj] at z
        have e : at0 [n, n, n] j = n := by
          rcases (by omega : j = 0 ∨ j = 1 ∨ j = 2) with rfl | rfl | rfl <;> rfl
        rw [e] at z
        exact z
      have s12 := same_new (o := .lst (nV cs)) nq2
      have hc2 : upd H11 q2 (.lst (nV cs)) q2 = some (.lst (nV cs)) := upd_same ..
      generalize upd H11 q2 (.lst (nV cs)) = H12 at s12 hc2
      have s912 : Same H9 H12 := same2 sl (same2 s11 s12)
      have t12 : Three H4 H12 R a1 a2 a3 n := ⟨s912 _ _ t9.r, let ⟨w, x, y⟩ := t9.w1; ⟨w, s912 _ _ x, y⟩, let ⟨w, x, y⟩ := t9.w2; ⟨w, s912 _ _ x, y⟩, let ⟨w, x, y⟩ := t9.w3; ⟨w, s912 _ _ x, y⟩, same2 t9.s s912⟩
      have q23 : q2 ≠ a3 := fun z => by
        obtain ⟨w, x, _⟩ := t9.w3
        rw [z] at nq2
        rw [s11 _ _ (sl _ _ x)] at nq2
        cases nq2
      refine ⟨q2, rfl, ⟨_, .inl (.inl hc2)⟩, ?_⟩
      refine for_it (D := { nx := tRet (tLst (tCons (tVar 1) (tCons (tVar 6) tNil))) { nx := fun _ H' => Q V.non H', rt := Q }, rt := Q }) (walk_list (K := K) (a := q2) (xs := nV cs)) (fun i σ H13 => ∃ m11, σ = [some (.ref a), some (.int (n : Nat)), some (.ref O), some (.ref p), m4, some (.int gap), some (.ref R), m7, m8, m9, some (.ref a3), m11] ∧ Three H4 H13 R a1 a2 a3 n ∧ H13 q2 = some (.lst (nV cs))) ?_ (fun i σ H13 _ h => by obtain ⟨_, _, _, h⟩ := h; exact .inl (.inl h)) ?_ ?_
      · exact ⟨none, rfl, t12, hc2⟩
      · rintro i x σ H0 H13 hi ⟨m11, rfl, t13, g13⟩ ⟨rfl, hx⟩
        rw [nV_len] at hi
        have hx : x = .int (at0 cs i : Nat) := by
          have q := nV_at0 hi
          rw [hx] at q
          exact Option.some.inj q
        subst hx
        have cl := clt _ (List.mem_of_getElem? (of_at0 hi))
        obtain ⟨w3, x3, y3⟩ := t13.w3
        have nzn : ((n : Nat) : Int) ≠ 0 := by omega
        obtain ⟨d, ed, ld⟩ := digit (a := ((at0 cs i : Nat) : Int) + 5) n0
        refine ⟨_, rfl, _, rfl, _, _, rfl, rfl, .inl ⟨_, rfl, _, rfl, _, _, rfl, rfl, nzn, a3, _, _, .int (at0 w3 d : Nat), rfl, rfl, .inl (.inl x3), by rw [← ed]; exact atI_nat (nV_at0 (by rw [y3]; exact ld)), _, rfl, _, rfl, a3, _, _, at0 cs i, rfl, rfl, x3, ixN_n (by rw [nV_len, y3]; exact cl), ?_⟩⟩
        rw [nV_set]
        exact ⟨_, rfl, t13.put3 n3 e31.symm e32.symm (w := w3.set (at0 cs i) (at0 w3 d)) (by rw [List.length_set]; exact y3), by rw [upd_ne q23]; exact g13⟩
      · rintro σ H13 ⟨m11, rfl, t13, _⟩
        refine ⟨_, rfl, _, rfl, by show 2 ≤ sizeLine; decide, fun z nz => ?_⟩
        obtain ⟨w1, x1, y1⟩ := t13.w1
        obtain ⟨w2, x2, y2⟩ := t13.w2
        obtain ⟨w3, x3, y3⟩ := t13.w3
        have sz := same_new (o := .lst [.int (n : Nat), .ref R]) nz
        have sH := same2 s4 t13.s
        refine hQ _ z [w1, w2, w3] (same2 sH sz) (sH.free nz) ⟨R, upd_same .., ⟨[a1, a2, a3], sz _ _ t13.r, .cons (sz _ _ x1) (.cons (sz _ _ x2) (.cons (sz _ _ x3) .nil))⟩, fun w hw => ?_, by show 3 ≤ 8; decide, n0, n1⟩
        simp only [List.mem_cons, List.not_mem_nil, or_false] at hw
        rcases hw with rfl | rfl | rfl
        · exact y1
        · exact y2
        · exact y3
end
end K02
set_option Elab.async false
set_option linter.all false
set_option maxRecDepth 100000
set_option maxHeartbeats 1000000
namespace K02
open PySem PySem.Spec PyProof.Rows L2 Ms
theorem pick {zs : List Int} {n : Nat} (h : n < zs.length) : (zs.map V.int)[n]? = some (.int (zs.getD n 0)) ∧ zs.getD n 0 ∈ zs := by
  rw [List.getElem?_map, getE h, List.getD_eq_getElem?_getD, getE h]
  exact ⟨rfl, List.getElem_mem h⟩
def spDraw (K : PySem.W.Frag) : Sp := fun vs H Q _ => ∃ (a : Addr) (ns : List Int), vs = [.ref a] ∧ SqL K H a (ns.map V.int) ∧ ∀ H' p n ws, Same H H' → H p = none → Drawn H' p n ws → Q (.ref p) H'
/-- rows while they are made -/
def RowsX (H : Hp) (R : Addr) (n : Nat) (ws : List (List Nat)) : Prop := ∃ ts : List Addr, H R = some (.lst (ts.map V.ref)) ∧ Paired (fun t w => t ≠ R ∧ H t = some (.lst (nV w))) ts ws ∧ ∀ w ∈ ws, w.length = n
section
variable {P : Program} {w : World} {K : PySem.W.Frag} {mg : Str → Option Value} {base : Heap}
theorem ok__law_draw (T : Tx K mg) : Ok P w K mg base "_law_draw" 3 (spDraw K) := by
  have O__law_digits : Ok P w K mg base "_law_digits" 1 (spDigits K) := ok__law_digits T
  have O__law_cell : Ok P w K mg base "_law_cell" 1 (spCellL K) := ok__law_cell T
  have O__law_draw_long : Ok P w K mg base "_law_draw_long" 2 (spLong K) := ok__law_draw_long T
  refine ok_of T.a__law_draw sc_law_draw (fun vs H Q E h => ?_) bi__law_draw fun cdv A outer s H vs Q E hr h => ?_
  · obtain ⟨a, ns, rfl, _⟩ := h
    rfl
  obtain ⟨a, ns, rfl, ha, hQ⟩ := h
  have big : (16777216 : Nat) ≤ sizeLine := by decide
  refine ⟨_, (pss_cons (ps_set (i := 1) sc_law_draw.nd rfl (by first | exact Or.inl rfl | exact Or.inr rfl) (pe_c (E := EN) O__law_digits hr (by decide) (fun σ => passN σ) (pa_cons (pe_c (E := EN) O__law_cell hr (by decide) (fun σ => passN σ) (pa_cons (pv 0) (pa_cons pe_int pa_nil))) (pa_cons (pe_lst (pa_cons pe_int (pa_cons pe_int (pa_cons pe_int (pa_cons pe_int (pa_cons pe_int pa_nil)))))) pa_nil))))
  (pss_cons (ps_if (pt_cmpR op_eq (pe_ix (ixL K) (pv 1) pe_int (fun _ _ => rfl)) pe_int (nomark _))
  (pss_one (ps_ret (pe_c (E := EN) O__law_draw_long hr (by decide) (fun σ => passN σ) (pa_cons (pv 0) (pa_cons (pe_op op_add pe_int (pe_ix (ixL K) (pv 1) pe_int (fun _ _ => rfl))) pa_nil)))))
  pss_nil)
  (pss_cons (ps_set (i := 2) sc_law_draw.nd rfl (by first | exact Or.inl rfl | exact Or.inr rfl) (pe_ix (ixL K) (pe_lst (pa_cons pe_int (pa_cons pe_int (pa_cons pe_int (pa_cons pe_int (pa_cons pe_int (pa_cons pe_int (pa_cons pe_int (pa_cons pe_int (pa_cons pe_int (pa_cons pe_int (pa_cons pe_int (pa_cons pe_int (pa_cons pe_int (pa_cons pe_int pa_nil))))))))))))))) (pe_ix (ixL K) (pv 1) pe_int (fun _ _ => rfl)) (fun _ _ => rfl)))
  (pss_cons (ps_set (i := 3) sc_law_draw.nd rfl (by first | exact Or.inl rfl | exact Or.inr rfl) (pe_ix (ixL K) (pe_lst (pa_cons pe_int (pa_cons pe_int (pa_cons pe_int (pa_cons pe_int (pa_cons pe_int (pa_cons pe_int (pa_cons pe_int (pa_cons pe_int (pa_cons pe_int (pa_cons pe_int (pa_cons pe_int (pa_cons pe_int pa_nil))))))))))))) (pe_ix (ixL K) (pv 1) pe_int (fun _ _ => rfl)) (fun _ _ => rfl)))
  (pss_cons (ps_set (i := 4) sc_law_draw.nd rfl (by first | exact Or.inl rfl | exact Or.inr rfl) (pe_lst pa_nil))
  (pss_cons (ps_for PassesOwn.never rfl (pi_range1 rfl T.f_range (pa_cons (pv 3) pa_nil)) (pg_name (i := 5) sc_law_draw.nd rfl (by first | exact Or.inl rfl | exact Or.inr rfl))
  (pss_cons (ps_set (i := 6) sc_law_draw.nd rfl (by first | exact Or.inl rfl | exact Or.inr rfl) (pe_ix (ixL K) (pe_lst (pa_cons (pv 2) (pa_cons (pe_op op_add (pv 2) (pe_op op_fdivN (pv 2) pe_int)) (pa_cons (pe_op op_add (pe_op op_fdivN (pe_op op_mul pe_int (pv 2)) pe_int) pe_int) (pa_cons (pe_op op_add (pe_op op_fdivN (pv 2) pe_int) pe_int) pa_nil))))) (pe_op op_modN (pe_callTy call_int1 (by rfl) T.f_int (by decide +kernel) (pa_cons (pe_op op_add (pe_ix (ixL K) (pv 1) pe_int (fun _ _ => rfl)) (pv 5)) pa_nil)) pe_int) (fun _ _ => rfl)))
    (pss_cons (ps_if (pt_cmpR op_eq (pe_ix (ixL K) (pv 1) pe_int (fun _ _ => rfl)) pe_int (nomark _))
    (pss_one (ps_set (i := 6) sc_law_draw.nd rfl (by first | exact Or.inl rfl | exact Or.inr rfl) (pv 2)))
    pss_nil)
    (pss_cons (ps_if (pt_cmpR op_gt (pv 3) pe_int (nomark _))
    (pss_one (ps_set (i := 6) sc_law_draw.nd rfl (by first | exact Or.inl rfl | exact Or.inr rfl) (pe_op op_add (pv 6) (pv 2))))
    pss_nil)
    (pss_one (ps_expr (pe_bm PySem.F.plainAttrs_list PySem.F.slot_list_append PySem.F.type_list_append mt_append (pv 4) (pa_cons (pe_c (E := EN) O__law_digits hr (by decide) (fun σ => passN σ) (pa_cons (pe_c (E := EN) O__law_cell hr (by decide) (fun σ => passN σ) (pa_cons (pv 0) (pa_cons (pe_op op_add pe_int (pv 5)) pa_nil))) (pa_cons (pe_op op_rep (pe_lst (pa_cons (pv 6) pa_nil)) (pv 2)) pa_nil))) pa_nil))))))))
  (pss_one (ps_ret (pe_lst (pa_cons (pv 2) (pa_cons (pv 4) pa_nil))))))))))), ?_⟩
  refine ⟨_, rfl, a, ns, 0, rfl, ha, fun c0 => ?_⟩
  refine ⟨by show 5 ≤ sizeLine; decide, fun l0 nl0 => ?_⟩
  have s0 := same_new (o := .lst [.int 8, .int 14, .int 12, .int 5, .int 110]) nl0
  refine ⟨c0, l0, [8, 14, 12, 5, 110], rfl, .inl (.inl (upd_same ..)), by decide, by decide, fun H1 p ds s1 np hp hlen hlt => ?_⟩
  have sH1 := same2 s0 s1
  have dlt : ∀ i, i < 5 → i < ds.length := fun i hi => by rw [hlen]; exact hi
  have d1 : at0 ds 1 < 14 := hlt 1 (by decide)
  have d2 : at0 ds 2 < 12 := hlt 2 (by decide)
  have d3 : at0 ds 3 < 5 := hlt 3 (by decide)
  have d4 : at0 ds 4 < 110 := hlt 4 (by decide)
  have rd : ∀ i, i < 5 → ∀ {H' : Hp}, Same H1 H' → SqL K H' p (nV ds) ∧ atI (nV ds) ((i : Nat) : Int) = some (.int (at0 ds i : Nat)) := fun i hi H' s => ⟨.inl (.inl (s _ _ hp)), atI_nat (nV_at0 (dlt i hi))⟩
  have rf : Same H1 H1 := fun b o q => q
  refine ⟨_, rfl, p, _, _, _, rfl, rfl, (rd 0 (by decide) rf).1, (rd 0 (by decide) rf).2, rfl, _, rfl, ?_⟩
  refine ite2 (fun _ => ?_) (fun _ => ?_)
  · refine ⟨_, rfl, _, rfl, p, _, _, _, rfl, rfl, (rd 4 (by decide) rf).1, (rd 4 (by decide) rf).2, _, _, rfl, rfl, ?_⟩
    have e1 : (15 : Int) + ((at0 ds 4 : Nat) : Int) = ((15 + at0 ds 4 : Nat) : Int) := by omega
    dsimp only
    rw [e1]
    exact ⟨a, ns, 15 + at0 ds 4, rfl, Same.seq sH1 ha, by omega, by omega, fun H' q ws s2 nq hd => hQ H' q _ ws (same2 sH1 s2) (sH1.free nq) hd⟩
  refine ⟨by show 14 ≤ sizeLine; decide, fun q2 nq2 => ?_⟩
  obtain ⟨k1, k2⟩ := pick (zs := [6, 8, 4, 9, 5, 10, 7, 3, 2, 11, 12, 14, 13, 1]) (n := at0 ds 1) d1
  have kb : ∀ z ∈ ([6, 8, 4, 9, 5, 10, 7, 3, 2, 11, 12, 14, 13, 1] : List Int), 0 < z ∧ z < 15 := by decide
  have hsz := kb _ k2
  have s2 := same_new (o := .lst [.int 6, .int 8, .int 4, .int 9, .int 5, .int 10, .int 7, .int 3, .int 2, .int 11, .int 12, .int 14, .int 13, .int 1]) nq2
  refine ⟨_, rfl, p, _, _, _, rfl, rfl, (rd 1 (by decide) s2).1, (rd 1 (by decide) s2).2, q2, _, _, _, rfl, rfl, .inl (.inl (upd_same ..)), atI_nat k1, ?_⟩
  generalize ([6, 8, 4, 9, 5, 10, 7, 3, 2, 11, 12, 14, 13, 1] : List Int).getD (at0 ds 1) 0 = size at hsz
  generalize upd H1 q2 (.lst [.int 6, .int 8, .int 4, .int 9, .int 5, .int 10, .int 7, .int 3, .int 2, .int 11, .int 12, .int 14, .int 13, .int 1]) = H2 at s2
  refine ⟨by show 12 ≤ sizeLine; decide, fun q3 nq3 => ?_⟩
  obtain ⟨k3, k4⟩ := pick (zs := [2, 3, 2, 1, 4, 3, 8, 0, 5, 2, 6, 7]) (n := at0 ds 2) d2
  have kb2 : ∀ z ∈ ([2, 3, 2, 1, 4, 3, 8, 0, 5, 2, 6, 7] : List Int), 0 ≤ z ∧ z < 9 := by decide
  have hmn := kb2 _ k4
  have s3 := same2 s2 (same_new (o := .lst [.int 2, .int 3, .int 2, .int 1, .int 4, .int 3, .int 8, .int 0, .int 5, .int 2, .int 6, .int 7]) nq3)
  refine ⟨_, rfl, p, _, _, _, rfl, rfl, (rd 2 (by decide) s3).1, (rd 2 (by decide) s3).2, q3, _, _, _, rfl, rfl, .inl (.inl (upd_same ..)), atI_nat k3, ?_⟩
  generalize ([2, 3, 2, 1, 4, 3, 8, 0, 5, 2, 6, 7] : List Int).getD (at0 ds 2) 0 = many at hmn
  generalize upd H2 q3 (.lst [.int 2, .int 3, .int 2, .int 1, .int 4, .int 3, .int 8, .int 0, .int 5, .int 2, .int 6, .int 7]) = H3 at s3
  obtain ⟨n, rfl⟩ : ∃ n : Nat, size = (n : Nat) := ⟨size.toNat, by omega⟩
  obtain ⟨m, rfl⟩ : ∃ m : Nat, many = (m : Nat) := ⟨many.toNat, by omega⟩
  have n0 : 0 < n := by omega
  have n1 : n < 15 := by omega
  have m1 : m < 9 := by omega
  refine ⟨Nat.zero_le _, fun R nR => ?_⟩
  have s4 := same2 s3 (same_new (o := .lst []) nR)
  have hR : RowsX (upd H3 R (.lst [])) R n [] := ⟨[], upd_same .., .nil, fun w hw => by cases hw⟩
  have nR1 : H1 R = none := s3.free nR
  generalize upd H3 R (.lst []) = H4 at s4 hR
  have big2 : (4000 : Int) < 2 ^ 62 := by decide
  refine ⟨_, rfl, _, rfl, by omega, by omega, ?_⟩
  have em : ((m : Nat) : Int).toNat = m := by omega
  rw [em]
  refine for_it walk_range (fun i σ H5 => ∃ m5 m6 ws, σ = [some (.ref a), some (.ref p), some (.int (n : Nat)), some (.int (m : Nat)), some (.ref R), m5, m6] ∧ RowsX H5 R n ws ∧ ws.length = i ∧ Same H1 H5) ⟨none, none, [], rfl, hR, rfl, s4⟩ (fun _ _ _ _ _ => trivial) ?_ ?_
  · rintro i x σ H0 H5 hi ⟨m5, m6, ws, rfl, hX, hw, s5⟩ ⟨rfl, hx⟩
    have hx : x = .int (i : Nat) := hx.trans (congrArg V.int (Int.zero_add _))
    subst hx
    refine seq_cut fun D1 f1 => ?_
    have step1 : ∀ (H6 : Hp) (v : Nat), Same H5 H6 → 0 < v → v < 100 → D1.nx [some (.ref a), some (.ref p), some (.int (n : Nat)), some (.int (m : Nat)), some (.ref R), some (.int (i : Nat)), some (.int (v : Nat))] H6 := by
      intro H6 v s6 v0 v1
      have s16 := same2 s5 s6
      rw [f1]
      refine seq_cut fun D2 f2 => ?_
      have step2 : ∀ (v : Nat), 0 < v → v < 200 → D2.nx [some (.ref a), some (.ref p), some (.int (n : Nat)), some (.int (m : Nat)), some (.ref R), some (.int (i : Nat)), some (.int (v : Nat))] H6 := by
        intro v v0 v1
        rw [f2]
        refine seq_cut fun D3 f3 => ?_
        have step3 : ∀ (v : Nat), 0 < v → v < 300 → D3.nx [some (.ref a), some (.ref p), some (.int (n : Nat)), some (.int (m : Nat)), some (.ref R), some (.int (i : Nat)), some (.int (v : Nat))] H6 := by
          intro v v0 v1
          rw [f3]
          obtain ⟨ts, x1, x2, x3⟩ := hX
          have e4 : (4 : Int) + ((i : Nat) : Int) = ((4 + i : Nat) : Int) := by omega
          refine ⟨_, rfl, .inl ⟨rfl, _, .inl (.inl (s6 _ _ x1))⟩, _, rfl, _, rfl, _, _, rfl, rfl, a, ns, 4 + i, by rw [← e4], Same.seq (same2 sH1 s16) ha, fun c5 => ?_⟩
          refine ⟨_, rfl, by show 1 ≤ sizeLine; decide, fun l5 nl5 => ?_⟩
          refine ⟨_, rfl, l5, _, _, rfl, rfl, upd_same .., by omega, by omega, by show 1 * ((n : Nat) : Int).toNat ≤ sizeLine; omega, fun p5 np5 => ?_⟩
          rw [rep_n]
          have s7 : Same H6 (upd (upd H6 l5 (.lst [V.int (v : Nat)])) p5 (.lst (nV (List.replicate n v)))) := same2 (same_new nl5) (same_new np5)
          refine ⟨c5, p5, List.replicate n v, rfl, .inl (.inl (upd_same ..)), fun x hx => ?_, by rw [List.length_replicate]; omega, fun H7 p6 ds6 s8 np6 hp6 hl6 hlt6 => ?_⟩
          · rw [(List.mem_replicate.mp hx).2]
            omega
          rw [List.length_replicate] at hl6
          have s67 : Same H6 H7 := same2 s7 s8
          have xR := s67 _ _ (s6 _ _ x1)
          have np7 : H6 p6 = none := s7.free np6
          have pR : p6 ≠ R := fun z => by rw [z] at np7; rw [s6 _ _ x1] at np7; cases np7
          have tl := Paired.length x2
          refine ⟨R, _, _, rfl, rfl, xR, by rw [List.length_map, tl, hw]; omega, ?_⟩
          refine ⟨_, _, ws ++ [ds6], rfl, ⟨ts ++ [p6], by rw [upd_same, List.map_append, List.map_singleton], psnoc (pimp (fun t w _ z => ⟨z.1, by rw [upd_ne z.1]; exact s67 _ _ (s6 _ _ z.2)⟩) x2) ⟨pR, by rw [upd_ne pR]; exact hp6⟩, fun w hw => ?_⟩, by rw [List.length_append, hw, List.length_singleton], ?_⟩
          · rcases List.mem_append.mp hw with z | z
            · exact x3 w z
            · rw [List.mem_singleton.mp z]; exact hl6
          · exact same_put nR1 (same2 s16 s67)
        refine ⟨_, rfl, _, _, rfl, rfl, _, rfl, ?_⟩
        refine ite2 (fun _ => ?_) (fun _ => step3 v v0 (by omega))
        refine ⟨_, rfl, _, rfl, _, _, rfl, rfl, ?_⟩
        have e6 : ((v : Nat) : Int) + ((n : Nat) : Int) = ((v + n : Nat) : Int) := by omega
        dsimp only
        rw [e6]
        exact step3 (v + n) (by omega) (by omega)
      refine ⟨_, rfl, p, _, _, _, rfl, rfl, (rd 3 (by decide) s16).1, (rd 3 (by decide) s16).2, rfl, _, rfl, ?_⟩
      refine ite2 (fun _ => ⟨_, rfl, step2 n n0 (by omega)⟩) (fun _ => step2 v v0 (by omega))
    refine ⟨_, rfl, _, rfl, _, rfl, _, _, rfl, rfl, ⟨by decide, by decide⟩, _, _, rfl, rfl, _, rfl, _, _, rfl, rfl, .inl ⟨by decide, by decide⟩, _, _, rfl, rfl, ⟨by decide, by decide⟩, _, _, rfl, rfl, _, rfl, _, _, rfl, rfl, ⟨by decide, by decide⟩, _, _, rfl, rfl, by show 4 ≤ sizeLine; decide, fun q4 nq4 => ?_⟩
    have e7 : ((n : Nat) : Int) + ((n : Nat) : Int).fdiv 2 = ((n + n / 2 : Nat) : Int) := by rw [fdiv2]; omega
    have e8 : ((2 : Int) * ((n : Nat) : Int)).fdiv 3 + 1 = ((2 * n / 3 + 1 : Nat) : Int) := by
      have q : (((2 * n : Nat) : Int)).fdiv 3 = ((2 * n / 3 : Nat) : Int) := fdiv_n (2 * n) 3 (by decide)
      rw [show (2 : Int) * ((n : Nat) : Int) = ((2 * n : Nat) : Int) by omega, q] <;> rfl
    have e9 : ((n : Nat) : Int).fdiv 2 + 1 = ((n / 2 + 1 : Nat) : Int) := by rw [fdiv2] <;> rfl
    dsimp only
    rw [e7, e8, e9]
    have ew : ([V.int (n : Nat), V.int ((n + n / 2 : Nat) : Int), V.int ((2 * n / 3 + 1 : Nat) : Int), V.int ((n / 2 + 1 : Nat) : Int)] : List V) = nV [n, n + n / 2, 2 * n / 3 + 1, n / 2 + 1] := rfl
    rw [ew]
    have s6 := same_new (o := .lst (nV [n, n + n / 2, 2 * n / 3 + 1, n / 2 + 1])) nq4
    have h6 : upd H5 q4 (.lst (nV [n, n + n / 2, 2 * n / 3 + 1, n / 2 + 1])) q4 = some (.lst (nV [n, n + n / 2, 2 * n / 3 + 1, n / 2 + 1])) := upd_same ..
    generalize upd H5 q4 (.lst (nV [n, n + n / 2, 2 * n / 3 + 1, n / 2 + 1])) = H6 at s6 h6
    obtain ⟨d, ed, ld⟩ := digit (a := ((at0 ds 3 : Nat) : Int) + ((i : Nat) : Int)) (n := 4) (by decide)
    obtain ⟨wn, hwn⟩ : ∃ wn, ([n, n + n / 2, 2 * n / 3 + 1, n / 2 + 1] : List Nat)[d]? = some wn := ⟨_, getE ld⟩
    have hw : 0 < wn ∧ wn < 100 := by
      have q := List.mem_of_getElem? hwn
      simp only [List.mem_cons, List.not_mem_nil, or_false] at q
      omega
    have edd : (((at0 ds 3 : Nat) : Int) + ((i : Nat) : Int)).fmod 4 = ((d : Nat) : Int) := ed.symm
    refine ⟨_, rfl, p, _, _, _, rfl, rfl, (rd 3 (by decide) (same2 s5 s6)).1, (rd 3 (by decide) (same2 s5 s6)).2, _, rfl, _, _, rfl, rfl, .inl ⟨_, rfl, _, _, rfl, rfl, by show (4 : Int) ≠ 0; decide, q4, _, _, .int (wn : Nat), rfl, rfl, .inl (.inl h6), by rw [edd]; exact atI_nat (nV_at hwn), step1 H6 wn s6 hw.1 hw.2⟩⟩
  · rintro σ H5 ⟨m5, m6, ws, rfl, ⟨ts, x1, x2, x3⟩, hw, s5⟩
    refine ⟨_, rfl, _, rfl, by show 2 ≤ sizeLine; decide, fun z nz => ?_⟩
    have sz := same_new (o := .lst [.int (n : Nat), .ref R]) nz
    exact hQ _ z n ws (same2 sH1 (same2 s5 sz)) (sH1.free (s5.free nz)) ⟨R, upd_same .., ⟨ts, sz _ _ x1, pimp (fun _ _ _ q => sz _ _ q.2) x2⟩, x3, by omega, n0, by omega⟩
end
end K02
set_option Elab.async false
set_option linter.all false
set_option maxRecDepth 100000
/-! Ms, plain: sorted lists, ways and joins. -/
namespace Ms
theorem sorted_uniq : ∀ {l m : List Nat}, l.Pairwise (· < ·) → m.Pairwise (· < ·) → (∀ x, x ∈ l ↔ x ∈ m) → l = m
  | [], [], _, _, _ => rfl
  | [], y :: m, _, _, h => absurd ((h y).mpr List.mem_cons_self) List.not_mem_nil
  | x :: l, [], _, _, h => absurd ((h x).mp List.mem_cons_self) List.not_mem_nil
  | x :: l, y :: m, hl, hm, h => by
    obtain ⟨l1, l2⟩ := List.pairwise_cons.mp hl
    obtain ⟨m1, m2⟩ := List.pairwise_cons.mp hm
    have e : x = y := by
      rcases List.mem_cons.mp ((h x).mp List.mem_cons_self) with z | z
      · exact z
      · rcases List.mem_cons.mp ((h y).mpr List.mem_cons_self) with w | w
        · exact w.symm
        · have := m1 x z
          have := l1 y w
          omega
    subst e
    rw [sorted_uniq l2 m2 fun z => ?_]
    constructor
    · intro hz
      have := l1 z hz
      rcases List.mem_cons.mp ((h z).mp (List.mem_cons_of_mem _ hz)) with w | w
      · omega
      · exact w
    · intro hz
      have := m1 z hz
      rcases List.mem_cons.mp ((h z).mpr (List.mem_cons_of_mem _ hz)) with w | w
      · omega
      · exact w
theorem strict_of {l : List Nat} (h : l.Pairwise (· ≤ ·)) (n : l.Nodup) : l.Pairwise (· < ·) := by
  induction l with
  | nil => exact .nil
  | cons x l ih =>
    obtain ⟨a, b⟩ := List.pairwise_cons.mp h
    obtain ⟨c, d⟩ := List.nodup_cons.mp n
    refine List.pairwise_cons.mpr ⟨fun y hy => ?_, ih b d⟩
    have := a y hy
    have : x ≠ y := fun e => c (e ▸ hy)
    omega
theorem dst_nil {n : Nat} {S : Nat → Prop} {k v : Nat} (h : Dst (Nr [] n) S k v) : k = 0 ∧ S v := by
  cases k with
  | zero => exact ⟨rfl, dst_zero.mp h⟩
  | succ k =>
    obtain ⟨u, _, _, _, i, q, _⟩ := h.back
    exact absurd q (Nat.not_lt_zero _)
theorem Pth.app {adj : Nat → Nat → Prop} {u v w : Nat} {p q : List Nat} (h : Pth adj u p v) (g : Pth adj v q w) : Pth adj u (p ++ q) w := by
  induction h with
  | nil u => exact g
  | cons a t ih => exact .cons a (ih g)
theorem Pth.rev {adj : Nat → Nat → Prop} (sym : ∀ a b, adj a b → adj b a) {u v : Nat} {p : List Nat} (h : Pth adj u p v) : ∃ q, Pth adj v q u := by
  induction h with
  | nil u => exact ⟨[], .nil _⟩
  | cons a t ih =>
    obtain ⟨q, hq⟩ := ih
    exact ⟨_, hq.snoc (sym _ _ a)⟩
theorem Pth.eqv {adj : Nat → Nat → Prop} {u v : Nat} {p : List Nat} (h : Pth adj u p v) : Eqv adj u v := by
  induction h with
  | nil u => exact .refl _
  | cons a t ih => exact .trans (.of a) ih
theorem eqv_pth {adj : Nat → Nat → Prop} (sym : ∀ a b, adj a b → adj b a) {u v : Nat} (h : Eqv adj u v) : ∃ p, Pth adj u p v := by
  induction h with
  | of g => exact ⟨_, .cons g (.nil _)⟩
  | refl a => exact ⟨[], .nil _⟩
  | symm h ih =>
    obtain ⟨p, hp⟩ := ih
    exact hp.rev sym
  | trans h g ih1 ih2 =>
    obtain ⟨p, hp⟩ := ih1
    obtain ⟨q, hq⟩ := ih2
    exact ⟨_, hp.app hq⟩
/-- alike in one of the first i rows, or in the first one -/
def NrS (rs : List (List Nat)) (n i u v : Nat) : Prop := u < n ∧ v < n ∧ ∃ j, (j < i ∨ j = 0) ∧ j < rs.length ∧ at0 (rAt rs j) u = at0 (rAt rs j) v
/-- what joins the first i rows -/
structure Tot (rs : List (List Nat)) (n i : Nat) (u : List Nat) : Prop where
  len : u.length = n
  al : ∀ x y, x < n → y < n → (at0 u x = at0 u y ↔ Eqv (NrS rs n i) x y)
theorem Tot.start {rs : List (List Nat)} {n : Nat} (h0 : 0 < rs.length) (hl : ∀ r ∈ rs, r.length = n) : Tot rs n 0 (rAt rs 0) := by
  refine ⟨hl _ (rAt_mem h0), fun x y hx hy => ⟨fun e => .of ⟨hx, hy, 0, .inr rfl, h0, e⟩, fun e => ?_⟩⟩
  have k : ∀ {a b}, Eqv (NrS rs n 0) a b → at0 (rAt rs 0) a = at0 (rAt rs 0) b := fun {a b} z => by
    induction z with
    | of g =>
      obtain ⟨_, _, j, hj, _, e⟩ := g
      have : j = 0 := by omega
      subst this
      exact e
    | refl a => rfl
    | symm _ ih => exact ih.symm
    | trans _ _ i1 i2 => exact i1.trans i2
  exact k e
theorem Tot.next {rs : List (List Nat)} {n i : Nat} {u v : List Nat} (h : Tot rs n i u) (hi : i < rs.length) (hl : ∀ r ∈ rs, r.length = n) (hj : Joins u (rAt rs i) v) : Tot rs n (i + 1) v := by
  have lr : (rAt rs i).length = n := hl _ (rAt_mem hi)
  have lv : v.length = n := hj.1.trans h.len
  refine ⟨lv, fun x y hx hy => ?_⟩
  have ex := of_at0 (l := v) (i := x) (by rw [lv]; exact hx)
  have ey := of_at0 (l := v) (i := y) (by rw [lv]; exact hy)
  rw [hj.2 x y _ _ ex ey]
  have up : ∀ {a b}, Eqv (NrS rs n i) a b → Eqv (NrS rs n (i + 1)) a b := fun {a b} z => z.mono fun p q g => by
    obtain ⟨a, b, j, c, d⟩ := g
    exact .of ⟨a, b, j, by omega, d⟩
  constructor
  · intro z
    refine z.mono fun p q g => ?_
    rcases g with ⟨g1, g2, g3⟩ | ⟨g1, g2, g3⟩
    · have g1 : p < n := by rw [← h.len]; exact g1
      have g2 : q < n := by rw [← h.len]; exact g2
      refine up ((h.al p q g1 g2).mp ?_)
      rw [of_at0 (by rw [h.len]; exact g1), of_at0 (by rw [h.len]; exact g2)] at g3
      exact Option.some.inj g3
    · have g1 : p < n := by rw [← lr]; exact g1
      have g2 : q < n := by rw [← lr]; exact g2
      rw [of_at0 (by rw [lr]; exact g1), of_at0 (by rw [lr]; exact g2)] at g3
      exact .of ⟨g1, g2, i, by omega, hi, Option.some.inj g3⟩
  · intro z
    refine z.mono fun p q g => ?_
    obtain ⟨g1, g2, j, g3, g4, g5⟩ := g
    by_cases e : j = i
    · subst e
      exact .of (.inr ⟨by rw [lr]; exact g1, by rw [lr]; exact g2, by rw [of_at0 (by rw [lr]; exact g1), of_at0 (by rw [lr]; exact g2), g5]⟩)
    · have z2 : at0 u p = at0 u q := (h.al p q g1 g2).mpr (.of ⟨g1, g2, j, by omega, g4, g5⟩)
      exact .of (.inl ⟨by rw [h.len]; exact g1, by rw [h.len]; exact g2, by rw [of_at0 (by rw [h.len]; exact g1), of_at0 (by rw [h.len]; exact g2), z2]⟩)
theorem Tot.done {rs : List (List Nat)} {n : Nat} {u : List Nat} (h : Tot rs n rs.length u) {x y : Nat} (hx : x < n) (hy : y < n) : at0 u x = at0 u y ↔ ∃ p, Pth (Nr rs n) x p y := by
  rw [h.al x y hx hy]
  have e : NrS rs n rs.length = Nr rs n := by
    funext a b
    refine propext ⟨fun ⟨p, q, j, _, d⟩ => ⟨p, q, j, d⟩, fun ⟨p, q, j, d⟩ => ⟨p, q, j, .inl d.1, d⟩⟩
  rw [e]
  exact ⟨fun z => eqv_pth (fun a b => Nr.symm) z, fun ⟨p, z⟩ => z.eqv⟩
/-- the deals that are met -/
def metOf (n : Nat) (wf : Nat → Option (List Nat)) : List Nat := (List.range n).filter fun v => (wf v).isSome
theorem mem_met {n : Nat} {wf : Nat → Option (List Nat)} {v : Nat} : v ∈ metOf n wf ↔ v < n ∧ ∃ p, wf v = some p := by
  unfold metOf
  rw [List.mem_filter, List.mem_range, Option.isSome_iff_exists]
theorem met_sorted (n : Nat) (wf : Nat → Option (List Nat)) : (metOf n wf).Pairwise (· < ·) := List.pairwise_lt_range.filter _
theorem Ways.dst {adj : Nat → Nat → Prop} (sym : ∀ a b, adj a b → adj b a) {s : Nat} {wf : Nat → Option (List Nat)} (h : Ways adj s wf) (v : Nat) : (∃ p, wf v = some p) ↔ ∃ k, Dst adj (inSet s) k v := by
  constructor
  · rintro ⟨p, hp⟩
    obtain ⟨q, hq⟩ := (h.pth v p hp).rev sym
    obtain ⟨j, _, d⟩ := (hq.rch sym (S := inSet s) (List.mem_singleton.mpr rfl)).dst
    exact ⟨j, d⟩
  · rintro ⟨k, d⟩
    obtain ⟨u, p, hu, hp⟩ := rch_pth d.1
    rw [List.mem_singleton.mp hu] at hp
    obtain ⟨q, hq, _⟩ := h.all p v hp
    exact ⟨q, hq⟩
end Ms
set_option Elab.async false
set_option linter.all false
set_option maxRecDepth 100000
set_option maxHeartbeats 1000000
namespace K02
open PySem PySem.Spec PyProof.Rows L2 Ms
theorem prv_zero (st : Nat) (c : List (Nat × Nat)) : prv st c 0 = st := rfl
theorem prv_cons (st : Nat) (p : Nat × Nat) (c : List (Nat × Nat)) (k : Nat) : prv st (p :: c) (k + 1) = prv p.2 c k := rfl
theorem chn_first {rs : List (List Nat)} {n : Nat} {S : Nat → Prop} {u d v e : Nat} {c : List (Nat × Nat)} (h : Chn rs n S u d c v e) : ∀ (k : Nat) (p : Nat × Nat), c[k]? = some p → FirstIn rs (prv u c k) p.2 p.1 ∧ p.2 < n ∧ prv u c k < n := by
  induction h with
  | nil u d => intro k p hp; cases hp
  | @cons u d x i v e c h t ih =>
    intro k p hp
    cases k with
    | zero =>
      cases hp
      exact ⟨⟨h.il, h.eq, h.fi⟩, h.nr.2.1, h.nr.1⟩
    | succ k =>
      rw [prv_cons]
      exact ih k p hp
theorem Twin.first {rs ws : List (List Nat)} {n u x i : Nat} (tw : Twin rs ws n) (hu : u < n) (hx : x < n) (h : FirstIn rs u x i) : FirstIn ws u x i :=
  ⟨by rw [← tw.len]; exact h.il, (tw.al i h.il u x hu hx).mp h.eq, fun j hj e => h.fi j hj ((tw.al j (Nat.lt_trans hj h.il) u x hu hx).mpr e)⟩
/-- what the law asks of a chain that is answered -/
theorem chain_some {rs ws : List (List Nat)} {n st g d v : Nat} {wf : Nat → Option (List Nat)} {c : List (Nat × Nat)} (tw : Twin rs ws n) (hn : n ≤ 4000) (hg : g < n) (hW : Ms.Ways (Nr ws n) st wf) (hd : Dst (Nr rs n) (inS [g]) d st) (hc : Chn rs n (inS [g]) st d c v 0) :
    wf g = some (c.map (·.2)) ∧ c.length ≤ 200000 ∧ (∀ p ∈ c, p.2 < n) ∧ ∀ (k : Nat) (p : Nat × Nat), c[k]? = some p → FirstIn ws (prv st c k) p.2 p.1 := by
  have e := tw.nrE
  have hv : v = g := by
    have q := dst_zero.mp (hc.stop hd)
    exact List.mem_singleton.mp q
  have gd := hc.gdy
  have hf : Fit rs n [g] := ⟨tw.rl, tw.row, fun _ x hx => by rw [List.mem_singleton.mp hx]; exact hg, by show 1 + n ≤ 200000; omega, Nat.le_trans tw.few (by decide)⟩
  have dl := hf.dlt hd
  have ln := gd.len
  rw [List.length_map] at ln
  have hfi := chn_first hc
  rw [e] at hd gd
  refine ⟨hW.gdy (fun a b => Nr.symm) hd gd hv, by omega, fun p hp => ?_, fun k p hp => ?_⟩
  · obtain ⟨k, hk⟩ := List.getElem?_of_mem hp
    exact (hfi k p hk).2.1
  · obtain ⟨a, b, f⟩ := hfi k p hp
    exact tw.first f b a
theorem chain_none {rs ws : List (List Nat)} {n st g : Nat} {wf : Nat → Option (List Nat)} (tw : Twin rs ws n) (hW : Ms.Ways (Nr ws n) st wf) (h : ∀ k, ¬ Dst (Nr rs n) (inS [g]) k st) : wf g = none := by
  cases q : wf g with
  | none => rfl
  | some p =>
    exfalso
    have hp := hW.pth g p q
    rw [← tw.nrE] at hp
    obtain ⟨j, _, d⟩ := (hp.rch (fun a b => Nr.symm) (S := inS [g]) (List.mem_singleton.mpr rfl)).dst
    exact h j d
/-- what is reached, in order -/
theorem reach_met {rs ws : List (List Nat)} {n st : Nat} {wf : Nat → Option (List Nat)} {l : List Nat} (tw : Twin rs ws n) (hW : Ms.Ways (Nr ws n) st wf) (hlt : ∀ v p, wf v = some p → v < n) (h1 : l.Pairwise (· ≤ ·)) (h2 : l.Nodup) (h3 : ∀ v, v ∈ l ↔ ∃ k, Dst (Nr rs n) (inS [st]) k v) : l = metOf n wf := by
  refine sorted_uniq (strict_of h1 h2) (met_sorted n wf) fun v => ?_
  rw [h3, mem_met, tw.nrE]
  have q := hW.dst (fun a b => Nr.symm) v
  constructor
  · intro z
    obtain ⟨p, hp⟩ := q.mpr z
    exact ⟨hlt v p hp, p, hp⟩
  · rintro ⟨_, z⟩
    exact q.mp z
theorem ways_at {H : Hp} {W : Addr} {n g : Nat} {wf : Nat → Option (List Nat)} (h : WaysAt [] H W n wf) (hg : g < n) : ∃ vs x, H W = some (.lst vs) ∧ vs[g]? = some x ∧ ((wf g = none ∧ x = .non) ∨ ∃ p t, wf g = some p ∧ x = .ref t ∧ H t = some (.lst (nV p))) := by
  obtain ⟨vs, h1, _, h3⟩ := h
  rcases h3 g hg with ⟨a, b⟩ | ⟨p, t, a, b, c, _⟩
  · exact ⟨vs, _, h1, b, .inl ⟨a, rfl⟩⟩
  · exact ⟨vs, _, h1, b, .inr ⟨p, t, a, rfl, c⟩⟩
/-- the fit of one goal -/
theorem Twin.one {rs ws : List (List Nat)} {n g : Nat} (tw : Twin rs ws n) (hn : n ≤ 4000) (hg : g < n) : Fit rs n [g] :=
  ⟨tw.rl, tw.row, fun _ x hx => by rw [List.mem_singleton.mp hx]; exact hg, by show 1 + n ≤ 200000; omega, Nat.le_trans tw.few (by decide)⟩
theorem chain_y_none {rs ws : List (List Nat)} {n st g : Nat} {wf : Nat → Option (List Nat)} (tw : Twin rs ws n) (hW : Ms.Ways (Nr ws n) st wf) {H : Hp} {x : V} (h : (wf g = none ∧ x = .non) ∨ ∃ p t, wf g = some p ∧ x = .ref t ∧ H t = some (.lst (nV p))) (no : ∀ k, ¬ Dst (Nr rs n) (inS [g]) k st) : x = .non := by
  have z := chain_none tw hW no
  rcases h with ⟨_, e⟩ | ⟨p, t, b, _⟩
  · exact e
  · rw [z] at b; cases b
theorem chain_y_some {rs ws : List (List Nat)} {n st g d v : Nat} {wf : Nat → Option (List Nat)} {c : List (Nat × Nat)} (tw : Twin rs ws n) (hn : n ≤ 4000) (hg : g < n) (hW : Ms.Ways (Nr ws n) st wf) {H : Hp} {x : V} (h : (wf g = none ∧ x = .non) ∨ ∃ p t, wf g = some p ∧ x = .ref t ∧ H t = some (.lst (nV p)))
    (hd : Dst (Nr rs n) (inS [g]) d st) (hch : Chn rs n (inS [g]) st d c v 0) : ∃ t, x = .ref t ∧ H t = some (.lst (nV (c.map (·.2)))) ∧ c.length ≤ 200000 ∧ (∀ p ∈ c, p.2 < n) ∧ ∀ (k : Nat) (p : Nat × Nat), c[k]? = some p → FirstIn ws (prv st c k) p.2 p.1 := by
  obtain ⟨z1, z2, z3, z4⟩ := chain_some tw hn hg hW hd hch
  rcases h with ⟨b, _⟩ | ⟨p, t, b, rfl, e⟩
  · rw [z1] at b; cases b
  · rw [z1] at b
    cases b
    exact ⟨t, rfl, e, z2, z3, z4⟩
theorem fit0 (g : List Nat) (h : g.length ≤ 10) : Fit [] 0 g := ⟨fun r hr => (by cases hr), fun r hr => (by cases hr), fun z => absurd rfl z, by omega, Nat.zero_le _⟩
theorem sights0 {K : PySem.W.Frag} {H : Hp} {a : Addr} (h : H a = some (.lst [])) : Sights K true H a [] := ⟨[], .inl (.inl h), .nil⟩
theorem sights0t {K : PySem.W.Frag} {H : Hp} {a : Addr} (h : H a = some (.tup [])) : Sights K false H a [] := ⟨[], .inl (.inl h), .nil⟩
theorem only_f {l : List Nat} {f : Nat} (h1 : l.Pairwise (· ≤ ·)) (h2 : l.Nodup) (h3 : ∀ v, v ∈ l ↔ ∃ k, Dst (Nr [] 0) (inS [f]) k v) : l = [f] := by
  refine sorted_uniq (strict_of h1 h2) (List.pairwise_singleton _ _) fun v => ?_
  rw [h3]
  exact ⟨fun ⟨k, d⟩ => (dst_nil d).2, fun z => ⟨0, dst_zero.mpr z⟩⟩
theorem places_met {rs ws : List (List Nat)} {n st : Nat} {wf : Nat → Option (List Nat)} {u : List Nat} (tw : Twin rs ws n) (hW : Ms.Ways (Nr ws n) st wf) (hst : st < n) (h : Tot rs n rs.length u) : places (at0 u st) u = metOf n wf := by
  refine sorted_uniq (by unfold places; exact List.pairwise_lt_range.filter _) (met_sorted n wf) fun v => ?_
  rw [mem_places, mem_met, h.len]
  constructor
  · rintro ⟨a, b⟩
    refine ⟨a, ?_⟩
    obtain ⟨p, hp⟩ := (h.done hst a).mp b.symm
    rw [tw.nrE] at hp
    obtain ⟨q, hq, _⟩ := hW.all p v hp
    exact ⟨q, hq⟩
  · rintro ⟨a, p, hp⟩
    have z := hW.pth v p hp
    rw [← tw.nrE] at z
    exact ⟨a, ((h.done hst a).mpr ⟨p, z⟩).symm⟩
end K02
set_option Elab.async false
set_option linter.all false
set_option maxRecDepth 100000
/-! plain: deals on a line that two rows join by turns. -/
namespace K02
open PySem PySem.Spec PyProof.Rows L2 Ms
structure Ord (os : List Nat) (n : Nat) : Prop where
  len : os.length = n
  nd : os.Nodup
  lt : ∀ x ∈ os, x < n
theorem Ord.at_lt {os : List Nat} {n i : Nat} (o : Ord os n) (h : i < n) : at0 os i < n := o.lt _ (List.mem_of_getElem? (of_at0 (by rw [o.len]; exact h)))
theorem Ord.inj {os : List Nat} {n i j : Nat} (o : Ord os n) (hi : i < n) (hj : j < n) (e : at0 os i = at0 os j) : i = j :=
  at_uniq o.nd (of_at0 (by rw [o.len]; exact hi)) (by rw [e]; exact of_at0 (by rw [o.len]; exact hj))
theorem Ord.sur {os : List Nat} {n v : Nat} (o : Ord os n) (h : v < n) : ∃ i, i < n ∧ at0 os i = v := by
  have m : v ∈ os := Classical.byContradiction fun z => by
    have q := nodup_le (l := v :: os) (m := List.range n) (List.nodup_cons.mpr ⟨z, o.nd⟩) fun x hx => by
      rcases List.mem_cons.mp hx with e | e
      · rw [e]; exact List.mem_range.mpr h
      · exact List.mem_range.mpr (o.lt x e)
    rw [List.length_cons, o.len, List.length_range] at q
    omega
  obtain ⟨i, hi⟩ := List.getElem?_of_mem m
  have l := ltE hi
  rw [o.len] at l
  have e := of_at0 (l := os) (i := i) (by rw [o.len]; exact l)
  rw [hi] at e
  exact ⟨i, l, (Option.some.inj e).symm⟩
/-- the rows of the line; the gap is ahead of the place 2 * h -/
structure Line (os w1 w2 : List Nat) (n h : Nat) : Prop where
  ord : Ord os n
  l1 : w1.length = n
  l2 : w2.length = n
  v1 : ∀ j, j < n → at0 w1 (at0 os j) = j / 2
  v2 : ∀ j, j < n → at0 w2 (at0 os j) = (j + 1) / 2 + (if 2 * h ≤ j then n else 0)
/-- next to each other on the line -/
def Nx (h i j : Nat) : Prop := i = j ∨ (i + 1 = j ∧ j ≠ 2 * h) ∨ (j + 1 = i ∧ i ≠ 2 * h)
def Two (w1 w2 : List Nat) (ws : List (List Nat)) : Prop := ws = [w1, w2] ∨ ws = [w2, w1]
section
variable {os w1 w2 : List Nat} {ws : List (List Nat)} {n h : Nat}
theorem Two.ex (t : Two w1 w2 ws) (p : List Nat → Prop) : (∃ i, i < ws.length ∧ p (rAt ws i)) ↔ p w1 ∨ p w2 := by
  rcases t with rfl | rfl
  · constructor
    · rintro ⟨i, hi, q⟩
      match i, hi, q with
      | 0, _, q => exact .inl q
      | 1, _, q => exact .inr q
    · rintro (q | q)
      · exact ⟨0, by show 0 < 2; decide, q⟩
      · exact ⟨1, by show 1 < 2; decide, q⟩
  · constructor
    · rintro ⟨i, hi, q⟩
      match i, hi, q with
      | 0, _, q => exact .inr q
      | 1, _, q => exact .inl q
    · rintro (q | q)
      · exact ⟨1, by show 1 < 2; decide, q⟩
      · exact ⟨0, by show 0 < 2; decide, q⟩
theorem Line.nr (L : Line os w1 w2 n h) (t : Two w1 w2 ws) {i j : Nat} (hi : i < n) (hj : j < n) : Nr ws n (at0 os i) (at0 os j) ↔ Nx h i j := by
  unfold Nr
  have e : (∃ k, k < ws.length ∧ at0 (rAt ws k) (at0 os i) = at0 (rAt ws k) (at0 os j)) ↔ Nx h i j := by
    rw [t.ex fun w => at0 w (at0 os i) = at0 w (at0 os j), L.v1 i hi, L.v1 j hj, L.v2 i hi, L.v2 j hj]
    unfold Nx
    by_cases ci : 2 * h ≤ i
    · by_cases cj : 2 * h ≤ j
      · rw [if_pos ci, if_pos cj]; omega
      · rw [if_pos ci, if_neg cj]; omega
    · by_cases cj : 2 * h ≤ j
      · rw [if_neg ci, if_pos cj]; omega
      · rw [if_neg ci, if_neg cj]; omega
  rw [e]
  exact ⟨fun z => z.2.2, fun z => ⟨L.ord.at_lt hi, L.ord.at_lt hj, z⟩⟩
/-- the places along the line from one to another, without the first -/
def along (i j : Nat) : List Nat := if i ≤ j then (List.range (j - i)).map (fun k => i + 1 + k) else (List.range (i - j)).map (fun k => i - 1 - k)
theorem along_self (i : Nat) : along i i = [] := by
  unfold along
  rw [if_pos (Nat.le_refl i), Nat.sub_self] <;> rfl
theorem along_up {i j : Nat} (h : i < j) : along i j = (i + 1) :: along (i + 1) j := by
  unfold along
  rw [if_pos (by omega), if_pos (by omega), show j - i = (j - (i + 1)) + 1 by omega, List.range_succ_eq_map, List.map_cons, List.map_map]
  congr 1
  refine List.map_congr_left fun k _ => ?_
  show i + 1 + (k + 1) = i + 1 + 1 + k
  omega
theorem along_down {i j : Nat} (h : j < i) : along i j = (i - 1) :: along (i - 1) j := by
  unfold along
  rw [if_neg (by omega), show i - j = (i - 1 - j) + 1 by omega, List.range_succ_eq_map, List.map_cons, List.map_map]
  by_cases c : i - 1 ≤ j
  · rw [if_pos c, show i - 1 - j = 0 by omega, show j - (i - 1) = 0 by omega] <;> rfl
  · rw [if_neg c]
    congr 1
    refine List.map_congr_left fun k _ => ?_
    show i - 1 - (k + 1) = i - 1 - 1 - k
    omega
theorem along_len (i j : Nat) : (along i j).length = (i - j) + (j - i) := by
  unfold along
  by_cases c : i ≤ j
  · rw [if_pos c, List.length_map, List.length_range]; omega
  · rw [if_neg c, List.length_map, List.length_range]; omega
def dist (i j : Nat) : Nat := (i - j) + (j - i)
/-- on the same side of the gap -/
def Sd (h i j : Nat) : Prop := i < 2 * h ↔ j < 2 * h
/-- the way along the line is a path -/
theorem Line.pth (L : Line os w1 w2 n h) (t : Two w1 w2 ws) : ∀ (d i j : Nat), dist i j = d → i < n → j < n → Sd h i j → Pth (Nr ws n) (at0 os i) ((along i j).map (at0 os)) (at0 os j) := by
  intro d
  induction d with
  | zero =>
    intro i j hd _ _ _
    have e : i = j := by unfold dist at hd; omega
    subst e
    rw [along_self]
    exact .nil _
  | succ d ih =>
    intro i j hd hi hj hs
    unfold dist at hd
    unfold Sd at hs
    rcases Nat.lt_trichotomy i j with c | c | c
    · rw [along_up c]
      refine .cons ((L.nr t hi (by omega)).mpr (.inr (.inl ⟨rfl, by omega⟩))) (ih (i + 1) j (by unfold dist; omega) (by omega) hj (by unfold Sd; omega))
    · omega
    · rw [along_down c]
      refine .cons ((L.nr t hi (by omega)).mpr (.inr (.inr ⟨by omega, by omega⟩))) (ih (i - 1) j (by unfold dist; omega) (by omega) hj (by unfold Sd; omega))
/-- each path is as long, and the one that is not longer is this way -/
theorem Line.least (L : Line os w1 w2 n h) (t : Two w1 w2 ws) {u v : Nat} {p : List Nat} (hp : Pth (Nr ws n) u p v) : ∀ i, i < n → u = at0 os i → ∃ j, j < n ∧ v = at0 os j ∧ Sd h i j ∧ dist i j ≤ p.length ∧ (p.length = dist i j → p = (along i j).map (at0 os)) := by
  induction hp with
  | nil u =>
    intro i hi e
    exact ⟨i, hi, e, Iff.rfl, by unfold dist; omega, fun _ => by rw [along_self] <;> rfl⟩
  | @cons u x v p a q ih =>
    intro i hi e
    subst e
    obtain ⟨k, hk, rfl⟩ := L.ord.sur a.2.1
    have g := (L.nr t hi hk).mp a
    obtain ⟨j, hj, rfl, s1, s2, s3⟩ := ih k hk rfl
    unfold Nx at g
    unfold Sd dist at *
    refine ⟨j, hj, rfl, by omega, by rw [List.length_cons]; omega, fun el => ?_⟩
    rw [List.length_cons] at el
    have e2 : p = (along k j).map (at0 os) := s3 (by omega)
    rcases Nat.lt_trichotomy i j with c | c | c
    · have ek : k = i + 1 := by omega
      subst ek
      rw [along_up c, e2] <;> rfl
    · omega
    · have ek : k = i - 1 := by omega
      subst ek
      rw [along_down c, e2] <;> rfl
open Classical in
/-- the ways of the line -/
noncomputable def wayL (os : List Nat) (n h s : Nat) (v : Nat) : Option (List Nat) := if v < n ∧ Sd h s (os.idxOf v) then some ((along s (os.idxOf v)).map (at0 os)) else none
theorem Ord.idx {os : List Nat} {n i : Nat} (o : Ord os n) (h : i < n) : os.idxOf (at0 os i) = i := by
  have l : i < os.length := by rw [o.len]; exact h
  have e : at0 os i = os[i] := by
    have q := of_at0 l
    rw [getE l] at q
    exact (Option.some.inj q).symm
  rw [e]
  exact o.nd.idxOf_getElem i l
theorem Line.way (L : Line os w1 w2 n h) {s i : Nat} (hi : i < n) : (Sd h s i → wayL os n h s (at0 os i) = some ((along s i).map (at0 os))) ∧ (¬ Sd h s i → wayL os n h s (at0 os i) = none) := by
  unfold wayL
  rw [L.ord.idx hi]
  exact ⟨fun z => if_pos ⟨L.ord.at_lt hi, z⟩, fun z => if_neg fun q => z q.2⟩
theorem Line.ways (L : Line os w1 w2 n h) (t : Two w1 w2 ws) {s : Nat} (hs : s < n) : Ms.Ways (Nr ws n) (at0 os s) (wayL os n h s) := by
  refine ⟨fun v p e => ?_, fun p v hp => ?_⟩
  · have hv : v < n := Classical.byContradiction fun z => by
      unfold wayL at e
      rw [if_neg fun q => z q.1] at e
      cases e
    obtain ⟨i, hi, rfl⟩ := L.ord.sur hv
    by_cases c : Sd h s i
    · rw [(L.way hi).1 c] at e
      cases e
      exact L.pth t _ s i rfl hs hi c
    · rw [(L.way hi).2 c] at e
      cases e
  · obtain ⟨j, hj, rfl, s1, s2, s3⟩ := L.least t hp s hs rfl
    refine ⟨_, (L.way hj).1 s1, ?_⟩
    by_cases c : p.length = dist s j
    · exact .inl (s3 c).symm
    · refine .inr (.inl ?_)
      rw [List.length_map, along_len]
      unfold dist at *
      omega
theorem wayL_lt {s v : Nat} {p : List Nat} (e : wayL os n h s v = some p) : v < n := Classical.byContradiction fun z => by
  unfold wayL at e
  rw [if_neg fun q => z q.1] at e
  cases e
/-- the side of a place -/
def sideL (os : List Nat) (h s : Nat) : List Nat := if 2 * h ≤ s then os.drop (2 * h) else os.take (2 * h)
theorem Line.mem_side (L : Line os w1 w2 n h) {s v : Nat} : v ∈ sideL os h s ↔ ∃ i, i < n ∧ at0 os i = v ∧ Sd h s i := by
  unfold sideL Sd
  constructor
  · intro m
    by_cases c : 2 * h ≤ s
    · rw [if_pos c] at m
      obtain ⟨k, hk⟩ := List.getElem?_of_mem m
      rw [List.getElem?_drop] at hk
      have l := ltE hk
      rw [of_at0 l] at hk
      rw [L.ord.len] at l
      exact ⟨_, l, Option.some.inj hk, by omega⟩
    · rw [if_neg c] at m
      obtain ⟨k, hk⟩ := List.getElem?_of_mem m
      have l := ltE hk
      rw [List.length_take] at l
      rw [List.getElem?_take_of_lt (by omega), of_at0 (by omega)] at hk
      exact ⟨k, by rw [← L.ord.len]; omega, Option.some.inj hk, by omega⟩
  · rintro ⟨i, hi, rfl, hs⟩
    by_cases c : 2 * h ≤ s
    · rw [if_pos c]
      refine List.mem_of_getElem? (i := i - 2 * h) ?_
      rw [List.getElem?_drop, show 2 * h + (i - 2 * h) = i by omega]
      exact of_at0 (by rw [L.ord.len]; exact hi)
    · rw [if_neg c]
      refine List.mem_of_getElem? (i := i) ?_
      rw [List.getElem?_take_of_lt (by omega)]
      exact of_at0 (by rw [L.ord.len]; exact hi)
theorem Line.side_nd (L : Line os w1 w2 n h) (s : Nat) : (sideL os h s).Nodup := by
  unfold sideL
  by_cases c : 2 * h ≤ s
  · rw [if_pos c]; exact L.ord.nd.sublist (List.drop_sublist ..)
  · rw [if_neg c]; exact L.ord.nd.sublist (List.take_sublist ..)
theorem Line.side_len (L : Line os w1 w2 n h) (s : Nat) : (sideL os h s).length ≤ n := by
  unfold sideL
  by_cases c : 2 * h ≤ s
  · rw [if_pos c, List.length_drop, L.ord.len]; omega
  · rw [if_neg c, List.length_take, L.ord.len]; omega
theorem Line.side_lt (L : Line os w1 w2 n h) {s : Nat} : ∀ v ∈ sideL os h s, v < n := fun v hv => by
  obtain ⟨i, hi, rfl, _⟩ := L.mem_side.mp hv
  exact L.ord.at_lt hi
theorem Line.met_side (L : Line os w1 w2 n h) {s v : Nat} : v ∈ metOf n (wayL os n h s) ↔ v ∈ sideL os h s := by
  rw [mem_met, L.mem_side]
  constructor
  · rintro ⟨hv, p, e⟩
    obtain ⟨i, hi, rfl⟩ := L.ord.sur hv
    refine ⟨i, hi, rfl, Classical.byContradiction fun c => ?_⟩
    rw [(L.way hi).2 c] at e
    cases e
  · rintro ⟨i, hi, rfl, c⟩
    exact ⟨L.ord.at_lt hi, _, (L.way hi).1 c⟩
theorem Line.closed (L : Line os w1 w2 n h) (t : Two w1 w2 ws) (s : Nat) : Cl ws n (sideL os h s) := by
  intro u v hu huv
  obtain ⟨i, hi, rfl, hs⟩ := L.mem_side.mp hu
  obtain ⟨j, hj, rfl⟩ := L.ord.sur huv.2.1
  have g := (L.nr t hi hj).mp huv
  unfold Nx at g
  unfold Sd at hs
  exact L.mem_side.mpr ⟨j, hj, rfl, by unfold Sd; omega⟩
/-- without its first deal the side is closed only if it is empty then -/
theorem Line.short (L : Line os w1 w2 n h) (t : Two w1 w2 ws) {s : Nat} (hs : s < n) : Cl ws n ((sideL os h s).drop 1) ↔ (sideL os h s).length = 1 := by
  have mem := L.mem_side (s := s) (v := at0 os s)
  have ms : at0 os s ∈ sideL os h s := mem.mpr ⟨s, hs, rfl, Iff.rfl⟩
  constructor
  · intro c
    refine Classical.byContradiction fun ne => ?_
    -- the first place of the side
    have first : ∃ b, b + 1 < n ∧ Sd h s b ∧ Sd h s (b + 1) ∧ (sideL os h s)[0]? = some (at0 os b) ∧ (sideL os h s)[1]? = some (at0 os (b + 1)) := by
      have l0 : 0 < (sideL os h s).length := List.length_pos_of_mem ms
      unfold sideL Sd at *
      by_cases k : 2 * h ≤ s
      · rw [if_pos k] at ne l0 ⊢
        rw [List.length_drop, L.ord.len] at ne l0
        refine ⟨2 * h, by omega, by omega, by omega, ?_, ?_⟩
        · rw [List.getElem?_drop]
          exact of_at0 (by rw [L.ord.len]; omega)
        · rw [List.getElem?_drop]
          exact of_at0 (by rw [L.ord.len]; omega)
      · rw [if_neg k] at ne l0 ⊢
        rw [List.length_take, L.ord.len] at ne l0
        refine ⟨0, by omega, by omega, by omega, ?_, ?_⟩
        · rw [List.getElem?_take_of_lt (by omega)]
          exact of_at0 (by rw [L.ord.len]; omega)
        · rw [List.getElem?_take_of_lt (by omega)]
          exact of_at0 (by rw [L.ord.len]; omega)
    obtain ⟨b, hb, s1, s2, e0, e1⟩ := first
    have m1 : at0 os (b + 1) ∈ (sideL os h s).drop 1 := List.mem_of_getElem? (i := 0) (by rw [List.getElem?_drop]; exact e1)
    have g : Nr ws n (at0 os (b + 1)) (at0 os b) := (L.nr t hb (by omega)).mpr (.inr (.inr ⟨rfl, by unfold Sd at s1 s2; omega⟩))
    have m0 := c _ _ m1 g
    obtain ⟨k, hk⟩ := List.getElem?_of_mem m0
    rw [List.getElem?_drop] at hk
    have q := at_uniq (L.side_nd s) e0 hk
    omega
  · intro e u v hu
    have z : (sideL os h s).drop 1 = [] := List.eq_nil_of_length_eq_zero (by rw [List.length_drop, e])
    rw [z] at hu
    cases hu
end
/-! ### the three orders -/
theorem ord_up (n : Nat) : Ord (List.range n) n := ⟨List.length_range, List.nodup_range, fun x h => List.mem_range.mp h⟩
theorem nodup_map {α β : Type} {f : α → β} : ∀ {l : List α}, l.Nodup → (∀ a ∈ l, ∀ b ∈ l, f a = f b → a = b) → (l.map f).Nodup
  | [], _, _ => List.nodup_nil
  | x :: l, h, g => by
    obtain ⟨h1, h2⟩ := List.nodup_cons.mp h
    rw [List.map_cons]
    refine List.nodup_cons.mpr ⟨fun m => ?_, nodup_map h2 fun a ha b hb => g a (List.mem_cons_of_mem _ ha) b (List.mem_cons_of_mem _ hb)⟩
    obtain ⟨y, hy, e⟩ := List.mem_map.mp m
    exact h1 (g y (List.mem_cons_of_mem _ hy) x List.mem_cons_self e ▸ hy)
theorem ord_down (n : Nat) : Ord ((List.range n).map fun k => n - 1 - k) n :=
  ⟨by rw [List.length_map, List.length_range], nodup_map List.nodup_range fun a ha b hb e => by
    have := List.mem_range.mp ha
    have := List.mem_range.mp hb
    omega, fun x h => by
    obtain ⟨k, hk, rfl⟩ := List.mem_map.mp h
    have := List.mem_range.mp hk
    omega⟩
theorem ord_fold (n : Nat) : Ord (((List.range ((n + 1) / 2)).map fun k => 2 * k) ++ (List.range (n / 2)).map fun k => n - 1 - (n % 2 + 2 * k)) n := by
  refine ⟨by rw [List.length_append, List.length_map, List.length_map, List.length_range, List.length_range]; omega, ?_, fun x h => ?_⟩
  · refine List.nodup_append.mpr ⟨nodup_map List.nodup_range fun a _ b _ e => by omega, nodup_map List.nodup_range fun a ha b hb e => by
      have := List.mem_range.mp ha
      have := List.mem_range.mp hb
      omega, fun x hx y hy e => ?_⟩
    obtain ⟨k, hk, rfl⟩ := List.mem_map.mp hx
    obtain ⟨m, hm, rfl⟩ := List.mem_map.mp hy
    have := List.mem_range.mp hk
    have := List.mem_range.mp hm
    omega
  · rcases List.mem_append.mp h with h | h
    · obtain ⟨k, hk, rfl⟩ := List.mem_map.mp h
      have := List.mem_range.mp hk
      omega
    · obtain ⟨k, hk, rfl⟩ := List.mem_map.mp h
      have := List.mem_range.mp hk
      omega
end K02
set_option Elab.async false
set_option linter.all false
set_option maxRecDepth 100000
set_option maxHeartbeats 2000000
namespace K02
open PySem PySem.Spec PyProof.Rows L2 Ms
theorem rgc2 (lo n : Nat) (h : lo < n) (hn : n ≤ 2000) : RgC (lo : Nat) (n : Nat) 2 ((n - lo + 1) / 2) := by
  have e : PySem.Builtin.Range.rangeSize (lo : Nat) (n : Nat) 2 = (((n - lo + 1) / 2 : Nat) : Int) := by
    unfold PySem.Builtin.Range.rangeSize
    rw [if_pos (by decide), if_pos (by omega)]
    omega
  refine ⟨by decide, by decide, ?_, e⟩
  unfold PySem.Builtin.Range.small
  rw [e]
  have f : ∀ z : Int, 0 ≤ z → z ≤ 2001 → PySem.Builtin.Range.rangeFitsLong z = true := fun z z1 z2 => by
    unfold PySem.Builtin.Range.rangeFitsLong
    simp
    omega
  rw [f _ (by omega) (by omega), f _ (by omega) (by omega), f 2 (by decide) (by decide), f _ (by omega) (by omega), if_pos (by decide), f _ (by omega) (by omega)]
  simp
theorem fmod2 (n : Nat) : ((n : Nat) : Int).fmod 2 = ((n % 2 : Nat) : Int) := by
  rw [Int.fmod_eq_emod_of_nonneg _ (by decide)]
  exact (Int.natCast_emod n 2).symm
theorem cut_tail (os : List Nat) (k : Nat) : cutV (nV os) (some ((k : Nat) : Int)) none = nV (os.drop k) := by
  by_cases h : k ≤ os.length
  · rw [cut_drop _ _ (by rw [nV_len]; exact h)]
    unfold nV
    rw [List.map_drop]
  · unfold cutV
    rw [HT.sIx_nat, HT.sIx_none, nV_len]
    have e1 : os.drop k = [] := List.drop_eq_nil_of_le (by omega)
    have e2 : min k os.length = os.length := by omega
    rw [e1, e2, Nat.sub_self, List.take_zero] <;> rfl
theorem twin_ren {ws : List (List Nat)} {n : Nat} (hl : ∀ w ∈ ws, w.length = n) (h8 : ws.length ≤ 40) : Twin (ws.map ren) ws n := by
  have rat : ∀ i, i < ws.length → rAt (ws.map ren) i = ren (rAt ws i) := fun i hi => by
    rw [rAt_of (r := ren ws[i]) (by rw [List.getElem?_map, getE hi] <;> rfl), rAt_of (getE hi)]
  refine ⟨by rw [List.length_map], fun r hr => ?_, fun r hr => ?_, hl, fun i hi u v hu hv => ?_, by rw [List.length_map]; omega⟩
  · obtain ⟨w, hw, rfl⟩ := List.mem_map.mp hr
    rw [ren_len]
    exact hl w hw
  · obtain ⟨w, hw, rfl⟩ := List.mem_map.mp hr
    exact row_ren w
  · rw [List.length_map] at hi
    rw [rat i hi]
    have lw := hl _ (rAt_mem hi)
    have a1 := of_at0 (l := rAt ws i) (i := u) (by rw [lw]; exact hu)
    have a2 := of_at0 (l := rAt ws i) (i := v) (by rw [lw]; exact hv)
    exact ((alike_ren (rAt ws i)).2 u v _ _ _ _ a1 a2 (of_at0 (by rw [ren_len, lw]; exact hu)) (of_at0 (by rw [ren_len, lw]; exact hv))).symm
theorem along_at {i j k : Nat} (h : k < dist i j) : (along i j)[k]? = some (if i ≤ j then i + 1 + k else i - 1 - k) := by
  unfold along dist at *
  by_cases c : i ≤ j
  · rw [if_pos c, if_pos c, List.getElem?_map, List.getElem?_range (by omega)] <;> rfl
  · rw [if_neg c, if_neg c, List.getElem?_map, List.getElem?_range (by omega)] <;> rfl
theorem SightAt.lst {K : PySem.W.Frag} {H H' : Hp} {p : Addr} {r : List Nat} (e : ∀ b o, (∀ xs, o ≠ .lst xs) → H b = some o → H' b = some o) (h : SightAt K H p r) : SightAt K H' p r := by
  obtain ⟨⟨dx, t, c, h1, h2, ts, h3, h4⟩, a1, a2, a3⟩ := h
  exact ⟨⟨dx, t, c, e _ _ (fun _ z => by cases z) h1, e _ _ (fun _ z => by cases z) h2, ts, e _ _ (fun _ z => by cases z) h3, pimp (fun _ _ _ z => e _ _ (fun _ z => by cases z) z) h4⟩, a1, a2, a3⟩
def spFar (K : PySem.W.Frag) : Sp := fun vs H Q _ => ∃ (a : Addr) (ns : List Int), vs = [.ref a] ∧ SqL K H a (ns.map V.int) ∧ ∀ H', Same H H' → Q (.bl true) H'
section
variable {P : Program} {w : World} {K : PySem.W.Frag} {mg : Str → Option Value} {base : Heap}
theorem ok__law_far (T : Tx K mg) : Ok P w K mg base "_law_far" 7 (spFar K) := by
  have O__law_digits : Ok P w K mg base "_law_digits" 1 (spDigits K) := ok__law_digits T
  have O__law_cell : Ok P w K mg base "_law_cell" 1 (spCellL K) := ok__law_cell T
  have O__law_numbers : Ok P w K mg base "_law_numbers" 2 (spNumbers K) := ok__law_numbers T
  have O__law_is_chain : Ok P w K mg base "_law_is_chain" 3 (spIsChain K) := ok__law_is_chain T
  have O_links : Ok P w K mg base "links" 6 (spLinks K) := ok_links T
  have O_reached : Ok P w K mg base "reached" 5 (spReached K) := ok_reached T
  have O_is_closed : Ok P w K mg base "is_closed" 4 (spClosed K) := ok_is_closed T
  have O_Sightu__initu_ : COk P w K mg base "Sight" 2 (spInit K) := cok T
  refine ok_of T.a__law_far sc_law_far (fun vs H Q E h => ?_) bi__law_far fun cdv A outer s H vs Q E hr h => ?_
  · obtain ⟨a, ns, rfl, _⟩ := h
    rfl
  obtain ⟨a, ns, rfl, ha, hQ⟩ := h
  have big : (16777216 : Nat) ≤ sizeLine := by decide
  have big2 : (4000 : Int) < 2 ^ 62 := by decide
  refine ⟨_, (pss_cons (ps_set (i := 1) sc_law_far.nd rfl (by first | exact Or.inl rfl | exact Or.inr rfl) (pe_c (E := EN) O__law_digits hr (by decide) (fun σ => passN σ) (pa_cons (pe_c (E := EN) O__law_cell hr (by decide) (fun σ => passN σ) (pa_cons (pv 0) (pa_cons pe_int pa_nil))) (pa_cons (pe_lst (pa_cons pe_int (pa_cons pe_int (pa_cons pe_int (pa_cons pe_int (pa_cons pe_int (pa_cons pe_int (pa_cons pe_int pa_nil)))))))) pa_nil))))
  (pss_cons (ps_if (pt_cmpR op_gt (pe_ix (ixL K) (pv 1) pe_int (fun _ _ => rfl)) pe_int (nomark _))
  (pss_one (ps_ret pe_bl))
  pss_nil)
  (pss_cons (ps_set (i := 2) sc_law_far.nd rfl (by first | exact Or.inl rfl | exact Or.inr rfl) (pe_op op_add pe_int (pe_ix (ixL K) (pv 1) pe_int (fun _ _ => rfl))))
  (pss_cons (ps_set (i := 3) sc_law_far.nd rfl (by first | exact Or.inl rfl | exact Or.inr rfl) (pe_lc (own := [("k", 4)]) (g := gName 4) rfl sc_law_far.nd (pi_range1 rfl T.f_range (pa_cons (pv 2) pa_nil)) (blkOk_by (N := ["script", "row", "size", "order", "k", "gap", "one", "two", "at", "rows", "sights", "marks", "start", "goal", "side", "step", "way", "turn", "answer"]) (sc := defScope s_law_far) (by decide +kernel)) (fun _ _ _ _ _ => (pg_name (i := 4) sc_law_far.nd rfl (by first | exact Or.inl rfl | exact Or.inr rfl))) (fun _ _ _ _ _ => pts_nil) (fun _ _ _ _ _ => (pv 4))))
  (pss_cons (ps_if (pt_cmpR op_eq (pe_ix (ixL K) (pv 1) pe_int (fun _ _ => rfl)) pe_int (nomark _))
  (pss_one (ps_set (i := 3) sc_law_far.nd rfl (by first | exact Or.inl rfl | exact Or.inr rfl) (pe_lc (own := [("k", 4)]) (g := gName 4) rfl sc_law_far.nd (pi_range1 rfl T.f_range (pa_cons (pv 2) pa_nil)) (blkOk_by (N := ["script", "row", "size", "order", "k", "gap", "one", "two", "at", "rows", "sights", "marks", "start", "goal", "side", "step", "way", "turn", "answer"]) (sc := defScope s_law_far) (by decide +kernel)) (fun _ _ _ _ _ => (pg_name (i := 4) sc_law_far.nd rfl (by first | exact Or.inl rfl | exact Or.inr rfl))) (fun _ _ _ _ _ => pts_nil) (fun _ _ _ _ _ => (pe_op op_sub (pe_op op_sub (pv 2) pe_int) (pv 4))))))
  pss_nil)
  (pss_cons (ps_if (pt_cmpR op_eq (pe_ix (ixL K) (pv 1) pe_int (fun _ _ => rfl)) pe_int (nomark _))
  (pss_one (ps_set (i := 3) sc_law_far.nd rfl (by first | exact Or.inl rfl | exact Or.inr rfl) (pe_op op_cat (pe_lc (own := [("k", 4)]) (g := gName 4) rfl sc_law_far.nd (pi_range3 rfl T.f_range (pa_cons pe_int (pa_cons (pv 2) (pa_cons pe_int pa_nil)))) (blkOk_by (N := ["script", "row", "size", "order", "k", "gap", "one", "two", "at", "rows", "sights", "marks", "start", "goal", "side", "step", "way", "turn", "answer"]) (sc := defScope s_law_far) (by decide +kernel)) (fun _ _ _ _ _ => (pg_name (i := 4) sc_law_far.nd rfl (by first | exact Or.inl rfl | exact Or.inr rfl))) (fun _ _ _ _ _ => pts_nil) (fun _ _ _ _ _ => (pv 4))) (pe_lc (own := [("k", 4)]) (g := gName 4) rfl sc_law_far.nd (pi_range3 rfl T.f_range (pa_cons (pe_op op_modN (pe_callTy call_int1 (by rfl) T.f_int (by decide +kernel) (pa_cons (pv 2) pa_nil)) pe_int) (pa_cons (pv 2) (pa_cons pe_int pa_nil)))) (blkOk_by (N := ["script", "row", "size", "order", "k", "gap", "one", "two", "at", "rows", "sights", "marks", "start", "goal", "side", "step", "way", "turn", "answer"]) (sc := defScope s_law_far) (by decide +kernel)) (fun _ _ _ _ _ => (pg_name (i := 4) sc_law_far.nd rfl (by first | exact Or.inl rfl | exact Or.inr rfl))) (fun _ _ _ _ _ => pts_nil) (fun _ _ _ _ _ => (pe_op op_sub (pe_op op_sub (pv 2) pe_int) (pv 4)))))))
  pss_nil)
  (pss_cons (ps_set (i := 5) sc_law_far.nd rfl (by first | exact Or.inl rfl | exact Or.inr rfl) (pe_op op_add pe_int (pe_op op_mul pe_int (pe_op op_modN (pe_callTy call_int1 (by rfl) T.f_int (by decide +kernel) (pa_cons (pe_ix (ixL K) (pv 1) pe_int (fun _ _ => rfl)) pa_nil)) (pv 2)))))
  (pss_cons (ps_setLc (i := 6) (own := [("k", 4)]) (g := gName 4) rfl sc_law_far.nd rfl rfl (sw_true rfl rfl rfl (by decide +kernel)) (pi_range1 rfl T.f_range (pa_cons (pv 2) pa_nil)) (blkOk_by (N := ["script", "row", "size", "order", "k", "gap", "one", "two", "at", "rows", "sights", "marks", "start", "goal", "side", "step", "way", "turn", "answer"]) (sc := defScope s_law_far) (by decide +kernel)) (fun _ _ _ _ _ => (pg_name (i := 4) sc_law_far.nd rfl (by first | exact Or.inl rfl | exact Or.inr rfl))) (fun _ _ _ _ _ => pts_nil) (fun _ _ _ _ _ => pe_int))
  (pss_cons (ps_setLc (i := 7) (own := [("k", 4)]) (g := gName 4) rfl sc_law_far.nd rfl rfl (sw_true rfl rfl rfl (by decide +kernel)) (pi_range1 rfl T.f_range (pa_cons (pv 2) pa_nil)) (blkOk_by (N := ["script", "row", "size", "order", "k", "gap", "one", "two", "at", "rows", "sights", "marks", "start", "goal", "side", "step", "way", "turn", "answer"]) (sc := defScope s_law_far) (by decide +kernel)) (fun _ _ _ _ _ => (pg_name (i := 4) sc_law_far.nd rfl (by first | exact Or.inl rfl | exact Or.inr rfl))) (fun _ _ _ _ _ => pts_nil) (fun _ _ _ _ _ => pe_int))
  (pss_cons (ps_for PassesOwn.never rfl (pi_range1 rfl T.f_range (pa_cons (pv 2) pa_nil)) (pg_name (i := 8) sc_law_far.nd rfl (by first | exact Or.inl rfl | exact Or.inr rfl))
  (pss_cons (ps_asg (pe_op op_fdivN (pv 8) pe_int) (pg_sub (pv 6) (pe_ix (ixL K) (pv 3) (pv 8) (fun _ _ => rfl)) set_list))
    (pss_one (ps_asg (pe_op op_add (pe_op op_fdivN (pe_op op_add (pv 8) pe_int) pe_int) (pe_op op_mul (pv 2) (pe_callTy call_int1 (by rfl) T.f_int (by decide +kernel) (pa_cons (pe_cmpR op_ge (pv 8) (pv 5) (nomark _)) pa_nil)))) (pg_sub (pv 7) (pe_ix (ixL K) (pv 3) (pv 8) (fun _ _ => rfl)) set_list)))))
  (pss_cons (ps_set (i := 9) sc_law_far.nd rfl (by first | exact Or.inl rfl | exact Or.inr rfl) (pe_ix (ixL K) (pe_lst (pa_cons (pe_lst (pa_cons (pv 6) (pa_cons (pv 7) pa_nil))) (pa_cons (pe_lst (pa_cons (pv 7) (pa_cons (pv 6) pa_nil))) pa_nil))) (pe_ix (ixL K) (pv 1) pe_int (fun _ _ => rfl)) (fun _ _ => rfl)))
  (pss_cons (ps_setLc (i := 10) (own := [("marks", 11)]) (g := gName 11) rfl sc_law_far.nd rfl rfl (sw_true rfl rfl rfl (by decide +kernel)) (pi_list (pv 9)) (blkOk_by (N := ["script", "row", "size", "order", "k", "gap", "one", "two", "at", "rows", "sights", "marks", "start", "goal", "side", "step", "way", "turn", "answer"]) (sc := defScope s_law_far) (by decide +kernel)) (fun _ _ _ _ _ => (pg_name (i := 11) sc_law_far.nd rfl (by first | exact Or.inl rfl | exact Or.inr rfl))) (fun _ _ _ _ _ => pts_nil) (fun _ _ _ _ _ => (pe_nK K (E := EN) O_Sightu__initu_ hr (by decide) (fun σ => passN σ) (pa_cons (pv 11) pa_nil))))
  (pss_cons (ps_set (i := 12) sc_law_far.nd rfl (by first | exact Or.inl rfl | exact Or.inr rfl) (pe_op op_modN (pe_callTy call_int1 (by rfl) T.f_int (by decide +kernel) (pa_cons (pe_ix (ixL K) (pv 1) pe_int (fun _ _ => rfl)) pa_nil)) (pv 2)))
  (pss_cons (ps_set (i := 13) sc_law_far.nd rfl (by first | exact Or.inl rfl | exact Or.inr rfl) (pe_op op_modN (pe_callTy call_int1 (by rfl) T.f_int (by decide +kernel) (pa_cons (pe_ix (ixL K) (pv 1) pe_int (fun _ _ => rfl)) pa_nil)) (pv 2)))
  (pss_cons (ps_set (i := 14) sc_law_far.nd rfl (by first | exact Or.inl rfl | exact Or.inr rfl) (pe_ix (ixL K) (pe_lst (pa_cons (pe_slice sl_list (pv 3) po_none (po_some (pv 5))) (pa_cons (pe_slice sl_list (pv 3) (po_some (pv 5)) po_none) pa_nil))) (pe_callTy call_int1 (by rfl) T.f_int (by decide +kernel) (pa_cons (pe_cmpR op_ge (pv 12) (pv 5) (nomark _)) pa_nil)) (fun _ _ => rfl)))
  (pss_cons (ps_set (i := 15) sc_law_far.nd rfl (by first | exact Or.inl rfl | exact Or.inr rfl) (pe_op op_sub pe_int (pe_op op_mul pe_int (pe_callTy call_int1 (by rfl) T.f_int (by decide +kernel) (pa_cons (pe_cmpR op_lt (pv 13) (pv 12) (nomark _)) pa_nil)))))
  (pss_cons (ps_setLc (i := 16) (own := [("turn", 17)]) (g := gName 17) rfl sc_law_far.nd rfl rfl (sw_true rfl rfl rfl (by decide +kernel)) (pi_range1 rfl T.f_range (pa_cons (pe_callB call_abs (by rfl) T.f_abs (by decide +kernel) (pa_cons (pe_op op_sub (pv 13) (pv 12)) pa_nil)) pa_nil)) (blkOk_by (N := ["script", "row", "size", "order", "k", "gap", "one", "two", "at", "rows", "sights", "marks", "start", "goal", "side", "step", "way", "turn", "answer"]) (sc := defScope s_law_far) (by decide +kernel)) (fun _ _ _ _ _ => (pg_name (i := 17) sc_law_far.nd rfl (by first | exact Or.inl rfl | exact Or.inr rfl))) (fun _ _ _ _ _ => pts_nil) (fun _ _ _ _ _ => (pe_ix (ixL K) (pv 3) (pe_op op_add (pv 12) (pe_op op_mul (pv 15) (pe_op op_add (pv 17) pe_int))) (fun _ _ => rfl))))
  (pss_cons (ps_if (pt_cmpR op_ne (pe_cmpR op_lt (pv 12) (pv 5) (nomark _)) (pe_cmpR op_lt (pv 13) (pv 5) (nomark _)) (nomark _))
  (pss_one (ps_set (i := 16) sc_law_far.nd rfl (by first | exact Or.inl rfl | exact Or.inr rfl) pe_non))
  pss_nil)
  (pss_cons (ps_if (pt_not (pt_val (pe_c (E := EN) O__law_is_chain hr (by decide) (fun σ => passN σ) (pa_cons (pe_c (E := EN) O_links hr (by decide) (fun σ => passN σ) (pa_cons (pv 10) (pa_cons (pe_ix (ixL K) (pv 3) (pv 12) (fun _ _ => rfl)) (pa_cons (pe_ix (ixL K) (pv 3) (pv 13) (fun _ _ => rfl)) pa_nil)))) (pa_cons (pv 9) (pa_cons (pe_ix (ixL K) (pv 3) (pv 12) (fun _ _ => rfl)) (pa_cons (pv 16) pa_nil)))))))
  (pss_one (ps_ret pe_bl))
  pss_nil)
  (pss_cons (ps_if (PW.pt (pw_or (pt_not (pt_val (pe_c (E := EN) O__law_numbers hr (by decide) (fun σ => passN σ) (pa_cons (pe_c (E := EN) O_reached hr (by decide) (fun σ => passN σ) (pa_cons (pe_callTy (tupK K) (by rfl) T.f_tuple (by decide +kernel) (pa_cons (pv 10) pa_nil)) (pa_cons (pe_ix (ixL K) (pv 3) (pv 12) (fun _ _ => rfl)) pa_nil))) (pa_cons (pe_callB (sortedK K) (by rfl) T.f_sorted (by decide +kernel) (pa_cons (pv 14) pa_nil)) pa_nil))))) (pw_or1 (pt_cmpR op_isnot_bl (pe_c (E := EN) O_is_closed hr (by decide) (fun σ => passN σ) (pa_cons (pv 10) (pa_cons (pv 14) pa_nil))) pe_bl (nomark _)))))
  (pss_one (ps_ret pe_bl))
  pss_nil)
  (pss_cons (ps_set (i := 18) sc_law_far.nd rfl (by first | exact Or.inl rfl | exact Or.inr rfl) (pe_c (E := EN) O_is_closed hr (by decide) (fun σ => passN σ) (pa_cons (pv 10) (pa_cons (pe_slice sl_list (pv 14) (po_some pe_int) po_none) pa_nil))))
  (pss_one (ps_ret (pe_and (pe_callB (isK K) (by rfl) T.f_isinstance (by decide +kernel) (pa_cons (pv 18) (pa_cons (pe_bltn (v := .ty "bool") (by rfl) T.f_bool (by decide +kernel) rfl) pa_nil))) (pe_one (pe_cmpR op_eq (pv 18) (pe_cmpR op_eq (pe_callB (lenK K) (by rfl) T.f_len boot_len (pa_cons (pv 14) pa_nil)) pe_int (nomark _)) (nomark _))))))))))))))))))))))))))), ?_⟩
  refine ⟨_, rfl, a, ns, 12, rfl, ha, fun c0 => ?_⟩
  refine ⟨Nat.le_trans (by decide) big, fun l0 nl0 => ?_⟩
  have s0 := same_new (o := .lst [.int 256, .int 200, .int 3, .int 2, .int 1200, .int 1200, .int 1200]) nl0
  refine ⟨c0, l0, [256, 200, 3, 2, 1200, 1200, 1200], rfl, .inl (.inl (upd_same ..)), by decide, by decide, fun H1 p ds s1 np hp hlen hlt => ?_⟩
  have sH1 := same2 s0 s1
  have dlt : ∀ i, i < 7 → i < ds.length := fun i hi => by rw [hlen]; exact hi
  have d1 : at0 ds 1 < 200 := hlt 1 (by decide)
  have d3 : at0 ds 3 < 2 := hlt 3 (by decide)
  have rd : ∀ i, i < 7 → ∀ {H' : Hp}, Same H1 H' → SqL K H' p (nV ds) ∧ atI (nV ds) ((i : Nat) : Int) = some (.int (at0 ds i : Nat)) := fun i hi H' s => ⟨.inl (.inl (s _ _ hp)), atI_nat (nV_at0 (dlt i hi))⟩
  have rf : Same H1 H1 := fun b o q => q
  refine ⟨_, rfl, p, _, _, _, rfl, rfl, (rd 0 (by decide) rf).1, (rd 0 (by decide) rf).2, _, _, rfl, rfl, _, rfl, ?_⟩
  refine ite2 (fun _ => hQ _ sH1) (fun _ => ?_)
  refine ⟨_, rfl, p, _, _, _, rfl, rfl, (rd 1 (by decide) rf).1, (rd 1 (by decide) rf).2, _, _, rfl, rfl, ?_⟩
  dsimp only
  rw [show (1000 : Int) + ((at0 ds 1 : Nat) : Int) = ((1000 + at0 ds 1 : Nat) : Int) by omega]
  obtain ⟨n, hn⟩ : ∃ n, n = 1000 + at0 ds 1 := ⟨_, rfl⟩
  rw [← hn]
  have n0 : 1000 ≤ n := by omega
  have n1 : n ≤ 1199 := by omega
  have en : ((n : Nat) : Int).toNat = n := by omega
  have nzn : ((n : Nat) : Int) ≠ 0 := by omega
  refine ⟨_, rfl, _, rfl, by omega, by omega, fun O nO => ?_⟩
  rw [en]
  refine lc_it walk_range (fun i H2 => H2 O = some (.lst (nV (List.range i))) ∧ Same H1 H2) ⟨upd_same .., same_new nO⟩ (fun _ _ _ _ => trivial) ?_ ?_
  · rintro i x H0 H2 hi ⟨q1, q2⟩ ⟨rfl, hx⟩
    have hx : x = .int (i : Nat) := hx.trans (congrArg V.int (Int.zero_add _))
    subst hx
    refine ⟨rfl, _, rfl, _, q1, by rw [nV_len, List.length_range]; omega, ?_, same_put nO q2⟩
    rw [upd_same, nV_snoc, List.range_succ]
  rintro H2 ⟨hO, s2⟩
  dsimp only
  refine seq_cut fun D1 f1 => ?_
  have tailA : ∀ (H3 : Hp) (O : Addr) (os : List Nat), Same H1 H3 → H3 O = some (.lst (nV os)) → Ord os n → D1.nx [some (.ref a), some (.ref p), some (.int (n : Nat)), some (.ref O), none, none, none, none, none, none, none, none, none, none, none, none, none, none, none] H3 := by
    intro H3 O os s3 hO ord
    rw [f1]
    refine seq_cut fun D2 f2 => ?_
    have tailB : ∀ (H4 : Hp) (O : Addr) (os : List Nat), Same H1 H4 → H4 O = some (.lst (nV os)) → Ord os n → D2.nx [some (.ref a), some (.ref p), some (.int (n : Nat)), some (.ref O), none, none, none, none, none, none, none, none, none, none, none, none, none, none, none] H4 := by
      intro H4 O os s4 hO ord
      rw [f2]
      have sH4 : Same H H4 := same2 sH1 s4
      have le2 : (2 : Nat) ≤ sizeLine := Nat.le_trans (by decide) big
      refine ⟨_, rfl, p, _, _, _, rfl, rfl, (rd 4 (by decide) s4).1, (rd 4 (by decide) s4).2, .inl ⟨_, rfl, _, rfl, _, _, rfl, rfl, nzn, _, _, rfl, rfl, .inl ⟨by decide, by decide⟩, _, _, rfl, rfl, ?_⟩⟩
      obtain ⟨d4, e4, l4⟩ := digit (a := ((at0 ds 4 : Nat) : Int)) (n := n) (by omega)
      dsimp only
      rw [← e4, show (2 : Int) + 2 * ((d4 : Nat) : Int) = ((2 * (1 + d4) : Nat) : Int) by omega]
      generalize 1 + d4 = h
      refine ⟨_, rfl, _, rfl, by omega, by omega, fun a1 na1 => ?_⟩
      rw [en]
      refine lc_it walk_range (fun i H5 => H5 a1 = some (.lst (nV (List.replicate i 0))) ∧ Same H4 H5) ⟨upd_same .., same_new na1⟩ (fun _ _ _ _ => trivial) ?_ ?_
      · rintro i x H0 H5 hi ⟨q1, q2⟩ ⟨rfl, hx⟩
        refine ⟨rfl, _, q1, by rw [nV_len, List.length_replicate]; omega, ?_, same_put na1 q2⟩
        rw [upd_same, show V.int 0 = V.int ((0 : Nat) : Nat) from rfl, nV_snoc, ← List.replicate_succ']
      rintro H5 ⟨h1, s5⟩
      refine ⟨_, rfl, _, rfl, by omega, by omega, fun a2 na2 => ?_⟩
      rw [en]
      refine lc_it walk_range (fun i H6 => H6 a2 = some (.lst (nV (List.replicate i 0))) ∧ Same H5 H6) ⟨upd_same .., same_new na2⟩ (fun _ _ _ _ => trivial) ?_ ?_
      · rintro i x H0 H6 hi ⟨q1, q2⟩ ⟨rfl, hx⟩
        refine ⟨rfl, _, q1, by rw [nV_len, List.length_replicate]; omega, ?_, same_put na2 q2⟩
        rw [upd_same, show V.int 0 = V.int ((0 : Nat) : Nat) from rfl, nV_snoc, ← List.replicate_succ']
      rintro H6 ⟨h2, s6⟩
      have e21 : a2 ≠ a1 := fun z => by rw [z, h1] at na2; cases na2
      have n2 : H4 a2 = none := s5.free na2
      have s46 := same2 s5 s6
      refine ⟨_, rfl, _, rfl, by omega, by omega, ?_⟩
      rw [en]
      refine for_it walk_range (fun i σ H7 => ∃ (m8 : Option V) (w1 w2 : List Nat), σ = [some (.ref a), some (.ref p), some (.int (n : Nat)), some (.ref O), none, some (.int ((2 * h : Nat) : Int)), some (.ref a1), some (.ref a2), m8, none, none, none, none, none, none, none, none, none, none] ∧ H7 a1 = some (.lst (nV w1)) ∧ H7 a2 = some (.lst (nV w2)) ∧ w1.length = n ∧ w2.length = n ∧ (∀ j, j < i → at0 w1 (at0 os j) = j / 2) ∧ (∀ j, j < i → at0 w2 (at0 os j) = (j + 1) / 2 + (if 2 * h ≤ j then n else 0)) ∧ Same H4 H7) ⟨none, _, _, rfl, s6 _ _ h1, h2, by rw [List.length_replicate], by rw [List.length_replicate], fun j h => absurd h (Nat.not_lt_zero _), fun j h => absurd h (Nat.not_lt_zero _), s46⟩ (fun _ _ _ _ _ => trivial) ?_ ?_
      · rintro i x σ H0 H7 hi ⟨m8, w1, w2, rfl, x1, x2, y1, y2, v1, v2, s7⟩ ⟨rfl, hx⟩
        have hx : x = .int (i : Nat) := hx.trans (congrArg V.int (Int.zero_add _))
        subst hx
        have hio : i < os.length := by rw [ord.len]; exact hi
        have olt := ord.at_lt hi
        have set_at : ∀ (w : List Nat) (v : Nat) (f : Nat → Nat), w.length = n → (∀ j, j < i → at0 w (at0 os j) = f j) → v = f i → ∀ j, j < i + 1 → at0 (w.set (at0 os i) v) (at0 os j) = f j := fun w v f hw hf hv j hj => by
          by_cases e : j = i
          · subst e
            rw [hv]
            exact at0_of (by rw [List.getElem?_set, if_pos rfl, if_pos (by rw [hw]; exact olt)])
          · have ne : at0 os i ≠ at0 os j := fun z => e (ord.inj hi (by omega) z).symm
            have z : (w.set (at0 os i) v)[at0 os j]? = some (at0 w (at0 os j)) := by
              rw [List.getElem?_set, if_neg ne]
              exact of_at0 (by rw [hw]; exact ord.at_lt (by omega))
            rw [at0_of z]
            exact hf j (by omega)
        refine ⟨_, rfl, _, _, rfl, rfl, ⟨by decide, by decide⟩, _, rfl, _, rfl, _, rfl, O, _, _, _, rfl, rfl, .inl (.inl (s7 _ _ hO)), atI_nat (nV_at0 hio), a1, _, _, at0 os i, rfl, rfl, x1, ixN_n (by rw [nV_len, y1]; exact olt), ?_⟩
        dsimp only
        rw [fdiv2, nV_set]
        have k1 : upd H7 a1 (.lst (nV (w1.set (at0 os i) (i / 2)))) a1 = some (.lst (nV (w1.set (at0 os i) (i / 2)))) := upd_same ..
        have k2 : upd H7 a1 (.lst (nV (w1.set (at0 os i) (i / 2)))) a2 = some (.lst (nV w2)) := by rw [upd_ne e21]; exact x2
        have s8 : Same H4 (upd H7 a1 (.lst (nV (w1.set (at0 os i) (i / 2))))) := same_put na1 s7
        generalize upd H7 a1 (.lst (nV (w1.set (at0 os i) (i / 2)))) = H8 at k1 k2 s8
        refine ⟨_, rfl, _, _, rfl, rfl, _, _, rfl, rfl, ⟨by decide, by decide⟩, _, rfl, _, rfl, _, rfl, _, _, rfl, rfl, .inr ⟨_, rfl, _, _, rfl, rfl, .inl ⟨by omega, by omega⟩, _, _, rfl, rfl, ?_⟩⟩
        have hv : (((i : Nat) : Int) + 1).fdiv 2 + ((n : Nat) : Int) * (if decide (((2 * h : Nat) : Int) ≤ ((i : Nat) : Int)) = true then 1 else 0) = (((i + 1) / 2 + (if 2 * h ≤ i then n else 0) : Nat) : Int) := by
          have e1 : (((i : Nat) : Int) + 1).fdiv 2 = (((i + 1) / 2 : Nat) : Int) := fdiv2 (i + 1)
          rw [e1]
          by_cases c : 2 * h ≤ i
          · rw [if_pos c, if_pos (decide_eq_true (by omega))]; omega
          · rw [if_neg c, if_neg (by rw [decide_eq_true_eq]; omega)]; omega
        dsimp only
        rw [hv]
        refine ⟨_, rfl, _, rfl, _, rfl, O, _, _, _, rfl, rfl, .inl (.inl (s8 _ _ hO)), atI_nat (nV_at0 hio), a2, _, _, at0 os i, rfl, rfl, k2, ixN_n (by rw [nV_len, y2]; exact olt), ?_⟩
        rw [nV_set]
        exact ⟨_, _, _, rfl, by rw [upd_ne e21.symm]; exact k1, upd_same .., by rw [List.length_set]; exact y1, by rw [List.length_set]; exact y2, set_at w1 _ (fun j => j / 2) y1 v1 rfl, set_at w2 _ (fun j => (j + 1) / 2 + (if 2 * h ≤ j then n else 0)) y2 v2 rfl, same_put n2 s8⟩
      rintro σ H7 ⟨m8, w1, w2, rfl, x1, x2, y1, y2, v1, v2, s7⟩
      have L : Line os w1 w2 n h := ⟨ord, y1, y2, v1, v2⟩
      dsimp only
      refine seq_cut fun D3 f3 => ?_
      have tailC : ∀ (H10 : Hp) (R : Addr) (ws : List (List Nat)), Same H4 H10 → RowsL H10 R ws → Two w1 w2 ws → D3.nx [some (.ref a), some (.ref p), some (.int (n : Nat)), some (.ref O), none, some (.int ((2 * h : Nat) : Int)), some (.ref a1), some (.ref a2), m8, some (.ref R), none, none, none, none, none, none, none, none, none] H10 := by
        intro H10 R ws s10 hR two
        rw [f3]
        have hl : ∀ w ∈ ws, w.length = n := fun w hw => by
          rcases two with rfl | rfl
          · rcases List.mem_cons.mp hw with z | z
            · rw [z]; exact y1
            · rw [List.mem_singleton.mp z]; exact y2
          · rcases List.mem_cons.mp hw with z | z
            · rw [z]; exact y2
            · rw [List.mem_singleton.mp z]; exact y1
        have lw : ws.length = 2 := by rcases two with rfl | rfl <;> rfl
        have tw : Twin (ws.map ren) ws n := twin_ren hl (by omega)
        obtain ⟨rts, rr1, rr2⟩ := id hR
        have rl := Paired.length rr2
        refine ⟨_, rfl, R, rfl, ⟨_, .inl (.inl rr1)⟩, fun S nS => ?_⟩
        refine lc_it (walk_list (K := K) (a := R) (xs := rts.map V.ref)) (fun i H11 => ∃ ts : List Addr, H11 S = some (.lst (ts.map V.ref)) ∧ ts.length = i ∧ Paired (fun t r => SightAt K H11 t r) ts ((ws.map ren).take i) ∧ Same H10 H11) ⟨[], upd_same .., rfl, .nil, same_new nS⟩ (fun i H11 _ h => by obtain ⟨_, _, _, _, h⟩ := h; exact .inl (.inl (h _ _ rr1))) ?_ ?_
        · rintro i x H0 H11 hi ⟨ts, q1, q2, q3, q4⟩ ⟨rfl, hx⟩
          rw [List.length_map] at hi
          obtain ⟨tr, wr, g1, g2, g3⟩ := pget2 rr2 hi
          rw [List.getElem?_map, g1] at hx
          cases hx
          have wl := hl wr (List.mem_of_getElem? g2)
          have hm1 : MarksAt K H11 tr (ren wr) := ⟨nV wr, by rw [nV_len, wl]; omega, .inl ⟨_, nV_int wr, (ren_map (f := fun n : Nat => ((n : Nat) : Int)) fun a b z => by omega).symm, .inl (.inl (.inl (q4 _ _ g3)))⟩⟩
          refine ⟨rfl, _, rfl, ?_⟩
          refine make_fin hm1 (fun _ H12 p1 s12 np1 k1 => ?_) (fun e => absurd e (by rw [ren_len]; omega))
          have hS12 := s12 _ _ q1
          have rtk : (ws.map ren).take (i + 1) = (ws.map ren).take i ++ [ren wr] := by rw [List.take_add_one, List.getElem?_map, g2] <;> rfl
          have keep : ∀ b o, (∀ xs, o ≠ .lst xs) → H12 b = some o → upd H12 S (.lst (ts.map V.ref ++ [.ref p1])) b = some o := fun b o no z => by
            rw [upd_ne (fun e => by rw [e, hS12] at z; exact no _ (Option.some.inj z).symm)]
            exact z
          refine ⟨_, hS12, by rw [List.length_map, q2]; omega, ts ++ [p1], by rw [upd_same, List.map_append, List.map_singleton], by rw [List.length_append, q2, List.length_singleton], ?_, same_put nS (same2 q4 s12)⟩
          rw [rtk]
          exact psnoc (pimp (fun _ _ _ z => (z.same s12).lst keep) q3) (k1.lst keep)
        rintro H11 ⟨ts, hS, tl, hpS, s11⟩
        rw [List.length_map] at tl
        have hrs : (ws.map ren).take (rts.map V.ref).length = ws.map ren := by rw [List.length_map, rl, ← List.length_map (f := ren), List.take_length]
        rw [hrs] at hpS
        generalize hrn : ws.map ren = rs at *
        have sH11 : Same H1 H11 := same2 s4 (same2 s10 s11)
        have hO11 := s11 _ _ (s10 _ _ hO)
        have hR11 := hR.same s11
        have hSs : ∀ {H' : Hp}, Same H11 H' → Sights K true H' S rs := fun {H'} s => ⟨ts, .inl (.inl (s _ _ hS)), pimp (fun _ _ _ z => z.same s) hpS⟩
        -- start and goal
        refine ⟨_, rfl, p, _, _, _, rfl, rfl, (rd 5 (by decide) sH11).1, (rd 5 (by decide) sH11).2, .inl ⟨_, rfl, _, rfl, _, _, rfl, rfl, nzn, ?_⟩⟩
        obtain ⟨i0, ei, li⟩ := digit (a := ((at0 ds 5 : Nat) : Int)) (n := n) (by omega)
        dsimp only
        rw [← ei]
        refine ⟨_, rfl, p, _, _, _, rfl, rfl, (rd 6 (by decide) sH11).1, (rd 6 (by decide) sH11).2, .inl ⟨_, rfl, _, rfl, _, _, rfl, rfl, nzn, ?_⟩⟩
        obtain ⟨j0, ej, lj⟩ := digit (a := ((at0 ds 6 : Nat) : Int)) (n := n) (by omega)
        dsimp only
        rw [← ej]
        -- the side
        refine ⟨_, rfl, _, rfl, _, rfl, O, _, rfl, .inl (.inl hO11), fun q1 nq1 => ?_⟩
        rw [cut_head]
        have t12 := same_new (o := .lst (nV (os.take (2 * h)))) nq1
        have hq1 : upd H11 q1 (.lst (nV (os.take (2 * h)))) q1 = some (.lst (nV (os.take (2 * h)))) := upd_same ..
        generalize upd H11 q1 (.lst (nV (os.take (2 * h)))) = H12 at t12 hq1
        refine ⟨_, rfl, _, rfl, _, rfl, O, _, rfl, .inl (.inl (t12 _ _ hO11)), fun q2 nq2 => ?_⟩
        rw [cut_tail]
        have t13 := same_new (o := .lst (nV (os.drop (2 * h)))) nq2
        have hq2 : upd H12 q2 (.lst (nV (os.drop (2 * h)))) q2 = some (.lst (nV (os.drop (2 * h)))) := upd_same ..
        generalize upd H12 q2 (.lst (nV (os.drop (2 * h)))) = H13 at t13 hq2
        refine ⟨le2, fun q3 nq3 => ?_⟩
        have t14 := same_new (o := .lst [.ref q1, .ref q2]) nq3
        have hq3 : upd H13 q3 (.lst [.ref q1, .ref q2]) q3 = some (.lst [.ref q1, .ref q2]) := upd_same ..
        generalize upd H13 q3 (.lst [.ref q1, .ref q2]) = H14 at t14 hq3
        have s14 : Same H11 H14 := same2 t12 (same2 t13 t14)
        obtain ⟨sd, sd1, sd2⟩ : ∃ sd : Addr, atI [V.ref q1, V.ref q2] (if decide (((2 * h : Nat) : Int) ≤ ((i0 : Nat) : Int)) = true then 1 else 0) = some (.ref sd) ∧ H14 sd = some (.lst (nV (sideL os h i0))) := by
          unfold sideL
          by_cases c : 2 * h ≤ i0
          · rw [if_pos c, if_pos (decide_eq_true (by omega))]
            exact ⟨q2, atI_nat (j := 1) rfl, t14 _ _ hq2⟩
          · rw [if_neg c, if_neg (by rw [decide_eq_true_eq]; omega)]
            exact ⟨q1, atI_nat (j := 0) rfl, t14 _ _ (t13 _ _ hq1)⟩
        refine ⟨_, rfl, _, rfl, _, _, rfl, rfl, .inr ⟨_, rfl, q3, _, _, .ref sd, rfl, rfl, .inl (.inl hq3), sd1, ?_⟩⟩
        -- the step
        obtain ⟨stp, es, es1, es2, es3⟩ : ∃ stp : Int, (1 - 2 * (if decide (((j0 : Nat) : Int) < ((i0 : Nat) : Int)) = true then 1 else 0) : Int) = stp ∧ (i0 ≤ j0 → stp = 1) ∧ (j0 < i0 → stp = -1) ∧ (-2 ^ 64 < stp ∧ stp < 2 ^ 64) := by
          by_cases c : j0 < i0
          · rw [if_pos (decide_eq_true (by omega))]
            exact ⟨_, rfl, fun z => by omega, fun _ => rfl, by decide, by decide⟩
          · rw [if_neg (by rw [decide_eq_true_eq]; omega)]
            exact ⟨_, rfl, fun _ => rfl, fun z => by omega, by decide, by decide⟩
        refine ⟨_, rfl, _, rfl, _, _, rfl, rfl, .inr ⟨_, rfl, _, _, rfl, rfl, .inl ⟨by decide, by decide⟩, _, _, rfl, rfl, ?_⟩⟩
        dsimp only
        rw [es]
        -- the way
        have eabs : (if ((j0 : Nat) : Int) - ((i0 : Nat) : Int) < 0 then -(((j0 : Nat) : Int) - ((i0 : Nat) : Int)) else ((j0 : Nat) : Int) - ((i0 : Nat) : Int)) = ((dist i0 j0 : Nat) : Int) := by
          unfold dist
          split <;> omega
        have dl : dist i0 j0 ≤ 1200 := by unfold dist; omega
        refine ⟨_, rfl, _, rfl, _, _, rfl, rfl, _, rfl, ?_⟩
        dsimp only
        rw [eabs]
        refine ⟨_, rfl, by omega, by omega, fun Wy nWy => ?_⟩
        have ed : ((dist i0 j0 : Nat) : Int).toNat = dist i0 j0 := by omega
        rw [ed]
        have hO14 := s14 _ _ hO11
        refine lc_it walk_range (fun i H15 => H15 Wy = some (.lst (nV (((along i0 j0).take i).map (at0 os)))) ∧ Same H14 H15) ⟨upd_same .., same_new nWy⟩ (fun _ _ _ _ => trivial) ?_ ?_
        · rintro i x H0 H15 hi ⟨k1, k2⟩ ⟨rfl, hx⟩
          have hx : x = .int (i : Nat) := hx.trans (congrArg V.int (Int.zero_add _))
          subst hx
          have ka := along_at hi
          obtain ⟨q, eq, lq⟩ : ∃ q : Nat, (if i0 ≤ j0 then i0 + 1 + i else i0 - 1 - i) = q ∧ q < n := ⟨_, rfl, by unfold dist at hi; split <;> omega⟩
          rw [eq] at ka
          have eix : ((i0 : Nat) : Int) + stp * (((i : Nat) : Int) + 1) = ((q : Nat) : Int) := by
            unfold dist at hi
            by_cases c : i0 ≤ j0
            · rw [es1 c]; rw [if_pos c] at eq; omega
            · rw [es2 (by omega)]; rw [if_neg c] at eq; omega
          refine ⟨rfl, _, rfl, _, rfl, _, rfl, _, rfl, _, _, rfl, rfl, _, _, rfl, rfl, .inl es3, _, _, rfl, rfl, O, _, _, .int (at0 os q : Nat), rfl, rfl, .inl (.inl (k2 _ _ hO14)), (by show atI (nV os) (((i0 : Nat) : Int) + stp * (((i : Nat) : Int) + 1)) = _; rw [eix]; exact atI_nat (nV_at0 (by rw [ord.len]; exact lq))), _, k1, by rw [nV_len, List.length_map, List.length_take]; omega, ?_, same_put nWy k2⟩
          rw [upd_same, nV_snoc, List.take_add_one, ka, List.map_append] <;> rfl
        rintro H15 ⟨hWy, t15⟩
        have htk : (along i0 j0).take (dist i0 j0) = along i0 j0 := List.take_of_length_le (by rw [along_len]; exact Nat.le_refl _)
        rw [htk] at hWy
        refine seq_cut fun D4 f4 => ?_
        have s15 : Same H11 H15 := same2 s14 t15
        have tailD : ∀ y : V, ((wayL os n h i0 (at0 os j0) = none ∧ y = .non) ∨ ∃ pp t, wayL os n h i0 (at0 os j0) = some pp ∧ y = .ref t ∧ H15 t = some (.lst (nV pp))) → D4.nx [some (.ref a), some (.ref p), some (.int (n : Nat)), some (.ref O), none, some (.int ((2 * h : Nat) : Int)), some (.ref a1), some (.ref a2), m8, some (.ref R), some (.ref S), none, some (.int (i0 : Nat)), some (.int (j0 : Nat)), some (.ref sd), some (.int stp), some y, none, none] H15 := by
          intro y hy
          rw [f4]
          have gd := L.ord.at_lt lj
          have sd0 := L.ord.at_lt li
          have hW := L.ways two li
          have hSat : ∀ {H' : Hp}, Same H11 H' → SqL K H' O (nV os) := fun {H'} s => .inl (.inl (s _ _ hO11))
          have ai := atI_nat (nV_at0 (l := os) (i := i0) (by rw [ord.len]; exact li))
          have aj := atI_nat (nV_at0 (l := os) (i := j0) (by rw [ord.len]; exact lj))
          refine seq_cut fun D5 f5 => ?_
          have tailE : ∀ H16 : Hp, Same H15 H16 → D5.nx [some (.ref a), some (.ref p), some (.int (n : Nat)), some (.ref O), none, some (.int ((2 * h : Nat) : Int)), some (.ref a1), some (.ref a2), m8, some (.ref R), some (.ref S), none, some (.int (i0 : Nat)), some (.int (j0 : Nat)), some (.ref sd), some (.int stp), some y, none, none] H16 := by
            intro H16 t16
            rw [f5]
            have s16 : Same H11 H16 := same2 s15 t16
            have hsd : ∀ {H' : Hp}, Same H16 H' → H' sd = some (.lst (nV (sideL os h i0))) := fun {H'} s => s _ _ (t16 _ _ (t15 _ _ sd2))
            refine ⟨_, rfl, S, _, rfl, .inl ⟨.inl (.inl (s16 _ _ hS)), fun q nq => ?_⟩⟩
            have tq := same_new (o := .tup (ts.map V.ref)) nq
            have hSq : Sights K false (upd H16 q (.tup (ts.map V.ref))) q rs := ⟨ts, .inl (.inl (upd_same ..)), pimp (fun _ _ _ z => z.same (same2 s16 tq)) hpS⟩
            generalize upd H16 q (.tup (ts.map V.ref)) = H17 at tq hSq
            have s17 := same2 s16 tq
            refine ⟨_, rfl, _, rfl, O, _, _, _, rfl, rfl, hSat s17, ai, q, false, rs, at0 os i0, rfl, hSq, .inl ⟨n, tw.one (by omega) sd0, fun t l H18 s18 ht l1 l2 l3 => ?_⟩⟩
            have el := reach_met tw hW (fun v p e => wayL_lt e) l1 l2 l3
            subst el
            have t18 : Same H16 H18 := same2 tq s18
            have slen : (sideL os h i0).length ≤ 1199 := Nat.le_trans (L.side_len i0) n1
            refine ⟨_, rfl, sd, (sideL os h i0).map (fun z => ((z : Nat) : Int)), rfl, .inl (.inl (by rw [← nV_int]; exact hsd t18)), fun ns' q2 hperm hsort nq2 => ?_⟩
            obtain ⟨m, em, pm⟩ := nats_of hperm
            subst em
            have hm1 : m.Pairwise (· ≤ ·) := by
              rw [List.pairwise_map] at hsort
              exact hsort.imp fun z => by omega
            have hm2 : m.Nodup := pm.symm.nodup (L.side_nd i0)
            have emet : m = metOf n (wayL os n h i0) := sorted_uniq (strict_of hm1 hm2) (met_sorted ..) fun v => by rw [L.met_side]; exact pm.mem_iff
            subst emet
            have t19 := same_new (o := .lst ((metOf n (wayL os n h i0)).map (fun z => ((z : Nat) : Int)) |>.map V.int)) nq2
            have hq2' : upd H18 q2 (.lst ((metOf n (wayL os n h i0)).map (fun z => ((z : Nat) : Int)) |>.map V.int)) q2 = some (.lst (nV (metOf n (wayL os n h i0)))) := by rw [upd_same, ← nV_int]
            generalize upd H18 q2 (.lst ((metOf n (wayL os n h i0)).map (fun z => ((z : Nat) : Int)) |>.map V.int)) = H19 at t19 hq2'
            have mlen : (metOf n (wayL os n h i0)).length ≤ 16777216 := by rw [pm.length_eq]; omega
            refine ⟨t, q2, _, rfl, t19 _ _ ht, .inl (.inl hq2'), mlen, _, rfl, ?_⟩
            refine iteF ?_
            have t19' : Same H16 H19 := same2 t18 t19
            have fit : ∀ ds : List Nat, ds.length ≤ 1199 → (∀ v ∈ ds, v < n) → Fit rs n ds := fun ds h1 h2 => ⟨tw.rl, tw.row, fun _ v hv => h2 v hv, by omega, Nat.le_trans tw.few (by decide)⟩
            refine ⟨_, rfl, _, rfl, S, sd, true, true, rs, sideL os h i0, rfl, hSs (same2 s16 t19'), .inl (.inl (hsd t19')), .inl ⟨n, fit _ slen L.side_lt, fun H20 b s20 hb => ?_⟩⟩
            have eb : b = true := hb.mpr ((tw.cl _).mpr (L.closed two i0))
            subst eb
            have z3 : (!decide (true = true)) = false := by simp
            refine ⟨_, _, rfl, rfl, _, rfl, ?_⟩
            rw [z3]
            refine iteF ?_
            have t20 : Same H16 H20 := same2 t19' s20
            refine ⟨_, rfl, _, rfl, _, rfl, sd, _, rfl, .inl (.inl (hsd t20)), fun q4 nq4 => ?_⟩
            have ec : cutV (nV (sideL os h i0)) (some 1) none = nV ((sideL os h i0).drop 1) := cut_tail _ 1
            rw [ec]
            have t21 := same_new (o := .lst (nV ((sideL os h i0).drop 1))) nq4
            have hq4 : upd H20 q4 (.lst (nV ((sideL os h i0).drop 1))) q4 = some (.lst (nV ((sideL os h i0).drop 1))) := upd_same ..
            generalize upd H20 q4 (.lst (nV ((sideL os h i0).drop 1))) = H21 at t21 hq4
            have t21' : Same H16 H21 := same2 t20 t21
            refine ⟨S, q4, true, true, rs, (sideL os h i0).drop 1, rfl, hSs (same2 s16 t21'), .inl (.inl hq4), .inl ⟨n, fit _ (by rw [List.length_drop]; omega) (fun v hv => L.side_lt v (List.mem_of_mem_drop hv)), fun H22 b s22 hb => ?_⟩⟩
            have t22 : Same H16 H22 := same2 t21' s22
            have hb1 : b = true ↔ (sideL os h i0).length = 1 := hb.trans ((tw.cl _).trans (L.short two li))
            have z4 : decide (V.bl b = V.bl (decide (V.int ((nV (sideL os h i0)).length : Nat) = V.int 1))) = true := by
              have e : b = decide (V.int ((nV (sideL os h i0)).length : Nat) = V.int 1) := by
                rw [nV_len]
                by_cases c : (sideL os h i0).length = 1
                · rw [hb1.mpr c, c] <;> rfl
                · rw [decide_eq_false fun q => c (by have := V.int.inj q; omega)]
                  cases b with
                  | true => exact absurd (hb1.mp rfl) c
                  | false => rfl
              rw [← e, decide_eq_true rfl]
            refine ⟨_, rfl, .bl _, .ty "bool", _, _, true, rfl, .ty _, .of (.base (.bl _)), T.is_bool_bool, true, rfl, ?_⟩
            refine iteT ⟨_, rfl, _, rfl, sd, _, rfl, .inl (.inl (.inl (hsd t22))), rfl, rfl, ?_⟩
            rw [z4]
            exact hQ _ (same2 sH1 (same2 s4 (same2 s10 (same2 s11 (same2 s16 t22)))))
          refine ⟨_, rfl, _, rfl, _, rfl, O, _, _, _, rfl, rfl, hSat s15, ai, _, rfl, _, rfl, O, _, _, _, rfl, rfl, hSat s15, aj, S, true, rs, at0 os i0, at0 os j0, rfl, hSs s15, .inl ⟨n, tw.one (by omega) gd, ?_, ?_⟩⟩
          · intro H16 s16 no
            have ey := chain_y_none tw hW hy no
            subst ey
            exact ⟨_, rfl, _, rfl, _, rfl, O, _, _, _, rfl, rfl, hSat (same2 s15 s16), ai, _, rfl, .non, .non, R, ws, n, at0 os i0, rfl, hR11.same (same2 s15 s16), hl, by omega, fun H17 s17 => ⟨_, rfl, iteF (tailE H17 (same2 s16 s17))⟩, .inl ⟨rfl, rfl⟩⟩
          · intro t H16 c d v s16 hc hd hch
            obtain ⟨wl, ey, e1, e2, e3, e4⟩ := chain_y_some tw (by omega) gd hW hy hd hch
            subst ey
            exact ⟨_, rfl, _, rfl, _, rfl, O, _, _, _, rfl, rfl, hSat (same2 s15 s16), ai, _, rfl, .ref t, .ref wl, R, ws, n, at0 os i0, rfl, hR11.same (same2 s15 s16), hl, by omega, fun H17 s17 => ⟨_, rfl, iteF (tailE H17 (same2 s16 s17))⟩, .inr ⟨t, wl, c, rfl, rfl, hc, .inl (.inl (s16 _ _ e1)), e2, sd0, e3, e4⟩⟩
        refine ⟨_, rfl, _, rfl, _, _, rfl, rfl, _, rfl, _, rfl, _, _, rfl, rfl, rfl, _, rfl, ?_⟩
        by_cases c : Sd h i0 j0
        · have z : (!decide (V.bl (decide (((i0 : Nat) : Int) < ((2 * h : Nat) : Int))) = V.bl (decide (((j0 : Nat) : Int) < ((2 * h : Nat) : Int))))) = false := by
            have e : decide (((i0 : Nat) : Int) < ((2 * h : Nat) : Int)) = decide (((j0 : Nat) : Int) < ((2 * h : Nat) : Int)) := by
              unfold Sd at c
              exact decide_eq_decide.mpr (by omega)
            rw [e]
            simp
          rw [z]
          exact iteF (tailD (.ref Wy) (.inr ⟨_, Wy, (L.way lj).1 c, rfl, hWy⟩))
        · have z : (!decide (V.bl (decide (((i0 : Nat) : Int) < ((2 * h : Nat) : Int))) = V.bl (decide (((j0 : Nat) : Int) < ((2 * h : Nat) : Int))))) = true := by
            have e : decide (((i0 : Nat) : Int) < ((2 * h : Nat) : Int)) ≠ decide (((j0 : Nat) : Int) < ((2 * h : Nat) : Int)) := fun q => by
              unfold Sd at c
              have := decide_eq_decide.mp q
              omega
            have e2 : decide (V.bl (decide (((i0 : Nat) : Int) < ((2 * h : Nat) : Int))) = V.bl (decide (((j0 : Nat) : Int) < ((2 * h : Nat) : Int)))) = false := decide_eq_false fun q => e (V.bl.inj q)
            rw [e2] <;> rfl
          rw [z]
          exact iteT (tailD .non (.inl ⟨(L.way lj).2 c, rfl⟩))
      refine ⟨_, rfl, _, rfl, le2, fun b1 nb1 => ?_⟩
      have t8 := same_new (o := .lst [.ref a1, .ref a2]) nb1
      have hb1 : upd H7 b1 (.lst [.ref a1, .ref a2]) b1 = some (.lst [.ref a1, .ref a2]) := upd_same ..
      generalize upd H7 b1 (.lst [.ref a1, .ref a2]) = H8 at t8 hb1
      refine ⟨_, rfl, _, rfl, le2, fun b2 nb2 => ?_⟩
      have t9 := same_new (o := .lst [.ref a2, .ref a1]) nb2
      have hb2 : upd H8 b2 (.lst [.ref a2, .ref a1]) b2 = some (.lst [.ref a2, .ref a1]) := upd_same ..
      generalize upd H8 b2 (.lst [.ref a2, .ref a1]) = H9 at t9 hb2
      refine ⟨le2, fun b3 nb3 => ?_⟩
      have t10 := same_new (o := .lst [.ref b1, .ref b2]) nb3
      have hb3 : upd H9 b3 (.lst [.ref b1, .ref b2]) b3 = some (.lst [.ref b1, .ref b2]) := upd_same ..
      generalize upd H9 b3 (.lst [.ref b1, .ref b2]) = H10 at t10 hb3
      have t7 := same2 t8 (same2 t9 t10)
      have s10 := same2 s7 t7
      refine ⟨_, rfl, p, _, _, _, rfl, rfl, (rd 3 (by decide) (same2 s4 s10)).1, (rd 3 (by decide) (same2 s4 s10)).2, ?_⟩
      rcases (by omega : at0 ds 3 = 0 ∨ at0 ds 3 = 1) with e | e
      · rw [e]
        exact ⟨b3, _, _, .ref b1, rfl, rfl, .inl (.inl hb3), atI_nat (j := 0) rfl, tailC H10 b1 [w1, w2] s10 ⟨[a1, a2], t10 _ _ (t9 _ _ hb1), .cons (t7 _ _ x1) (.cons (t7 _ _ x2) .nil)⟩ (.inl rfl)⟩
      · rw [e]
        exact ⟨b3, _, _, .ref b2, rfl, rfl, .inl (.inl hb3), atI_nat (j := 1) rfl, tailC H10 b2 [w2, w1] s10 ⟨[a2, a1], t10 _ _ hb2, .cons (t7 _ _ x2) (.cons (t7 _ _ x1) .nil)⟩ (.inr rfl)⟩
    refine ⟨_, rfl, p, _, _, _, rfl, rfl, (rd 2 (by decide) s3).1, (rd 2 (by decide) s3).2, rfl, _, rfl, ?_⟩
    refine ite2 (fun _ => ?_) (fun _ => tailB H3 O os s3 hO ord)
    refine ⟨_, rfl, _, _, _, (n + 1) / 2, rfl, rgc2 0 n (by omega) (by omega), fun B1 nB1 => lc_it walk_rangeC (fun i H5 => H5 B1 = some (.lst (nV ((List.range i).map fun k => 2 * k))) ∧ Same H3 H5) ⟨upd_same .., same_new nB1⟩ (fun _ _ _ _ => trivial) ?_ ?_⟩
    · rintro i x H0 H5 hi ⟨q1, q2⟩ ⟨rfl, hx⟩
      have hx : x = .int ((2 * i : Nat) : Int) := hx.trans (congrArg V.int (by omega))
      subst hx
      refine ⟨rfl, _, rfl, _, q1, by rw [nV_len, List.length_map, List.length_range]; omega, ?_, same_put nB1 q2⟩
      rw [upd_same, nV_snoc, List.range_succ, List.map_append] <;> rfl
    rintro H5 ⟨hB1, s5⟩
    refine ⟨_, rfl, .inl ⟨_, rfl, _, _, rfl, rfl, by show (2 : Int) ≠ 0; decide, _, rfl, _, _, _, n / 2, rfl, (by show RgC (((n : Nat) : Int).fmod 2) _ _ _; rw [fmod2]; have z := rgc2 (n % 2) n (by omega) (by omega); rw [show (n - n % 2 + 1) / 2 = n / 2 by omega] at z; exact z), fun B2 nB2 => lc_it walk_rangeC (fun i H6 => H6 B2 = some (.lst (nV ((List.range i).map fun k => n - 1 - (n % 2 + 2 * k)))) ∧ Same H5 H6) ⟨upd_same .., same_new nB2⟩ (fun _ _ _ _ => trivial) ?_ ?_⟩⟩
    · rintro i x H0 H6 hi ⟨q1, q2⟩ ⟨rfl, hx⟩
      have hx : x = .int (((n % 2 + 2 * i : Nat) : Int)) := hx.trans (congrArg V.int (by show ((n : Nat) : Int).fmod 2 + _ = _; rw [fmod2]; omega))
      subst hx
      refine ⟨rfl, _, rfl, _, _, rfl, rfl, _, rfl, _, _, rfl, rfl, _, q1, by rw [nV_len, List.length_map, List.length_range]; omega, ?_, same_put nB2 q2⟩
      have ev : ((n : Nat) : Int) - 1 - ((n % 2 + 2 * i : Nat) : Int) = ((n - 1 - (n % 2 + 2 * i) : Nat) : Int) := by omega
      rw [upd_same]
      show some (HO.lst (_ ++ [V.int (((n : Nat) : Int) - 1 - ((n % 2 + 2 * i : Nat) : Int))])) = _
      rw [ev, nV_snoc, List.range_succ, List.map_append] <;> rfl
    rintro H6 ⟨hB2, s6⟩
    refine ⟨B1, B2, _, _, rfl, rfl, s6 _ _ hB1, hB2, by rw [nV_len, nV_len, List.length_map, List.length_map, List.length_range, List.length_range]; omega, fun C nC => ?_⟩
    have en2 : ∀ u v : List Nat, nV u ++ nV v = nV (u ++ v) := fun u v => by unfold nV; rw [List.map_append]
    rw [en2]
    exact tailB _ C _ (same2 s3 (same2 s5 (same2 s6 (same_new nC)))) (upd_same ..) (ord_fold n)
  refine ⟨_, rfl, p, _, _, _, rfl, rfl, (rd 2 (by decide) s2).1, (rd 2 (by decide) s2).2, rfl, _, rfl, ?_⟩
  refine ite2 (fun _ => ?_) (fun _ => tailA H2 O _ s2 hO (ord_up n))
  refine ⟨_, rfl, _, rfl, by omega, by omega, fun O2 nO2 => ?_⟩
  rw [en]
  refine lc_it walk_range (fun i H3 => H3 O2 = some (.lst (nV ((List.range i).map fun k => n - 1 - k))) ∧ Same H2 H3) ⟨upd_same .., same_new nO2⟩ (fun _ _ _ _ => trivial) ?_ ?_
  · rintro i x H0 H3 hi ⟨q1, q2⟩ ⟨rfl, hx⟩
    have hx : x = .int (i : Nat) := hx.trans (congrArg V.int (Int.zero_add _))
    subst hx
    refine ⟨rfl, _, rfl, _, _, rfl, rfl, _, rfl, _, _, rfl, rfl, _, q1, by rw [nV_len, List.length_map, List.length_range]; omega, ?_, same_put nO2 q2⟩
    have ev : ((n : Nat) : Int) - 1 - ((i : Nat) : Int) = ((n - 1 - i : Nat) : Int) := by omega
    rw [upd_same]
    show some (HO.lst (_ ++ [V.int (((n : Nat) : Int) - 1 - ((i : Nat) : Int))])) = _
    rw [ev, nV_snoc, List.range_succ, List.map_append] <;> rfl
  rintro H3 ⟨hO2, s3⟩
  exact tailA H3 O2 _ (same2 s2 s3) hO2 (ord_down n)
end
end K02
set_option Elab.async false
set_option linter.all false
set_option maxRecDepth 100000
set_option maxHeartbeats 2000000
namespace K02
open PySem PySem.Spec PyProof.Rows L2 Ms
theorem iV_snoc (l : List Int) (d : Int) : l.map V.int ++ [V.int d] = (l ++ [d]).map V.int := by rw [List.map_append] <;> rfl
theorem take_map {α β : Type} {h : α → β} {l : List α} {i : Nat} {x : α} (e : l[i]? = some x) : (l.take (i + 1)).map h = (l.take i).map h ++ [h x] := by
  rw [List.take_add_one, e, List.map_append] <;> rfl
theorem dpRN {K : PySem.W.Frag} {H : Hp} {as : List Addr} {rs : List (List Nat)} (h : Paired (fun a r => H a = some (.lst (nV r))) as rs) : DpAll K H (as.map V.ref) (dR (rs.map fun r => r.map fun n => ((n : Nat) : Int))) := by
  induction h with
  | nil => exact .nil
  | cons r _ ih => exact .cons (.lst (.inl (.inl (by rw [← nV_int]; exact r))) (dpI _)) ih
def spLaw (K : PySem.W.Frag) : Sp := fun vs H Q _ => ∃ (a : Addr) (ns : List Int), vs = [.ref a] ∧ SqL K H a (ns.map V.int) ∧ ∀ H', Q (.bl true) H'
section
variable {P : Program} {w : World} {K : PySem.W.Frag} {mg : Str → Option Value} {base : Heap}
theorem law_of (T : Tx K mg) {fd : FuncData} (F : FunD K "law" "law" (defArgs slaw) (defBody slaw) (defScope slaw) [] [] (He.ga K "law") fd) : FnOk P w K mg base CX0 9 (He.ga K "law") fd ["script"] (spLaw K) := by
  have O__law_digits : Ok P w K mg base "_law_digits" 1 (spDigits K) := ok__law_digits T
  have O__law_cell : Ok P w K mg base "_law_cell" 1 (spCellL K) := ok__law_cell T
  have O__law_marks : Ok P w K mg base "_law_marks" 1 (spMarks K) := ok__law_marks T
  have O__law_numbers : Ok P w K mg base "_law_numbers" 2 (spNumbers K) := ok__law_numbers T
  have O__law_draw : Ok P w K mg base "_law_draw" 3 (spDraw K) := ok__law_draw T
  have O__law_ways : Ok P w K mg base "_law_ways" 2 (spWays K) := ok__law_ways T
  have O__law_is_chain : Ok P w K mg base "_law_is_chain" 3 (spIsChain K) := ok__law_is_chain T
  have O__law_asks_sets : Ok P w K mg base "_law_asks_sets" 5 (spAsksSets K) := ok__law_asks_sets T
  have O__law_differs : Ok P w K mg base "_law_differs" 8 (spDiffer3 K) := ok__law_differs T
  have O__law_far : Ok P w K mg base "_law_far" 7 (spFar K) := ok__law_far T
  have O_links : Ok P w K mg base "links" 6 (spLinks K) := ok_links T
  have O_reached : Ok P w K mg base "reached" 5 (spReached K) := ok_reached T
  have O_is_closed : Ok P w K mg base "is_closed" 4 (spClosed K) := ok_is_closed T
  have O_Sightu__initu_ : COk P w K mg base "Sight" 2 (spInit K) := cok T
  have O_Sightu__oru_ : BOk P w K mg base "Sight" "__or__" 4 (spOr K) := bok_or T
  have O_Sight_cell_of : MOk P w K mg base "Sight" "cell_of" 1 (spCellOf K) := mok_cell_of T
  have F1 : FnR P w K mg base (L2.CX P w) 4 (recAt K "classmethod" "Sight" "nothing") (spNothing K) := fr_nothing T
  refine F.ok sclaw (fun vs H Q E h => ?_) fun cdv A outer s H vs Q E hr h => ?_
  · obtain ⟨a, ns, rfl, _⟩ := h
    rfl
  obtain ⟨a, ns, rfl, ha, hQ⟩ := h
  have big : (16777216 : Nat) ≤ sizeLine := by decide
  have big2 : (4000 : Int) < 2 ^ 62 := by decide
  refine ⟨_, PSs.nox (pss_cons (ps_set (i := 1) sclaw.nd rfl (by first | exact Or.inl rfl | exact Or.inr rfl) (pe_c (E := EN) O__law_draw hr (by decide) (fun σ => passN σ) (pa_cons (pv 0) pa_nil)))
  (pss_cons (ps_set (i := 2) sclaw.nd rfl (by first | exact Or.inl rfl | exact Or.inr rfl) (pe_ix (ixL K) (pv 1) pe_int (fun _ _ => rfl)))
  (pss_cons (ps_set (i := 3) sclaw.nd rfl (by first | exact Or.inl rfl | exact Or.inr rfl) (pe_ix (ixL K) (pv 1) pe_int (fun _ _ => rfl)))
  (pss_cons (ps_set (i := 4) sclaw.nd rfl (by first | exact Or.inl rfl | exact Or.inr rfl) (pe_op op_modN (pe_callTy call_int1 (by rfl) T.f_int (by decide +kernel) (pa_cons (pe_c (E := EN) O__law_cell hr (by decide) (fun σ => passN σ) (pa_cons (pv 0) (pa_cons pe_int pa_nil))) pa_nil)) (pv 2)))
  (pss_cons (ps_set (i := 5) sclaw.nd rfl (by first | exact Or.inl rfl | exact Or.inr rfl) (pe_c (E := EN) O__law_ways hr (by decide) (fun σ => passN σ) (pa_cons (pv 3) (pa_cons (pv 2) (pa_cons (pv 4) pa_nil)))))
  (pss_cons (ps_setLc (i := 6) (own := [("k", 7)]) (g := gName 7) rfl sclaw.nd rfl rfl (sw_true rfl rfl rfl (by decide +kernel)) (pi_range1 rfl T.f_range (pa_cons (pv 2) pa_nil)) (blkOk_by (N := ["script", "drawn", "size", "rows", "start", "ways", "met", "k", "far", "sights", "mark", "row", "goals", "deal", "goal", "some", "total", "sight", "stayed", "item"]) (sc := defScope slaw) (by decide +kernel)) (fun _ _ _ _ _ => (pg_name (i := 7) sclaw.nd rfl (by first | exact Or.inl rfl | exact Or.inr rfl))) (fun _ _ _ _ _ => (pts_one (pt_cmpR op_notN (pe_ix (ixL K) (pv 5) (pv 7) (fun _ _ => rfl)) pe_non (nomark _)))) (fun _ _ _ _ _ => (pv 7)))
  (pss_cons (ps_set (i := 8) sclaw.nd rfl (by first | exact Or.inl rfl | exact Or.inr rfl) (pe_callB call_abs (by rfl) T.f_abs (by decide +kernel) (pa_cons (pe_c (E := EN) O__law_cell hr (by decide) (fun σ => passN σ) (pa_cons (pv 0) (pa_cons pe_int pa_nil))) pa_nil)))
  (pss_cons (ps_setLc (i := 9) (own := [("row", 11)]) (g := gName 11) rfl sclaw.nd rfl rfl (sw_true rfl rfl rfl (by decide +kernel)) (pi_list (pv 3)) (blkOk_by (N := ["script", "drawn", "size", "rows", "start", "ways", "met", "k", "far", "sights", "mark", "row", "goals", "deal", "goal", "some", "total", "sight", "stayed", "item"]) (sc := defScope slaw) (by decide +kernel)) (fun _ _ _ _ _ => (pg_name (i := 11) sclaw.nd rfl (by first | exact Or.inl rfl | exact Or.inr rfl))) (fun _ _ _ _ _ => pts_nil) (fun _ _ _ _ _ => (pe_nK K (E := EN) O_Sightu__initu_ hr (by decide) (fun σ => passN σ) (pa_cons (pe_lc (own := [("mark", 10)]) (g := gName 10) rfl sclaw.nd (pi_listK K (pv 11)) (blkOk_to (blkOk_by (N := ["script", "drawn", "size", "rows", "start", "ways", "met", "k", "far", "sights", "mark", "row", "goals", "deal", "goal", "some", "total", "sight", "stayed", "item"]) (sc := { kind := PySem.ScopeKind.function, names := [(".0", PySem.NameKind.local), ("row", PySem.NameKind.local), ("Sight", PySem.NameKind.globalImplicit), ("far", PySem.NameKind.cell)], isGenerator := false, isCoroutine := false }) (by decide +kernel)) (by rfl) (by rfl)) (fun _ _ _ _ _ => (pg_name (i := 10) sclaw.nd rfl (by first | exact Or.inl rfl | exact Or.inr rfl))) (fun _ _ _ _ _ => pts_nil) (fun _ _ _ _ _ => (pe_op op_sub (pv 10) (pv 8)))) pa_nil))))
  (pss_cons (ps_setLc (i := 12) (own := [("k", 7)]) (g := gName 7) rfl sclaw.nd rfl rfl (sw_true rfl rfl rfl (by decide +kernel)) (pi_range1 rfl T.f_range (pa_cons (pv 2) pa_nil)) (blkOk_by (N := ["script", "drawn", "size", "rows", "start", "ways", "met", "k", "far", "sights", "mark", "row", "goals", "deal", "goal", "some", "total", "sight", "stayed", "item"]) (sc := defScope slaw) (by decide +kernel)) (fun _ _ _ _ _ => (pg_name (i := 7) sclaw.nd rfl (by first | exact Or.inl rfl | exact Or.inr rfl))) (fun _ _ _ _ _ => pts_nil) (fun _ _ _ _ _ => (pv 7)))
  (pss_cons (ps_if (pt_cmpR op_gt (pv 2) pe_int (nomark _))
  (pss_cons (ps_set (i := 12) sclaw.nd rfl (by first | exact Or.inl rfl | exact Or.inr rfl) (pe_lst (pa_cons (pv 4) (pa_cons (pe_op op_sub (pv 2) pe_int) (pa_cons (pe_ix (ixL K) (pv 6) (pe_op op_sub (pe_callB (lenK K) (by rfl) T.f_len boot_len (pa_cons (pv 6) pa_nil)) pe_int) (fun _ _ => rfl)) (pa_cons (pe_op op_modN (pe_callTy call_int1 (by rfl) T.f_int (by decide +kernel) (pa_cons (pe_c (E := EN) O__law_cell hr (by decide) (fun σ => passN σ) (pa_cons (pv 0) (pa_cons pe_int pa_nil))) pa_nil)) (pv 2)) (pa_cons (pv 4) pa_nil)))))))
    (pss_one (ps_for PassesOwn.never rfl (pi_list (pv 6)) (pg_name (i := 13) sclaw.nd rfl (by first | exact Or.inl rfl | exact Or.inr rfl))
    (pss_one (ps_if (pt_cmpR op_gt (pe_callB (lenK K) (by rfl) T.f_len boot_len (pa_cons (pe_ix (ixL K) (pv 5) (pv 13) (fun _ _ => rfl)) pa_nil)) (pe_callB (lenK K) (by rfl) T.f_len boot_len (pa_cons (pe_ix (ixL K) (pv 5) (pe_ix (ixL K) (pv 12) pe_int (fun _ _ => rfl)) (fun _ _ => rfl)) pa_nil)) (nomark _))
      (pss_one (ps_asg (pv 13) (pg_sub (pv 12) pe_int set_list)))
      pss_nil)))))
  pss_nil)
  (pss_cons (ps_for PassesOwn.never rfl (pi_list (pv 12)) (pg_name (i := 14) sclaw.nd rfl (by first | exact Or.inl rfl | exact Or.inr rfl))
  (pss_one (ps_if (pt_not (pt_val (pe_c (E := EN) O__law_is_chain hr (by decide) (fun σ => passN σ) (pa_cons (pe_c (E := EN) O_links hr (by decide) (fun σ => passN σ) (pa_cons (pv 9) (pa_cons (pv 4) (pa_cons (pv 14) pa_nil)))) (pa_cons (pv 3) (pa_cons (pv 4) (pa_cons (pe_ix (ixL K) (pv 5) (pv 14) (fun _ _ => rfl)) pa_nil)))))))
    (pss_one (ps_ret pe_bl))
    pss_nil)))
  (pss_cons (ps_if (PW.pt (pw_or (pt_not (pt_val (pe_c (E := EN) O__law_numbers hr (by decide) (fun σ => passN σ) (pa_cons (pe_c (E := EN) O_reached hr (by decide) (fun σ => passN σ) (pa_cons (pe_callTy (tupK K) (by rfl) T.f_tuple (by decide +kernel) (pa_cons (pv 9) pa_nil)) (pa_cons (pv 4) pa_nil))) (pa_cons (pv 6) pa_nil))))) (pw_or1 (pt_not (pt_val (pe_c (E := EN) O__law_asks_sets hr (by decide) (fun σ => passN σ) (pa_cons (pv 0) (pa_cons (pv 9) (pa_cons (pv 3) (pa_cons (pv 2) (pa_cons (pv 6) pa_nil)))))))))))
  (pss_one (ps_ret pe_bl))
  pss_nil)
  (pss_cons (ps_if (PW.pt (pw_or (pt_cmpR op_notN (pe_c (E := EN) O_links hr (by decide) (fun σ => passN σ) (pa_cons (pe_lst pa_nil) (pa_cons (pv 8) (pa_cons (pe_op op_add (pv 8) pe_int) pa_nil)))) pe_non (nomark _)) (pw_or (pt_cmpR (neK K (hu := hr.units)) (pe_c (E := EN) O_links hr (by decide) (fun σ => passN σ) (pa_cons (pe_tup pa_nil) (pa_cons (pv 8) (pa_cons (pv 8) pa_nil)))) (pe_tup pa_nil) (nomark _)) (pw_or1 (pt_not (pt_val (pe_c (E := EN) O__law_numbers hr (by decide) (fun σ => passN σ) (pa_cons (pe_c (E := EN) O_reached hr (by decide) (fun σ => passN σ) (pa_cons (pe_lst pa_nil) (pa_cons (pv 8) pa_nil))) (pa_cons (pe_lst (pa_cons (pv 8) pa_nil)) pa_nil)))))))))
  (pss_one (ps_ret pe_bl))
  pss_nil)
  (pss_cons (ps_set (i := 15) sclaw.nd rfl (by first | exact Or.inl rfl | exact Or.inr rfl) (pe_slice sl_list (pe_op op_cat (pv 9) (pe_lst (pa_cons (ClX.pe_cmeth (pe_glob (v := .ref (He.ga K "Sight")) rfl T.g_Sight rfl) T.r_Sight T.cm_nothing F1 (hr.mono (by decide)) passF (pa_cons (pv 2) pa_nil)) pa_nil))) po_none (po_some pe_int)))
  (pss_cons (ps_if (PW.pt (pw_or (pt_cmpR op_isnot_bl (pe_c (E := EN) O_is_closed hr (by decide) (fun σ => passN σ) (pa_cons (pe_lst pa_nil) (pa_cons (pe_lst (pa_cons (pv 8) (pa_cons pe_int (pa_cons (pv 8) pa_nil)))) pa_nil))) pe_bl (nomark _)) (pw_or1 (pt_not (pt_val (pe_c (E := EN) O__law_differs hr (by decide) (fun σ => passN σ) (pa_cons (pv 15) (pa_cons (pv 2) (pa_cons (pe_c (E := EN) O__law_cell hr (by decide) (fun σ => passN σ) (pa_cons (pv 0) (pa_cons pe_int pa_nil))) pa_nil)))))))))
  (pss_one (ps_ret pe_bl))
  pss_nil)
  (pss_cons (ps_if (pt_cmpR op_gt (pe_callB (lenK K) (by rfl) T.f_len boot_len (pa_cons (pv 3) pa_nil)) pe_int (nomark _))
  (pss_cons (ps_set (i := 16) sclaw.nd rfl (by first | exact Or.inl rfl | exact Or.inr rfl) (pe_ix (ixL K) (pv 9) pe_int (fun _ _ => rfl)))
    (pss_cons (ps_for PassesOwn.never rfl (pi_list (pv 9)) (pg_name (i := 17) sclaw.nd rfl (by first | exact Or.inl rfl | exact Or.inr rfl))
    (pss_one (ps_set (i := 16) sclaw.nd rfl (by first | exact Or.inl rfl | exact Or.inr rfl) (pe_binK K (E := EN) O_Sightu__oru_ rfl hr (by decide) (fun σ => passN σ) (pv 16) (pv 17)))))
    (pss_one (ps_if (pt_not (pt_val (pe_c (E := EN) O__law_numbers hr (by decide) (fun σ => passN σ) (pa_cons (pe_mK K (E := EN) O_Sight_cell_of hr (by decide) (fun σ => passN σ) (pv 16) (pa_cons (pv 4) pa_nil)) (pa_cons (pv 6) pa_nil)))))
    (pss_one (ps_ret pe_bl))
    pss_nil))))
  pss_nil)
  (pss_cons (ps_set (i := 14) sclaw.nd rfl (by first | exact Or.inl rfl | exact Or.inr rfl) (pe_ix (ixL K) (pv 12) (pe_op op_modN (pe_callTy call_int1 (by rfl) T.f_int (by decide +kernel) (pa_cons (pe_c (E := EN) O__law_cell hr (by decide) (fun σ => passN σ) (pa_cons (pv 0) (pa_cons pe_int pa_nil))) pa_nil)) (pe_callB (lenK K) (by rfl) T.f_len boot_len (pa_cons (pv 12) pa_nil))) (fun _ _ => rfl)))
  (pss_cons (ps_if (pt_not (pt_val (pe_c (E := EN) O__law_is_chain hr (by decide) (fun σ => passN σ) (pa_cons (pe_c (E := EN) O_links hr (by decide) (fun σ => passN σ) (pa_cons (pe_callTy (tupK K) (by rfl) T.f_tuple (by decide +kernel) (pa_cons (pv 9) pa_nil)) (pa_cons (pv 4) (pa_cons (pv 14) pa_nil)))) (pa_cons (pv 3) (pa_cons (pv 4) (pa_cons (pe_ix (ixL K) (pv 5) (pv 14) (fun _ _ => rfl)) pa_nil)))))))
  (pss_one (ps_ret pe_bl))
  pss_nil)
  (pss_cons (ps_set (i := 18) sclaw.nd rfl (by first | exact Or.inl rfl | exact Or.inr rfl) (pe_cmpR (eqK K (hu := hr.units)) (pe_lc (own := [("item", 19)]) (g := gName 19) rfl sclaw.nd (pi_list (pv 9)) (blkOk_by (N := ["script", "drawn", "size", "rows", "start", "ways", "met", "k", "far", "sights", "mark", "row", "goals", "deal", "goal", "some", "total", "sight", "stayed", "item"]) (sc := defScope slaw) (by decide +kernel)) (fun _ _ _ _ _ => (pg_name (i := 19) sclaw.nd rfl (by first | exact Or.inl rfl | exact Or.inr rfl))) (fun _ _ _ _ _ => pts_nil) (fun _ _ _ _ _ => (pe_callTy (lstK K) (by rfl) T.f_list (by decide +kernel) (pa_cons (pe_fldK K (pv 19)) pa_nil)))) (pe_lc (own := [("row", 11)]) (g := gName 11) rfl sclaw.nd (pi_list (pv 3)) (blkOk_by (N := ["script", "drawn", "size", "rows", "start", "ways", "met", "k", "far", "sights", "mark", "row", "goals", "deal", "goal", "some", "total", "sight", "stayed", "item"]) (sc := defScope slaw) (by decide +kernel)) (fun _ _ _ _ _ => (pg_name (i := 11) sclaw.nd rfl (by first | exact Or.inl rfl | exact Or.inr rfl))) (fun _ _ _ _ _ => pts_nil) (fun _ _ _ _ _ => (pe_c (E := EN) O__law_marks hr (by decide) (fun σ => passN σ) (pa_cons (pv 11) pa_nil)))) (nomark _)))
  (pss_one (ps_ret (pe_and (pv 18) (pe_and (pe_c (E := EN) O__law_numbers hr (by decide) (fun σ => passN σ) (pa_cons (pe_c (E := EN) O_reached hr (by decide) (fun σ => passN σ) (pa_cons (pv 9) (pa_cons (pv 4) pa_nil))) (pa_cons (pv 6) pa_nil))) (pe_one (pe_c (E := EN) O__law_far hr (by decide) (fun σ => passN σ) (pa_cons (pv 0) pa_nil)))))))))))))))))))))))))), ?_⟩
  refine ⟨_, rfl, a, ns, rfl, ha, fun H1 p n ws s1 np hd => ?_⟩
  obtain ⟨R, hp, hR, hl, h8, n0, n1⟩ := hd
  have en : ((n : Nat) : Int).toNat = n := by omega
  have nzn : ((n : Nat) : Int) ≠ 0 := by omega
  refine ⟨_, rfl, p, _, _, .int (n : Nat), rfl, rfl, .inl (.inl hp), atI_nat (j := 0) rfl, ?_⟩
  refine ⟨_, rfl, p, _, _, .ref R, rfl, rfl, .inl (.inl hp), atI_nat (j := 1) rfl, ?_⟩
  refine ⟨_, rfl, a, ns, 1, rfl, Same.seq s1 ha, fun c1 => .inl ⟨_, rfl, _, rfl, _, _, rfl, rfl, nzn, ?_⟩⟩
  obtain ⟨st, est, lst⟩ := digit (a := c1) n0
  dsimp only
  rw [← est]
  refine ⟨_, rfl, _, rfl, _, rfl, R, ws, n, st, rfl, hR, hl, lst, by omega, fun H2 W wf s2 nW hWA hW hlt => ?_⟩
  have s02 := same2 s1 s2
  have hR2 := hR.same s2
  refine ⟨_, rfl, _, rfl, by omega, by omega, fun M nM => ?_⟩
  rw [en]
  obtain ⟨wvs, wv1, wv2, wv3⟩ := id hWA
  refine lc_it walk_range (fun i H3 => H3 M = some (.lst (nV ((List.range i).filter fun v => (wf v).isSome))) ∧ Same H2 H3) ⟨upd_same .., same_new nM⟩ (fun _ _ _ _ => trivial) ?_ ?_
  · rintro i x H0 H3 hi ⟨q1, q2⟩ ⟨rfl, hx⟩
    have hx : x = .int (i : Nat) := hx.trans (congrArg V.int (Int.zero_add _))
    subst hx
    rw [List.range_succ, List.filter_append]
    rcases wv3 i hi with ⟨e1, e2⟩ | ⟨q, t, e1, e2, _, _⟩
    · refine ⟨rfl, _, rfl, _, rfl, W, _, _, _, rfl, rfl, .inl (.inl (q2 _ _ wv1)), atI_nat e2, rfl, _, rfl, iteF ⟨?_, q2⟩⟩
      rw [List.filter_cons_of_neg (by rw [e1]; exact Bool.false_ne_true), List.filter_nil, List.append_nil]
      exact q1
    · refine ⟨rfl, _, rfl, _, rfl, W, _, _, _, rfl, rfl, .inl (.inl (q2 _ _ wv1)), atI_nat e2, rfl, _, rfl, ?_⟩
      have z : (!decide (V.ref t = V.non)) = true := by
        have no : ¬ V.ref t = V.non := fun z => by cases z
        rw [decide_eq_false no] <;> rfl
      rw [z]
      refine iteT ⟨_, rfl, _, q1, ?_, ?_, same_put nM q2⟩
      · rw [nV_len]
        have := List.length_filter_le (fun v => (wf v).isSome) (List.range i)
        rw [List.length_range] at this
        omega
      · rw [upd_same, nV_snoc, List.filter_cons_of_pos (by rw [e1] <;> rfl), List.filter_nil]
  rintro H3 ⟨hM, s3⟩
  have hM : H3 M = some (.lst (nV (metOf n wf))) := hM
  have s03 := same2 s02 s3
  refine ⟨_, rfl, a, ns, 3, rfl, Same.seq s03 ha, fun c3 => ⟨c3, rfl, ?_⟩⟩
  obtain ⟨f, hf⟩ : ∃ f : Nat, (if c3 < 0 then -c3 else c3) = ((f : Nat) : Int) := by
    by_cases c : c3 < 0
    · rw [if_pos c]; exact ⟨(-c3).toNat, by omega⟩
    · rw [if_neg c]; exact ⟨c3.toNat, by omega⟩
  rw [hf]
  have hR3 := hR2.same s3
  obtain ⟨rts, rr1, rr2⟩ := id hR3
  have rl := Paired.length rr2
  refine ⟨_, rfl, R, rfl, ⟨_, .inl (.inl rr1)⟩, fun S nS => ?_⟩
  refine lc_it (walk_list (K := K) (a := R) (xs := rts.map V.ref)) (fun i H4 => ∃ ts : List Addr, H4 S = some (.lst (ts.map V.ref)) ∧ ts.length = i ∧ Paired (fun t r => SightAt K H4 t r) ts ((ws.map ren).take i) ∧ Same H3 H4) ⟨[], upd_same .., rfl, .nil, same_new nS⟩ (fun i H4 _ h => by obtain ⟨_, _, _, _, h⟩ := h; exact .inl (.inl (h _ _ rr1))) ?_ ?_
  · rintro i x H0 H4 hi ⟨ts, q1, q2, q3, q4⟩ ⟨rfl, hx⟩
    rw [List.length_map] at hi
    obtain ⟨tr, wr, f1, f2, f3⟩ := pget2 rr2 hi
    rw [List.getElem?_map, f1] at hx
    cases hx
    have wl := hl wr (List.mem_of_getElem? f2)
    have g4 := q4 _ _ f3
    refine ⟨rfl, ?_⟩
    refine ⟨_, rfl, tr, rfl, ⟨_, .inl (.inl g4)⟩, fun D3 nD3 => ?_⟩
    refine lc_it (walk_list (K := K) (a := tr) (xs := nV wr)) (fun j H5 => H5 D3 = some (.lst (((wr.take j).map fun x => ((x : Nat) : Int) - ((f : Nat) : Int)).map V.int)) ∧ Same H4 H5) ⟨upd_same .., same_new nD3⟩ (fun j H5 _ h => .inl (.inl (h.2 _ _ g4))) ?_ ?_
    · rintro j x0 H0 H5 hj ⟨u1, u2⟩ ⟨rfl, hx⟩
      obtain ⟨x, hx2, rfl⟩ := of_nV hx
      rw [nV_len] at hj
      refine ⟨rfl, _, rfl, _, rfl, _, _, rfl, rfl, _, u1, by rw [List.length_map, List.length_map, List.length_take]; omega, ?_, same_put nD3 u2⟩
      rw [upd_same, iV_snoc, take_map hx2]
    rintro H5 ⟨u1, u2⟩
    rw [nV_len, List.take_length] at u1
    have hm1 : MarksAt K H5 D3 (ren wr) := ⟨_, by rw [List.length_map, List.length_map]; omega, .inl ⟨_, rfl, (ren_map (f := fun x : Nat => ((x : Nat) : Int) - ((f : Nat) : Int)) fun x y z => by omega).symm, .inl (.inl (.inl u1))⟩⟩
    refine make_fin hm1 (fun _ H6 p1 s6 np1 h1 => ?_) (fun e => absurd e (by rw [ren_len]; omega))
    have s46 : Same H4 H6 := same2 u2 s6
    have hS6 := s46 _ _ q1
    have rtk : (ws.map ren).take (i + 1) = (ws.map ren).take i ++ [ren wr] := by rw [List.take_add_one, List.getElem?_map, f2] <;> rfl
    have keep : ∀ b o, (∀ xs, o ≠ .lst xs) → H6 b = some o → upd H6 S (.lst (ts.map V.ref ++ [.ref p1])) b = some o := fun b o no z => by
      rw [upd_ne (fun e => by rw [e, hS6] at z; exact no _ (Option.some.inj z).symm)]
      exact z
    refine ⟨_, hS6, by rw [List.length_map, q2]; omega, ts ++ [p1], by rw [upd_same, List.map_append, List.map_singleton], by rw [List.length_append, q2, List.length_singleton], ?_, same_put nS (same2 q4 s46)⟩
    rw [rtk]
    exact psnoc (pimp (fun _ _ _ z => (z.same s46).lst keep) q3) (h1.lst keep)
  rintro H4 ⟨ts, hS, tl, hpS, s4⟩
  rw [List.length_map] at tl
  have hrs : (ws.map ren).take (rts.map V.ref).length = ws.map ren := by rw [List.length_map, rl, ← List.length_map (f := ren), List.take_length]
  rw [hrs] at hpS
  have rat : ∀ i, i < ws.length → rAt (ws.map ren) i = ren (rAt ws i) := fun i hi => by
    rw [rAt_of (r := ren ws[i]) (by rw [List.getElem?_map, getE hi] <;> rfl), rAt_of (getE hi)]
  have tw : Twin (ws.map ren) ws n := by
    refine ⟨by rw [List.length_map], fun r hr => ?_, fun r hr => ?_, hl, fun i hi u v hu hv => ?_, by rw [List.length_map]; omega⟩
    · obtain ⟨w, hw, rfl⟩ := List.mem_map.mp hr
      rw [ren_len]
      exact hl w hw
    · obtain ⟨w, hw, rfl⟩ := List.mem_map.mp hr
      exact row_ren w
    · rw [List.length_map] at hi
      rw [rat i hi]
      have lw := hl _ (rAt_mem hi)
      have a1 := of_at0 (l := rAt ws i) (i := u) (by rw [lw]; exact hu)
      have a2 := of_at0 (l := rAt ws i) (i := v) (by rw [lw]; exact hv)
      exact ((alike_ren (rAt ws i)).2 u v _ _ _ _ a1 a2 (of_at0 (by rw [ren_len, lw]; exact hu)) (of_at0 (by rw [ren_len, lw]; exact hv))).symm
  have s04 := same2 s03 s4
  have hR4 := hR3.same s4
  have hWA4 := hWA.same (same2 s3 s4)
  have hM4 := s4 _ _ hM
  have wst : wf st = some [] := by
    obtain ⟨q, q1, q2⟩ := hW.all [] st (.nil _)
    rcases q2 with rfl | q2
    · exact q1
    · rcases q2 with z | ⟨z, y⟩
      · exact absurd z (Nat.not_lt_zero _)
      · cases q with
        | nil => exact absurd y (Lx.irrefl [])
        | cons _ _ => cases z
  have stm : st ∈ metOf n wf := mem_met.mpr ⟨lst, [], wst⟩
  have metF : Few n n (metOf n wf) := ⟨by
      have := List.length_filter_le (fun v => (wf v).isSome) (List.range n)
      rw [List.length_range] at this
      exact this, fun x hx => (mem_met.mp hx).1⟩
  have met0 : 0 < (metOf n wf).length := List.length_pos_of_mem stm
  generalize hrn : ws.map ren = rs at *
  -- goals
  refine ⟨_, rfl, _, rfl, by omega, by omega, fun G nG => ?_⟩
  rw [en]
  refine lc_it walk_range (fun i H5 => H5 G = some (.lst (nV (List.range i))) ∧ Same H4 H5) ⟨upd_same .., same_new nG⟩ (fun _ _ _ _ => trivial) ?_ ?_
  · rintro i x H0 H5 hi ⟨q1, q2⟩ ⟨rfl, hx⟩
    have hx : x = .int (i : Nat) := hx.trans (congrArg V.int (Int.zero_add _))
    subst hx
    refine ⟨rfl, _, rfl, _, q1, by rw [nV_len, List.length_range]; omega, ?_, same_put nG q2⟩
    rw [upd_same, nV_snoc, List.range_succ]
  rintro H5 ⟨hG, s5⟩
  dsimp only
  refine seq_cut fun D1 f1 => ?_
  have tail : ∀ (H6 : Hp) (G' : Addr) (gs : List Nat) (m13 : Option V), Same H4 H6 → H6 G' = some (.lst (nV gs)) → 0 < gs.length → gs.length ≤ 200 → (∀ x ∈ gs, x < n) →
      D1.nx [some (.ref a), some (.ref p), some (.int (n : Nat)), some (.ref R), some (.int (st : Nat)), some (.ref W), some (.ref M), none, some (.int (f : Nat)), some (.ref S), none, none, some (.ref G'), m13, none, none, none, none, none, none] H6 := by
    intro H6 G' gs m13 s6 hG' g0 g1 glt
    rw [f1]
    have hSs : ∀ {H' : Hp}, Same H4 H' → Sights K true H' S rs := fun {H'} s => ⟨ts, .inl (.inl (s _ _ hS)), pimp (fun _ _ _ z => z.same s) hpS⟩
    have h0le : (0 : Nat) ≤ sizeLine := Nat.zero_le _
    have h1le : (1 : Nat) ≤ sizeLine := Nat.le_trans (by decide) big
    refine ⟨_, rfl, G', rfl, ⟨_, .inl (.inl hG')⟩, for_it (walk_list (xs := nV gs)) (fun i σ H7 => ∃ m14, σ = [some (.ref a), some (.ref p), some (.int (n : Nat)), some (.ref R), some (.int (st : Nat)), some (.ref W), some (.ref M), none, some (.int (f : Nat)), some (.ref S), none, none, some (.ref G'), m13, m14, none, none, none, none, none] ∧ Same H6 H7) ⟨none, rfl, fun b o q => q⟩ (fun i σ H7 _ h => by obtain ⟨_, _, h⟩ := h; exact .inl (.inl (h _ _ hG'))) ?_ ?_⟩
    · rintro i x σ H0 H7 hi ⟨m14, rfl, s7⟩ ⟨rfl, hx⟩
      rw [nV_len] at hi
      have hx : x = .int (at0 gs i : Nat) := by
        have q := nV_at0 hi
        rw [hx] at q
        exact Option.some.inj q
      subst hx
      have hg : at0 gs i < n := glt _ (List.mem_of_getElem? (of_at0 hi))
      generalize at0 gs i = g at hg
      have s47 := same2 s6 s7
      refine ⟨_, rfl, _, rfl, _, rfl, S, true, rs, st, g, rfl, hSs s47, .inl ⟨n, tw.one (by omega) hg, ?_, ?_⟩⟩
      · intro H8 s8 no
        obtain ⟨vs, y, y1, y2, y3⟩ := ways_at (hWA4.same (same2 s47 s8)) hg
        have ey := chain_y_none tw hW y3 no
        subst ey
        exact ⟨_, rfl, _, rfl, _, rfl, _, rfl, W, vs, _, _, rfl, rfl, .inl (.inl y1), atI_nat y2, .non, .non, R, ws, n, st, rfl, hR4.same (same2 s47 s8), hl, by omega, fun H9 s9 => ⟨_, rfl, iteF ⟨_, rfl, same2 s7 (same2 s8 s9)⟩⟩, .inl ⟨rfl, rfl⟩⟩
      · intro t H8 c d v s8 hc hd hch
        obtain ⟨vs, y, y1, y2, y3⟩ := ways_at (hWA4.same (same2 s47 s8)) hg
        obtain ⟨wl, ey, e1, e2, e3, e4⟩ := chain_y_some tw (by omega) hg hW y3 hd hch
        subst ey
        exact ⟨_, rfl, _, rfl, _, rfl, _, rfl, W, vs, _, _, rfl, rfl, .inl (.inl y1), atI_nat y2, .ref t, .ref wl, R, ws, n, st, rfl, hR4.same (same2 s47 s8), hl, by omega, fun H9 s9 => ⟨_, rfl, iteF ⟨_, rfl, same2 s7 (same2 s8 s9)⟩⟩, .inr ⟨t, wl, c, rfl, rfl, hc, .inl (.inl e1), e2, lst, e3, e4⟩⟩
    rintro σ H7 ⟨m14, rfl, s7⟩
    have s47 := same2 s6 s7
    -- reached
    refine ⟨_, rfl, S, _, rfl, .inl ⟨.inl (.inl (s47 _ _ hS)), fun q nq => ?_⟩⟩
    have sq := same_new (o := .tup (ts.map V.ref)) nq
    have hSq : Sights K false (upd H7 q (.tup (ts.map V.ref))) q rs := ⟨ts, .inl (.inl (upd_same ..)), pimp (fun _ _ _ z => z.same (same2 s47 sq)) hpS⟩
    generalize upd H7 q (.tup (ts.map V.ref)) = H8 at sq hSq
    refine ⟨_, rfl, q, false, rs, st, rfl, hSq, .inl ⟨n, tw.one (by omega) lst, fun t l H9 s9 ht l1 l2 l3 => ?_⟩⟩
    have el := reach_met tw hW hlt l1 l2 l3
    subst el
    have s49 : Same H4 H9 := same2 s47 (same2 sq s9)
    have mfew : (metOf n wf).length ≤ 16777216 := by have := metF.1; omega
    refine ⟨_, rfl, t, M, metOf n wf, rfl, ht, .inl (.inl (s49 _ _ hM4)), mfew, _, rfl, ?_⟩
    refine iteF ?_
    refine ⟨_, rfl, _, rfl, _, rfl, _, rfl, _, rfl, a, S, R, M, ns, rs, ws, n, metOf n wf, rfl, Same.seq (same2 s04 s49) ha, hSs s49, hR4.same s49, tw, n0, n1, s49 _ _ hM4, metF, met0, fun H10 s10 => ⟨_, rfl, ?_⟩⟩
    refine iteF ?_
    have s4a : Same H4 H10 := same2 s49 s10
    -- without sights
    refine ⟨h0le, fun q1 nq1 => ?_⟩
    have sb := same_new (o := .lst []) nq1
    have hq1 : upd H10 q1 (.lst []) q1 = some (.lst []) := upd_same ..
    generalize upd H10 q1 (.lst []) = H11 at sb hq1
    have ef : ((f : Nat) : Int) + 1 = ((f + 1 : Nat) : Int) := by omega
    refine ⟨_, rfl, _, rfl, _, _, rfl, rfl, q1, true, [], f, f + 1, (congrArg (fun z : Int => [V.ref q1, V.int ((f : Nat) : Int), V.int z]) ef), sights0 hq1, .inl ⟨0, fit0 _ (by show 1 ≤ 10; decide), fun H12 s12 _ => ?_, fun t H12 c d v _ _ hd _ => ?_⟩⟩
    · have z : (!decide (V.non = V.non)) = false := by simp
      refine ⟨rfl, _, rfl, ?_⟩
      rw [z]
      refine iteF ?_
      refine ⟨h0le, fun q2 nq2 => ?_⟩
      have s13 := same_new (o := .tup []) nq2
      have hq2 : upd H12 q2 (.tup []) q2 = some (.tup []) := upd_same ..
      generalize upd H12 q2 (.tup []) = H13 at s13 hq2
      refine ⟨_, rfl, _, rfl, q2, false, [], f, f, rfl, sights0t hq2, .inl ⟨0, fit0 _ (by show 1 ≤ 10; decide), fun H14 s14 no => absurd (dst_zero.mpr (List.mem_singleton.mpr rfl)) (no 0), fun t2 H14 c d v s14 hc hd hch => ?_⟩⟩
      have ec : c = [] := by
        cases hch with
        | nil => rfl
        | cons h _ => exact absurd h.il (Nat.not_lt_zero _)
      subst ec
      obtain ⟨us, hc1, hc2⟩ := hc
      cases hc2
      refine ⟨h0le, fun q3 nq3 => ?_⟩
      have s15 := same_new (o := .tup []) nq3
      have hq3 : upd H14 q3 (.tup []) q3 = some (.tup []) := upd_same ..
      generalize upd H14 q3 (.tup []) = H15 at s15 hq3
      have z2 : (!(PyData.tuple []).eqv (PyData.tuple [])) = false := by simp [PyData.eqv, PyData.eqvAll]
      refine ⟨.tuple [], .tuple [], .tup (.inl (.inl (s15 _ _ hc1))) .nil, .tup (.inl (.inl hq3)) .nil, shT [], shT [], _, rfl, ?_⟩
      rw [z2]
      refine iteF ?_
      refine ⟨h0le, fun q4 nq4 => ?_⟩
      have s16 := same_new (o := .lst []) nq4
      have hq4 : upd H15 q4 (.lst []) q4 = some (.lst []) := upd_same ..
      generalize upd H15 q4 (.lst []) = H16 at s16 hq4
      refine ⟨_, rfl, q4, true, [], f, rfl, sights0 hq4, .inl ⟨0, fit0 _ (by show 1 ≤ 10; decide), fun t3 l H17 s17 ht3 l1 l2 l3 => ?_⟩⟩
      have el := only_f l1 l2 l3
      subst el
      refine ⟨_, rfl, h1le, fun q5 nq5 => ?_⟩
      have s18 := same_new (o := .lst [.int (f : Nat)]) nq5
      have hq5 : upd H17 q5 (.lst [.int (f : Nat)]) q5 = some (.lst [.int (f : Nat)]) := upd_same ..
      generalize upd H17 q5 (.lst [.int (f : Nat)]) = H18 at s18 hq5
      refine ⟨t3, q5, [f], rfl, s18 _ _ ht3, .inl (.inl hq5), by show 1 ≤ 16777216; decide, _, rfl, ?_⟩
      refine iteF ?_
      have s4b : Same H4 H18 := same2 s4a (same2 sb (same2 s12 (same2 s13 (same2 s14 (same2 s15 (same2 s16 (same2 s17 s18)))))))
      have s6b : Same H7 H18 := same2 sq (same2 s9 (same2 s10 (same2 sb (same2 s12 (same2 s13 (same2 s14 (same2 s15 (same2 s16 (same2 s17 s18)))))))))
      clear s18 hq5 ht3 s17 hq4 s16 hq3 s15 hc1 s14 hq2 s13 s12 hq1 sb s10 s9
      clear nq5 nq4 nq3 nq2 hch hd
      -- some of the sights
      refine ⟨_, rfl, rfl, _, rfl, n, rfl, n0, by omega, fun H20 y s20 ny hy => ?_⟩
      have hyl : (ren (List.replicate n (0 : Int))).length = n := by rw [ren_len, List.length_replicate]
      generalize ren (List.replicate n (0 : Int)) = nr at hy hyl
      refine ⟨h1le, fun q6 nq6 => ?_⟩
      have s21 := same_new (o := .lst [.ref y]) nq6
      have hq6 : upd H20 q6 (.lst [.ref y]) q6 = some (.lst [.ref y]) := upd_same ..
      generalize upd H20 q6 (.lst [.ref y]) = H21 at s21 hq6
      have s4c : Same H4 H21 := same2 s4b (same2 s20 s21)
      refine ⟨S, q6, _, _, rfl, rfl, s4c _ _ hS, hq6, by rw [List.length_map, List.length_singleton]; omega, fun q7 nq7 => ?_⟩
      have s22 := same_new (o := .lst (ts.map V.ref ++ [.ref y])) nq7
      have hq7 : upd H21 q7 (.lst (ts.map V.ref ++ [.ref y])) q7 = some (.lst (ts.map V.ref ++ [.ref y])) := upd_same ..
      generalize upd H21 q7 (.lst (ts.map V.ref ++ [.ref y])) = H22 at s22 hq7
      refine ⟨_, rfl, q7, _, rfl, .inl (.inl hq7), fun q8 nq8 => ?_⟩
      have e5 : cutV (ts.map V.ref ++ [.ref y]) none (some 5) = ((ts ++ [y]).take 5).map V.ref := by
        have := cut_take (ts.map V.ref ++ [.ref y]) 5
        rw [List.map_take, List.map_append]
        exact this
      rw [e5]
      have s23 := same_new (o := .lst (((ts ++ [y]).take 5).map V.ref)) nq8
      have hq8 : upd H22 q8 (.lst (((ts ++ [y]).take 5).map V.ref)) q8 = some (.lst (((ts ++ [y]).take 5).map V.ref)) := upd_same ..
      generalize upd H22 q8 (.lst (((ts ++ [y]).take 5).map V.ref)) = H23 at s23 hq8
      have s4d : Same H4 H23 := same2 s4c (same2 s22 s23)
      have hp8 : Paired (fun t r => SightAt K H23 t r) ((ts ++ [y]).take 5) ((rs ++ [nr]).take 5) :=
        ptake 5 (papp (pimp (fun _ _ _ z => z.same s4d) hpS) (.cons (hy.same (same2 s21 (same2 s22 s23))) .nil))
      refine ⟨h0le, fun q9 nq9 => ?_⟩
      have s24 := same_new (o := .lst []) nq9
      have hq9 : upd H23 q9 (.lst []) q9 = some (.lst []) := upd_same ..
      generalize upd H23 q9 (.lst []) = H24 at s24 hq9
      refine ⟨_, rfl, _, rfl, by show 3 ≤ sizeLine; exact Nat.le_trans (by decide) big, fun q10 nq10 => ?_⟩
      have s25 := same_new (o := .lst [.int (f : Nat), .int 0, .int (f : Nat)]) nq10
      have hq10 : upd H24 q10 (.lst [.int (f : Nat), .int 0, .int (f : Nat)]) q10 = some (.lst [.int (f : Nat), .int 0, .int (f : Nat)]) := upd_same ..
      generalize upd H24 q10 (.lst [.int (f : Nat), .int 0, .int (f : Nat)]) = H25 at s25 hq10
      refine ⟨q9, q10, true, true, [], [f, 0, f], rfl, sights0 (s25 _ _ hq9), .inl (.inl hq10), .inl ⟨0, fit0 _ (by show 3 ≤ 10; decide), fun H26 b s26 hb => ?_⟩⟩
      have eb : b = true := hb.mpr fun u v _ h => absurd h.1 (Nat.not_lt_zero _)
      subst eb
      have z3 : (!decide (true = true)) = false := by simp
      refine ⟨_, _, rfl, rfl, _, rfl, ?_⟩
      rw [z3]
      refine iteF ?_
      have s4e : Same H4 H26 := same2 s4d (same2 s24 (same2 s25 s26))
      have s2326 : Same H23 H26 := same2 s24 (same2 s25 s26)
      have tw8 : ts.length = rs.length := Paired.length hpS
      refine ⟨_, rfl, _, rfl, _, rfl, a, ns, 3, rfl, Same.seq (same2 s04 s4e) ha, fun c5 => ⟨q8, (rs ++ [nr]).take 5, n, c5, rfl, ⟨_, s2326 _ _ hq8, pimp (fun _ _ _ z => z.same s2326) hp8⟩, ?_, ?_, ?_, n0, n1, fun H27 s27 => ⟨_, rfl, ?_⟩⟩⟩
      · rw [List.length_take, List.length_append, List.length_singleton]; omega
      · rw [List.length_take]; omega
      · intro r hr
        rcases List.mem_append.mp (List.mem_of_mem_take hr) with z | z
        · exact tw.rl r z
        · rw [List.mem_singleton.mp z]; exact hyl
      refine iteF ?_
      have s4f : Same H4 H27 := same2 s4e s27
      have s7f : Same H7 H27 := same2 s6b (same2 s20 (same2 s21 (same2 s22 (same2 s23 (same2 s2326 s27)))))
      clear s27 hq10 s25 hq9 s24 hq8 s2326 hp8 s23 hq7 s22 hq6 s21 hy s20 hb s26 s6b s4e s4d s4c s4b
      -- what is common to all
      unfold tNext
      dsimp only
      refine seq_cut fun D2 f2 => ?_
      have tail2 : ∀ (H30 : Hp) (m16 m17 : Option V), Same H27 H30 → D2.nx [some (.ref a), some (.ref p), some (.int (n : Nat)), some (.ref R), some (.int (st : Nat)), some (.ref W), some (.ref M), none, some (.int (f : Nat)), some (.ref S), none, none, some (.ref G'), m13, m14, some (.ref q8), m16, m17, none, none] H30 := by
        intro H30 m16 m17 s30
        rw [f2]
        have s4g := same2 s4f s30
        have s7g := same2 s7f s30
        have s6g : Same H6 H30 := same2 s7 s7g
        have hG30 := s6g _ _ hG'
        refine ⟨_, rfl, _, rfl, a, ns, 2, rfl, Same.seq (same2 s04 s4g) ha, fun c7 => ?_⟩
        obtain ⟨j, ej, lj⟩ := digit (a := c7) (n := gs.length) g0
        refine .inl ⟨_, rfl, _, rfl, G', _, rfl, .inl (.inl (.inl hG30)), _, _, rfl, rfl, by rw [nV_len]; omega, G', _, _, .int (at0 gs j : Nat), rfl, rfl, .inl (.inl hG30), (by show atI (nV gs) (c7.fmod (((nV gs).length : Nat) : Int)) = _; rw [nV_len, ← ej]; exact atI_nat (nV_at0 lj)), ?_⟩
        have hg : at0 gs j < n := glt _ (List.mem_of_getElem? (of_at0 lj))
        generalize at0 gs j = g at hg
        dsimp only
        refine seq_cut fun D3 f3 => ?_
        have tail3 : ∀ H33 : Hp, Same H30 H33 → D3.nx [some (.ref a), some (.ref p), some (.int (n : Nat)), some (.ref R), some (.int (st : Nat)), some (.ref W), some (.ref M), none, some (.int (f : Nat)), some (.ref S), none, none, some (.ref G'), m13, some (.int (g : Nat)), some (.ref q8), m16, m17, none, none] H33 := by
          intro H33 s33
          rw [f3]
          have s4h := same2 s4g s33
          obtain ⟨rt3, hr3, hrp3⟩ := hR4.same s4h
          have rl3 := Paired.length hrp3
          refine ⟨_, rfl, S, rfl, ⟨_, .inl (.inl (s4h _ _ hS))⟩, fun L1 nL1 => lc_it (walk_list (K := K) (a := S) (xs := ts.map V.ref)) (fun i H34 => ∃ us : List Addr, H34 L1 = some (.lst (us.map V.ref)) ∧ us.length = i ∧ Paired (fun u r => u ≠ L1 ∧ H34 u = some (.lst (nV r))) us (rs.take i) ∧ Same H33 H34) ⟨[], upd_same .., rfl, .nil, same_new nL1⟩ (fun i H34 _ h => by obtain ⟨_, _, _, _, h⟩ := h; exact .inl (.inl (h _ _ (s4h _ _ hS)))) ?_ ?_⟩
          · rintro i x H0 H34 hi ⟨us, q1, q2, q3, q4⟩ ⟨rfl, hx⟩
            rw [List.length_map] at hi
            obtain ⟨ti, ri, g1, g2, g3⟩ := pget2 hpS hi
            rw [List.getElem?_map, g1] at hx
            cases hx
            obtain ⟨dx, t', c', k1, k2, _⟩ := (g3.same (same2 s4h q4)).ex
            refine ⟨rfl, _, rfl, ti, _, dx, _, .ref t', rfl, k1, T.c_Sight, T.n_marks, rfl, t', _, rfl, .inr (.inl (.inl k2)), fun l nl => ?_⟩
            have nlL : l ≠ L1 := fun z => by rw [z, q1] at nl; cases nl
            have sl := same_new (o := .lst (nV ri)) nl
            have hl2 : upd H34 l (.lst (nV ri)) l = some (.lst (nV ri)) := upd_same ..
            generalize upd H34 l (.lst (nV ri)) = H35 at sl hl2
            refine ⟨_, sl _ _ q1, by rw [List.length_map, q2]; have := tw.few; omega, us ++ [l], by rw [upd_same, List.map_append, List.map_singleton], by rw [List.length_append, q2, List.length_singleton], ?_, same_put nL1 (same2 q4 sl)⟩
            rw [List.take_add_one, g2]
            exact psnoc (pimp (fun _ _ _ z => ⟨z.1, by rw [upd_ne z.1]; exact sl _ _ z.2⟩) q3) ⟨nlL, by rw [upd_ne nlL]; exact hl2⟩
          rintro H34 ⟨us, hL1, ul, hpu, s34⟩
          have htk : rs.take (ts.map V.ref).length = rs := by rw [List.length_map, tw8, List.take_length]
          rw [htk] at hpu
          refine ⟨_, rfl, R, rfl, ⟨_, .inl (.inl (s34 _ _ hr3))⟩, fun L2 nL2 => lc_it (walk_list (K := K) (a := R) (xs := rt3.map V.ref)) (fun i H35 => ∃ us : List Addr, H35 L2 = some (.lst (us.map V.ref)) ∧ us.length = i ∧ Paired (fun u r => u ≠ L2 ∧ H35 u = some (.lst (nV r))) us (rs.take i) ∧ Same H34 H35) ⟨[], upd_same .., rfl, .nil, same_new nL2⟩ (fun i H35 _ h => by obtain ⟨_, _, _, _, h⟩ := h; exact .inl (.inl (h _ _ (s34 _ _ hr3)))) ?_ ?_⟩
          · rintro i x H0 H35 hi ⟨us2, q1, q2, q3, q4⟩ ⟨rfl, hx⟩
            rw [List.length_map] at hi
            obtain ⟨ti, wi, g1, g2, g3⟩ := pget2 hrp3 hi
            rw [List.getElem?_map, g1] at hx
            cases hx
            have wl := hl wi (List.mem_of_getElem? g2)
            refine ⟨rfl, _, rfl, ti, nV wi, ren wi, rfl, by rw [nV_len, wl]; omega, .inl (.inl (q4 _ _ (s34 _ _ g3))), .inl ⟨_, nV_int wi, (ren_map (f := fun n : Nat => ((n : Nat) : Int)) fun a b z => by omega).symm⟩, fun H36 l s36 nl hl2 => ?_⟩
            have nlL : l ≠ L2 := fun z => by rw [z, q1] at nl; cases nl
            have e3 : rs[i]? = some (ren wi) := by rw [← hrn, List.getElem?_map, g2] <;> rfl
            refine ⟨_, s36 _ _ q1, by rw [List.length_map, q2]; omega, us2 ++ [l], by rw [upd_same, List.map_append, List.map_singleton], by rw [List.length_append, q2, List.length_singleton], ?_, same_put nL2 (same2 q4 s36)⟩
            rw [List.take_add_one, e3]
            exact psnoc (pimp (fun _ _ _ z => ⟨z.1, by rw [upd_ne z.1]; exact s36 _ _ z.2⟩) q3) ⟨nlL, by rw [upd_ne nlL]; exact hl2⟩
          rintro H35 ⟨us2, hL2, ul2, hpu2, s35⟩
          have htk2 : rs.take (rt3.map V.ref).length = rs := by rw [List.length_map, rl3, ← tw.len, List.take_length]
          rw [htk2] at hpu2
          refine ⟨.list (dR (rs.map fun r => r.map fun n => ((n : Nat) : Int))), .list (dR (rs.map fun r => r.map fun n => ((n : Nat) : Int))), .lst (.inl (.inl (s35 _ _ hL1))) (dpRN (pimp (fun _ _ _ z => s35 _ _ z.2) hpu)), .lst (.inl (.inl hL2)) (dpRN (pimp (fun _ _ _ z => z.2) hpu2)), shR _, shR _, ?_⟩
          rw [eqvLR, decide_eq_true rfl]
          have s4i := same2 s4h (same2 s34 s35)
          refine ⟨_, rfl, _, rfl, iteT ⟨_, rfl, _, rfl, S, true, rs, st, rfl, hSs s4i, .inl ⟨n, tw.one (by omega) lst, fun t l H9 s9 ht l1 l2 l3 => ?_⟩⟩⟩
          have el := reach_met tw hW hlt l1 l2 l3
          subst el
          have s4j := same2 s4i s9
          exact ⟨_, rfl, t, M, metOf n wf, rfl, ht, .inl (.inl (s4j _ _ hM4)), mfew, _, rfl, iteT ⟨_, rfl, a, ns, rfl, Same.seq (same2 s04 s4j) ha, fun H' s => hQ H'⟩⟩
        refine ⟨_, rfl, S, _, rfl, .inl ⟨.inl (.inl (s4g _ _ hS)), fun q11 nq11 => ?_⟩⟩
        have s31 := same_new (o := .tup (ts.map V.ref)) nq11
        have hS31 : Sights K false (upd H30 q11 (.tup (ts.map V.ref))) q11 rs := ⟨ts, .inl (.inl (upd_same ..)), pimp (fun _ _ _ z => z.same (same2 s4g s31)) hpS⟩
        generalize upd H30 q11 (.tup (ts.map V.ref)) = H31 at s31 hS31
        have s41 := same2 s4g s31
        refine ⟨_, rfl, _, rfl, q11, false, rs, st, g, rfl, hS31, .inl ⟨n, tw.one (by omega) hg, ?_, ?_⟩⟩
        · intro H8 s8 no
          obtain ⟨vs, y, y1, y2, y3⟩ := ways_at (hWA4.same (same2 s41 s8)) hg
          have ey := chain_y_none tw hW y3 no
          subst ey
          exact ⟨_, rfl, _, rfl, _, rfl, _, rfl, W, vs, _, _, rfl, rfl, .inl (.inl y1), atI_nat y2, .non, .non, R, ws, n, st, rfl, hR4.same (same2 s41 s8), hl, by omega, fun H9 s9 => ⟨_, rfl, iteF (tail3 H9 (same2 s31 (same2 s8 s9)))⟩, .inl ⟨rfl, rfl⟩⟩
        · intro t H8 c d v s8 hc hd hch
          obtain ⟨vs, y, y1, y2, y3⟩ := ways_at (hWA4.same (same2 s41 s8)) hg
          obtain ⟨wl, ey, e1, e2, e3, e4⟩ := chain_y_some tw (by omega) hg hW y3 hd hch
          subst ey
          exact ⟨_, rfl, _, rfl, _, rfl, _, rfl, W, vs, _, _, rfl, rfl, .inl (.inl y1), atI_nat y2, .ref t, .ref wl, R, ws, n, st, rfl, hR4.same (same2 s41 s8), hl, by omega, fun H9 s9 => ⟨_, rfl, iteF (tail3 H9 (same2 s31 (same2 s8 s9)))⟩, .inr ⟨t, wl, c, rfl, rfl, hc, .inl (.inl e1), e2, lst, e3, e4⟩⟩
      obtain ⟨rt2, hr2, hrp2⟩ := hR4.same s4f
      have rl2 := Paired.length hrp2
      refine ⟨_, rfl, R, _, rfl, .inl (.inl (.inl hr2)), _, _, rfl, rfl, _, rfl, ?_⟩
      refine ite2 (fun k0 => ?_) (fun _ => tail2 H27 none none (fun b o q => q))
      have k0 : 0 < rs.length := by
        have z := of_decide_eq_true k0
        rw [List.length_map] at z
        have := tw.len
        omega
      obtain ⟨t0, r0, e1, e2, e3⟩ := pget2 hpS (i := 0) (by omega)
      refine ⟨_, rfl, S, _, _, .ref t0, rfl, rfl, .inl (.inl (s4f _ _ hS)), atI_nat (j := 0) (by rw [List.getElem?_map, e1] <;> rfl), ?_⟩
      refine ⟨_, rfl, S, rfl, ⟨_, .inl (.inl (s4f _ _ hS))⟩, for_it (walk_list (xs := ts.map V.ref)) (fun i σ H28 => ∃ (m17 : Option V) (x : Addr) (u : List Nat), σ = [some (.ref a), some (.ref p), some (.int (n : Nat)), some (.ref R), some (.int (st : Nat)), some (.ref W), some (.ref M), none, some (.int (f : Nat)), some (.ref S), none, none, some (.ref G'), m13, m14, some (.ref q8), some (.ref x), m17, none, none] ∧ SightAt K H28 x u ∧ Tot rs n i u ∧ Same H27 H28) ⟨none, t0, rAt rs 0, rfl, by rw [rAt_of e2]; exact e3.same s4f, Tot.start k0 tw.rl, fun b o q => q⟩ (fun i σ H28 _ h => by obtain ⟨_, _, _, _, _, _, h⟩ := h; exact .inl (.inl (h _ _ (s4f _ _ hS)))) ?_ ?_⟩
      · rintro i x σ H0 H28 hi ⟨m17, x16, u, rfl, hu, htot, s28⟩ ⟨rfl, hx⟩
        rw [List.length_map] at hi
        obtain ⟨ti, ri, g1, g2, g3⟩ := pget2 hpS hi
        rw [List.getElem?_map, g1] at hx
        cases hx
        have g3' := g3.same (same2 s4f s28)
        obtain ⟨dx1, t1, c1', k1, _⟩ := hu.ex
        obtain ⟨dx2, t2, c2', k2, _⟩ := g3'.ex
        refine ⟨_, rfl, _, rfl, x16, ti, dx1, dx2, _, _, rfl, rfl, k1, k2, x16, ti, u, ri, rfl, hu, g3', fun el H29 x' v s29 nx hx' hj => ?_, fun ne => absurd (by rw [htot.len, tw.rl ri (List.mem_of_getElem? g2)]) ne⟩
        exact ⟨_, _, _, rfl, hx', htot.next (by omega) tw.rl (by rw [rAt_of g2]; exact hj), same2 s28 s29⟩
      rintro σ H28 ⟨m17, x16, u, rfl, hu, htot, s28⟩
      rw [List.length_map, tw8] at htot
      obtain ⟨dx1, t1, c1', k1, _⟩ := hu.ex
      exact ⟨_, rfl, x16, dx1, _, rfl, k1, rfl, _, rfl, x16, u, st, rfl, hu, by rw [htot.len]; exact lst, fun c hc => ⟨_, rfl, c, M, metOf n wf, rfl, by rw [hc, places_met tw hW lst htot], .inl (.inl (s28 _ _ (s4f _ _ hM4))), mfew, _, rfl, iteF (tail2 H28 _ _ s28)⟩⟩
    · exact absurd (List.mem_singleton.mp (dst_nil hd).2) (by omega)
  refine ⟨_, rfl, _, _, rfl, rfl, _, rfl, ?_⟩
  refine ite2 (fun _ => ?_) (fun _ => tail H5 G (List.range n) none s5 hG (by rw [List.length_range]; exact n0) (by rw [List.length_range]; exact n1) (fun x hx => List.mem_range.mp hx))
  have hM5 := s5 _ _ hM4
  have em : (((nV (metOf n wf)).length : Nat) : Int) - 1 = (((metOf n wf).length - 1 : Nat) : Int) := by rw [nV_len]; omega
  have lm : (metOf n wf).length - 1 < (metOf n wf).length := by omega
  refine ⟨_, rfl, _, rfl, _, _, rfl, rfl, _, rfl, _, rfl, M, _, rfl, .inl (.inl (.inl hM5)), _, _, rfl, rfl, M, _, _, .int (at0 (metOf n wf) ((metOf n wf).length - 1) : Nat), rfl, rfl, .inl (.inl hM5), (by show atI (nV (metOf n wf)) ((((nV (metOf n wf)).length : Nat) : Int) - 1) = _; rw [em]; exact atI_nat (nV_at0 lm)), _, rfl, a, ns, 3, rfl, Same.seq (same2 s04 s5) ha, fun c4 => .inl ⟨_, rfl, _, rfl, _, _, rfl, rfl, nzn, ?_⟩⟩
  obtain ⟨d4, e4, l4⟩ := digit (a := c4) n0
  have mlt : at0 (metOf n wf) ((metOf n wf).length - 1) < n := metF.2 _ (List.mem_of_getElem? (of_at0 lm))
  generalize at0 (metOf n wf) ((metOf n wf).length - 1) = m at mlt
  have eL : [V.int (st : Nat), V.int (((n : Nat) : Int) - 1), V.int (m : Nat), V.int (c4.fmod ((n : Nat) : Int)), V.int (st : Nat)] = nV [st, n - 1, m, d4, st] := by
    rw [← e4, show ((n : Nat) : Int) - 1 = ((n - 1 : Nat) : Int) by omega] <;> rfl
  refine ⟨_, rfl, by show 5 ≤ sizeLine; exact Nat.le_trans (by decide) big, fun G2 nG2 => ?_⟩
  dsimp only
  rw [eL]
  have s6 := same_new (o := .lst (nV [st, n - 1, m, d4, st])) nG2
  have hG2 : upd H5 G2 (.lst (nV [st, n - 1, m, d4, st])) G2 = some (.lst (nV [st, n - 1, m, d4, st])) := upd_same ..
  generalize upd H5 G2 (.lst (nV [st, n - 1, m, d4, st])) = H6 at s6 hG2
  have sM : ∀ {H' : Hp}, Same H5 H' → H' M = some (.lst (nV (metOf n wf))) := fun {H'} s => s _ _ hM5
  refine ⟨_, rfl, M, rfl, ⟨_, .inl (.inl (sM s6))⟩, for_it (walk_list (xs := nV (metOf n wf))) (fun i σ H7 => ∃ (m13 : Option V) (x : Nat), σ = [some (.ref a), some (.ref p), some (.int (n : Nat)), some (.ref R), some (.int (st : Nat)), some (.ref W), some (.ref M), none, some (.int (f : Nat)), some (.ref S), none, none, some (.ref G2), m13, none, none, none, none, none, none] ∧ H7 G2 = some (.lst (nV [st, n - 1, m, d4, x])) ∧ x ∈ metOf n wf ∧ Same H5 H7) ⟨none, st, rfl, hG2, stm, s6⟩ (fun i σ H7 _ h => by obtain ⟨_, _, _, _, _, h⟩ := h; exact .inl (.inl (sM h))) ?_ ?_⟩
  · rintro i y σ H0 H7 hi ⟨m13, x, rfl, h7, hx7, s7⟩ ⟨rfl, hy⟩
    rw [nV_len] at hi
    have hy : y = .int (at0 (metOf n wf) i : Nat) := by
      have q := nV_at0 hi
      rw [hy] at q
      exact Option.some.inj q
    subst hy
    have hd : at0 (metOf n wf) i ∈ metOf n wf := List.mem_of_getElem? (of_at0 hi)
    generalize at0 (metOf n wf) i = d at hd
    have look : ∀ {z : Nat}, z ∈ metOf n wf → ∃ (vs : List V) (t : Addr) (pz : List Nat), H7 W = some (.lst vs) ∧ vs[z]? = some (.ref t) ∧ H7 t = some (.lst (nV pz)) := fun {z} hz => by
      obtain ⟨z1, pz, z2⟩ := mem_met.mp hz
      obtain ⟨vs, y, y1, y2, y3⟩ := ways_at (hWA4.same (same2 s5 s7)) z1
      rcases y3 with ⟨y3, _⟩ | ⟨p', t, y3, rfl, y4⟩
      · rw [z2] at y3; cases y3
      · exact ⟨vs, t, p', y1, y2, y4⟩
    obtain ⟨vs, t1, p1, a1, a2, a3⟩ := look hd
    obtain ⟨vs', t2, p2, b1, b2, b3⟩ := look hx7
    refine ⟨_, rfl, _, rfl, W, vs, _, .ref t1, rfl, rfl, .inl (.inl a1), atI_nat a2, t1, _, rfl, .inl (.inl (.inl a3)), _, rfl, _, rfl, G2, _, _, .int (x : Nat), rfl, rfl, .inl (.inl h7), atI_nat (j := 4) rfl, W, vs', _, .ref t2, rfl, rfl, .inl (.inl b1), atI_nat b2, t2, _, rfl, .inl (.inl (.inl b3)), _, _, rfl, rfl, _, rfl, ?_⟩
    refine ite2 (fun _ => ?_) (fun _ => ⟨_, x, rfl, h7, hx7, s7⟩)
    refine ⟨_, rfl, _, rfl, G2, _, _, 4, rfl, rfl, h7, rfl, _, d, rfl, ?_, hd, same_put nG2 s7⟩
    rw [upd_same] <;> rfl
  rintro σ H7 ⟨m13, x, rfl, h7, hx7, s7⟩
  refine tail H7 G2 [st, n - 1, m, d4, x] m13 (same2 s5 s7) h7 (by show 0 < 5; decide) (by show 5 ≤ 200; decide) (fun y hy => ?_)
  have xl := (mem_met.mp hx7).1
  simp only [List.mem_cons, List.not_mem_nil, or_false] at hy
  rcases hy with rfl | rfl | rfl | rfl | rfl <;> omega
end
end K02
set_option Elab.async false
set_option linter.all false
set_option maxRecDepth 100000
set_option maxHeartbeats 0
/-! K02: the head's run. -/
namespace K02
open PySem PySem.Spec PyProof.Rows L2 Ms
abbrev R : PySem.W.OpenRow := PySem.W.OpenLaw.row PySem.Challenge.rw_manysights_k02_chains_whole
abbrev hk : PySem.W.Hook := hookM 5 fa fn
def ob (s : PySem.W.SharedT) : AlM := obsMG 5 fa fn (HandSHeadRun.getT s)
theorem ob_eq (s : PySem.W.SharedT) : ob s = hk.obs s.abs := obsMG_eq (HandSHeadRun.getT_eq s)
def loose : List PySem.Str := (["DealError", "NoDeals", "SizesDiffer", "BadLength", "check_equal_sizes", "fresh_cells", "fresh_deals", "distances", "next_step", "first_chain", "links", "reached", "is_closed", "renumbered", "listed_cells", "joined_marks", "check_sizes", "Sight", "_law_whole", "_law_cell", "_law_digits", "_law_numbers", "_law_marks", "_law_draw"] : List PySem.Str) ++ (["_law_draw_long", "_law_alike", "_law_ways", "_law_is_chain", "_law_closed", "_law_sets", "_law_asks_sets", "_law_differs", "_law_raised", "_law_error", "_law_far"] : List PySem.Str)
theorem run (w : World) : HandSHeadRun.RunEq R (PySem.W.view R.prog [39]) hk ob 4000 loose w := by
  intro os
  kernel_rfl
end K02
set_option Elab.async false
set_option linter.all false
set_option maxRecDepth 100000
set_option maxHeartbeats 4000000
namespace K02
open PySem PySem.Spec PyProof.Rows L2 Ms
section
variable {P : Program} {w : World} {K : PySem.W.Frag} {mg : Str → Option Value} {base : Heap}
theorem facts {h : Heap} {f : Addr} (X : K.In h) (G : h.Ns mainGlobals mg) (hfa : mg ("law" : Str) = some (.ref f)) (c : SaysM fa fn K) :
    ∃ fd : FuncData, (∀ (s : Shared) (v : Value), BindsTo s fd ⟨[v], []⟩ [("script", v)]) ∧ ∀ base : Heap, K.In base → base.Ns mainGlobals mg → FnOk P w K mg base CX0 9 f fd ["script"] (spLaw K) := by
  have T : Tx K mg := tx_of X G c
  have e := hfa.symm.trans T.gd_law
  cases e
  obtain ⟨fd, F⟩ := T.d_law
  have b := FunD.bindsA (ps := ["script"]) F bi_law
  refine ⟨fd, fun s v => b s [v] rfl, fun base _ _ => ?_⟩
  exact law_of T F
end
end K02
open PySem PySem.W PySem.Calls PyProof.Rows
theorem PySem.Challenge.cw_manysights_k02_chains_whole_holds : PySem.Challenge.rw_manysights_k02_chains_whole.Holds := by
  w_on; o_law
  refine HandSHeadRun.head_any (r := OpenLaw.row PySem.Challenge.rw_manysights_k02_chains_whole) (q := view (OpenLaw.row PySem.Challenge.rw_manysights_k02_chains_whole).prog [39]) (H := K02.hk) (ob := K02.ob) (M := 4000) (loose := K02.loose) (d := HandSHeadRun.topDef (OpenLaw.row PySem.Challenge.rw_manysights_k02_chains_whole).prog 39) (kwd := []) K02.ob_eq
    (by kernel_rfl) (fun s => by kernel_rfl) K02.run (by kernel_rfl) (by kernel_rfl) (by kernel_rfl) (by rfl) (by first | assumption | decide +kernel) (by decide +kernel) ⟨rfl, rfl, rfl, rfl, rfl, by decide +kernel⟩ ?hw ?hc
  case hw => w_witness2
  case hc =>
    refine L2.walk_ofE (l := PySem.Challenge.rw_manysights_k02_chains_whole) (n := 63) (k := 9) (x := "script") (CX := L2.CX0) rfl (by decide) (by kernel_rfl) ⟨by decide, by decide, by decide⟩ ?F (fun _ _ _ _ z => z)
    intro w mg fa h Y G hmg0
    obtain ⟨K, KX, c⟩ := Y
    have hmg : mg ("law" : PySem.Str) = some (.ref fa) := by
      have e : (HandSHeadRun.topDef (OpenLaw.row PySem.Challenge.rw_manysights_k02_chains_whole).prog 39).name = ("law" : PySem.Str) := by kernel_rfl
      rw [← e]
      exact hmg0
    obtain ⟨fd, hb, hF⟩ := K02.facts (P := (PySem.Challenge.rw_manysights_k02_chains_whole).prog) (w := w) KX G hmg c
    exact ⟨K, fd, K02.spLaw K, KX, hb, fun H a ns hl _ hS => ⟨a, ns, rfl, hS, fun _ => rfl⟩, hF⟩
