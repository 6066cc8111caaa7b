import PyProof.Rows.All
import Wide.All
import OpenK.AllK
import Wide.FinOn
import KE.KStateDown
import KE.KOpsOwn
import HandS.ForMost
import HandS.Exc
import HandS.TryOnly
import HandS.ExcOwn
import HandS.ExcInit
import HandS.ExcIs
import HandS.ExcField
import HandS.IsInst
import HandS.Property
import HandS.ClsMeth
import HandS.Zip
import HandS.Conv
import HandS.Defaults
import HandS.SetKeys
import HandS.TupLen
import HandS.Walk
import HandS.OwnEq
import HandS.WordsExc
import HandS.Head0
import HandS.Head1
import HandS.Head2
import HandS.HeadEnd
import HandS.HeadHook1
import HandS.HeadHook2
import KE.KExcIs
import KE.KDictZip
import KE.KItemsList
import KE.GoesNew
import HandS.Zip0
import HandS.ListItems
import KE.GoesMore
import KE.GoesEnum
import PyProof.Draws
import KE.KNest
import HandS.GenCall
import HandS.HeadWalk
import PyProof.DictMoreH
import HandS.Dict
import PyProof.WalkInts
import HandS.TupSets
import HandS.Iter
import HandS.Star
import HandS.TupMul
import KE.KDictPairs
import HandS.SetFor
import HandS.Strs
import HandS.Deep
import PyProof.EqKinds
import HandS.List
import PyProof.Rows.AssignMoreSeq
import HandS.RevRange
import PyProof.Runs
import PyProof.Sound
import PyProof.Wp
import PyProof.GenQ
import PyProof.Logic
import HandS.Base
import HandS.GenList
import HandS.More
import HandS.SortInts
import KE.DataMinMax
import KE.SortData
import PyProof.Rows.RowBridgeK
import KE.SortKeyHeap
import HandS.Lambda
import HandS.SortKw
import HandS.DictComp
import KE.DataCmp
import PySem.Challenge.RW_manysights_k03_sights_listed
set_option Elab.async false
set_option linter.all false
set_option maxRecDepth 100000
set_option maxHeartbeats 4000000
/-! Ms, the core: rules of our own over the hand layer. -/
namespace Ms
open PySem PySem.Spec PyProof.Rows L2
abbrev St := L2.St

/-! ### no exception leaves -/
abbrev EN : St → XK := fun _ _ _ _ => False
theorem passN {X : Cx} (σ : St) : PassesAt (L2.CX X.prog X.w) X σ (fun _ _ _ => False) := fun _ _ _ _ _ _ c => by
  obtain ⟨_, _, _, _, _, _, _, _, _, _, _, _, h⟩ := c
  exact h.elim

/-! ### a def by its name -/
structure Ok (P : Program) (w : World) (K : PySem.W.Frag) (mg : Str → Option Value) (base : Heap) (x : Str) (k : Nat) (sp : Sp) : Prop where
  ex : ∃ fd ps, FnOk P w K mg base (L2.CX P w) k (He.ga K x) fd ps sp ∧ Binds K fd ps []
  mg : mg x = some (.ref (He.ga K x))
  kp : PySem.W.keepIn K (.ref (He.ga K x)) = true
/-- a method of the class named c -/
structure MOk (P : Program) (w : World) (K : PySem.W.Frag) (mg : Str → Option Value) (base : Heap) (c m : Str) (k : Nat) (sp : Sp) : Prop where
  ex : ∃ fd ps, FnOk P w K mg base (L2.CX P w) k (He.ma K (He.ga K c) m) fd ps sp ∧ Binds K fd ps []
  cl : Cls K (He.ga K c)
  me : Meth K (He.ga K c) m (He.ma K (He.ga K c) m)

section
variable {X : Cx} {k j : Nat} {sp : Sp} {E : St → XK} {x m c : Str} {p pos apos : Pos} {e o : Expr} {es : List Expr} {ta : TE} {t : TA}
/-- f(e, ..) -/
theorem pe_c (F : Ok X.prog X.w X.K X.mg X.base x k sp) (hr : Room j X.A) (hk : k ≤ j) (hx : ∀ σ, PassesAt (L2.CX X.prog X.w) X σ (E σ)) (ha : PA X (e :: es) t) (hg : Gl X x := by rfl)
    (hdb : (x == ("__debug__" : Str)) = false := by decide) (he : starEach (e :: es) X.env = (false, eval e X.env) :: starEach es X.env := by rfl) (hpl : (backTo pos (starEach es X.env)).any (·.1) = false := by rfl) :
    PE X (.Call (.Name x p) (e :: es) [] pos) (tCallS sp E t) := by
  obtain ⟨fd, ps, F1, hb⟩ := F.ex
  exact pe_callS F1 (hr.mono hk) hg F.mg F.kp hb hx ha hdb he hpl
def tMethS (C : Addr) (m : Str) (sp : Sp) (E : St → XK) (ta : TE) (t : TA) : TE := fun σ H Q => ta σ H fun x H1 => ∃ a dx fs, x = .ref a ∧ H1 a = some (.ins C dx fs) ∧ fs.lookup m = none ∧ t σ H1 fun vs H2 => sp (x :: vs) H2 Q (E σ)
/-- o.m(e, ..) -/
theorem pe_m {pl : Sem Bool} (F : MOk X.prog X.w X.K X.mg X.base c m k sp) (hr : Room j X.A) (hk : k ≤ j) (hx : ∀ σ, PassesAt (L2.CX X.prog X.w) X σ (E σ)) (he : PE X o ta) (ha : PA X (e :: es) t)
    (hst : starEach (e :: es) X.env = (false, eval e X.env) :: starEach es X.env := by rfl) (hpl : (backTo pos (starEach es X.env)).any (·.1) = false := by rfl)
    (ht : eval (.Call (.Attribute o m apos) (e :: es) [] pos) X.env = (do
      let ov ← eval o X.env
      standAt apos.atName
      let (f, first) ← holding [ov] (getMethod ov m pl)
      callWith pos f first (backTo pos (starEach (e :: es) X.env)) (backToKw pos (keywordEach [] X.env))) := by rfl) :
    PE X (.Call (.Attribute o m apos) (e :: es) [] pos) (tMethS (He.ga X.K c) m sp E ta t) := by
  obtain ⟨fd, ps, F1, hb⟩ := F.ex
  refine ⟨fun pins s σ H Q I h => ?_⟩
  refine PySem.W.methodCall_KW (pl := pl) (thn (he.run pins s σ H _ I h) fun u s1 ⟨x, H1, I1, rx, a, dx, fs, ex, ea, l, q⟩ => ?_) ht
  subst ex
  obtain rfl : u = Value.ref a := rx
  refine getmeth_ok I1 ea F.cl F.me l ?_
  refine PySem.W.callWith_K (first := [.ref a]) (h₀ := X.base) I.ok.mod.kin F.me.kp (thn (ha.run pos pins s1 σ H1 _ I1 q) fun us s2 ⟨vs, H2, I2, r, q2⟩ => ⟨I2.kIn, ?_⟩) hst hpl
  exact run_fnS (us := .ref a :: us) (vs := .ref a :: vs) F1 (hr.mono hk) hb (hx σ) I2 (.cons rfl r) q2

/-! ### a new instance -/
/-- the class named c, its __init__ -/
structure COk (P : Program) (w : World) (K : PySem.W.Frag) (mg : Str → Option Value) (base : Heap) (c : Str) (k : Nat) (sp : Sp) : Prop where
  ex : ∃ fd ps, FnOk P w K mg base (L2.CX P w) k (He.ma K (He.ga K c) "__init__") fd ps sp ∧ Binds K fd ps []
  mkr : Mk K (He.ga K c) (He.ma K (He.ga K c) "__init__")
  mg : mg c = some (.ref (He.ga K c))
def tMakeS (C : Addr) (sp : Sp) (E : St → XK) (t : TA) : TE := fun σ H Q => t σ H fun vs H1 => ∀ x dx, H1 x = none → H1 dx = none → dx ≠ x →
  sp (.ref x :: vs) (upd (upd H1 dx (.own x)) x (.ins C dx [])) (fun v H2 => v = .non ∧ Q (.ref x) H2) (E σ)
/-- what the maker's exception finds: the new instance is dropped -/
theorem run_makeS {pins : List (Addr × Obj)} {σ : St} {H : Hp} {s : Shared} {Q : VK} {us : List Value} {vs : List V} {C f : Addr} {fd : FuncData} {ps : List Str} {E : XK} (M : Mk X.K C f) (F : FnOk X.prog X.w X.K X.mg X.base (L2.CX X.prog X.w) k f fd ps sp) (hr : Room (k + 1) X.A) (hb : Binds X.K fd ps [])
    (hx : PassesAt (L2.CX X.prog X.w) X σ E) (I : Inv X pins σ H s) (r : Vals vs us)
    (h : ∀ x dx, H x = none → H dx = none → dx ≠ x → sp (.ref x :: vs) (upd (upd H dx (.own x)) x (.ins C dx [])) (fun v H2 => v = .non ∧ Q (.ref x) H2) E) :
    wpAny (model X.prog X.w) X.A (call (.ref C) us) (EP X pins σ Q) X.xe s := by
  have hq := h (s.heap.objs.size + 1) s.heap.objs.size (I.hok.fresh (Nat.le_succ _)) (I.hok.fresh (Nat.le_refl _)) (Nat.ne_of_lt (Nat.lt_succ_self _))
  have I2 := Inv.made (C := C) I
  have r2 : Vals (V.ref (s.heap.objs.size + 1) :: vs) (Value.ref (s.heap.objs.size + 1) :: us) := .cons rfl r
  have hl : (Value.ref (s.heap.objs.size + 1) :: us).length = ps.length := by
    have e := r2.length
    rw [F.len _ _ _ _ hq] at e
    exact e.symm
  have b := hb _ (Value.ref (s.heap.objs.size + 1) :: us) I2.kIn (by rw [List.append_nil]; exact hl)
  rw [List.append_nil] at b
  refine wpAny_call (make_map (f := f) I.kIn M.makes M.init (beq_iff_eq.mp M.fn) (codeAny_mono (F.run _ X.stack _ _ ⟨Value.ref (s.heap.objs.size + 1) :: us, []⟩ (Value.ref (s.heap.objs.size + 1) :: us) _ _ E (hr.make C us [])
    (I2.env0.make C us []) b r2 hq) fun r s' hq' => ?_))
  cases r with
  | error e => exact hx pins _ _ e s' I2 hq'
  | ok fl =>
    cases fl with
    | ret u =>
      obtain ⟨v, H', I3, rv, ev, q3⟩ := I2.after hq'
      subst ev
      exact ⟨rv, ⟨V.ref (s.heap.objs.size + 1), H', I3, rfl, q3⟩⟩
    | next => exact False.elim hq'
    | brk => exact False.elim hq'
    | cont => exact False.elim hq'
/-- C(e, ..) -/
theorem pe_n (F : COk X.prog X.w X.K X.mg X.base x k sp) (hr : Room j X.A) (hk : k + 1 ≤ j) (hx : ∀ σ, PassesAt (L2.CX X.prog X.w) X σ (E σ)) (ha : PA X (e :: es) t) (hg : Gl X x := by rfl)
    (hdb : (x == ("__debug__" : Str)) = false := by decide) (he : starEach (e :: es) X.env = (false, eval e X.env) :: starEach es X.env := by rfl) (hpl : (backTo pos (starEach es X.env)).any (·.1) = false := by rfl) :
    PE X (.Call (.Name x p) (e :: es) [] pos) (tMakeS (He.ga X.K x) sp E t) := by
  obtain ⟨fd, ps, F1, hb⟩ := F.ex
  refine ⟨fun pins s σ H Q I h => ?_⟩
  refine wpAny_Call_Name_kw (ld_glob I hg F.mg ?_ hdb)
  refine PySem.W.callWith_K (h₀ := X.base) I.ok.mod.kin F.mkr.kp (thn (ha.run pos pins s σ H _ I h) fun us s1 ⟨vs, H1, I1, r, q⟩ => ⟨I1.kIn, ?_⟩) he hpl
  exact run_makeS F.mkr F1 (hr.mono hk) hb (hx σ) I1 r q
/-- cls(e, ..), cls a local name that holds the class -/
theorem pe_nL {i : Nat} (F : COk X.prog X.w X.K X.mg X.base c k sp) (hr : Room j X.A) (hk : k + 1 ≤ j) (hx : ∀ σ, PassesAt (L2.CX X.prog X.w) X σ (E σ)) (ha : PA X (e :: es) t)
    (hN : X.N[i]? = some x) (hv : Vis X.env.scope x)
    (hdb : (x == ("__debug__" : Str)) = false := by decide) (hcd : (x == ("__classdict__" : Str)) = false := by decide) (he : starEach (e :: es) X.env = (false, eval e X.env) :: starEach es X.env := by rfl) (hpl : (backTo pos (starEach es X.env)).any (·.1) = false := by rfl) :
    PE X (.Call (.Name x p) (e :: es) [] pos) (fun σ H Q => σ[i]? = some (some (.ref (He.ga X.K c))) ∧ tMakeS (He.ga X.K c) sp E t σ H Q) := by
  obtain ⟨fd, ps, F1, hb⟩ := F.ex
  refine ⟨fun pins s σ H Q I h => ?_⟩
  obtain ⟨hs, ht⟩ := h
  refine wpAny_Call_Name_kw (thn ((pe_var (pos := p) hN hv hdb hcd).run pins s σ H (fun v H1 => v = .ref (He.ga X.K c) ∧ H1 = H) I ⟨.ref (He.ga X.K c), hs, rfl, rfl⟩) fun u s1 ⟨v, H1, I1, r1, q1⟩ => ?_)
  obtain ⟨rfl, rfl⟩ := q1
  cases r1
  refine PySem.W.callWith_K (h₀ := X.base) I.ok.mod.kin F.mkr.kp (thn (ha.run pos pins s1 σ _ _ I1 ht) fun us s2 ⟨vs, H2, I2, r, q⟩ => ⟨I2.kIn, ?_⟩) he hpl
  exact run_makeS F.mkr F1 (hr.mono hk) hb (hx σ) I2 r q

/-! ### operators of one's own -/
/-- one op two, both instances of the class named c -/
structure BOk (P : Program) (w : World) (K : PySem.W.Frag) (mg : Str → Option Value) (base : Heap) (c m : Str) (k : Nat) (sp : Sp) : Prop where
  ex : ∃ fd ps, FnOk P w K mg base (L2.CX P w) k (He.ma K (He.ga K c) m) fd ps sp ∧ Binds K fd ps []
  sf : PySem.W.selfFirst K (He.ga K c) = true
  fi : PySem.W.findIn K (.ref (He.ga K c)) m = some (some (.ref (He.ma K (He.ga K c) m)))
  fn : PySem.W.isFn K (.ref (He.ma K (He.ga K c) m)) = true
def tBinS (C : Addr) (sp : Sp) (E : St → XK) (ta tb : TE) : TE := fun σ H Q => ta σ H fun x H1 => tb σ H1 fun y H2 => ∃ a b dx dy fs gs, x = .ref a ∧ y = .ref b ∧ H2 a = some (.ins C dx fs) ∧ H2 b = some (.ins C dy gs) ∧ sp [x, y] H2 Q (E σ)
theorem cmpBack_rel {Q : Value → Shared → Prop} {v : V} {u : Value} {s : Shared} (r : RelV v u) (q : Q u s) : PySem.W.CmpBack Q u s := by
  cases v with
  | non => cases (show u = Value.none from r); exact q
  | bl b => cases (show u = Value.bool b from r); exact q
  | int i => obtain ⟨t, e⟩ := (show ∃ t, u = Value.int i t from r); subst e; exact q
  | str z => obtain ⟨t, e⟩ := (show ∃ t, u = Value.str z t from r); subst e; exact q
  | byt z => obtain ⟨t, e⟩ := (show ∃ t, u = Value.bytes z t from r); subst e; exact q
  | flt z => obtain ⟨t, e⟩ := (show ∃ t, u = Value.float z t from r); subst e; exact q
  | ref a => cases (show u = Value.ref a from r); exact q
  | ty n => cases (show u = Value.type n from r); exact q
theorem pe_bin {op : Operator} {a b : Expr} {ta tb : TE} (F : BOk X.prog X.w X.K X.mg X.base c m k sp) (ho : PySem.dunder op.info.2 = m) (hr : Room j X.A) (hk : k ≤ j) (hx : ∀ σ, PassesAt (L2.CX X.prog X.w) X σ (E σ)) (ha : PE X a ta) (hb' : PE X b tb) :
    PE X (.BinOp a op b pos) (tBinS (He.ga X.K c) sp E ta tb) := by
  obtain ⟨fd, ps, F1, hb⟩ := F.ex
  refine ⟨fun pins s σ H Q I h => ?_⟩
  refine wpAny_BinOp (binT ha hb' I h fun v u s2 x y H2 I2 rx ry q => ?_)
  obtain ⟨a1, b1, dx, dy, fs, gs, rfl, rfl, h1, h2, q⟩ := q
  cases rx
  cases ry
  obtain ⟨mA, J, _⟩ := ins_get I2.hok h1
  obtain ⟨mB, J', _⟩ := ins_get I2.hok h2
  obtain ⟨od, J, _⟩ := J.look
  obtain ⟨od', J', _⟩ := J'.look
  obtain ⟨mm, hF⟩ := I2.fr
  refine PySem.W.binop_K hF I2.ok.mod.kin J J'.type F.sf (by rw [ho]; exact F.fi) F.fn ?_
  exact thn (run_fnS (us := [.ref a1, .ref b1]) (vs := [.ref a1, .ref b1]) F1 (hr.mono hk) hb (hx σ) I2 (.cons rfl (.cons rfl .nil)) q) fun v s3 ⟨z, H3, I3, r3, q3⟩ => cmpBack_rel r3 ⟨z, H3, I3, r3, q3⟩
/-- one == y by the class's own __eq__, y anything -/
def tEqS (K : PySem.W.Frag) (C : Addr) (sp : Sp) (E : St → XK) (ta tb : TE) : TE := fun σ H Q => ta σ H fun x H1 => tb σ H1 fun y H2 => ∃ a dx fs t, x = .ref a ∧ H2 a = some (.ins C dx fs) ∧ TyX K H2 y t ∧ PySem.W.notFirst K C t = true ∧ sp [x, y] H2 Q (E σ)
theorem pe_eqS {a b : Expr} {ta tb : TE} (F : BOk X.prog X.w X.K X.mg X.base c "__eq__" k sp) (hr : Room j X.A) (hk : k ≤ j) (hx : ∀ σ, PassesAt (L2.CX X.prog X.w) X σ (E σ)) (ha : PE X a ta) (hb' : PE X b tb) :
    PE X (.Compare a [.Eq] [b] pos) (tEqS X.K (He.ga X.K c) sp E ta tb) := by
  obtain ⟨fd, ps, F1, hb⟩ := F.ex
  refine ⟨fun pins s σ H Q I h => ?_⟩
  refine wpAny_Compare1 (binT ha hb' I h fun v u s2 x y H2 I2 rx ry q => ?_) (nomark _)
  obtain ⟨a1, dx, fs, t, rfl, h1, ty, nf, q⟩ := q
  cases rx
  obtain ⟨mA, J, _⟩ := ins_get I2.hok h1
  obtain ⟨od, J, _⟩ := J.look
  obtain ⟨mm, hF⟩ := I2.fr
  obtain ⟨P, Z, pz, _⟩ := kit_of I2 ry ty
  show wpAny (model X.prog X.w) X.A (richCompare .Eq (.ref a1) u) (EP X pins σ Q) X.xe s2
  refine PySem.W.cmp_K (op := .Eq) (tb := t) hr.units0 hF I2.ok.mod.kin J (Z.ty _ _ I2.kIn pz) nf F.fi F.fn ?_
  exact thn (run_fnS (us := [.ref a1, u]) (vs := [.ref a1, y]) F1 (hr.mono hk) hb (hx σ) I2 (.cons rfl (.cons ry .nil)) q) fun v s3 ⟨z, H3, I3, r3, q3⟩ => cmpBack_rel r3 ⟨z, H3, I3, r3, q3⟩

/-! ### an own exception without __init__, made without arguments -/
theorem pmk_own0 {B : String} {bmB : List Value} {newId initId : String} {C : Addr} {x : Str} {p pos : Pos} (F : ExcBaseFacts B newId initId bmB) (q : PySem.W.excIn X.K C bmB newId = true) (gC : X.mg x = some (.ref C)) (kC : PySem.W.keepIn X.K (.ref C) = true) (r : Raises X (.ref C)) (hg : Gl X x)
    (hdb : (x == ("__debug__" : Str)) = false := by decide) : PMk X (.Call (.Name x p) [] [] pos) (fun _ H Q => Q (.ref C) none H) := by
  intro pins s σ H Q I h
  refine wpAny_Call_Name_kw (ld_glob I hg gC ?_ hdb)
  refine PySem.W.callWith_K0 I.kIn kC ?_
  obtain ⟨bm, N, nm, qn, bs, hdct, sn, sub, ab, col, dd, k0, k1, k2, k3, k5, mN, hC, hN, hni, T⟩ := exc_obj I.kIn q
  obtain ⟨hp, g, d, t, os⟩ := s
  refine wpAny_call_exc_subT F T hC hN hni (fun h' e hm => ?_) (Nat.zero_le _)
  exact mk_of I hm r h (I.hok.gone hm.new)
end
end Ms
set_option Elab.async false
set_option linter.all false
set_option maxRecDepth 100000
set_option maxHeartbeats 4000000
/-! Ms, exceptions: a caught exception is an object like others, so that defs may be handed it. -/
namespace Ms
open PySem PySem.Spec PyProof.Rows L2

/-- at a stands an exception of the class cls, its dict at d -/
def exT (a : Addr) (cls : Value) (d : Option Addr) : HO := .ext fun h => ∃ oe vs, h.get? a = some oe ∧ Zc cls d oe ∧ oe.data = .fields vs
theorem exT_not (a : Addr) (cls : Value) (d : Option Addr) {o : HO} (h : ∀ p, o ≠ .ext p) : exT a cls d ≠ o := fun z => h _ z.symm
theorem exT_ok {P : Program} {w : World} {H : Hp} {h : Heap} {a : Addr} {cls : Value} {d : Option Addr} {oe : Obj} {vs : Array Value} (e : h.get? a = some oe) (z : Zc cls d oe) (f : oe.data = .fields vs) : ObjOk P w H h a (exT a cls d) :=
  ⟨⟨oe, vs, e, z, f⟩, ⟨oe, e⟩, fun _ _ ⟨o, us, q, z, f⟩ k => ⟨o, us, k _ q, z, f⟩⟩
theorem exT_at {P : Program} {w : World} {H : Hp} {h : Heap} {a : Addr} {cls : Value} {d : Option Addr} (hok : HOk P w H h) (e : H a = some (exT a cls d)) : ∃ oe vs, h.get? a = some oe ∧ Zc cls d oe ∧ oe.data = .fields vs := by
  have x : ObjOk P w H h a (.ext fun h => ∃ oe vs, h.get? a = some oe ∧ Zc cls d oe ∧ oe.data = .fields vs) := hok a _ e
  exact x.1

section
variable {X : Cx} {pins : List (Addr × Obj)} {σ : St} {H : Hp} {s : Shared}
/-- an object of later than the frame's entry is known from now on -/
theorem track {a : Addr} {cls : Value} {d : Option Addr} {oe : Obj} {vs : Array Value} (I : Inv X pins σ H s) (new : X.s_0.heap.get? a = none) (e : s.heap.get? a = some oe) (z : Zc cls d oe) (f : oe.data = .fields vs) (na : H a = none)
    (nL : a ≠ X.env.locals) (np : ∀ p ∈ X.pn ++ pins, p.1 ≠ a) : Inv X pins σ (upd H a (exT a cls d)) s := by
  have off : ∀ {b : Addr} {o : Obj}, X.s_0.heap.get? b = some o → b ≠ a := fun {b o} q y => by
    rw [y, new] at q
    cases q
  have ne : ∀ {b : Addr} {o : HO}, H b = some o → b ≠ a := fun {b o} q y => by
    rw [y, na] at q
    cases q
  refine ⟨I.ok, I.os, I.bare, ⟨I.base.keep, I.base.slot, fun b o q n hx => ?_, I.base.there, fun b xs q => ?_, fun b o u q => ?_, fun b ps q => ?_⟩, I.loc, I.cell, ?_, fun x c q => ?_, fun p hp => ?_, fun b o q => ?_, I.len⟩
  · rw [upd_ne (off q)]
    exact I.base.free b o q n hx
  · have y := I.base.tups b xs q
    rw [upd_ne (ne y)]
    exact y
  · have y := I.base.frzs b o u q
    rw [upd_ne (ne y)]
    exact y
  · obtain ⟨more, y⟩ := I.base.tbls b ps q
    exact ⟨more, by rw [upd_ne (ne y)]; exact y⟩
  · rw [upd_ne (Ne.symm nL)]
    exact I.free
  · obtain ⟨v, o, ho, hd⟩ := I.cell x c q
    have nc : c ≠ a := fun y => by
      rw [y, e] at ho
      cases ho
      rw [f] at hd
      cases hd
    rw [upd_ne nc]
    exact I.freeC x c q
  · obtain ⟨y1, y2, y3⟩ := I.pin p hp
    exact ⟨y1, by rw [upd_ne (np p hp)]; exact y2, y3⟩
  · by_cases hb : b = a
    · subst hb
      rw [upd_same] at q
      cases q
      exact exT_ok e z f
    · rw [upd_ne hb] at q
      exact (I.hok b o q).stay (fun _ _ _ y => y) (fun c y => by rw [upd_ne (ne y)]; exact y) fun c xs y => by rw [upd_ne (ne y)]; exact y
/-- into an except suite, out of it -/
theorem toSuite (I : Inv X pins σ H s) (a : Addr) : Inv (X.suite a (X.pn ++ pins)) [] σ H s :=
  ⟨I.ok.suite _ _, I.os, I.bare, I.base, I.loc, I.cell, I.free, I.freeC, fun p hp => I.pin p (by rw [List.append_nil] at hp; exact hp), I.hok, I.len⟩
theorem ofSuite {a : Addr} {pn' : List (Addr × Obj)} (I : Inv (X.suite a (X.pn ++ pins)) pn' σ H s) (ok : X.Ok) : Inv X pins σ H s :=
  ⟨ok, I.os, I.bare, I.base, I.loc, I.cell, I.free, I.freeC, fun p hp => I.pin p (List.mem_append_left _ hp), I.hok, I.len⟩
end

/-- what the clause «except x as n» wishes of an exception of the body -/
def wTr (K : PySem.W.Frag) (c : Value) (i : Nat) (ts : TS) (Wout : WX) (D : Ends) : WX := fun cls d σ H =>
  ∃ b, PySem.W.exmOne K cls c = some b ∧ (b = true → ∀ a, H a = none → ts { nx := fun σ' H' => D.nx (σ'.set i none) H', rt := D.rt, bk := fun σ' H' => D.bk (σ'.set i none) H', ct := fun σ' H' => D.ct (σ'.set i none) H' } (σ.set i (some (.ref a))) (upd H a (exT a cls d))) ∧
    (b = false → Wout cls d σ H)

section
variable {X : Cx} {x n : Str} {c : Value} {i : Nat} {body suite : List Stmt} {b₀ : Stmt} {np pos pos' : Pos} {tb : WX → TS} {ts : TS} {Wout : WX}
theorem ps_try (hs : X.stack = X.env :: X.outer) (hf : X.env.frame = some X.env.locals) (hN : X.N.Nodup) (hi : X.N[i]? = some n) (hln : X.env.kindOf n = some .local) (hc : Names X x c) (hex : X.ex = []) (tk : Takes X Wout)
    (hb : ∀ (W : WX) (pn : List (Addr × Obj)) (xe : Value → Shared → Prop), Takes (X.tr pn xe) W → PassesOwn (model X.prog X.w) X.A X.env xe → PSs (X.tr pn xe) body (tb W))
    (hsu : ∀ (a : Addr) (pn : List (Addr × Obj)), PSs (X.suite a pn) (b₀ :: suite) ts) :
    PS X (.Try body [.ExceptHandler (some (.Name x np)) (some n) (b₀ :: suite) pos'] [] [] pos) (fun D σ H => tb (wTr X.K c i ts Wout D) D σ H) := by
  refine ⟨fun pins s σ H D I h => ?_⟩
  have ok := I.ok
  have hfr : X.A.frames = some (X.env :: X.outer) := by rw [ok.frames, hs]
  have hloc : Loc X.env.scope n := .inl hln
  refine wpAny_Try_except ?_
  have runs := (hb (wTr X.K c i ts Wout D) (X.pn ++ pins) (fun e s₁ => wpAny (model X.prog X.w) X.A (noteFrame e X.env) (fun _ s₂ => wpAny (model X.prog X.w) X.A (setFlight e none) (fun _ s₃ =>
    wpAny (model X.prog X.w) X.A (handleBy e X.env [.ExceptHandler (some (.Name x np)) (some n) (b₀ :: suite) pos']) (SP X pins D) X.xe s₃) X.xe s₂) X.xe s₁) (fun u s' xx => ?_) PassesOwn.looking).run [] s σ H D (I.toTry _) h
  · refine wpAny_mono runs (fun f s1 hsp => ?_) fun e s1 he => he
    cases f with
    | next =>
      obtain ⟨σ', H', J', q⟩ := hsp
      exact wpAny_execs_nil ⟨σ', H', J'.ofTry ok, q⟩
    | brk =>
      obtain ⟨σ', H', J', q⟩ := hsp
      exact ⟨σ', H', J'.ofTry ok, q⟩
    | cont =>
      obtain ⟨σ', H', J', q⟩ := hsp
      exact ⟨σ', H', J'.ofTry ok, q⟩
    | ret u =>
      obtain ⟨v, σ', H', J', r, q⟩ := hsp
      exact ⟨v, σ', H', J'.ofTry ok, r, q⟩
  -- the catch
  obtain ⟨a, B, sI, pins', σ', H', cls, d, rfl, J', nb, up, sky, na, os, ag, b, hb1, hyes, hno⟩ := xx
  have J : Inv X pins σ' H' sI := J'.ofTry ok
  have sky1 : Sky B (X.env :: X.outer) a (Zc cls d) X.env.locals s'.heap := hs ▸ sky
  show wpAny (model X.prog X.w) X.A (noteFrame (.ref a) X.env) _ _ _
  refine Sky.land Zc.steady hfr hf sky1 fun h3 fl3 up3 => ?_
  have J3 : Inv X pins σ' H' { s' with heap := h3 } := J.landed nb fl3.1 (up.trans up3) os ag
  obtain ⟨oe3, vs3, he3, hz3, hd3⟩ := fl3.there
  have nfr : a ∉ frs (X.env :: X.outer) := fun hm => by
    obtain ⟨_, o', e', hnf⟩ := fl3.2.2.1.mem hm
    rw [he3] at e'
    cases e'
    exact hnf _ hd3
  have nst : a ∉ frs X.stack := hs ▸ nfr
  have nL : a ≠ X.env.locals := fun z => nfr (List.mem_filterMap.mpr ⟨X.env, List.mem_cons_self, by rw [hf, z]⟩)
  have gone : B.get? a = none := fl3.2.1
  have newI : sI.heap.get? a = none := by
    cases q : sI.heap.get? a with
    | none => rfl
    | some o =>
      have z := nb a o q nst
      rw [gone] at z
      cases z
  have new : X.s_0.heap.get? a = none := by
    cases q : X.s_0.heap.get? a with
    | none => rfl
    | some o =>
      obtain ⟨o', z⟩ := J.base.there a o q (by rw [hex]; simp)
      rw [newI] at z
      cases z
  have npin : ∀ p ∈ X.pn ++ pins, p.1 ≠ a := fun p hp z => by
    obtain ⟨y, _⟩ := J.pin p hp
    rw [z, newI] at y
    cases y
  refine wpAny_handleBy_cons (codeAny_handlers_test ?_) (by intro q; cases q)
  have LT : PySem.W.Looks (model X.prog X.w) h3 (typeOf (.ref a)) cls := fun A Q E s k q => wpAny_typeOf_ref (k _ _ he3) (by rw [hz3.1]; exact q)
  have LM := PySem.W.exm_one (M := model X.prog X.w) (J3.kIn) LT hb1
  have test : ∀ {Q : Value → Shared → Prop} {E : Value → Shared → Prop}, Q c { s' with heap := h3 } → wpAny (model X.prog X.w) (X.A.mark (some (.ref a))) (eval (.Name x np) X.env) Q E { s' with heap := h3 } := fun {Q E} q => by
    obtain ⟨hg, hdbg, hm | ⟨hm, hv, hnn⟩⟩ := hc
    · exact ld_glob (X := X.suite a (X.pn ++ pins)) (toSuite J3 a) hg hm q hdbg
    · exact ld_blt (X := X.suite a (X.pn ++ pins)) (toSuite J3 a) hg hm hv q hnn hdbg
  refine test (LM.here ?_)
  cases b with
  | true =>
    refine codeAny_handlers_suite_as ?_
    refine HandSPX.lands_againZ fl3 fun h4 fl4 up4 => ?_
    obtain ⟨oe4, vs4, he4, hz4, hd4⟩ := fl4.there
    have J4 : Inv X pins σ' (upd H' a (exT a cls d)) { s' with heap := h4 } := track (J.landed nb fl4.1 ((up.trans up3).trans up4) os ag) new he4 hz4 hd4 na nL npin
    refine store_ok (X := X.suite a (X.pn ++ pins)) (v := .ref a) (toSuite J4 a) hN hi hloc rfl (fun s5 S5 => ?_) (.inr hln)
    refine wpAny_mono ((hsu a (X.pn ++ pins)).run [] s5 _ _ _ S5 (hyes rfl a na)) (fun f s6 hsp => ?_) (fun _ _ z => False.elim z)
    have end_ : ∀ {σ6 : St} {H6 : Hp} {Q : Shared → Prop}, Inv (X.suite a (X.pn ++ pins)) [] σ6 H6 s6 → (∀ s7, Inv X pins (σ6.set i none) H6 s7 → Q s7) →
        wpAny (model X.prog X.w) X.A (do bindName X.env n .none; unbindBehindTheSuite X.env n pos') (fun _ s7 => Q s7) X.xe s6 := fun {σ6 H6 Q} S6 hq => gone_ok (ofSuite S6 ok) hN hi hln hq
    cases f with
    | next =>
      obtain ⟨σ6, H6, S6, q6⟩ := hsp
      exact end_ S6 fun s7 J7 => ⟨_, _, J7, q6⟩
    | brk =>
      obtain ⟨σ6, H6, S6, q6⟩ := hsp
      exact end_ S6 fun s7 J7 => ⟨_, _, J7, q6⟩
    | cont =>
      obtain ⟨σ6, H6, S6, q6⟩ := hsp
      exact end_ S6 fun s7 J7 => ⟨_, _, J7, q6⟩
    | ret u =>
      obtain ⟨v6, σ6, H6, S6, r6, q6⟩ := hsp
      exact end_ S6 fun s7 J7 => ⟨_, _, _, J7, r6, q6⟩
  | false =>
    show wpAny _ X.A (handleBy (.ref a) X.env []) _ _ _
    refine wpAny_handleBy_nil ?_
    obtain ⟨k1, k2, k3, oe, vs, T, oT, ts', he, hz, hd, h1, hr⟩ := id fl3
    unfold PySem.passOn
    refine wpAny_bind (wpAny_field he hd h1 ?_)
    rw [if_neg (show ¬ ((Value.ref T == Value.none) = true) from by simp)]
    have fin : wpAny (model X.prog X.w) X.A (setFlight (.ref a) X.env.frame) (fun _ s4 => wpAny (model X.prog X.w) X.A (throw (.ref a) : Sem Flow) (SP X pins D) X.xe s4) X.xe { s' with heap := h3 } := by
      rw [hf]
      refine HandSPX.setFlight_upZ fl3 fun h4 hh4 up4 => wpAny_throw (tk _ _ ?_)
      exact ⟨a, B, sI, pins, σ', H', cls, d, rfl, J, nb, (up.trans up3).trans up4, .inr (.inr (by rw [hs]; exact hh4)), na, os, ag, hno rfl⟩
    first
      | exact wpAny_bind (wpAny_pure (wpAny_bind fin))
      | exact wpAny_bind fin
end

/-! ### what is asked of a value's type, exceptions too -/
/-- what K says of an exception class at D, for isinstance and for its fields -/
structure EC (K : PySem.W.Frag) (D : Addr) : Prop where
  cl : (PySem.W.clsIn K D).isSome = true
  ga : PySem.W.findIn K (.ref D) "__getattribute__" = some (some (.builtin "BaseException.__getattribute__"))
  gg : PySem.W.findIn K (.ref D) "__getattr__" = some none
  sb : PySem.W.subIn K (.ref D) (.type "BaseException") = some true
  ca : PySem.W.findIn K (.ref D) "__class__" = some (some (.builtin "object.__class__"))
  cg : PySem.W.specialIn K (.builtin "object.__class__") "__get__" = some (some (.builtin "getset_descriptor.__get__"))
  ct : PySem.W.takesIn K (.builtin "object.__class__") = some true
  ob : PySem.W.mroIn K D (.type "object") = some true
  hd : PySem.W.hasDictIn K D = true
/-- an exception of the class at D with these fields -/
def IsEx (D : Addr) (fs : Option (List (Str × V))) (a : Addr) (H : Hp) : Prop := match fs with
  | none => H a = some (exT a (.ref D) none)
  | some l => ∃ dd, H a = some (exT a (.ref D) (some dd)) ∧ H dd = some (.xd l)
inductive TyM (K : PySem.W.Frag) (H : Hp) : V → Value → Prop where
  | of {x : V} {t : Value} (h : TyX K H x t) : TyM K H x t
  | ex {a D : Addr} {fs : Option (List (Str × V))} (h : IsEx D fs a H) (c : EC K D) : TyM K H (.ref a) (.ref D)
section
variable {X : Cx} {pins : List (Addr × Obj)} {σ : St} {H : Hp} {s : Shared}
theorem ex_inst {a D : Addr} {fs : Option (List (Str × V))} (I : Inv X pins σ H s) (h : IsEx D fs a H) : ∃ ox od, PySem.W.InstAt s.heap a ox D od := by
  have mkI : ∀ {d : Option Addr} {od : Option Obj}, H a = some (exT a (.ref D) d) → (match d with | some dd => ∃ o, s.heap.get? dd = some o ∧ od = some o | none => od = none) → ∃ ox od, PySem.W.InstAt s.heap a ox D od := fun {d od} e k => by
    obtain ⟨oe, vs, ho, ⟨hc, hdd⟩, hv⟩ := exT_at I.hok e
    obtain ⟨oc, odd, oda, osl⟩ := oe
    dsimp only at hc hdd hv
    subst hc hdd hv
    cases odd with
    | none => exact ⟨_, none, ho, rfl, rfl, trivial⟩
    | some dd =>
      obtain ⟨o, h1, h2⟩ := k
      exact ⟨_, some o, ho, rfl, rfl, h1⟩
  cases fs with
  | none => exact mkI (d := none) (od := none) h rfl
  | some l =>
    obtain ⟨dd, h1, h2⟩ := h
    obtain ⟨mA, ⟨o, _, _, e, _⟩, _⟩ := (show ObjOk X.prog X.w H s.heap dd (.xd l) from I.hok dd _ h2)
    exact mkI (d := some dd) (od := some o) h1 ⟨o, e, rfl⟩
theorem kit_ofM {x : V} {u t : Value} (I : Inv X pins σ H s) (rx : RelV x u) (ty : TyM X.K H x t) : ∃ P : Heap → Prop, PySem.W.KitX X.K u t P ∧ P s.heap ∧ u ≠ .builtin "__main__.__loader__#opaque" := by
  cases ty with
  | of h => exact kit_of I rx h
  | @ex a D fs h c =>
    cases (show u = Value.ref a from rx)
    obtain ⟨ox, od, J⟩ := ex_inst I h
    exact ⟨_, PySem.W.kitx_exc c.cl c.ga c.gg c.sb c.ca c.cg c.ct c.ob, J, fun z => nomatch z⟩
end
/-- isinstance(x, c) -/
def rIs (K : PySem.W.Frag) : List V → Hp → VK → Prop := fun xs H Q => ∃ (x c : V) (t u : Value) (b : Bool), xs = [x, c] ∧ ClsV c u ∧ TyM K H x t ∧ PySem.W.kitOne K t u = some b ∧ Q (.bl b) H
/-- isinstance(x, (c, ..)) -/
def rIsT (K : PySem.W.Frag) : List V → Hp → VK → Prop := fun xs H Q => ∃ (x : V) (tp : Addr) (cs : List V) (t : Value) (us : List Value) (b : Bool), xs = [x, .ref tp] ∧ H tp = some (.tup cs) ∧ Paired ClsV cs us ∧ TyM K H x t ∧ PySem.W.kitAny K t us = some b ∧ Q (.bl b) H
section
variable {X : Cx}
theorem cr_is : CallR X (.builtin "isinstance") (rIs X.K) := fun pins s σ H xs us Q I r h => by
  obtain ⟨x, c, t, u, b, rfl, k, ty, e, q⟩ := h
  obtain ⟨u1, u2, rfl, r1, r2⟩ := vals2 r
  obtain rfl := k.eq r2
  obtain ⟨P, Z, p, hx⟩ := kit_ofM I r1 ty
  exact PySem.W.kia_one Z I.kIn p e hx fun tk => ⟨.bl b, H, I.tok tk, rfl, q⟩
theorem cr_isT : CallR X (.builtin "isinstance") (rIsT X.K) := fun pins s σ H xs us Q I r h => by
  obtain ⟨x, tp, cs, t, ws, b, rfl, hT, k, ty, e, q⟩ := h
  obtain ⟨u1, u2, rfl, r1, r2⟩ := vals2 r
  obtain rfl : u2 = Value.ref tp := r2
  obtain ⟨P, Z, p, hx⟩ := kit_ofM I r1 ty
  obtain ⟨_, its, rv, ⟨oc, od, dt, sl⟩, h1, h2, n, h3⟩ := (show ObjOk X.prog X.w H s.heap tp (.tup cs) from I.hok tp _ hT)
  obtain rfl := ClsV.all k rv
  simp only at h2 h3
  subst h2 h3
  exact PySem.W.kia_tup Z I.kIn p h1 e hx fun tk => ⟨.bl b, H, I.tok tk, rfl, q⟩
/-- e.f, e a known exception -/
def tExF (K : PySem.W.Frag) (ta : TE) (f : Str) : TE := fun σ H Q => ta σ H fun x H1 => ∃ a D l v, x = .ref a ∧ IsEx D (some l) a H1 ∧ EC K D ∧ PySem.W.findIn K (.ref D) f = some none ∧ l.lookup f = some v ∧ Q v H1
theorem pe_exf {e : Expr} {te : TE} {pos : Pos} {n : Str} (he : PE X e te) (hb : attributeBase e n X.env (eval e X.env) = eval e X.env := by rfl) : PE X (.Attribute e n pos) (tExF X.K te n) := by
  refine ⟨fun pins s σ H Q I h => ?_⟩
  refine attr_of hb (thn (he.run pins s σ H _ I h) fun u s1 hh => ?_)
  obtain ⟨x, H1, I1, rx, a, D, l, v, rfl, ⟨dd, h1, h2⟩, c, hno, hl, q⟩ := hh
  obtain rfl : u = Value.ref a := rx
  obtain ⟨oe, vs, ho, ⟨hc, hdd⟩, hv⟩ := exT_at I1.hok h1
  obtain ⟨mA, hns, hr⟩ := (show ObjOk X.prog X.w H1 s1.heap dd (.xd l) from I1.hok dd _ h2)
  obtain ⟨od, ho2, hl2⟩ := lookIn_ns hns
  obtain ⟨u, hu, ru⟩ := RelO.some_of (v := v) (o := mA n) (by rw [← hl]; exact hr n)
  have J : PySem.W.InstAt s1.heap a oe D (some od) := ⟨ho, hc, by unfold PySem.W.notCls; rw [hv] <;> rfl, by rw [hdd]; exact ho2⟩
  exact HandSPX.exc_get I1.kIn J c.ga c.gg c.sb (PySem.W.findObj_own c.hd hno rfl (by rw [hl2, hu])) (handed_of ru) ⟨v, H1, I1.tok _, ru, q⟩
end

/-! ### defs called in an except suite (they raise nothing, they loop over nothing) -/
structure RoomW (k : Nat) (A : Around) : Prop where
  dp : A.depth + 3 * k + 5 < recursionLimit
  un : A.units + 16 * k + 200 < cLine
theorem RoomW.mono {j k : Nat} {A : Around} (r : RoomW k A) (h : j ≤ k) : RoomW j A := ⟨by have := r.dp; omega, by have := r.un; omega⟩
theorem RoomW.deeper {k : Nat} {A : Around} (r : RoomW (k + 1) A) (env : Env) : RoomW k (A.deeper env) :=
  ⟨by have := r.dp; show A.depth + 1 + 3 * k + 5 < _; omega, by have := r.un; show A.units + 3 + 16 * k + 200 < _; omega⟩
theorem roomW_of {k : Nat} {A : Around} (r : Room k A) : RoomW k A := ⟨r.dp, r.un⟩
theorem roomW_mark {k : Nat} {A : Around} (r : Room k A) (o : Option Value) : RoomW k (A.mark o) := ⟨r.dp, r.un⟩
/-- a context that is not calm -/
abbrev warm (Y : Cx) (A : Around) : Cx := { Y with A := A, calm := false, xe := fun _ _ => False }
theorem Cx.Ok.warm {Y : Cx} (ok : Y.Ok) {A : Around} (hf : A.frames = Y.A.frames) : (Ms.warm Y A).Ok :=
  ⟨ok.mod, ok.kind, ok.glob, ok.blt, ok.above, ok.inj, ok.has, ok.cab, (fun z => absurd (show false = true from z) Bool.false_ne_true), by rw [← ok.frames]; exact hf, ok.stk, ok.exf, ok.bs, ok.bsz, ok.noex, ok.exfs, ok.funs, ok.frf⟩
theorem inv_warm {Y : Cx} {pins : List (Addr × Obj)} {σ : St} {H : Hp} {s : Shared} (I : Inv Y pins σ H s) {A : Around} (hf : A.frames = Y.A.frames) : Inv (Ms.warm Y A) pins σ H s :=
  ⟨Cx.Ok.warm I.ok hf, I.os, I.bare, I.base, I.loc, I.cell, I.free, I.freeC, I.pin, I.hok, I.len⟩
abbrev CXN : CXT := fun _ _ _ _ _ _ => False
structure FnW (P : Program) (w : World) (K : PySem.W.Frag) (mg : Str → Option Value) (base : Heap) (k : Nat) (f : Addr) (fd : FuncData) (ps : List Str) (sp : Sp) : Prop where
  len : ∀ vs H Q E, sp vs H Q E → vs.length = ps.length
  run : ∀ (A : Around) (outer : List Env) (s : Shared) (H : Hp) (args : Args) (us : List Value) (vs : List V) (Q : VK) (E : XK), RoomW k A → Env0 P w K mg base A outer s H → BindsTo s fd args (ps.zip us) → Vals vs us → sp vs H Q E →
    codeAny (model P w) A (.call (.ref f) args) (CR CXN outer P w H s Q E) s
/-- the context of such a def's body -/
abbrev cxW (P : Program) (w : World) (K : PySem.W.Frag) (mg : Str → Option Value) (base : Heap) (N : List Str) (qual : Str) (scope : Scope) (f : Addr) (cd : Value) (A : Around) (outer : List Env) (s : Shared) (H : Hp) (E : XK) : Cx :=
  warm (cxOf CXN P w K mg base N qual scope f cd { A with handled := none } outer s H E) (A.deeper (envOfC qual scope s.heap.objs.size f cd))
theorem FunD.warm {P : Program} {w : World} {K : PySem.W.Frag} {mg : Str → Option Value} {base : Heap} {x qual : Str} {params : Arguments} {body : List Stmt} {scope : Scope} {dvs : List V} {kws : List (Str × V)} {f : Addr} {fd : FuncData} {N ps : List Str} {k : Nat} {sp : Sp}
    (F : FunD K x qual params body scope dvs kws f fd) (S : FnScope N ps scope) (len : ∀ vs H Q E, sp vs H Q E → vs.length = ps.length)
    (hbody : ∀ (cdv : Value) (A : Around) (outer : List Env) (s : Shared) (H : Hp) (vs : List V) (Q : VK) (E : XK), RoomW k (A.deeper (envOfC qual scope s.heap.objs.size f cdv)) → sp vs H Q E →
      ∃ t, PSs (cxW P w K mg base N qual scope f cdv A outer s H E) body t ∧ t { nx := fun _ H' => Q .non H', rt := Q } (L2.start N vs) H) : FnW P w K mg base (k + 1) f fd ps sp := by
  obtain ⟨oc, od, dV, kV, doc, pm, an, cdv, ct, osl, rfl, lk, hcd, _, _⟩ := F.ex
  refine ⟨len, fun A outer s H args us vs Q E hr e0 hb r hsp => ?_⟩
  have KX : K.In s.heap := e0.mod.kin.keeps fun b o e => (e0.bs b o e).1
  have lim : s.heap.NoLimit := e0.mod.nolimit.keeps fun b o e => (e0.bs b o e).1
  have kinds : ∀ y ∈ ps.zip us, scope.names.lookup y.1 = some .local ∨ (scope.names.lookup y.1 = some .cell ∧ ((cellsFrom (s.heap.objs.size + 1) scope.names []).lookup y.1).isSome = true) := fun y hy => by
    obtain ⟨n, v⟩ := y
    rcases S.par n (List.of_mem_zip hy).1 with q | q
    · exact .inl q
    · exact .inr ⟨q, PySem.W.cellsFrom_some _ _ _ (.inl q)⟩
  have dep : A.depth < recursionLimit := by have := hr.dp; omega
  refine codeAny_call_function dep (KX _ _ lk) rfl S.co S.gen rfl (PySem.W.codeRec_of KX hcd) (hb _ _ _ _ ?_)
  refine wpAny_newFunctionEnv_cells S.kind kinds fun env he s1 x => ?_
  subst he
  refine ⟨lim.keeps x.toInCall.keep, codeAny_func ?_⟩
  obtain ⟨t, ht, hq⟩ := hbody cdv A outer s H vs Q E (hr.deeper _) hsp
  have e1 : Env0 P w K mg base { A with handled := none } outer s H := ⟨e0.frames, e0.mod, e0.bs, e0.bsz, e0.funs, e0.frf, e0.hok, e0.bare⟩
  have I0 := inv_start (CX := CXN) (E := E) S rfl e1 (len _ _ _ _ hsp) r x
  have I : Inv (cxW P w K mg base N qual scope f cdv A outer s H E) [] (L2.start N vs) H s1 := inv_warm I0 rfl
  refine wpAny_mono (ht.run [] s1 (L2.start N vs) H _ I hq) (fun fl s' hs => ?_) fun e s' hs => hs.elim
  have fin : ∀ {σ' : St} {H' : Hp} {v : V} {u : Value}, Inv (cxW P w K mg base N qual scope f cdv A outer s H E) [] σ' H' s' → RelV v u → Q v H' → CE outer P w H s Q u s' :=
    fun {σ' H' v u} J rv q => ⟨v, H', J.os, J.bare, J.base, J.hok, rv, q⟩
  cases fl with
  | ret u =>
    obtain ⟨v, σ', H', J, rv, q⟩ := hs
    exact fin J rv q
  | next =>
    obtain ⟨σ', H', J, q⟩ := hs
    exact fin (v := V.non) (u := Value.none) J rfl q
  | brk =>
    obtain ⟨_, _, _, q⟩ := hs
    exact False.elim q
  | cont =>
    obtain ⟨_, _, _, q⟩ := hs
    exact False.elim q
/-- .. by its name -/
structure WOk (P : Program) (w : World) (K : PySem.W.Frag) (mg : Str → Option Value) (base : Heap) (x : Str) (k : Nat) (sp : Sp) : Prop where
  ex : ∃ fd ps, FnW P w K mg base k (He.ga K x) fd ps sp ∧ Binds K fd ps []
  mg : mg x = some (.ref (He.ga K x))
  kp : PySem.W.keepIn K (.ref (He.ga K x)) = true
section
variable {X : Cx} {k j : Nat} {sp : Sp} {x : Str} {p pos : Pos} {e : Expr} {es : List Expr} {t : TA}
theorem pe_w (F : WOk X.prog X.w X.K X.mg X.base x k sp) (hr : RoomW j X.A) (hk : k ≤ j) (ha : PA X (e :: es) t) (hg : Gl X x := by rfl)
    (hdb : (x == ("__debug__" : Str)) = false := by decide) (he : starEach (e :: es) X.env = (false, eval e X.env) :: starEach es X.env := by rfl) (hpl : (backTo pos (starEach es X.env)).any (·.1) = false := by rfl) :
    PE X (.Call (.Name x p) (e :: es) [] pos) (tCallS sp EN t) := by
  obtain ⟨fd, ps, F1, hb⟩ := F.ex
  refine ⟨fun pins s σ H Q I h => ?_⟩
  refine wpAny_Call_Name_kw (ld_glob I hg F.mg ?_ hdb)
  refine PySem.W.callWith_K (h₀ := X.base) I.ok.mod.kin F.kp (thn (ha.run pos pins s σ H _ I h) fun us s1 ⟨vs, H1, I1, r, q⟩ => ⟨I1.kIn, ?_⟩) he hpl
  have hl : us.length = ps.length := by rw [← r.length]; exact F1.len _ _ _ _ q
  have b := hb s1 us I1.kIn (by rw [List.append_nil]; exact hl)
  rw [List.append_nil] at b
  refine wpAny_call (codeAny_mono (F1.run X.A X.stack s1 H1 ⟨us, []⟩ us vs Q _ (hr.mono hk) I1.env0 b r q) fun r s' hq => ?_)
  cases r with
  | error e => exact False.elim hq
  | ok fl =>
    cases fl with
    | ret u => exact I1.after hq
    | next => exact False.elim hq
    | brk => exact False.elim hq
    | cont => exact False.elim hq
end
end Ms
set_option Elab.async false
set_option linter.all false
set_option maxRecDepth 100000
set_option maxHeartbeats 4000000
/-! Ms, walks: list(zip(s, t)) and enumerate(t) of tuples. -/
namespace MsZ
open PySem RZ
open PySem.Sem (wp)
section
variable {prog : Program} {w : World} {A : Around} {E : Value → Shared → Prop} {s : Shared}
variable {z TI TO T i1 i2 l1 l2 : Addr} {f : Bool} {oT : Obj} {k1 k2 : Nat} {xs ys : Array Value}
/-- a zip of two tuples whose pair T is still out: the next pair -/
theorem held_item {x y : Value} {Q : Option Value → Shared → Prop} (D : ZipApart z TI TO i1 i2 l1 l2) (hz : IsZipHeld s.heap z TI TO T f) (hT : s.heap.get? T = some oT) (hTI : IsPair s.heap TI (.ref i1) (.ref i2))
    (h1 : s.heap.IsTupleIter i1 l1 k1) (h2 : s.heap.IsTupleIter i2 l2 k2) (hl1 : s.heap.IsTuple l1 xs) (hl2 : s.heap.IsTuple l2 ys) (hx : xs[k1]? = some x) (hy : ys[k2]? = some y)
    (hQ : ∀ h', IsZipHeld h' z TI TO T true → h'.IsTupleIter i1 l1 (k1 + 1) → h'.IsTupleIter i2 l2 (k2 + 1) → IsPair h' s.heap.objs.size x y → h'.objs.size = s.heap.objs.size + 1 →
      (∀ c o, c ≠ z → c ≠ i1 → c ≠ i2 → s.heap.get? c = some o → h'.get? c = some o) → Q (some (.ref s.heap.objs.size)) { s with heap := h' }) :
    wpAny (model prog w) A (pyNext (.ref z)) Q E s := by
  have ty : s.TypeIs (.ref z) "zip" := ⟨_, hz, rfl⟩
  unfold pyNext
  refine wpAny_bind (wpAny_attempt (wpAny_callSpecial?_slot (name := Str.ofString "__next__") ty F.slot_zip_next (wpAny_call_entry F.slot_zip_next ty F.entry_zip_next ?_ (F.args_zip_next_1 _))))
  show wpAny _ _ (field (.ref z) 2 >>= _) _ _ _
  refine wpAny_bind (wpAny_field hz rfl (x := .bool false) rfl ?_)
  show wpAny _ _ (field (.ref z) 3 >>= _) _ _ _
  refine wpAny_bind (wpAny_field hz rfl (x := .ref TI) rfl (wpAny_bind (wpAny_seqItems hTI rfl ?_)))
  show wpAny _ _ (Builtin.SmallTypes.ownedTupleIsFree (.ref z) >>= _) _ _ _
  refine wpAny_bind (wpAny_tupleHeld_zip hz hT fun g1 hz1 b1 => ?_)
  simp only [Bool.false_eq_true, if_false]
  rw [← Array.forIn_toList]
  simp only [List.forIn_cons, List.forIn_nil]
  refine wpAny_bind (wpAny_bind (wpAny_bind (wpAny_holding ?_)))
  show wpAny _ _ (Builtin.SmallTypes.nextOf (.ref i1) >>= _) _ _ _
  refine wpAny_bind (nextOf_tuple_item (s := { s with heap := g1 }) (h1.extBut b1.extBut D.i1z) (hl1.extBut b1.extBut D.l1z) hx fun g2 n1 b2 => wpAny_pure (wpAny_pure (wpAny_bind (wpAny_bind (wpAny_holding ?_)))))
  show wpAny _ _ (Builtin.SmallTypes.nextOf (.ref i2) >>= _) _ _ _
  refine wpAny_bind (nextOf_tuple_item (s := { s with heap := g2 }) ((h2.extBut b1.extBut D.i2z).extBut b2.extBut D.i12.symm) ((hl2.extBut b1.extBut D.l2z).extBut b2.extBut D.l2i1) hy fun g3 n2 b3 => wpAny_pure (wpAny_pure (wpAny_pure ?_)))
  show wpAny _ _ (newTuple [x, y] >>= _) _ _ _
  refine wpAny_bind (wpAny_newTuple (wpAny_pure ⟨_, rfl, wpAny_pure ?_⟩))
  have sz : g3.objs.size = s.heap.objs.size := by rw [b3.1, b2.1, b1.1]
  have hz3 : IsZipHeld g3 z TI TO T true := b3.extBut _ _ D.i2z.symm (b2.extBut _ _ D.i1z.symm hz1)
  have n13 : g3.IsTupleIter i1 l1 (k1 + 1) := n1.extBut b3.extBut D.i12
  have pr : IsPair (g3.push { cls := .type "tuple", data := .seq #[x, y] }) g3.objs.size x y := Heap.get?_push_size _ rfl
  have sz4 : (g3.push { cls := .type "tuple", data := .seq #[x, y] }).objs.size = g3.objs.size + 1 := Heap.size_push ..
  show Q (some (.ref g3.objs.size)) _
  rw [sz] at pr sz4 ⊢
  exact hQ _ (Heap.get?_push_of_some _ hz3) (n13.at fun o e => Heap.get?_push_of_some _ e) (n2.at fun o e => Heap.get?_push_of_some _ e) pr sz4 fun c o c1 c2 c3 e => Heap.get?_push_of_some _ (b3.extBut _ _ c3 (b2.extBut _ _ c2 (b1.extBut _ _ c1 e)))
/-- .. no further pair -/
theorem held_end {Q : Option Value → Shared → Prop} (hh : A.handled = none) (D : ZipApart z TI TO i1 i2 l1 l2) (hz : IsZipHeld s.heap z TI TO T f) (hT : s.heap.get? T = some oT) (hTI : IsPair s.heap TI (.ref i1) (.ref i2))
    (h1 : s.heap.IsTupleIter i1 l1 k1) (hl1 : s.heap.IsTuple l1 xs) (hx : xs[k1]? = none)
    (hQ : ∀ h', (∀ c o, c ≠ z → c ≠ i1 → c ≠ i2 → s.heap.get? c = some o → h'.get? c = some o) → Q none { s with heap := h' }) : wpAny (model prog w) A (pyNext (.ref z)) Q E s := by
  have ty : s.TypeIs (.ref z) "zip" := ⟨_, hz, rfl⟩
  unfold pyNext
  refine wpAny_bind (wpAny_attempt (wpAny_callSpecial?_slot (name := Str.ofString "__next__") ty F.slot_zip_next (wpAny_call_entry F.slot_zip_next ty F.entry_zip_next ?_ (F.args_zip_next_1 _))))
  show wpAny _ _ (field (.ref z) 2 >>= _) _ _ _
  refine wpAny_bind (wpAny_field hz rfl (x := .bool false) rfl ?_)
  show wpAny _ _ (field (.ref z) 3 >>= _) _ _ _
  refine wpAny_bind (wpAny_field hz rfl (x := .ref TI) rfl (wpAny_bind (wpAny_seqItems hTI rfl ?_)))
  show wpAny _ _ (Builtin.SmallTypes.ownedTupleIsFree (.ref z) >>= _) _ _ _
  refine wpAny_bind (wpAny_tupleHeld_zip hz hT fun g1 hz1 b1 => ?_)
  simp only [Bool.false_eq_true, if_false]
  rw [← Array.forIn_toList]
  simp only [List.forIn_cons, List.forIn_nil]
  refine wpAny_bind (wpAny_bind (wpAny_bind (wpAny_holding ?_)))
  show wpAny _ _ (Builtin.SmallTypes.nextOf (.ref i1) >>= _) _ _ _
  refine wpAny_bind (nextOf_tuple_end (s := { s with heap := g1 }) hh (h1.extBut b1.extBut D.i1z) (hl1.extBut b1.extBut D.l1z) hx fun g2 e b2 he => ?_)
  obtain ⟨o, ho, hc⟩ := he
  refine wpAny_bind (wpAny_isInstance (T := "StopIteration") (b := true) ⟨o, ho, hc⟩ isSubtype_stop ?_)
  exact wpAny_pure (hQ _ fun c o c1 c2 _ x => b2 _ _ c2 (b1.extBut _ _ c1 x))
end

/-- how far a zip has gone: nothing is out yet, or a pair T is -/
def St (h : Heap) (z TI TO i1 i2 l1 l2 S : Addr) (i : Nat) : Prop :=
  IsPair h TI (.ref i1) (.ref i2) ∧ h.IsTupleIter i1 l1 i ∧ h.IsTupleIter i2 l2 i ∧
    ((IsZip h z TI TO .none ∧ ∃ a b, IsPair h TO a b) ∨ ∃ T f oT, IsZipHeld h z TI TO T f ∧ h.get? T = some oT ∧ T ≠ z ∧ T ≠ i1 ∧ T ≠ i2 ∧ T ≠ S)
section
variable {prog : Program} {w : World} {A : Around} {E : Value → Shared → Prop} {s : Shared} {z TI TO i1 i2 l1 l2 S : Addr} {i : Nat} {xs ys : Array Value}
theorem St.at {h h' : Heap} (st : St h z TI TO i1 i2 l1 l2 S i) (nS : z ≠ S ∧ TI ≠ S ∧ TO ≠ S ∧ i1 ≠ S ∧ i2 ≠ S) (k : ∀ b o, b ≠ S → h.get? b = some o → h'.get? b = some o) : St h' z TI TO i1 i2 l1 l2 S i := by
  obtain ⟨a1, a2, a3, a4⟩ := st
  obtain ⟨n1, n2, n3, n4, n5⟩ := nS
  refine ⟨k _ _ n2 a1, a2.at fun o q => k _ o n4 q, a3.at fun o q => k _ o n5 q, ?_⟩
  rcases a4 with ⟨b1, a, b, b2⟩ | ⟨T, f, oT, b1, b2, c1, c2, c3, c4⟩
  · exact .inl ⟨k _ _ n1 b1, a, b, k _ _ n3 b2⟩
  · exact .inr ⟨T, f, oT, k _ _ n1 b1, k _ _ c4 b2, c1, c2, c3, c4⟩
theorem next_item {x y : Value} {Q : Option Value → Shared → Prop} (D : ZipApart z TI TO i1 i2 l1 l2) (st : St s.heap z TI TO i1 i2 l1 l2 S i) (hS : S < s.heap.objs.size)
    (hl1 : s.heap.IsTuple l1 xs) (hl2 : s.heap.IsTuple l2 ys) (hx : xs[i]? = some x) (hy : ys[i]? = some y)
    (hQ : ∀ h', St h' z TI TO i1 i2 l1 l2 S (i + 1) → IsPair h' s.heap.objs.size x y → (∀ c o, c ≠ z → c ≠ TO → c ≠ i1 → c ≠ i2 → s.heap.get? c = some o → h'.get? c = some o) → Q (some (.ref s.heap.objs.size)) { s with heap := h' }) :
    wpAny (model prog w) A (pyNext (.ref z)) Q E s := by
  obtain ⟨a1, a2, a3, a4⟩ := st
  have lt1 : i1 < s.heap.objs.size := by obtain ⟨_, e, _⟩ := a2; exact Heap.lt_size e
  have lt2 : i2 < s.heap.objs.size := by obtain ⟨_, e, _⟩ := a3; exact Heap.lt_size e
  rcases a4 with ⟨b1, a, b, b2⟩ | ⟨T, f, oT, b1, b2, c1, c2, c3, c4⟩
  · refine pyNext_zipT_item D b1 a1 b2 a2 a3 hl1 hl2 hx hy fun h' q1 q2 q3 q4 q5 q6 q7 => ?_
    refine hQ h' ⟨q7 _ _ D.TIz D.TITO D.TIi1 D.TIi2 a1, q3, q4, .inr ⟨_, false, _, q1, q5, Nat.ne_of_gt (Heap.lt_size b1), Nat.ne_of_gt lt1, Nat.ne_of_gt lt2, Nat.ne_of_gt hS⟩⟩ q5 q7
  · refine held_item D b1 b2 a1 a2 a3 hl1 hl2 hx hy fun h' q1 q3 q4 q5 q6 q7 => ?_
    exact hQ h' ⟨q7 _ _ D.TIz D.TIi1 D.TIi2 a1, q3, q4, .inr ⟨T, true, oT, q1, q7 _ _ c1 c2 c3 b2, c1, c2, c3, c4⟩⟩ q5 fun c o d1 _ d3 d4 e => q7 c o d1 d3 d4 e
theorem next_end {Q : Option Value → Shared → Prop} (hh : A.handled = none) (D : ZipApart z TI TO i1 i2 l1 l2) (st : St s.heap z TI TO i1 i2 l1 l2 S i)
    (hl1 : s.heap.IsTuple l1 xs) (hl2 : s.heap.IsTuple l2 ys) (hx : xs[i]? = none)
    (hQ : ∀ h', (∀ c o, c ≠ z → c ≠ TO → c ≠ i1 → c ≠ i2 → s.heap.get? c = some o → h'.get? c = some o) → Q none { s with heap := h' }) : wpAny (model prog w) A (pyNext (.ref z)) Q E s := by
  obtain ⟨a1, a2, a3, a4⟩ := st
  rcases a4 with ⟨b1, a, b, b2⟩ | ⟨T, f, oT, b1, b2, c1, c2, c3, c4⟩
  · exact pyNext_zipT_end hh D b1 a1 b2 a2 a3 hl1 hl2 (.inl hx) hQ
  · exact held_end hh D b1 b2 a1 a2 hl1 hx fun h' k => hQ h' fun c o d1 _ d3 d4 e => k c o d1 d3 d4 e

/-- the pairs made so far -/
structure Got (xs ys : Array Value) (lo : Addr) (h : Heap) (as : List Addr) : Prop where
  rise : as.Pairwise (· < ·)
  above : ∀ a ∈ as, lo < a
  pairs : ∀ (j : Nat) (a : Addr), as[j]? = some a → ∃ x y, xs[j]? = some x ∧ ys[j]? = some y ∧ IsPair h a x y
theorem Got.there {lo : Addr} {h : Heap} {as : List Addr} (g : Got xs ys lo h as) {a : Addr} (ha : a ∈ as) : a < h.objs.size := by
  obtain ⟨j, hj⟩ := List.mem_iff_getElem?.mp ha
  obtain ⟨_, _, _, _, e⟩ := g.pairs j a hj
  exact Heap.lt_size e
theorem loop {R : Result → Shared → Prop} (hh : A.handled = none) (D : ZipApart z TI TO i1 i2 l1 l2) (nS : z ≠ S ∧ TI ≠ S ∧ TO ≠ S ∧ i1 ≠ S ∧ i2 ≠ S) (nl : l1 ≠ S ∧ l2 ≠ S ∧ l1 ≠ TO ∧ l2 ≠ TO) (sz : xs.size = ys.size) (hn : xs.size ≤ sizeLine) (res : Value) {g0 : Heap} {lo : Addr} (hlo : z ≤ lo ∧ TO ≤ lo ∧ i1 ≤ lo ∧ i2 ≤ lo ∧ S ≤ lo)
    (hR : ∀ h' tk acc c as, (∀ b o, b ≠ S → b ≠ z → b ≠ TO → b ≠ i1 → b ≠ i2 → g0.get? b = some o → h'.get? b = some o) → h'.get? S = some { cls := .type "list", dict := none, data := .seq acc c, slots := #[] } → as.length = xs.size → Got xs ys lo h' as →
      acc.toList = as.map Value.ref → R (.ok (.ret res)) { s with heap := h', toks := tk }) :
    ∀ (k i : Nat) (h : Heap) (tk c : Nat) (acc : Array Value) (as : List Addr), xs.size - i = k → i ≤ xs.size → St h z TI TO i1 i2 l1 l2 S i → h.IsTuple l1 xs → h.IsTuple l2 ys → (∀ b o, b ≠ S → b ≠ z → b ≠ TO → b ≠ i1 → b ≠ i2 → g0.get? b = some o → h.get? b = some o) →
      h.get? S = some { cls := .type "list", dict := none, data := .seq acc c, slots := #[] } → acc.toList = as.map Value.ref → as.length = i → Got xs ys lo h as → lo < h.objs.size →
      codeAny (model prog w) A (.builtin "list.extend.loop" ⟨[.ref S, .ref z, res], []⟩) R { s with heap := h, toks := tk } := by
  obtain ⟨o1, o2, o3, o4, o5⟩ := hlo
  intro k
  induction k with
  | zero =>
    intro i h tk c acc as hk hi st e1 e2 keep hS hacc hal G hlt
    refine codeAny_builtin PySem.F.entry_extend_loop ?_
    rw [Around.under_plainId PySem.F.plain_extend_loop _]
    show wpAny _ A.in1 (pyNext (.ref z) >>= _) _ _ _
    refine wpAny_bind (next_end (s := { s with heap := h, toks := tk }) (A := A.in1) hh D st e1 e2 (by simp; omega) fun h' kp => ?_)
    obtain ⟨n1, n2, n3, n4, n5⟩ := nS
    refine wpAny_pure (hR h' tk acc c as (fun b o c1 c2 c3 c4 c5 e => kp b o c2 c3 c4 c5 (keep b o c1 c2 c3 c4 c5 e)) (kp S _ n1.symm n3.symm n4.symm n5.symm hS) (by omega) ⟨G.rise, G.above, fun j a hj => ?_⟩ hacc)
    obtain ⟨x, y, q1, q2, q3⟩ := G.pairs j a hj
    have la := G.above a (List.mem_of_getElem? hj)
    exact ⟨x, y, q1, q2, kp a _ (Nat.ne_of_gt (Nat.lt_of_le_of_lt o1 la)) (Nat.ne_of_gt (Nat.lt_of_le_of_lt o2 la)) (Nat.ne_of_gt (Nat.lt_of_le_of_lt o3 la)) (Nat.ne_of_gt (Nat.lt_of_le_of_lt o4 la)) q3⟩
  | succ k ih =>
    intro i h tk c acc as hk hi st e1 e2 keep hS hacc hal G hlt
    have ilt : i < xs.size := by omega
    have ilt2 : i < ys.size := by omega
    have asz : acc.size = i := by rw [← Array.length_toList, hacc, List.length_map, hal]
    have hSl : S < h.objs.size := Heap.lt_size hS
    refine codeAny_builtin PySem.F.entry_extend_loop ?_
    rw [Around.under_plainId PySem.F.plain_extend_loop _]
    show wpAny _ A.in1 (pyNext (.ref z) >>= _) _ _ _
    refine wpAny_bind (next_item (s := { s with heap := h, toks := tk }) D st hSl e1 e2 (x := xs[i]) (y := ys[i]) (by simp [ilt]) (by simp [ilt2]) fun h' st' pr kp => ?_)
    dsimp only at pr kp ⊢
    obtain ⟨n1, n2, n3, n4, n5⟩ := id nS
    have hS' := kp S _ n1.symm n3.symm n4.symm n5.symm hS
    have up : ∀ b o, b ≠ S → h'.get? b = some o → (h'.update S (Obj.mapSeq (·.push (Value.ref h.objs.size)))).get? b = some o := fun b o hb e => (Heap.get?_update_other _ _ (Ne.symm hb)).trans e
    have tup : ∀ {l : Addr} {vs : Array Value}, l ≠ S → l ≠ z → l ≠ TO → l ≠ i1 → l ≠ i2 → h.IsTuple l vs → (h'.update S (Obj.mapSeq (·.push (Value.ref h.objs.size)))).IsTuple l vs := fun {l vs} d1 d2 d3 d4 d5 q => q.at fun o e => up l o d1 (kp l o d2 d3 d4 d5 e)
    show wpAny _ A.in1 (updateSeq S (·.push (Value.ref h.objs.size)) >>= _) _ _ _
    refine wpAny_bind ?_
    refine wpAny_updateSeq hS' rfl (wpAny_pure ⟨plainId_quiet PySem.F.plain_extend_loop _, ih (i + 1) _ tk _ (acc.push (Value.ref h.objs.size)) (as ++ [h.objs.size]) (by omega) ilt (st'.at nS up)
      (tup nl.1 D.l1z nl.2.2.1 D.l1i1 D.l1i2 e1) (tup nl.2.1 D.l2z nl.2.2.2 D.l2i1 D.l2i2 e2) (fun b o c1 c2 c3 c4 c5 e => up b o c1 (kp b o c2 c3 c4 c5 (keep b o c1 c2 c3 c4 c5 e))) (Heap.get?_update_self _ hS' rfl)
      (by rw [Array.toList_push, hacc, List.map_append]; rfl) (by rw [List.length_append, hal]; rfl) ⟨?_, ?_, ?_⟩ ?_⟩) (by rw [asz]; omega) (by show (acc.push (Value.ref h.objs.size)).size ≤ sizeLine + 1; rw [Array.size_push, asz]; omega)
    · refine List.pairwise_append.mpr ⟨G.rise, List.pairwise_singleton _ _, fun a ha b hb => ?_⟩
      rw [List.mem_singleton.mp hb]
      exact G.there ha
    · intro a ha
      rcases List.mem_append.mp ha with ha | ha
      · exact G.above a ha
      · rw [List.mem_singleton.mp ha]
        exact hlt
    · intro j b hj
      rcases Nat.lt_trichotomy j as.length with h1 | h1 | h1
      · rw [List.getElem?_append_left h1] at hj
        obtain ⟨x, y, q1, q2, q3⟩ := G.pairs j b hj
        have lb := G.above b (List.mem_of_getElem? hj)
        exact ⟨x, y, q1, q2, up b _ (Nat.ne_of_gt (Nat.lt_of_le_of_lt o5 lb)) (kp b _ (Nat.ne_of_gt (Nat.lt_of_le_of_lt o1 lb)) (Nat.ne_of_gt (Nat.lt_of_le_of_lt o2 lb)) (Nat.ne_of_gt (Nat.lt_of_le_of_lt o3 lb)) (Nat.ne_of_gt (Nat.lt_of_le_of_lt o4 lb)) q3)⟩
      · subst h1
        obtain rfl : h.objs.size = b := by simpa using hj
        exact ⟨xs[as.length]'(by omega), ys[as.length]'(by omega), by simp, by simp, up _ _ (Nat.ne_of_gt hSl) (by simpa [hal] using pr)⟩
      · have hnone : (as ++ [h.objs.size])[j]? = none := List.getElem?_eq_none (by rw [List.length_append, List.length_singleton]; omega)
        rw [hnone] at hj
        cases hj
    · have e : (h'.update S (Obj.mapSeq (·.push (Value.ref h.objs.size)))).get? h.objs.size = _ := up _ _ (Nat.ne_of_gt hSl) pr
      exact Nat.lt_trans hlt (Heap.lt_size e)
end

/-! ### list(z) -/
theorem nz1 {a N S : Nat} (h : a < N) (q : N + 5 ≤ S) : a ≠ S := by omega
theorem nz2 {a N : Nat} (k : Nat) (h : a < N) : a ≠ N + k := by omega
theorem nz3 {b N : Nat} (k : Nat) (hk : k < 5) (h : b < N ∨ N + 5 ≤ b) : b ≠ N + k := by omega
theorem nz4 {b N S : Nat} (h : b < N + 5) (q : N + 5 ≤ S) : b ≠ S := by omega
theorem no_len : typeLookup (.type "zip") "__len__" = pure none := am_miss_of_fast (by decide +kernel)
theorem no_hint : typeLookup (.type "zip") "__length_hint__" = pure none := am_miss_of_fast (by decide +kernel)
section
variable {prog : Program} {w : World} {A : Around} {E : Value → Shared → Prop} {s : Shared} {z TI TO i1 i2 l1 l2 : Addr} {xs ys : Array Value}
theorem hint {Q : Bool → Shared → Prop} (hT : s.TypeIs (.ref z) "zip") (h : Q true s) : wpAny (model prog w) A (Builtin.List.listLengthHint (.ref z)) Q E s := by
  unfold Builtin.List.listLengthHint
  refine wpAny_bind (wpAny_specialOf hT no_len ?_)
  show wpAny _ _ (specialOf (.ref z) "__length_hint__" >>= _) _ _ _
  exact wpAny_bind (wpAny_specialOf hT no_hint (wpAny_pure h))
/-- what stands ahead of list(z): the zip is new, its parts lie just below it -/
structure Fresh (h : Heap) (N : Nat) (l1 l2 : Addr) (xs ys : Array Value) : Prop where
  z : IsZip h (N + 4) (N + 2) (N + 3) .none
  ti : IsPair h (N + 2) (.ref N) (.ref (N + 1))
  to : ∃ a b, IsPair h (N + 3) a b
  a1 : h.IsTupleIter N l1 0
  a2 : h.IsTupleIter (N + 1) l2 0
  b1 : h.IsTuple l1 xs
  b2 : h.IsTuple l2 ys
  sz : N + 5 ≤ h.objs.size
  lt : l1 < N ∧ l2 < N
  eq : xs.size = ys.size
  le : xs.size ≤ sizeLine
theorem Fresh.keeps {h h' : Heap} {N : Nat} (F : Fresh h N l1 l2 xs ys) (k : ∀ b o, b < N + 5 → h.get? b = some o → h'.get? b = some o) (sz : N + 5 ≤ h'.objs.size) : Fresh h' N l1 l2 xs ys := by
  obtain ⟨a, b, q⟩ := F.to
  have e : ∀ {b : Addr} {o : Obj}, b < N + 5 → h.get? b = some o → h'.get? b = some o := fun {b o} c d => k b o c d
  obtain ⟨m1, m2⟩ := F.lt
  exact ⟨e (Nat.lt_succ_self (N + 4)) F.z, e (show (N + 2 : Nat) < N + 5 by omega) F.ti, ⟨a, b, e (show (N + 3 : Nat) < N + 5 by omega) q⟩, F.a1.at fun o y => e (show (N : Nat) < N + 5 by omega) y, F.a2.at fun o y => e (show (N + 1 : Nat) < N + 5 by omega) y,
    F.b1.at fun o y => e (show l1 < N + 5 from Nat.lt_of_lt_of_le m1 (by omega)) y, F.b2.at fun o y => e (show l2 < N + 5 from Nat.lt_of_lt_of_le m2 (by omega)) y, sz, F.lt, F.eq, F.le⟩
theorem Fresh.apart {h : Heap} {N : Nat} (F : Fresh h N l1 l2 xs ys) : ZipApart (N + 4) (N + 2) (N + 3) N (N + 1) l1 l2 := PySem.W.ktu_apart N l1 l2 F.lt.1 F.lt.2
theorem extend {R : Result → Shared → Prop} {N : Nat} {S : Addr} (hh : A.handled = none) (F : Fresh s.heap N l1 l2 xs ys) (hS0 : N + 5 ≤ S) (res : Value) (c₀ : Nat) (hS : s.heap.get? S = some { cls := .type "list", data := .seq #[] c₀ })
    (hR : ∀ h' tk acc c as, (∀ b o, b ≠ S → b < N ∨ N + 5 ≤ b → s.heap.get? b = some o → h'.get? b = some o) → h'.get? S = some { cls := .type "list", dict := none, data := .seq acc c, slots := #[] } → as.length = xs.size → Got xs ys S h' as →
      acc.toList = as.map Value.ref → R (.ok (.ret res)) { s with heap := h', toks := tk }) :
    wpAny (model prog w) A.in1 (Builtin.List.listExtendWith (.ref S) (.ref (N + 4)) res)
      (fun fin s' => match fin with | .done f => R (.ok f) s' | .again c' => c'.quiet = true ∧ codeAny (model prog w) A c' R s') (fun e s' => R (.error e) s') s := by
  have hSl : S < s.heap.objs.size := Heap.lt_size hS
  have ty : ∀ {h : Heap} {g d t os}, IsZip h (N + 4) (N + 2) (N + 3) .none → (⟨h, g, d, t, os⟩ : Shared).TypeIs (.ref (N + 4)) "zip" := fun q => ⟨_, q, rfl⟩
  have nS : ((N + 4 : Nat) : Addr) ≠ S ∧ ((N + 2 : Nat) : Addr) ≠ S ∧ ((N + 3 : Nat) : Addr) ≠ S ∧ (N : Addr) ≠ S ∧ ((N + 1 : Nat) : Addr) ≠ S := by
    have q : N + 5 ≤ S := hS0
    refine ⟨?_, ?_, ?_, ?_, ?_⟩ <;> (show (_ : Nat) ≠ S; omega)
  have m1 : l1 < N := F.lt.1
  have m2 : l2 < N := F.lt.2
  have nl : l1 ≠ S ∧ l2 ≠ S ∧ l1 ≠ ((N + 3 : Nat) : Addr) ∧ l2 ≠ ((N + 3 : Nat) : Addr) := ⟨nz1 m1 hS0, nz1 m2 hS0, nz2 3 m1, nz2 3 m2⟩
  have lo : ((N + 4 : Nat) : Addr) ≤ S ∧ ((N + 3 : Nat) : Addr) ≤ S ∧ (N : Addr) ≤ S ∧ ((N + 1 : Nat) : Addr) ≤ S ∧ S ≤ S := by
    have q : N + 5 ≤ S := hS0
    refine ⟨?_, ?_, ?_, ?_, Nat.le_refl _⟩ <;> (show (_ : Nat) ≤ S; omega)
  have key : ∀ (h : Heap) (c₁ tk : Nat), (∀ b o, b ≠ S → s.heap.get? b = some o → h.get? b = some o) → S < h.objs.size →
      h.get? S = some { cls := .type "list", data := .seq #[] c₁ } → codeAny (model prog w) A (.builtin "list.extend.loop" ⟨[.ref S, .ref (N + 4), res], []⟩) R { s with heap := h, toks := tk } := by
    intro h c₁ tk hk hs1 hS₁
    obtain ⟨a, b, to⟩ := F.to
    refine loop (s := s) (g0 := s.heap) (lo := S) hh F.apart nS nl F.eq F.le res lo (fun h' tk' acc c as kp hS' hl G hacc => hR h' tk' acc c as (fun b o hb hr e => ?_) hS' hl G hacc) xs.size 0 h tk c₁ #[] [] (Nat.sub_zero _) (Nat.zero_le _)
      (St.at (h := s.heap) ⟨F.ti, F.a1, F.a2, .inl ⟨F.z, a, b, to⟩⟩ nS hk) (F.b1.at fun o e => hk l1 o nl.1 e) (F.b2.at fun o e => hk l2 o nl.2.1 e) (fun b o hb _ _ _ _ e => hk b o hb e) hS₁ rfl rfl
      ⟨List.Pairwise.nil, (fun _ ha => nomatch ha), (fun j a hj => by simp at hj)⟩ hs1
    exact kp b o hb (nz3 4 (by decide) hr) (nz3 3 (by decide) hr) (nz3 0 (by decide) hr) (nz3 1 (by decide) hr) e
  unfold Builtin.List.listExtendWith
  refine wpAny_bind (wpAny_typeOf (T := "zip") ⟨_, F.z, rfl⟩ ?_)
  have h1 : Builtin.List.listSameRef (.ref S) (.ref (N + 4)) = false := by
    have q : S ≠ ((N + 4 : Nat) : Addr) := nS.1.symm
    simp [Builtin.List.listSameRef]
    exact q
  have h2 : (Value.type "zip" == Value.type "list") = false := by decide
  have h3 : (Value.type "zip" == Value.type "tuple") = false := by decide
  simp only [h1, h2, h3, Bool.or_false, Bool.false_eq_true, if_false]
  refine wpAny_bind (wpAny_pyIter_zip F.z ?_)
  refine wpAny_bind (wpAny_holding (hint ⟨_, F.z, rfl⟩ ?_))
  refine wpAny_ite_split (fun _ => ?_) (fun hab => absurd rfl hab)
  refine wpAny_bind (wpAny_rule (wpAny_bind ?_))
  show wpAny _ _ (updateSeq S (·.push .none) >>= fun _ => updateSeq S (·.pop)) _ _ _
  refine wpAny_bind (wpAny_updateSeq hS rfl ?_)
  have hS₂ := Heap.get?_update_self (Obj.mapSeq (·.push Value.none)) hS rfl
  refine wpAny_updateSeq (hz := by seq_fits) hS₂ rfl ?_
  have hS₃ := Heap.get?_update_self (Obj.mapSeq (·.pop)) hS₂ rfl
  refine wpAny_pure ⟨plainId_quiet PySem.F.plain_extend_loop _, key _ _ _ (fun b o hb e => ?_) ?_ hS₃⟩
  · exact (Heap.get?_update_other _ _ (Ne.symm hb)).trans ((Heap.get?_update_other _ _ (Ne.symm hb)).trans e)
  · exact Heap.lt_size hS₃
theorem call_list_zip {Q : Value → Shared → Prop} {N : Nat} (hh : A.handled = none) (F : Fresh s.heap N l1 l2 xs ys)
    (hQ : ∀ h' tk acc c as, (∀ b o, b < N ∨ N + 5 ≤ b → s.heap.get? b = some o → h'.get? b = some o) → h'.get? s.heap.objs.size = some { cls := .type "list", dict := none, data := .seq acc c, slots := #[] } → as.length = xs.size → Got xs ys s.heap.objs.size h' as →
      acc.toList = as.map Value.ref → Q (.ref s.heap.objs.size) { s with heap := h', toks := tk }) :
    wpAny (model prog w) A (call (.type "list") [.ref (N + 4)]) Q E s := by
  refine callType_codes (Q₁ := fun obj s₁ => obj = .ref s.heap.objs.size ∧ s₁ = { s with heap := s.heap.push { cls := .type "list", data := .seq #[] } }) PySem.F.called_list (PySem.F.typeCall_list_1 _) PySem.F.entry_list_init
    (code_list_new _ ⟨rfl, rfl⟩) fun obj s₁ h₁ => ?_
  obtain ⟨rfl, rfl⟩ := h₁
  have hS : (s.heap.push { cls := .type "list", data := .seq #[] }).get? s.heap.objs.size = some { cls := .type "list", data := .seq #[] } := Heap.get?_push_size _ rfl
  have big : N + 5 ≤ s.heap.objs.size := F.sz
  have F1 : Fresh (s.heap.push { cls := .type "list", data := .seq #[] }) N l1 l2 xs ys := F.keeps (fun b o _ e => Heap.get?_push_of_some _ e) (by rw [Heap.size_push]; omega)
  refine ⟨⟨_, hS, rfl⟩, PySem.F.args_list_init_2 _ _, ?_⟩
  show wpAny _ _ (do let old ← Builtin.List.listItems (.ref s.heap.objs.size); Builtin.List.listUpdate (.ref s.heap.objs.size) (fun _ => #[]); letGo old.toList.reverse; Builtin.List.listExtendWith (.ref s.heap.objs.size) (.ref (N + 4)) .none) _ _ _
  refine wpAny_bind ?_
  unfold Builtin.List.listItems
  refine wpAny_bind (wpAny_seqItems hS rfl (wpAny_pure ?_))
  show wpAny _ _ (updateSeq s.heap.objs.size (fun _ => #[]) >>= fun _ => letGo (#[] : Array Value).toList.reverse >>= fun _ => Builtin.List.listExtendWith (.ref s.heap.objs.size) (.ref (N + 4)) .none) _ _ _
  refine wpAny_bind (wpAny_updateSeq hS rfl ?_)
  have hS₂ := Heap.get?_update_self (Obj.mapSeq (fun _ => (#[] : Array Value))) hS rfl
  have oth : ∀ b o, b ≠ s.heap.objs.size → (s.heap.push { cls := .type "list", data := .seq #[] }).get? b = some o → ((s.heap.push { cls := .type "list", data := .seq #[] }).update s.heap.objs.size (Obj.mapSeq (fun _ => (#[] : Array Value)))).get? b = some o :=
    fun b o hb e => (Heap.get?_update_other _ _ (Ne.symm hb)).trans e
  refine wpAny_bind (wpAny_letGo ?_)
  refine extend (A := A.in1) (N := N) (S := s.heap.objs.size) hh (F1.keeps (fun b o hb e => oth b o ?_ e) ?_) big .none _ hS₂ fun h' tk acc c as hk hS' hl G hacc => ⟨rfl, hQ h' tk acc c as (fun b o hb e => ?_) hS' hl G hacc⟩
  · exact nz4 hb big
  · exact Nat.le_trans big (Nat.le_of_lt (Heap.lt_size hS₂))
  · have nb : b ≠ s.heap.objs.size := Nat.ne_of_lt (Heap.lt_size e)
    exact hk b o nb hb (oth b o nb (Heap.get?_push_of_some _ e))
end
end MsZ
set_option Elab.async false
set_option linter.all false
set_option maxRecDepth 100000
set_option maxHeartbeats 4000000
/-! Ms: list(zip(s, t)) of two tuples. -/
namespace Ms
open PySem PySem.Spec PyProof.Rows L2
/-- pairs tracked at their addresses -/
def putP : Hp → List Addr → List (V × V) → Hp
  | H, a :: as, p :: ps => putP (upd H a (.tup [p.1, p.2])) as ps
  | H, _, _ => H
theorem putP_off {b : Addr} : ∀ (as : List Addr) (ps : List (V × V)) (H : Hp), b ∉ as → putP H as ps b = H b
  | [], _, _, _ => rfl
  | _ :: _, [], _, _ => rfl
  | a :: as, p :: ps, H, h => by
    show putP (upd H a (.tup [p.1, p.2])) as ps b = H b
    rw [putP_off as ps _ (fun z => h (List.mem_cons_of_mem _ z)), upd_ne (fun z => h (by rw [z]; exact List.mem_cons_self))]
theorem putP_at : ∀ (as : List Addr) (ps : List (V × V)) (H : Hp), as.length = ps.length → as.Nodup → Paired (fun (t : Addr) (p : V × V) => putP H as ps t = some (.tup [p.1, p.2])) as ps
  | [], [], _, _, _ => .nil
  | [], _ :: _, _, h, _ => by cases h
  | _ :: _, [], _, h, _ => by cases h
  | a :: as, p :: ps, H, h, hn => by
    have hn' := List.nodup_cons.mp hn
    refine .cons ?_ (putP_at as ps (upd H a (.tup [p.1, p.2])) (Nat.succ.inj h) hn'.2)
    show putP (upd H a (.tup [p.1, p.2])) as ps a = some (.tup [p.1, p.2])
    rw [putP_off as ps _ hn'.1, upd_same]
/-- what a list of new pairs asks -/
def NewPairs (H : Hp) (ps : List (V × V)) (Q : VK) : Prop := ∀ (H' : Hp) (p : Addr) (ts : List Addr), (∀ b o, H b = some o → H' b = some o) → H p = none → (∀ t ∈ ts, H t = none) → p ∉ ts → H' p = some (.lst (ts.map V.ref)) →
  Paired (fun (t : Addr) (q : V × V) => H' t = some (.tup [q.1, q.2])) ts ps → Q (.ref p) H'
def tLZip (K : PySem.W.Frag) (ta : TA) : TE := fun σ H Q => ta σ H fun vs H1 => ∃ (a b : Addr) (xs ys : List V), vs = [.ref a, .ref b] ∧ SqT K H1 a xs ∧ SqT K H1 b ys ∧ xs.length = ys.length ∧ NewPairs H1 (xs.zip ys) Q
section
variable {X : Cx}
theorem zip_laid {pins : List (Addr × Obj)} {σ : St} {H : Hp} {s s0 : Shared} {h' : Heap} {tk : Nat} {xs ys : List V} {us vs : List Value} {acc : Array Value} {c : Nat} {as : List Addr} (I : Inv X pins σ H s0) (hle : s0.heap.objs.size ≤ s.heap.objs.size) (es : { s with heap := h', toks := tk } = { s0 with heap := h', toks := tk }) (hz : xs.length ≤ sizeLine) (rx : Vals xs us) (ry : Vals ys vs) (hxy : xs.length = ys.length)
    (hk : ∀ b o, s0.heap.get? b = some o → h'.get? b = some o) (hS : h'.get? s.heap.objs.size = some { cls := .type "list", dict := none, data := .seq acc c, slots := #[] }) (hl : as.length = us.length) (hG : MsZ.Got us.toArray vs.toArray s.heap.objs.size h' as) (hacc : acc.toList = as.map Value.ref) :
    ∃ H' : Hp, (∀ b o, H b = some o → H' b = some o) ∧ H s.heap.objs.size = none ∧ (∀ t ∈ as, H t = none) ∧ s.heap.objs.size ∉ as ∧ H' s.heap.objs.size = some (.lst (as.map V.ref)) ∧ Paired (fun (t : Addr) (q : V × V) => H' t = some (.tup [q.1, q.2])) as (xs.zip ys) ∧ Inv X pins σ H' { s with heap := h', toks := tk } := by
  have lx := rx.length
  have ly := ry.length
  have hSn : s.heap.objs.size ∉ as := fun z => Nat.lt_irrefl _ (hG.above _ z)
  have nd : as.Nodup := List.Pairwise.imp (fun {a b} (h : a < b) => Nat.ne_of_lt h) hG.rise
  have new : ∀ t ∈ as, H t = none := fun t ht => I.hok.fresh (Nat.le_trans hle (Nat.le_of_lt (hG.above t ht)))
  have newS : H s.heap.objs.size = none := I.hok.fresh hle
  have lz : as.length = (xs.zip ys).length := by rw [List.length_zip]; omega
  have atP := putP_at as (xs.zip ys) (upd H s.heap.objs.size (.lst (as.map V.ref))) lz nd
  have off : ∀ b, b ∉ as → b ≠ s.heap.objs.size → putP (upd H s.heap.objs.size (.lst (as.map V.ref))) as (xs.zip ys) b = H b := fun b h1 h2 => by rw [putP_off as _ _ h1, upd_ne h2]
  have low : ∀ b o, s0.heap.get? b = some o → b ∉ as ∧ b ≠ s.heap.objs.size := fun b o e => ⟨fun z => absurd (Heap.lt_size e) (Nat.not_lt.mpr (Nat.le_trans hle (Nat.le_of_lt (hG.above b z)))), Nat.ne_of_lt (Nat.lt_of_lt_of_le (Heap.lt_size e) hle)⟩
  have kp : ∀ b u, H b = some u → (putP (upd H s.heap.objs.size (.lst (as.map V.ref))) as (xs.zip ys)) b = some u := fun b u e => by
    rw [off b (fun z => by rw [new b z] at e; cases e) (fun z => by rw [z, newS] at e; cases e)]
    exact e
  have eS : putP (upd H s.heap.objs.size (.lst (as.map V.ref))) as (xs.zip ys) s.heap.objs.size = some (.lst (as.map V.ref)) := by rw [putP_off as _ _ hSn, upd_same]
  refine ⟨putP (upd H s.heap.objs.size (.lst (as.map V.ref))) as (xs.zip ys), kp, newS, new, hSn, eS, atP, ?_⟩
  rw [es]
  refine I.call' (ch := []) rfl ⟨fun b o q _ _ _ => hk b o q, fun b o q _ _ _ => ⟨o.slots, hk b o q⟩, fun b o q n _ => ?_, fun b o q _ => ⟨o, hk b o q⟩, fun b xs q => kp b _ q, fun b o u q => kp b _ q, fun b ps q => ⟨#[], by rw [kp b _ q]; simp⟩⟩ (fun b u q => ?_) I.bare fun b z => by simp at z
  · obtain ⟨z1, z2⟩ := low b o q
    rw [off b z1 z2]
    exact n
  · by_cases hb : b ∈ as
    · obtain ⟨j, pk, e1, e2, e3⟩ := LiI.paired_ix atP hb
      rw [e3] at q
      cases q
      obtain ⟨x, y, f1, f2, f3⟩ := hG.pairs j b e1
      obtain ⟨g1, g2⟩ := List.getElem?_zip_eq_some.mp e2
      obtain ⟨u, k1, k2⟩ := LiI.paired_get rx g1
      obtain ⟨v, k3, k4⟩ := LiI.paired_get ry g2
      rw [List.getElem?_toArray] at f1 f2
      rw [f1] at k1
      rw [f2] at k3
      cases k1
      cases k3
      exact ⟨by show 2 ≤ sizeLine; decide, [x, y], .cons k2 (.cons k4 .nil), ⟨_, f3, rfl, _, rfl⟩⟩
    · by_cases hb2 : b = s.heap.objs.size
      · rw [hb2] at q ⊢
        rw [eS] at q
        cases q
        refine ⟨by rw [List.length_map]; omega, acc.toList, c, by rw [hacc]; exact LiI.vals_refs as, ?_⟩
        rw [Array.toArray_toList]
        exact hS
      · rw [off b hb hb2] at q
        exact (I.hok b u q).stay (fun d v _ y => hk d v y) (fun d y => kp d _ y) fun d xs y => kp d _ y
/-- list(zip(a, b)), both tuples of one length -/
theorem pe_lzip {e e2 : Expr} {ta : TA} {p p2 pos pos2 : Pos} (hg2 : Gl X "zip") (hm2 : X.mg "zip" = none) (hg : Gl X "list") (hm : X.mg "list" = none) (hv : bootBuiltins "list" = some (.type "list")) (ha : PA X [e, e2] ta) (hc : X.calm = true := by rfl)
    (hs2 : starEach [e, e2] X.env = (false, eval e X.env) :: starEach [e2] X.env := by rfl) (hpl2 : (backTo pos2 (starEach [e2] X.env)).any (·.1) = false := by rfl)
    (hs : starEach [.Call (.Name "zip" p2) [e, e2] [] pos2] X.env = (false, eval (.Call (.Name "zip" p2) [e, e2] [] pos2) X.env) :: starEach [] X.env := by rfl) :
    PE X (.Call (.Name "list" p) [.Call (.Name "zip" p2) [e, e2] [] pos2] [] pos) (tLZip X.K ta) := by
  refine ⟨fun pins s σ H Q I h => ?_⟩
  refine wpAny_Call_Name_kw (ld_blt I hg hm hv ?_)
  refine PyProof.Rows.callWith_type1 ?_ hs rfl
  rw [hs]
  show wpAny _ _ (spliced ((false, eval (.Call (.Name "zip" p2) [e, e2] [] pos2) X.env) :: backTo pos (starEach [] X.env))) _ _ s
  refine Calls.spliced_cons ?_
  refine Call_ (ld_blt I hg2 hm2 PyProof.Rows.boot_zip (PyProof.Rows.callWith_type1 (thn (ha.run pos2 pins s σ H _ I h) fun us s1 ⟨vs, H1, I1, r1, q1⟩ => ?_) hs2 hpl2))
  obtain ⟨a, b, xs, ys, ex, hqx, hqy, hl, q⟩ := q1
  subst ex
  obtain ⟨u1, u2, rfl, r, r'⟩ := vals2 r1
  cases r
  cases r'
  obtain ⟨its, rv, p1, hz⟩ := I1.tuple hqx
  obtain ⟨its2, rv2, p2', _⟩ := I1.tuple hqy
  have t1 : s1.heap.IsTuple a its.toArray := p1
  have t2 : s1.heap.IsTuple b its2.toArray := p2'
  obtain ⟨o1, ho1, _⟩ := id p1
  obtain ⟨o2, ho2, _⟩ := id p2'
  have lx := rv.length
  have ly := rv2.length
  refine RZ.call_zipT t1 t2 fun h' hz' hTI hTO h1 h2 hsz hk => ?_
  refine Calls.spliced_nil ?_
  have F : MsZ.Fresh h' s1.heap.objs.size a b its.toArray its2.toArray := ⟨hz', hTI, ⟨_, _, hTO⟩, h1, h2, t1.at fun o x => hk a o x, t2.at fun o x => hk b o x, Nat.le_of_eq hsz.symm, ⟨Heap.lt_size ho1, Heap.lt_size ho2⟩,
    by simp only [List.size_toArray]; omega, by simp only [List.size_toArray]; omega⟩
  refine MsZ.call_list_zip (s := { s1 with heap := h' }) (I.ok.hd hc) F fun h3 tk acc c as hk3 hS hl3 hG hacc => ?_
  obtain ⟨H', k1, k2, k3, k4, k5, k6, J⟩ := zip_laid (s := { s1 with heap := h' }) (s0 := s1) (tk := tk) I1 (by show s1.heap.objs.size ≤ h'.objs.size; omega) rfl hz rv rv2 hl (fun b o z => hk3 b o (.inl (Heap.lt_size z)) (hk b o z)) hS (by simpa using hl3) hG hacc
  exact ⟨.ref _, H', J, rfl, q H' _ as k1 k2 k3 k4 k5 k6⟩
end
end Ms
set_option Elab.async false
set_option linter.all false
set_option maxRecDepth 100000
set_option maxHeartbeats 4000000
/-! Ms: enumerate over a tuple. -/
namespace MsE
open PySem
open PySem.Sem (wp)
open AutoSeq1 (wpAny_loadPart')
theorem meets_new (l : Addr) (items : Array Value) (n : Nat) (dct : Option Addr) (sl : Array (Option Value)) :
    Meets (Builtin.«enumerate.__new__» ⟨[.type "enumerate", .ref l], []⟩) (fun _ R s => s.heap.get? l = some { cls := .type "tuple", dict := dct, data := .seq items n, slots := sl } ∧
      R (.ok (.ret (.ref (s.heap.push { cls := .type "tuple_iterator", data := .fields #[.ref l, .int 0 0] }).objs.size)))
        { s with heap := (s.heap.push { cls := .type "tuple_iterator", data := .fields #[.ref l, .int 0 0] }).push { cls := .type "enumerate", data := .fields #[.none, .bool false, .ref s.heap.objs.size, rawInt 0, .none, .none] } }) :=
  .of_wp fun prog w A R s h => by
    obtain ⟨hp, g, d, tk, os⟩ := s
    obtain ⟨hl, h⟩ := h
    have sub := sub_enumerate
    have t : Heap.IsTuple (Shared.heap ⟨hp, g, d, tk, os⟩) l items := ⟨_, hl, rfl, n, rfl⟩
    wp_walk using wpAny_loadPart' hl
    refine wpAny_stack_any fun st => wpAny_pure ?_
    split
    · rename_i c _ _ _ _ _
      cases (c == Value.type "enumerate")
      · wp_walk using wpAny_loadPart' hl, wpAny_pyIter_tuple t
        exact ⟨_, rfl, h⟩
      · wp_walk using wpAny_loadPart' hl, wpAny_pyIter_tuple t
        exact ⟨_, rfl, h⟩
    · wp_walk using wpAny_loadPart' hl, wpAny_pyIter_tuple t
      exact ⟨_, rfl, h⟩
section
variable {prog : Program} {w : World} {A : Around} {E : Value → Shared → Prop} {s : Shared}
theorem call_enum {l : Addr} {items : Array Value} {Q : Value → Shared → Prop} (hL : s.heap.IsTuple l items)
    (h : ∀ h', IsEnum h' (s.heap.objs.size + 1) s.heap.objs.size 0 .none → h'.IsTupleIter s.heap.objs.size l 0 → (∀ b o, s.heap.get? b = some o → h'.get? b = some o) → Q (.ref (s.heap.objs.size + 1)) { s with heap := h' }) :
    wpAny (model prog w) A (call (.type "enumerate") [.ref l]) Q E s := by
  obtain ⟨⟨c, dct, dt, sl⟩, hl, hc, n, hd⟩ := hL
  dsimp only at hc hd
  subst hc hd
  refine callType_new F.called_enumerate (by decide) (F.typeCall_enumerate_1 _) (F.newCall_enumerate_1 _) (fun obj => F.args_object_init_2 obj _) F.entry_enumerate_new (meets_new l items n dct sl) ⟨hl, ?_⟩
  have hz : (s.heap.push { cls := .type "tuple_iterator", data := .fields #[.ref l, .int 0 0] }).objs.size = s.heap.objs.size + 1 := Heap.size_push ..
  have he := Heap.get?_push_size (s.heap.push { cls := .type "tuple_iterator", data := .fields #[.ref l, .int 0 0] }) (o := { cls := .type "enumerate", data := .fields #[.none, .bool false, .ref s.heap.objs.size, rawInt 0, .none, .none] }) rfl
  rw [hz] at he
  show _ ∧ _
  rw [hz]
  exact ⟨⟨_, he, rfl⟩, h _ he ⟨_, Heap.get?_push_of_some _ (Heap.get?_push_size _ rfl), rfl, rfl⟩ fun b o x => Heap.get?_push_of_some _ (Heap.get?_push_of_some _ x)⟩
end
end MsE
namespace Ms
open PySem PySem.Spec PyProof.Rows L2
/-- enumerate(t): the tuple's items, each with its place in a new pair -/
def ItE (K : PySem.W.Frag) (a : Addr) : It :=
  ⟨fun i H => ∃ (xs : List V) (x : V), SqT K H a xs ∧ xs[i]? = some x, fun i H v H' => ∃ T x, v = .ref T ∧ H T = none ∧ H' = upd H T (.tup [.int (i : Nat), x]) ∧ ∀ xs, SqT K H a xs → xs[i]? = some x, fun i H => ∃ xs : List V, SqT K H a xs ∧ xs.length = i⟩
theorem turn_enumT {P : Program} {w : World} {K : PySem.W.Frag} {elts : List Expr} {kk : Nat} {tpos : Pos} (a e it : Addr) (hae : a ≠ e) (hai : a ≠ it) (hei : e ≠ it) :
    Turn P w K (.Tuple elts kk tpos) (ItE K a) [e, it] e (fun i h => (∃ old, IsEnum h e it ((i : Nat) : Int) old) ∧ h.IsTupleIter it a i) where
  mem := by simp
  obj := fun i h st b hb => by
    obtain ⟨⟨old, he⟩, ⟨o, ho, hc, hd⟩⟩ := st
    rcases (by simpa using hb : b = e ∨ b = it) with z | z
    · rw [z]; exact ⟨_, he, fun v q => nomatch q⟩
    · rw [z]; exact ⟨o, ho, fun v q => by rw [hd] at q; cases q⟩
  keep := fun i h h' st k => let ⟨⟨old, he⟩, hi⟩ := st; ⟨⟨old, k e (by simp) _ he⟩, hi.at fun o q => k it (by simp) o q⟩
  item := by
    intro X hP hw hK hc i pins s σ H E I hf st hg
    subst hP hw hK
    obtain ⟨⟨old, he⟩, hit⟩ := st
    obtain ⟨xs, x, hq, hx⟩ := hg
    obtain ⟨its, rv, p, hz⟩ := I.tuple hq
    obtain ⟨u, hu, ru⟩ := rv.get hx
    have t : s.heap.IsTuple a its.toArray := p
    have D := Draws.tuple (prog := X.prog) (w := X.w) (A := X.A.in1) (I.ok.hd hc) it a hai its.toArray
    have ni : i < its.toArray.size := by
      have q := List.getElem?_eq_some_iff.mp hu
      simpa using q.1
    have hel : e < s.heap.objs.size := Heap.lt_size he
    have hil : it < s.heap.objs.size := by obtain ⟨_, q, _⟩ := hit; exact Heap.lt_size q
    refine wpAny_pyNext_enum_itemC D he ⟨hit, t⟩ ni hei (by simp; exact ⟨hei, hae.symm⟩) fun y h' tk hy ho st' hT hsz hk => ?_
    have ey : y = u := by
      rw [List.getElem?_toArray, hu] at hy
      exact (Option.some.inj hy).symm
    subst ey
    refine ⟨_, rfl, wpAny_letOwnedTupleGo_enum (s := { s with heap := h', toks := tk + 1 }) ho fun h'' he' sb => ?_⟩
    have hT2 : h''.get? s.heap.objs.size = some { cls := .type "tuple", data := .seq #[.int i tk, y] } := (sb.2 _ (Nat.ne_of_gt hel)).trans hT
    have new : ObjOk X.prog X.w (upd H s.heap.objs.size (.tup [.int (i : Nat), x])) h'' s.heap.objs.size (.tup [.int (i : Nat), x]) :=
      ⟨by show 2 ≤ sizeLine; decide, [.int i tk, y], .cons ⟨_, rfl⟩ (.cons ru .nil), ⟨_, hT2, rfl, _, rfl⟩⟩
    have I1 : Inv X pins σ (upd H s.heap.objs.size (.tup [.int (i : Nat), x])) { s with heap := h'', toks := tk + 1 } :=
      I.turnedNew (ch := [e, it]) (fun b ob hb q => (sb.2 b (fun z => hb (by simp [z]))).trans (hk b ob (fun z => hb (by simp [z])) (fun z => hb (by simp [z])) q)) hf (Nat.le_refl _) new
    refine ⟨.ref s.heap.objs.size, _, I1, rfl, ⟨_, x, rfl, I.hok.fresh (Nat.le_refl _), rfl, fun ys hy => by rw [I.tuple_inj hy hq]; exact hx⟩, ⟨⟨y, ?_⟩, st'.1.at fun o q => (sb.2 it (Ne.symm hei)).trans q⟩, fun b hb => ?_⟩
    · have e1 : ((i + 1 : Nat) : Int) = (i : Int) + 1 := by omega
      rw [e1]; exact he'
    · have hb' : b < s.heap.objs.size := by
        rcases (by simpa using hb : b = e ∨ b = it) with z | z
        · rw [z]; exact hel
        · rw [z]; exact hil
      rw [upd_ne (Nat.ne_of_lt hb')]
      exact (hf b hb).1
  done := by
    intro X hP hw hK hc i pins s σ H E I hf st hg
    subst hP hw hK
    obtain ⟨⟨old, he⟩, hit⟩ := st
    obtain ⟨xs, hq, hx⟩ := hg
    obtain ⟨its, rv, p, hz⟩ := I.tuple hq
    have hl := rv.length
    have t : s.heap.IsTuple a its.toArray := p
    have D := Draws.tuple (prog := X.prog) (w := X.w) (A := X.A.in1) (I.ok.hd hc) it a hai its.toArray
    have ni : its.toArray.size = i := by simp; omega
    obtain ⟨f0, f1, f2, f3, f4, f5⟩ := hf it (by simp)
    exact wpAny_pyNext_enum_endD D he (by rw [ni]; exact ⟨hit, t⟩) fun h' eb => ⟨rfl, I.turned (t' := s.toks) (fun b o hb q => eb b o hb q) f0 f1 f3 f4 f5⟩
  self := fun A i s Q E st h => let ⟨⟨_, he⟩, _⟩ := st; wpAny_pyIter_enum he h
def iEnumT (K : PySem.W.Frag) (ta : TA) : TI := fun σ H R => ta σ H fun vs H1 => ∃ a xs, vs = [.ref a] ∧ SqT K H1 a xs ∧ R (ItE K a) H1
theorem pi_enumT {X : Cx} {e : Expr} {ta : TA} {p pos tpos : Pos} {elts : List Expr} {kk : Nat} (hg : Gl X "enumerate") (hm : X.mg "enumerate" = none) (ha : PA X [e] ta) (hs : starEach [e] X.env = [(false, eval e X.env)] := by rfl) :
    PI X (.Tuple elts kk tpos) (.Call (.Name "enumerate" p) [e] [] pos) (iEnumT X.K ta) := by
  refine ⟨fun pins s σ H R I h => ?_⟩
  refine Call_ (ld_blt I hg hm boot_enumerate (PyProof.Rows.callWith_type1 (thn (ha.run pos pins s σ H _ I h) fun us s1 ⟨vs, H1, I1, r1, q1⟩ => ?_) hs rfl))
  obtain ⟨a, xs, ex, hq, q⟩ := q1
  subst ex
  cases r1 with
  | cons r rr =>
    cases rr
    cases r
    obtain ⟨its, rv, p', hz⟩ := I1.tuple hq
    obtain ⟨o1, ho1, _⟩ := id p'
    have la : a < s1.heap.objs.size := Heap.lt_size ho1
    refine MsE.call_enum (items := its.toArray) p' fun h' he hit hk => wpAny_pyIter_enum he ?_
    have I2 : Inv X pins σ H1 { s1 with heap := h' } := I1.kept (t' := s1.toks) hk
    refine ⟨s1.heap.objs.size + 1, [s1.heap.objs.size + 1, s1.heap.objs.size], _, _, H1, rfl, I2, turn_enumT a (s1.heap.objs.size + 1) s1.heap.objs.size (Nat.ne_of_lt (Nat.lt_succ_of_lt la)) (Nat.ne_of_lt la) (Nat.succ_ne_self _), ⟨⟨.none, he⟩, hit⟩, fun b hb => ?_, q⟩
    have hle : s1.heap.objs.size ≤ b := by
      rcases (by simpa using hb : b = s1.heap.objs.size + 1 ∨ b = s1.heap.objs.size) with z | z
      · rw [z]; exact Nat.le_add_right _ _
      · rw [z]; exact Nat.le_refl _
    exact I1.fpOk hle (I1.hok.fresh hle)
theorem walk_enumT {K : PySem.W.Frag} {a : Addr} {xs : List V} : Walk (ItE K a) xs.length (fun H => SqT K H a xs) (YPair (fun i => some (.int (i : Nat))) (fun i => xs[i]?)) := by
  refine ⟨fun i _ hi q => ⟨xs, xs[i], q, by simp [hi]⟩, fun _ q => ⟨xs, q, rfl⟩, fun i H v H' _ q y => ?_⟩
  obtain ⟨T, x, h1, h2, h3, h4⟩ := y
  exact ⟨T, .int (i : Nat), x, h1, h2, h3, rfl, h4 xs q⟩
end Ms
set_option Elab.async false
set_option linter.all false
set_option maxRecDepth 100000
set_option maxHeartbeats 4000000
/-! Ms: from a def of the text to its promise. -/
namespace Ms
open PySem PySem.Spec PyProof.Rows L2
/-- the i-th statement of a class's body -/
def mem (s : Stmt) (i : Nat) : Stmt := match s with
  | .ClassDef (body := b) .. => b.getD i (.Pass ⟨0, 0, 0, 0⟩)
  | _ => .Pass ⟨0, 0, 0, 0⟩
/-- the def st stands at f -/
abbrev DefAt (K : PySem.W.Frag) (x qual : Str) (st : Stmt) (f : Addr) : Prop := ∃ fd, FunD K x qual (defArgs st) (defBody st) (defScope st) [] [] f fd
/-- its parameters are bound in their order -/
abbrev BindsIn (x qual : Str) (st : Stmt) (ps : List Str) : Prop := ∀ (kV doc pm : Value) (an : Option Addr) (cdv ct : Value) (us : List Value), us.length = ps.length → bindArgs (PySem.W.fnOf x qual (defArgs st) (defBody st) (defScope st) .none kV doc pm an cdv ct) ⟨us, []⟩ = pure (ps.zip us)
section
variable {P : Program} {w : World} {K : PySem.W.Frag} {mg : Str → Option Value} {base : Heap} {x qual : Str} {st : Stmt} {N ps : List Str} {k : Nat} {sp : Sp} {f : Addr}
/-- the body's term and its reading, no exception leaves it -/
abbrev Goal (P : Program) (w : World) (K : PySem.W.Frag) (mg : Str → Option Value) (base : Heap) (qual : Str) (st : Stmt) (N : List Str) (f : Addr) (cdv : Value) (A : Around) (outer : List Env) (s : Shared) (H : Hp) (vs : List V) (Q : VK) (E : XK) : Prop :=
  ∃ t, PSs (cxOf (L2.CX P w) P w K mg base N qual (defScope st) f cdv A outer s H E).nox (defBody st) t ∧ t { nx := fun _ H' => Q .non H', rt := Q } (L2.start N vs) H
/-- .. an exception may leave it -/
abbrev GoalX (P : Program) (w : World) (K : PySem.W.Frag) (mg : Str → Option Value) (base : Heap) (qual : Str) (st : Stmt) (N : List Str) (f : Addr) (cdv : Value) (A : Around) (outer : List Env) (s : Shared) (H : Hp) (vs : List V) (Q : VK) (E : XK) : Prop :=
  ∃ t, PSs (cxOf (L2.CX P w) P w K mg base N qual (defScope st) f cdv A outer s H E) (defBody st) t ∧ t { nx := fun _ H' => Q .non H', rt := Q } (L2.start N vs) H
abbrev Rm (k : Nat) (qual : Str) (st : Stmt) (f : Addr) (cdv : Value) (A : Around) (s : Shared) : Prop := Room k (A.deeper (envOfC qual (defScope st) s.heap.objs.size f cdv))
abbrev Body (P : Program) (w : World) (K : PySem.W.Frag) (mg : Str → Option Value) (base : Heap) (qual : Str) (st : Stmt) (N : List Str) (k : Nat) (f : Addr) (sp : Sp) : Prop :=
  ∀ (cdv : Value) (A : Around) (outer : List Env) (s : Shared) (H : Hp) (vs : List V) (Q : VK) (E : XK), Rm k qual st f cdv A s → sp vs H Q E → Goal P w K mg base qual st N f cdv A outer s H vs Q E
abbrev BodyX (P : Program) (w : World) (K : PySem.W.Frag) (mg : Str → Option Value) (base : Heap) (qual : Str) (st : Stmt) (N : List Str) (k : Nat) (f : Addr) (sp : Sp) : Prop :=
  ∀ (cdv : Value) (A : Around) (outer : List Env) (s : Shared) (H : Hp) (vs : List V) (Q : VK) (E : XK), Rm k qual st f cdv A s → sp vs H Q E → GoalX P w K mg base qual st N f cdv A outer s H vs Q E
theorem fn_okX (F : DefAt K x qual st f) (S : FnScope N ps (defScope st)) (len : ∀ vs H Q E, sp vs H Q E → vs.length = ps.length) (hb : BindsIn x qual st ps) (body : BodyX P w K mg base qual st N k f sp) : ∃ fd ps, FnOk P w K mg base (L2.CX P w) (k + 1) f fd ps sp ∧ Binds K fd ps [] := by
  obtain ⟨fd, F⟩ := F
  exact ⟨fd, ps, F.ok S len body, F.bindsN hb⟩
theorem fn_ok (F : DefAt K x qual st f) (S : FnScope N ps (defScope st)) (len : ∀ vs H Q E, sp vs H Q E → vs.length = ps.length) (hb : BindsIn x qual st ps) (body : Body P w K mg base qual st N k f sp) : ∃ fd ps, FnOk P w K mg base (L2.CX P w) (k + 1) f fd ps sp ∧ Binds K fd ps [] :=
  fn_okX F S len hb fun cdv A outer s H vs Q E hr h => let ⟨t, h1, h2⟩ := body cdv A outer s H vs Q E hr h; ⟨t, h1.nox, h2⟩
/-- a module's def by its name -/
structure At (K : PySem.W.Frag) (mg : Str → Option Value) (x : Str) (st : Stmt) : Prop where
  df : DefAt K x x st (He.ga K x)
  gl : mg x = some (.ref (He.ga K x))
theorem ok_of (D : At K mg x st) (S : FnScope N ps (defScope st)) (len : ∀ vs H Q E, sp vs H Q E → vs.length = ps.length) (hb : BindsIn x x st ps) (body : Body P w K mg base x st N k (He.ga K x) sp) : Ok P w K mg base x (k + 1) sp :=
  ⟨fn_ok D.df S len hb body, D.gl, let ⟨_, F⟩ := D.df; F.kp⟩
theorem ok_ofX (D : At K mg x st) (S : FnScope N ps (defScope st)) (len : ∀ vs H Q E, sp vs H Q E → vs.length = ps.length) (hb : BindsIn x x st ps) (body : BodyX P w K mg base x st N k (He.ga K x) sp) : Ok P w K mg base x (k + 1) sp :=
  ⟨fn_okX D.df S len hb body, D.gl, let ⟨_, F⟩ := D.df; F.kp⟩
/-- a method of a class by both names -/
structure MAt (K : PySem.W.Frag) (c m qual : Str) (st : Stmt) : Prop where
  df : DefAt K m qual st (He.ma K (He.ga K c) m)
  cl : Cls K (He.ga K c)
  me : Meth K (He.ga K c) m (He.ma K (He.ga K c) m)
theorem mok_of {c m : Str} (D : MAt K c m qual st) (S : FnScope N ps (defScope st)) (len : ∀ vs H Q E, sp vs H Q E → vs.length = ps.length) (hb : BindsIn m qual st ps) (body : Body P w K mg base qual st N k (He.ma K (He.ga K c) m) sp) : MOk P w K mg base c m (k + 1) sp :=
  ⟨fn_ok D.df S len hb body, D.cl, D.me⟩
end
/-- arguments bound one by one -/
theorem bi1 {x q : Str} {st : Stmt} {a : Str} (h : ∀ (kV doc pm : Value) (an : Option Addr) (cdv ct u : Value), bindArgs (PySem.W.fnOf x q (defArgs st) (defBody st) (defScope st) .none kV doc pm an cdv ct) ⟨[u], []⟩ = pure [(a, u)]) : BindsIn x q st [a] := fun kV doc pm an cdv ct us hl => match us, hl with
  | [u], _ => h kV doc pm an cdv ct u
theorem bi2 {x q : Str} {st : Stmt} {a b : Str} (h : ∀ (kV doc pm : Value) (an : Option Addr) (cdv ct u v : Value), bindArgs (PySem.W.fnOf x q (defArgs st) (defBody st) (defScope st) .none kV doc pm an cdv ct) ⟨[u, v], []⟩ = pure [(a, u), (b, v)]) : BindsIn x q st [a, b] := fun kV doc pm an cdv ct us hl => match us, hl with
  | [u, v], _ => h kV doc pm an cdv ct u v
theorem bi3 {x q : Str} {st : Stmt} {a b c : Str} (h : ∀ (kV doc pm : Value) (an : Option Addr) (cdv ct u v z : Value), bindArgs (PySem.W.fnOf x q (defArgs st) (defBody st) (defScope st) .none kV doc pm an cdv ct) ⟨[u, v, z], []⟩ = pure [(a, u), (b, v), (c, z)]) : BindsIn x q st [a, b, c] := fun kV doc pm an cdv ct us hl => match us, hl with
  | [u, v, z], _ => h kV doc pm an cdv ct u v z
theorem bi4 {x q : Str} {st : Stmt} {a b c d : Str} (h : ∀ (kV doc pm : Value) (an : Option Addr) (cdv ct u v z y : Value), bindArgs (PySem.W.fnOf x q (defArgs st) (defBody st) (defScope st) .none kV doc pm an cdv ct) ⟨[u, v, z, y], []⟩ = pure [(a, u), (b, v), (c, z), (d, y)]) : BindsIn x q st [a, b, c, d] := fun kV doc pm an cdv ct us hl => match us, hl with
  | [u, v, z, y], _ => h kV doc pm an cdv ct u v z y
/-! rules whose readings name the written part by itself -/
section
variable {X : Cx} (K : PySem.W.Frag) (e : X.K = K := by rfl)
def rTupOf (K : PySem.W.Frag) : List V → Hp → VK → Prop := fun xs H Q => ∃ p ys, xs = [.ref p] ∧ ((SqL K H p ys ∧ ∀ l, H l = none → Q (.ref l) (upd H l (.tup ys))) ∨ (SqT K H p ys ∧ Q (.ref p) H))
def rLstOf (K : PySem.W.Frag) : List V → Hp → VK → Prop := fun xs H Q => ∃ p ys, xs = [.ref p] ∧ (SqL K H p ys ∨ SqT K H p ys) ∧ ∀ l, H l = none → Q (.ref l) (upd H l (.lst ys))
def rLenOf (K : PySem.W.Frag) : List V → Hp → VK → Prop := fun xs H Q => ∃ p ys, xs = [.ref p] ∧ (SqL K H p ys ∨ SqT K H p ys) ∧ Q (.int ys.length) H
include e
theorem tupK : CallR X (.type "tuple") (rTupOf K) := by subst e; exact call_tuple_of
theorem lstK : CallR X (.type "list") (rLstOf K) := by subst e; exact call_list_of
theorem lenK : CallR X (.builtin "len") (rLenOf K) := by subst e; exact call_len_seq
theorem ixL : IxR X (rIxL K) := by subst e; exact ix_list
theorem ixT : IxR X (rIxT K) := by subst e; exact ix_tup
theorem isK : CallR X (.builtin "isinstance") (rIs K) := by subst e; exact cr_is
theorem isTK : CallR X (.builtin "isinstance") (rIsT K) := by subst e; exact cr_isT
theorem eqK (hu : X.A.units + 64 < cLine) : OpR X (compareOp .Eq) (rEqD K) := by subst e; exact op_eqD hu
theorem neK (hu : X.A.units + 64 < cLine) : OpR X (compareOp .NotEq) (rNeD K) := by subst e; exact op_neD hu
theorem maxK (hc : X.calm = true) : CallR X (.builtin "max") (rMax K) := by subst e; exact cr_max hc
end
section
variable {X : Cx} {k j : Nat} {sp : Sp} {E : L2.St → XK} {x m c : Str} {p pos apos : Pos} {e o : Expr} {es : List Expr} {ta tb : TE} {t : TA} (K : PySem.W.Frag)
theorem pe_nK (F : COk X.prog X.w X.K X.mg X.base x k sp) (hr : Room j X.A) (hk : k + 1 ≤ j) (hx : ∀ σ, PassesAt (L2.CX X.prog X.w) X σ (E σ)) (ha : PA X (e :: es) t) (hK : X.K = K := by rfl) (hg : Gl X x := by rfl)
    (hdb : (x == ("__debug__" : Str)) = false := by decide) (he : starEach (e :: es) X.env = (false, eval e X.env) :: starEach es X.env := by rfl) (hpl : (backTo pos (starEach es X.env)).any (·.1) = false := by rfl) :
    PE X (.Call (.Name x p) (e :: es) [] pos) (tMakeS (He.ga K x) sp E t) := by
  subst hK
  exact pe_n F hr hk hx ha hg hdb he hpl
theorem pe_mK {pl : Sem Bool} (F : MOk X.prog X.w X.K X.mg X.base c m k sp) (hr : Room j X.A) (hk : k ≤ j) (hx : ∀ σ, PassesAt (L2.CX X.prog X.w) X σ (E σ)) (he : PE X o ta) (ha : PA X (e :: es) t) (hK : X.K = K := by rfl)
    (hst : starEach (e :: es) X.env = (false, eval e X.env) :: starEach es X.env := by rfl) (hpl : (backTo pos (starEach es X.env)).any (·.1) = false := by rfl)
    (ht : eval (.Call (.Attribute o m apos) (e :: es) [] pos) X.env = (do
      let ov ← eval o X.env
      standAt apos.atName
      let (f, first) ← holding [ov] (getMethod ov m pl)
      callWith pos f first (backTo pos (starEach (e :: es) X.env)) (backToKw pos (keywordEach [] X.env))) := by rfl) :
    PE X (.Call (.Attribute o m apos) (e :: es) [] pos) (tMethS (He.ga K c) m sp E ta t) := by
  subst hK
  exact pe_m (pl := pl) F hr hk hx he ha hst hpl ht
theorem pe_binK {op : Operator} {a b : Expr} (F : BOk X.prog X.w X.K X.mg X.base c m k sp) (ho : PySem.dunder op.info.2 = m) (hr : Room j X.A) (hk : k ≤ j) (hx : ∀ σ, PassesAt (L2.CX X.prog X.w) X σ (E σ)) (ha : PE X a ta) (hb' : PE X b tb) (hK : X.K = K := by rfl) :
    PE X (.BinOp a op b pos) (tBinS (He.ga K c) sp E ta tb) := by
  subst hK
  exact pe_bin F ho hr hk hx ha hb'
theorem pe_eqSK {a b : Expr} (F : BOk X.prog X.w X.K X.mg X.base c "__eq__" k sp) (hr : Room j X.A) (hk : k ≤ j) (hx : ∀ σ, PassesAt (L2.CX X.prog X.w) X σ (E σ)) (ha : PE X a ta) (hb' : PE X b tb) (hK : X.K = K := by rfl) :
    PE X (.Compare a [.Eq] [b] pos) (tEqS K (He.ga K c) sp E ta tb) := by
  subst hK
  exact pe_eqS F hr hk hx ha hb'
end
section
variable {X : Cx} {T name id : String} {o e : Expr} {es : List Expr} {to : TE} {t : TA} {r : V → List V → Hp → VK → Prop} {apos cpos : Pos} (K : PySem.W.Frag)
theorem pe_bmK (pa : PlainAttrs T) (slot : Slot T name id) (hty : typeOf (.builtin id) = pure (.type "method_descriptor")) (hm : MtR X id r) (ho : PE X o to) (ha : PA X (e :: es) t) (hK : X.K = K := by rfl)
    (hbase : attributeBase o name X.env (eval o X.env) = eval o X.env := by rfl)
    (hfew : ((backTo cpos (starEach (e :: es) X.env)).all (fun x => !x.1) && (backToKw cpos (keywordEach [] X.env)).all (fun x => x.1.isSome) && decide ((e :: es).length + ([] : List Keyword).length + (if ([] : List Keyword).isEmpty then 0 else 1) < 30)) = true := by rfl)
    (hline : (apos.endLine == cpos.line) = true := by rfl) (hs : starEach (e :: es) X.env = (false, eval e X.env) :: starEach es X.env := by rfl) (hplain : (backTo cpos (starEach es X.env)).any (·.1) = false := by rfl) :
    PE X (.Call (.Attribute o name apos) (e :: es) [] cpos) (tBM K T r to t) := by
  subst hK
  exact pe_bm pa slot hty hm ho ha hbase hfew hline hs hplain
end
end Ms
set_option Elab.async false
set_option linter.all false
set_option maxRecDepth 100000
set_option maxHeartbeats 4000000
/-! Ms, the head: what the top has left, told by one run. -/
namespace Ms
open PySem PySem.Spec PyProof.Rows L2
abbrev Ck : Type := PySem.W.Frag → Bool
theorem and2 {a b : Bool} (h : (a && b) = true) : a = true ∧ b = true := by simpa using h
/-- the def behind a property, a classmethod, a staticmethod of the class named c -/
def recAt (K : PySem.W.Frag) (kind : String) (c m : Str) : Addr := match PySem.W.recIn K (He.ma K (He.ga K c) m) kind with
  | some (.ref g :: _) => g
  | _ => 0
def recB (K : PySem.W.Frag) (kind : String) (c m : Str) : Bool := match PySem.W.recIn K (He.ma K (He.ga K c) m) kind with
  | some (.ref g :: _) => decide (g = recAt K kind c m)
  | _ => false
theorem recB_ok {K : PySem.W.Frag} {kind : String} {c m : Str} (h : recB K kind c m = true) : ∃ rest, PySem.W.recIn K (He.ma K (He.ga K c) m) kind = some (.ref (recAt K kind c m) :: rest) := by
  unfold recB at h
  split at h
  · rename_i g rest e
    have q := of_decide_eq_true h
    rw [e, ← q]
    exact ⟨_, rfl⟩
  · cases h
def atB (K : PySem.W.Frag) (c m : Str) : Bool := He.eqO (PySem.W.findIn K (.ref (He.ga K c)) m) (some (some (.ref (He.ma K (He.ga K c) m))))
/-- a property -/
def ckProp (c m : Str) : Ck := fun K => atB K c m && (He.eqO (PySem.W.specialIn K (.ref (He.ma K (He.ga K c) m)) "__get__") (some (some (.builtin "property.__get__"))) && (decide (PySem.W.takesIn K (.ref (He.ma K (He.ga K c) m)) = some true) && recB K "property" c m))
theorem ckProp_ok {K : PySem.W.Frag} {c m : Str} (h : ckProp c m K = true) : PropOf K (He.ga K c) m (He.ma K (He.ga K c) m) (recAt K "property" c m) := by
  obtain ⟨h1, h⟩ := and2 h
  obtain ⟨h2, h⟩ := and2 h
  obtain ⟨h3, h4⟩ := and2 h
  exact ⟨He.eqO_ok h1, He.eqO_ok h2, of_decide_eq_true h3, recB_ok h4⟩
/-- the class is read as any class -/
def ckRead (c : Str) : Ck := fun K => PySem.W.readsIn K (He.ga K c) (.type "type") && He.eqO (PySem.W.specialIn K (.ref (He.ga K c)) "__getattribute__") (some (some (.builtin "type.__getattribute__")))
theorem ckRead_ok {K : PySem.W.Frag} {c : Str} (h : ckRead c K = true) : ClX.CRead K (He.ga K c) (.type "type") := by
  obtain ⟨h1, h2⟩ := and2 h
  exact ⟨h1, He.eqO_ok h2⟩
/-- a classmethod -/
def ckCm (c m : Str) : Ck := fun K => (match PySem.W.findCls K (.ref (He.ga K c)) (.type "type") m with
  | some (.get (.builtin n) (.ref p) .none (.ref d)) => decide (n = "classmethod.__get__") && (decide (p = He.ma K (He.ga K c) m) && decide (d = He.ga K c))
  | _ => false) && (recB K "classmethod" c m && PySem.W.fnIn K (recAt K "classmethod" c m))
theorem ckCm_ok {K : PySem.W.Frag} {c m : Str} (h : ckCm c m K = true) : ClX.CMet K (He.ga K c) (.type "type") m (He.ma K (He.ga K c) m) (recAt K "classmethod" c m) := by
  obtain ⟨h1, h⟩ := and2 h
  obtain ⟨h2, h3⟩ := and2 h
  refine ⟨?_, recB_ok h2, h3⟩
  split at h1
  · rename_i n p d e
    obtain ⟨a1, a⟩ := and2 h1
    obtain ⟨a2, a3⟩ := and2 a
    rw [e, of_decide_eq_true a1, of_decide_eq_true a2, of_decide_eq_true a3]
  · cases h1
/-- an own exception class with its own __init__ (or none) -/
def oexB (K : PySem.W.Frag) (C : Addr) : Bool := match K.lookup C with
  | some ⟨.type t, _, .cls cd, sl⟩ => (match cd.mro, sl.toList with
    | .ref D :: bm, [_, _, _, _, some (.builtin n), _] => decide (t = "type") && (decide (D = C) && (decide (n = "ValueError.__new__") && (!cd.hasDel && (cd.hasDict && PySem.HandSPX.refsVE bm))))
    | _, _ => false)
  | _ => false
theorem oexB_ok {K : PySem.W.Frag} {C : Addr} (h : oexB K C = true) : ∃ nm q N bs bm sn sub ab col dd k0 k1 k2 k3 k5, K.lookup C = some (excClassObj nm q C N bs bm true sn sub ab col dd k0 k1 k2 k3 k5 "ValueError.__new__") ∧ PySem.HandSPX.refsVE bm = true := by
  unfold oexB at h
  split at h
  · rename_i t dd cd sl e
    split at h
    · rename_i D bm k0 k1 k2 k3 n k5 em es
      obtain ⟨a1, h⟩ := and2 h
      obtain ⟨a2, h⟩ := and2 h
      obtain ⟨a3, h⟩ := and2 h
      obtain ⟨a4, h⟩ := and2 h
      obtain ⟨a5, a6⟩ := and2 h
      obtain ⟨n1, n2, n3, n4, n5, n6, n7, n8, n9, n10, n11⟩ := cd
      dsimp only at em a4 a5
      have d1 := of_decide_eq_true a1
      have d2 := of_decide_eq_true a2
      have d3 := of_decide_eq_true a3
      have d4 : n11 = false := by simpa using a4
      subst d1 d2 d3 d4 a5 em
      have esl : sl = #[k0, k1, k2, k3, some (.builtin "ValueError.__new__"), k5] := by
        obtain ⟨l⟩ := sl
        dsimp only at es
        rw [es]
      subst esl
      exact ⟨_, _, _, _, _, _, _, _, _, _, _, _, _, _, _, e, a6⟩
    · cases h
  · cases h
def ckOex (c : Str) : Ck := fun K => oexB K (He.ga K c) && (He.eqO (PySem.W.findIn K (.ref (He.ga K c)) "__setattr__") (some (some (.builtin "object.__setattr__"))) && (decide (PySem.W.subIn K (.ref (He.ga K c)) (.type "BaseException") = some true) &&
  (decide (PySem.W.typeIn K (.ref (He.ga K c)) = some (.type "type")) && PySem.W.keepIn K (.ref (He.ga K c)))))
theorem ckOex_ok {K : PySem.W.Frag} {c : Str} (h : ckOex c K = true) : OexC K (He.ga K c) := by
  obtain ⟨a1, h⟩ := and2 h
  obtain ⟨a2, h⟩ := and2 h
  obtain ⟨a3, h⟩ := and2 h
  obtain ⟨a4, a5⟩ := and2 h
  exact ⟨oexB_ok a1, He.eqO_ok a2, of_decide_eq_true a3, of_decide_eq_true a4, a5⟩
/-- .. its own __init__ -/
structure ExI (K : PySem.W.Frag) (mg : Str → Option Value) (c qual : Str) (st : Stmt) : Prop where
  o : OexC K (He.ga K c)
  iC : PySem.W.findIn K (.ref (He.ga K c)) "__init__" = some (some (.ref (He.ma K (He.ga K c) "__init__")))
  tI : PySem.W.typeIn K (.ref (He.ma K (He.ga K c) "__init__")) = some (.type "function")
  df : DefAt K "__init__" qual st (He.ma K (He.ga K c) "__init__")
  gl : mg c = some (.ref (He.ga K c))
def ckIni (c : Str) : Ck := fun K => atB K c "__init__" && decide (PySem.W.typeIn K (.ref (He.ma K (He.ga K c) "__init__")) = some (.type "function"))
theorem ckIni_ok {K : PySem.W.Frag} {c : Str} (h : ckIni c K = true) : PySem.W.findIn K (.ref (He.ga K c)) "__init__" = some (some (.ref (He.ma K (He.ga K c) "__init__"))) ∧ PySem.W.typeIn K (.ref (He.ma K (He.ga K c) "__init__")) = some (.type "function") := by
  obtain ⟨h1, h2⟩ := and2 h
  exact ⟨He.eqO_ok h1, of_decide_eq_true h2⟩
/-- an own exception class as isinstance and its fields ask -/
def ckEC (c : Str) : Ck := fun K => (PySem.W.clsIn K (He.ga K c)).isSome && (He.eqO (PySem.W.findIn K (.ref (He.ga K c)) "__getattribute__") (some (some (.builtin "BaseException.__getattribute__"))) && (He.eqO (PySem.W.findIn K (.ref (He.ga K c)) "__getattr__") (some none) &&
  (decide (PySem.W.subIn K (.ref (He.ga K c)) (.type "BaseException") = some true) && (He.eqO (PySem.W.findIn K (.ref (He.ga K c)) "__class__") (some (some (.builtin "object.__class__"))) && (He.eqO (PySem.W.specialIn K (.builtin "object.__class__") "__get__") (some (some (.builtin "getset_descriptor.__get__"))) &&
  (decide (PySem.W.takesIn K (.builtin "object.__class__") = some true) && (decide (PySem.W.mroIn K (He.ga K c) (.type "object") = some true) && PySem.W.hasDictIn K (He.ga K c))))))))
theorem ckEC_ok {K : PySem.W.Frag} {c : Str} (h : ckEC c K = true) : EC K (He.ga K c) := by
  obtain ⟨a1, h⟩ := and2 h
  obtain ⟨a2, h⟩ := and2 h
  obtain ⟨a3, h⟩ := and2 h
  obtain ⟨a4, h⟩ := and2 h
  obtain ⟨a5, h⟩ := and2 h
  obtain ⟨a6, h⟩ := and2 h
  obtain ⟨a7, h⟩ := and2 h
  obtain ⟨a8, a9⟩ := and2 h
  exact ⟨a1, He.eqO_ok a2, He.eqO_ok a3, of_decide_eq_true a4, He.eqO_ok a5, He.eqO_ok a6, of_decide_eq_true a7, of_decide_eq_true a8, a9⟩
/-- an own operator -/
structure Opr (K : PySem.W.Frag) (c m : Str) : Prop where
  sf : PySem.W.selfFirst K (He.ga K c) = true
  fi : PySem.W.findIn K (.ref (He.ga K c)) m = some (some (.ref (He.ma K (He.ga K c) m)))
  fn : PySem.W.isFn K (.ref (He.ma K (He.ga K c) m)) = true
def ckOpr (c m : Str) : Ck := fun K => PySem.W.selfFirst K (He.ga K c) && (atB K c m && PySem.W.isFn K (.ref (He.ma K (He.ga K c) m)))
theorem ckOpr_ok {K : PySem.W.Frag} {c m : Str} (h : ckOpr c m K = true) : Opr K c m := by
  obtain ⟨a1, h⟩ := and2 h
  obtain ⟨a2, a3⟩ := and2 h
  exact ⟨a1, He.eqO_ok a2, a3⟩
/-- what `x == y` asks of y's type -/
def ckNf (c : Str) (t : PySem.W.Frag → Value) : Ck := fun K => PySem.W.notFirst K (He.ga K c) (t K)
/-- isinstance's answers -/
def ckIs (t u : PySem.W.Frag → Value) (b : Bool) : Ck := fun K => decide (PySem.W.kitOne K (t K) (u K) = some b)
def ckExm (c d : Str) (b : Bool) : Ck := fun K => decide (PySem.W.exmOne K (.ref (He.ga K c)) (.ref (He.ga K d)) = some b)
/-- the class's own __class__, for isinstance of an instance -/
def ckCl (c : Str) : Ck := fun K => He.eqO (PySem.W.findIn K (.ref (He.ga K c)) "__class__") (some (some (.builtin "object.__class__"))) && (He.eqO (PySem.W.specialIn K (.builtin "object.__class__") "__get__") (some (some (.builtin "getset_descriptor.__get__"))) && (decide (PySem.W.takesIn K (.builtin "object.__class__") = some true) && decide (PySem.W.mroIn K (He.ga K c) (.type "object") = some true)))
structure ClC (K : PySem.W.Frag) (c : Str) : Prop where
  ca : PySem.W.findIn K (.ref (He.ga K c)) "__class__" = some (some (.builtin "object.__class__"))
  cg : PySem.W.specialIn K (.builtin "object.__class__") "__get__" = some (some (.builtin "getset_descriptor.__get__"))
  ct : PySem.W.takesIn K (.builtin "object.__class__") = some true
  ob : PySem.W.mroIn K (He.ga K c) (.type "object") = some true
theorem ckCl_ok {K : PySem.W.Frag} {c : Str} (h : ckCl c K = true) : ClC K c := by
  obtain ⟨a1, h⟩ := and2 h
  obtain ⟨a2, h⟩ := and2 h
  obtain ⟨a3, a4⟩ := and2 h
  exact ⟨He.eqO_ok a1, He.eqO_ok a2, of_decide_eq_true a3, of_decide_eq_true a4⟩
/-! ### defs anywhere -/
structure Df where
  at_ : PySem.W.Frag → Addr
  name : Str
  qual : Str
  st : Stmt
  dv : List V
/-- the def st with the defaults dv stands at f -/
abbrev DefAtD (K : PySem.W.Frag) (x qual : Str) (st : Stmt) (dv : List V) (f : Addr) : Prop := ∃ fd, FunD K x qual (defArgs st) (defBody st) (defScope st) dv [] f fd
def fnA (K : PySem.W.Frag) (a : Addr) : He.FnW := match K.lookup a with
  | some ⟨_, _, .func fd, _⟩ => some (fd.name, fd.qualname, fd.params, fd.body, fd.scope, fd.globals, fd.closure, fd.builtins)
  | _ => none
def Df.val (d : Df) : He.FnW := some (d.name, d.qual, defArgs d.st, .stmts (defBody d.st), defScope d.st, mainGlobals, [], builtinsNs)
def Df.ok (K : PySem.W.Frag) (d : Df) : Bool := PySem.W.keepIn K (.ref (d.at_ K)) && (match K.lookup (d.at_ K) with
  | some ⟨_, _, .func fd, _⟩ => PySem.W.codeIn K fd.code d.qual && He.dflB K fd.defaults d.dv
  | _ => false)
theorem Df.def_ {K : PySem.W.Frag} {d : Df} (e : fnA K (d.at_ K) = d.val) (c : d.ok K = true) : DefAtD K d.name d.qual d.st d.dv (d.at_ K) := by
  obtain ⟨kp, c2⟩ := and2 c
  unfold fnA at e
  cases q : K.lookup (d.at_ K) with
  | none => rw [q] at c2; cases c2
  | some o =>
    obtain ⟨oc, od, dt, osl⟩ := o
    rw [q] at c2 e
    cases dt with
    | func fd =>
      obtain ⟨n1, n2, n3, n4, n5, n6, n7, n8, n9, n10, n11, n12, n13, n14, n15⟩ := fd
      have e2 : (some (n1, n2, n3, n4, n5, n6, n7, n15) : He.FnW) = some (d.name, d.qual, defArgs d.st, .stmts (defBody d.st), defScope d.st, mainGlobals, [], builtinsNs) := e
      simp only [Option.some.injEq, Prod.mk.injEq] at e2
      obtain ⟨h1, h2, h3, h4, h5, h6, h7, h8⟩ := e2
      subst h1 h2 h3 h4 h5 h6 h7 h8
      obtain ⟨k1, k2⟩ := and2 (show (PySem.W.codeIn K n13 d.qual && He.dflB K n8 d.dv) = true from c2)
      exact ⟨_, ⟨oc, od, n8, n9, n10, n11, n12, n13, n14, osl, rfl, q, k1, He.dflB_ok k2, .inl rfl⟩, kp⟩
    | _ => cases c2
/-! ### the Hook -/
def asM (g : Addr → Option Obj) : Nat → List Addr
  | 0 => [mainGlobals, cStatics]
  | n + 1 => He.growD g (asM g n)
abbrev AlM : Type := Bool × List He.FnW
def obsM (fa : List Ck) (fn : List Df) (K : PySem.W.Frag) : AlM := (fa.all (fun f => f K) && fn.all fun d => d.ok K, fn.map fun d => fnA K (d.at_ K))
def valM (fn : List Df) : AlM := (true, fn.map Df.val)
def SaysM (fa : List Ck) (fn : List Df) (K : PySem.W.Frag) : Prop := obsM fa fn K = valM fn
def obsMG (n : Nat) (fa : List Ck) (fn : List Df) (g : Addr → Option Obj) : AlM := obsM fa fn (He.frG g (asM g n))
def hookM (n : Nat) (fa : List Ck) (fn : List Df) : PySem.W.Hook where
  α := AlM
  obs := fun s => obsMG n fa fn s.heap.get?
  val := fun _ => valM fn
  says := fun _ h => ∃ K : PySem.W.Frag, K.In h ∧ SaysM fa fn K
  of := fun _ _ e => ⟨_, He.frG_in, e⟩
  keeps := fun _ _ _ ⟨K, hK, c⟩ k => ⟨K, PySem.W.Frag.In.keeps hK k, c⟩
theorem obsMG_eq {n : Nat} {fa : List Ck} {fn : List Df} {g : Addr → Option Obj} {s : Shared} (h : ∀ a, g a = s.heap.get? a) : obsMG n fa fn g = (hookM n fa fn).obs s := by
  have e : g = s.heap.get? := funext h
  rw [e] <;> rfl
section
variable {fa : List Ck} {fn : List Df} {K : PySem.W.Frag}
theorem SaysM.both (c : SaysM fa fn K) : (∀ f ∈ fa, f K = true) ∧ (∀ d ∈ fn, d.ok K = true) ∧ fn.map (fun d => fnA K (d.at_ K)) = fn.map Df.val := by
  obtain ⟨h1, h2⟩ := Prod.mk.inj (show (fa.all (fun f => f K) && fn.all fun d => d.ok K, fn.map fun d => fnA K (d.at_ K)) = (true, fn.map Df.val) from c)
  obtain ⟨a, b⟩ := and2 h1
  exact ⟨List.all_eq_true.mp a, List.all_eq_true.mp b, h2⟩
theorem SaysM.fact (c : SaysM fa fn K) (i : Nat) {f : Ck} (h : fa[i]? = some f := by rfl) : f K = true := c.both.1 f (List.mem_of_getElem? h)
theorem SaysM.def_ (c : SaysM fa fn K) (i : Nat) {d : Df} (h : fn[i]? = some d := by rfl) : DefAtD K d.name d.qual d.st d.dv (d.at_ K) := by
  obtain ⟨_, c2, e⟩ := c.both
  have q : (fn.map fun d => fnA K (d.at_ K))[i]? = (fn.map Df.val)[i]? := by rw [e]
  rw [List.getElem?_map, List.getElem?_map, h] at q
  exact Df.def_ (Option.some.inj q) (c2 d (List.mem_of_getElem? h))
end
end Ms
set_option Elab.async false
set_option linter.all false
set_option maxRecDepth 100000
set_option maxHeartbeats 4000000
/-! Ms: names of five arguments. -/
namespace Ms
open PySem PySem.Spec PyProof.Rows L2
theorem bi5 {x q : Str} {st : Stmt} {a b c d e : Str} (h : ∀ (kV doc pm : Value) (an : Option Addr) (cdv ct u v z y t : Value), bindArgs (PySem.W.fnOf x q (defArgs st) (defBody st) (defScope st) .none kV doc pm an cdv ct) ⟨[u, v, z, y, t], []⟩ = pure [(a, u), (b, v), (c, z), (d, y), (e, t)]) : BindsIn x q st [a, b, c, d, e] := fun kV doc pm an cdv ct us hl => match us, hl with
  | [u, v, z, y, t], _ => h kV doc pm an cdv ct u v z y t
end Ms
set_option Elab.async false
set_option linter.all false
set_option maxRecDepth 100000
/-! Ms: where the code objects of a def's lambdas are kept. -/
namespace Ms
open PySem PySem.Spec PyProof.Rows L2
/-- the def x: its code object, its table, which the top's facts do not name -/
def TabK (K : PySem.W.Frag) (x : Str) : Prop := ∃ c P, PySem.W.tabIn K x = some (c, P) ∧ K.lookup P = none ∧ ∀ o d fd sl, K.lookup (He.ga K x) = some ⟨o, d, .func fd, sl⟩ → fd.code = .ref c
def ckTab (x : Str) : Ck := fun K => match PySem.W.tabIn K x with
  | some (c, P) => (K.lookup P).isNone && (match K.lookup (He.ga K x) with
    | some ⟨_, _, .func fd, _⟩ => (match fd.code with
      | .ref c' => decide (c' = c)
      | _ => false)
    | _ => false)
  | none => false
theorem ckTab_ok {K : PySem.W.Frag} {x : Str} (h : ckTab x K = true) : TabK K x := by
  unfold ckTab at h
  split at h
  · rename_i c P e
    obtain ⟨h1, h2⟩ := and2 h
    refine ⟨c, P, e, by simpa using h1, fun o d fd sl q => ?_⟩
    rw [q] at h2
    dsimp only at h2
    split at h2
    · rename_i c' e'
      rw [e', of_decide_eq_true h2]
    · cases h2
  · cases h
end Ms
namespace Ms
open PySem PySem.Spec PyProof.Rows L2
/-- without that table -/
def cutF (x : Str) (K : PySem.W.Frag) : PySem.W.Frag := match PySem.W.tabIn K x with
  | some (_, P) => K.filter fun p => !(p.1 == P)
  | none => K
theorem cut_lookup {P : Addr} : ∀ {K : PySem.W.Frag} {a : Addr} {o : Obj}, (K.filter fun p => !(p.1 == P)).lookup a = some o → K.lookup a = some o
  | [], _, _, h => by cases h
  | (b, u) :: K, a, o, h => by
    by_cases e : b = P
    · have e' : ((!(((b, u) : Addr × Obj).1 == P)) = true) = False := by simp [e]
      rw [List.filter_cons, if_neg (by simp [e])] at h
      have := cut_lookup h
      by_cases q : a = b
      · exfalso
        have : ∀ {K : PySem.W.Frag}, (K.filter fun p => !(p.1 == P)).lookup P = none := fun {K} => by
          induction K with
          | nil => rfl
          | cons y K ih =>
            rw [List.filter_cons]
            by_cases z : y.1 = P
            · rw [if_neg (by simp [z])]; exact ih
            · rw [if_pos (by simp [z])]
              obtain ⟨y1, y2⟩ := y
              rw [List.lookup_cons]
              have : (P == y1) = false := by simp; exact fun h => z h.symm
              rw [this]; exact ih
        rw [q, e, this] at h
        cases h
      · rw [List.lookup_cons]
        have z : (a == b) = false := by simpa using q
        rw [z]; exact this
    · rw [List.filter_cons, if_pos (by simp [e])] at h
      rw [List.lookup_cons] at h ⊢
      by_cases q : a = b
      · subst q
        rw [beq_self_eq_true] at h ⊢
        exact h
      · have z : (a == b) = false := by simpa using q
        rw [z] at h ⊢
        exact cut_lookup h
theorem cutF_in {x : Str} {K : PySem.W.Frag} {h : Heap} (k : K.In h) : (cutF x K).In h := fun a o e => by
  unfold cutF at e
  split at e
  · exact k a o (cut_lookup e)
  · exact k a o e
def obsTG (n : Nat) (x : Str) (fa : List Ck) (fn : List Df) (g : Addr → Option Obj) : AlM := obsM fa fn (cutF x (He.frG g (asM g n)))
def hookT (n : Nat) (x : Str) (fa : List Ck) (fn : List Df) : PySem.W.Hook where
  α := AlM
  obs := fun s => obsTG n x fa fn s.heap.get?
  val := fun _ => valM fn
  says := fun _ h => ∃ K : PySem.W.Frag, K.In h ∧ SaysM fa fn K
  of := fun _ _ e => ⟨_, cutF_in He.frG_in, e⟩
  keeps := fun _ _ _ ⟨K, hK, c⟩ k => ⟨K, PySem.W.Frag.In.keeps hK k, c⟩
theorem obsTG_eq {n : Nat} {x : Str} {fa : List Ck} {fn : List Df} {g : Addr → Option Obj} {s : Shared} (h : ∀ a, g a = s.heap.get? a) : obsTG n x fa fn g = (hookT n x fa fn).obs s := by
  have e : g = s.heap.get? := funext h
  rw [e] <;> rfl
end Ms
set_option Elab.async false
set_option linter.all false
set_option maxRecDepth 100000
set_option maxHeartbeats 4000000
/-! K03: the text, what the head tells. -/
namespace K03
open PySem PySem.Spec PyProof.Rows L2 Ms
def top (i : Nat) : Stmt := PySem.Challenge.pw_manysights_k03_sights_listed.main.body.getD i (.Pass ⟨0, 0, 0, 0⟩)
abbrev s_wall : Stmt := top 0
theorem sc_wall : FnScope ["k"] ["k"] (defScope s_wall) := ⟨rfl, rfl, rfl, by decide +kernel, rfl, by decide +kernel, by decide +kernel⟩
abbrev sSizesDifferu__initu_ : Stmt := mem (top 4) 0
theorem scSizesDifferu__initu_ : FnScope ["self", "one", "two"] ["self", "one", "two"] (defScope sSizesDifferu__initu_) := ⟨rfl, rfl, rfl, by decide +kernel, rfl, by decide +kernel, by decide +kernel⟩
abbrev srenumbered : Stmt := top 6
theorem screnumbered : FnScope ["marks", "numbers", "found", "mark"] ["marks"] (defScope srenumbered) := ⟨rfl, rfl, rfl, by decide +kernel, rfl, by decide +kernel, by decide +kernel⟩
abbrev slisted_cells : Stmt := top 7
theorem sclisted_cells : FnScope ["marks", "found", "_", "deal", "mark", "cell"] ["marks"] (defScope slisted_cells) := ⟨rfl, rfl, rfl, by decide +kernel, rfl, by decide +kernel, by decide +kernel⟩
abbrev sjoined_marks : Stmt := top 8
theorem scjoined_marks : FnScope ["one", "two", "boss", "first", "mark", "other", "low", "high", "found", "root"] ["one", "two"] (defScope sjoined_marks) := ⟨rfl, rfl, rfl, by decide +kernel, rfl, by decide +kernel, by decide +kernel⟩
abbrev scheck_sizes : Stmt := top 9
theorem sccheck_sizes : FnScope ["one", "two"] ["one", "two"] (defScope scheck_sizes) := ⟨rfl, rfl, rfl, by decide +kernel, rfl, by decide +kernel, by decide +kernel⟩
abbrev sSightu__initu_ : Stmt := mem (top 10) 0
theorem scSightu__initu_ : FnScope ["self", "marks", "numbers"] ["self", "marks"] (defScope sSightu__initu_) := ⟨rfl, rfl, rfl, by decide +kernel, rfl, by decide +kernel, by decide +kernel⟩
abbrev sSight_nothing : Stmt := mem (top 10) 1
theorem scSight_nothing : FnScope ["cls", "size"] ["cls", "size"] (defScope sSight_nothing) := ⟨rfl, rfl, rfl, by decide +kernel, rfl, by decide +kernel, by decide +kernel⟩
abbrev sSight_everything : Stmt := mem (top 10) 2
theorem scSight_everything : FnScope ["cls", "size"] ["cls", "size"] (defScope sSight_everything) := ⟨rfl, rfl, rfl, by decide +kernel, rfl, by decide +kernel, by decide +kernel⟩
abbrev sSight_cells : Stmt := mem (top 10) 3
theorem scSight_cells : FnScope ["self"] ["self"] (defScope sSight_cells) := ⟨rfl, rfl, rfl, by decide +kernel, rfl, by decide +kernel, by decide +kernel⟩
abbrev sSight_cell_of : Stmt := mem (top 10) 4
theorem scSight_cell_of : FnScope ["self", "deal"] ["self", "deal"] (defScope sSight_cell_of) := ⟨rfl, rfl, rfl, by decide +kernel, rfl, by decide +kernel, by decide +kernel⟩
abbrev sSight_alike : Stmt := mem (top 10) 5
theorem scSight_alike : FnScope ["self", "one", "two"] ["self", "one", "two"] (defScope sSight_alike) := ⟨rfl, rfl, rfl, by decide +kernel, rfl, by decide +kernel, by decide +kernel⟩
abbrev sSightu__andu_ : Stmt := mem (top 10) 6
theorem scSightu__andu_ : FnScope ["self", "other", "pairs", "count"] ["self", "other"] (defScope sSightu__andu_) := ⟨rfl, rfl, rfl, by decide +kernel, rfl, by decide +kernel, by decide +kernel⟩
abbrev sSightu__oru_ : Stmt := mem (top 10) 7
theorem scSightu__oru_ : FnScope ["self", "other"] ["self", "other"] (defScope sSightu__oru_) := ⟨rfl, rfl, rfl, by decide +kernel, rfl, by decide +kernel, by decide +kernel⟩
abbrev sSightu__equ_ : Stmt := mem (top 10) 8
theorem scSightu__equ_ : FnScope ["self", "other"] ["self", "other"] (defScope sSightu__equ_) := ⟨rfl, rfl, rfl, by decide +kernel, rfl, by decide +kernel, by decide +kernel⟩
abbrev smarks_after : Stmt := top 12
theorem scmarks_after : FnScope ["marks", "place"] ["marks"] (defScope smarks_after) := ⟨rfl, rfl, rfl, by decide +kernel, rfl, by decide +kernel, by decide +kernel⟩
abbrev sall_sights : Stmt := top 13
theorem sc_all_sights : GScope ["size", "marks"] ["size"] (defScope sall_sights) := ⟨rfl, rfl, rfl, by decide +kernel, rfl, by decide +kernel, by decide +kernel⟩
abbrev srow_after : Stmt := top 14
theorem scrow_after : FnScope ["row", "fresh", "number"] ["row"] (defScope srow_after) := ⟨rfl, rfl, rfl, by decide +kernel, rfl, by decide +kernel, by decide +kernel⟩
abbrev ssight_count : Stmt := top 15
theorem scsight_count : FnScope ["size", "row", "_"] ["size"] (defScope ssight_count) := ⟨rfl, rfl, rfl, by decide +kernel, rfl, by decide +kernel, by decide +kernel⟩
abbrev sin_order : Stmt := top 16
theorem scin_order : FnScope ["rows", "row"] ["rows"] (defScope sin_order) := ⟨rfl, rfl, rfl, by decide +kernel, rfl, by decide +kernel, by decide +kernel⟩
abbrev ssplit_off : Stmt := top 17
theorem scsplit_off : FnScope ["marks", "deals", "listed", "deal", "mark"] ["marks", "deals"] (defScope ssplit_off) := ⟨rfl, rfl, rfl, by decide +kernel, rfl, by decide +kernel, by decide +kernel⟩
abbrev ssplits : Stmt := top 18
theorem scsplits : FnScope ["sight", "rows", "cell", "choices", "deal", "choice"] ["sight"] (defScope ssplits) := ⟨rfl, rfl, rfl, by decide +kernel, rfl, by decide +kernel, by decide +kernel⟩
abbrev smerges : Stmt := top 19
theorem scmerges : FnScope ["sight", "count", "rows", "high", "low", "mark"] ["sight"] (defScope smerges) := ⟨rfl, rfl, rfl, by decide +kernel, rfl, by decide +kernel, by decide +kernel⟩
abbrev s_law_whole : Stmt := top 21
theorem sc_law_whole : FnScope ["value"] ["value"] (defScope s_law_whole) := ⟨rfl, rfl, rfl, by decide +kernel, rfl, by decide +kernel, by decide +kernel⟩
abbrev s_law_cell : Stmt := top 22
theorem sc_law_cell : FnScope ["script", "k", "seed", "cell"] ["script", "k"] (defScope s_law_cell) := ⟨rfl, rfl, rfl, by decide +kernel, rfl, by decide +kernel, by decide +kernel⟩
abbrev s_law_digits : Stmt := top 23
theorem sc_law_digits : FnScope ["cell", "sizes", "row", "rest", "seed", "k", "twice"] ["cell", "sizes"] (defScope s_law_digits) := ⟨rfl, rfl, rfl, by decide +kernel, rfl, by decide +kernel, by decide +kernel⟩
abbrev s_law_groups : Stmt := top 24
theorem sc_law_groups : FnScope ["row", "groups", "k", "group"] ["row"] (defScope s_law_groups) := ⟨rfl, rfl, rfl, by decide +kernel, rfl, by decide +kernel, by decide +kernel⟩
abbrev s_law_numbers : Stmt := top 25
theorem sc_law_numbers : FnScope ["actual", "due", "k"] ["actual", "due"] (defScope s_law_numbers) := ⟨rfl, rfl, rfl, by decide +kernel, rfl, by decide +kernel, by decide +kernel⟩
abbrev s_law_agrees : Stmt := top 26
theorem sc_law_agrees : FnScope ["actual", "row", "groups", "parts", "k"] ["actual", "row"] (defScope s_law_agrees) := ⟨rfl, rfl, rfl, by decide +kernel, rfl, by decide +kernel, by decide +kernel⟩
abbrev s_law_rows : Stmt := top 27
theorem sc_law_rows : FnScope ["size", "rows", "turn", "longer", "row", "mark"] ["size"] (defScope s_law_rows) := ⟨rfl, rfl, rfl, by decide +kernel, rfl, by decide +kernel, by decide +kernel⟩
abbrev s_law_count : Stmt := top 28
theorem sc_law_count : FnScope ["size", "counts", "turn", "more", "k"] ["size"] (defScope s_law_count) := ⟨rfl, rfl, rfl, by decide +kernel, rfl, by decide +kernel, by decide +kernel⟩
abbrev s_law_counted : Stmt := top 29
theorem sc_law_counted : FnScope ["actual", "due"] ["actual", "due"] (defScope s_law_counted) := ⟨rfl, rfl, rfl, by decide +kernel, rfl, by decide +kernel, by decide +kernel⟩
abbrev s_law_walked : Stmt := top 30
theorem sc_law_walked : FnScope ["rows", "size", "at", "item"] ["rows", "size"] (defScope s_law_walked) := ⟨rfl, rfl, rfl, by decide +kernel, rfl, by decide +kernel, by decide +kernel⟩
abbrev s_law_walked_in_turn : Stmt := top 31
theorem sc_law_walked_in_turn : FnScope ["rows", "inner", "size", "second", "most", "at", "item"] ["rows", "inner", "size", "second", "most"] (defScope s_law_walked_in_turn) := ⟨rfl, rfl, rfl, by decide +kernel, rfl, by decide +kernel, by decide +kernel⟩
abbrev s_law_parta : Stmt := top 32
theorem sc_law_parta : FnScope ["script", "shape", "size", "rows", "second", "inner", "many"] ["script"] (defScope s_law_parta) := ⟨rfl, rfl, rfl, by decide +kernel, rfl, by decide +kernel, by decide +kernel⟩
abbrev s_law_marks : Stmt := top 33
theorem sc_law_marks : FnScope ["marks", "numbers", "row", "mark"] ["marks"] (defScope s_law_marks) := ⟨rfl, rfl, rfl, by decide +kernel, rfl, by decide +kernel, by decide +kernel⟩
abbrev s_law_tells : Stmt := top 34
theorem sc_law_tells : FnScope ["first", "second", "k", "j"] ["first", "second"] (defScope s_law_tells) := ⟨rfl, rfl, rfl, by decide +kernel, rfl, by decide +kernel, by decide +kernel⟩
abbrev s_law_draw : Stmt := top 35
theorem sc_law_draw : FnScope ["script", "shape", "size", "wide"] ["script"] (defScope s_law_draw) := ⟨rfl, rfl, rfl, by decide +kernel, rfl, by decide +kernel, by decide +kernel⟩
abbrev s_law_listed : Stmt := top 36
theorem sc_law_listed : FnScope ["actual", "row", "step", "count", "before", "item", "marks"] ["actual", "row", "step", "count"] (defScope s_law_listed) := ⟨rfl, rfl, rfl, by decide +kernel, rfl, by decide +kernel, by decide +kernel⟩
abbrev s_law_ways : Stmt := top 37
theorem sc_law_ways : FnScope ["row", "total", "group", "ways", "deal"] ["row"] (defScope s_law_ways) := ⟨rfl, rfl, rfl, by decide +kernel, rfl, by decide +kernel, by decide +kernel⟩
abbrev s_law_once : Stmt := top 38
theorem sc_law_once : FnScope ["found", "sight", "item"] ["found", "sight"] (defScope s_law_once) := ⟨rfl, rfl, rfl, by decide +kernel, rfl, by decide +kernel, by decide +kernel⟩
abbrev s_law_is_all : Stmt := top 39
theorem sc_law_is_all : FnScope ["finer", "coarser", "row", "rows", "other", "more", "less", "item"] ["finer", "coarser", "row"] (defScope s_law_is_all) := ⟨rfl, rfl, rfl, by decide +kernel, rfl, by decide +kernel, by decide +kernel⟩
abbrev s_law_partb : Stmt := top 40
theorem sc_law_partb : FnScope ["script", "marks", "row", "sight", "mark", "many", "finer", "coarser", "turns", "turn", "second", "third"] ["script"] (defScope s_law_partb) := ⟨rfl, rfl, rfl, by decide +kernel, rfl, by decide +kernel, by decide +kernel⟩
abbrev slaw : Stmt := top 41
theorem sclaw : FnScope ["script"] ["script"] (defScope slaw) := ⟨rfl, rfl, rfl, by decide +kernel, rfl, by decide +kernel, by decide +kernel⟩
theorem bi__wall : BindsIn "_wall" "_wall" s_wall ["k"] := bi1 fun _ _ _ _ _ _ _ => rfl
theorem bi_SizesDifferu__initu_ : BindsIn "__init__" "SizesDiffer.__init__" sSizesDifferu__initu_ ["self", "one", "two"] := bi3 fun _ _ _ _ _ _ _ _ _ => rfl
theorem bi_renumbered : BindsIn "renumbered" "renumbered" srenumbered ["marks"] := bi1 fun _ _ _ _ _ _ _ => rfl
theorem bi_listed_cells : BindsIn "listed_cells" "listed_cells" slisted_cells ["marks"] := bi1 fun _ _ _ _ _ _ _ => rfl
theorem bi_joined_marks : BindsIn "joined_marks" "joined_marks" sjoined_marks ["one", "two"] := bi2 fun _ _ _ _ _ _ _ _ => rfl
theorem bi_check_sizes : BindsIn "check_sizes" "check_sizes" scheck_sizes ["one", "two"] := bi2 fun _ _ _ _ _ _ _ _ => rfl
theorem bi_Sightu__initu_ : BindsIn "__init__" "Sight.__init__" sSightu__initu_ ["self", "marks"] := bi2 fun _ _ _ _ _ _ _ _ => rfl
theorem bi_Sight_nothing : BindsIn "nothing" "Sight.nothing" sSight_nothing ["cls", "size"] := bi2 fun _ _ _ _ _ _ _ _ => rfl
theorem bi_Sight_everything : BindsIn "everything" "Sight.everything" sSight_everything ["cls", "size"] := bi2 fun _ _ _ _ _ _ _ _ => rfl
theorem bi_Sight_cells : BindsIn "cells" "Sight.cells" sSight_cells ["self"] := bi1 fun _ _ _ _ _ _ _ => rfl
theorem bi_Sight_cell_of : BindsIn "cell_of" "Sight.cell_of" sSight_cell_of ["self", "deal"] := bi2 fun _ _ _ _ _ _ _ _ => rfl
theorem bi_Sight_alike : BindsIn "alike" "Sight.alike" sSight_alike ["self", "one", "two"] := bi3 fun _ _ _ _ _ _ _ _ _ => rfl
theorem bi_Sightu__andu_ : BindsIn "__and__" "Sight.__and__" sSightu__andu_ ["self", "other"] := bi2 fun _ _ _ _ _ _ _ _ => rfl
theorem bi_Sightu__oru_ : BindsIn "__or__" "Sight.__or__" sSightu__oru_ ["self", "other"] := bi2 fun _ _ _ _ _ _ _ _ => rfl
theorem bi_Sightu__equ_ : BindsIn "__eq__" "Sight.__eq__" sSightu__equ_ ["self", "other"] := bi2 fun _ _ _ _ _ _ _ _ => rfl
theorem bi_marks_after : BindsIn "marks_after" "marks_after" smarks_after ["marks"] := bi1 fun _ _ _ _ _ _ _ => rfl
theorem bi_all_sights : BindsIn "all_sights" "all_sights" sall_sights ["size"] := bi1 fun _ _ _ _ _ _ _ => rfl
theorem bi_row_after : BindsIn "row_after" "row_after" srow_after ["row"] := bi1 fun _ _ _ _ _ _ _ => rfl
theorem bi_sight_count : BindsIn "sight_count" "sight_count" ssight_count ["size"] := bi1 fun _ _ _ _ _ _ _ => rfl
theorem bi_in_order : BindsIn "in_order" "in_order" sin_order ["rows"] := bi1 fun _ _ _ _ _ _ _ => rfl
theorem bi_split_off : BindsIn "split_off" "split_off" ssplit_off ["marks", "deals"] := bi2 fun _ _ _ _ _ _ _ _ => rfl
theorem bi_splits : BindsIn "splits" "splits" ssplits ["sight"] := bi1 fun _ _ _ _ _ _ _ => rfl
theorem bi_merges : BindsIn "merges" "merges" smerges ["sight"] := bi1 fun _ _ _ _ _ _ _ => rfl
theorem bi__law_whole : BindsIn "_law_whole" "_law_whole" s_law_whole ["value"] := bi1 fun _ _ _ _ _ _ _ => rfl
theorem bi__law_cell : BindsIn "_law_cell" "_law_cell" s_law_cell ["script", "k"] := bi2 fun _ _ _ _ _ _ _ _ => rfl
theorem bi__law_digits : BindsIn "_law_digits" "_law_digits" s_law_digits ["cell", "sizes"] := bi2 fun _ _ _ _ _ _ _ _ => rfl
theorem bi__law_groups : BindsIn "_law_groups" "_law_groups" s_law_groups ["row"] := bi1 fun _ _ _ _ _ _ _ => rfl
theorem bi__law_numbers : BindsIn "_law_numbers" "_law_numbers" s_law_numbers ["actual", "due"] := bi2 fun _ _ _ _ _ _ _ _ => rfl
theorem bi__law_agrees : BindsIn "_law_agrees" "_law_agrees" s_law_agrees ["actual", "row"] := bi2 fun _ _ _ _ _ _ _ _ => rfl
theorem bi__law_rows : BindsIn "_law_rows" "_law_rows" s_law_rows ["size"] := bi1 fun _ _ _ _ _ _ _ => rfl
theorem bi__law_count : BindsIn "_law_count" "_law_count" s_law_count ["size"] := bi1 fun _ _ _ _ _ _ _ => rfl
theorem bi__law_counted : BindsIn "_law_counted" "_law_counted" s_law_counted ["actual", "due"] := bi2 fun _ _ _ _ _ _ _ _ => rfl
theorem bi__law_walked : BindsIn "_law_walked" "_law_walked" s_law_walked ["rows", "size"] := bi2 fun _ _ _ _ _ _ _ _ => rfl
theorem bi__law_walked_in_turn : BindsIn "_law_walked_in_turn" "_law_walked_in_turn" s_law_walked_in_turn ["rows", "inner", "size", "second", "most"] := bi5 fun _ _ _ _ _ _ _ _ _ _ _ => rfl
theorem bi__law_parta : BindsIn "_law_parta" "_law_parta" s_law_parta ["script"] := bi1 fun _ _ _ _ _ _ _ => rfl
theorem bi__law_marks : BindsIn "_law_marks" "_law_marks" s_law_marks ["marks"] := bi1 fun _ _ _ _ _ _ _ => rfl
theorem bi__law_tells : BindsIn "_law_tells" "_law_tells" s_law_tells ["first", "second"] := bi2 fun _ _ _ _ _ _ _ _ => rfl
theorem bi__law_draw : BindsIn "_law_draw" "_law_draw" s_law_draw ["script"] := bi1 fun _ _ _ _ _ _ _ => rfl
theorem bi__law_listed : BindsIn "_law_listed" "_law_listed" s_law_listed ["actual", "row", "step", "count"] := bi4 fun _ _ _ _ _ _ _ _ _ _ => rfl
theorem bi__law_ways : BindsIn "_law_ways" "_law_ways" s_law_ways ["row"] := bi1 fun _ _ _ _ _ _ _ => rfl
theorem bi__law_once : BindsIn "_law_once" "_law_once" s_law_once ["found", "sight"] := bi2 fun _ _ _ _ _ _ _ _ => rfl
theorem bi__law_is_all : BindsIn "_law_is_all" "_law_is_all" s_law_is_all ["finer", "coarser", "row"] := bi3 fun _ _ _ _ _ _ _ _ _ => rfl
theorem bi__law_partb : BindsIn "_law_partb" "_law_partb" s_law_partb ["script"] := bi1 fun _ _ _ _ _ _ _ => rfl
theorem bi_law : BindsIn "law" "law" slaw ["script"] := bi1 fun _ _ _ _ _ _ _ => rfl
/-- what the head has left -/
structure Tx (K : PySem.W.Frag) (mg : Str → Option Value) : Prop where
  f_len : mg "len" = none
  f_set : mg "set" = none
  f_tuple : mg "tuple" = none
  f_list : mg "list" = none
  f_range : mg "range" = none
  f_enumerate : mg "enumerate" = none
  f_zip : mg "zip" = none
  f_int : mg "int" = none
  f_bool : mg "bool" = none
  f_max : mg "max" = none
  f_min : mg "min" = none
  f_abs : mg "abs" = none
  f_sum : mg "sum" = none
  f_reversed : mg "reversed" = none
  f_sorted : mg "sorted" = none
  f_isinstance : mg "isinstance" = none
  f_ValueError : mg "ValueError" = none
  g_DealError : mg "DealError" = some (.ref (He.ga K "DealError"))
  g_NoDeals : mg "NoDeals" = some (.ref (He.ga K "NoDeals"))
  g_SizesDiffer : mg "SizesDiffer" = some (.ref (He.ga K "SizesDiffer"))
  g_Sight : mg "Sight" = some (.ref (He.ga K "Sight"))
  c_Sight : Cls K (He.ga K "Sight")
  n_size : NoAttr K (He.ga K "Sight") "size"
  n_marks : NoAttr K (He.ga K "Sight") "marks"
  n_cells : NoAttr K (He.ga K "Sight") "_cells"
  k_Sight : Mk K (He.ga K "Sight") (He.ma K (He.ga K "Sight") "__init__")
  p_cells : PropOf K (He.ga K "Sight") "cells" (He.ma K (He.ga K "Sight") "cells") (recAt K "property" "Sight" "cells")
  r_Sight : ClX.CRead K (He.ga K "Sight") (.type "type")
  o_eq : Opr K "Sight" "__eq__"
  nf_NoneType : PySem.W.notFirst K (He.ga K "Sight") (.type "NoneType") = true
  nf_int : PySem.W.notFirst K (He.ga K "Sight") (.type "int") = true
  nf_bool : PySem.W.notFirst K (He.ga K "Sight") (.type "bool") = true
  nf_list : PySem.W.notFirst K (He.ga K "Sight") (.type "list") = true
  nf_tuple : PySem.W.notFirst K (He.ga K "Sight") (.type "tuple") = true
  nf_str : PySem.W.notFirst K (He.ga K "Sight") (.type "str") = true
  nf_Sight : PySem.W.notFirst K (He.ga K "Sight") (.ref (He.ga K "Sight")) = true
  cl_Sight : ClC K "Sight"
  is_Sight_Sight : PySem.W.kitOne K (.ref (He.ga K "Sight")) (.ref (He.ga K "Sight")) = some true
  is_int_int : PySem.W.kitOne K (.type "int") (.type "int") = some true
  is_int_bool : PySem.W.kitOne K (.type "int") (.type "bool") = some false
  is_tuple_tuple : PySem.W.kitOne K (.type "tuple") (.type "tuple") = some true
  is_bool_bool : PySem.W.kitOne K (.type "bool") (.type "bool") = some true
  is_NoDeals_NoDeals : PySem.W.kitOne K (.ref (He.ga K "NoDeals")) (.ref (He.ga K "NoDeals")) = some true
  is_NoDeals_ValueError : PySem.W.kitOne K (.ref (He.ga K "NoDeals")) (.type "ValueError") = some true
  is_SizesDiffer_SizesDiffer : PySem.W.kitOne K (.ref (He.ga K "SizesDiffer")) (.ref (He.ga K "SizesDiffer")) = some true
  is_SizesDiffer_ValueError : PySem.W.kitOne K (.ref (He.ga K "SizesDiffer")) (.type "ValueError") = some true
  is_SizesDiffer_NoDeals : PySem.W.kitOne K (.ref (He.ga K "SizesDiffer")) (.ref (He.ga K "NoDeals")) = some false
  x_NoDeals : PySem.W.exmOne K (.ref (He.ga K "NoDeals")) (.ref (He.ga K "DealError")) = some true
  ec_NoDeals : EC K (He.ga K "NoDeals")
  x_SizesDiffer : PySem.W.exmOne K (.ref (He.ga K "SizesDiffer")) (.ref (He.ga K "DealError")) = some true
  ec_SizesDiffer : EC K (He.ga K "SizesDiffer")
  e_NoDeals : PySem.W.excIn K (He.ga K "NoDeals") He.veBase "ValueError.__new__" = true ∧ PySem.W.keepIn K (.ref (He.ga K "NoDeals")) = true ∧ PySem.W.subIn K (.ref (He.ga K "NoDeals")) (.type "BaseException") = some true ∧ PySem.W.typeIn K (.ref (He.ga K "NoDeals")) = some (.type "type")
  oe_SizesDiffer : OexC K (He.ga K "SizesDiffer")
  ie_SizesDiffer : PySem.W.findIn K (.ref (He.ga K "SizesDiffer")) "__init__" = some (some (.ref (He.ma K (He.ga K "SizesDiffer") "__init__"))) ∧ PySem.W.typeIn K (.ref (He.ma K (He.ga K "SizesDiffer") "__init__")) = some (.type "function")
  nS_one : PySem.W.findIn K (.ref (He.ga K "SizesDiffer")) "one" = some none
  nS_two : PySem.W.findIn K (.ref (He.ga K "SizesDiffer")) "two" = some none
  tab_in_order : TabK K "in_order"
  gd__wall : mg "_wall" = some (.ref (He.ga K "_wall"))
  gd_renumbered : mg "renumbered" = some (.ref (He.ga K "renumbered"))
  gd_listed_cells : mg "listed_cells" = some (.ref (He.ga K "listed_cells"))
  gd_joined_marks : mg "joined_marks" = some (.ref (He.ga K "joined_marks"))
  gd_check_sizes : mg "check_sizes" = some (.ref (He.ga K "check_sizes"))
  gd_marks_after : mg "marks_after" = some (.ref (He.ga K "marks_after"))
  gd_all_sights : mg "all_sights" = some (.ref (He.ga K "all_sights"))
  gd_row_after : mg "row_after" = some (.ref (He.ga K "row_after"))
  gd_sight_count : mg "sight_count" = some (.ref (He.ga K "sight_count"))
  gd_in_order : mg "in_order" = some (.ref (He.ga K "in_order"))
  gd_split_off : mg "split_off" = some (.ref (He.ga K "split_off"))
  gd_splits : mg "splits" = some (.ref (He.ga K "splits"))
  gd_merges : mg "merges" = some (.ref (He.ga K "merges"))
  gd__law_whole : mg "_law_whole" = some (.ref (He.ga K "_law_whole"))
  gd__law_cell : mg "_law_cell" = some (.ref (He.ga K "_law_cell"))
  gd__law_digits : mg "_law_digits" = some (.ref (He.ga K "_law_digits"))
  gd__law_groups : mg "_law_groups" = some (.ref (He.ga K "_law_groups"))
  gd__law_numbers : mg "_law_numbers" = some (.ref (He.ga K "_law_numbers"))
  gd__law_agrees : mg "_law_agrees" = some (.ref (He.ga K "_law_agrees"))
  gd__law_rows : mg "_law_rows" = some (.ref (He.ga K "_law_rows"))
  gd__law_count : mg "_law_count" = some (.ref (He.ga K "_law_count"))
  gd__law_counted : mg "_law_counted" = some (.ref (He.ga K "_law_counted"))
  gd__law_walked : mg "_law_walked" = some (.ref (He.ga K "_law_walked"))
  gd__law_walked_in_turn : mg "_law_walked_in_turn" = some (.ref (He.ga K "_law_walked_in_turn"))
  gd__law_parta : mg "_law_parta" = some (.ref (He.ga K "_law_parta"))
  gd__law_marks : mg "_law_marks" = some (.ref (He.ga K "_law_marks"))
  gd__law_tells : mg "_law_tells" = some (.ref (He.ga K "_law_tells"))
  gd__law_draw : mg "_law_draw" = some (.ref (He.ga K "_law_draw"))
  gd__law_listed : mg "_law_listed" = some (.ref (He.ga K "_law_listed"))
  gd__law_ways : mg "_law_ways" = some (.ref (He.ga K "_law_ways"))
  gd__law_once : mg "_law_once" = some (.ref (He.ga K "_law_once"))
  gd__law_is_all : mg "_law_is_all" = some (.ref (He.ga K "_law_is_all"))
  gd__law_partb : mg "_law_partb" = some (.ref (He.ga K "_law_partb"))
  gd_law : mg "law" = some (.ref (He.ga K "law"))
  d__wall : DefAt K "_wall" "_wall" s_wall (He.ga K "_wall")
  d_SizesDifferu__initu_ : DefAt K "__init__" "SizesDiffer.__init__" sSizesDifferu__initu_ (He.ma K (He.ga K "SizesDiffer") "__init__")
  d_renumbered : DefAt K "renumbered" "renumbered" srenumbered (He.ga K "renumbered")
  d_listed_cells : DefAt K "listed_cells" "listed_cells" slisted_cells (He.ga K "listed_cells")
  d_joined_marks : DefAt K "joined_marks" "joined_marks" sjoined_marks (He.ga K "joined_marks")
  d_check_sizes : DefAt K "check_sizes" "check_sizes" scheck_sizes (He.ga K "check_sizes")
  d_Sightu__initu_ : DefAt K "__init__" "Sight.__init__" sSightu__initu_ (He.ma K (He.ga K "Sight") "__init__")
  d_Sight_cells : DefAt K "cells" "Sight.cells" sSight_cells (recAt K "property" "Sight" "cells")
  d_Sightu__equ_ : DefAt K "__eq__" "Sight.__eq__" sSightu__equ_ (He.ma K (He.ga K "Sight") "__eq__")
  d_marks_after : DefAt K "marks_after" "marks_after" smarks_after (He.ga K "marks_after")
  d_all_sights : DefAt K "all_sights" "all_sights" sall_sights (He.ga K "all_sights")
  d_row_after : DefAt K "row_after" "row_after" srow_after (He.ga K "row_after")
  d_sight_count : DefAt K "sight_count" "sight_count" ssight_count (He.ga K "sight_count")
  d_in_order : DefAt K "in_order" "in_order" sin_order (He.ga K "in_order")
  d_split_off : DefAt K "split_off" "split_off" ssplit_off (He.ga K "split_off")
  d_splits : DefAt K "splits" "splits" ssplits (He.ga K "splits")
  d_merges : DefAt K "merges" "merges" smerges (He.ga K "merges")
  d__law_whole : DefAt K "_law_whole" "_law_whole" s_law_whole (He.ga K "_law_whole")
  d__law_cell : DefAt K "_law_cell" "_law_cell" s_law_cell (He.ga K "_law_cell")
  d__law_digits : DefAt K "_law_digits" "_law_digits" s_law_digits (He.ga K "_law_digits")
  d__law_groups : DefAt K "_law_groups" "_law_groups" s_law_groups (He.ga K "_law_groups")
  d__law_numbers : DefAt K "_law_numbers" "_law_numbers" s_law_numbers (He.ga K "_law_numbers")
  d__law_agrees : DefAt K "_law_agrees" "_law_agrees" s_law_agrees (He.ga K "_law_agrees")
  d__law_rows : DefAt K "_law_rows" "_law_rows" s_law_rows (He.ga K "_law_rows")
  d__law_count : DefAt K "_law_count" "_law_count" s_law_count (He.ga K "_law_count")
  d__law_counted : DefAt K "_law_counted" "_law_counted" s_law_counted (He.ga K "_law_counted")
  d__law_walked : DefAt K "_law_walked" "_law_walked" s_law_walked (He.ga K "_law_walked")
  d__law_walked_in_turn : DefAt K "_law_walked_in_turn" "_law_walked_in_turn" s_law_walked_in_turn (He.ga K "_law_walked_in_turn")
  d__law_parta : DefAt K "_law_parta" "_law_parta" s_law_parta (He.ga K "_law_parta")
  d__law_marks : DefAt K "_law_marks" "_law_marks" s_law_marks (He.ga K "_law_marks")
  d__law_tells : DefAt K "_law_tells" "_law_tells" s_law_tells (He.ga K "_law_tells")
  d__law_draw : DefAt K "_law_draw" "_law_draw" s_law_draw (He.ga K "_law_draw")
  d__law_listed : DefAt K "_law_listed" "_law_listed" s_law_listed (He.ga K "_law_listed")
  d__law_ways : DefAt K "_law_ways" "_law_ways" s_law_ways (He.ga K "_law_ways")
  d__law_once : DefAt K "_law_once" "_law_once" s_law_once (He.ga K "_law_once")
  d__law_is_all : DefAt K "_law_is_all" "_law_is_all" s_law_is_all (He.ga K "_law_is_all")
  d__law_partb : DefAt K "_law_partb" "_law_partb" s_law_partb (He.ga K "_law_partb")
  d_law : DefAt K "law" "law" slaw (He.ga K "law")
def fa : List Ck := [
  (fun K => (He.Fa.free "len").ok K),
  (fun K => (He.Fa.free "set").ok K),
  (fun K => (He.Fa.free "tuple").ok K),
  (fun K => (He.Fa.free "list").ok K),
  (fun K => (He.Fa.free "range").ok K),
  (fun K => (He.Fa.free "enumerate").ok K),
  (fun K => (He.Fa.free "zip").ok K),
  (fun K => (He.Fa.free "int").ok K),
  (fun K => (He.Fa.free "bool").ok K),
  (fun K => (He.Fa.free "max").ok K),
  (fun K => (He.Fa.free "min").ok K),
  (fun K => (He.Fa.free "abs").ok K),
  (fun K => (He.Fa.free "sum").ok K),
  (fun K => (He.Fa.free "reversed").ok K),
  (fun K => (He.Fa.free "sorted").ok K),
  (fun K => (He.Fa.free "isinstance").ok K),
  (fun K => (He.Fa.free "ValueError").ok K),
  (fun K => (He.Fa.glo "DealError").ok K),
  (fun K => (He.Fa.glo "NoDeals").ok K),
  (fun K => (He.Fa.glo "SizesDiffer").ok K),
  (fun K => (He.Fa.glo "Sight").ok K),
  (fun K => (He.Fa.cls "Sight").ok K),
  (fun K => (He.Fa.noat "Sight" "size").ok K),
  (fun K => (He.Fa.noat "Sight" "marks").ok K),
  (fun K => (He.Fa.noat "Sight" "_cells").ok K),
  (fun K => (He.Fa.mkr "Sight").ok K),
  (ckProp "Sight" "cells"),
  (ckRead "Sight"),
  (ckOpr "Sight" "__eq__"),
  (ckNf "Sight" fun _ => .type "NoneType"),
  (ckNf "Sight" fun _ => .type "int"),
  (ckNf "Sight" fun _ => .type "bool"),
  (ckNf "Sight" fun _ => .type "list"),
  (ckNf "Sight" fun _ => .type "tuple"),
  (ckNf "Sight" fun _ => .type "str"),
  (ckNf "Sight" fun K => .ref (He.ga K "Sight")),
  (ckCl "Sight"),
  (ckIs (fun K => .ref (He.ga K "Sight")) (fun K => .ref (He.ga K "Sight")) true),
  (ckIs (fun K => .type "int") (fun K => .type "int") true),
  (ckIs (fun K => .type "int") (fun K => .type "bool") false),
  (ckIs (fun K => .type "tuple") (fun K => .type "tuple") true),
  (ckIs (fun K => .type "bool") (fun K => .type "bool") true),
  (ckIs (fun K => .ref (He.ga K "NoDeals")) (fun K => .ref (He.ga K "NoDeals")) true),
  (ckIs (fun K => .ref (He.ga K "NoDeals")) (fun K => .type "ValueError") true),
  (ckIs (fun K => .ref (He.ga K "SizesDiffer")) (fun K => .ref (He.ga K "SizesDiffer")) true),
  (ckIs (fun K => .ref (He.ga K "SizesDiffer")) (fun K => .type "ValueError") true),
  (ckIs (fun K => .ref (He.ga K "SizesDiffer")) (fun K => .ref (He.ga K "NoDeals")) false),
  (ckExm "NoDeals" "DealError" true),
  (ckEC "NoDeals"),
  (ckExm "SizesDiffer" "DealError" true),
  (ckEC "SizesDiffer"),
  (fun K => (He.Fa.exc "NoDeals").ok K),
  (ckOex "SizesDiffer"),
  (ckIni "SizesDiffer"),
  (fun K => (He.Fa.noat "SizesDiffer" "one").ok K),
  (fun K => (He.Fa.noat "SizesDiffer" "two").ok K),
  (ckTab "in_order"),
  (fun K => (He.Fa.glo "_wall").ok K),
  (fun K => (He.Fa.glo "renumbered").ok K),
  (fun K => (He.Fa.glo "listed_cells").ok K),
  (fun K => (He.Fa.glo "joined_marks").ok K),
  (fun K => (He.Fa.glo "check_sizes").ok K),
  (fun K => (He.Fa.glo "marks_after").ok K),
  (fun K => (He.Fa.glo "all_sights").ok K),
  (fun K => (He.Fa.glo "row_after").ok K),
  (fun K => (He.Fa.glo "sight_count").ok K),
  (fun K => (He.Fa.glo "in_order").ok K),
  (fun K => (He.Fa.glo "split_off").ok K),
  (fun K => (He.Fa.glo "splits").ok K),
  (fun K => (He.Fa.glo "merges").ok K),
  (fun K => (He.Fa.glo "_law_whole").ok K),
  (fun K => (He.Fa.glo "_law_cell").ok K),
  (fun K => (He.Fa.glo "_law_digits").ok K),
  (fun K => (He.Fa.glo "_law_groups").ok K),
  (fun K => (He.Fa.glo "_law_numbers").ok K),
  (fun K => (He.Fa.glo "_law_agrees").ok K),
  (fun K => (He.Fa.glo "_law_rows").ok K),
  (fun K => (He.Fa.glo "_law_count").ok K),
  (fun K => (He.Fa.glo "_law_counted").ok K),
  (fun K => (He.Fa.glo "_law_walked").ok K),
  (fun K => (He.Fa.glo "_law_walked_in_turn").ok K),
  (fun K => (He.Fa.glo "_law_parta").ok K),
  (fun K => (He.Fa.glo "_law_marks").ok K),
  (fun K => (He.Fa.glo "_law_tells").ok K),
  (fun K => (He.Fa.glo "_law_draw").ok K),
  (fun K => (He.Fa.glo "_law_listed").ok K),
  (fun K => (He.Fa.glo "_law_ways").ok K),
  (fun K => (He.Fa.glo "_law_once").ok K),
  (fun K => (He.Fa.glo "_law_is_all").ok K),
  (fun K => (He.Fa.glo "_law_partb").ok K),
  (fun K => (He.Fa.glo "law").ok K)]
def fn : List Df := [
  ⟨fun K => He.ga K "_wall", "_wall", "_wall", s_wall, []⟩,
  ⟨fun K => He.ma K (He.ga K "SizesDiffer") "__init__", "__init__", "SizesDiffer.__init__", sSizesDifferu__initu_, []⟩,
  ⟨fun K => He.ga K "renumbered", "renumbered", "renumbered", srenumbered, []⟩,
  ⟨fun K => He.ga K "listed_cells", "listed_cells", "listed_cells", slisted_cells, []⟩,
  ⟨fun K => He.ga K "joined_marks", "joined_marks", "joined_marks", sjoined_marks, []⟩,
  ⟨fun K => He.ga K "check_sizes", "check_sizes", "check_sizes", scheck_sizes, []⟩,
  ⟨fun K => He.ma K (He.ga K "Sight") "__init__", "__init__", "Sight.__init__", sSightu__initu_, []⟩,
  ⟨fun K => recAt K "property" "Sight" "cells", "cells", "Sight.cells", sSight_cells, []⟩,
  ⟨fun K => He.ma K (He.ga K "Sight") "__eq__", "__eq__", "Sight.__eq__", sSightu__equ_, []⟩,
  ⟨fun K => He.ga K "marks_after", "marks_after", "marks_after", smarks_after, []⟩,
  ⟨fun K => He.ga K "all_sights", "all_sights", "all_sights", sall_sights, []⟩,
  ⟨fun K => He.ga K "row_after", "row_after", "row_after", srow_after, []⟩,
  ⟨fun K => He.ga K "sight_count", "sight_count", "sight_count", ssight_count, []⟩,
  ⟨fun K => He.ga K "in_order", "in_order", "in_order", sin_order, []⟩,
  ⟨fun K => He.ga K "split_off", "split_off", "split_off", ssplit_off, []⟩,
  ⟨fun K => He.ga K "splits", "splits", "splits", ssplits, []⟩,
  ⟨fun K => He.ga K "merges", "merges", "merges", smerges, []⟩,
  ⟨fun K => He.ga K "_law_whole", "_law_whole", "_law_whole", s_law_whole, []⟩,
  ⟨fun K => He.ga K "_law_cell", "_law_cell", "_law_cell", s_law_cell, []⟩,
  ⟨fun K => He.ga K "_law_digits", "_law_digits", "_law_digits", s_law_digits, []⟩,
  ⟨fun K => He.ga K "_law_groups", "_law_groups", "_law_groups", s_law_groups, []⟩,
  ⟨fun K => He.ga K "_law_numbers", "_law_numbers", "_law_numbers", s_law_numbers, []⟩,
  ⟨fun K => He.ga K "_law_agrees", "_law_agrees", "_law_agrees", s_law_agrees, []⟩,
  ⟨fun K => He.ga K "_law_rows", "_law_rows", "_law_rows", s_law_rows, []⟩,
  ⟨fun K => He.ga K "_law_count", "_law_count", "_law_count", s_law_count, []⟩,
  ⟨fun K => He.ga K "_law_counted", "_law_counted", "_law_counted", s_law_counted, []⟩,
  ⟨fun K => He.ga K "_law_walked", "_law_walked", "_law_walked", s_law_walked, []⟩,
  ⟨fun K => He.ga K "_law_walked_in_turn", "_law_walked_in_turn", "_law_walked_in_turn", s_law_walked_in_turn, []⟩,
  ⟨fun K => He.ga K "_law_parta", "_law_parta", "_law_parta", s_law_parta, []⟩,
  ⟨fun K => He.ga K "_law_marks", "_law_marks", "_law_marks", s_law_marks, []⟩,
  ⟨fun K => He.ga K "_law_tells", "_law_tells", "_law_tells", s_law_tells, []⟩,
  ⟨fun K => He.ga K "_law_draw", "_law_draw", "_law_draw", s_law_draw, []⟩,
  ⟨fun K => He.ga K "_law_listed", "_law_listed", "_law_listed", s_law_listed, []⟩,
  ⟨fun K => He.ga K "_law_ways", "_law_ways", "_law_ways", s_law_ways, []⟩,
  ⟨fun K => He.ga K "_law_once", "_law_once", "_law_once", s_law_once, []⟩,
  ⟨fun K => He.ga K "_law_is_all", "_law_is_all", "_law_is_all", s_law_is_all, []⟩,
  ⟨fun K => He.ga K "_law_partb", "_law_partb", "_law_partb", s_law_partb, []⟩,
  ⟨fun K => He.ga K "law", "law", "law", slaw, []⟩]
theorem tx_of {K : PySem.W.Frag} {h : Heap} {mg : Str → Option Value} (X : K.In h) (G : h.Ns mainGlobals mg) (c : SaysM fa fn K) : Tx K mg where
  f_len := He.free_ok X G (c.fact 0)
  f_set := He.free_ok X G (c.fact 1)
  f_tuple := He.free_ok X G (c.fact 2)
  f_list := He.free_ok X G (c.fact 3)
  f_range := He.free_ok X G (c.fact 4)
  f_enumerate := He.free_ok X G (c.fact 5)
  f_zip := He.free_ok X G (c.fact 6)
  f_int := He.free_ok X G (c.fact 7)
  f_bool := He.free_ok X G (c.fact 8)
  f_max := He.free_ok X G (c.fact 9)
  f_min := He.free_ok X G (c.fact 10)
  f_abs := He.free_ok X G (c.fact 11)
  f_sum := He.free_ok X G (c.fact 12)
  f_reversed := He.free_ok X G (c.fact 13)
  f_sorted := He.free_ok X G (c.fact 14)
  f_isinstance := He.free_ok X G (c.fact 15)
  f_ValueError := He.free_ok X G (c.fact 16)
  g_DealError := He.glo_ok X G (c.fact 17)
  g_NoDeals := He.glo_ok X G (c.fact 18)
  g_SizesDiffer := He.glo_ok X G (c.fact 19)
  g_Sight := He.glo_ok X G (c.fact 20)
  c_Sight := He.cls_ok (c.fact 21)
  n_size := He.noat_ok (c.fact 22)
  n_marks := He.noat_ok (c.fact 23)
  n_cells := He.noat_ok (c.fact 24)
  k_Sight := He.mkr_ok (c.fact 25)
  p_cells := ckProp_ok (c.fact 26)
  r_Sight := ckRead_ok (c.fact 27)
  o_eq := ckOpr_ok (c.fact 28)
  nf_NoneType := (c.fact 29)
  nf_int := (c.fact 30)
  nf_bool := (c.fact 31)
  nf_list := (c.fact 32)
  nf_tuple := (c.fact 33)
  nf_str := (c.fact 34)
  nf_Sight := (c.fact 35)
  cl_Sight := ckCl_ok (c.fact 36)
  is_Sight_Sight := of_decide_eq_true (c.fact 37)
  is_int_int := of_decide_eq_true (c.fact 38)
  is_int_bool := of_decide_eq_true (c.fact 39)
  is_tuple_tuple := of_decide_eq_true (c.fact 40)
  is_bool_bool := of_decide_eq_true (c.fact 41)
  is_NoDeals_NoDeals := of_decide_eq_true (c.fact 42)
  is_NoDeals_ValueError := of_decide_eq_true (c.fact 43)
  is_SizesDiffer_SizesDiffer := of_decide_eq_true (c.fact 44)
  is_SizesDiffer_ValueError := of_decide_eq_true (c.fact 45)
  is_SizesDiffer_NoDeals := of_decide_eq_true (c.fact 46)
  x_NoDeals := of_decide_eq_true (c.fact 47)
  ec_NoDeals := ckEC_ok (c.fact 48)
  x_SizesDiffer := of_decide_eq_true (c.fact 49)
  ec_SizesDiffer := ckEC_ok (c.fact 50)
  e_NoDeals := He.exc_ok (c.fact 51)
  oe_SizesDiffer := ckOex_ok (c.fact 52)
  ie_SizesDiffer := ckIni_ok (c.fact 53)
  nS_one := He.noat_ok (c.fact 54)
  nS_two := He.noat_ok (c.fact 55)
  tab_in_order := ckTab_ok (c.fact 56)
  gd__wall := He.glo_ok X G (c.fact 57)
  gd_renumbered := He.glo_ok X G (c.fact 58)
  gd_listed_cells := He.glo_ok X G (c.fact 59)
  gd_joined_marks := He.glo_ok X G (c.fact 60)
  gd_check_sizes := He.glo_ok X G (c.fact 61)
  gd_marks_after := He.glo_ok X G (c.fact 62)
  gd_all_sights := He.glo_ok X G (c.fact 63)
  gd_row_after := He.glo_ok X G (c.fact 64)
  gd_sight_count := He.glo_ok X G (c.fact 65)
  gd_in_order := He.glo_ok X G (c.fact 66)
  gd_split_off := He.glo_ok X G (c.fact 67)
  gd_splits := He.glo_ok X G (c.fact 68)
  gd_merges := He.glo_ok X G (c.fact 69)
  gd__law_whole := He.glo_ok X G (c.fact 70)
  gd__law_cell := He.glo_ok X G (c.fact 71)
  gd__law_digits := He.glo_ok X G (c.fact 72)
  gd__law_groups := He.glo_ok X G (c.fact 73)
  gd__law_numbers := He.glo_ok X G (c.fact 74)
  gd__law_agrees := He.glo_ok X G (c.fact 75)
  gd__law_rows := He.glo_ok X G (c.fact 76)
  gd__law_count := He.glo_ok X G (c.fact 77)
  gd__law_counted := He.glo_ok X G (c.fact 78)
  gd__law_walked := He.glo_ok X G (c.fact 79)
  gd__law_walked_in_turn := He.glo_ok X G (c.fact 80)
  gd__law_parta := He.glo_ok X G (c.fact 81)
  gd__law_marks := He.glo_ok X G (c.fact 82)
  gd__law_tells := He.glo_ok X G (c.fact 83)
  gd__law_draw := He.glo_ok X G (c.fact 84)
  gd__law_listed := He.glo_ok X G (c.fact 85)
  gd__law_ways := He.glo_ok X G (c.fact 86)
  gd__law_once := He.glo_ok X G (c.fact 87)
  gd__law_is_all := He.glo_ok X G (c.fact 88)
  gd__law_partb := He.glo_ok X G (c.fact 89)
  gd_law := He.glo_ok X G (c.fact 90)
  d__wall := c.def_ 0
  d_SizesDifferu__initu_ := c.def_ 1
  d_renumbered := c.def_ 2
  d_listed_cells := c.def_ 3
  d_joined_marks := c.def_ 4
  d_check_sizes := c.def_ 5
  d_Sightu__initu_ := c.def_ 6
  d_Sight_cells := c.def_ 7
  d_Sightu__equ_ := c.def_ 8
  d_marks_after := c.def_ 9
  d_all_sights := c.def_ 10
  d_row_after := c.def_ 11
  d_sight_count := c.def_ 12
  d_in_order := c.def_ 13
  d_split_off := c.def_ 14
  d_splits := c.def_ 15
  d_merges := c.def_ 16
  d__law_whole := c.def_ 17
  d__law_cell := c.def_ 18
  d__law_digits := c.def_ 19
  d__law_groups := c.def_ 20
  d__law_numbers := c.def_ 21
  d__law_agrees := c.def_ 22
  d__law_rows := c.def_ 23
  d__law_count := c.def_ 24
  d__law_counted := c.def_ 25
  d__law_walked := c.def_ 26
  d__law_walked_in_turn := c.def_ 27
  d__law_parta := c.def_ 28
  d__law_marks := c.def_ 29
  d__law_tells := c.def_ 30
  d__law_draw := c.def_ 31
  d__law_listed := c.def_ 32
  d__law_ways := c.def_ 33
  d__law_once := c.def_ 34
  d__law_is_all := c.def_ 35
  d__law_partb := c.def_ 36
  d_law := c.def_ 37
theorem Tx.a__wall {K : PySem.W.Frag} {mg : Str → Option Value} (T : Tx K mg) : At K mg "_wall" s_wall := ⟨T.d__wall, T.gd__wall⟩
theorem Tx.a_renumbered {K : PySem.W.Frag} {mg : Str → Option Value} (T : Tx K mg) : At K mg "renumbered" srenumbered := ⟨T.d_renumbered, T.gd_renumbered⟩
theorem Tx.a_listed_cells {K : PySem.W.Frag} {mg : Str → Option Value} (T : Tx K mg) : At K mg "listed_cells" slisted_cells := ⟨T.d_listed_cells, T.gd_listed_cells⟩
theorem Tx.a_joined_marks {K : PySem.W.Frag} {mg : Str → Option Value} (T : Tx K mg) : At K mg "joined_marks" sjoined_marks := ⟨T.d_joined_marks, T.gd_joined_marks⟩
theorem Tx.a_check_sizes {K : PySem.W.Frag} {mg : Str → Option Value} (T : Tx K mg) : At K mg "check_sizes" scheck_sizes := ⟨T.d_check_sizes, T.gd_check_sizes⟩
theorem Tx.a_marks_after {K : PySem.W.Frag} {mg : Str → Option Value} (T : Tx K mg) : At K mg "marks_after" smarks_after := ⟨T.d_marks_after, T.gd_marks_after⟩
theorem Tx.a_all_sights {K : PySem.W.Frag} {mg : Str → Option Value} (T : Tx K mg) : At K mg "all_sights" sall_sights := ⟨T.d_all_sights, T.gd_all_sights⟩
theorem Tx.a_row_after {K : PySem.W.Frag} {mg : Str → Option Value} (T : Tx K mg) : At K mg "row_after" srow_after := ⟨T.d_row_after, T.gd_row_after⟩
theorem Tx.a_sight_count {K : PySem.W.Frag} {mg : Str → Option Value} (T : Tx K mg) : At K mg "sight_count" ssight_count := ⟨T.d_sight_count, T.gd_sight_count⟩
theorem Tx.a_in_order {K : PySem.W.Frag} {mg : Str → Option Value} (T : Tx K mg) : At K mg "in_order" sin_order := ⟨T.d_in_order, T.gd_in_order⟩
theorem Tx.a_split_off {K : PySem.W.Frag} {mg : Str → Option Value} (T : Tx K mg) : At K mg "split_off" ssplit_off := ⟨T.d_split_off, T.gd_split_off⟩
theorem Tx.a_splits {K : PySem.W.Frag} {mg : Str → Option Value} (T : Tx K mg) : At K mg "splits" ssplits := ⟨T.d_splits, T.gd_splits⟩
theorem Tx.a_merges {K : PySem.W.Frag} {mg : Str → Option Value} (T : Tx K mg) : At K mg "merges" smerges := ⟨T.d_merges, T.gd_merges⟩
theorem Tx.a__law_whole {K : PySem.W.Frag} {mg : Str → Option Value} (T : Tx K mg) : At K mg "_law_whole" s_law_whole := ⟨T.d__law_whole, T.gd__law_whole⟩
theorem Tx.a__law_cell {K : PySem.W.Frag} {mg : Str → Option Value} (T : Tx K mg) : At K mg "_law_cell" s_law_cell := ⟨T.d__law_cell, T.gd__law_cell⟩
theorem Tx.a__law_digits {K : PySem.W.Frag} {mg : Str → Option Value} (T : Tx K mg) : At K mg "_law_digits" s_law_digits := ⟨T.d__law_digits, T.gd__law_digits⟩
theorem Tx.a__law_groups {K : PySem.W.Frag} {mg : Str → Option Value} (T : Tx K mg) : At K mg "_law_groups" s_law_groups := ⟨T.d__law_groups, T.gd__law_groups⟩
theorem Tx.a__law_numbers {K : PySem.W.Frag} {mg : Str → Option Value} (T : Tx K mg) : At K mg "_law_numbers" s_law_numbers := ⟨T.d__law_numbers, T.gd__law_numbers⟩
theorem Tx.a__law_agrees {K : PySem.W.Frag} {mg : Str → Option Value} (T : Tx K mg) : At K mg "_law_agrees" s_law_agrees := ⟨T.d__law_agrees, T.gd__law_agrees⟩
theorem Tx.a__law_rows {K : PySem.W.Frag} {mg : Str → Option Value} (T : Tx K mg) : At K mg "_law_rows" s_law_rows := ⟨T.d__law_rows, T.gd__law_rows⟩
theorem Tx.a__law_count {K : PySem.W.Frag} {mg : Str → Option Value} (T : Tx K mg) : At K mg "_law_count" s_law_count := ⟨T.d__law_count, T.gd__law_count⟩
theorem Tx.a__law_counted {K : PySem.W.Frag} {mg : Str → Option Value} (T : Tx K mg) : At K mg "_law_counted" s_law_counted := ⟨T.d__law_counted, T.gd__law_counted⟩
theorem Tx.a__law_walked {K : PySem.W.Frag} {mg : Str → Option Value} (T : Tx K mg) : At K mg "_law_walked" s_law_walked := ⟨T.d__law_walked, T.gd__law_walked⟩
theorem Tx.a__law_walked_in_turn {K : PySem.W.Frag} {mg : Str → Option Value} (T : Tx K mg) : At K mg "_law_walked_in_turn" s_law_walked_in_turn := ⟨T.d__law_walked_in_turn, T.gd__law_walked_in_turn⟩
theorem Tx.a__law_parta {K : PySem.W.Frag} {mg : Str → Option Value} (T : Tx K mg) : At K mg "_law_parta" s_law_parta := ⟨T.d__law_parta, T.gd__law_parta⟩
theorem Tx.a__law_marks {K : PySem.W.Frag} {mg : Str → Option Value} (T : Tx K mg) : At K mg "_law_marks" s_law_marks := ⟨T.d__law_marks, T.gd__law_marks⟩
theorem Tx.a__law_tells {K : PySem.W.Frag} {mg : Str → Option Value} (T : Tx K mg) : At K mg "_law_tells" s_law_tells := ⟨T.d__law_tells, T.gd__law_tells⟩
theorem Tx.a__law_draw {K : PySem.W.Frag} {mg : Str → Option Value} (T : Tx K mg) : At K mg "_law_draw" s_law_draw := ⟨T.d__law_draw, T.gd__law_draw⟩
theorem Tx.a__law_listed {K : PySem.W.Frag} {mg : Str → Option Value} (T : Tx K mg) : At K mg "_law_listed" s_law_listed := ⟨T.d__law_listed, T.gd__law_listed⟩
theorem Tx.a__law_ways {K : PySem.W.Frag} {mg : Str → Option Value} (T : Tx K mg) : At K mg "_law_ways" s_law_ways := ⟨T.d__law_ways, T.gd__law_ways⟩
theorem Tx.a__law_once {K : PySem.W.Frag} {mg : Str → Option Value} (T : Tx K mg) : At K mg "_law_once" s_law_once := ⟨T.d__law_once, T.gd__law_once⟩
theorem Tx.a__law_is_all {K : PySem.W.Frag} {mg : Str → Option Value} (T : Tx K mg) : At K mg "_law_is_all" s_law_is_all := ⟨T.d__law_is_all, T.gd__law_is_all⟩
theorem Tx.a__law_partb {K : PySem.W.Frag} {mg : Str → Option Value} (T : Tx K mg) : At K mg "_law_partb" s_law_partb := ⟨T.d__law_partb, T.gd__law_partb⟩
theorem Tx.a_law {K : PySem.W.Frag} {mg : Str → Option Value} (T : Tx K mg) : At K mg "law" slaw := ⟨T.d_law, T.gd_law⟩
end K03
set_option Elab.async false
set_option linter.all false
set_option maxRecDepth 100000
set_option maxHeartbeats 0
/-! K03: the head's run. -/
namespace K03
open PySem PySem.Spec PyProof.Rows L2 Ms
abbrev R : PySem.W.OpenRow := PySem.W.OpenLaw.row PySem.Challenge.rw_manysights_k03_sights_listed
abbrev hk : PySem.W.Hook := hookT 5 "in_order" fa fn
def ob (s : PySem.W.SharedT) : AlM := obsTG 5 "in_order" fa fn (HandSHeadRun.getT s)
theorem ob_eq (s : PySem.W.SharedT) : ob s = hk.obs s.abs := obsTG_eq (HandSHeadRun.getT_eq s)
def loose : List PySem.Str := (["_wall", "DealError", "NoDeals", "SizesDiffer", "renumbered", "listed_cells", "joined_marks", "check_sizes", "Sight", "marks_after", "all_sights", "row_after", "sight_count", "in_order", "split_off", "splits", "merges", "_law_whole", "_law_cell", "_law_digits", "_law_groups", "_law_numbers", "_law_agrees", "_law_rows"] : List PySem.Str) ++ (["_law_count", "_law_counted", "_law_walked", "_law_walked_in_turn", "_law_parta", "_law_marks", "_law_tells", "_law_draw", "_law_listed", "_law_ways", "_law_once", "_law_is_all", "_law_partb"] : List PySem.Str)
theorem run (w : World) : HandSHeadRun.RunEq R (PySem.W.view R.prog [16, 41]) hk ob 4000 loose w := by
  intro os
  kernel_rfl
end K03
set_option Elab.async false
set_option linter.all false
set_option maxRecDepth 100000
set_option maxHeartbeats 4000000
/-! K03: the row holds when the law's def keeps its promise (the table of in_order's lambdas is told apart from the top's facts). -/
namespace K03
open PySem PySem.Spec PyProof.Rows L2 Ms
abbrev qLam0 : Str := ("in_order" : Str) ++ ".<locals>." ++ "<lambda>"
def spLaw0 (K : PySem.W.Frag) (Pt : Addr) : Sp := fun vs H Q _ => ∃ (a : Addr) (ns : List Int), vs = [.ref a] ∧ SqL K H a (ns.map V.int) ∧ LamX.TabS H Pt qLam0 ∧ ∀ H', Q (.bl true) H'
def Facts : Prop := ∀ (P : Program) (w : World) (K : PySem.W.Frag) (mg : Str → Option Value) (h : Heap) (f c Pt : Addr), K.In h → h.Ns mainGlobals mg → mg ("law" : Str) = some (.ref f) → SaysM fa fn K → PySem.W.tabIn K "in_order" = some (c, Pt) →
    ∃ fd : FuncData, (∀ (s : Shared) (v : Value), BindsTo s fd ⟨[v], []⟩ [("script", v)]) ∧ ∀ base : Heap, K.In base → base.Ns mainGlobals mg → LamX.TabB base mg c Pt → FnOk P w K mg base CX0 9 f fd ["script"] (spLaw0 K Pt)
theorem tab_says {K : PySem.W.Frag} (c : SaysM fa fn K) : ckTab "in_order" K = true := c.both.1 _ (by unfold fa; simp)
end K03
section
open PySem PySem.W PySem.Calls PyProof.Rows
theorem K03.close (HF : K03.Facts) : PySem.Challenge.rw_manysights_k03_sights_listed.Holds := by
  w_on; o_law
  refine HandSHeadRun.head_any (r := OpenLaw.row PySem.Challenge.rw_manysights_k03_sights_listed) (q := view (OpenLaw.row PySem.Challenge.rw_manysights_k03_sights_listed).prog [16, 41]) (H := K03.hk) (ob := K03.ob) (M := 4000) (loose := K03.loose) (d := HandSHeadRun.topDef (OpenLaw.row PySem.Challenge.rw_manysights_k03_sights_listed).prog 41) (kwd := []) K03.ob_eq
    (by kernel_rfl) (fun s => by kernel_rfl) K03.run (by kernel_rfl) (by kernel_rfl) (by kernel_rfl) (by rfl) (by first | assumption | decide +kernel) (by decide +kernel) ⟨rfl, rfl, rfl, rfl, rfl, by decide +kernel⟩ ?hw ?hc
  case hw => w_witness2
  case hc =>
    refine Att.attach_callB (n := 63) rfl rfl fun w s₀ s₁ mg mb fa o pm cd doc a vs ns G Y ho hd hcd hmg0 hobj hints hlen hbits hg => ?_
    obtain ⟨K, KX, cc⟩ := Y
    have hmg : mg ("law" : PySem.Str) = some (.ref fa) := by
      have e : (HandSHeadRun.topDef (OpenLaw.row PySem.Challenge.rw_manysights_k03_sights_listed).prog 41).name = ("law" : PySem.Str) := by kernel_rfl
      rw [← e]
      exact hmg0
    obtain ⟨c, Pt, ht, nP, _⟩ := Ms.ckTab_ok (K03.tab_says cc)
    obtain ⟨C, hT⟩ := tab_of G.T KX (x := "in_order") (d := HandSHeadRun.topDef (OpenLaw.row PySem.Challenge.rw_manysights_k03_sights_listed).prog 16) (by kernel_rfl) ht
    obtain ⟨fd, hb, hF⟩ := HF (PySem.Challenge.rw_manysights_k03_sights_listed).prog w K mg _ fa c Pt KX G.T.g hmg cc ht
    refine LamX.law_callTs (cs := [(c, Pt)]) KX G.T.g G.T.b G.T.builtins G.T.nolimit hg (fun p hp => by rw [List.mem_singleton.mp hp]; exact hT) (fun p hp => by rw [List.mem_singleton.mp hp]; exact nP) (fun p hp => by rw [List.mem_singleton.mp hp]; exact C) G.T.bmain hobj hints (Nat.le_trans hlen (by decide)) ⟨by decide, by decide, by decide⟩
      (fun base h1 h2 h3 => hF base h1 h2 (h3 _ (List.mem_singleton.mpr rfl))) hb (fun H hH hS => ⟨a, ns, rfl, hS, LamX.TabS.nil (hH _ (List.mem_singleton.mpr rfl)), fun _ => rfl⟩) fun H e s' z => z
end
set_option Elab.async false
set_option linter.all false
set_option maxRecDepth 100000
set_option maxHeartbeats 4000000
/-! d.setdefault(t, x) where the keys are tuples. -/
namespace Ms
open PySem PySem.Spec PyProof.Rows L2
section
variable {X : Cx} {pins : List (Addr × Obj)} {σ : St} {H : Hp} {s : Shared} {a b : Addr} {r : Value} {d : V} {k : List Key} {A : Around} {E : Value → Shared → Prop}
theorem d_setdT {kvs : List (List Key × V)} {Q : Value → Shared → Prop} (hu : A.units + 1 < cLine) (I : Inv X pins σ H s) (e : H a = some (.dT kvs)) (eb : H b = some (.tup (k.map kV))) (rd : RelV d r) (hl : kvs.length < sizeLine)
    (h1 : ∀ v, valV kvs k = some v → ∀ (w' : Value) (s' : Shared), Inv X pins σ H s' → RelV v w' → Q w' s')
    (h2 : valV kvs k = none → ∀ (w' : Value) (s' : Shared), Inv X pins σ (upd H a (.dT (putK kvs k d))) s' → RelV d w' → Q w' s') :
    wpAny (model X.prog X.w) A (call (.builtin "dict.setdefault") [.ref a, .ref b, r]) Q E s := by
  obtain ⟨z, hd, xs, rel, dd⟩ := dt_of I.hok e
  have hz : xs.length ≤ sizeLine := by rw [← Paired.length rel]; exact z
  refine call_setdefault_heap (hsz := hz) (knd := tupleKind (mixKind X.prog X.w)) (tupleKind_room_in1 hu) (key_of I.hok eb) hd dd (fun p hp => ?_) fun hn h' dd' hs => ?_
  · have q := rel.val k
    rw [hp] at q
    cases q0 : valV kvs k with
    | none =>
      rw [q0] at q
      exact (show False from q).elim
    | some v0 =>
      rw [q0] at q
      exact h1 v0 q0 _ _ (I.tok _) q
  · have q := rel.val k
    rw [hn] at q
    cases q0 : valV kvs k with
    | some v0 =>
      rw [q0] at q
      exact (show False from q).elim
    | none =>
      have hl2 : (putK kvs k d).length ≤ sizeLine := by
        have := length_putK kvs k d
        omega
      obtain ⟨q, es, ep, hq, g2, g3, g4, _, g5⟩ := dd'
      refine h2 q0 _ _ (d_write I (by rw [e]; exact True.intro) hs ⟨q, hq⟩ ⟨hl2, hd, _, (rel.put k eb rd).keeps fun c ys ec => ?_, q, es, ep, hq, g2, g3, g4, g5⟩) rd
      rw [upd_ne (ne_of ec e (fun z => nomatch z))]
      exact ec
end
/-- d.setdefault(y, z), y a tuple -/
def tDSetdT (td ty tx : TE) : TE := fun σ H Q => td σ H fun x H1 => ∃ a, x = .ref a ∧ IsD H1 a ∧ ty σ H1 fun y H2 => tx σ H2 fun z H3 => ∃ (kvs : List (List Key × V)) (k : List Key) (b : Addr), H3 a = some (.dT kvs) ∧ y = .ref b ∧ H3 b = some (.tup (k.map kV)) ∧ kvs.length < sizeLine ∧
  (∀ v, valV kvs k = some v → Q v H3) ∧ (valV kvs k = none → Q z (upd H3 a (.dT (putK kvs k z))))
section
variable {X : Cx} {o e f : Expr} {td ty tx : TE} {apos cpos : Pos}
theorem pe_dsetdT (hu : X.A.units + 1 < cLine) (ho : PE X o td) (he : PE X e ty) (hf : PE X f tx) (m : M2 X o "setdefault" apos e f cpos) : PE X (.Call (.Attribute o "setdefault" apos) [e, f] [] cpos) (tDSetdT td ty tx) := by
  refine ⟨fun pins s σ H Q I h => ?_⟩
  refine wpAny_Call_method m.base m.few m.line PySem.F.plainAttrs_dict PySem.F.slot_dict_setdefault PySem.F.type_dict_setdefault (thn (ho.run pins s σ H _ I h) fun u s1 ⟨x, H1, I1, rx, a, ex, d, q1⟩ => ?_)
  subst ex
  obtain rfl : u = Value.ref a := rx
  obtain ⟨t1, t2, _⟩ := isD_at I1 d
  refine ⟨t1, t2, ?_⟩
  rw [m.trees]
  refine Calls.callWith_builtin rfl (Calls.evalArgs_plain (Calls.spliced_cons (thn (he.run pins s1 σ H1 _ I1 q1) fun iv s2 ⟨y, H2, I2, ry, q2⟩ =>
    Calls.spliced_cons (thn (hf.run pins s2 σ H2 _ I2 q2) fun fv s3 ⟨z, H3, I3, rz, kvs, k, b, ea, ey, eb, hl, q3, q4⟩ => Calls.spliced_nil ?_))))
  subst ey
  obtain rfl : iv = Value.ref b := ry
  exact d_setdT hu I3 ea eb rz hl (fun v hv w' s4 I4 rw' => ⟨v, _, I4, rw', q3 v hv⟩) fun hn w' s4 I4 rw' => ⟨z, _, I4, rw', q4 hn⟩
end
end Ms
set_option Elab.async false
set_option linter.all false
set_option maxRecDepth 100000
set_option maxHeartbeats 4000000
/-! Ms, plain: numbers by first places, cells. -/
namespace Ms
theorem snoc_ind {α : Type} {C : List α → Prop} (h0 : C []) (hs : ∀ l a, C l → C (l ++ [a])) : ∀ l, C l := fun l => by
  have h : ∀ n (l : List α), l.length = n → C l := fun n => by
    induction n with
    | zero => intro l hl; rw [List.length_eq_zero_iff.mp hl]; exact h0
    | succ n ih =>
      intro l hl
      have ne : l ≠ [] := by intro z; rw [z] at hl; cases hl
      rw [← List.dropLast_concat_getLast ne]
      exact hs _ _ (ih _ (by rw [List.length_dropLast, hl]; rfl))
  exact h _ l rfl
section
variable {κ ι : Type} [DecidableEq κ] [DecidableEq ι]
/-- each once, by first places -/
def firsts (ks : List κ) : List κ := ks.foldl (fun acc k => if k ∈ acc then acc else acc ++ [k]) []
def ren (ks : List κ) : List Nat := ks.map fun k => (firsts ks).idxOf k
theorem firsts_nil : firsts ([] : List κ) = [] := rfl
theorem firsts_snoc (ks : List κ) (k : κ) : firsts (ks ++ [k]) = if k ∈ firsts ks then firsts ks else firsts ks ++ [k] := by
  unfold firsts
  rw [List.foldl_append] <;> rfl
theorem mem_firsts (ks : List κ) : ∀ k : κ, k ∈ firsts ks ↔ k ∈ ks := by
  induction ks using snoc_ind with
  | h0 => intro k; simp [firsts_nil]
  | hs l a ih =>
    intro k
    rw [firsts_snoc]
    by_cases h : a ∈ firsts l
    · rw [if_pos h, ih, List.mem_append, List.mem_singleton]
      exact ⟨.inl, fun z => z.elim id fun e => by rw [e]; exact (ih a).mp h⟩
    · rw [if_neg h, List.mem_append, List.mem_append, ih]
theorem firsts_nodup (ks : List κ) : (firsts ks).Nodup := by
  induction ks using snoc_ind with
  | h0 => exact List.nodup_nil
  | hs l a ih =>
    rw [firsts_snoc]
    by_cases h : a ∈ firsts l
    · rw [if_pos h]; exact ih
    · rw [if_neg h]
      exact List.nodup_append.mpr ⟨ih, List.nodup_cons.mpr ⟨List.not_mem_nil, List.nodup_nil⟩, fun x hx y hy e => h (by rw [List.mem_singleton] at hy; rw [← hy, ← e]; exact hx)⟩
theorem firsts_old {l : List κ} {k : κ} (h : k ∈ l) : firsts (l ++ [k]) = firsts l := by rw [firsts_snoc, if_pos ((mem_firsts l k).mpr h)]
theorem firsts_new {l : List κ} {k : κ} (h : ¬ k ∈ l) : firsts (l ++ [k]) = firsts l ++ [k] := by rw [firsts_snoc, if_neg fun z => h ((mem_firsts l k).mp z)]
theorem ix_snoc {l : List κ} {k j : κ} (h : j ∈ l) : (firsts (l ++ [k])).idxOf j = (firsts l).idxOf j := by
  by_cases hk : k ∈ l
  · rw [firsts_old hk]
  · rw [firsts_new hk, List.idxOf_append, if_pos ((mem_firsts l j).mpr h)]
theorem ix_self (l : List κ) (k : κ) : (firsts (l ++ [k])).idxOf k = (firsts l).idxOf k := by
  by_cases hk : k ∈ l
  · rw [firsts_old hk]
  · have hn : ¬ k ∈ firsts l := fun z => hk ((mem_firsts l k).mp z)
    rw [firsts_new hk, List.idxOf_append, if_neg hn, List.idxOf_eq_length hn]
    simp
theorem ren_snoc (l : List κ) (k : κ) : ren (l ++ [k]) = ren l ++ [(firsts l).idxOf k] := by
  unfold ren
  rw [List.map_append, List.map_singleton, ix_self]
  congr 1
  exact List.map_congr_left fun j hj => ix_snoc hj
theorem ren_nil : ren ([] : List κ) = [] := rfl
theorem ren_len (l : List κ) : (ren l).length = l.length := List.length_map ..
theorem ren_at {l : List κ} {i : Nat} {k : κ} (h : l[i]? = some k) : (ren l)[i]? = some ((firsts l).idxOf k) := by
  unfold ren
  rw [List.getElem?_map, h] <;> rfl
theorem ix_lt {l : List κ} {k : κ} (h : k ∈ l) : (firsts l).idxOf k < (firsts l).length := List.idxOf_lt_length_of_mem ((mem_firsts l k).mpr h)
theorem ix_inj {l : List κ} {k j : κ} (hk : k ∈ l) (hj : j ∈ l) (e : (firsts l).idxOf k = (firsts l).idxOf j) : k = j := by
  have h1 := List.getElem_idxOf (ix_lt hk)
  have h2 := List.getElem_idxOf (ix_lt hj)
  rw [← h1, ← h2]
  simp only [e]
/-- the pattern of equal places -/
def Alike (ks : List κ) (js : List ι) : Prop := ks.length = js.length ∧ ∀ (i j : Nat) (a b : κ) (c d : ι), ks[i]? = some a → ks[j]? = some b → js[i]? = some c → js[j]? = some d → (a = b ↔ c = d)
theorem Alike.symm {ks : List κ} {js : List ι} (h : Alike ks js) : Alike js ks := ⟨h.1.symm, fun i j a b c d h1 h2 h3 h4 => (h.2 i j c d a b h3 h4 h1 h2).symm⟩
theorem getE {α : Type} {l : List α} {i : Nat} (h : i < l.length) : l[i]? = some l[i] := List.getElem?_eq_getElem h
theorem ltE {α : Type} {l : List α} {i : Nat} {a : α} (h : l[i]? = some a) : i < l.length := (List.getElem?_eq_some_iff.mp h).1
theorem Alike.trans {μ : Type} [DecidableEq μ] {ks : List κ} {js : List ι} {ms : List μ} (h : Alike ks js) (g : Alike js ms) : Alike ks ms := ⟨h.1.trans g.1, fun i j a b c d h1 h2 h3 h4 => by
  have li : i < js.length := h.1 ▸ ltE h1
  have lj : j < js.length := h.1 ▸ ltE h2
  exact (h.2 i j _ _ _ _ h1 h2 (getE li) (getE lj)).trans (g.2 i j _ _ _ _ (getE li) (getE lj) h3 h4)⟩
theorem alike_ren (l : List κ) : Alike l (ren l) := ⟨(ren_len l).symm, fun i j a b c d h1 h2 h3 h4 => by
  rw [ren_at h1] at h3
  rw [ren_at h2] at h4
  rw [← Option.some.inj h3, ← Option.some.inj h4]
  exact ⟨fun e => by rw [e], fun e => ix_inj (List.mem_of_getElem? h1) (List.mem_of_getElem? h2) e⟩⟩
theorem alike_map {l : List κ} {f : κ → ι} (hf : ∀ a b, f a = f b → a = b) : Alike l (l.map f) := ⟨(List.length_map ..).symm, fun i j a b c d h1 h2 h3 h4 => by
  rw [List.getElem?_map, h1] at h3
  rw [List.getElem?_map, h2] at h4
  rw [← Option.some.inj h3, ← Option.some.inj h4]
  exact ⟨fun e => by rw [e], hf a b⟩⟩
theorem Alike.init {l : List κ} {k : κ} {m : List ι} {j : ι} (h : Alike (l ++ [k]) (m ++ [j])) : Alike l m := by
  obtain ⟨e, h⟩ := h
  have e' : l.length = m.length := by simpa using e
  refine ⟨e', fun p q a b c d h1 h2 h3 h4 => ?_⟩
  have up : ∀ {α : Type} {x : List α} {y a : α} {p : Nat}, x[p]? = some a → (x ++ [y])[p]? = some a := fun {α x y a p} z => by rw [List.getElem?_append_left (ltE z)]; exact z
  exact h p q a b c d (up h1) (up h2) (up h3) (up h4)
theorem ren_alike {ks : List κ} : ∀ {js : List ι}, Alike ks js → ren ks = ren js ∧ (firsts ks).length = (firsts js).length := by
  induction ks using snoc_ind with
  | h0 =>
    intro js h
    have e : js = [] := List.length_eq_zero_iff.mp h.1.symm
    rw [e]
    exact ⟨rfl, rfl⟩
  | hs l k ih =>
    intro js h
    have ne : js ≠ [] := fun z => by have := h.1; rw [z, List.length_append] at this; simp at this
    obtain ⟨m, j, rfl⟩ : ∃ m j, js = m ++ [j] := ⟨_, _, (List.dropLast_concat_getLast ne).symm⟩
    obtain ⟨r1, r2⟩ := ih h.init
    have el : l.length = m.length := h.init.1
    have last1 : (l ++ [k])[l.length]? = some k := by simp
    have last2 : (m ++ [j])[l.length]? = some j := by rw [el]; simp
    have up : ∀ {α : Type} {x : List α} {y a : α} {p : Nat}, x[p]? = some a → (x ++ [y])[p]? = some a := fun {α x y a p} z => by rw [List.getElem?_append_left (ltE z)]; exact z
    rw [ren_snoc, ren_snoc, r1]
    by_cases hk : k ∈ l
    · obtain ⟨p, hp⟩ := List.mem_iff_getElem?.mp hk
      have hp2 : p < m.length := el ▸ ltE hp
      have ej : m[p] = j := (h.2 p l.length k k _ _ (up hp) last1 (up (getE hp2)) last2).mp rfl
      have gj : m[p]? = some j := by rw [getE hp2, ej]
      have hj : j ∈ m := List.mem_of_getElem? gj
      have a1 := ren_at hp
      have a2 := ren_at gj
      rw [r1, a2] at a1
      rw [firsts_old hk, firsts_old hj, Option.some.inj a1]
      exact ⟨rfl, r2⟩
    · have hj : ¬ j ∈ m := fun z => by
        obtain ⟨p, hp⟩ := List.mem_iff_getElem?.mp z
        have hp2 : p < l.length := el ▸ ltE hp
        have ek : l[p] = k := (h.2 p l.length _ _ j j (up (getE hp2)) last1 (up hp) last2).mpr rfl
        exact hk (ek ▸ List.getElem_mem hp2)
      rw [firsts_new hk, firsts_new hj, List.idxOf_eq_length fun z => hk ((mem_firsts l k).mp z), List.idxOf_eq_length fun z => hj ((mem_firsts m j).mp z), r2]
      exact ⟨rfl, by rw [List.length_append, List.length_append, r2] <;> rfl⟩
theorem ren_ren (l : List κ) : ren (ren l) = ren l := (ren_alike (alike_ren l).symm).1
theorem ren_map {l : List κ} {f : κ → ι} (hf : ∀ a b, f a = f b → a = b) : ren (l.map f) = ren l := (ren_alike (alike_map hf).symm).1
/-- a row of numbers as a sight holds it -/
def Row (r : List Nat) : Prop := ren r = r
theorem row_ren (l : List κ) : Row (ren l) := ren_ren l
theorem firsts_ren (l : List κ) : firsts (ren l) = List.range (firsts l).length := by
  induction l using snoc_ind with
  | h0 => rfl
  | hs l k ih =>
    rw [ren_snoc]
    by_cases hk : k ∈ l
    · rw [firsts_old hk, firsts_old, ih]
      obtain ⟨p, hp⟩ := List.mem_iff_getElem?.mp hk
      exact List.mem_of_getElem? (ren_at hp)
    · have e := List.idxOf_eq_length fun z => hk ((mem_firsts l k).mp z)
      rw [e, firsts_new, ih, firsts_new hk, List.length_append, List.length_singleton, List.range_succ]
      intro z
      rw [← mem_firsts, ih, List.mem_range] at z
      exact Nat.lt_irrefl _ z
theorem ren_lt {l : List κ} {n : Nat} (h : n ∈ ren l) : n < (firsts l).length := by
  rw [← mem_firsts, firsts_ren, List.mem_range] at h
  exact h
theorem firsts_le (l : List κ) : (firsts l).length ≤ l.length := by
  induction l using snoc_ind with
  | h0 => exact Nat.le_refl _
  | hs l k ih =>
    rw [firsts_snoc, List.length_append, List.length_singleton]
    by_cases h : k ∈ firsts l
    · rw [if_pos h]; omega
    · rw [if_neg h, List.length_append, List.length_singleton]; omega
/-- where m stands -/
def places (m : κ) (ks : List κ) : List Nat := (List.range ks.length).filter fun i => decide (ks[i]? = some m)
def cellsOf (ks : List κ) : List (List Nat) := (firsts ks).map fun m => places m ks
theorem places_snoc (m : κ) (l : List κ) (k : κ) : places m (l ++ [k]) = if m = k then places m l ++ [l.length] else places m l := by
  unfold places
  rw [List.length_append, List.length_singleton, List.range_succ, List.filter_append]
  have e : (List.range l.length).filter (fun i => decide ((l ++ [k])[i]? = some m)) = (List.range l.length).filter fun i => decide (l[i]? = some m) := by
    refine List.filter_congr fun i hi => ?_
    rw [List.getElem?_append_left (List.mem_range.mp hi)]
  rw [e]
  by_cases h : m = k
  · rw [if_pos h, h]; simp
  · rw [if_neg h]
    have : ¬ k = m := fun z => h z.symm
    simp [this]
theorem places_out {m : κ} {l : List κ} (h : ¬ m ∈ l) : places m l = [] := by
  unfold places
  rw [List.filter_eq_nil_iff]
  intro i _
  simp only [decide_eq_true_eq]
  exact fun z => h (List.mem_of_getElem? z)
end
end Ms
set_option Elab.async false
set_option linter.all false
set_option maxRecDepth 100000
set_option maxHeartbeats 4000000
/-! Ms, plain: cells joined where they meet. -/
namespace Ms
inductive Eqv (G : Nat → Nat → Prop) : Nat → Nat → Prop where
  | of {a b : Nat} (h : G a b) : Eqv G a b
  | refl (a : Nat) : Eqv G a a
  | symm {a b : Nat} (h : Eqv G a b) : Eqv G b a
  | trans {a b c : Nat} (h : Eqv G a b) (g : Eqv G b c) : Eqv G a c
theorem Eqv.mono {G G' : Nat → Nat → Prop} (h : ∀ p q, G p q → Eqv G' p q) {a b : Nat} (e : Eqv G a b) : Eqv G' a b := by
  induction e with
  | of g => exact h _ _ g
  | refl a => exact .refl a
  | symm _ ih => exact ih.symm
  | trans _ _ i1 i2 => exact i1.trans i2
/-- two classes made one -/
def Mg (R : Nat → Nat → Prop) (u i a b : Nat) : Prop := R a b ∨ (R a u ∧ R i b) ∨ (R a i ∧ R u b)
theorem eqv_step {G G' : Nat → Nat → Prop} {u i : Nat} (h1 : ∀ p q, G p q → Eqv G' p q) (h2 : Eqv G' u i) (h3 : ∀ p q, G' p q → Mg (Eqv G) u i p q) (a b : Nat) : Eqv G' a b ↔ Mg (Eqv G) u i a b := by
  constructor
  · intro e
    induction e with
    | of g => exact h3 _ _ g
    | refl a => exact .inl (.refl a)
    | symm _ ih =>
      rcases ih with h | ⟨h, k⟩ | ⟨h, k⟩
      · exact .inl h.symm
      · exact .inr (.inr ⟨k.symm, h.symm⟩)
      · exact .inr (.inl ⟨k.symm, h.symm⟩)
    | trans _ _ i1 i2 =>
      rcases i1 with h | ⟨h, k⟩ | ⟨h, k⟩
      · rcases i2 with h' | ⟨h', k'⟩ | ⟨h', k'⟩
        · exact .inl (h.trans h')
        · exact .inr (.inl ⟨h.trans h', k'⟩)
        · exact .inr (.inr ⟨h.trans h', k'⟩)
      · rcases i2 with h' | ⟨h', k'⟩ | ⟨h', k'⟩
        · exact .inr (.inl ⟨h, k.trans h'⟩)
        · exact .inr (.inl ⟨h, k'⟩)
        · exact .inl (h.trans k')
      · rcases i2 with h' | ⟨h', k'⟩ | ⟨h', k'⟩
        · exact .inr (.inr ⟨h, k.trans h'⟩)
        · exact .inl (h.trans k')
        · exact .inr (.inr ⟨h, k'⟩)
  · have up : ∀ {p q}, Eqv G p q → Eqv G' p q := fun {p q} e => e.mono h1
    rintro (h | ⟨h, k⟩ | ⟨h, k⟩)
    · exact up h
    · exact ((up h).trans h2).trans (up k)
    · exact ((up h).trans h2.symm).trans (up k)
section
variable {κ ι : Type} [DecidableEq κ] [DecidableEq ι]
/-- places below m alike in one, places below n alike in two -/
def Gn (one : List κ) (m : Nat) (two : List ι) (n : Nat) (p q : Nat) : Prop := (p < m ∧ q < m ∧ one[p]? = one[q]?) ∨ (p < n ∧ q < n ∧ two[p]? = two[q]?)
theorem gn_swap {one : List κ} {two : List ι} {m n p q : Nat} : Gn one m two n p q ↔ Gn two n one m p q := Or.comm
/-- the first place of x -/
def ix1 (two : List ι) (x : ι) : Nat := two.idxOf x
theorem idx_first {two : List ι} {i : Nat} {x : ι} (h : two[i]? = some x) : ix1 two x ≤ i ∧ two[ix1 two x]? = some x := by
  unfold ix1
  have hx : x ∈ two := List.mem_of_getElem? h
  have l := List.idxOf_lt_length_of_mem hx
  refine ⟨?_, by rw [getE l, List.getElem_idxOf l]⟩
  rcases Nat.lt_or_ge i (two.idxOf x) with g | g
  · exfalso
    have q := List.not_of_lt_findIdx (p := fun y => y == x) (xs := two) (i := i) (by unfold List.idxOf at g; exact g)
    have li := ltE h
    rw [getE li] at h
    rw [Option.some.inj h] at q
    simp at q
  · exact g
/-- one more place of two -/
theorem gn_two {one : List κ} {two : List ι} {m i : Nat} {x : ι} (h : two[i]? = some x) (a b : Nat) : Eqv (Gn one m two (i + 1)) a b ↔ Mg (Eqv (Gn one m two i)) (ix1 two x) i a b := by
  obtain ⟨l, e⟩ := idx_first h
  refine eqv_step (fun p q g => .of ?_) (.of (.inr ⟨by omega, by omega, by rw [e, h]⟩)) (fun p q g => ?_) a b
  · rcases g with ⟨h1, h2, h3⟩ | ⟨h1, h2, h3⟩
    · exact .inl ⟨h1, h2, h3⟩
    · exact .inr ⟨by omega, by omega, h3⟩
  · rcases g with ⟨h1, h2, h3⟩ | ⟨h1, h2, h3⟩
    · exact .inl (.of (.inl ⟨h1, h2, h3⟩))
    · have key : ∀ q, q < i → two[q]? = some x → Eqv (Gn one m two i) (ix1 two x) q := fun q hq hx => by
        obtain ⟨l2, _⟩ := idx_first hx
        exact .of (.inr ⟨by omega, hq, by rw [e, hx]⟩)
      rcases Nat.lt_or_ge p i with hp | hp
      · rcases Nat.lt_or_ge q i with hq | hq
        · exact .inl (.of (.inr ⟨hp, hq, h3⟩))
        · have eq : q = i := by omega
          subst eq
          exact .inr (.inl ⟨(key p hp (by rw [h3, h])).symm, .refl _⟩)
      · have ep : p = i := by omega
        subst ep
        rcases Nat.lt_or_ge q p with hq | hq
        · exact .inr (.inr ⟨.refl _, key q hq (by rw [← h3, h])⟩)
        · have eq : q = p := by omega
          rw [eq]
          exact .inl (.refl _)
theorem gn_one {one : List κ} {two : List ι} {n i : Nat} {x : κ} (h : one[i]? = some x) (a b : Nat) : Eqv (Gn one (i + 1) two n) a b ↔ Mg (Eqv (Gn one i two n)) (ix1 one x) i a b := by
  have sw : ∀ m a b, Eqv (Gn one m two n) a b ↔ Eqv (Gn two n one m) a b := fun m a b => ⟨fun e => e.mono fun p q g => .of (gn_swap.mp g), fun e => e.mono fun p q g => .of (gn_swap.mpr g)⟩
  rw [sw, gn_two h]
  unfold Mg
  rw [← sw, ← sw, ← sw, ← sw, ← sw]
/-- the places that both rows join -/
def Jn (one : List κ) (two : List ι) (a b : Nat) : Prop := Eqv (Gn one one.length two two.length) a b
theorem jn_swap {one : List κ} {two : List ι} {a b : Nat} : Jn one two a b ↔ Jn two one a b :=
  ⟨fun e => e.mono fun p q g => .of (gn_swap.mp g), fun e => e.mono fun p q g => .of (gn_swap.mpr g)⟩
/-- a row whose places are alike where the two rows are joined -/
def Joins {μ : Type} (one : List κ) (two : List ι) (r : List μ) : Prop := r.length = one.length ∧ ∀ (i j : Nat) (a b : μ), r[i]? = some a → r[j]? = some b → (a = b ↔ Jn one two i j)
theorem Joins.alike {μ ν : Type} [DecidableEq μ] [DecidableEq ν] {one : List κ} {two : List ι} {r : List μ} {t : List ν} (h : Joins one two r) (g : Joins one two t) : Alike r t := ⟨h.1.trans g.1.symm, fun i j a b c d h1 h2 h3 h4 => (h.2 i j a b h1 h2).trans (g.2 i j c d h3 h4).symm⟩
theorem Joins.swap {μ : Type} {one : List κ} {two : List ι} {r : List μ} (e : one.length = two.length) (h : Joins one two r) : Joins two one r := ⟨h.1.trans e, fun i j a b h1 h2 => (h.2 i j a b h1 h2).trans jn_swap⟩
theorem Joins.ren {μ : Type} [DecidableEq μ] {one : List κ} {two : List ι} {r : List μ} (h : Joins one two r) : Joins one two (Ms.ren r) := by
  refine ⟨(ren_len r).trans h.1, fun i j a b h1 h2 => ?_⟩
  have l1 : i < r.length := by rw [← ren_len r]; exact ltE h1
  have l2 : j < r.length := by rw [← ren_len r]; exact ltE h2
  exact ((alike_ren r).2 i j _ _ _ _ (getE l1) (getE l2) h1 h2).symm.trans (h.2 i j _ _ (getE l1) (getE l2))
/-- where one is at least as fine, the join is two -/
theorem joins_fine {one : List κ} {two : List ι} (e : one.length = two.length) (h : ∀ (i j : Nat) (a : κ) (c d : ι), one[i]? = some a → one[j]? = some a → two[i]? = some c → two[j]? = some d → c = d) : Joins one two two := by
  refine ⟨e.symm, fun i j a b h1 h2 => ⟨fun z => .of (.inr ⟨ltE h1, ltE h2, by rw [h1, h2, z]⟩), fun z => ?_⟩⟩
  have key : ∀ {p q}, Jn one two p q → two[p]? = two[q]? := fun {p q} z => by
    induction z with
    | of g =>
      rcases g with ⟨g1, g2, g3⟩ | ⟨_, _, g3⟩
      · rw [getE g1, getE g2] at g3
        have k1 := getE (e ▸ g1 : _ < two.length)
        have k2 := getE (e ▸ g2 : _ < two.length)
        rw [k1, k2, h _ _ _ _ _ (getE g1) (by rw [getE g2]; exact g3.symm) k1 k2]
      · exact g3
    | refl a => rfl
    | symm _ ih => exact ih.symm
    | trans _ _ i1 i2 => exact i1.trans i2
  have q := key z
  rw [h1, h2] at q
  exact Option.some.inj q
end
/-! ### the forest of bosses -/
def at0 (l : List Nat) (i : Nat) : Nat := l.getD i 0
theorem at0_of {l : List Nat} {i x : Nat} (h : l[i]? = some x) : at0 l i = x := by
  unfold at0
  rw [List.getD_eq_getElem?_getD, h] <;> rfl
theorem of_at0 {l : List Nat} {i : Nat} (h : i < l.length) : l[i]? = some (at0 l i) := by
  rw [at0_of (getE h)]
  exact getE h
theorem at0_set {l : List Nat} {i v : Nat} (h : i < l.length) (x : Nat) : at0 (l.set i v) x = if x = i then v else at0 l x := by
  unfold at0
  rw [List.getD_eq_getElem?_getD, List.getD_eq_getElem?_getD, List.getElem?_set]
  by_cases e : i = x
  · subst e
    rw [if_pos rfl, if_pos rfl, if_pos h] <;> rfl
  · rw [if_neg e, if_neg fun z => e z.symm]
structure Forest (bs : List Nat) (r dp : Nat → Nat) : Prop where
  lt : ∀ x, x < bs.length → at0 bs x < bs.length
  up : ∀ x, x < bs.length → r (at0 bs x) = r x
  fix : ∀ x, x < bs.length → at0 bs x = x → r x = x
  dec : ∀ x, x < bs.length → at0 bs x ≠ x → dp (at0 bs x) < dp x
theorem Forest.root {bs : List Nat} {r dp : Nat → Nat} (F : Forest bs r dp) : ∀ (n x : Nat), dp x ≤ n → x < bs.length → r x < bs.length ∧ at0 bs (r x) = r x ∧ r (r x) = r x := by
  intro n
  induction n with
  | zero =>
    intro x hn hx
    by_cases e : at0 bs x = x
    · have q := F.fix x hx e
      rw [q]
      exact ⟨hx, e, q⟩
    · have := F.dec x hx e
      omega
  | succ n ih =>
    intro x hn hx
    by_cases e : at0 bs x = x
    · have q := F.fix x hx e
      rw [q]
      exact ⟨hx, e, q⟩
    · have h1 := F.dec x hx e
      rw [← F.up x hx]
      exact ih _ (by omega) (F.lt x hx)
/-- each its own boss -/
theorem forest_range (n : Nat) : Forest (List.range n) (fun x => x) (fun _ => 0) := by
  have e : ∀ x, x < (List.range n).length → at0 (List.range n) x = x := fun x h => at0_of (by rw [List.length_range] at h; exact List.getElem?_range h)
  exact ⟨fun x h => by rw [e x h]; exact h, fun x h => e x h, fun x _ _ => rfl, fun x h z => absurd (e x h) z⟩
/-- the path halved at x -/
theorem Forest.half {bs : List Nat} {r dp : Nat → Nat} (F : Forest bs r dp) {x : Nat} (hx : x < bs.length) (e : at0 bs x ≠ x) : Forest (bs.set x (at0 bs (at0 bs x))) r dp := by
  have l1 := F.lt x hx
  have d1 := F.dec x hx e
  have d2 : dp (at0 bs (at0 bs x)) ≤ dp (at0 bs x) := by
    by_cases z : at0 bs (at0 bs x) = at0 bs x
    · rw [z]; exact Nat.le_refl _
    · exact Nat.le_of_lt (F.dec _ l1 z)
  refine ⟨fun y hy => ?_, fun y hy => ?_, fun y hy => ?_, fun y hy => ?_⟩
  all_goals rw [List.length_set] at hy
  · rw [List.length_set, at0_set hx]
    by_cases z : y = x
    · rw [if_pos z]; exact F.lt _ l1
    · rw [if_neg z]; exact F.lt y hy
  · rw [at0_set hx]
    by_cases z : y = x
    · rw [if_pos z, F.up _ l1, F.up x hx, z]
    · rw [if_neg z]; exact F.up y hy
  · rw [at0_set hx]
    by_cases z : y = x
    · rw [if_pos z]
      intro q
      rw [q, z] at d2
      omega
    · rw [if_neg z]; exact F.fix y hy
  · rw [at0_set hx]
    by_cases z : y = x
    · rw [if_pos z, z]
      intro _
      omega
    · rw [if_neg z]; exact F.dec y hy
/-- the root hi gets the boss lo, a root -/
theorem Forest.link {bs : List Nat} {r dp : Nat → Nat} (F : Forest bs r dp) {lo hi : Nat} (h1 : lo < bs.length) (h2 : hi < bs.length) (e1 : at0 bs lo = lo) (e2 : at0 bs hi = hi) :
    ∃ r' dp', Forest (bs.set hi lo) r' dp' ∧ ∀ x, x < bs.length → r' x = if r x = hi then lo else r x := by
  have f1 := F.fix lo h1 e1
  have f2 := F.fix hi h2 e2
  by_cases z : lo = hi
  · refine ⟨r, dp, ?_, fun x _ => ?_⟩
    · have q : bs.set hi lo = bs := by
        refine List.ext_getElem? fun j => ?_
        rw [List.getElem?_set]
        by_cases w : hi = j
        · subst w
          rw [if_pos rfl, if_pos h2, of_at0 h2, e2, z]
        · rw [if_neg w]
      rw [q]
      exact F
    · by_cases w : r x = hi
      · rw [if_pos w, w, z]
      · rw [if_neg w]
  · refine ⟨fun x => if r x = hi then lo else r x, fun x => if r x = hi then dp x + dp lo + 1 else dp x, ⟨fun y hy => ?_, fun y hy => ?_, fun y hy => ?_, fun y hy => ?_⟩, fun x _ => rfl⟩
    all_goals rw [List.length_set] at hy
    · rw [List.length_set, at0_set h2]
      by_cases w : y = hi
      · rw [if_pos w]; exact h1
      · rw [if_neg w]; exact F.lt y hy
    · rw [at0_set h2]
      by_cases w : y = hi
      · rw [if_pos w, w, f1, f2, if_pos rfl, if_neg z]
      · rw [if_neg w, F.up y hy]
    · rw [at0_set h2]
      by_cases w : y = hi
      · rw [if_pos w]
        intro q
        exact absurd (q.trans w) z
      · rw [if_neg w]
        intro q
        have k := F.fix y hy q
        rw [k, if_neg w]
    · rw [at0_set h2]
      by_cases w : y = hi
      · rw [if_pos w, w, f1, f2, if_pos rfl, if_neg z]
        intro _
        omega
      · rw [if_neg w, F.up y hy]
        intro q
        have k := F.dec y hy q
        by_cases v : r y = hi
        · rw [if_pos v, if_pos v]; omega
        · rw [if_neg v, if_neg v]; exact k
end Ms
set_option Elab.async false
set_option linter.all false
/-! rows and how many cells they have. -/
namespace Ms
open PySem PySem.Spec PyProof.Rows L2
theorem pair_of {α β : Type} {F : α → β → Prop} : ∀ {xs : List α} {ys : List β}, xs.length = ys.length → (∀ (i : Nat) (x : α) (y : β), xs[i]? = some x → ys[i]? = some y → F x y) → Paired F xs ys
  | [], [], _, _ => .nil
  | [], _ :: _, h, _ => by cases h
  | _ :: _, [], h, _ => by cases h
  | x :: xs, y :: ys, h, k => .cons (k 0 x y rfl rfl) (pair_of (Nat.succ.inj h) fun i a b h1 h2 => k (i + 1) a b h1 h2)
/-- how many cells -/
def cnt (r : List Nat) : Nat := (firsts r).length
theorem row_firsts {r : List Nat} (h : Row r) : firsts r = List.range (cnt r) := by
  have q := firsts_ren r
  rw [show ren r = r from h] at q
  exact q
theorem row_cells {r : List Nat} (h : Row r) : cellsOf r = (List.range (cnt r)).map fun m => places m r := by
  unfold cellsOf
  rw [row_firsts h]
theorem row_mem {r : List Nat} (h : Row r) {m : Nat} : m ∈ r ↔ m < cnt r := by rw [← mem_firsts, row_firsts h, List.mem_range]
theorem places_len {κ : Type} [DecidableEq κ] (m : κ) (l : List κ) : (places m l).length ≤ l.length := by
  unfold places
  exact Nat.le_trans (List.length_filter_le _ _) (by rw [List.length_range]; exact Nat.le_refl _)
end Ms
set_option Elab.async false
set_option linter.all false
set_option maxRecDepth 100000
set_option maxHeartbeats 4000000
namespace K03
open PySem PySem.Spec PyProof.Rows L2 Ms
def nV (ns : List Nat) : List V := ns.map fun n => V.int (n : Nat)
theorem nV_at {l : List Nat} {i x : Nat} (h : l[i]? = some x) : (nV l)[i]? = some (.int (x : Nat)) := by
  unfold nV
  rw [List.getElem?_map, h] <;> rfl
theorem nV_at0 {l : List Nat} {i : Nat} (h : i < l.length) : (nV l)[i]? = some (.int (at0 l i : Nat)) := nV_at (of_at0 h)
theorem nV_len (l : List Nat) : (nV l).length = l.length := List.length_map ..
theorem nV_int (r : List Nat) : nV r = (r.map fun n => ((n : Nat) : Int)).map V.int := by
  unfold nV
  rw [List.map_map] <;> rfl
theorem nV_snoc (l : List Nat) (d : Nat) : nV l ++ [V.int (d : Nat)] = nV (l ++ [d]) := by
  unfold nV
  rw [List.map_append] <;> rfl
theorem fewS {n : Nat} (h : n < 16777216) : n < sizeLine := Nat.lt_of_lt_of_le h (by decide)
theorem same_new {H : Hp} {p : Addr} {o : HO} (h : H p = none) : Same H (upd H p o) := fun b q e => by
  rw [upd_ne (fun z => by rw [z, h] at e; cases e)]
  exact e
def pairV (p : Int × Int) : HO := .tup [.int p.1, .int p.2]
/-- numbers in a list or a tuple; pairs of numbers in a list -/
@[irreducible] def spRen (K : PySem.W.Frag) : Sp := fun vs H Q _ => ∃ a xs r, vs = [.ref a] ∧ xs.length ≤ sizeLine ∧
  ((∃ ns : List Int, xs = ns.map V.int ∧ r = ren ns ∧ (SqL K H a xs ∨ SqT K H a xs) ∧ ∀ H' p, Same H H' → H p = none → H' p = some (.tup (nV r)) → Q (.ref p) H') ∨
  ∃ (ts : List Addr) (ps : List (Int × Int)), xs = ts.map V.ref ∧ r = ren ps ∧ Paired (fun t p => H t = some (pairV p)) ts ps ∧ SqL K H a xs ∧ ∀ H' p, Same H H' → H p = none → H' p = some (.tup (nV r)) → Q (.ref p) H')
section
variable {κ : Type} [DecidableEq κ]
def tbl (ks : List κ) : List (κ × V) := ks.zipIdx.map fun p => (p.1, .int (p.2 : Nat))
theorem tbl_len (ks : List κ) : (tbl ks).length = ks.length := by simp [tbl]
theorem tbl_snoc (ks : List κ) (k : κ) : tbl (ks ++ [k]) = tbl ks ++ [(k, .int (ks.length : Nat))] := by simp [tbl, List.zipIdx_append]
theorem valV_tbl (ks : List κ) (k : κ) : valV (tbl ks) k = if k ∈ ks then some (.int (ks.idxOf k : Nat)) else none := by
  induction ks using snoc_ind with
  | h0 => rfl
  | hs l a ih =>
    rw [tbl_snoc]
    by_cases hk : k ∈ l
    · rw [if_pos hk] at ih
      rw [if_pos (List.mem_append_left _ hk), List.idxOf_append, if_pos hk]
      unfold valV at ih ⊢
      rw [List.find?_append]
      cases h : (tbl l).find? fun kv => decide (kv.1 = k) with
      | none => rw [h] at ih; cases ih
      | some q => rw [h] at ih; exact ih
    · rw [if_neg hk] at ih
      have h : (tbl l).find? (fun kv => decide (kv.1 = k)) = none := by
        unfold valV at ih
        exact Option.map_eq_none_iff.mp ih
      unfold valV
      rw [List.find?_append, h, List.idxOf_append, if_neg hk]
      by_cases e : a = k
      · subst e; simp
      · have e2 : ¬ k = a := fun z => e z.symm
        simp [e, e2, hk]
end
theorem int_inl (a b : Int) (h : (Sum.inl a : Key) = Sum.inl b) : a = b := Sum.inl.inj h
theorem Same.new2 {H : Hp} {d l : Addr} {o u : HO} (hd : H d = none) (hl : H l = none) : Same H (upd (upd H d o) l u) := fun b q e => by
  rw [upd_ne (fun z => by rw [z, hl] at e; cases e), upd_ne (fun z => by rw [z, hd] at e; cases e)]
  exact e
theorem ix_out {κ : Type} [DecidableEq κ] {l : List κ} {k : κ} (h : ¬ k ∈ l) : l.idxOf k = l.length := List.idxOf_eq_length h
theorem valV_some {κ : Type} [DecidableEq κ] {ks : List κ} {k : κ} (h : k ∈ ks) : valV (tbl ks) k = some (.int (ks.idxOf k : Nat)) := by rw [valV_tbl, if_pos h]
theorem nV_ren_take {κ : Type} [DecidableEq κ] {ks : List κ} {i : Nat} {k : κ} (h : ks[i]? = some k) : (nV (ren (ks.take i))).length = i := by
  unfold nV
  have := ltE h
  rw [List.length_map, ren_len, List.length_take]
  omega
/-- the loop's state -/
def PR {κ : Type} [DecidableEq κ] (K : PySem.W.Frag) (H : Hp) (a d l : Addr) (xs : List V) (mk : List (κ × V) → HO) (ks : List κ) (i : Nat) (σ : L2.St) (H1 : Hp) : Prop :=
  ∃ m, σ = [some (.ref a), some (.ref d), some (.ref l), m] ∧ Same H H1 ∧ H1 d = some (mk (tbl (firsts (ks.take i)))) ∧ H1 l = some (.lst (nV (ren (ks.take i))))
theorem Same.sqT {K : PySem.W.Frag} {H H' : Hp} {a : Addr} {xs : List V} (e : Same H H') (h : SqT K H a xs) : SqT K H' a xs := by
  rcases h with (h | ⟨o, h⟩) | h
  · exact .inl (.inl (e _ _ h))
  · exact .inl (.inr ⟨o, e _ _ h⟩)
  · exact .inr h
/-- the keys of the row, place by place -/
structure KeyIs {κ : Type} [DecidableEq κ] (F : κ → V → Prop) (xs : List V) (ks : List κ) : Prop where
  len : ks.length = xs.length
  at_ : ∀ (i : Nat) (x : V), xs[i]? = some x → ∃ k : κ, ks[i]? = some k ∧ F k x
theorem kis_int (ns : List Int) : KeyIs (fun k x => x = kV k) (ns.map V.int) (ns.map (Sum.inl : Int → Key)) := by
  refine ⟨by simp, fun i x hx => ?_⟩
  rw [List.getElem?_map] at hx
  cases e : ns[i]? with
  | none => rw [e] at hx; cases hx
  | some n =>
    rw [e] at hx
    cases hx
    exact ⟨.inl n, by rw [List.getElem?_map, e] <;> rfl, rfl⟩
abbrev kp (p : Int × Int) : List Key := [.inl p.1, .inl p.2]
theorem kp_inj (a b : Int × Int) (e : kp a = kp b) : a = b := by
  simp only [kp, List.cons.injEq, Sum.inl.injEq, and_true] at e
  exact Prod.ext e.1 e.2
theorem kis_pair {H : Hp} {ts : List Addr} {ps : List (Int × Int)} (hp : Paired (fun t p => H t = some (pairV p)) ts ps) : KeyIs (fun k x => ∃ b, x = .ref b ∧ H b = some (.tup (k.map kV))) (ts.map V.ref) (ps.map kp) := by
  refine ⟨by simp [Paired.length hp], fun i x hx => ?_⟩
  rw [List.getElem?_map] at hx
  cases e : ts[i]? with
  | none => rw [e] at hx; cases hx
  | some t =>
    rw [e] at hx
    cases hx
    obtain ⟨p, e2, e3⟩ := LiI.paired_get hp e
    exact ⟨kp p, by rw [List.getElem?_map, e2] <;> rfl, t, rfl, e3⟩
/-- where a key is found in the dict, by the place in the row -/
structure KeyAt {κ : Type} [DecidableEq κ] (H : Hp) (mk : List (κ × V) → HO) (xs : List V) (ks : List κ) : Prop where
  len : ks.length = xs.length
  at_ : ∀ (i : Nat) (x : V), xs[i]? = some x → ∃ k : κ, ks[i]? = some k ∧ (∀ (H1 : Hp) (kvs : List (κ × V)) (d : Addr), Same H H1 → H1 d = some (mk kvs) → DGet H1 d x (valV kvs k)) ∧
    ∀ (H1 : Hp) (kvs : List (κ × V)) (d : Addr) (v : V), Same H H1 → H1 d = some (mk kvs) → kvs.length < sizeLine → DPut H1 d x v (upd H1 d (mk (putK kvs k v)))
theorem key_int (H : Hp) (ns : List Int) : KeyAt H .dK (ns.map V.int) (ns.map (Sum.inl : Int → Key)) := by
  refine ⟨by simp, fun i x hx => ?_⟩
  rw [List.getElem?_map] at hx
  cases e : ns[i]? with
  | none => rw [e] at hx; cases hx
  | some n =>
    rw [e] at hx
    cases hx
    exact ⟨.inl n, by rw [List.getElem?_map, e] <;> rfl, fun H1 kvs d _ h => DGet.k (k := Sum.inl n) h, fun H1 kvs d v _ h hl => DPut.k (k := Sum.inl n) h hl⟩
theorem key_pair {H : Hp} {ts : List Addr} {ps : List (Int × Int)} (hp : Paired (fun t p => H t = some (pairV p)) ts ps) : KeyAt H .dT (ts.map V.ref) (ps.map kp) := by
  refine ⟨by simp [Paired.length hp], fun i x hx => ?_⟩
  rw [List.getElem?_map] at hx
  cases e : ts[i]? with
  | none => rw [e] at hx; cases hx
  | some t =>
    rw [e] at hx
    cases hx
    obtain ⟨p, e2, e3⟩ := LiI.paired_get hp e
    exact ⟨kp p, by rw [List.getElem?_map, e2] <;> rfl, fun H1 kvs d s h => DGet.t (k := kp p) h (s _ _ e3), fun H1 kvs d v s h hl => DPut.t (k := kp p) h (s _ _ e3) hl⟩
section
variable {P : Program} {w : World} {K : PySem.W.Frag} {mg : Str → Option Value} {base : Heap}
theorem ren_KL (T : Tx K mg) {cdv : Value} {A : Around} {outer : List Env} {s : Shared} {H : Hp} {Q : VK} {E : XK} {a : Addr} {xs : List V} {r : List Nat} {ks : List Key} (hr : Rm 0 "renumbered" srenumbered (He.ga K "renumbered") cdv A s)
    (hq0 : SqL K H a xs) (hz : xs.length ≤ sizeLine) (hk0 : KeyIs (fun k x => x = kV k) xs ks) (hr2 : ren ks = r) (hQ : ∀ H' p, Same H H' → H p = none → H' p = some (.tup (nV r)) → Q (.ref p) H') :
    Goal P w K mg base "renumbered" srenumbered ["marks", "numbers", "found", "mark"] (He.ga K "renumbered") cdv A outer s H [.ref a] Q E := by
  have hlen := hk0.len
  have hkey := hk0.at_
  have hq1 : ∀ (H1 : Hp), Same H H1 → SqL K H1 a xs := fun H1 s => Same.seq s hq0
  refine ⟨_, (pss_cons (ps_set (i := 1) screnumbered.nd rfl (by first | exact Or.inl rfl | exact Or.inr rfl) pe_dnewK)
    (pss_cons (ps_set (i := 2) screnumbered.nd rfl (by first | exact Or.inl rfl | exact Or.inr rfl) (pe_lst pa_nil))
    (pss_cons (ps_for PassesOwn.never rfl (pi_list (pv 0)) (pg_name (i := 3) screnumbered.nd rfl (by first | exact Or.inl rfl | exact Or.inr rfl))
    (pss_one (ps_expr (pe_bm PySem.F.plainAttrs_list PySem.F.slot_list_append PySem.F.type_list_append mt_append (pv 2) (pa_cons (pe_dsetd (pv 1) (pv 3) (pe_callB call_lenD (by rfl) T.f_len boot_len (pa_cons (pv 1) pa_nil)) ⟨rfl, rfl, rfl, rfl⟩) pa_nil)))))
    (pss_one (ps_ret (pe_callTy (tupK K) (by rfl) T.f_tuple (by decide +kernel) (pa_cons (pv 2) pa_nil))))))), ?_⟩
  refine fun d hd => ?_
  refine ⟨Nat.zero_le _, fun l hl => ?_⟩
  have hdl : d ≠ l := fun z => by rw [← z, upd_same] at hl; cases hl
  have nl : H l = none := by rw [upd_ne (fun z => hdl z.symm)] at hl; exact hl
  refine ⟨_, rfl, a, rfl, ⟨_, hq1 _ (Same.new2 hd nl)⟩, for_list (xs := xs) (PR K H a d l xs .dK ks) ?_ ?_ ?_ ?_⟩
  · exact ⟨none, rfl, Same.new2 hd nl, by rw [upd_ne hdl, upd_same] <;> rfl, by rw [upd_same] <;> rfl⟩
  · exact fun i σ H1 _ h => by obtain ⟨_, _, h1, _⟩ := h; exact hq1 _ h1
  · intro i x σ H1 hx h
    obtain ⟨m, rfl, s1, e1, e2⟩ := h
    obtain ⟨k, hk, rfl⟩ := hkey i x hx
    have tk : ks.take (i + 1) = ks.take i ++ [k] := by rw [List.take_add_one, hk] <;> rfl
    have li : i < xs.length := ltE hx
    have lt : (tbl (firsts (ks.take i))).length ≤ i := by
      rw [tbl_len]
      exact Nat.le_trans (firsts_le _) (List.length_take_le ..)
    refine ⟨_, rfl, .inl ⟨rfl, _, .inl (.inl e2)⟩, _, rfl, d, rfl, .inl ⟨_, .inl e1⟩, _, rfl, _, rfl, d, _, rfl, e1, _, k, e1, rfl, by omega, fun v hv => ?_, fun hv => ?_⟩
    · rw [valV_tbl] at hv
      by_cases hin : k ∈ firsts (ks.take i)
      · rw [if_pos hin] at hv
        cases hv
        refine ⟨l, _, _, rfl, rfl, e2, by rw [nV_ren_take hk]; omega, ?_⟩
        refine ⟨_, rfl, fun b o q => ?_, ?_, ?_⟩
        · rw [upd_ne (fun z => by rw [z, nl] at q; cases q)]
          exact s1 b o q
        · rw [upd_ne hdl, tk, firsts_old ((mem_firsts _ _).mp hin)]
          exact e1
        · rw [upd_same, tk, ren_snoc]
          simp [nV]
      · rw [if_neg hin] at hv
        cases hv
    · have hin : ¬ k ∈ firsts (ks.take i) := fun z => by rw [valV_tbl, if_pos z] at hv; cases hv
      rw [putK_new _ hv]
      have e2' : ∀ u, upd H1 d u l = some (.lst (nV (ren (ks.take i)))) := fun u => by rw [upd_ne (fun z => hdl z.symm)]; exact e2
      refine ⟨l, _, _, rfl, rfl, e2' _, by rw [nV_ren_take hk]; omega, ?_⟩
      refine ⟨_, rfl, fun b o q => ?_, ?_, ?_⟩
      · rw [upd_ne (fun z => by rw [z, nl] at q; cases q), upd_ne (fun z => by rw [z, hd] at q; cases q)]
        exact s1 b o q
      · rw [upd_ne hdl, upd_same, tk, firsts_new (fun z => hin ((mem_firsts _ _).mpr z)), tbl_snoc, tbl_len]
      · rw [upd_same, tk, ren_snoc, tbl_len, ix_out hin]
        simp [nV]
  · intro σ H1 h
    obtain ⟨m, rfl, s1, e1, e2⟩ := h
    refine ⟨_, rfl, l, _, rfl, .inl ⟨.inl (.inl e2), fun t ht => ?_⟩⟩
    have full : ks.take xs.length = ks := by rw [← hlen]; exact List.take_length
    rw [full, hr2]
    exact hQ _ t (fun b o q => by rw [upd_ne (fun z => by rw [z, s1.free ht] at q; cases q)]; exact s1 b o q) (s1.free ht) (upd_same ..)
theorem ren_TL (T : Tx K mg) {cdv : Value} {A : Around} {outer : List Env} {s : Shared} {H : Hp} {Q : VK} {E : XK} {a : Addr} {xs : List V} {r : List Nat} {ks : List (List Key)} (hr : Rm 0 "renumbered" srenumbered (He.ga K "renumbered") cdv A s)
    (hq0 : SqL K H a xs) (hz : xs.length ≤ sizeLine) (hk0 : KeyIs (fun k x => ∃ b, x = .ref b ∧ H b = some (.tup (k.map kV))) xs ks) (hr2 : ren ks = r) (hQ : ∀ H' p, Same H H' → H p = none → H' p = some (.tup (nV r)) → Q (.ref p) H') :
    Goal P w K mg base "renumbered" srenumbered ["marks", "numbers", "found", "mark"] (He.ga K "renumbered") cdv A outer s H [.ref a] Q E := by
  have hlen := hk0.len
  have hkey := hk0.at_
  have hq1 : ∀ (H1 : Hp), Same H H1 → SqL K H1 a xs := fun H1 s => Same.seq s hq0
  refine ⟨_, (pss_cons (ps_set (i := 1) screnumbered.nd rfl (by first | exact Or.inl rfl | exact Or.inr rfl) pe_dnewT)
    (pss_cons (ps_set (i := 2) screnumbered.nd rfl (by first | exact Or.inl rfl | exact Or.inr rfl) (pe_lst pa_nil))
    (pss_cons (ps_for PassesOwn.never rfl (pi_list (pv 0)) (pg_name (i := 3) screnumbered.nd rfl (by first | exact Or.inl rfl | exact Or.inr rfl))
    (pss_one (ps_expr (pe_bm PySem.F.plainAttrs_list PySem.F.slot_list_append PySem.F.type_list_append mt_append (pv 2) (pa_cons (pe_dsetdT (hu_of hr) (pv 1) (pv 3) (pe_callB call_len_dT (by rfl) T.f_len boot_len (pa_cons (pv 1) pa_nil)) ⟨rfl, rfl, rfl, rfl⟩) pa_nil)))))
    (pss_one (ps_ret (pe_callTy (tupK K) (by rfl) T.f_tuple (by decide +kernel) (pa_cons (pv 2) pa_nil))))))), ?_⟩
  refine fun d hd => ?_
  refine ⟨Nat.zero_le _, fun l hl => ?_⟩
  have hdl : d ≠ l := fun z => by rw [← z, upd_same] at hl; cases hl
  have nl : H l = none := by rw [upd_ne (fun z => hdl z.symm)] at hl; exact hl
  refine ⟨_, rfl, a, rfl, ⟨_, hq1 _ (Same.new2 hd nl)⟩, for_list (xs := xs) (PR K H a d l xs .dT ks) ?_ ?_ ?_ ?_⟩
  · exact ⟨none, rfl, Same.new2 hd nl, by rw [upd_ne hdl, upd_same] <;> rfl, by rw [upd_same] <;> rfl⟩
  · exact fun i σ H1 _ h => by obtain ⟨_, _, h1, _⟩ := h; exact hq1 _ h1
  · intro i x σ H1 hx h
    obtain ⟨m, rfl, s1, e1, e2⟩ := h
    obtain ⟨k, hk, b, rfl, hb⟩ := hkey i x hx
    have tk : ks.take (i + 1) = ks.take i ++ [k] := by rw [List.take_add_one, hk] <;> rfl
    have li : i < xs.length := ltE hx
    have lt : (tbl (firsts (ks.take i))).length ≤ i := by
      rw [tbl_len]
      exact Nat.le_trans (firsts_le _) (List.length_take_le ..)
    refine ⟨_, rfl, .inl ⟨rfl, _, .inl (.inl e2)⟩, _, rfl, d, rfl, .inr ⟨_, .inl e1⟩, _, rfl, _, rfl, d, _, rfl, e1, _, k, b, e1, rfl, s1 _ _ hb, by omega, fun v hv => ?_, fun hv => ?_⟩
    · rw [valV_tbl] at hv
      by_cases hin : k ∈ firsts (ks.take i)
      · rw [if_pos hin] at hv
        cases hv
        refine ⟨l, _, _, rfl, rfl, e2, by rw [nV_ren_take hk]; omega, ?_⟩
        refine ⟨_, rfl, fun b o q => ?_, ?_, ?_⟩
        · rw [upd_ne (fun z => by rw [z, nl] at q; cases q)]
          exact s1 b o q
        · rw [upd_ne hdl, tk, firsts_old ((mem_firsts _ _).mp hin)]
          exact e1
        · rw [upd_same, tk, ren_snoc]
          simp [nV]
      · rw [if_neg hin] at hv
        cases hv
    · have hin : ¬ k ∈ firsts (ks.take i) := fun z => by rw [valV_tbl, if_pos z] at hv; cases hv
      rw [putK_new _ hv]
      have e2' : ∀ u, upd H1 d u l = some (.lst (nV (ren (ks.take i)))) := fun u => by rw [upd_ne (fun z => hdl z.symm)]; exact e2
      refine ⟨l, _, _, rfl, rfl, e2' _, by rw [nV_ren_take hk]; omega, ?_⟩
      refine ⟨_, rfl, fun b o q => ?_, ?_, ?_⟩
      · rw [upd_ne (fun z => by rw [z, nl] at q; cases q), upd_ne (fun z => by rw [z, hd] at q; cases q)]
        exact s1 b o q
      · rw [upd_ne hdl, upd_same, tk, firsts_new (fun z => hin ((mem_firsts _ _).mpr z)), tbl_snoc, tbl_len]
      · rw [upd_same, tk, ren_snoc, tbl_len, ix_out hin]
        simp [nV]
  · intro σ H1 h
    obtain ⟨m, rfl, s1, e1, e2⟩ := h
    refine ⟨_, rfl, l, _, rfl, .inl ⟨.inl (.inl e2), fun t ht => ?_⟩⟩
    have full : ks.take xs.length = ks := by rw [← hlen]; exact List.take_length
    rw [full, hr2]
    exact hQ _ t (fun b o q => by rw [upd_ne (fun z => by rw [z, s1.free ht] at q; cases q)]; exact s1 b o q) (s1.free ht) (upd_same ..)
theorem ren_KT (T : Tx K mg) {cdv : Value} {A : Around} {outer : List Env} {s : Shared} {H : Hp} {Q : VK} {E : XK} {a : Addr} {xs : List V} {r : List Nat} {ks : List Key} (hr : Rm 0 "renumbered" srenumbered (He.ga K "renumbered") cdv A s)
    (hq0 : SqT K H a xs) (hz : xs.length ≤ sizeLine) (hk0 : KeyIs (fun k x => x = kV k) xs ks) (hr2 : ren ks = r) (hQ : ∀ H' p, Same H H' → H p = none → H' p = some (.tup (nV r)) → Q (.ref p) H') :
    Goal P w K mg base "renumbered" srenumbered ["marks", "numbers", "found", "mark"] (He.ga K "renumbered") cdv A outer s H [.ref a] Q E := by
  have hlen := hk0.len
  have hkey := hk0.at_
  have hq1 : ∀ (H1 : Hp), Same H H1 → SqT K H1 a xs := fun H1 s => Same.sqT s hq0
  refine ⟨_, (pss_cons (ps_set (i := 1) screnumbered.nd rfl (by first | exact Or.inl rfl | exact Or.inr rfl) pe_dnewK)
    (pss_cons (ps_set (i := 2) screnumbered.nd rfl (by first | exact Or.inl rfl | exact Or.inr rfl) (pe_lst pa_nil))
    (pss_cons (ps_for PassesOwn.never rfl (pi_tup (pv 0)) (pg_name (i := 3) screnumbered.nd rfl (by first | exact Or.inl rfl | exact Or.inr rfl))
    (pss_one (ps_expr (pe_bm PySem.F.plainAttrs_list PySem.F.slot_list_append PySem.F.type_list_append mt_append (pv 2) (pa_cons (pe_dsetd (pv 1) (pv 3) (pe_callB call_lenD (by rfl) T.f_len boot_len (pa_cons (pv 1) pa_nil)) ⟨rfl, rfl, rfl, rfl⟩) pa_nil)))))
    (pss_one (ps_ret (pe_callTy (tupK K) (by rfl) T.f_tuple (by decide +kernel) (pa_cons (pv 2) pa_nil))))))), ?_⟩
  refine fun d hd => ?_
  refine ⟨Nat.zero_le _, fun l hl => ?_⟩
  have hdl : d ≠ l := fun z => by rw [← z, upd_same] at hl; cases hl
  have nl : H l = none := by rw [upd_ne (fun z => hdl z.symm)] at hl; exact hl
  refine ⟨_, rfl, a, rfl, ⟨_, hq1 _ (Same.new2 hd nl)⟩, for_tup (xs := xs) (PR K H a d l xs .dK ks) ?_ ?_ ?_ ?_⟩
  · exact ⟨none, rfl, Same.new2 hd nl, by rw [upd_ne hdl, upd_same] <;> rfl, by rw [upd_same] <;> rfl⟩
  · exact fun i σ H1 _ h => by obtain ⟨_, _, h1, _⟩ := h; exact hq1 _ h1
  · intro i x σ H1 hx h
    obtain ⟨m, rfl, s1, e1, e2⟩ := h
    obtain ⟨k, hk, rfl⟩ := hkey i x hx
    have tk : ks.take (i + 1) = ks.take i ++ [k] := by rw [List.take_add_one, hk] <;> rfl
    have li : i < xs.length := ltE hx
    have lt : (tbl (firsts (ks.take i))).length ≤ i := by
      rw [tbl_len]
      exact Nat.le_trans (firsts_le _) (List.length_take_le ..)
    refine ⟨_, rfl, .inl ⟨rfl, _, .inl (.inl e2)⟩, _, rfl, d, rfl, .inl ⟨_, .inl e1⟩, _, rfl, _, rfl, d, _, rfl, e1, _, k, e1, rfl, by omega, fun v hv => ?_, fun hv => ?_⟩
    · rw [valV_tbl] at hv
      by_cases hin : k ∈ firsts (ks.take i)
      · rw [if_pos hin] at hv
        cases hv
        refine ⟨l, _, _, rfl, rfl, e2, by rw [nV_ren_take hk]; omega, ?_⟩
        refine ⟨_, rfl, fun b o q => ?_, ?_, ?_⟩
        · rw [upd_ne (fun z => by rw [z, nl] at q; cases q)]
          exact s1 b o q
        · rw [upd_ne hdl, tk, firsts_old ((mem_firsts _ _).mp hin)]
          exact e1
        · rw [upd_same, tk, ren_snoc]
          simp [nV]
      · rw [if_neg hin] at hv
        cases hv
    · have hin : ¬ k ∈ firsts (ks.take i) := fun z => by rw [valV_tbl, if_pos z] at hv; cases hv
      rw [putK_new _ hv]
      have e2' : ∀ u, upd H1 d u l = some (.lst (nV (ren (ks.take i)))) := fun u => by rw [upd_ne (fun z => hdl z.symm)]; exact e2
      refine ⟨l, _, _, rfl, rfl, e2' _, by rw [nV_ren_take hk]; omega, ?_⟩
      refine ⟨_, rfl, fun b o q => ?_, ?_, ?_⟩
      · rw [upd_ne (fun z => by rw [z, nl] at q; cases q), upd_ne (fun z => by rw [z, hd] at q; cases q)]
        exact s1 b o q
      · rw [upd_ne hdl, upd_same, tk, firsts_new (fun z => hin ((mem_firsts _ _).mpr z)), tbl_snoc, tbl_len]
      · rw [upd_same, tk, ren_snoc, tbl_len, ix_out hin]
        simp [nV]
  · intro σ H1 h
    obtain ⟨m, rfl, s1, e1, e2⟩ := h
    refine ⟨_, rfl, l, _, rfl, .inl ⟨.inl (.inl e2), fun t ht => ?_⟩⟩
    have full : ks.take xs.length = ks := by rw [← hlen]; exact List.take_length
    rw [full, hr2]
    exact hQ _ t (fun b o q => by rw [upd_ne (fun z => by rw [z, s1.free ht] at q; cases q)]; exact s1 b o q) (s1.free ht) (upd_same ..)
theorem ok_renumbered (T : Tx K mg) : Ok P w K mg base "renumbered" 1 (spRen K) := by
  refine ok_of T.a_renumbered screnumbered (fun vs H Q E h => ?_) bi_renumbered fun cdv A outer s H vs Q E hr h => ?_
  · unfold spRen at h
    obtain ⟨a, xs, r, rfl, _⟩ := h
    rfl
  unfold spRen at h
  obtain ⟨a, xs, r, rfl, hz, h⟩ := h
  rcases h with ⟨ns, rfl, rfl, hq | hq, hQ⟩ | ⟨ts, ps, rfl, rfl, hp, hq, hQ⟩
  · exact ren_KL T hr hq hz (kis_int ns) (ren_map int_inl) hQ
  · exact ren_KT T hr hq hz (kis_int ns) (ren_map int_inl) hQ
  · exact ren_TL T hr hq hz (kis_pair hp) (ren_map kp_inj) hQ
end
end K03
set_option Elab.async false
set_option linter.all false
set_option maxRecDepth 100000
set_option maxHeartbeats 4000000
/-! max(t) of a tuple of ints. -/
namespace Ms
open PySem PySem.Spec PyProof.Rows L2
section
variable {prog : Program} {w : World} {A : Around} {E : Value → Shared → Prop} {s : Shared} {l : Addr} {xs : Array (Int × Tok)}
theorem max_intTup {Q : Value → Shared → Prop} (hh : A.handled = none) (hl : s.heap.IsTuple l (intItems xs)) (hne : 0 < xs.size)
    (h : ∀ v h' tk, (intItems xs)[argBest (fun i j => decide (numAt xs i > numAt xs j)) (xs.size - 1)]? = some v → (∀ b o, s.heap.get? b = some o → h'.get? b = some o) → Q v { s with heap := h', toks := tk }) :
    wpAny (model prog w) A (call (.builtin "max") [.ref l]) Q E s := by
  have hlt : l < s.heap.objs.size := by obtain ⟨_, e, _⟩ := hl; exact Heap.lt_size e
  refine call_max_walk (wpAny_pyIter_tuple hl ?_)
  refine ⟨_, [_, l], [_], _, _, _, _, rfl, Walks.tuple (A := A.in1) hh _ l (Nat.ne_of_lt hlt) (intItems xs), ⟨⟨_, Heap.get?_push_size _ rfl, rfl, rfl⟩, hl.push _⟩, fun c hc => ?_, by simpa [intItems] using hne, CmpOf.ints_gt (numAt xs) (fun _ _ => intItems_at), fun v h' tk hP hk => ?_⟩
  · show c < (s.heap.push _).objs.size
    rw [Heap.size_push]
    rcases List.mem_cons.mp hc with rfl | hc
    · exact Nat.lt_succ_self _
    · rcases List.mem_cons.mp hc with rfl | hc
      · exact Nat.lt_succ_of_lt hlt
      · cases hc
  · refine h v h' tk (by simpa [intItems] using hP) fun b o e => ?_
    refine hk b o (fun hm => ?_) (Heap.get?_push_of_some _ e)
    rcases List.mem_cons.mp hm with e1 | hm
    · exact absurd (e1 ▸ Heap.lt_size e) (Nat.lt_irrefl _)
    · cases hm
theorem maxT_raw {its : List Value} {ns : List Int} {Q : Value → Shared → Prop} (hh : A.handled = none) (hl : s.heap.IsTuple l its.toArray) (hi : IntsAre its ns) (hne : 0 < ns.length)
    (h : ∀ h' tk M t', (∀ b o, s.heap.get? b = some o → h'.get? b = some o) → M ∈ ns → (∀ a, a ∈ ns → a ≤ M) → Q (.int M t') { s with heap := h', toks := tk }) : wpAny (model prog w) A (call (.builtin "max") [.ref l]) Q E s := by
  obtain ⟨xs, e⟩ := hi.allInts.items
  have hn : numsOf (intItems xs).toList = ns := by rw [← e]; exact hi.numsOf
  rw [nums_intItems] at hn
  subst hn
  rw [e] at hl
  have hsz : 0 < xs.size := by simpa using hne
  refine max_intTup hh hl hsz fun v h' tk hv hk => ?_
  obtain ⟨t, rfl⟩ := intItems_at hv
  obtain ⟨h1, h2⟩ := argBest_gt (numAt xs) (xs.size - 1)
  refine h h' tk _ t hk ?_ fun a ha => ?_
  · rw [numAt_eq]; exact PySem.getD_mem (by rw [List.length_map, Array.length_toList]; omega)
  · obtain ⟨j, hj, rfl⟩ := mem_getD ha
    rw [List.length_map, Array.length_toList] at hj
    rw [← numAt_eq]; exact h2 j (by omega)
end
section
variable {X : Cx}
/-- max of a tuple of ints -/
def rMaxT (K : PySem.W.Frag) : List V → Hp → VK → Prop := fun vs H Q => ∃ (a : Addr) (ns : List Int), vs = [V.ref a] ∧ SqT K H a (ns.map V.int) ∧ 0 < ns.length ∧ ∀ m, m ∈ ns → (∀ y, y ∈ ns → y ≤ m) → Q (.int m) H
theorem maxTK (K : PySem.W.Frag) (e : X.K = K := by rfl) (hc : X.calm = true) : CallR X (.builtin "max") (rMaxT K) := by
  subst e
  intro pins s σ H vs us Q I r h
  obtain ⟨a, ns, rfl, hs, hne, q⟩ := h
  obtain ⟨its, rv, hl, _⟩ := I.tuple hs
  rw [Vals.ref1 r]
  exact maxT_raw (I.ok.hd hc) hl rv.ints hne fun h' tk m t' hk h1 h2 => ⟨.int _, H, I.kept hk, ⟨_, rfl⟩, q m h1 h2⟩
end
end Ms
set_option Elab.async false
set_option linter.all false
set_option maxRecDepth 100000
set_option maxHeartbeats 4000000
namespace K03
open PySem PySem.Spec PyProof.Rows L2 Ms
theorem pimp {α β : Type} {F G : α → β → Prop} : ∀ {xs : List α} {ys : List β}, (∀ x y, x ∈ xs → F x y → G x y) → Paired F xs ys → Paired G xs ys
  | _, _, _, .nil => .nil
  | _, _, h, .cons r t => .cons (h _ _ List.mem_cons_self r) (pimp (fun x y m => h x y (List.mem_cons_of_mem _ m)) t)
theorem psnoc {α β : Type} {F : α → β → Prop} : ∀ {xs : List α} {ys : List β} {x : α} {y : β}, Paired F xs ys → F x y → Paired F (xs ++ [x]) (ys ++ [y])
  | _, _, _, _, .nil, h => .cons h .nil
  | _, _, _, _, .cons r t, h => .cons r (psnoc t h)
/-- the cells' tuple at p -/
def CellsAt (H : Hp) (p : Addr) (cs : List (List Nat)) : Prop := ∃ ts : List Addr, H p = some (.tup (ts.map V.ref)) ∧ Paired (fun t c => H t = some (.tup (nV c))) ts cs
theorem CellsAt.same {H H' : Hp} (s : Same H H') {p : Addr} {cs : List (List Nat)} (h : CellsAt H p cs) : CellsAt H' p cs := let ⟨ts, h1, h2⟩ := h; ⟨ts, s _ _ h1, pimp (fun _ _ _ z => s _ _ z) h2⟩
def spCells (K : PySem.W.Frag) : Sp := fun vs H Q _ => ∃ a r, vs = [.ref a] ∧ SqT K H a (nV r) ∧ r.length ≤ 16777216 ∧ Row r ∧ 0 < r.length ∧ ∀ H' p, Same H H' → H p = none → CellsAt H' p (cellsOf r) → Q (.ref p) H'
section
variable {κ ι : Type} [DecidableEq κ] [DecidableEq ι]
theorem valV_of (g : κ → V) (k : κ) : ∀ ks : List κ, valV (ks.map fun j => (j, g j)) k = if k ∈ ks then some (g k) else none
  | [] => rfl
  | j :: ks => by
    rw [List.map_cons]
    by_cases h : j = k
    · subst h
      rw [valV_pos (p := (j, g j)) rfl, if_pos List.mem_cons_self]
    · have h2 : ¬ k = j := fun z => h z.symm
      rw [valV_neg (p := (j, g j)) h, valV_of g k ks]
      simp [List.mem_cons, h2]
theorem firsts_map {f : κ → ι} (hf : ∀ a b, f a = f b → a = b) (ks : List κ) : firsts (ks.map f) = (firsts ks).map f := by
  induction ks using snoc_ind with
  | h0 => rfl
  | hs l k ih =>
    rw [List.map_append, List.map_singleton, firsts_snoc, firsts_snoc, ih]
    by_cases h : k ∈ firsts l
    · rw [if_pos h, if_pos (List.mem_map_of_mem h)]
    · rw [if_neg h, if_neg, List.map_append, List.map_singleton]
      intro z
      obtain ⟨j, hj, e⟩ := List.mem_map.mp z
      exact h (hf _ _ e ▸ hj)
theorem places_map {f : κ → ι} (hf : ∀ a b, f a = f b → a = b) (m : κ) (ks : List κ) : places (f m) (ks.map f) = places m ks := by
  unfold places
  rw [List.length_map]
  refine List.filter_congr fun i _ => ?_
  rw [List.getElem?_map]
  congr 1
  cases h : ks[i]? with
  | none => simp
  | some k =>
    simp only [Option.map_some, Option.some.injEq, eq_iff_iff]
    exact ⟨hf k m, fun e => by rw [e]⟩
theorem cells_map {f : κ → ι} (hf : ∀ a b, f a = f b → a = b) (ks : List κ) : cellsOf (ks.map f) = cellsOf ks := by
  unfold cellsOf
  rw [firsts_map hf, List.map_map]
  exact List.map_congr_left fun m _ => places_map hf m ks
end
abbrev kn (n : Nat) : Key := .inl (n : Int)
theorem kn_inj (a b : Nat) (h : kn a = kn b) : a = b := by
  have := Sum.inl.inj h
  omega
/-- the cells that are made -/
def PCl (Hf : Hp) (D : Addr) (cs : List (List Nat)) (i : Nat) (H1 : Hp) : Prop :=
  ∃ ts : List Addr, H1 D = some (.lst (ts.map V.ref)) ∧ Paired (fun t c => H1 t = some (.tup (nV c))) ts (cs.take i) ∧ Same Hf H1 ∧ ∀ t ∈ ts, Hf t = none
section
variable {P : Program} {w : World} {K : PySem.W.Frag} {mg : Str → Option Value} {base : Heap}
theorem ok_listed_cells (T : Tx K mg) : Ok P w K mg base "listed_cells" 1 (spCells K) := by
  refine ok_of T.a_listed_cells sclisted_cells (fun vs H Q E h => ?_) bi_listed_cells fun cdv A outer s H vs Q E hr h => ?_
  · obtain ⟨a, r, rfl, _⟩ := h
    rfl
  obtain ⟨a, r, rfl, ha, hz, hrow, hpos, hQ⟩ := h
  have ha1 : ∀ H1 : Hp, Same H H1 → SqT K H1 a (nV r) := fun H1 q => Same.sqT q ha
  refine ⟨_, (pss_cons (ps_setLc (i := 1) (own := [("_", 2)]) (g := gName 2) rfl sclisted_cells.nd rfl rfl (sw_true rfl rfl rfl (by decide +kernel)) (pi_range1 rfl T.f_range (pa_cons (pe_op op_add (pe_callB (maxTK K (hc := rfl)) (by rfl) T.f_max (by decide +kernel) (pa_cons (pv 0) pa_nil)) pe_int) pa_nil)) (blkOk_by (N := ["marks", "found", "_", "deal", "mark", "cell"]) (sc := defScope slisted_cells) (by decide +kernel)) (fun _ _ _ _ _ => (pg_name (i := 2) sclisted_cells.nd rfl (by first | exact Or.inl rfl | exact Or.inr rfl))) (fun _ _ _ _ _ => pts_nil) (fun _ _ _ _ _ => (pe_lst pa_nil)))
  (pss_cons (ps_for PassesOwn.never rfl (pi_enumT (by rfl) T.f_enumerate (pa_cons (pv 0) pa_nil)) (pg_tup rfl (pgs_cons (pg_name (i := 3) sclisted_cells.nd rfl (by first | exact Or.inl rfl | exact Or.inr rfl)) (pgs_cons (pg_name (i := 4) sclisted_cells.nd rfl (by first | exact Or.inl rfl | exact Or.inr rfl)) pgs_nil)))
  (pss_one (ps_expr (pe_bm PySem.F.plainAttrs_list PySem.F.slot_list_append PySem.F.type_list_append mt_append (pe_ix (ixL K) (pv 1) (pv 4) (fun _ _ => rfl)) (pa_cons (pv 3) pa_nil)))))
  (pss_one (ps_ret (pe_callTy (tupK K) (by rfl) T.f_tuple (by decide +kernel) (pa_cons (pe_lc (own := [("cell", 5)]) (g := gName 5) rfl sclisted_cells.nd (pi_list (pv 1)) (blkOk_by (N := ["marks", "found", "_", "deal", "mark", "cell"]) (sc := defScope slisted_cells) (by decide +kernel)) (fun _ _ _ _ _ => (pg_name (i := 5) sclisted_cells.nd rfl (by first | exact Or.inl rfl | exact Or.inr rfl))) (fun _ _ _ _ _ => pts_nil) (fun _ _ _ _ _ => (pe_callTy (tupK K) (by rfl) T.f_tuple (by decide +kernel) (pa_cons (pv 5) pa_nil)))) pa_nil)))))), ?_⟩
  refine ⟨_, rfl, a, r.map fun n => ((n : Nat) : Int), rfl, by rw [← nV_int]; exact ha, by rw [List.length_map]; exact hpos, fun mx hmx hle => ?_⟩
  have cpos : 0 < cnt r := by
    have q : at0 r 0 < cnt r := (row_mem hrow).mp (List.mem_of_getElem? (of_at0 hpos))
    omega
  have ecnt : mx + 1 = (cnt r : Nat) := by
    obtain ⟨n, hn, rfl⟩ := List.mem_map.mp hmx
    have h1 := (row_mem hrow).mp hn
    have h2 := hle (((cnt r - 1 : Nat) : Nat) : Int) (List.mem_map.mpr ⟨_, (row_mem hrow).mpr (by omega), rfl⟩)
    omega
  have cle : cnt r ≤ r.length := firsts_le r
  have big : (16777216 : Nat) ≤ sizeLine := by decide
  refine ⟨_, _, rfl, rfl, _, rfl, by omega, by omega, fun D nD => ?_⟩
  have et : (mx + 1).toNat = cnt r := by omega
  rw [et]
  refine lc_it walk_range (fun i H1 => ∃ ls : List Addr, H1 D = some (.lst (ls.map V.ref)) ∧ ls.length = i ∧ ls.Nodup ∧ Same H H1 ∧ ∀ l ∈ ls, H1 l = some (.lst []) ∧ H l = none) ?_ (fun _ _ _ _ => trivial) ?_ ?_
  · exact ⟨[], upd_same .., rfl, List.nodup_nil, same_new nD, fun l hl => by cases hl⟩
  · rintro i x H1 H2 hi ⟨ls, h1, h2, h3, h4, h5⟩ ⟨rfl, hx⟩
    refine ⟨rfl, Nat.zero_le _, fun l nl => ?_⟩
    have lD : l ≠ D := fun z => by rw [z, h1] at nl; cases nl
    refine ⟨ls.map V.ref, by rw [upd_ne lD.symm]; exact h1, by rw [List.length_map, h2]; omega, ls ++ [l], ?_, by rw [List.length_append, h2, List.length_singleton], ?_, fun b o q => ?_, fun l' hl' => ?_⟩
    · rw [upd_same, List.map_append, List.map_singleton]
    · exact List.nodup_append.mpr ⟨h3, List.nodup_cons.mpr ⟨List.not_mem_nil, List.nodup_nil⟩, fun x hx y hy e => by
        rw [List.mem_singleton.mp hy] at e
        rw [e] at hx
        have q := (h5 l hx).1
        rw [nl] at q
        cases q⟩
    · rw [upd_ne (fun z => by rw [z, nD] at q; cases q)]
      exact same_new nl _ _ (h4 _ _ q)
    · rcases List.mem_append.mp hl' with z | z
      · obtain ⟨q1, q2⟩ := h5 _ z
        refine ⟨?_, q2⟩
        rw [upd_ne (fun e => by rw [e, h1] at q1; cases ls with
          | nil => cases z
          | cons => cases q1)]
        exact same_new nl _ _ q1
      · rw [List.mem_singleton.mp z]
        exact ⟨by rw [upd_ne lD, upd_same], h4.free nl⟩
  · rintro H1 ⟨ls, h1, h2, h3, h4, h5⟩
    have la : ∀ m, m < cnt r → ls[m]? = some (ls.getD m 0) := fun m hm => by
      rw [List.getD_eq_getElem?_getD, getE (by rw [h2]; exact hm)] <;> rfl
    have inj : ∀ m m', m < cnt r → m' < cnt r → ls.getD m 0 = ls.getD m' 0 → m = m' := fun m m' hm hm' e => by
      have q1 := la m hm
      have q2 := la m' hm'
      rw [e] at q1
      exact (List.getElem?_inj (by rw [h2]; exact hm) h3).mp (q1.trans q2.symm)
    have lne : ∀ m, m < cnt r → ls.getD m 0 ≠ D := fun m hm e => by
      have q := (h5 _ (List.mem_of_getElem? (la m hm))).1
      rw [e, h1] at q
      cases ls with
      | nil => rw [← h2] at hm; exact absurd hm (Nat.not_lt_zero _)
      | cons => cases q
    refine ⟨_, rfl, a, nV r, rfl, ha1 _ h4, for_it (walk_enumT (xs := nV r)) (fun i σ H2 => ∃ m3 m4, σ = [some (.ref a), some (.ref D), none, m3, m4, none] ∧ H2 D = some (.lst (ls.map V.ref)) ∧ Same H H2 ∧ ∀ m, m < cnt r → H2 (ls.getD m 0) = some (.lst (nV (places m (r.take i))))) ?_ ?_ ?_ ?_⟩
    · exact ⟨none, none, rfl, h1, h4, fun m hm => (h5 _ (List.mem_of_getElem? (la m hm))).1⟩
    · exact fun i σ H1 _ h => by obtain ⟨_, _, _, _, h1, _⟩ := h; exact ha1 _ h1
    · rintro i v σ H2 H3 hi ⟨m3, m4, rfl, k1, k2, k3⟩ y
      obtain ⟨Tt, x0, x1, rfl, nT, rfl, hx0, hx1⟩ := y
      cases hx0
      have hi : i < r.length := by rw [nV_len] at hi; exact hi
      have ex : x1 = .int (at0 r i : Nat) := by
        have q := nV_at0 hi
        rw [show (nV r)[i]? = some x1 from hx1] at q
        exact Option.some.inj q
      subst ex
      have hm : at0 r i < cnt r := (row_mem hrow).mp (List.mem_of_getElem? (of_at0 hi))
      have s2 : Same H2 (upd H2 Tt (.tup [.int (i : Nat), .int (at0 r i : Nat)])) := same_new nT
      refine ⟨Tt, _, rfl, .inl (.inl (upd_same ..)), rfl, _, _, rfl, _, _, rfl, rfl, ?_⟩
      generalize hH3 : upd H2 Tt (.tup [.int (i : Nat), .int (at0 r i : Nat)]) = H3 at s2
      have g := s2 _ _ (k3 _ hm)
      refine ⟨_, rfl, _, rfl, D, _, _, _, rfl, rfl, .inl (.inl (s2 _ _ k1)), atI_nat (v := .ref (ls.getD (at0 r i) 0)) (by rw [List.getElem?_map, la _ hm] <;> rfl), ?_⟩
      refine ⟨.inl ⟨rfl, _, .inl (.inl g)⟩, _, rfl, _, _, _, rfl, rfl, g, ?_, ?_⟩
      · rw [nV_len]
        have := places_len (at0 r i) (r.take i)
        rw [List.length_take] at this
        omega
      rw [nV_snoc]
      refine ⟨_, _, rfl, by rw [upd_ne (lne _ hm).symm]; exact s2 _ _ k1, fun b o q => ?_, fun m hm' => ?_⟩
      · have q2 := (h5 _ (List.mem_of_getElem? (la _ hm))).2
        rw [upd_ne (fun z => by rw [z, q2] at q; cases q)]
        exact s2 _ _ (k2 _ _ q)
      · have tk : r.take (i + 1) = r.take i ++ [at0 r i] := by rw [List.take_add_one, of_at0 hi] <;> rfl
        rw [tk, places_snoc]
        by_cases e : m = at0 r i
        · rw [if_pos e, e, upd_same, List.length_take]
          have : min i r.length = i := by omega
          rw [this]
        · rw [if_neg e, upd_ne fun z => e (inj _ _ hm' hm z)]
          exact s2 _ _ (k3 _ hm')
    · rintro σ H2 ⟨m3, m4, rfl, k1, k2, k3⟩
      have e3 : ∀ m, m < cnt r → H2 (ls.getD m 0) = some (.lst (nV (places m r))) := fun m hm => by
        have q := k3 m hm
        rw [show r.take (nV r).length = r by rw [nV_len]; exact List.take_length] at q
        exact q
      refine ⟨_, rfl, D, rfl, ⟨_, .inl (.inl k1)⟩, fun D2 nD2 => ?_⟩
      have dD : D2 ≠ D := fun z => by rw [z, k1] at nD2; cases nD2
      refine lc_it (walk_list (xs := ls.map V.ref)) (PCl H2 D2 (cellsOf r)) ⟨[], upd_same .., .nil, same_new nD2, fun t ht => nomatch ht⟩ (fun i H3 _ h => by obtain ⟨_, _, _, h3, _⟩ := h; exact .inl (.inl (h3 _ _ k1))) ?_ ?_
      · rintro i x H4 H3 hi ⟨ts, g1, g2, g3, g4⟩ ⟨rfl, hx⟩
        have hi : i < cnt r := by rw [List.length_map, h2] at hi; exact hi
        rw [List.getElem?_map, la i hi] at hx
        cases hx
        refine ⟨rfl, ?_⟩
        refine ⟨_, rfl, _, _, rfl, .inl ⟨.inl (.inl (g3 _ _ (e3 i hi))), fun t nt => ?_⟩⟩
        have tD : D2 ≠ t := fun z => by rw [← z, g1] at nt; cases nt
        have s4 : Same H3 (upd H3 t (.tup (nV (places i r)))) := same_new nt
        have lts : ts.length = i := by
          rw [Paired.length g2, List.length_take, row_cells hrow, List.length_map, List.length_range]
          omega
        refine ⟨_, s4 _ _ g1, by rw [List.length_map]; omega, ts ++ [t], ?_, ?_, fun b o q => ?_, fun t' ht' => ?_⟩
        · rw [upd_same, List.map_append, List.map_singleton]
        · have tc : (cellsOf r).take (i + 1) = (cellsOf r).take i ++ [places i r] := by
            rw [List.take_add_one, row_cells hrow, List.getElem?_map, List.getElem?_range hi] <;> rfl
          rw [tc]
          refine psnoc (pimp (fun t' c _ z => ?_) g2) ?_
          · rw [upd_ne (fun q => by rw [q, g1] at z; cases z)]
            exact s4 _ _ z
          · rw [upd_ne (fun z => tD z.symm), upd_same]
        · rw [upd_ne (fun z => by rw [z, nD2] at q; cases q)]
          exact s4 _ _ (g3 _ _ q)
        · rcases List.mem_append.mp ht' with z | z
          · exact g4 _ z
          · rw [List.mem_singleton.mp z]
            exact g3.free nt
      · rintro H3 ⟨ts, g1, g2, g3, g4⟩
        refine ⟨D2, _, rfl, .inl ⟨.inl (.inl g1), fun p np => ?_⟩⟩
        have s5 : Same H (upd H3 p (.tup (ts.map V.ref))) := fun b o q => same_new np _ _ (g3 _ _ (k2 _ _ q))
        refine hQ _ p s5 ((show Same H H3 from fun b o q => g3 _ _ (k2 _ _ q)).free np) ⟨ts, upd_same .., ?_⟩
        have lt : (cellsOf r).take (ls.map V.ref).length = cellsOf r := by
          refine List.take_of_length_le ?_
          rw [row_cells hrow, List.length_map, List.length_map, List.length_range, h2]
          exact Nat.le_refl _
        rw [lt] at g2
        refine pimp (fun t c ht z => ?_) g2
        exact same_new np _ _ z
end
end K03
set_option Elab.async false
set_option linter.all false
set_option maxRecDepth 100000
set_option maxHeartbeats 4000000
/-! Ms: rows of numbers compared. -/
namespace Ms
open PySem PySem.Spec PyProof.Rows L2
def dI (ns : List Int) : List PyData := ns.map PyData.int
theorem dpI {K : PySem.W.Frag} {H : Hp} : ∀ ns : List Int, DpAll K H (ns.map V.int) (dI ns)
  | [] => .nil
  | n :: ns => .cons (.int n) (dpI ns)
theorem layI : ∀ ns : List Int, PyData.canLayAll0 (dI ns) = true
  | [] => by simp [dI, PyData.canLayAll0]
  | n :: ns => by
    have ih := layI ns
    unfold dI at ih ⊢
    simp only [List.map_cons, PyData.canLayAll0, PyData.canLay0, ih, Bool.and_self]
theorem depI : ∀ ns : List Int, PyData.depthAll (dI ns) = 0
  | [] => by simp [dI, PyData.depthAll]
  | n :: ns => by
    have ih := depI ns
    unfold dI at ih ⊢
    simp only [List.map_cons, PyData.depthAll, PyData.depth, ih] <;> rfl
theorem eqvI : ∀ ns ms : List Int, PyData.eqvAll (dI ns) (dI ms) = decide (ns = ms)
  | [], [] => by simp [dI, PyData.eqvAll]
  | [], _ :: _ => by simp [dI, PyData.eqvAll]
  | _ :: _, [] => by simp [dI, PyData.eqvAll]
  | n :: ns, m :: ms => by
    have ih := eqvI ns ms
    unfold dI at ih ⊢
    simp only [List.map_cons, PyData.eqvAll, PyData.eqv, ih]
    by_cases h : n = m
    · subst h; simp
    · simp [h]
theorem shI (ns : List Int) : SeqAt.shaped (.list (dI ns)) = true := by
  unfold SeqAt.shaped
  simp only [PyData.canLay0, layI, PyData.depth, depI, Bool.true_and]
  decide
theorem shT (ns : List Int) : SeqAt.shaped (.tuple (dI ns)) = true := by
  unfold SeqAt.shaped
  simp only [PyData.canLay0, layI, PyData.depth, depI, Bool.true_and]
  decide
theorem eqvL (ns ms : List Int) : PyData.eqv (.list (dI ns)) (.list (dI ms)) = decide (ns = ms) := by
  rw [← eqvI] <;> simp [PyData.eqv]
theorem eqvT (ns ms : List Int) : PyData.eqv (.tuple (dI ns)) (.tuple (dI ms)) = decide (ns = ms) := by
  rw [← eqvI] <;> simp [PyData.eqv]
/-! rows of rows -/
def dR (rs : List (List Int)) : List PyData := rs.map fun r => .list (dI r)
theorem layR : ∀ rs : List (List Int), PyData.canLayAll0 (dR rs) = true
  | [] => by simp [dR, PyData.canLayAll0]
  | r :: rs => by
    have ih := layR rs
    unfold dR at ih ⊢
    simp only [List.map_cons, PyData.canLayAll0, PyData.canLay0, layI, ih, Bool.and_self]
theorem depR : ∀ rs : List (List Int), PyData.depthAll (dR rs) ≤ 1
  | [] => by simp [dR, PyData.depthAll]
  | r :: rs => by
    have ih := depR rs
    unfold dR at ih ⊢
    simp only [List.map_cons, PyData.depthAll, PyData.depth, depI]
    omega
theorem eqvR : ∀ rs ts : List (List Int), PyData.eqvAll (dR rs) (dR ts) = decide (rs = ts)
  | [], [] => by simp [dR, PyData.eqvAll]
  | [], _ :: _ => by simp [dR, PyData.eqvAll]
  | _ :: _, [] => by simp [dR, PyData.eqvAll]
  | r :: rs, t :: ts => by
    have ih := eqvR rs ts
    unfold dR at ih ⊢
    simp only [List.map_cons, PyData.eqvAll, eqvL, ih]
    by_cases h : r = t
    · subst h; simp
    · simp [h]
theorem shR (rs : List (List Int)) : SeqAt.shaped (.list (dR rs)) = true := by
  unfold SeqAt.shaped
  have h := depR rs
  have e : PyData.depth (.list (dR rs)) ≤ 64 := by
    unfold PyData.depth
    omega
  have l : PyData.canLay0 (.list (dR rs)) = true := by
    unfold PyData.canLay0
    exact layR rs
  rw [l, decide_eq_true e] <;> rfl
theorem eqvLR (rs ts : List (List Int)) : PyData.eqv (.list (dR rs)) (.list (dR ts)) = decide (rs = ts) := by
  rw [← eqvR] <;> simp [PyData.eqv]
theorem dpR {K : PySem.W.Frag} {H : Hp} {as : List Addr} {rs : List (List Int)} (h : Paired (fun a r => SqL K H a (r.map V.int)) as rs) : DpAll K H (as.map V.ref) (dR rs) := by
  induction h with
  | nil => exact .nil
  | cons r _ ih => exact .cons (.lst r (dpI _)) ih
end Ms
set_option Elab.async false
set_option linter.all false
set_option maxRecDepth 100000
set_option maxHeartbeats 4000000
namespace K03
open PySem PySem.Spec PyProof.Rows L2 Ms
abbrev CS (K : PySem.W.Frag) : Addr := He.ga K "Sight"
abbrev SD (K : PySem.W.Frag) : Addr := He.ga K "SizesDiffer"
abbrev ND (K : PySem.W.Frag) : Addr := He.ga K "NoDeals"
/-- a sight at p: the row of its marks -/
structure SightAt (K : PySem.W.Frag) (H : Hp) (p : Addr) (r : List Nat) : Prop where
  ex : ∃ dx t c, H p = some (.ins (CS K) dx [("size", .int (r.length : Nat)), ("marks", .ref t), ("_cells", .ref c)]) ∧ H t = some (.tup (nV r)) ∧ CellsAt H c (cellsOf r)
  row : Row r
  pos : 0 < r.length
  few : r.length ≤ 16777216
theorem SightAt.same {K : PySem.W.Frag} {H H' : Hp} (s : Same H H') {p : Addr} {r : List Nat} (h : SightAt K H p r) : SightAt K H' p r :=
  let ⟨dx, t, c, h1, h2, h3⟩ := h.ex
  ⟨⟨dx, t, c, s _ _ h1, s _ _ h2, h3.same s⟩, h.row, h.pos, h.few⟩
theorem row_lt {r : List Nat} (h : Row r) : ∀ x ∈ r, x < r.length := fun x hx => by
  rw [← show ren r = r from h] at hx
  have h1 := ren_lt hx
  have h2 := firsts_le r
  omega
/-- marks in a list or a tuple, or pairs of them in a list -/
def MarksAt (K : PySem.W.Frag) (H : Hp) (a : Addr) (r : List Nat) : Prop := ∃ xs : List V, xs.length ≤ 16777216 ∧ ((∃ ns : List Int, xs = ns.map V.int ∧ r = ren ns ∧ (SqL K H a xs ∨ SqT K H a xs)) ∨
  ∃ (ts : List Addr) (ps : List (Int × Int)), xs = ts.map V.ref ∧ r = ren ps ∧ Paired (fun t p => H t = some (pairV p)) ts ps ∧ SqL K H a xs)
theorem MarksAt.same {K : PySem.W.Frag} {H H' : Hp} (s : Same H H') {a : Addr} {r : List Nat} (h : MarksAt K H a r) : MarksAt K H' a r := by
  obtain ⟨xs, hz, h⟩ := h
  refine ⟨xs, hz, ?_⟩
  rcases h with ⟨ns, e1, e2, h | h⟩ | ⟨ts, ps, e1, e2, h, g⟩
  · exact .inl ⟨ns, e1, e2, .inl (Same.seq s h)⟩
  · exact .inl ⟨ns, e1, e2, .inr (Same.sqT s h)⟩
  · exact .inr ⟨ts, ps, e1, e2, pimp (fun _ _ _ z => s _ _ z) h, Same.seq s g⟩
theorem MarksAt.few {K : PySem.W.Frag} {H : Hp} {a : Addr} {r : List Nat} (h : MarksAt K H a r) : r.length ≤ 16777216 ∧ Row r := by
  obtain ⟨xs, hz, h⟩ := h
  rcases h with ⟨ns, rfl, rfl, _⟩ | ⟨ts, ps, rfl, rfl, h, _⟩
  · rw [List.length_map] at hz
    exact ⟨by rw [ren_len]; exact hz, row_ren _⟩
  · rw [List.length_map] at hz
    exact ⟨by rw [ren_len, ← Paired.length h]; exact hz, row_ren _⟩
theorem MarksAt.sp {K : PySem.W.Frag} {H : Hp} {a : Addr} {r : List Nat} {Q : VK} {E : XK} (h : MarksAt K H a r) (hQ : ∀ H' p, Same H H' → H p = none → H' p = some (.tup (nV r)) → Q (.ref p) H') : spRen K [.ref a] H Q E := by
  obtain ⟨xs, hz, h⟩ := h
  have big : (16777216 : Nat) ≤ sizeLine := by decide
  unfold spRen
  refine ⟨a, xs, r, rfl, Nat.le_trans hz big, ?_⟩
  rcases h with ⟨ns, e1, e2, h⟩ | ⟨ts, ps, e1, e2, h, g⟩
  · exact .inl ⟨ns, e1, e2, h, hQ⟩
  · exact .inr ⟨ts, ps, e1, e2, h, g, hQ⟩
/-! ### SizesDiffer -/
def spSD (K : PySem.W.Frag) : Sp := fun vs H Q _ => ∃ a x y, vs = [.ref a, x, y] ∧ H a = some (exo a (SD K) none) ∧
  ∀ d, H d = none → d ≠ a → Q .non (upd (upd (upd H d (exd d [("one", x)])) a (exo a (SD K) (some d))) d (exd d [("two", y), ("one", x)]))
section
variable {P : Program} {w : World} {K : PySem.W.Frag} {mg : Str → Option Value} {base : Heap}
theorem fn_sd (T : Tx K mg) : ∃ fd ps, FnOk P w K mg base (L2.CX P w) 1 (He.ma K (SD K) "__init__") fd ps (spSD K) ∧ Binds K fd ps [] := by
  refine fn_ok T.d_SizesDifferu__initu_ scSizesDifferu__initu_ (fun vs H Q E h => ?_) bi_SizesDifferu__initu_ fun cdv A outer s H vs Q E hr h => ?_
  · obtain ⟨a, x, y, rfl, _⟩ := h
    rfl
  obtain ⟨a, x, y, rfl, ha, hQ⟩ := h
  refine ⟨_, pss_cons (ps_ost (pv 0) (pv 1)) (pss_one (ps_ost (pv 0) (pv 2))), ?_⟩
  refine ⟨_, rfl, _, rfl, a, SD K, rfl, T.oe_SizesDiffer, T.nS_one, .inl ⟨ha, fun d nd ne => ?_⟩⟩
  refine ⟨_, rfl, _, rfl, a, SD K, rfl, T.oe_SizesDiffer, T.nS_two, .inr ⟨d, [("one", x)], upd_same .., ?_, by show 1 ≤ 900; decide, hQ d nd ne⟩⟩
  rw [upd_ne ne, upd_same]
/-- raise SizesDiffer(one.size, two.size), unless they are of one size -/
def spCheck (K : PySem.W.Frag) : Sp := fun vs H Q E => ∃ p q r t, vs = [.ref p, .ref q] ∧ SightAt K H p r ∧ SightAt K H q t ∧ (r.length = t.length → Q .non H) ∧
  (r.length ≠ t.length → ∀ d H', H d = none → H' d = some (.xd [("two", .int (t.length : Nat)), ("one", .int (r.length : Nat))]) → (∀ b, b ≠ d → H' b = H b) → E (.ref (SD K)) (some d) H')
theorem passF {X : Cx} : Passes (L2.CX X.prog X.w) X (fun _ _ _ => False) := fun pins σ H s e s' I c => (passN (X := X) σ) pins H s e s' I c
theorem ok_check_sizes (T : Tx K mg) : Ok P w K mg base "check_sizes" 3 (spCheck K) := by
  obtain ⟨fd, ps, F, hb⟩ := fn_sd (P := P) (w := w) (base := base) T
  refine ok_ofX T.a_check_sizes sccheck_sizes (fun vs H Q E h => ?_) bi_check_sizes fun cdv A outer s H vs Q E hr h => ?_
  · obtain ⟨p, q, r, t, rfl, _⟩ := h
    rfl
  obtain ⟨p, q, r, t, rfl, hp, hq, h1, h2⟩ := h
  refine ⟨_, (pss_one (ps_if (pt_cmpR op_ne (pe_fld (pv 0) rfl) (pe_fld (pv 1) rfl) (nomark _))
    (pss_one (ps_raise rfl (takes_of rfl rfl rfl rfl) (pmk_oex (dvs := []) T.oe_SizesDiffer T.ie_SizesDiffer.1 T.ie_SizesDiffer.2 F (hr.mono (by decide)) hb .nil passF (by rfl) T.g_SizesDiffer (pa_cons (pe_fld (pv 0) rfl) (pa_cons (pe_fld (pv 1) rfl) pa_nil)))))
    pss_nil)), ?_⟩
  obtain ⟨dx, tt, c, e1, _, _⟩ := hp.ex
  obtain ⟨dy, tu, cu, e2, _, _⟩ := hq.ex
  refine ⟨_, rfl, p, _, dx, _, _, rfl, e1, T.c_Sight, T.n_size, rfl, _, rfl, q, _, dy, _, _, rfl, e2, T.c_Sight, T.n_size, rfl, rfl, _, rfl, ?_⟩
  by_cases e : r.length = t.length
  · have z : (!decide (V.int (r.length : Nat) = V.int (t.length : Nat))) = false := by rw [e]; simp
    rw [z]
    exact iteF (h1 e)
  · have z : (!decide (V.int (r.length : Nat) = V.int (t.length : Nat))) = true := by
      have n : ¬ V.int (r.length : Nat) = V.int (t.length : Nat) := fun z => e (by have := V.int.inj z; omega)
      rw [decide_eq_false n] <;> rfl
    rw [z]
    refine iteT ?_
    refine ⟨_, rfl, p, _, dx, _, _, rfl, e1, T.c_Sight, T.n_size, rfl, _, rfl, q, _, dy, _, _, rfl, e2, T.c_Sight, T.n_size, rfl, by show 2 ≤ 1000; decide, fun a na => ?_⟩
    refine ⟨a, _, _, rfl, upd_same .., fun d nd ne => ⟨rfl, d, [("two", .int (t.length : Nat)), ("one", .int (r.length : Nat))], ?_, upd_same .., ?_, ?_⟩⟩
    · rw [upd_ne ne.symm, upd_same]
    · rw [upd_ne ne] at nd
      exact nd
    · refine h2 e d _ (by rw [upd_ne ne] at nd; exact nd) (upd_same ..) fun b hb => ?_
      rw [upd_ne hb]
      by_cases hba : b = a
      · rw [hba, del_same, na]
      · rw [del_ne hba, upd_ne hb, upd_ne hba, upd_ne hb, upd_ne hba]
/-! ### a new sight -/
def spInit (K : PySem.W.Frag) : Sp := fun vs H Q E => ∃ x dx a r, vs = [.ref x, .ref a] ∧ H x = some (.ins (CS K) dx []) ∧ MarksAt K H a r ∧
  (0 < r.length → ∀ H', (∀ b o, b ≠ x → H b = some o → H' b = some o) → (∃ t c, H' x = some (.ins (CS K) dx [("size", .int (r.length : Nat)), ("marks", .ref t), ("_cells", .ref c)]) ∧ H' t = some (.tup (nV r)) ∧ CellsAt H' c (cellsOf r)) → Q .non H') ∧
  (r.length = 0 → ∀ H', Same H H' → E (.ref (ND K)) none H')
theorem fn_init (T : Tx K mg) : ∃ fd ps, FnOk P w K mg base (L2.CX P w) 2 (He.ma K (CS K) "__init__") fd ps (spInit K) ∧ Binds K fd ps [] := by
  have O_renumbered : Ok P w K mg base "renumbered" 1 (spRen K) := ok_renumbered T
  have O_listed_cells : Ok P w K mg base "listed_cells" 1 (spCells K) := ok_listed_cells T
  refine fn_okX T.d_Sightu__initu_ scSightu__initu_ (fun vs H Q E h => ?_) bi_Sightu__initu_ fun cdv A outer s H vs Q E hr h => ?_
  · obtain ⟨x, dx, a, r, rfl, _⟩ := h
    rfl
  obtain ⟨x, dx, a, r, rfl, hx, hm, h1, h2⟩ := h
  obtain ⟨e1, e2, e3, e4⟩ := T.e_NoDeals
  refine ⟨_, (pss_cons (ps_set (i := 2) scSightu__initu_.nd rfl (by first | exact Or.inl rfl | exact Or.inr rfl) (pe_c (E := EN) O_renumbered hr (by decide) (fun σ => passN σ) (pa_cons (pv 1) pa_nil)))
  (pss_cons (ps_if (pt_cmpR op_eq (pe_callB (lenK K) (by rfl) T.f_len boot_len (pa_cons (pv 2) pa_nil)) pe_int (nomark _))
  (pss_one (ps_raise rfl (takes_of rfl rfl rfl rfl) (pmk_own0 PySem.F.excBase_ValueError e1 T.g_NoDeals e2 (raises_own e3 e4) (by rfl))))
  pss_nil)
  (pss_cons (ps_fld (pv 0) (pe_callB (lenK K) (by rfl) T.f_len boot_len (pa_cons (pv 2) pa_nil)) rfl)
  (pss_cons (ps_fld (pv 0) (pv 2) rfl)
  (pss_one (ps_fld (pv 0) (pe_c (E := EN) O_listed_cells hr (by decide) (fun σ => passN σ) (pa_cons (pv 2) pa_nil)) rfl)))))), ?_⟩
  refine ⟨_, rfl, ?_⟩
  show spRen K [V.ref a] H _ _
  refine hm.sp fun H1 t s1 nt ht => ?_
  refine ⟨_, rfl, t, _, rfl, .inr (.inl (.inl ht)), rfl, _, rfl, ?_⟩
  by_cases e : r.length = 0
  · have z : decide (V.int ((nV r).length : Nat) = V.int 0) = true := by rw [nV_len, e]; simp
    rw [z]
    exact iteT (h2 e H1 s1)
  · have z : decide (V.int ((nV r).length : Nat) = V.int 0) = false := by
      have n : ¬ V.int ((nV r).length : Nat) = V.int 0 := fun z => e (by have := V.int.inj z; rw [nV_len] at this; omega)
      exact decide_eq_false n
    rw [z]
    refine iteF ?_
    have x1 := s1 _ _ hx
    have tx : t ≠ x := fun z => by rw [z, hx] at nt; cases nt
    refine ⟨_, rfl, t, _, rfl, .inr (.inl (.inl ht)), _, rfl, x, _, dx, _, rfl, x1, T.c_Sight, T.n_size, by show 0 < 1000; decide, ?_⟩
    refine ⟨_, rfl, _, rfl, x, _, dx, _, rfl, upd_same .., T.c_Sight, T.n_marks, by show 1 < 1000; decide, ?_⟩
    have t2 : ∀ o o', upd (upd H1 x o) x o' t = some (.tup (nV r)) := fun o o' => by rw [upd_ne tx, upd_ne tx]; exact ht
    refine ⟨_, rfl, t, r, rfl, .inl (.inl (t2 _ _)), hm.few.1, hm.few.2, by omega, fun H2 c s2 nc hc => ?_⟩
    refine ⟨_, rfl, x, _, dx, _, rfl, s2 _ _ (upd_same ..), T.c_Sight, T.n_cells, by show 2 < 1000; decide, ?_⟩
    rw [nV_len]
    have keep : ∀ b o, b ≠ x → upd (upd H1 x (.ins (CS K) dx (putF "size" (.int ((nV r).length : Nat)) []))) x (.ins (CS K) dx (putF "marks" (.ref t) (putF "size" (.int ((nV r).length : Nat)) []))) b = some o → H2 b = some o := fun b o _ q => s2 _ _ q
    have ne : ∀ {b : Addr} {xs : List V}, H2 b = some (.tup xs) → b ≠ x := fun {b xs} q z => by
      rw [z, s2 _ _ (upd_same ..)] at q
      cases q
    have t3 := s2 _ _ (t2 (.ins (CS K) dx (putF "size" (.int ((nV r).length : Nat)) [])) (.ins (CS K) dx (putF "marks" (.ref t) (putF "size" (.int ((nV r).length : Nat)) []))))
    refine h1 (by omega) _ (fun b o hb q => ?_) ⟨t, c, upd_same .., by rw [upd_ne tx]; exact t3, ?_⟩
    · rw [upd_ne hb]
      exact s2 _ _ (by rw [upd_ne hb, upd_ne hb]; exact s1 _ _ q)
    · obtain ⟨ts, c1, c2⟩ := hc
      exact ⟨ts, by rw [upd_ne (ne c1)]; exact c1, pimp (fun t c _ z => by rw [upd_ne (ne z)]; exact z) c2⟩
theorem cok (T : Tx K mg) : COk P w K mg base "Sight" 2 (spInit K) := ⟨fn_init T, T.k_Sight, T.g_Sight⟩
/-- what Sight(marks) asks -/
theorem make_run {t : TA} {E : L2.St → XK} {σ : L2.St} {H : Hp} {Q : VK} (h : t σ H fun vs H1 => ∃ a r, vs = [.ref a] ∧ MarksAt K H1 a r ∧ (0 < r.length → ∀ H' p, Same H1 H' → H1 p = none → SightAt K H' p r → Q (.ref p) H') ∧ (r.length = 0 → ∀ H', Same H1 H' → E σ (.ref (ND K)) none H'))
    (mono : ∀ σ H Q Q', (∀ vs H1, Q vs H1 → Q' vs H1) → t σ H Q → t σ H Q') : tMakeS (CS K) (spInit K) E t σ H Q := by
  refine mono σ H _ _ (fun vs H1 z => ?_) h
  obtain ⟨a, r, rfl, hm, h1, h2⟩ := z
  intro x dx nx nd ne
  have xx : upd (upd H1 dx (.own x)) x (.ins (CS K) dx []) x = some (.ins (CS K) dx []) := upd_same ..
  have s0 : Same H1 (upd (upd H1 dx (.own x)) x (.ins (CS K) dx [])) := fun b o q => by
    rw [upd_ne (fun z => by rw [z, nx] at q; cases q), upd_ne (fun z => by rw [z, nd] at q; cases q)]
    exact q
  refine ⟨x, dx, a, r, rfl, xx, hm.same s0, fun hp H' k ⟨t, c, g1, g2, g3⟩ => ⟨rfl, h1 hp H' x (fun b o q => k b o (fun z => by rw [z, nx] at q; cases q) (s0 _ _ q)) nx ⟨⟨dx, t, c, g1, g2, g3⟩, hm.few.2, hp, hm.few.1⟩⟩, fun e H' s1 => h2 e H' (fun b o q => s1 _ _ (s0 _ _ q))⟩
end
end K03
set_option Elab.async false
set_option linter.all false
set_option maxRecDepth 100000
set_option maxHeartbeats 2000000
/-! Ms: tables of sets with any power of two of places: the runs reach every place. -/
namespace Ms
open PySem PySem.Spec PyProof.Rows L2
/-- 1 + 5 + 25 + .. (n members) -/
def geo : Nat → Nat
  | 0 => 0
  | n + 1 => 5 * geo n + 1
theorem geo_par : ∀ n, geo n % 2 = n % 2
  | 0 => rfl
  | n + 1 => by
    have := geo_par n
    show (5 * geo n + 1) % 2 = (n + 1) % 2
    omega
theorem geo_add (a : Nat) : ∀ b, geo (a + b) = 4 * (geo a * geo b) + geo a + geo b
  | 0 => by
    show geo a = 4 * (geo a * 0) + geo a + 0
    omega
  | b + 1 => by
    have ih := geo_add a b
    have e : geo (a + (b + 1)) = 5 * geo (a + b) + 1 := rfl
    have e2 : geo (b + 1) = 5 * geo b + 1 := rfl
    have e3 : geo a * (5 * geo b + 1) = 5 * (geo a * geo b) + geo a := by
      rw [Nat.mul_add, Nat.mul_one, Nat.mul_left_comm]
    rw [e, e2, e3, ih]
    omega
theorem geo_two (d : Nat) : geo (d + d) = 2 * (geo d * (2 * geo d + 1)) := by
  have e := geo_add d d
  have e3 : geo d * (2 * geo d + 1) = 2 * (geo d * geo d) + geo d := by
    rw [Nat.mul_add, Nat.mul_one, Nat.mul_left_comm]
  rw [e, e3]
  omega
theorem odd_cancel {k x y : Nat} (hy : y % 2 = 1) (h : 2 ^ k ∣ x * y) : 2 ^ k ∣ x := by
  have c : Nat.Coprime (2 ^ k) y := by
    refine Nat.Coprime.pow_left k ?_
    show Nat.gcd 2 y = 1
    rw [Nat.gcd_rec, hy] <;> rfl
  exact c.dvd_of_dvd_mul_right h
theorem geo_dvd : ∀ k d, 2 ^ k ∣ geo d → 2 ^ k ∣ d
  | 0, d, _ => ⟨d, by simp⟩
  | k + 1, d, h => by
    have p := geo_par d
    have h2 : 2 ∣ geo d := Nat.dvd_trans ⟨2 ^ k, by rw [Nat.pow_succ, Nat.mul_comm]⟩ h
    obtain ⟨q, hq⟩ := h2
    obtain ⟨e, rfl⟩ : ∃ e, d = e + e := ⟨d / 2, by omega⟩
    rw [geo_two, Nat.pow_succ, Nat.mul_comm (2 ^ k) 2] at h
    have h3 : 2 ^ k ∣ geo e * (2 * geo e + 1) := Nat.dvd_of_mul_dvd_mul_left (by decide) h
    obtain ⟨c, hc⟩ := geo_dvd k e (odd_cancel (by omega) h3)
    refine ⟨c, ?_⟩
    rw [Nat.pow_succ, hc]
    rw [Nat.mul_assoc, Nat.mul_comm 2 c, ← Nat.mul_assoc]
    omega
theorem lcg_geo (m x : Nat) : ∀ n, lcgI m x n % (m + 1) = (4 * (geo n * x) + x + geo n) % (m + 1)
  | 0 => by
    show x % (m + 1) = (4 * (0 * x) + x + 0) % (m + 1)
    rw [Nat.zero_mul] <;> simp
  | n + 1 => by
    have ih := lcg_geo m x n
    show ((lcgI m x n * 5 + 1) % (m + 1)) % (m + 1) = _
    rw [Nat.mod_mod, Nat.add_mod, Nat.mul_mod, ih, ← Nat.mul_mod, ← Nat.add_mod]
    congr 1
    have e : geo (n + 1) = 5 * geo n + 1 := rfl
    have e3 : (5 * geo n + 1) * x = 5 * (geo n * x) + x := by
      rw [Nat.add_mul, Nat.one_mul, Nat.mul_assoc]
    rw [e, e3]
    omega
theorem lcg_from (m x : Nat) (a : Nat) : ∀ k, lcgI m x (a + k) = lcgI m (lcgI m x a) k
  | 0 => rfl
  | k + 1 => by
    show (lcgI m x (a + k) * 5 + 1) % (m + 1) = (lcgI m (lcgI m x a) k * 5 + 1) % (m + 1)
    rw [lcg_from m x a k]
theorem lcg_in {m x : Nat} (h : x ≤ m) : ∀ n, lcgI m x n ≤ m
  | 0 => h
  | n + 1 => Nat.le_of_lt_succ (Nat.mod_lt _ (Nat.succ_pos m))
theorem lcg_back {k m x d : Nat} (hm : m + 1 = 2 ^ k) (hx : x ≤ m) (h : lcgI m x d = x) : 2 ^ k ∣ d := by
  have e := lcg_geo m x d
  rw [h] at e
  have e1 : (4 * (geo d * x) + x + geo d) % (m + 1) = x % (m + 1) := e.symm
  have e2 : 4 * (geo d * x) + x + geo d = x + geo d * (4 * x + 1) := by
    have : geo d * (4 * x + 1) = 4 * (geo d * x) + geo d := by
      rw [Nat.mul_add, Nat.mul_one, Nat.mul_left_comm]
    omega
  rw [e2] at e1
  have e3 : (m + 1) ∣ geo d * (4 * x + 1) := by
    have z := Nat.sub_mod_eq_zero_of_mod_eq e1
    rw [Nat.add_sub_cancel_left] at z
    exact Nat.dvd_of_mod_eq_zero z
  rw [hm] at e3
  exact geo_dvd k d (odd_cancel (by omega) e3)
/-- from any place, every place is reached within a round -/
theorem lcg_round2 {k m x j : Nat} (hm : m + 1 = 2 ^ k) (hx : x ≤ m) (hj : j ≤ m) : ∃ n, n ≤ m ∧ lcgI m x n = j := by
  let l := (List.range (m + 1)).map (lcgI m x)
  have ll : l.length = m + 1 := by rw [List.length_map, List.length_range]
  have nd : l.Nodup := by
    rw [List.nodup_iff_pairwise_ne, List.pairwise_iff_getElem]
    intro a b ha hb hab e
    rw [ll] at ha hb
    have ea : l[a] = lcgI m x a := by simp [l]
    have eb : l[b] = lcgI m x b := by simp [l]
    rw [ea, eb] at e
    have eq : lcgI m (lcgI m x a) (b - a) = lcgI m x a := by
      rw [← lcg_from, show a + (b - a) = b by omega]
      exact e.symm
    obtain ⟨c, hc⟩ := lcg_back hm (lcg_in hx a) eq
    have : 1 ≤ c := by
      rcases c with _ | c
      · rw [Nat.mul_zero] at hc
        omega
      · omega
    have := Nat.le_mul_of_pos_right (2 ^ k) (show 0 < c by omega)
    omega
  by_cases mem : j ∈ l
  · obtain ⟨n, hn, e⟩ := List.mem_map.mp mem
    exact ⟨n, Nat.le_of_lt_succ (List.mem_range.mp hn), e⟩
  · have := nat_nodup_len (j :: l) (List.range (m + 1)) (List.nodup_cons.mpr ⟨mem, nd⟩) fun y hy => by
      rw [List.mem_range]
      rcases List.mem_cons.mp hy with e | e
      · omega
      · obtain ⟨n, hn, e⟩ := List.mem_map.mp e
        rw [← e]
        exact Nat.lt_succ_of_le (lcg_in hx n)
    rw [List.length_cons, ll, List.length_range] at this
    omega
/-- a mask whose runs reach every place -/
structure WideM (m : Nat) : Prop where
  odd : m % 2 = 1
  runs : ∀ (h : Int) (j : Nat), j ≤ m → ∃ n, n ≤ m + 12 ∧ runI m (SetTable.bits h) n = j
theorem wideM {k m : Nat} (hk : 0 < k) (hm : m + 1 = 2 ^ k) : WideM m := by
  refine ⟨?_, fun h j hj => ?_⟩
  · obtain ⟨k, rfl⟩ : ∃ i, k = i + 1 := ⟨k - 1, by omega⟩
    rw [Nat.pow_succ] at hm
    omega
  · obtain ⟨n, hn, e⟩ := lcg_round2 hm (runI_le m (SetTable.bits h) 12) hj
    exact ⟨12 + n, by omega, (runI_tail (bits_lt h) n).trans e⟩
/-- every place is met on the way of a search, soon enough -/
theorem WideM.way {m : Nat} (w : WideM m) (h : Int) {j : Nat} (hj : j ≤ m) : ∃ k, k < 10 * SetTable.turns m ∧ L2.way m h k = j := by
  obtain ⟨n, hn, e⟩ := w.runs h j hj
  obtain ⟨k, hk, e2⟩ := run_nth m (SetTable.bits h) n
  have lt : 10 * n < 10 * SetTable.turns m := by
    unfold SetTable.turns
    omega
  exact ⟨k, Nat.lt_of_le_of_lt hk lt, (congrArg SetTable.Probe.j e2).trans e⟩
end Ms
set_option Elab.async false
set_option linter.all false
set_option maxRecDepth 100000
set_option maxHeartbeats 2000000
/-! Ms: the table of a set, of any size: what is put in is found again; laying it anew. -/
namespace Ms
open PySem PySem.Spec PyProof.Rows L2
/-- the places that hold something, in the order of the places, and the hashes of what they hold -/
structure Tab (t : SetTable) (hs : List Int) : Prop where
  rs : Ris t.place.toList
  nod : t.dummies = #[]
  size : t.place.size = hs.length
  wide : WideM t.mask
  inn : ∀ x ∈ t.place.toList, x ≤ t.mask
  met : ∀ (i : Nat) (g : Int) (j : Nat), hs[i]? = some g → t.place.toList[i]? = some j → ∃ n, way t.mask g n = j ∧ ∀ n', n' < n → way t.mask g n' ∈ t.place.toList
theorem way_in (m : Nat) (g : Int) (n : Nat) : way m g n ≤ m := by
  have b0 : SetTable.bits g % (m + 1) ≤ m := Nat.le_of_lt_succ (Nat.mod_lt _ (Nat.succ_pos m))
  have b1 := (runEnd_bd b0).1
  have b2 := (runEnd_bd b0).2.1
  have s0 : (runAt m (SetTable.bits g % (m + 1)) (SetTable.bits g)).j + (runAt m (SetTable.bits g % (m + 1)) (SetTable.bits g)).more ≤ m := by
    show SetTable.bits g % (m + 1) + (SetTable.runEnd m (SetTable.bits g % (m + 1)) - SetTable.bits g % (m + 1)) ≤ m
    omega
  exact Nat.le_trans (Nat.le_add_right _ _) (nth_in n _ s0)
section
variable {t : SetTable} {hs : List Int}
theorem Tab.plen (T : Tab t hs) : t.place.toList.length = hs.length := Array.length_toList.trans T.size
/-- a search ends at a place that holds nothing, and not before -/
theorem Tab.ends (T : Tab t hs) (few : hs.length ≤ t.mask) (g : Int) : ∃ N, N < 10 * SetTable.turns t.mask ∧ (¬ way t.mask g N ∈ t.place.toList) ∧ ∀ n, n < N → way t.mask g n ∈ t.place.toList := by
  obtain ⟨j, jl, jn⟩ := st_missing t.place.toList (t.mask + 1) (by rw [T.plen]; omega)
  obtain ⟨n, nl, e⟩ := T.wide.way g (Nat.le_of_lt_succ jl)
  obtain ⟨N, l1, l2, l3⟩ := st_least (p := fun n => ¬ way t.mask g n ∈ t.place.toList) n (fun z => jn (e ▸ z))
  exact ⟨N, by omega, l2, fun n' h => Classical.not_not.mp (l3 n' h)⟩
/-- .. and what has this hash is met before -/
theorem Tab.sooner (T : Tab t hs) {g : Int} {N i j : Nat} (hN : ¬ way t.mask g N ∈ t.place.toList) (hi : hs[i]? = some g) (hj : t.place.toList[i]? = some j) : ∃ n, n < N ∧ way t.mask g n = j := by
  obtain ⟨n, e, all⟩ := T.met i g j hi hj
  have m : j ∈ t.place.toList := List.mem_of_getElem? hj
  refine ⟨n, Nat.lt_of_not_le fun le => ?_, e⟩
  rcases Nat.lt_or_eq_of_le le with l | q
  · exact hN (all N l)
  · exact hN (by rw [q, e]; exact m)
/-- one more in the table, at the end of its search -/
theorem Tab.more (T : Tab t hs) {g : Int} {N : Nat} (hN : ¬ way t.mask g N ∈ t.place.toList) (all : ∀ n, n < N → way t.mask g n ∈ t.place.toList) :
    ∃ t2 p, t.put (way t.mask g N) = (t2, p) ∧ p ≤ hs.length ∧ Tab t2 (hs.take p ++ g :: hs.drop p) ∧ t2.mask = t.mask ∧ t2.led = t.led ∧ t2.plain = t.plain ∧ t2.fill = hs.length + 1 := by
  have win := way_in t.mask g N
  generalize ew : way t.mask g N = j at hN win
  have cut := (below_cut T.rs j).1
  have pl : SetTable.below t.place j ≤ hs.length := by rw [← T.size]; exact cut
  have np : t.place[SetTable.below t.place j]? ≠ some j := fun e => hN (List.mem_of_getElem? (Array.getElem?_toList ▸ e))
  have tl := put_place t j
  have dm := put_dm T.nod j
  refine ⟨(t.put j).1, SetTable.below t.place j, rfl, pl, ?_, rfl, rfl, rfl, ?_⟩
  · generalize hp : SetTable.below t.place j = p at tl pl np
    have pl2 : p ≤ t.place.toList.length := by rw [T.plen]; exact pl
    have sub : ∀ x, x ∈ t.place.toList → x ∈ (t.put j).1.place.toList := fun x hx => by rw [tl]; exact mem_ins.mpr (.inr hx)
    have mk : (t.put j).1.mask = t.mask := rfl
    refine ⟨ris_insert T.rs (by rw [hp]; exact np), dm, ?_, T.wide, ?_, ?_⟩
    · rw [← Array.length_toList, tl, len_ins _ pl2, len_ins _ pl, T.plen]
    · intro x hx
      rw [tl] at hx
      exact (mem_ins.mp hx).elim (fun e => e ▸ win) (T.inn x)
    · intro i g' j' h1 h2
      rw [tins_get _ pl] at h1
      rw [tl, tins_get _ pl2] at h2
      rw [mk]
      have old : ∀ i', hs[i']? = some g' → t.place.toList[i']? = some j' → ∃ n, way t.mask g' n = j' ∧ ∀ n', n' < n → way t.mask g' n' ∈ (t.put j).1.place.toList := fun i' a b => by
        obtain ⟨n, e, f⟩ := T.met i' g' j' a b
        exact ⟨n, e, fun n' l => sub _ (f n' l)⟩
      by_cases lt : i < p
      · rw [if_pos lt] at h1 h2
        exact old i h1 h2
      rw [if_neg lt] at h1 h2
      by_cases eq : i = p
      · rw [if_pos eq] at h1 h2
        cases h1
        cases h2
        exact ⟨N, ew, fun n l => sub _ (all n l)⟩
      rw [if_neg eq] at h1 h2
      exact old (i - 1) h1 h2
  · show (t.put j).1.place.size + (t.put j).1.dummies.size = _
    rw [dm, ← Array.length_toList, tl, len_ins _ (by rw [T.plen]; exact pl), T.plen] <;> rfl
end
/-! ### laying the table anew -/
/-- the next one finds its place -/
theorem own_next {m : Nat} (wd : WideM m) {done : List Int} {ow : Array (Option Nat)} (O : Own m done ow) (few : done.length ≤ m) (g : Int) :
    ∃ j, stepF m (some (ow, done.length)) g = some (ow.setIfInBounds j (some done.length), (done ++ [g]).length) ∧ Own m (done ++ [g]) (ow.setIfInBounds j (some done.length)) := by
  obtain ⟨taken, tl, tin⟩ := O.ps
  obtain ⟨j0, l0, n0⟩ := st_missing taken (m + 1) (by omega)
  have free0 : oAt ow j0 = none := Classical.byContradiction fun c => n0 (tin j0 (Nat.le_of_lt_succ l0) c)
  -- the first free place of the way
  obtain ⟨n, nl, er⟩ := wd.runs g j0 (Nat.le_of_lt_succ l0)
  have reach : way m g (off m (SetTable.bits g % (m + 1)) (SetTable.bits g) n) = j0 := by
    have e := nth_off m n (SetTable.bits g % (m + 1)) (SetTable.bits g)
    rw [itL_run] at e
    exact (congrArg SetTable.Probe.j e).trans er
  obtain ⟨N, a1, a2, a3⟩ := st_least (p := fun k => oAt ow (way m g k) = none) _ (show oAt ow (way m g (off m (SetTable.bits g % (m + 1)) (SetTable.bits g) n)) = none by rw [reach]; exact free0)
  have fr : SetTable.layClean.free m ow (SetTable.turns m) (SetTable.bits g % (m + 1)) (SetTable.bits g) = some (way m g N) := by
    refine free_spec m ow _ n _ _ N ?_ a1 ?_ ?_
    · unfold SetTable.turns
      omega
    · intro k hk
      have := a3 k hk
      cases z : oAt ow (way m g k) with
      | none => exact absurd z this
      | some v => rfl
    · exact congrArg Option.isNone (show oAt ow (way m g N) = none from a2)
  have win := way_in m g N
  refine ⟨way m g N, ?_, ?_⟩
  · rw [stepF_some fr, List.length_append] <;> rfl
  generalize ew : way m g N = j at a2 win
  have inb : j < ow.size := by rw [O.sz]; omega
  have self := oAt_set_self (some done.length) inb
  have same : ∀ {i : Nat}, i ≠ j → oAt (ow.setIfInBounds j (some done.length)) i = oAt ow i := fun ne => oAt_set_ne _ ne
  have keep : ∀ {i : Nat}, oAt ow i ≠ none → oAt (ow.setIfInBounds j (some done.length)) i ≠ none := fun {i} h => by
    by_cases e : i = j
    · subst e
      rw [self]
      exact Option.some_ne_none _
    · rw [same e]
      exact h
  constructor
  · rw [Array.size_setIfInBounds]
    exact O.sz
  · intro i k hi e
    by_cases eq : i = j
    · subst eq
      rw [self] at e
      cases e
      exact ⟨g, N, List.getElem?_concat_length, ew, fun n' l => keep (a3 n' l)⟩
    · rw [same eq] at e
      obtain ⟨g', n', b1, b2, b3⟩ := O.at_ i k hi e
      have lk := (List.getElem?_eq_some_iff.mp b1).1
      exact ⟨g', n', (List.getElem?_append_left lk).trans b1, b2, fun x l => keep (b3 x l)⟩
  · intro k hk
    rw [List.length_append] at hk
    rcases Nat.lt_or_ge k done.length with l | l
    · obtain ⟨i, b1, b2⟩ := O.all k l
      refine ⟨i, b1, (same fun e => ?_).trans b2⟩
      rw [e, a2] at b2
      cases b2
    · have : k = done.length := Nat.le_antisymm (Nat.le_of_lt_succ hk) l
      subst this
      exact ⟨j, win, self⟩
  · refine ⟨j :: taken, ?_, fun i hi h => ?_⟩
    · rw [List.length_cons, List.length_append, tl] <;> rfl
    · by_cases eq : i = j
      · exact eq ▸ List.mem_cons_self
      · exact List.mem_cons_of_mem _ (tin i hi (by rw [← same eq]; exact h))
theorem own_all {m : Nat} (wd : WideM m) : ∀ (todo done : List Int) (ow : Array (Option Nat)), Own m done ow → (done ++ todo).length ≤ m →
    ∃ ow2, todo.foldl (stepF m) (some (ow, done.length)) = some (ow2, (done ++ todo).length) ∧ Own m (done ++ todo) ow2
  | [], done, ow, O, _ => by
    rw [List.append_nil]
    exact ⟨ow, rfl, O⟩
  | g :: todo, done, ow, O, few => by
    have dl : done.length ≤ m := Nat.le_trans (by rw [List.length_append]; exact Nat.le_add_right ..) few
    obtain ⟨j, e, O2⟩ := own_next wd O dl g
    have ea : done ++ g :: todo = done ++ [g] ++ todo := (List.append_cons ..)
    rw [ea] at few ⊢
    obtain ⟨ow2, f, O3⟩ := own_all wd todo _ _ O2 few
    exact ⟨ow2, (by rw [List.foldl_cons, e]; exact f), O3⟩
theorem own_clean {m : Nat} (wd : WideM m) {hs : Array Int} (few : hs.size ≤ m) : ∃ ow, SetTable.layClean m hs = some ow ∧ Own m hs.toList ow := by
  obtain ⟨ow, f, O⟩ := own_all wd hs.toList [] _ (Own.init m) (by rw [List.nil_append, Array.length_toList]; exact few)
  rw [List.nil_append] at O
  refine ⟨ow, ?_, O⟩
  rw [layClean_eq]
  exact congrArg (Option.map (·.1)) f
/-- the table after it was laid anew: the same hashes in another order, each found again -/
theorem relaid_tab (t : SetTable) {hs : Array Int} {wanted M : Nat} (hw : SetTable.sizeAbove wanted - 1 = M) (wd : WideM M) (few : hs.size ≤ M) :
    ∃ t2 order, t.relaid hs wanted = some (t2, order) ∧ order.toList.Perm (List.range hs.size) ∧ Tab t2 (order.toList.map fun i => hs.getD i 0) ∧ t2.mask = M ∧ t2.led = t.led ∧ t2.plain = t.plain := by
  obtain ⟨ow, e, O⟩ := own_clean wd few
  have live := @mem_live M ow O.sz
  obtain ⟨up, inr⟩ := ris_live (fun j => ow.getD j none) (List.range (M + 1)) (by unfold Ris; exact List.pairwise_lt_range)
  have up : Ris ((liveOf M ow).map (·.1)) := up
  have inr : ∀ x ∈ (liveOf M ow).map (·.1), x ∈ List.range (M + 1) := inr
  have each : ∀ k, k < hs.size → k ∈ (liveOf M ow).map (·.2) := fun k hk => by
    obtain ⟨j, a, b⟩ := O.all k (by rw [Array.length_toList]; exact hk)
    exact List.mem_map.mpr ⟨(j, k), live.mpr ⟨a, b⟩, rfl⟩
  have count : (liveOf M ow).length = hs.size := by
    refine Nat.le_antisymm ?_ ?_
    · obtain ⟨taken, tl, tin⟩ := O.ps
      have nd : ((liveOf M ow).map (·.1)).Nodup := List.Pairwise.imp (fun h => Nat.ne_of_lt h) up
      have := nat_nodup_len _ taken nd fun x hx => by
        obtain ⟨⟨y, k⟩, hq, rfl⟩ := List.mem_map.mp hx
        have := live.mp hq
        exact tin y this.1 (by rw [this.2]; exact Option.some_ne_none _)
      rw [List.length_map, tl] at this
      exact this
    · have := nat_nodup_len (List.range hs.size) _ List.nodup_range fun k hk => each k (List.mem_range.mp hk)
      rw [List.length_range, List.length_map] at this
      exact this
  refine ⟨tabOf t M ow, ((liveOf M ow).map (·.2)).toArray, by rw [relaid_eq, hw, e] <;> rfl, perm_range _ _ (by rw [List.length_map]; exact count) each, ?_, rfl, rfl, rfl⟩
  refine ⟨up, rfl, ?_, wd, fun x hx => Nat.le_of_lt_succ (List.mem_range.mp (inr x hx)), fun i g j h1 h2 => ?_⟩
  · show ((liveOf M ow).map (·.1)).toArray.size = (((liveOf M ow).map (·.2)).map _).length
    rw [List.size_toArray, List.length_map, List.length_map, List.length_map]
  · have h1 : (((liveOf M ow).map (·.2)).map fun i => hs.getD i 0)[i]? = some g := h1
    have h2 : ((liveOf M ow).map (·.1))[i]? = some j := h2
    simp only [List.getElem?_map] at h1 h2
    cases q : (liveOf M ow)[i]? with
    | none => rw [q] at h2; cases h2
    | some p =>
      rw [q] at h1 h2
      cases h1
      cases h2
      have mem := List.mem_of_getElem? q
      obtain ⟨a, b⟩ := live.mp mem
      obtain ⟨g, n, c1, c2, c3⟩ := O.at_ p.1 p.2 a b
      have eg : hs.getD p.2 0 = g := by
        rw [Array.getElem?_toList] at c1
        rw [Array.getD_eq_getD_getElem?, c1] <;> rfl
      show ∃ n, way M (hs.getD p.2 0) n = p.1 ∧ ∀ n', n' < n → way M (hs.getD p.2 0) n' ∈ (liveOf M ow).map (·.1)
      rw [eg]
      refine ⟨n, c2, fun n' l => ?_⟩
      show way M g n' ∈ (liveOf M ow).map (·.1)
      cases z : oAt ow (way M g n') with
      | none => exact absurd z (c3 n' l)
      | some k => exact List.mem_map.mpr ⟨(way M g n', k), live.mpr ⟨way_in M g n', z⟩, rfl⟩
end Ms
set_option Elab.async false
set_option linter.all false
set_option maxRecDepth 100000
set_option maxHeartbeats 4000000
/-! Ms: a set of tuples of ints, of any size below 4000: search, growth, adding. -/
namespace Ms
open PySem PySem.Spec PyProof.Rows L2
/-- the masks that a set grows through -/
def Pow (m : Nat) : Prop := m = 7 ∨ m = 31 ∨ m = 127 ∨ m = 511 ∨ m = 2047 ∨ m = 8191
theorem Pow.wide {m : Nat} (h : Pow m) : WideM m := by
  rcases h with e | e | e | e | e | e <;> subst e
  · exact wideM (k := 3) (by decide) (by decide)
  · exact wideM (k := 5) (by decide) (by decide)
  · exact wideM (k := 7) (by decide) (by decide)
  · exact wideM (k := 9) (by decide) (by decide)
  · exact wideM (k := 11) (by decide) (by decide)
  · exact wideM (k := 13) (by decide) (by decide)
theorem Pow.le {m : Nat} (h : Pow m) : m ≤ 8191 := by
  rcases h with e | e | e | e | e | e <;> omega
theorem grow_a : SetTable.sizeAbove (SetTable.grown 77) = 512 := by decide +kernel
theorem grow_b : SetTable.sizeAbove (SetTable.grown 307) = 2048 := by decide +kernel
theorem grow_c : SetTable.sizeAbove (SetTable.grown 1229) = 8192 := by decide +kernel
/-- when it is too full, the next size -/
theorem Pow.next {m n : Nat} (h : Pow m) (r : n * 5 < m * 3) (f : (n + 1) * 5 ≥ m * 3) (few : n < 4000) : ∃ M, SetTable.sizeAbove (SetTable.grown (n + 1)) = M + 1 ∧ Pow M ∧ (n + 1) * 5 < M * 3 := by
  rcases h with e | e | e | e | e | e <;> subst e
  · obtain rfl : n = 4 := by omega
    exact ⟨31, size_20, by unfold Pow; omega, by omega⟩
  · obtain rfl : n = 18 := by omega
    exact ⟨127, size_76, by unfold Pow; omega, by omega⟩
  · obtain rfl : n = 76 := by omega
    exact ⟨511, grow_a, by unfold Pow; omega, by omega⟩
  · obtain rfl : n = 306 := by omega
    exact ⟨2047, grow_b, by unfold Pow; omega, by omega⟩
  · obtain rfl : n = 1228 := by omega
    exact ⟨8191, grow_c, by unfold Pow; omega, by omega⟩
  · omega
theorem nth_dummy (m : Nat) : ∀ (n : Nat) (p : SetTable.Probe), (nth m p n).dummy = p.dummy
  | 0, _ => rfl
  | n + 1, p => (nth_dummy m n (adv m p)).trans (by unfold adv; split <;> rfl)
section
variable {P : Program} {w : World}
/-- the hashes of the rows -/
def hsOf (P : Program) (w : World) (L : List (Addr × List Int)) : List Int := L.map fun p => thash P w p.2
theorem hs_len (L : List (Addr × List Int)) : (hsOf P w L).length = L.length := List.length_map _
structure SetW (P : Program) (w : World) (h : Heap) (a : Addr) (L : List (Addr × List Int)) (es : Array (Int × Value)) (ep : Nat) (t : SetTable) : Prop where
  ob : ∃ o, h.get? a = some o ∧ o.ExactSet ∧ o.data = .set es ep t
  rows : es.toList = rowsOf P w L
  tab : Tab t (hsOf P w L)
  pow : Pow t.mask
  nd : (L.map (·.2)).Nodup
  tup : ∀ p ∈ L, IsT P w h p.2 p.1
  pl : t.plain = true
  led : w.params.followText "set-order" = true ∨ t.led = true
  room : L.length * 5 < t.mask * 3
variable {A : Around} {E : Value → Shared → Prop} {s : Shared} {a : Addr} {L : List (Addr × List Int)} {es : Array (Int × Value)} {ep : Nat} {t : SetTable}
theorem rows_size (h : es.toList = rowsOf P w L) : es.size = L.length := by
  rw [← Array.length_toList, h]
  exact List.length_map _
theorem fits_of {n : Nat} (h1 : t.place.size = n) (h2 : t.dummies = #[]) (h3 : n ≤ t.mask) : t.fits n = true := by
  unfold SetTable.fits SetTable.fill
  rw [h2, h1]
  simp only [Bool.and_eq_true, beq_iff_eq, decide_eq_true_eq]
  exact ⟨trivial, h3⟩
theorem SetW.fits (R : SetW P w s.heap a L es ep t) : t.fits es.size = true := by
  have e := rows_size R.rows
  have r := R.room
  exact fits_of (by rw [R.tab.size, hs_len, e]) R.tab.nod (by omega)
theorem rows_at (h : es.toList = rowsOf P w L) {i : Nat} {p : Addr × List Int} (hp : L[i]? = some p) : es[i]? = some (thash P w p.2, Value.ref p.1) := by
  have e : (rowsOf P w L)[i]? = some (thash P w p.2, Value.ref p.1) := by
    show (L.map _)[i]? = _
    rw [List.getElem?_map, hp] <;> rfl
  rw [← h, Array.getElem?_toList] at e
  exact e
theorem SetW.gave (R : SetW P w s.heap a L es ep t) : ¬ t.gaveWay = true := by
  unfold SetTable.gaveWay
  rw [R.pow.wide.odd]
  decide
theorem SetW.idx (R : SetW P w s.heap a L es ep t) {i j : Nat} (h : t.place.toList[i]? = some j) : ∃ p, L[i]? = some p := by
  have l := (List.getElem?_eq_some_iff.mp h).1
  rw [R.tab.plen, hs_len] at l
  exact ⟨L[i], List.getElem?_eq_getElem l⟩
/-- from the c-th step of the way on, r steps before its end -/
theorem SetW.seek (R : SetW P w s.heap a L es ep t) {x : Addr} {k : List Int} (hx : IsT P w s.heap k x) (hu : A.units < cLine) {N : Nat} (top : N < 10 * SetTable.turns t.mask)
    (no : ¬ way t.mask (thash P w k) N ∈ t.place.toList) (yes : ∀ n, n < N → way t.mask (thash P w k) n ∈ t.place.toList) {Q : SetFound → Shared → Prop}
    (q1 : k ∈ L.map (·.2) → Q (.there none) s) (q2 : k ∉ L.map (·.2) → Q (.free (way t.mask (thash P w k) N) false) s) :
    ∀ (r c f : Nat) (stand : Option SetTable.Probe), c + r = N → r < f → stand.getD (t.probeStart (thash P w k)) = nth t.mask (t.probeStart (thash P w k)) c →
      (∀ (i : Nat) (p : Addr × List Int), L[i]? = some p → p.2 = k → ∃ n, c ≤ n ∧ n < N ∧ t.place.toList[i]? = some (way t.mask (thash P w k) n)) →
      wpAny (model P w) A (setSearchFrom a (.ref x) (thash P w k) true f stand) Q E s := by
  obtain ⟨o, ho, hex, hd⟩ := R.ob
  intro r
  induction r using Nat.strongRecOn with
  | ind r ih =>
  intro c f stand er lt st left
  obtain ⟨f, rfl⟩ : ∃ g, f = g + 1 := ⟨f - 1, by omega⟩
  rw [setSearchFrom_succ]
  refine wpAny_bind (wpAny_setState_of ho hd R.fits ?_)
  dsimp only
  refine wp_if_neg R.gave ?_
  try refine wpAny_bind (wpAny_pure ?_)
  have far : ∀ q, nth t.mask (nth t.mask (t.probeStart (thash P w k)) c) q = nth t.mask (t.probeStart (thash P w k)) (c + q) := fun q => (nth_add t.mask c _ q).symm
  have farj : ∀ q, (nth t.mask (nth t.mask (t.probeStart (thash P w k)) c) q).j = way t.mask (thash P w k) (c + q) := fun q => congrArg SetTable.Probe.j (far q)
  have ha : ∀ (i : Nat) (p : Addr × List Int), L[i]? = some p → (es[i]?.map (·.1)).getD 0 = thash P w p.2 := fun i p hp => by
    rw [rows_at R.rows hp] <;> rfl
  -- a place of the way that was passed without a candidate isn't one of k's
  have miss : ∀ q : Nat, (∀ (q' i' : Nat), q' < q → t.place.toList[i']? = some (nth t.mask (nth t.mask (t.probeStart (thash P w k)) c) q').j → (es[i']?.map (·.1)).getD 0 ≠ thash P w k) →
      ∀ (i : Nat) (p : Addr × List Int) (n : Nat), L[i]? = some p → p.2 = k → c ≤ n → t.place.toList[i]? = some (way t.mask (thash P w k) n) → c + q ≤ n := fun q h i p n hp hk hn hi => by
    refine Nat.le_of_not_lt fun l => h (n - c) i (by omega) ?_ ((ha i p hp).trans (congrArg (thash P w) hk))
    rw [farj, show c + (n - c) = n by omega]
    exact hi
  rcases go_spec t R.tab.rs R.tab.nod (fun i => (es[i]?.map (·.1)).getD 0) (thash P w k) (10 * SetTable.turns t.mask) r (nth t.mask (t.probeStart (thash P w k)) c) (nth_dummy _ _ _) (by omega)
    (fun q hq => by rw [farj]; exact yes _ (by omega)) (by rw [farj, er]; exact no) with ⟨q, i, ql, at_, hh, before, pr⟩ | ⟨before, pr⟩
  · rw [show t.probe (fun i => (es[i]?.map (·.1)).getD 0) (thash P w k) (stand.getD (t.probeStart (thash P w k))) = some (.candidate (way t.mask (thash P w k) (c + q)) i (nth t.mask (t.probeStart (thash P w k)) (c + (q + 1)))) from by
      rw [st, ← farj, ← far]; exact pr]
    dsimp only
    rw [farj] at at_
    obtain ⟨p, hp⟩ := R.idx at_
    have hpm : p ∈ L := List.mem_of_getElem? hp
    have sl : t.slot (way t.mask (thash P w k) (c + q)) = .live i := slot_live R.tab.rs at_
    have ent := rows_at R.rows hp
    have rest : wpAny (model P w) A (searchRest a (.ref x) (thash P w k) true f es t (way t.mask (thash P w k) (c + q)) i (nth t.mask (t.probeStart (thash P w k)) (c + (q + 1)))) Q E s := by
      unfold searchRest
      rw [ent]
      dsimp only
      refine wpAny_bind (wpAny_holding (wpAny_eqBool_tuple hu (R.tup p hpm) hx ?_))
      refine wpAny_bind (wpAny_setState_of ho hd R.fits ?_)
      dsimp only
      by_cases eq : p.2 = k
      · refine wp_if_pos (by simp [eq]) (wpAny_pure (q1 (List.mem_map.mpr ⟨p, hpm, eq⟩)))
      refine wp_if_neg (by simp [eq]) ?_
      try refine wpAny_bind (wpAny_pure ?_)
      rw [sameMem]
      dsimp only
      simp only [if_true, sl, ent]
      refine wpAny_bind (wpAny_isSame_ref_self (wpAny_bind (wpAny_pure ?_)))
      simp only [if_true]
      refine wp_if_neg (by simp [eq]) ?_
      refine ih (r - (q + 1)) (by omega) (c + (q + 1)) f _ (by omega) (by omega) rfl fun i2 p2 hp2 hk2 => ?_
      obtain ⟨n, n1, n2, n3⟩ := left i2 p2 hp2 hk2
      have n4 := miss q before i2 p2 n hp2 hk2 n1 n3
      refine ⟨n, ?_, n2, n3⟩
      rcases Nat.lt_or_eq_of_le n4 with l | e
      · omega
      · rw [← e] at n3
        have s2 := slot_live R.tab.rs n3
        rw [sl] at s2
        injection s2 with s2
        rw [s2, hp2] at hp
        cases hp
        exact absurd hk2 eq
    by_cases hl : t.led = true
    · refine wp_if_neg (by simp [hl]) ?_
      try refine wpAny_bind (wpAny_pure ?_)
      exact rest
    · refine wp_if_pos (by simp [hl]) ?_
      refine wpAny_bind (seen_tup hx (fun y hy => ?_) ?_)
      · obtain ⟨e, me, rfl⟩ := List.mem_map.mp hy
        have me2 : e ∈ es.toList := by
          have z : e ∈ es ∧ e.1 = thash P w k := by simpa using me
          simpa using z.1
        rw [R.rows] at me2
        obtain ⟨p2, m2, rfl⟩ := List.mem_map.mp me2
        exact ⟨p2.2, p2.1, rfl, R.tup p2 m2⟩
      · refine wp_if_neg (by decide) ?_
        try refine wpAny_bind (wpAny_pure ?_)
        exact rest
  · rw [show t.probe (fun i => (es[i]?.map (·.1)).getD 0) (thash P w k) (stand.getD (t.probeStart (thash P w k))) = some (.empty (way t.mask (thash P w k) N) none) from by
      rw [st, ← er, ← farj]; exact pr]
    dsimp only
    refine wpAny_pure (q2 fun hm => ?_)
    obtain ⟨p, hpm, hk⟩ := List.mem_map.mp hm
    obtain ⟨i, hi, rfl⟩ := List.getElem_of_mem hpm
    have hp := List.getElem?_eq_getElem hi
    obtain ⟨n, n1, n2, n3⟩ := left i _ hp hk
    have := miss r before i _ n hp hk n1 n3
    omega
/-- the search that adding makes -/
theorem SetW.search (R : SetW P w s.heap a L es ep t) {x : Addr} {k : List Int} (hx : IsT P w s.heap k x) (hu : A.units < cLine) {Q : SetFound → Shared → Prop}
    (q1 : k ∈ L.map (·.2) → Q (.there none) s)
    (q2 : ∀ N, k ∉ L.map (·.2) → ¬ way t.mask (thash P w k) N ∈ t.place.toList → (∀ n, n < N → way t.mask (thash P w k) n ∈ t.place.toList) → Q (.free (way t.mask (thash P w k) N) false) s) :
    wpAny (model P w) A (setSearch a (.ref x) (thash P w k) true) Q E s := by
  have rm := R.room
  obtain ⟨N, top, no, yes⟩ := R.tab.ends (by rw [hs_len]; omega) (thash P w k)
  have low := R.pow.le
  have small : N < 100000 := by
    unfold SetTable.turns at top
    omega
  unfold setSearch
  refine R.seek hx hu top no yes q1 (fun z => q2 N z no yes) N 0 100000 none (Nat.zero_add N) small rfl fun i p hp hk => ?_
  have hi : (hsOf P w L)[i]? = some (thash P w k) := by
    show (L.map _)[i]? = _
    rw [List.getElem?_map, hp, ← hk] <;> rfl
  have il : i < t.place.toList.length := by
    rw [R.tab.plen]
    exact (List.getElem?_eq_some_iff.mp hi).1
  have hj := List.getElem?_eq_getElem il
  obtain ⟨n, nl, e⟩ := R.tab.sooner no hi hj
  exact ⟨n, Nat.zero_le _, nl, by rw [hj, e]⟩
/-- the table laid anew -/
theorem relay_w {o : Obj} (ho : s.heap.get? a = some o) (hex : o.ExactSet) (hd : o.data = .set es ep t) (rows : es.toList = rowsOf P w L) (T : Tab t (hsOf P w L)) (nd : (L.map (·.2)).Nodup) (tup : ∀ p ∈ L, IsT P w s.heap p.2 p.1)
    (pl : t.plain = true) (led : w.params.followText "set-order" = true ∨ t.led = true) (fit : L.length ≤ t.mask) {wanted M : Nat} (size : SetTable.sizeAbove wanted = M + 1) (pow : Pow M) (room : L.length * 5 < M * 3) {Q : Unit → Shared → Prop}
    (q : ∀ h2 L2 es2 ep2 t2, Heap.SameBut a s.heap h2 → SetW P w h2 a L2 es2 ep2 t2 → L2.Perm L → Q () { s with heap := h2 }) : wpAny (model P w) A (setRelay a wanted) Q E s := by
  have sz := rows_size rows
  have low := pow.le
  obtain ⟨t2, order, e, pm, T2, m2, l2, p2⟩ := relaid_tab t (hs := es.map (·.1)) (wanted := wanted) (M := M) (by rw [size] <;> rfl) pow.wide (by rw [Array.size_map, sz]; omega)
  rw [Array.size_map, sz] at pm
  obtain ⟨L2, r1, r2, r3⟩ := order_rows L es order rows pm
  rw [← r3] at T2
  have sz2 := rows_size r1
  rw [r2.length_eq] at sz2
  rw [setRelay_eq]
  refine wpAny_bind (wpAny_setState_of ho hd (by rw [sz]; exact fits_of (by rw [T.size, hs_len]) T.nod fit) ?_)
  dsimp only
  refine wp_if_neg (by rw [sizeLine_eq, size]; omega) ?_
  try refine wpAny_bind (wpAny_pure ?_)
  rw [e]
  dsimp only
  refine wpAny_bind ?_
  refine wp_if_neg (by rw [sz2, sz]; simp) ?_
  try refine wpAny_bind (wpAny_pure ?_)
  refine wpAny_pure ?_
  dsimp only
  refine wpAny_storeSet_of ho hd ?_ (by rw [sz2, sizeLine_eq]; omega)
  have only : Heap.SameBut a s.heap (s.heap.update a (Obj.putSet (order.filterMap (es[·]?)) t2)) := Heap.SameBut.update ..
  refine q _ L2 (order.filterMap (es[·]?)) (ep + 1) t2 only ?_ r2
  exact ⟨⟨_, store_at ho hd, ⟨hex.1, hex.2.1, hex.2.2⟩, rfl⟩, r1, T2, by rw [m2]; exact pow, (r2.map (·.2)).nodup_iff.mpr nd, fun p m => isT_same (tup p (r2.mem_iff.mp m)) ho hd only, by rw [p2]; exact pl, by rw [l2]; exact led, by rw [r2.length_eq, m2]; exact room⟩
/-- adding -/
theorem SetW.add (R : SetW P w s.heap a L es ep t) {x : Addr} {k : List Int} (hx : IsT P w s.heap k x) (hu : A.units < cLine) (few : L.length < 4000) {Q : Bool → Shared → Prop}
    (q : ∀ b h2 L2 es2 ep2 t2, Heap.SameBut a s.heap h2 → SetW P w h2 a L2 es2 ep2 t2 → (k ∈ L.map (·.2) → L2 = L) → (k ∉ L.map (·.2) → L2.Perm ((x, k) :: L)) → Q b { s with heap := h2 }) :
    wpAny (model P w) A (setAddHashed a (.ref x) (thash P w k)) Q E s := by
  obtain ⟨o, ho, hex, hd⟩ := R.ob
  have sz := rows_size R.rows
  have rm := R.room
  have low := R.pow.le
  unfold setAddHashed
  refine wpAny_holding ?_
  rw [show (100000 : Nat) = 99999 + 1 from rfl, setAddHashedIn_succ]
  refine wpAny_bind (wpAny_setState_of ho hd R.fits ?_)
  dsimp only
  refine wp_if_neg (by simp [byScan, Value.scannable]) ?_
  try refine wpAny_bind (wpAny_pure ?_)
  refine wpAny_bind (R.search hx hu (fun m => ?_) fun N m no yes => ?_)
  · exact wpAny_pure (q false s.heap L es ep t (Heap.SameBut.refl a s.heap) R (fun _ => rfl) fun z => absurd m z)
  dsimp only
  refine wpAny_bind (wpAny_setState_of ho hd R.fits ?_)
  dsimp only
  obtain ⟨t1, p, e, pl, T1, m1, l1, p1, f1⟩ := R.tab.more no yes
  rw [e]
  dsimp only
  have p1 : t1.plain = true := p1.trans R.pl
  first
    | (refine wpAny_bind ?_; refine wp_if_pos p1 ?_; refine hashBy_tup hx ?_)
    | refine wp_if_pos p1 (wpAny_bind (hashBy_tup hx ?_))
  simp only [if_true]
  have rows1 : (SetTable.insertAt es p (thash P w k, Value.ref x)).toList = rowsOf P w (L.take p ++ (x, k) :: L.drop p) := by
    rw [SetTable.toList_insertAt, rows_put, R.rows]
  have pm := put_perm L p (x, k)
  have hs1 : hsOf P w (L.take p ++ (x, k) :: L.drop p) = (hsOf P w L).take p ++ thash P w k :: (hsOf P w L).drop p := by
    unfold hsOf
    rw [List.map_append, List.map_cons, List.map_take, List.map_drop]
  rw [← hs1] at T1
  generalize SetTable.insertAt es p (thash P w k, Value.ref x) = es1 at rows1 ⊢
  generalize L.take p ++ (x, k) :: L.drop p = L1 at pm T1 rows1
  have len1 : L1.length = L.length + 1 := pm.length_eq
  have sz1 := rows_size rows1
  rw [len1] at sz1
  have nd1 : (L1.map (·.2)).Nodup := (pm.map (·.2)).nodup_iff.mpr (List.nodup_cons.mpr ⟨m, R.nd⟩)
  refine wpAny_bind (wpAny_storeSet_of ho hd ?_ (by rw [sz1, sizeLine_eq]; omega))
  have only : Heap.SameBut a s.heap (s.heap.update a (Obj.putSet es1 t1)) := Heap.SameBut.update ..
  have ho1 := store_at (es' := es1) (t' := t1) ho hd
  generalize s.heap.update a (Obj.putSet es1 t1) = h1 at only ho1 ⊢
  have tup1 : ∀ p ∈ L1, IsT P w h1 p.2 p.1 := fun p mp => by
    rcases List.mem_cons.mp (pm.mem_iff.mp mp) with rfl | mp
    · exact isT_same hx ho hd only
    · exact isT_same (R.tup p mp) ho hd only
  have led1 : w.params.followText "set-order" = true ∨ t1.led = true := by rw [l1]; exact R.led
  have full : t1.tooFull = decide ((L.length + 1) * 5 ≥ t.mask * 3) := by
    unfold SetTable.tooFull
    rw [f1, m1, hs_len]
  by_cases f : (L.length + 1) * 5 ≥ t.mask * 3
  · have ft : t1.tooFull = true := by rw [full]; exact decide_eq_true f
    first
      | (refine wpAny_bind ?_; refine wp_if_pos (by simp [ft]) ?_)
      | (refine wp_if_pos (by simp [ft]) ?_; refine wpAny_bind ?_)
    rw [sz]
    obtain ⟨M, g1, g2, g3⟩ := R.pow.next rm f few
    refine relay_w (s := { s with heap := h1 }) ho1 ⟨hex.1, hex.2.1, hex.2.2⟩ rfl rows1 T1 nd1 tup1 p1 led1 (by rw [len1, m1]; omega) g1 g2 (by rw [len1]; exact g3) fun h2 L2 es2 ep2 t2 o2 R2 pm2 => ?_
    exact wpAny_pure (q true h2 L2 es2 ep2 t2 (only.trans o2) R2 (fun z => absurd z m) fun _ => pm2.trans pm)
  · have ft : ¬ t1.tooFull = true := by rw [full]; exact fun z => f (of_decide_eq_true z)
    first
      | refine wp_if_neg (by simp [ft]) ?_
      | (refine wpAny_bind ?_; refine wp_if_neg (by simp [ft]) ?_; refine wpAny_pure ?_)
    exact wpAny_pure (q true h1 L1 es1 (ep + 1) t1 only ⟨⟨_, ho1, ⟨hex.1, hex.2.1, hex.2.2⟩, rfl⟩, rows1, T1, by rw [m1]; exact R.pow, nd1, tup1, p1, led1, by rw [len1, m1]; omega⟩ (fun z => absurd z m) fun _ => pm)
end
end Ms
set_option Elab.async false
set_option linter.all false
set_option maxRecDepth 100000
set_option maxHeartbeats 4000000
/-! a row that is a list or a tuple: walked, walked with numbers, looked up. -/
namespace Ms
open PySem PySem.Spec PyProof.Rows L2
/-- a list or a tuple -/
def SqB (K : PySem.W.Frag) (b : Bool) (H : Hp) (a : Addr) (xs : List V) : Prop := if b = true then SqL K H a xs else SqT K H a xs
theorem SqB.either {K : PySem.W.Frag} {b : Bool} {H : Hp} {a : Addr} {xs : List V} (h : SqB K b H a xs) : SqL K H a xs ∨ SqT K H a xs := by
  cases b
  · exact .inr h
  · exact .inl h
theorem SqB.lst {K : PySem.W.Frag} {H : Hp} {a : Addr} {xs : List V} (h : SqL K H a xs) : SqB K true H a xs := h
theorem SqB.tup {K : PySem.W.Frag} {H : Hp} {a : Addr} {xs : List V} (h : SqT K H a xs) : SqB K false H a xs := h
section
variable {X : Cx} {tg : Expr}
def iSeq (K : PySem.W.Frag) (tl : TE) : TI := fun σ H R => tl σ H fun x H1 => ∃ a b xs, x = .ref a ∧ SqB K b H1 a xs ∧ ∀ J, Walk J xs.length (fun H => SqB K b H a xs) (YAt xs) → R J H1
theorem pi_seq (K : PySem.W.Frag) {l : Expr} {tl : TE} (hl : PE X l tl) (e : X.K = K := by rfl) : PI X tg l (iSeq K tl) := by
  subst e
  refine ⟨fun pins s σ H R I h => ?_⟩
  refine thn (hl.run pins s σ H _ I h) fun v s1 ⟨x, H1, I1, r1, q1⟩ => ?_
  obtain ⟨a, b, xs, e, hq, q⟩ := q1
  subst e
  cases r1
  cases b
  · obtain ⟨its, rv, p, hz⟩ := I1.tuple hq
    refine wpAny_pyIter_tuple (show s1.heap.IsTuple a its.toArray from p) ?_
    refine ⟨s1.heap.objs.size, [s1.heap.objs.size], _, _, H1, rfl, I1.kept (t' := s1.toks) fun b o e => Heap.get?_push_of_some _ e, turn_tuple a _, ⟨_, Heap.get?_push_size _ rfl, rfl, rfl⟩, fun b hb => ?_, q _ walk_tup⟩
    have e : b = s1.heap.objs.size := by simpa using hb
    subst e
    exact I1.fpOk (Nat.le_refl _) (I1.hok.fresh (Nat.le_refl _))
  · obtain ⟨its, rv, p, hz⟩ := I1.list hq
    refine wpAny_pyIter_list p.isList ?_
    refine ⟨s1.heap.objs.size, [s1.heap.objs.size], _, _, H1, rfl, I1.kept (t' := s1.toks) fun b o e => Heap.get?_push_of_some _ e, turn_list a _, ⟨_, Heap.get?_push_size _ rfl, rfl, rfl⟩, fun b hb => ?_, q _ walk_list⟩
    have e : b = s1.heap.objs.size := by simpa using hb
    subst e
    exact I1.fpOk (Nat.le_refl _) (I1.hok.fresh (Nat.le_refl _))
def iEnumS (K : PySem.W.Frag) (ta : TA) : TI := fun σ H R => ta σ H fun vs H1 => ∃ a b xs, vs = [.ref a] ∧ SqB K b H1 a xs ∧ ∀ J, Walk J xs.length (fun H => SqB K b H a xs) (YPair (fun i => some (.int (i : Nat))) (fun i => xs[i]?)) → R J H1
theorem pi_enumS (K : PySem.W.Frag) {e : Expr} {ta : TA} {p pos tpos : Pos} {elts : List Expr} {kk : Nat} (hg : Gl X "enumerate") (hm : X.mg "enumerate" = none) (ha : PA X [e] ta) (hs : starEach [e] X.env = [(false, eval e X.env)] := by rfl) (hK : X.K = K := by rfl) :
    PI X (.Tuple elts kk tpos) (.Call (.Name "enumerate" p) [e] [] pos) (iEnumS K ta) := by
  subst hK
  refine ⟨fun pins s σ H R I h => ?_⟩
  refine Call_ (ld_blt I hg hm boot_enumerate (PyProof.Rows.callWith_type1 (thn (ha.run pos pins s σ H _ I h) fun us s1 ⟨vs, H1, I1, r1, q1⟩ => ?_) hs rfl))
  obtain ⟨a, b, xs, ex, hq, q⟩ := q1
  subst ex
  cases r1 with
  | cons r rr =>
    cases rr
    cases r
    cases b
    · obtain ⟨its, rv, p', hz⟩ := I1.tuple hq
      obtain ⟨o1, ho1, _⟩ := id p'
      have la : a < s1.heap.objs.size := Heap.lt_size ho1
      refine MsE.call_enum (items := its.toArray) p' fun h' he hit hk => wpAny_pyIter_enum he ?_
      have I2 : Inv X pins σ H1 { s1 with heap := h' } := I1.kept (t' := s1.toks) hk
      refine ⟨s1.heap.objs.size + 1, [s1.heap.objs.size + 1, s1.heap.objs.size], _, _, H1, rfl, I2, turn_enumT a (s1.heap.objs.size + 1) s1.heap.objs.size (Nat.ne_of_lt (Nat.lt_succ_of_lt la)) (Nat.ne_of_lt la) (Nat.succ_ne_self _), ⟨⟨.none, he⟩, hit⟩, fun b hb => ?_, q _ walk_enumT⟩
      have hle : s1.heap.objs.size ≤ b := by
        rcases (by simpa using hb : b = s1.heap.objs.size + 1 ∨ b = s1.heap.objs.size) with z | z
        · rw [z]; exact Nat.le_add_right _ _
        · rw [z]; exact Nat.le_refl _
      exact I1.fpOk hle (I1.hok.fresh hle)
    · obtain ⟨its, rv, p', hz⟩ := I1.list hq
      refine call_enumerate_list p'.isList fun h' he hit hsz hk => wpAny_pyIter_enum he ?_
      have I2 : Inv X pins σ H1 { s1 with heap := h' } := I1.kept (t' := s1.toks) hk
      refine ⟨s1.heap.objs.size + 1, [s1.heap.objs.size + 1, s1.heap.objs.size], _, _, H1, rfl, I2, turn_enum a (s1.heap.objs.size + 1) s1.heap.objs.size, ⟨⟨.none, he⟩, hit, Nat.succ_ne_self _⟩, fun b hb => ?_, q _ walk_enum⟩
      have e' : b = s1.heap.objs.size + 1 ∨ b = s1.heap.objs.size := by simpa using hb
      have hle : s1.heap.objs.size ≤ b := by
        rcases e' with z | z
        · rw [z]; exact Nat.le_add_right _ _
        · rw [z]; exact Nat.le_refl _
      exact I1.fpOk hle (I1.hok.fresh hle)
/-- an item of a list or a tuple -/
def rIxQ (K : PySem.W.Frag) : R2 := fun x y H Q => ∃ p b xs i v, x = .ref p ∧ y = .int i ∧ SqB K b H p xs ∧ atI xs i = some v ∧ Q v H
theorem ixQ (K : PySem.W.Frag) (e : X.K = K := by rfl) : IxR X (rIxQ K) := by
  have hl : IxR X (rIxL K) := ixL K e
  have ht : IxR X (rIxT K) := ixT K e
  intro value slice pins s σ H x y v u Q I rx ry h hsub
  obtain ⟨p, b, xs, i, w, e1, e2, hs, h1, h2⟩ := h
  cases b
  · exact ht value slice pins s σ H x y v u Q I rx ry ⟨p, xs, i, w, e1, e2, hs, h1, h2⟩ hsub
  · exact hl value slice pins s σ H x y v u Q I rx ry ⟨p, xs, i, w, e1, e2, hs, h1, h2⟩ hsub
end
end Ms
set_option Elab.async false
set_option linter.all false
set_option maxRecDepth 100000
set_option maxHeartbeats 4000000
/-! Ms: more rules that name the written part by itself; a comprehension of two fors. -/
namespace Ms
open PySem PySem.Spec PyProof.Rows L2
section
variable {X : Cx} {tg e o : Expr} {te ta : TE} {f : Str} {pos : Pos} (K : PySem.W.Frag)
theorem pe_fldK (ha : PE X o ta) (hK : X.K = K := by rfl) (hab : attributeBase o f X.env (eval o X.env) = eval o X.env := by rfl) : PE X (.Attribute o f pos) (tFld K ta f) := by
  subst hK
  exact pe_fld ha hab
theorem pi_tupK (he : PE X e te) (hK : X.K = K := by rfl) : PI X tg e (iTup K te) := by
  subst hK
  exact pi_tup he
theorem pi_listK (he : PE X e te) (hK : X.K = K := by rfl) : PI X tg e (iList K te) := by
  subst hK
  exact pi_list he
end
section
variable {J J1 : It} {n n1 : Nat} {G G1 : Hp → Prop} {Y Y1 : Nat → Hp → V → Hp → Prop}
/-- the inner walk of a comprehension of two fors -/
def In2 (J1 : It) (g1 : TG) (tt1 : TT) (te : TE) (vs1 : List Nat) (D : Addr) (σ2 : L2.St) (Nx : Hp → Prop) (H4 : Hp) : Prop :=
  ∃ W1 : Nat → Nat → Hp → Prop, (∃ m, W1 0 m H4) ∧ ∀ j k H, W1 j k H →
    (J1.stop j H ∧ Nx H) ∨ (J1.go j H ∧ ∃ Nx1 : Hp → Prop, (∀ H', Nx1 H' → ∃ k', k' < k ∧ W1 (j + 1) k' H') ∧ ∀ x H', J1.yld j H x H' → g1 x (wipe σ2 vs1) H' fun σ3 H5 => wipe σ3 vs1 = wipe σ2 vs1 ∧ tt1 σ3 H5 fun b H6 =>
      if b = true then te σ3 H6 fun y H7 => ∃ acc, H7 D = some (.lst acc) ∧ acc.length < sizeLine ∧ Nx1 (upd H7 D (.lst (acc ++ [y]))) else Nx1 H6)
theorem in2_it (w : Walk J1 n1 G1 Y1) {g1 : TG} {tt1 : TT} {te : TE} {vs1 : List Nat} {D : Addr} {σ2 : L2.St} {Nx : Hp → Prop} {H4 : Hp} (Pv : Nat → Hp → Prop) (h0 : Pv 0 H4) (hG : ∀ i H, i ≤ n1 → Pv i H → G1 H)
    (hs : ∀ i x H H', i < n1 → Pv i H → Y1 i H x H' → g1 x (wipe σ2 vs1) H' fun σ3 H5 => wipe σ3 vs1 = wipe σ2 vs1 ∧ tt1 σ3 H5 fun b H6 =>
      if b = true then te σ3 H6 fun y H7 => ∃ acc, H7 D = some (.lst acc) ∧ acc.length < sizeLine ∧ Pv (i + 1) (upd H7 D (.lst (acc ++ [y]))) else Pv (i + 1) H6) (hd : ∀ H, Pv n1 H → Nx H) : In2 J1 g1 tt1 te vs1 D σ2 Nx H4 := by
  refine ⟨fun i m H => m = n1 - i ∧ i ≤ n1 ∧ Pv i H, ⟨n1, by simp, Nat.zero_le _, h0⟩, ?_⟩
  rintro i m H ⟨rfl, hi, p⟩
  have q := hG i H hi p
  by_cases hlt : i < n1
  · exact .inr ⟨w.goes i H hlt q, Pv (i + 1), fun H' p' => ⟨n1 - (i + 1), by omega, rfl, hlt, p'⟩, fun x H' y => hs i x H H' hlt p (w.yields i H x H' hlt q y)⟩
  · have e : i = n1 := by omega
    subst e
    exact .inl ⟨w.stops H q, hd H p⟩
theorem lc2_it (w : Walk J n G Y) {g : TG} {tt : TT} {wi1 : TI} {g1 : TG} {tt1 : TT} {te : TE} {vs vs1 : List Nat} {σ : L2.St} {H1 : Hp} {D : Addr} {Qd : Hp → Prop} (Pv : Nat → Hp → Prop) (h0 : Pv 0 (upd H1 D (.lst []))) (hG : ∀ i H, i ≤ n → Pv i H → G H)
    (hs : ∀ i x H H', i < n → Pv i H → Y i H x H' → g x (wipe σ vs) H' fun σ2 H2 => wipe σ2 vs = wipe σ vs ∧ tt σ2 H2 fun b H3 =>
      if b = true then wi1 σ2 H3 fun J1 H4 => In2 J1 g1 tt1 te vs1 D σ2 (Pv (i + 1)) H4 else Pv (i + 1) H3) (hd : ∀ H, Pv n H → Qd H) :
    ∃ W : Nat → Nat → Hp → Prop, (∃ m, W 0 m (upd H1 D (.lst []))) ∧ ∀ i m H, W i m H →
      (J.stop i H ∧ Qd H) ∨ (J.go i H ∧ ∃ Nx : Hp → Prop, (∀ H', Nx H' → ∃ m', m' < m ∧ W (i + 1) m' H') ∧ ∀ x H', J.yld i H x H' → g x (wipe σ vs) H' fun σ2 H2 => wipe σ2 vs = wipe σ vs ∧ tt σ2 H2 fun b H3 =>
        if b = true then wi1 σ2 H3 fun J1 H4 => In2 J1 g1 tt1 te vs1 D σ2 Nx H4 else Nx H3) := by
  refine ⟨fun i m H => m = n - i ∧ i ≤ n ∧ Pv i H, ⟨n, by simp, Nat.zero_le _, h0⟩, ?_⟩
  rintro i m H ⟨rfl, hi, p⟩
  have q := hG i H hi p
  by_cases hlt : i < n
  · exact .inr ⟨w.goes i H hlt q, Pv (i + 1), fun H' p' => ⟨n - (i + 1), by omega, rfl, hlt, p'⟩, fun x H' y => hs i x H H' hlt p (w.yields i H x H' hlt q y)⟩
  · have e : i = n := by omega
    subst e
    exact .inl ⟨w.stops H q, hd H p⟩
end
end Ms
set_option Elab.async false
set_option linter.all false
set_option maxRecDepth 100000
set_option maxHeartbeats 4000000
/-! one keyword-only parameter whose default is None. -/
namespace Ms
open PySem PySem.Spec PyProof.Rows L2
/-- the def at f has the keyword-only default None for x -/
def KwOne (K : PySem.W.Frag) (f : Addr) (x : Str) : Prop := ∃ oc od fd osl D, K.lookup f = some ⟨oc, od, .func fd, osl⟩ ∧ fd.kwdefaults = .ref D ∧ PySem.W.nsIn K D x = some (some .none)
def ckKw (c m x : Str) : Ck := fun K => match K.lookup (He.ma K (He.ga K c) m) with
  | some ⟨_, _, .func fd, _⟩ => (match fd.kwdefaults with
    | .ref D => decide (PySem.W.nsIn K D x = some (some .none))
    | _ => false)
  | _ => false
theorem ckKw_ok {K : PySem.W.Frag} {c m x : Str} (h : ckKw c m x K = true) : KwOne K (He.ma K (He.ga K c) m) x := by
  unfold ckKw at h
  split at h
  · rename_i oc od fd osl e
    split at h
    · rename_i D e2
      exact ⟨oc, od, fd, osl, D, e, e2, of_decide_eq_true h⟩
    · cases h
  · cases h
/-- the def with this default told -/
theorem kw_def {K : PySem.W.Frag} {x qual y : Str} {st : Stmt} {f : Addr} (D : DefAt K x qual st f) (h : KwOne K f y) : ∃ fd, FunD K x qual (defArgs st) (defBody st) (defScope st) [] [(y, .non)] f fd := by
  obtain ⟨fd, F⟩ := D
  obtain ⟨oc, od, dV, kV, doc, pm, an, cdv, ct, osl, rfl, lk, hcd, hD, hK⟩ := F.ex
  obtain ⟨oc', od', fd', osl', D', lk', e1, e2⟩ := h
  rw [lk] at lk'
  cases lk'
  have e1 : kV = .ref D' := e1
  subst e1
  exact ⟨_, ⟨oc, od, dV, .ref D', doc, pm, an, cdv, ct, osl, rfl, lk, hcd, hD, .inr ⟨D', rfl, fun q hq => by
    rw [List.mem_singleton.mp hq]
    exact ⟨.none, e2, rfl⟩⟩⟩, F.kp⟩
end Ms
namespace Ms
open PySem PySem.Spec PyProof.Rows L2
/-- a method called with n values (self too) and keywords ks -/
structure MNOk (P : Program) (w : World) (K : PySem.W.Frag) (mg : Str → Option Value) (base : Heap) (c m : Str) (k : Nat) (sp : Sp) (n : Nat) (ks : List Str) (gV : List V → List V → List V) : Prop where
  ex : ∃ fd ps g, FnOk P w K mg base (L2.CX P w) k (He.ma K (He.ga K c) m) fd ps sp ∧ KBn K fd ps n ks g gV
  cl : Cls K (He.ga K c)
  me : Meth K (He.ga K c) m (He.ma K (He.ga K c) m)
def tMethN (C : Addr) (m : Str) (sp : Sp) (E : St → XK) (n mk : Nat) (gV : List V → List V → List V) (ta : TE) (t tk : TA) : TE := fun σ H Q => ta σ H fun x H1 => ∃ a dx fs, x = .ref a ∧ H1 a = some (.ins C dx fs) ∧ fs.lookup m = none ∧ t σ H1 fun vs H2 => tk σ H2 fun zs H3 => vs.length + 1 = n ∧ zs.length = mk ∧ sp (gV (x :: vs) zs) H3 Q (E σ)
section
variable {X : Cx} {k j n : Nat} {sp : Sp} {E : St → XK} {m c : Str} {p pos apos : Pos} {e o : Expr} {es : List Expr} {kws : List Keyword} {ta : TE} {t tk : TA} {ks : List Str} {gV : List V → List V → List V}
theorem pe_mN (K : PySem.W.Frag) {pl : Sem Bool} (F : MNOk X.prog X.w K X.mg X.base c m k sp n ks gV) (hr : Room j X.A) (hk : k ≤ j) (hx : ∀ σ, PassesAt (L2.CX X.prog X.w) X σ (E σ)) (he : PE X o ta) (ha : PA X (e :: es) t) (hkw : PK X kws tk) (hK : X.K = K := by rfl)
    (hall : (backToKw pos (keywordEach kws X.env)).all (·.1.isSome) = true := by rfl) (hks : (backToKw pos (keywordEach kws X.env)).filterMap (·.1) = ks := by rfl)
    (hst : starEach (e :: es) X.env = (false, eval e X.env) :: starEach es X.env := by rfl)
    (hpl : ((backTo pos (starEach (e :: es) X.env)).any (·.1) || (backToKw pos (keywordEach kws X.env)).any (·.1.isNone)) = false := by rfl)
    (ht : eval (.Call (.Attribute o m apos) (e :: es) kws pos) X.env = (do
      let ov ← eval o X.env
      standAt apos.atName
      let (f, first) ← holding [ov] (getMethod ov m pl)
      callWith pos f first (backTo pos (starEach (e :: es) X.env)) (backToKw pos (keywordEach kws X.env))) := by rfl) :
    PE X (.Call (.Attribute o m apos) (e :: es) kws pos) (tMethN (He.ga K c) m sp E n ks.length gV ta t tk) := by
  subst hK
  obtain ⟨fd, ps, g, F1, hb⟩ := F.ex
  refine ⟨fun pins s σ H Q I h => ?_⟩
  refine PySem.W.methodCall_KW (pl := pl) (thn (he.run pins s σ H _ I h) fun u s1 ⟨x, H1, I1, rx, a, dx, fs, ex, ea, l, q⟩ => ?_) ht
  subst ex
  obtain rfl : u = Value.ref a := rx
  refine getmeth_ok I1 ea F.cl F.me l ?_
  refine PySem.W.callWith_KW (first := [.ref a]) (h₀ := X.base) I.ok.mod.kin F.me.kp hall (thn (ha.run pos pins s1 σ H1 _ I1 q) fun us s2 ⟨vs, H2, I2, r, q2⟩ => ?_) hpl hst
  refine thn (hkw.run pos pins s2 σ H2 _ I2 q2) fun ws s3 ⟨zs, H3, I3, rz, l1, l2, q3⟩ => ⟨I3.kIn, ?_⟩
  rw [hks]
  have r1 : Vals (V.ref a :: vs) (Value.ref a :: us) := .cons rfl r
  have r2 := hb.rel r1 rz
  refine wpAny_call (codeAny_mono (F1.run X.A X.stack s3 H3 ⟨Value.ref a :: us, ks.zip ws⟩ (g (Value.ref a :: us) ws) (gV (V.ref a :: vs) zs) Q (E σ) (hr.mono hk) I3.env0 (hb.to s3 (Value.ref a :: us) ws I3.kIn (by rw [← r1.length]; exact l1) (rz.length.symm.trans l2)) r2 q3) fun r s' hq => ?_)
  cases r with
  | error e => exact hx σ pins _ _ e s' I3 hq
  | ok fl =>
    cases fl with
    | ret u => exact I3.after hq
    | next => exact False.elim hq
    | brk => exact False.elim hq
    | cont => exact False.elim hq
end
/-- the keyword stands -/
theorem kbn_with {K : PySem.W.Frag} {x q y : Str} {st : Stmt} {a b c : Str} {f : Addr} {fd : FuncData} (F : FunD K x q (defArgs st) (defBody st) (defScope st) [] [(y, .non)] f fd)
    (h : ∀ (kV doc pm : Value) (an : Option Addr) (cdv ct u v z w : Value), bindArgs (PySem.W.fnOf x q (defArgs st) (defBody st) (defScope st) .none kV doc pm an cdv ct) ⟨[u, v, z], [(y, w)]⟩ = pure [(a, u), (b, v), (c, z), (y, w)]) :
    KBn K fd [a, b, c, y] 3 [y] (fun us ws => us ++ ws) (fun vs zs => vs ++ zs) := by
  obtain ⟨oc, od, dV, kV, doc, pm, an, cdv, ct, osl, rfl, lk, hcd, hD, hK⟩ := F.ex
  rcases hD with ⟨_, rfl⟩ | ⟨e, _⟩
  · refine ⟨fun s us ws X l1 l2 => ?_, fun r1 r2 => r1.append r2⟩
    match us, ws, l1, l2 with
    | [u, v, z], [w], _, _ => exact .of_eq (h kV doc pm an cdv ct u v z w)
  · exact absurd rfl e
/-- .. lacks -/
theorem kbn_without {K : PySem.W.Frag} {x q y : Str} {st : Stmt} {a b c : Str} {f : Addr} {fd : FuncData} (F : FunD K x q (defArgs st) (defBody st) (defScope st) [] [(y, .non)] f fd)
    (h : ∀ (D : Addr) (doc pm : Value) (an : Option Addr) (cdv ct u v z w : Value), KwChain D [(y, w)] (bindArgs (PySem.W.fnOf x q (defArgs st) (defBody st) (defScope st) .none (.ref D) doc pm an cdv ct) ⟨[u, v, z], []⟩) [(a, u), (b, v), (c, z), (y, w)]) :
    ∃ g, KBn K fd [a, b, c, y] 3 [] g (fun vs _ => vs ++ [.non]) := by
  obtain ⟨ds, hv, hb⟩ := F.binds0 (ps := [a, b, c, y]) 3 (by simp) rfl fun D doc pm an cdv ct us ks l1 l2 => by
    match us, ks, l1, l2 with
    | [u, v, z], [w], _, _ => exact h D doc pm an cdv ct u v z w
  refine ⟨fun us _ => us ++ ds, ⟨fun s us ws X l1 l2 => ?_, fun r1 _ => r1.append hv⟩⟩
  have e : ws = [] := List.eq_nil_of_length_eq_zero l2
  subst e
  exact hb s us X (by rw [List.length_append, l1, ← hv.length] <;> rfl)
end Ms
set_option Elab.async false
set_option linter.all false
set_option maxRecDepth 100000
set_option maxHeartbeats 4000000
/-! Ms: rules for tables: statements that are never reached, tuples told in full, dict of pairs, a method called with a keyword. -/
namespace Ms
open PySem PySem.Spec PyProof.Rows L2
/-- a statement that is never reached -/
theorem ps_dead {X : Cx} {st : Stmt} : PS X st (fun _ _ _ => False) := ⟨fun _ _ _ _ _ _ h => h.elim⟩
/-- a tuple whose object is told -/
def FT (H : Hp) (a : Addr) (xs : List V) : Prop := ∃ ob : Obj, H a = some (.frz ob (.tup xs)) ∧ ob.dict = none
theorem FT.same {H H' : Hp} (s : Same H H') {a : Addr} {xs : List V} (h : FT H a xs) : FT H' a xs := let ⟨ob, h1, h2⟩ := h; ⟨ob, s _ _ h1, h2⟩
theorem FT.sq {K : PySem.W.Frag} {H : Hp} {a : Addr} {xs : List V} (h : FT H a xs) : SqT K H a xs := let ⟨ob, h1, _⟩ := h; .inl (.inr ⟨ob, h1⟩)
theorem FT.rd {H : Hp} {a : Addr} {xs : List V} (h : FT H a xs) : Rd H a (.tup xs) := let ⟨ob, h1, _⟩ := h; .inr ⟨ob, h1⟩
section
variable {X : Cx} {k : Nat} {es : List Expr} {t : TA} {pos : Pos} {x1 : Nat}
def tTupF (t : TA) : TE := fun σ H Q => t σ H fun xs H1 => xs.length ≤ sizeLine ∧ ∀ p H2, H1 p = none → Same H1 H2 → FT H2 p xs → (∀ b, b ≠ p → H2 b = H1 b) → Q (.ref p) H2
theorem ft_new {H : Hp} {p : Addr} {ob : Obj} {xs : List V} (h : H p = none) (hd : ob.dict = none) : Same H (upd H p (.frz ob (.tup xs))) ∧ FT (upd H p (.frz ob (.tup xs))) p xs :=
  ⟨fun b q e => by rw [upd_ne (fun z => by rw [z, h] at e; cases e)]; exact e, ob, upd_same .., hd⟩
theorem pe_tupF {x1} (h : PA X es t) : PE X (.Tuple es x1 pos) (tTupF t) := by
  refine ⟨fun pins s σ H Q I hq => ?_⟩
  refine wpAny_Tuple_spliced (thn (h.run pos pins s σ H _ I hq) fun us s1 ⟨xs, H1, I1, r, z, q⟩ => ⟨by rw [← r.length]; exact z, ?_⟩)
  have hf : H1 s1.heap.objs.size = none := I1.hok.fresh (Nat.le_refl _)
  obtain ⟨n1, n2⟩ := ft_new (H := H1) (p := s1.heap.objs.size) (ob := { cls := .type "tuple", data := .seq us.toArray }) (xs := xs) hf rfl
  refine ⟨.ref s1.heap.objs.size, _, I1.laid (t' := s1.toks) (fun b u e => Heap.get?_push_of_some _ e) (Nat.le_refl _) ?_, rfl, q _ _ hf n1 n2 fun b hb => upd_ne hb⟩
  exact ⟨Heap.get?_push_size _ rfl, z, us, r, ⟨_, Heap.get?_push_size _ rfl, rfl, _, rfl⟩⟩
/-- tuple(xs): a list's is new -/
def rTupF (K : PySem.W.Frag) : List V → Hp → VK → Prop := fun xs H Q => ∃ p ys, xs = [.ref p] ∧ ((SqL K H p ys ∧ ∀ l H2, H l = none → Same H H2 → FT H2 l ys → (∀ b, b ≠ l → H2 b = H b) → Q (.ref l) H2) ∨ (SqT K H p ys ∧ Q (.ref p) H))
theorem tupF_raw : CallR X (.type "tuple") (rTupF X.K) := by
  intro pins s σ H xs us Q I r h
  obtain ⟨p, ys, rfl, h⟩ := h
  obtain ⟨u, rfl, rx⟩ := vals1 r
  cases rx
  rcases h with ⟨hq, q⟩ | ⟨hq, q⟩
  · obtain ⟨its, r', pl, hz⟩ := I.list hq
    have hlen := r'.length
    refine call_tuple_list pl.isList (fun h' kp => ?_) (by simp only [List.size_toArray] <;> omega)
    have I1 : Inv X pins σ H { s with heap := h' } := I.kept (t' := s.toks) kp
    have hf : H h'.objs.size = none := I1.hok.fresh (Nat.le_refl _)
    obtain ⟨n1, n2⟩ := ft_new (H := H) (p := h'.objs.size) (ob := { cls := .type "tuple", data := .seq its.toArray }) (xs := ys) hf rfl
    have I2 : Inv X pins σ (upd H h'.objs.size (.frz { cls := .type "tuple", data := .seq its.toArray } (.tup ys))) { s with heap := h'.push { cls := .type "tuple", data := .seq its.toArray } } :=
      I1.laid (t' := s.toks) (fun b o e => Heap.get?_push_of_some _ e) (Nat.le_refl _) ⟨Heap.get?_push_size _ rfl, hz, its, r', IsTup.new _ _⟩
    exact ⟨.ref h'.objs.size, _, I2, rfl, q _ _ hf n1 n2 fun b hb => upd_ne hb⟩
  · obtain ⟨its, r', pl, hz⟩ := I.tuple hq
    exact call_tuple_same pl ⟨.ref p, H, I, rfl, q⟩
theorem tupF (K : PySem.W.Frag) (e : X.K = K := by rfl) : CallR X (.type "tuple") (rTupF K) := by subst e; exact tupF_raw
/-- the pairs of a sequence, as the library tells them -/
theorem pairs_two {pins : List (Addr × Obj)} {σ : L2.St} {H : Hp} {s : Shared} (I : Inv X pins σ H s) {ps : List Addr} {kvs : List (Key × V)} (h : Paired (fun p kv => SqT X.K H p [kV kv.1, kv.2]) ps kvs) :
    ∃ (prs : List (Key × Value)) (vs : List (Value × Value)), KV kvs prs ∧ prs.length = ps.length ∧ vs.length = ps.length ∧ ∀ (j : Nat) (k v : Value), vs[j]? = some (k, v) → ps[j]? = some (ps.getD j 0) ∧ PairAt s.heap (ps.getD j 0) k v ∧ ∃ key, prs[j]? = some (key, v) ∧ keyIs key k = true := by
  obtain ⟨prs, r, hl, hp⟩ := pairs_of I h
  have us : ∃ vs : List (Value × Value), vs.length = prs.length ∧ ∀ (j : Nat) (k v : Value), vs[j]? = some (k, v) → ∃ (b : Addr), ps[j]? = some b ∧ IsTup s.heap b #[k, v] ∧ ∃ key, prs[j]? = some (key, v) ∧ keyIs key k = true := by
    clear r hl h
    induction prs generalizing ps with
    | nil => exact ⟨[], rfl, fun j k v e => by simp at e⟩
    | cons q prs ih =>
      obtain ⟨b, u, e1, e2, e3⟩ := hp 0 q rfl
      cases ps with
      | nil => simp at e1
      | cons p ps =>
        obtain ⟨vs, l1, l2⟩ := ih (ps := ps) fun j q e => by
          obtain ⟨b, u, z1, z2, z3⟩ := hp (j + 1) q (by simpa using e)
          exact ⟨b, u, by simpa using z1, z2, z3⟩
        refine ⟨(u, q.2) :: vs, by rw [List.length_cons, List.length_cons, l1], fun j k v e => ?_⟩
        cases j with
        | zero =>
          cases e
          exact ⟨b, e1, e2, q.1, rfl, e3⟩
        | succ j =>
          obtain ⟨b, z1, z2, z3⟩ := l2 j k v (by simpa using e)
          exact ⟨b, by simpa using z1, z2, by simpa using z3⟩
  obtain ⟨vs, l1, l2⟩ := us
  refine ⟨prs, vs, r, hl, l1.trans hl, fun j k v e => ?_⟩
  obtain ⟨b, z1, z2, z3⟩ := l2 j k v e
  have eb : ps.getD j 0 = b := by rw [List.getD_eq_getElem?_getD, z1] <;> rfl
  obtain ⟨o, o1, o2, n, o3⟩ := z2
  exact ⟨by rw [eb]; exact z1, by rw [eb]; exact .inl ⟨o, o1, o2, n, o3⟩, z3⟩
/-- dict(xs) of a list or a told tuple of pairs -/
def rDictQ (K : PySem.W.Frag) : List V → Hp → VK → Prop := fun xs H Q => ∃ (a : Addr) (ps : List Addr) (kvs : List (Key × V)), xs = [.ref a] ∧ (SqL K H a (ps.map V.ref) ∨ FT H a (ps.map V.ref)) ∧ Paired (fun p kv => SqT K H p [kV kv.1, kv.2]) ps kvs ∧
    ∀ p, H p = none → Q (.ref p) (upd H p (.dK (mergeK [] kvs)))
theorem dictQ (K : PySem.W.Frag) (hcalm : X.calm = true) (e : X.K = K := by rfl) : CallR X (.type "dict") (rDictQ K) := by
  subst e
  intro pins s σ H xs us Q I r q
  obtain ⟨a, ps, kvs, ex, hq, hp, q⟩ := q
  rcases hq with hq | ⟨ob, hq, hd⟩
  · exact call_dictP hcalm pins s σ H xs us Q I r ⟨a, ps, kvs, ex, hq, hp, q⟩
  subst ex
  obtain ⟨u, eu, rx⟩ := vals1 r
  subst eu
  cases rx
  obtain ⟨g1, hz, its, rv, o, ho, hc, n, hdat⟩ := I.hok a _ hq
  rw [g1] at ho
  cases ho
  have ei := refs_at rv
  subst ei
  rw [List.length_map] at hz
  obtain ⟨prs, vs, rel, hl, hl2, hpr⟩ := pairs_two I hp
  refine PySem.call_dict_pairs (knd := mixKind X.prog X.w) (kvs := prs) (PairArg.tuple (prog := X.prog) (w := X.w) a (ps.map Value.ref).toArray (fun j => ps.getD j 0) vs) (I.ok.hd hcalm) ⟨⟨ob, n, g1, hc, hd, hdat⟩, by simp [hl2], fun j k v e => ?_⟩ ⟨by rw [hl, hl2], fun j k v e => ?_⟩ (by rw [hl2]; exact hz) fun h' tk hd' k => ?_
  · obtain ⟨z1, z2, _⟩ := hpr j k v e
    exact ⟨by rw [List.getElem?_toArray, List.getElem?_map, z1] <;> rfl, z2⟩
  · obtain ⟨_, _, key, z3, z4⟩ := hpr j k v e
    exact ⟨key, z3, z4⟩
  · have hm : (s.heap.objs.size == sysModules) = false := beq_eq_false_iff_ne.mpr (Nat.ne_of_gt I.big)
    have hlen : (mergeK [] kvs).length ≤ sizeLine := by
      refine Nat.le_trans (length_mergeK kvs []) ?_
      rw [List.length_nil, Nat.zero_add, rel.length, hl]
      exact hz
    exact ⟨.ref s.heap.objs.size, upd H s.heap.objs.size (.dK (mergeK [] kvs)), I.laid (t' := tk) (fun b o e => k b o (List.not_mem_nil) e) (Nat.le_refl _) (show ObjOk X.prog X.w _ _ _ (.dK (mergeK [] kvs)) from ⟨hlen, hm, merged [] prs, KV.merge rel .nil, hd'⟩), rfl, q _ (I.hok.fresh (Nat.le_refl _))⟩
end
end Ms
set_option Elab.async false
set_option linter.all false
set_option maxRecDepth 100000
set_option maxHeartbeats 4000000
/-! Ms: sorted(set(l)), l a list of fewer than 60 ints. -/
namespace Ms
open PySem PySem.Spec PyProof.Rows L2
/-- the set that is made first -/
abbrev sOb (w : World) : Obj := { cls := .type "set", dict := none, data := .set #[] 0 (.fresh 0 0 (!w.params.followText "set-order")) }
section
variable {P : Program} {w : World} {A : Around} {E : Value → Shared → Prop} {s : Shared}
theorem call_setL {l : Addr} {xs : Array Value} (ns : List Int) {Q : Value → Shared → Prop} (hh : A.handled = none) (hl : s.heap.IsList l xs) (hx : IntsAre xs.toList ns) (hb : ns.length + 1 < scanBound)
    (h : ∀ (g : Heap) (tk c : Nat), SetR w g s.heap.objs.size (fun j => decide (j ∈ ns)) c → c ≤ ns.length → (∀ b o, s.heap.get? b = some o → g.get? b = some o) → Q (.ref s.heap.objs.size) { s with heap := g, toks := tk }) :
    wpAny (model P w) A (call (.type "set") [.ref l]) Q E s := by
  have xn : xs.size = ns.length := by rw [← IntsAre.length hx, Array.length_toList]
  obtain ⟨k0, k1, k2⟩ := F.called_set.mro; have k3 := F.called_set.made; have k4 := F.called_set.sub
  refine wpAny_call (codeAny_of_tree ?_); show wpAny _ _ (callAny (.type "set") _) _ _ _
  refine wpAny_pure ⟨Code.quiet_builtin _ (by decide +kernel), codeAny_builtin F.entry_type_call ?_⟩; rw [Around.under_plain (weight_type_call_type "set" [.ref l] []) rfl]
  have k5 := F.called_set.notType; have k6 := F.called_set.canCreate; have k7 := F.typeCall_set_1 (.ref l)
  repeat (any_goals (first | assumption | wp_step))
  refine codeAny_mono (code_set_led1 (.ref l) (E := E) (Q₁ := fun ob t => ob = .ref s.heap.objs.size ∧ t = { s with heap := s.heap.push (sOb w) }) ⟨rfl, rfl⟩) fun r t hr => ?_
  match r, hr with
  | .error e, hr => exact hr
  | .ok (.ret ob), hr =>
    obtain ⟨rfl, rfl⟩ := hr
    have hS : (s.heap.push (sOb w)).get? s.heap.objs.size = some (sOb w) := Heap.get?_push_size _ rfl
    have hT : Shared.TypeIs { s with heap := s.heap.push (sOb w) } (.ref s.heap.objs.size) "set" := ⟨_, hS, rfl⟩
    have k8 := F.called_set.init.lookup; have k9 := F.called_set.init.bind (.ref s.heap.objs.size)
    repeat (any_goals (first | assumption | wp_step))
    refine codeAny_mono (codeAny_call_builtin (R := wants (fun u t => u = .none ∧ ∃ g tk c, t = { s with heap := g, toks := tk } ∧ SetR w g s.heap.objs.size (fun j => decide (j ∈ ns)) c ∧ c ≤ ns.length ∧ (∀ b o, s.heap.get? b = some o → g.get? b = some o)) E) F.called_set.init.plain F.entry_set_init (check_set_init_1 hT ?_)) fun r2 t2 hr2 => ?_
    · obtain ⟨⟨oc, od, odat, osl⟩, ho, hc, n, hdat⟩ := hl
      simp only at hc hdat
      subst hc hdat
      have ho2 : (s.heap.push (sOb w)).get? l = some _ := Heap.get?_push_of_some _ ho
      have u1 := F.sub_list_set; have u2 := F.sub_list_frozenset; have u3 : (Value.type "list" == Value.type "dict") = false := by decide
      have hl1 : (s.heap.push (sOb w)).IsList l xs := ⟨_, ho2, rfl, n, rfl⟩
      unfold Builtin.«set.__init__» noKeywords Builtin.Frozenset.updateFrom; generalize hPI : pyIter = PI
      wp_walk
      subst hPI
      refine wpAny_pyIter_list hl1 (wpAny_bind (wpAny_runValue ?_))
      have lS : l < s.heap.objs.size := Heap.lt_size ho
      have h3 : A.in1.in1.in1.handled = none := by simp [hh]
      have lI : l ≠ (s.heap.push (sOb w)).objs.size := by rw [Heap.size_push]; exact Nat.ne_of_lt (Nat.lt_succ_of_lt lS)
      have sF : s.heap.objs.size ∉ [(s.heap.push (sOb w)).objs.size, l] := by
        rw [Heap.size_push]
        intro m
        rcases List.mem_cons.mp m with e | e
        · exact absurd e (Nat.ne_of_lt (Nat.lt_succ_self _))
        · exact absurd (List.mem_singleton.mp e) (Nat.ne_of_gt lS)
      have val : ∀ (i : Nat) (v : Value), xs[i]? = some v → ∃ k t, ns[i]? = some k ∧ v = .int k t := fun i v hv => by
        have hi : i < ns.length := by rw [← xn]; exact (Array.getElem?_eq_some_iff.mp hv).1
        obtain ⟨t, e⟩ := IntsAre.int_at hx i v (by rw [Array.getElem?_toList]; exact hv)
        exact ⟨ns[i], t, List.getElem?_eq_getElem hi, by rw [e, List.getD_eq_getElem?_getD, List.getElem?_eq_getElem hi] <;> rfl⟩
      refine set_update_ints ((Walks.list h3 _ l lI xs).toS) s.heap.objs.size sF ns xn hb val (xs.size - 0) 0 _ (by omega) (Nat.zero_le _) ⟨⟨_, Heap.get?_push_size _ rfl, rfl, rfl⟩, (hl1.push _)⟩ ?_ ?_
      · exact ⟨0, Nat.le_refl 0, setR_new_at (Heap.get?_push_of_some _ hS)⟩
      · intro t c hm hc2 hS2
        obtain ⟨g, g2, d2, tk, o2⟩ := t
        obtain rfl : g2 = s.gens := hm.gens
        obtain rfl : d2 = s.drawn := hm.drawn
        obtain rfl : o2 = s.os := hm.os
        show wpAny _ _ _ _ _ _
        refine wpAny_pure ?_; show wpAny _ _ (ret Value.none) _ _ _
        rw [xn] at hc2
        refine wpAny_pure ⟨rfl, g, tk, c, rfl, hS2, hc2, fun b o e => hm.heap b o (fun m => ?_) (Heap.get?_push_of_some _ (Heap.get?_push_of_some _ e))⟩
        have b0 : b < s.heap.objs.size := Heap.lt_size e
        rw [Heap.size_push] at m
        simp only [List.mem_cons, List.mem_singleton, List.not_mem_nil, or_false] at m
        exact m.elim (fun e => absurd e (Nat.ne_of_lt b0)) fun e => absurd e (Nat.ne_of_lt (Nat.lt_succ_of_lt b0))
    · match r2, hr2 with
      | .error e, hr2 => exact hr2
      | .ok (.ret u), hr2 =>
        obtain ⟨rfl, g, tk, c, rfl, q1, q2, q3⟩ := hr2
        repeat (any_goals (first | assumption | wp_step))
        exact h g tk c q1 q2 q3
end
section
variable {X : Cx}
/-- set(l) -/
def rSetL (K : PySem.W.Frag) (w : World) : List V → Hp → VK → Prop := fun vs H Q => ∃ (a : Addr) (ns : List Int), vs = [V.ref a] ∧ SqL K H a (ns.map V.int) ∧ ns.length ≤ 60 ∧
  ∀ p c H', H p = none → c ≤ ns.length → Same H H' → H' p = some (SetO w p (fun j => decide (j ∈ ns)) c) → Q (.ref p) H'
theorem setL_raw (hc : X.calm = true) : CallR X (.type "set") (rSetL X.K X.w) := by
  intro pins s σ H vs us Q I r h
  obtain ⟨a, ns, rfl, hs, hl, q⟩ := h
  rw [Vals.ref1 r]
  obtain ⟨its, rv, pl, _⟩ := I.list hs
  refine call_setL ns (I.ok.hd hc) pl.isList (by simpa using ints_of_vals rv) (by unfold scanBound; omega) fun g tk c R hcn k => ?_
  have hf : H s.heap.objs.size = none := I.hok.fresh (Nat.le_refl _)
  exact ⟨.ref s.heap.objs.size, _, I.laid (t' := tk) k (Nat.le_refl _) (setO_new R), rfl, q _ c _ hf hcn (fun b o e => by rw [upd_ne (fun z => by rw [z, hf] at e; cases e)]; exact e) (upd_same ..)⟩
end
end Ms
set_option Elab.async false
set_option linter.all false
set_option maxRecDepth 100000
set_option maxHeartbeats 4000000
/-! Ms: set(l), l a list of tuples of ints, below 4000. -/
namespace Ms
open PySem PySem.Spec PyProof.Rows L2
section
variable {P : Program} {w : World} {A : Around} {E : Value → Shared → Prop} {s : Shared}
theorem SetW.carry {h g : Heap} {a : Addr} {L : List (Addr × List Int)} {es : Array (Int × Value)} {ep : Nat} {t : SetTable} (R : SetW P w h a L es ep t) (k : ∀ o, h.get? a = some o → g.get? a = some o) (tup : ∀ p ∈ L, IsT P w g p.2 p.1) : SetW P w g a L es ep t := by
  obtain ⟨o, ho, r⟩ := R.ob
  exact ⟨⟨o, k o ho, r⟩, R.rows, R.tab, R.pow, R.nd, tup, R.pl, R.led, R.room⟩
theorem setW_new {h : Heap} {a : Addr} (ho : h.get? a = some (sOb w)) : SetW P w h a [] #[] 0 (.fresh 0 0 (!w.params.followText "set-order")) where
  ob := ⟨_, ho, ⟨rfl, rfl, rfl⟩, rfl⟩
  rows := rfl
  tab := ⟨List.Pairwise.nil, rfl, rfl, Pow.wide (.inl rfl), (fun x m => nomatch m), (fun i g j m => nomatch m)⟩
  pow := .inl rfl
  nd := List.nodup_nil
  tup := fun p m => nomatch m
  pl := rfl
  led := by
    cases e : w.params.followText "set-order"
    · exact .inr rfl
    · exact .inl rfl
  room := by
    show 0 * 5 < 7 * 3
    decide
/-- the loop of set.update, from the i-th item on, r before its end -/
theorem loop_w {I : Addr} {fp wr : List Addr} {G : Array GenState → Array GenState → Prop} {n : Nat} {Pv : Nat → Value → Prop} {St : Nat → Shared → Prop} {R : Result → Shared → Prop}
    (W : WalksS P w A.in1 I fp wr G n Pv St) (S : Addr) (out : S ∉ fp) (ks : List (Addr × List Int)) (len : n = ks.length) (few : ks.length ≤ 4000) (val : ∀ i v, Pv i v → ∃ p, ks[i]? = some p ∧ v = .ref p.1)
    (h0 : Heap) (tups : ∀ p ∈ ks, IsT P w h0 p.2 p.1) (s0 : h0.get? S = none) (w0 : ∀ b ∈ wr, h0.get? b = none) (hu : A.in1.units < cLine)
    (hR : ∀ t L es ep tb, Moved (S :: wr) G s t → SetW P w t.heap S L es ep tb → Got ks n L → (∀ b o, h0.get? b = some o → t.heap.get? b = some o) → R (.ok (.ret .none)) t) :
    ∀ (r i : Nat) (u : Shared), i + r = n → St i u → (i = 0 → u = s) → (0 < i → Moved (S :: wr) G s u) → (∀ b o, h0.get? b = some o → u.heap.get? b = some o) → (∃ L es ep tb, SetW P w u.heap S L es ep tb ∧ Got ks i L) →
      codeAny (model P w) A (.builtin "set.update.loop" ⟨[.ref S, .ref I], []⟩) R u := by
  have so : S ∉ wr := fun z => out (W.sub _ z)
  have up : ∀ b ∈ wr, b ∈ S :: wr := fun b m => List.mem_cons_of_mem _ m
  have old : ∀ {u v : Shared}, Moved wr G u v → (∀ b o, h0.get? b = some o → u.heap.get? b = some o) → ∀ b o, h0.get? b = some o → v.heap.get? b = some o := fun m k b o e => m.heap b o (fun z => by rw [w0 b z] at e; cases e) (k b o e)
  have join : ∀ {i : Nat} {u v : Shared}, (i = 0 → u = s) → (0 < i → Moved (S :: wr) G s u) → Moved (S :: wr) G u v → Moved (S :: wr) G s v := fun {i u v} z1 z2 m => by
    rcases Nat.eq_zero_or_pos i with e | e
    · rw [← z1 e]; exact m
    · exact Moved.trans W.gtrans (z2 e) m
  intro r
  induction r with
  | zero =>
    intro i u e st z1 z2 k ⟨L, es, ep, tb, R1, g⟩
    obtain rfl : i = n := e
    refine codeAny_builtin F.entry_set_update_loop ?_
    rw [Around.under_plainId F.plain_set_update_loop _]
    show wpAny _ A.in1 (pyNext (.ref I) >>= _) _ _ u
    refine wpAny_bind (W.done u _ _ st fun v m => ?_)
    show wpAny _ A.in1 (ret Value.none) _ _ v
    have k2 := old m k
    exact wpAny_pure (hR v L es ep tb (join z1 z2 (m.mono up)) (R1.carry (fun o e => m.heap S o so e) fun p mp => isT_keep (tups p (List.mem_of_mem_take (g.sub p mp))) k2) g k2)
  | succ r ih =>
    intro i u e st z1 z2 k ⟨L, es, ep, tb, R1, g⟩
    refine codeAny_builtin F.entry_set_update_loop ?_
    rw [Around.under_plainId F.plain_set_update_loop _]
    show wpAny _ A.in1 (pyNext (.ref I) >>= _) _ _ u
    refine wpAny_bind (W.item i u _ _ (by omega) st fun x v hv st2 m => ?_)
    obtain ⟨p, hp, rfl⟩ := val i x hv
    have k2 := old m k
    have R2 : SetW P w v.heap S L es ep tb := R1.carry (fun o e => m.heap S o so e) fun p mp => isT_keep (tups p (List.mem_of_mem_take (g.sub p mp))) k2
    show wpAny _ A.in1 (holding [Value.ref p.1] (setAdd S (.ref p.1)) >>= _) _ _ v
    refine wpAny_bind (wpAny_holding ?_)
    unfold setAdd
    have tp : IsT P w v.heap p.2 p.1 := isT_keep (tups p (List.mem_of_getElem? hp)) k2
    refine wpAny_holding (wpAny_bind (wpAny_pyHash_tuple hu tp ?_))
    refine SetW.add (s := { v with toks := v.toks + (p.2.length + 1) }) R2 tp hu (by have := g.len; omega) fun b h2 L2 es2 ep2 t2 only R3 c1 c2 => ?_
    have g2 : Got ks (i + 1) L2 := by
      by_cases c : p.2 ∈ L.map (·.2)
      · rw [c1 c]; exact g.same hp c
      · exact g.more hp (c2 c)
    have away : ∀ b o, b ≠ S → v.heap.get? b = some o → h2.get? b = some o := fun b o ne e => (only.2 b ne).trans e
    have mv : Moved (S :: wr) G u { v with heap := h2, toks := v.toks + (p.2.length + 1) } := (m.mono up).then_heap (Nat.le_add_right _ _) fun b o z e => away b o (fun q => z (by rw [q]; exact List.mem_cons_self)) e
    refine wpAny_pure ⟨plainId_quiet F.plain_set_update_loop _, ih (i + 1) _ (by omega) (W.frame _ v _ _ st2 (Nat.le_add_right _ _) fun b z o e => away b o (fun q => out (by rw [← q]; exact z)) e) (fun z => absurd z (Nat.succ_ne_zero i)) (fun _ => join z1 z2 mv)
      (fun b o e => away b o (fun q => by rw [q, s0] at e; cases e) (k2 b o e)) ⟨L2, es2, ep2, t2, R3, g2⟩⟩
/-- set(l) -/
theorem call_setV {l : Addr} {xs : Array Value} (ks : List (Addr × List Int)) {Q : Value → Shared → Prop} (hh : A.handled = none) (hl : s.heap.IsList l xs) (hx : xs.toList = ks.map fun p => Value.ref p.1) (hk : ∀ p ∈ ks, IsT P w s.heap p.2 p.1) (few : ks.length ≤ 4000) (hu : A.units + 3 < cLine)
    (h : ∀ (g : Heap) (tk : Nat) L es ep tb, SetW P w g s.heap.objs.size L es ep tb → Got ks ks.length L → (∀ b o, s.heap.get? b = some o → g.get? b = some o) → Q (.ref s.heap.objs.size) { s with heap := g, toks := tk }) :
    wpAny (model P w) A (call (.type "set") [.ref l]) Q E s := by
  have xn : xs.size = ks.length := by rw [← Array.length_toList, hx, List.length_map]
  obtain ⟨k0, k1, k2⟩ := F.called_set.mro; have k3 := F.called_set.made; have k4 := F.called_set.sub
  refine wpAny_call (codeAny_of_tree ?_); show wpAny _ _ (callAny (.type "set") _) _ _ _
  refine wpAny_pure ⟨Code.quiet_builtin _ (by decide +kernel), codeAny_builtin F.entry_type_call ?_⟩; rw [Around.under_plain (weight_type_call_type "set" [.ref l] []) rfl]
  have k5 := F.called_set.notType; have k6 := F.called_set.canCreate; have k7 := F.typeCall_set_1 (.ref l)
  repeat (any_goals (first | assumption | wp_step))
  refine codeAny_mono (code_set_led1 (.ref l) (E := E) (Q₁ := fun ob t => ob = .ref s.heap.objs.size ∧ t = { s with heap := s.heap.push (sOb w) }) ⟨rfl, rfl⟩) fun r t hr => ?_
  match r, hr with
  | .error e, hr => exact hr
  | .ok (.ret ob), hr =>
    obtain ⟨rfl, rfl⟩ := hr
    have hS : (s.heap.push (sOb w)).get? s.heap.objs.size = some (sOb w) := Heap.get?_push_size _ rfl
    have hT : Shared.TypeIs { s with heap := s.heap.push (sOb w) } (.ref s.heap.objs.size) "set" := ⟨_, hS, rfl⟩
    have k8 := F.called_set.init.lookup; have k9 := F.called_set.init.bind (.ref s.heap.objs.size)
    repeat (any_goals (first | assumption | wp_step))
    refine codeAny_mono (codeAny_call_builtin (R := wants (fun u t => u = .none ∧ ∃ g tk L es ep tb, t = { s with heap := g, toks := tk } ∧ SetW P w g s.heap.objs.size L es ep tb ∧ Got ks ks.length L ∧ (∀ b o, s.heap.get? b = some o → g.get? b = some o)) E) F.called_set.init.plain F.entry_set_init (check_set_init_1 hT ?_)) fun r2 t2 hr2 => ?_
    · obtain ⟨⟨oc, od, odat, osl⟩, ho, hc, n, hdat⟩ := hl
      simp only at hc hdat
      subst hc hdat
      have ho2 : (s.heap.push (sOb w)).get? l = some _ := Heap.get?_push_of_some _ ho
      have u1 := F.sub_list_set; have u2 := F.sub_list_frozenset; have u3 : (Value.type "list" == Value.type "dict") = false := by decide
      have hl1 : (s.heap.push (sOb w)).IsList l xs := ⟨_, ho2, rfl, n, rfl⟩
      unfold Builtin.«set.__init__» noKeywords Builtin.Frozenset.updateFrom; generalize hPI : pyIter = PI
      wp_walk
      subst hPI
      refine wpAny_pyIter_list hl1 (wpAny_bind (wpAny_runValue ?_))
      have lS : l < s.heap.objs.size := Heap.lt_size ho
      have h3 : A.in1.in1.in1.handled = none := by simp [hh]
      have lI : l ≠ (s.heap.push (sOb w)).objs.size := by rw [Heap.size_push]; exact Nat.ne_of_lt (Nat.lt_succ_of_lt lS)
      have sF : s.heap.objs.size ∉ [(s.heap.push (sOb w)).objs.size, l] := by
        rw [Heap.size_push]
        intro m
        rcases List.mem_cons.mp m with e | e
        · exact absurd e (Nat.ne_of_lt (Nat.lt_succ_self _))
        · exact absurd (List.mem_singleton.mp e) (Nat.ne_of_gt lS)
      have val : ∀ (i : Nat) (v : Value), xs[i]? = some v → ∃ p, ks[i]? = some p ∧ v = .ref p.1 := fun i v hv => by
        rw [← Array.getElem?_toList, hx, List.getElem?_map] at hv
        cases q : ks[i]? with
        | none => rw [q] at hv; cases hv
        | some p => rw [q] at hv; exact ⟨p, rfl, (Option.some.inj hv).symm⟩
      have no : ∀ b, s.heap.objs.size ≤ b → s.heap.get? b = none := fun b z => by
        cases q : s.heap.get? b with
        | none => rfl
        | some o => exact absurd (Nat.lt_of_lt_of_le (Heap.lt_size q) z) (Nat.lt_irrefl _)
      refine loop_w ((Walks.list h3 _ l lI xs).toS) s.heap.objs.size sF ks xn few val s.heap hk (no _ (Nat.le_refl _)) (fun b z => no b (by rw [List.mem_singleton.mp z, Heap.size_push]; exact Nat.le_succ _)) hu ?_ xs.size 0 _ (Nat.zero_add _) ⟨⟨_, Heap.get?_push_size _ rfl, rfl, rfl⟩, (hl1.push _)⟩ (fun _ => rfl) (fun z => absurd z (Nat.lt_irrefl 0))
        (fun b o e => Heap.get?_push_of_some _ (Heap.get?_push_of_some _ e)) ⟨[], #[], 0, _, setW_new (Heap.get?_push_of_some _ hS), Got.zero ks⟩
      intro t L es ep tb hm R g2 k
      obtain ⟨g, gs, d2, tk, o2⟩ := t
      obtain rfl : gs = s.gens := hm.gens
      obtain rfl : d2 = s.drawn := hm.drawn
      obtain rfl : o2 = s.os := hm.os
      show wpAny _ _ _ _ _ _
      refine wpAny_pure ?_; show wpAny _ _ (ret Value.none) _ _ _
      rw [xn] at g2
      exact wpAny_pure ⟨rfl, g, tk, L, es, ep, tb, rfl, R, g2, k⟩
    · match r2, hr2 with
      | .error e, hr2 => exact hr2
      | .ok (.ret u), hr2 =>
        obtain ⟨rfl, g, tk, L, es, ep, tb, rfl, q1, q2, q3⟩ := hr2
        repeat (any_goals (first | assumption | wp_step))
        exact h g tk L es ep tb q1 q2 q3
end
end Ms
set_option Elab.async false
set_option linter.all false
set_option maxRecDepth 100000
set_option maxHeartbeats 4000000
/-! Ms: len(set(l)), l a list of tuples of ints, below 4000. -/
namespace Ms
open PySem PySem.Spec PyProof.Rows L2
theorem got_count {ks L : List (Addr × List Int)} (g : Got ks ks.length L) (nd : (L.map (·.2)).Nodup) : L.length = (firsts (ks.map (·.2))).length := by
  have pm : (L.map (·.2)).Perm (firsts (ks.map (·.2))) := by
    refine (List.perm_ext_iff_of_nodup nd (firsts_nodup _)).mpr fun k => ?_
    rw [mem_firsts]
    constructor
    · intro m
      obtain ⟨p, mp, rfl⟩ := List.mem_map.mp m
      exact List.mem_map.mpr ⟨p, List.mem_of_mem_take (g.sub p mp), rfl⟩
    · intro m
      obtain ⟨p, mp, rfl⟩ := List.mem_map.mp m
      exact g.all p (by rw [List.take_length]; exact mp)
  have e := pm.length_eq
  rw [List.length_map] at e
  exact e
section
variable {X : Cx}
def tLenV (K : PySem.W.Frag) (ta : TE) : TE := fun σ H Q => ta σ H fun x G => ∃ (l : Addr) (ks : List (Addr × List Int)), x = V.ref l ∧ SqL K G l (ks.map fun p => V.ref p.1) ∧ (∀ p ∈ ks, SqT K G p.1 (p.2.map V.int)) ∧ ks.length ≤ 4000 ∧ Q (.int ((firsts (ks.map (·.2))).length : Nat)) G
theorem pe_lenV {e : Expr} {ta : TE} {p1 p2 p3 p4 : Pos} (K : PySem.W.Frag) (hg1 : Gl X "len") (hm1 : X.mg "len" = none) (hg2 : Gl X "set") (hm2 : X.mg "set" = none) (he : PE X e ta) (hu : X.A.units + 64 < cLine) (hc : X.calm = true := by rfl) (hK : X.K = K := by rfl)
    (ns : starEach [e] X.env = (false, eval e X.env) :: starEach [] X.env := by rfl) : PE X (.Call (.Name "len" p1) [.Call (.Name "set" p2) [e] [] p3] [] p4) (tLenV K ta) := by
  subst hK
  refine ⟨fun pins s σ H Q I h => ?_⟩
  refine Call_ (ld_blt I hg1 hm1 PySem.boot_len (PyProof.Rows.callWith_builtin1 (PyProof.Rows.args_cons ?_ rfl) rfl rfl))
  refine Call_ (ld_blt I hg2 hm2 PyProof.Rows.boot_set (PyProof.Rows.callWith_type1 (PyProof.Rows.args_cons (thn (he.run pins s σ H _ I h) fun v s1 q => PyProof.Rows.args_nil ?_) ns) ns rfl))
  obtain ⟨x, G, I1, r, l, ks, rfl, hl, hk, few, q⟩ := q
  cases r
  obtain ⟨its, rv, pl, _⟩ := I1.list hl
  refine call_setV ks (I1.ok.hd hc) pl.isList (by simpa using refs_of_vals rv) (fun p m => I1.isT (hk p m)) few (by omega) fun g tk L es ep tb R gt keep => PyProof.Rows.args_nil ?_
  obtain ⟨o, ho, hex, hd⟩ := R.ob
  have sz := rows_size R.rows
  have n1 := got_count gt R.nd
  have le : L.length ≤ 4000 := Nat.le_trans gt.len few
  have I2 : Inv X pins σ G { s1 with heap := g, toks := tk } := I1.kept keep
  exact call_len_set ho hex hd (SetW.fits (s := { s1 with heap := g, toks := tk }) R) (by omega) ⟨.int ((firsts (ks.map (·.2))).length : Nat), G, I2.tok _, ⟨_, by rw [sz, n1]⟩, q⟩
end
end Ms
set_option Elab.async false
set_option linter.all false
set_option maxRecDepth 100000
set_option maxHeartbeats 4000000
/-! Ms: how many pairs two rows have: as many as one of them has cells when it tells the other. -/
namespace Ms
open PySem PySem.Spec PyProof.Rows L2
theorem zipC_fine {r t : List Nat} (h : r.length = t.length) (c : (firsts (r.zip t)).length = (firsts r).length) : Alike (r.zip t) r := by
  have len : (r.zip t).length = r.length := by rw [List.length_zip]; omega
  refine ⟨len, fun i j a b x y h1 h2 h3 h4 => ⟨fun e => ?_, fun e => ?_⟩⟩
  · obtain ⟨k1, _⟩ := List.getElem?_zip_eq_some.mp h1
    obtain ⟨k2, _⟩ := List.getElem?_zip_eq_some.mp h2
    rw [h3] at k1
    rw [h4] at k2
    rw [Option.some.inj k1, Option.some.inj k2, e]
  · obtain ⟨k1, _⟩ := List.getElem?_zip_eq_some.mp h1
    obtain ⟨k2, _⟩ := List.getElem?_zip_eq_some.mp h2
    rw [h3] at k1
    rw [h4] at k2
    have ea : a.1 = b.1 := by rw [← Option.some.inj k1, ← Option.some.inj k2, e]
    refine Classical.byContradiction fun ne => ?_
    have ma : a ∈ firsts (r.zip t) := (mem_firsts _ _).mpr (List.mem_of_getElem? h1)
    have mb : b ∈ firsts (r.zip t) := (mem_firsts _ _).mpr (List.mem_of_getElem? h2)
    have le := nat_nodup_len (firsts r) (((firsts (r.zip t)).erase b).map (·.1)) (firsts_nodup r) fun x hx => by
      obtain ⟨n, hn⟩ := List.mem_iff_getElem?.mp ((mem_firsts _ _).mp hx)
      have nl : n < t.length := by rw [← h]; exact ltE hn
      have mz : (x, t[n]) ∈ firsts (r.zip t) := (mem_firsts _ _).mpr (List.mem_of_getElem? (List.getElem?_zip_eq_some.mpr ⟨hn, getE nl⟩))
      by_cases q : (x, t[n]) = b
      · refine List.mem_map.mpr ⟨a, (List.mem_erase_of_ne ne).mpr ma, ?_⟩
        rw [ea, ← q]
      · exact List.mem_map.mpr ⟨_, (List.mem_erase_of_ne q).mpr mz, rfl⟩
    have pos := List.length_pos_of_mem mb
    rw [List.length_map, List.length_erase_of_mem mb] at le
    omega
theorem zipC_left {r t : List Nat} (hr : Row r) (h : r.length = t.length) (c : (firsts (r.zip t)).length = (firsts r).length) : ren (r.zip t) = r := (ren_alike (zipC_fine h c)).1.trans hr
theorem zipC_swap : ∀ r t : List Nat, t.zip r = (r.zip t).map Prod.swap
  | [], t => by cases t <;> rfl
  | _ :: _, [] => rfl
  | a :: r, b :: t => congrArg ((b, a) :: ·) (zipC_swap r t)
theorem zipC_right {r t : List Nat} (ht : Row t) (h : r.length = t.length) (c : (firsts (r.zip t)).length = (firsts t).length) : ren (r.zip t) = t := by
  have al : Alike (r.zip t) (t.zip r) := by
    rw [zipC_swap r t]
    exact alike_map fun a b e => Prod.swap_inj.mp e
  rw [(ren_alike al).1]
  exact zipC_left ht h.symm (by rw [← (ren_alike al).2]; exact c)
/-- pairs of ints that stand in the heap, as keys -/
theorem zipC_keys {H : Hp} : ∀ {ts : List Addr} {ps : List (Nat × Nat)}, Paired (fun (t : Addr) (q : V × V) => H t = some (.tup [q.1, q.2])) ts (ps.map fun p => (V.int (p.1 : Nat), V.int (p.2 : Nat))) →
    ∃ ks : List (Addr × List Int), ts.map V.ref = ks.map (fun p => V.ref p.1) ∧ ks.map (·.2) = ps.map (fun p => [((p.1 : Nat) : Int), ((p.2 : Nat) : Int)]) ∧ ∀ p ∈ ks, H p.1 = some (.tup (p.2.map V.int))
  | [], [], _ => ⟨[], rfl, rfl, fun p m => nomatch m⟩
  | t :: ts, p :: ps, h => by
    cases h with
    | cons h tl =>
      obtain ⟨ks, e1, e2, e3⟩ := zipC_keys tl
      refine ⟨(t, [((p.1 : Nat) : Int), ((p.2 : Nat) : Int)]) :: ks, by rw [List.map_cons, List.map_cons, e1], by rw [List.map_cons, List.map_cons, e2], fun q m => ?_⟩
      rcases List.mem_cons.mp m with rfl | m
      · exact h
      · exact e3 q m
  | [], _ :: _, h => by cases h
  | _ :: _, [], h => by cases h
theorem zipC_count (ps : List (Nat × Nat)) : (firsts (ps.map fun p => [((p.1 : Nat) : Int), ((p.2 : Nat) : Int)])).length = (firsts ps).length := by
  refine ((ren_alike (alike_map fun a b e => ?_)).2).symm
  injection e with e1 e2
  injection e2 with e2 _
  exact Prod.ext (by omega) (by omega)
end Ms
set_option Elab.async false
set_option linter.all false
set_option maxRecDepth 100000
set_option maxHeartbeats 4000000
namespace K03
open PySem PySem.Spec PyProof.Rows L2 Ms
/-- Sight(marks), behind its argument -/
theorem make_fin {K : PySem.W.Frag} {H : Hp} {R : Addr → Hp → Prop} {E : XK} {a : Addr} {r : List Nat} (hm : MarksAt K H a r) (h1 : 0 < r.length → ∀ H' p, Same H H' → H p = none → SightAt K H' p r → R p H') (h2 : r.length = 0 → ∀ H', Same H H' → E (.ref (ND K)) none H') :
    ∀ x dx, H x = none → H dx = none → dx ≠ x → spInit K [.ref x, .ref a] (upd (upd H dx (.own x)) x (.ins (CS K) dx [])) (fun v H2 => v = .non ∧ R x H2) E := by
  intro x dx nx nd ne
  have s0 : Same H (upd (upd H dx (.own x)) x (.ins (CS K) dx [])) := fun b o q => by
    rw [upd_ne (fun z => by rw [z, nx] at q; cases q), upd_ne (fun z => by rw [z, nd] at q; cases q)]
    exact q
  exact ⟨x, dx, a, r, rfl, upd_same .., hm.same s0, fun hp H' k ⟨t, c, g1, g2, g3⟩ => ⟨rfl, h1 hp H' x (fun b o q => k b o (fun z => by rw [z, nx] at q; cases q) (s0 _ _ q)) nx ⟨⟨dx, t, c, g1, g2, g3⟩, hm.few.2, hp, hm.few.1⟩⟩, fun e H' s1 => h2 e H' (fun b o q => s1 _ _ (s0 _ _ q))⟩
theorem cells_at {r : List Nat} (h : Row r) {i : Nat} (hi : i < r.length) : (cellsOf r)[at0 r i]? = some (places (at0 r i) r) := by
  have e : firsts r = List.range (firsts r).length := by
    have q := firsts_ren r
    rw [show ren r = r from h] at q
    exact q
  have l : at0 r i < (firsts r).length := by
    have q := of_at0 hi
    rw [← show ren r = r from h] at q
    have q2 := ren_lt (List.mem_of_getElem? q)
    rw [show ren r = r from h] at q2
    exact q2
  unfold cellsOf
  rw [List.getElem?_map, e, List.getElem?_range l] <;> rfl
/-- numbers of a sight by its cells -/
def spGet (K : PySem.W.Frag) : Sp := fun vs H Q _ => ∃ p r, vs = [.ref p] ∧ SightAt K H p r ∧ ∀ c, CellsAt H c (cellsOf r) → Q (.ref c) H
def spCellOf (K : PySem.W.Frag) : Sp := fun vs H Q _ => ∃ (p : Addr) (r : List Nat) (i : Nat), vs = [.ref p, .int (i : Nat)] ∧ SightAt K H p r ∧ i < r.length ∧ ∀ c, H c = some (.tup (nV (places (at0 r i) r))) → Q (.ref c) H
def spAlike (K : PySem.W.Frag) : Sp := fun vs H Q _ => ∃ (p : Addr) (r : List Nat) (i j : Nat), vs = [.ref p, .int (i : Nat), .int (j : Nat)] ∧ SightAt K H p r ∧ i < r.length ∧ j < r.length ∧ Q (.bl (decide (at0 r i = at0 r j))) H
def spEq (K : PySem.W.Frag) : Sp := fun vs H Q _ => ∃ p r y, vs = [.ref p, y] ∧ SightAt K H p r ∧ ((∃ q t, y = .ref q ∧ SightAt K H q t ∧ Q (.bl (decide (r = t))) H) ∨ ∃ ty, TyX K H y ty ∧ PySem.W.kitOne K ty (.ref (CS K)) = some false ∧ Q (.bl false) H)
/-- the error of two sizes -/
def Differ (K : PySem.W.Frag) (H : Hp) (E : XK) (m n : Nat) : Prop := ∀ d H', H d = none → H' d = some (.xd [("two", .int (n : Nat)), ("one", .int (m : Nat))]) → (∀ b, b ≠ d → H' b = H b) → E (.ref (SD K)) (some d) H'
def spAnd (K : PySem.W.Frag) : Sp := fun vs H Q E => ∃ p q r t, vs = [.ref p, .ref q] ∧ SightAt K H p r ∧ SightAt K H q t ∧ (r.length = t.length → r.length ≤ 4000 ∧ ∀ H' x, Same H H' → SightAt K H' x (ren (r.zip t)) → Q (.ref x) H') ∧ (r.length ≠ t.length → Differ K H E r.length t.length)
def spOr (K : PySem.W.Frag) : Sp := fun vs H Q E => ∃ p q r t, vs = [.ref p, .ref q] ∧ SightAt K H p r ∧ SightAt K H q t ∧ (r.length = t.length → ∀ H' x u, Same H H' → H x = none → SightAt K H' x u → Joins r t u → Q (.ref x) H') ∧ (r.length ≠ t.length → Differ K H E r.length t.length)
def spNothing (K : PySem.W.Frag) : Sp := fun vs H Q _ => ∃ n : Nat, vs = [.ref (CS K), .int (n : Nat)] ∧ 0 < n ∧ n ≤ 16777216 ∧ ∀ H' x, Same H H' → H x = none → SightAt K H' x (ren (List.replicate n (0 : Int))) → Q (.ref x) H'
def spEvery (K : PySem.W.Frag) : Sp := fun vs H Q _ => ∃ n : Nat, vs = [.ref (CS K), .int (n : Nat)] ∧ 0 < n ∧ n ≤ 16777216 ∧ ∀ H' x, Same H H' → H x = none → SightAt K H' x (ren ((List.range n).map fun i => ((i : Nat) : Int))) → Q (.ref x) H'
theorem zip_nV (r t : List Nat) : (nV r).zip (nV t) = (r.zip t).map fun p => (V.int (p.1 : Nat), V.int (p.2 : Nat)) := by
  unfold nV
  rw [List.zip_map] <;> rfl
theorem ci (a b : Nat) (h : ((a : Nat) : Int) = (b : Int)) : a = b := by omega
section
variable {P : Program} {w : World} {K : PySem.W.Frag} {mg : Str → Option Value} {base : Heap}
theorem fn_cells (T : Tx K mg) : ∃ fd ps, FnOk P w K mg base (L2.CX P w) 1 (recAt K "property" "Sight" "cells") fd ps (spGet K) ∧ Binds K fd ps [] := by
  refine fn_ok T.d_Sight_cells scSight_cells (fun vs H Q E h => ?_) bi_Sight_cells fun cdv A outer s H vs Q E hr h => ?_
  · obtain ⟨p, r, rfl, _⟩ := h
    rfl
  obtain ⟨p, r, rfl, hp, hQ⟩ := h
  obtain ⟨dx, t, c, e1, e2, e3⟩ := hp.ex
  exact ⟨_, (pss_one (ps_ret (pe_fld (pv 0) rfl))), _, rfl, p, _, dx, _, _, rfl, e1, T.c_Sight, T.n_cells, rfl, hQ c e3⟩
theorem ints_eq (r t : List Nat) : decide ((r.map fun n => ((n : Nat) : Int)) = t.map fun n => ((n : Nat) : Int)) = decide (r = t) := by
  by_cases h : r = t
  · rw [h]; simp
  · rw [decide_eq_false h, decide_eq_false]
    intro z
    exact h ((List.map_inj_right ci).mp z)
theorem bok_eq (T : Tx K mg) : BOk P w K mg base "Sight" "__eq__" 1 (spEq K) := by
  refine ⟨fn_ok T.d_Sightu__equ_ scSightu__equ_ (fun vs H Q E h => ?_) bi_Sightu__equ_ fun cdv A outer s H vs Q E hr h => ?_, T.o_eq.sf, T.o_eq.fi, T.o_eq.fn⟩
  · obtain ⟨p, r, y, rfl, _⟩ := h
    rfl
  obtain ⟨p, r, y, rfl, hp, h⟩ := h
  refine ⟨_, (pss_one (ps_ret (pe_and (pe_callB (isK K) (by rfl) T.f_isinstance (by decide +kernel) (pa_cons (pv 1) (pa_cons (pe_glob (v := .ref (He.ga K "Sight")) rfl T.g_Sight rfl) pa_nil))) (pe_one (pe_cmpR (eqK K (hu := hr.units)) (pe_fld (pv 0) rfl) (pe_fld (pv 1) rfl) (nomark _)))))), ?_⟩
  obtain ⟨dx, t, c, e1, e2, _⟩ := hp.ex
  rcases h with ⟨q, u, rfl, hq, hQ⟩ | ⟨ty, h1, h2, hQ⟩
  · obtain ⟨dy, t', c', g1, g2, _⟩ := hq.ex
    refine ⟨_, rfl, .ref q, .ref (CS K), _, _, true, rfl, .own _, .of (.base (.ins g1 T.c_Sight T.cl_Sight.ca T.cl_Sight.cg T.cl_Sight.ct T.cl_Sight.ob)), T.is_Sight_Sight, true, rfl, ?_⟩
    refine iteT ?_
    refine ⟨_, rfl, p, _, dx, _, _, rfl, e1, T.c_Sight, T.n_marks, rfl, _, rfl, q, _, dy, _, _, rfl, g1, T.c_Sight, T.n_marks, rfl, _, _, .tup (.inl (.inl e2)) (by rw [nV_int]; exact dpI _), .tup (.inl (.inl g2)) (by rw [nV_int]; exact dpI _), shT _, shT _, ?_⟩
    rw [eqvT, ints_eq]
    exact hQ
  · refine ⟨_, rfl, y, .ref (CS K), ty, _, false, rfl, .own _, .of h1, h2, false, rfl, ?_⟩
    exact iteF hQ
end
end K03
set_option Elab.async false
set_option linter.all false
set_option maxRecDepth 100000
set_option maxHeartbeats 4000000
namespace K03
open PySem PySem.Spec PyProof.Rows L2 Ms
def spWhole : Sp := fun vs H Q _ => ∃ i, vs = [.int i] ∧ Q (.bl true) H
def spCellL (K : PySem.W.Frag) : Sp := fun vs H Q _ => ∃ (a : Addr) (ns : List Int) (k : Nat), vs = [.ref a, .int (k : Nat)] ∧ SqL K H a (ns.map V.int) ∧ ∀ z : Int, Q (.int z) H
def spDigits (K : PySem.W.Frag) : Sp := fun vs H Q _ => ∃ (c : Int) (s : Addr) (ss : List Nat), vs = [.int c, .ref s] ∧ SqL K H s (nV ss) ∧ (∀ x ∈ ss, 0 < x ∧ x < 1073741824) ∧ ss.length ≤ 16777216 ∧
  ∀ H' p ds, Same H H' → H p = none → H' p = some (.lst (nV ds)) → ds.length = ss.length → (∀ i, i < ss.length → at0 ds i < at0 ss i) → Q (.ref p) H'
def spGroups (K : PySem.W.Frag) : Sp := fun vs H Q _ => ∃ (a : Addr) (r : List Nat), vs = [.ref a] ∧ SqL K H a (nV r) ∧ Row r ∧ 0 < r.length ∧ r.length ≤ 16777216 ∧
  ∀ H' p ls, Same H H' → H p = none → H' p = some (.lst (ls.map V.ref)) → Paired (fun l c => H' l = some (.lst (nV c))) ls (cellsOf r) → Q (.ref p) H'
def spNumbers (K : PySem.W.Frag) : Sp := fun vs H Q _ => ∃ (t l : Addr) (xs : List Nat), vs = [.ref t, .ref l] ∧ H t = some (.tup (nV xs)) ∧ SqL K H l (nV xs) ∧ xs.length ≤ 16777216 ∧ Q (.bl true) H
def spAgrees (K : PySem.W.Frag) : Sp := fun vs H Q _ => ∃ (p l : Addr) (r : List Nat), vs = [.ref p, .ref l] ∧ SightAt K H p r ∧ SqL K H l (nV r) ∧ ∀ H', Same H H' → Q (.bl true) H'
def spLooked : Sp := fun vs H Q _ => ∃ (n : Nat) (z : Int), vs = [.int (n : Nat), .int z] ∧ 0 < n ∧ n ≤ 16777216 ∧ ∀ H' p ls, Same H H' → H p = none → H' p = some (.lst (nV ls)) → (∀ x ∈ ls, x < n) → Q (.ref p) H'
theorem nz {j : Int} (h : decide (j ≠ 0) = true) : j ≠ 0 := of_decide_eq_true h
theorem modPos {a m : Int} (h : 0 < m) : 0 ≤ a.fmod m ∧ a.fmod m < m := ⟨Int.fmod_nonneg_of_pos _ h, Int.fmod_lt_of_pos _ h⟩
section
variable {P : Program} {w : World} {K : PySem.W.Frag} {mg : Str → Option Value} {base : Heap}
theorem ok__law_whole (T : Tx K mg) : Ok P w K mg base "_law_whole" 1 spWhole := by
  refine ok_of T.a__law_whole sc_law_whole (fun vs H Q E h => ?_) bi__law_whole fun cdv A outer s H vs Q E hr h => ?_
  · obtain ⟨i, rfl, _⟩ := h
    rfl
  obtain ⟨i, rfl, hQ⟩ := h
  refine ⟨_, (pss_one (ps_ret (pe_and (pe_callB (isK K) (by rfl) T.f_isinstance (by decide +kernel) (pa_cons (pv 0) (pa_cons (pe_bltn (v := .ty "int") (by rfl) T.f_int (by decide +kernel) rfl) pa_nil))) (pe_one (pe_not (pe_callB (isK K) (by rfl) T.f_isinstance (by decide +kernel) (pa_cons (pv 0) (pa_cons (pe_bltn (v := .ty "bool") (by rfl) T.f_bool (by decide +kernel) rfl) pa_nil)))))))), ?_⟩
  refine ⟨_, rfl, .int i, .ty "int", _, _, true, rfl, .ty _, .of (.base (.int i)), T.is_int_int, true, rfl, ?_⟩
  refine iteT ?_
  refine ⟨_, rfl, .int i, .ty "bool", _, _, false, rfl, .ty _, .of (.base (.int i)), T.is_int_bool, false, rfl, hQ⟩
theorem wok__law_whole (T : Tx K mg) : WOk P w K mg base "_law_whole" 1 spWhole := by
  obtain ⟨fd, F⟩ := T.d__law_whole
  refine ⟨⟨fd, ["value"], Ms.FunD.warm F sc_law_whole (fun vs H Q E h => ?_) (fun cdv A outer s H vs Q E hr h => ?_), F.bindsN bi__law_whole⟩, T.gd__law_whole, F.kp⟩
  · obtain ⟨i, rfl, _⟩ := h
    rfl
  obtain ⟨i, rfl, hQ⟩ := h
  refine ⟨_, (pss_one (ps_ret (pe_and (pe_callB (isK K) (by rfl) T.f_isinstance (by decide +kernel) (pa_cons (pv 0) (pa_cons (pe_bltn (v := .ty "int") (by rfl) T.f_int (by decide +kernel) rfl) pa_nil))) (pe_one (pe_not (pe_callB (isK K) (by rfl) T.f_isinstance (by decide +kernel) (pa_cons (pv 0) (pa_cons (pe_bltn (v := .ty "bool") (by rfl) T.f_bool (by decide +kernel) rfl) pa_nil)))))))), ?_⟩
  refine ⟨_, rfl, .int i, .ty "int", _, _, true, rfl, .ty _, .of (.base (.int i)), T.is_int_int, true, rfl, ?_⟩
  refine iteT ?_
  refine ⟨_, rfl, .int i, .ty "bool", _, _, false, rfl, .ty _, .of (.base (.int i)), T.is_int_bool, false, rfl, hQ⟩
theorem ok__law_cell (T : Tx K mg) : Ok P w K mg base "_law_cell" 1 (spCellL K) := by
  refine ok_of T.a__law_cell sc_law_cell (fun vs H Q E h => ?_) bi__law_cell fun cdv A outer s H vs Q E hr h => ?_
  · obtain ⟨a, ns, k, rfl, _⟩ := h
    rfl
  obtain ⟨a, ns, k, rfl, ha, hQ⟩ := h
  refine ⟨_, (pss_cons (ps_if (pt_cmpR op_lt (pv 1) (pe_callB (lenK K) (by rfl) T.f_len boot_len (pa_cons (pv 0) pa_nil)) (nomark _))
  (pss_one (ps_ret (pe_ix (ixL K) (pv 0) (pv 1) (fun _ _ => rfl))))
  pss_nil)
  (pss_cons (ps_set (i := 2) sc_law_cell.nd rfl (by first | exact Or.inl rfl | exact Or.inr rfl) pe_int)
  (pss_cons (ps_for PassesOwn.never rfl (pi_list (pv 0)) (pg_name (i := 3) sc_law_cell.nd rfl (by first | exact Or.inl rfl | exact Or.inr rfl))
  (pss_one (ps_set (i := 2) sc_law_cell.nd rfl (by first | exact Or.inl rfl | exact Or.inr rfl) (pe_op op_modN (pe_callTy call_int1 (by rfl) T.f_int (by decide +kernel) (pa_cons (pe_op op_add (pe_op op_mul (pv 2) pe_int) (pe_op op_modN (pe_callTy call_int1 (by rfl) T.f_int (by decide +kernel) (pa_cons (pv 3) pa_nil)) pe_int)) pa_nil)) pe_int))))
  (pss_one (ps_ret (pe_op op_modN (pe_callTy call_int1 (by rfl) T.f_int (by decide +kernel) (pa_cons (pe_op op_mul (pe_op op_mul (pe_op op_add (pv 2) pe_int) (pe_op op_add (pv 1) pe_int)) pe_int) pa_nil)) pe_int)))))), ?_⟩
  refine ⟨_, rfl, _, rfl, a, _, rfl, .inl ha, _, _, rfl, rfl, _, rfl, ?_⟩
  by_cases hk : k < ns.length
  · have e : decide (((k : Nat) : Int) < ((ns.map V.int).length : Nat)) = true := decide_eq_true (by rw [List.length_map]; omega)
    rw [e]
    refine iteT ⟨_, rfl, _, rfl, a, _, _, _, rfl, rfl, ha, atI_nat (by rw [List.getElem?_map, getE hk] <;> rfl), hQ _⟩
  · have e : decide (((k : Nat) : Int) < ((ns.map V.int).length : Nat)) = false := decide_eq_false (by rw [List.length_map]; omega)
    rw [e]
    refine iteF ?_
    refine ⟨_, rfl, a, rfl, ⟨_, ha⟩, for_list (xs := ns.map V.int) (fun i σ H1 => ∃ (sd : Int) (m : Option V), σ = [some (.ref a), some (.int (k : Nat)), some (.int sd), m] ∧ 0 ≤ sd ∧ sd < 1000003 ∧ H1 = H) ?_ ?_ ?_ ?_⟩
    · exact ⟨17, none, rfl, by decide, by decide, rfl⟩
    · rintro i σ H1 _ ⟨_, _, _, _, _, rfl⟩
      exact ha
    · rintro i x σ H1 hx ⟨sd, m, rfl, h1, h2, rfl⟩
      rw [List.getElem?_map] at hx
      cases en : ns[i]? with
      | none => rw [en] at hx; cases hx
      | some n =>
        rw [en] at hx
        cases hx
        refine ⟨_, rfl, _, _, rfl, rfl, .inl ⟨by omega, by omega⟩, _, rfl, .inl ⟨_, rfl, _, _, rfl, rfl, nz rfl, _, _, rfl, rfl, .inl ⟨_, rfl, _, _, rfl, rfl, nz rfl, ?_⟩⟩⟩
        obtain ⟨g1, g2⟩ := modPos (a := sd * 31 + n.fmod 1000003) (m := 1000003) (by decide)
        exact ⟨_, _, rfl, g1, g2, rfl⟩
    · rintro σ H1 ⟨sd, m, rfl, h1, h2, rfl⟩
      refine ⟨_, rfl, _, _, rfl, rfl, _, rfl, _, _, rfl, rfl, _, _, rfl, rfl, .inl ⟨by omega, by omega⟩, _, _, rfl, rfl, .inr ⟨by decide, by decide⟩, .inl ⟨_, rfl, _, _, rfl, rfl, nz rfl, hQ _⟩⟩
end
end K03
set_option Elab.async false
set_option linter.all false
set_option maxRecDepth 100000
set_option maxHeartbeats 4000000
namespace K03
open PySem PySem.Spec PyProof.Rows L2 Ms
theorem digit {a : Int} {n : Nat} (h : 0 < n) : ∃ d : Nat, ((d : Nat) : Int) = a.fmod (n : Nat) ∧ d < n := by
  obtain ⟨g1, g2⟩ := modPos (a := a) (m := (n : Nat)) (by omega)
  exact ⟨(a.fmod (n : Nat)).toNat, by omega, by omega⟩
theorem at0_snoc {l : List Nat} {d j : Nat} : at0 (l ++ [d]) j = if j = l.length then d else at0 l j := by
  unfold at0
  rw [List.getD_eq_getElem?_getD, List.getD_eq_getElem?_getD]
  by_cases e : j = l.length
  · rw [if_pos e, e]; simp
  · rw [if_neg e]
    rcases Nat.lt_or_ge j l.length with h | h
    · rw [List.getElem?_append_left h]
    · have h1 : (l ++ [d])[j]? = none := List.getElem?_eq_none (by rw [List.length_append, List.length_singleton]; omega)
      have h2 : l[j]? = none := List.getElem?_eq_none h
      rw [h1, h2]
section
variable {P : Program} {w : World} {K : PySem.W.Frag} {mg : Str → Option Value} {base : Heap}
theorem ok__law_digits (T : Tx K mg) : Ok P w K mg base "_law_digits" 1 (spDigits K) := by
  refine ok_of T.a__law_digits sc_law_digits (fun vs H Q E h => ?_) bi__law_digits fun cdv A outer s H vs Q E hr h => ?_
  · obtain ⟨c, s, ss, rfl, _⟩ := h
    rfl
  obtain ⟨c, s, ss, rfl, hs, hp, hz, hQ⟩ := h
  have hs1 : ∀ H1 : Hp, Same H H1 → SqL K H1 s (nV ss) := fun H1 q => Same.seq q hs
  refine ⟨_, (pss_cons (ps_set (i := 2) sc_law_digits.nd rfl (by first | exact Or.inl rfl | exact Or.inr rfl) (pe_lst pa_nil))
  (pss_cons (ps_set (i := 3) sc_law_digits.nd rfl (by first | exact Or.inl rfl | exact Or.inr rfl) (pe_callB (call_max2 rfl) (by rfl) T.f_max (by decide +kernel) (pa_cons pe_int (pa_cons (pe_op op_sub (pe_callTy call_int1 (by rfl) T.f_int (by decide +kernel) (pa_cons (pv 0) pa_nil)) (pe_op op_pow pe_int pe_int)) pa_nil))))
  (pss_cons (ps_set (i := 4) sc_law_digits.nd rfl (by first | exact Or.inl rfl | exact Or.inr rfl) (pe_op op_modN (pe_callTy call_int1 (by rfl) T.f_int (by decide +kernel) (pa_cons (pv 0) pa_nil)) pe_int))
  (pss_cons (ps_for PassesOwn.never rfl (pi_range1 rfl T.f_range (pa_cons (pe_callB (lenK K) (by rfl) T.f_len boot_len (pa_cons (pv 1) pa_nil)) pa_nil)) (pg_name (i := 5) sc_law_digits.nd rfl (by first | exact Or.inl rfl | exact Or.inr rfl))
  (pss_cons (ps_set (i := 4) sc_law_digits.nd rfl (by first | exact Or.inl rfl | exact Or.inr rfl) (pe_op op_modN (pe_callTy call_int1 (by rfl) T.f_int (by decide +kernel) (pa_cons (pe_op op_add (pe_op op_add (pe_op op_mul (pv 4) pe_int) (pe_op op_mul pe_int (pv 5))) pe_int) pa_nil)) pe_int))
    (pss_one (ps_if (pt_cmpR op_gt (pv 3) pe_int (nomark _))
    (pss_cons (ps_expr (pe_bm PySem.F.plainAttrs_list PySem.F.slot_list_append PySem.F.type_list_append mt_append (pv 2) (pa_cons (pe_op op_modN (pe_callTy call_int1 (by rfl) T.f_int (by decide +kernel) (pa_cons (pv 3) pa_nil)) (pe_ix (ixL K) (pv 1) (pv 5) (fun _ _ => rfl))) pa_nil)))
      (pss_one (ps_set (i := 3) sc_law_digits.nd rfl (by first | exact Or.inl rfl | exact Or.inr rfl) (pe_op op_fdivN (pe_callTy call_int1 (by rfl) T.f_int (by decide +kernel) (pa_cons (pv 3) pa_nil)) (pe_ix (ixL K) (pv 1) (pv 5) (fun _ _ => rfl))))))
    (pss_cons (ps_set (i := 6) sc_law_digits.nd rfl (by first | exact Or.inl rfl | exact Or.inr rfl) (pe_op op_modN (pe_callTy call_int1 (by rfl) T.f_int (by decide +kernel) (pa_cons (pe_op op_mul (pv 4) (pe_op op_add (pe_op op_fdivN (pv 4) pe_int) pe_int)) pa_nil)) pe_int))
      (pss_one (ps_expr (pe_bm PySem.F.plainAttrs_list PySem.F.slot_list_append PySem.F.type_list_append mt_append (pv 2) (pa_cons (pe_op op_modN (pe_op op_fdivN (pv 6) pe_int) (pe_ix (ixL K) (pv 1) (pv 5) (fun _ _ => rfl))) pa_nil)))))))))
  (pss_one (ps_ret (pv 2))))))), ?_⟩
  refine ⟨Nat.zero_le _, fun l nl => ?_⟩
  have s0 := same_new (o := .lst []) nl
  refine ⟨_, rfl, .inl ⟨_, rfl, _, _, rfl, rfl, ⟨by decide, by decide, by decide⟩, _, _, rfl, rfl, _, _, rfl, ?_⟩⟩
  have r0 : (0 : Int) ≤ if c - 10 ^ (18 : Int).toNat > 0 then c - 10 ^ (18 : Int).toNat else 0 := by
    by_cases e : c - 10 ^ (18 : Int).toNat > 0
    · rw [if_pos e]; omega
    · rw [if_neg e]; decide
  generalize (if c - 10 ^ (18 : Int).toNat > 0 then c - 10 ^ (18 : Int).toNat else 0) = rest0 at r0
  refine ⟨_, rfl, .inl ⟨_, rfl, _, _, rfl, rfl, nz rfl, ?_⟩⟩
  obtain ⟨g1, g2⟩ := modPos (a := c) (m := 2147483629) (by decide)
  dsimp only
  generalize c.fmod 2147483629 = seed0 at g1 g2
  refine ⟨_, rfl, s, _, rfl, .inl (hs1 _ s0), _, rfl, by omega, by rw [nV_len]; omega, ?_⟩
  have en : (((nV ss).length : Nat) : Int).toNat = ss.length := by rw [nV_len]; omega
  rw [en]
  refine for_it walk_range (fun i σ H1 => ∃ (rest seed : Int) (m5 m6 : Option V) (ds : List Nat), σ = [some (.int c), some (.ref s), some (.ref l), some (.int rest), some (.int seed), m5, m6] ∧ 0 ≤ rest ∧ 0 ≤ seed ∧ seed < 2147483647 ∧ Same H H1 ∧ H1 l = some (.lst (nV ds)) ∧ ds.length = i ∧ ∀ j, j < i → at0 ds j < at0 ss j) ?_ (fun _ _ _ _ _ => trivial) ?_ ?_
  · exact ⟨rest0, seed0, none, none, [], rfl, r0, g1, by omega, s0, upd_same .., rfl, fun j hj => absurd hj (Nat.not_lt_zero _)⟩
  · rintro i x σ H1 H2 hi ⟨rest, seed, m5, m6, ds, rfl, h1, h2, h3, s1, hl, hlen, hlt⟩ ⟨rfl, hx⟩
    have hx : x = .int (i : Nat) := hx.trans (congrArg V.int (Int.zero_add _))
    subst hx
    have hss := hs1 _ s1
    have szp := hp _ (List.mem_of_getElem? (of_at0 hi))
    refine ⟨_, rfl, _, _, rfl, rfl, .inl ⟨by omega, by omega⟩, _, rfl, _, _, rfl, rfl, .inl ⟨by decide, by decide⟩, _, _, rfl, rfl, _, _, rfl, rfl, .inl ⟨_, rfl, _, _, rfl, rfl, nz rfl, ?_⟩⟩
    obtain ⟨k1, k2⟩ := modPos (a := seed * 48271 + 974711 * (i : Nat) + 12345) (m := 2147483647) (by decide)
    dsimp only
    generalize (seed * 48271 + 974711 * ((i : Nat) : Int) + 12345).fmod 2147483647 = seed1 at k1 k2
    refine ⟨_, rfl, _, _, rfl, rfl, _, rfl, ?_⟩
    have ap : ∀ d : Nat, d < at0 ss i → Same H (upd H2 l (.lst (nV (ds ++ [d])))) ∧ upd H2 l (.lst (nV (ds ++ [d]))) l = some (.lst (nV (ds ++ [d]))) ∧ (ds ++ [d]).length = i + 1 ∧ ∀ j, j < i + 1 → at0 (ds ++ [d]) j < at0 ss j := fun d hd => by
      refine ⟨fun b o q => ?_, upd_same .., by rw [List.length_append, hlen, List.length_singleton], fun j hj => ?_⟩
      · rw [upd_ne (fun z => by rw [z, nl] at q; cases q)]
        exact s1 _ _ q
      · rw [at0_snoc]
        by_cases e : j = ds.length
        · rw [if_pos e, e, hlen]; exact hd
        · rw [if_neg e]
          exact hlt j (by omega)
    by_cases hr0 : (0 : Int) < rest
    · rw [show decide (rest > 0) = true from decide_eq_true hr0]
      refine iteT ?_
      obtain ⟨d, hd, hdl⟩ := digit (a := rest) szp.1
      refine ⟨_, rfl, .inl ⟨rfl, _, .inl (.inl hl)⟩, _, rfl, .inl ⟨_, rfl, _, rfl, _, rfl, s, _, _, _, rfl, rfl, hss, atI_nat (nV_at0 hi), _, _, rfl, rfl, by show ((at0 ss i : Nat) : Int) ≠ 0; omega, l, _, _, rfl, rfl, hl, by rw [nV_len, hlen]; exact fewS (by omega), ?_⟩⟩
      dsimp only
      rw [← hd, nV_snoc]
      obtain ⟨a1, a2, a3, a4⟩ := ap d hdl
      refine ⟨_, rfl, .inl ⟨_, rfl, _, rfl, _, rfl, s, _, _, _, rfl, rfl, hs1 _ a1, atI_nat (nV_at0 hi), _, _, rfl, rfl, ⟨by omega, by omega⟩, ?_⟩⟩
      exact ⟨_, seed1, _, _, ds ++ [d], rfl, Int.fdiv_nonneg (by omega) (by omega), k1, k2, a1, a2, a3, a4⟩
    · rw [show decide (rest > 0) = false from decide_eq_false hr0]
      refine iteF ?_
      refine ⟨_, rfl, _, rfl, _, _, rfl, rfl, ⟨by decide, by decide⟩, _, _, rfl, rfl, _, _, rfl, rfl, .inl ⟨by omega, by omega⟩, .inl ⟨_, rfl, _, _, rfl, rfl, nz rfl, ?_⟩⟩
      dsimp only
      generalize (seed1 * (seed1.fdiv 65537 + 3)).fmod 2147483629 = tw
      obtain ⟨d, hd, hdl⟩ := digit (a := tw.fdiv 19) szp.1
      refine ⟨_, rfl, .inl ⟨rfl, _, .inl (.inl hl)⟩, _, rfl, _, _, rfl, rfl, ⟨by decide, by decide⟩, _, rfl, _, rfl, s, _, _, _, rfl, rfl, hss, atI_nat (nV_at0 hi), _, _, rfl, rfl, by show ((at0 ss i : Nat) : Int) ≠ 0; omega, l, _, _, rfl, rfl, hl, by rw [nV_len, hlen]; exact fewS (by omega), ?_⟩
      dsimp only
      rw [← hd, nV_snoc]
      obtain ⟨a1, a2, a3, a4⟩ := ap d hdl
      exact ⟨rest, seed1, _, _, ds ++ [d], rfl, h1, k1, k2, a1, a2, a3, a4⟩
  · rintro σ H1 ⟨rest, seed, m5, m6, ds, rfl, h1, h2, h3, s1, hl, hlen, hlt⟩
    exact ⟨_, rfl, hQ H1 l ds s1 nl hl hlen hlt⟩
end
end K03
set_option Elab.async false
set_option linter.all false
set_option maxRecDepth 100000
set_option maxHeartbeats 4000000
namespace K03
open PySem PySem.Spec PyProof.Rows L2 Ms
def spMarks (K : PySem.W.Frag) : Sp := fun vs H Q _ => ∃ (a : Addr) (xs : List V) (r : List Nat), vs = [.ref a] ∧ xs.length ≤ 16777216 ∧ SqL K H a xs ∧
  ((∃ ns : List Int, xs = ns.map V.int ∧ r = ren ns) ∨ ∃ (ts : List Addr) (ps : List (Int × Int)), xs = ts.map V.ref ∧ r = ren ps ∧ Paired (fun t p => H t = some (pairV p)) ts ps) ∧
  ∀ H' p, Same H H' → H p = none → H' p = some (.lst (nV r)) → Q (.ref p) H'
section
variable {P : Program} {w : World} {K : PySem.W.Frag} {mg : Str → Option Value} {base : Heap}
theorem mar_KL (T : Tx K mg) {cdv : Value} {A : Around} {outer : List Env} {s : Shared} {H : Hp} {Q : VK} {E : XK} {a : Addr} {xs : List V} {r : List Nat} {ks : List Key} (hr : Rm 0 "_law_marks" s_law_marks (He.ga K "_law_marks") cdv A s)
    (hq0 : SqL K H a xs) (hz : xs.length ≤ sizeLine) (hk0 : KeyAt H .dK xs ks) (hr2 : ren ks = r) (hQ : ∀ H' p, Same H H' → H p = none → H' p = some (.lst (nV r)) → Q (.ref p) H') :
    Goal P w K mg base "_law_marks" s_law_marks ["marks", "numbers", "row", "mark"] (He.ga K "_law_marks") cdv A outer s H [.ref a] Q E := by
  have hlen := hk0.len
  have hkey := hk0.at_
  have hq1 : ∀ (H1 : Hp), Same H H1 → SqL K H1 a xs := fun H1 s => Same.seq s hq0
  refine ⟨_, (pss_cons (ps_set (i := 1) sc_law_marks.nd rfl (by first | exact Or.inl rfl | exact Or.inr rfl) pe_dnewK)
    (pss_cons (ps_set (i := 2) sc_law_marks.nd rfl (by first | exact Or.inl rfl | exact Or.inr rfl) (pe_lst pa_nil))
    (pss_cons (ps_for PassesOwn.never rfl (pi_list (pv 0)) (pg_name (i := 3) sc_law_marks.nd rfl (by first | exact Or.inl rfl | exact Or.inr rfl))
    (pss_cons (ps_if (pt_cmp (pc_dnotin (hu_of hr) (pv 3) (pv 1)))
      (pss_one (ps_dput (hu_of hr) (pv 1) (pv 3) (pe_callB call_lenD (by rfl) T.f_len boot_len (pa_cons (pv 1) pa_nil)) rfl))
      pss_nil)
      (pss_one (ps_expr (pe_bm PySem.F.plainAttrs_list PySem.F.slot_list_append PySem.F.type_list_append mt_append (pv 2) (pa_cons (pe_dget (hu_of hr) (pv 1) (pv 3) (fun _ _ => rfl)) pa_nil))))))
    (pss_one (ps_ret (pv 2)))))), ?_⟩
  refine fun d hd => ?_
  refine ⟨Nat.zero_le _, fun l hl => ?_⟩
  have hdl : d ≠ l := fun z => by rw [← z, upd_same] at hl; cases hl
  have nl : H l = none := by rw [upd_ne (fun z => hdl z.symm)] at hl; exact hl
  refine ⟨_, rfl, a, rfl, ⟨_, hq1 _ (Same.new2 hd nl)⟩, for_list (xs := xs) (PR K H a d l xs .dK ks) ?_ ?_ ?_ ?_⟩
  · exact ⟨none, rfl, Same.new2 hd nl, by rw [upd_ne hdl, upd_same] <;> rfl, by rw [upd_same] <;> rfl⟩
  · exact fun i σ H1 _ h => by obtain ⟨_, _, h1, _⟩ := h; exact hq1 _ h1
  · intro i x σ H1 hx h
    obtain ⟨m, rfl, s1, e1, e2⟩ := h
    obtain ⟨k, hk, g1, g2⟩ := hkey i x hx
    refine ⟨_, rfl, _, rfl, d, _, rfl, g1 _ _ _ s1 e1, _, rfl, ?_⟩
    have tk : ks.take (i + 1) = ks.take i ++ [k] := by rw [List.take_add_one, hk] <;> rfl
    have li : i < xs.length := ltE hx
    have lt : (tbl (firsts (ks.take i))).length ≤ i := by
      rw [tbl_len]
      exact Nat.le_trans (firsts_le _) (List.length_take_le ..)
    rw [valV_tbl]
    by_cases hin : k ∈ firsts (ks.take i)
    · rw [if_pos hin]
      refine iteF ?_
      refine ⟨_, rfl, .inl ⟨rfl, _, .inl (.inl e2)⟩, _, rfl, _, rfl, d, _, rfl, by rw [← valV_some hin]; exact g1 _ _ _ s1 e1, l, _, _, rfl, rfl, e2, by rw [nV_ren_take hk]; omega, ?_⟩
      refine ⟨_, rfl, fun b o q => ?_, ?_, ?_⟩
      · rw [upd_ne (fun z => by rw [z, nl] at q; cases q)]
        exact s1 b o q
      · rw [upd_ne hdl, tk, firsts_old ((mem_firsts _ _).mp hin)]
        exact e1
      · rw [upd_same, tk, ren_snoc]
        simp [nV]
    · rw [if_neg hin]
      refine iteT ?_
      refine ⟨_, rfl, d, _, rfl, e1, _, rfl, _, rfl, d, _, rfl, g2 _ _ _ _ s1 e1 (by omega), ?_⟩
      have vn : valV (tbl (firsts (ks.take i))) k = none := by rw [valV_tbl, if_neg hin]
      rw [putK_new _ vn, tbl_len, ← tbl_snoc, ← firsts_new (fun z => hin ((mem_firsts _ _).mpr z)), ← tk]
      have e1' : upd H1 d (.dK (tbl (firsts (ks.take (i + 1))))) d = some (.dK (tbl (firsts (ks.take (i + 1))))) := upd_same ..
      have e2' : upd H1 d (.dK (tbl (firsts (ks.take (i + 1))))) l = some (.lst (nV (ren (ks.take i)))) := by rw [upd_ne (fun z => hdl z.symm)]; exact e2
      have s2 : Same H (upd H1 d (.dK (tbl (firsts (ks.take (i + 1)))))) := fun b o q => by
        rw [upd_ne (fun z => by rw [z, hd] at q; cases q)]
        exact s1 b o q
      have hin2 : k ∈ firsts (ks.take (i + 1)) := (mem_firsts _ _).mpr (by rw [tk]; exact List.mem_append_right _ (List.mem_singleton.mpr rfl))
      refine ⟨_, rfl, .inl ⟨rfl, _, .inl (.inl e2')⟩, _, rfl, _, rfl, d, _, rfl, by rw [← valV_some hin2]; exact g1 _ _ _ s2 e1', l, _, _, rfl, rfl, e2', by rw [nV_ren_take hk]; omega, ?_⟩
      refine ⟨_, rfl, fun b o q => ?_, ?_, ?_⟩
      · rw [upd_ne (fun z => by rw [z, nl] at q; cases q)]
        exact s2 b o q
      · rw [upd_ne hdl]
        exact e1'
      · rw [upd_same, tk, ren_snoc, ix_self]
        simp [nV]
  · intro σ H1 h
    obtain ⟨m, rfl, s1, e1, e2⟩ := h
    have full : ks.take xs.length = ks := by rw [← hlen]; exact List.take_length
    rw [full, hr2] at e2
    exact ⟨_, rfl, hQ H1 l s1 nl e2⟩

theorem mar_TL (T : Tx K mg) {cdv : Value} {A : Around} {outer : List Env} {s : Shared} {H : Hp} {Q : VK} {E : XK} {a : Addr} {xs : List V} {r : List Nat} {ks : List (List Key)} (hr : Rm 0 "_law_marks" s_law_marks (He.ga K "_law_marks") cdv A s)
    (hq0 : SqL K H a xs) (hz : xs.length ≤ sizeLine) (hk0 : KeyAt H .dT xs ks) (hr2 : ren ks = r) (hQ : ∀ H' p, Same H H' → H p = none → H' p = some (.lst (nV r)) → Q (.ref p) H') :
    Goal P w K mg base "_law_marks" s_law_marks ["marks", "numbers", "row", "mark"] (He.ga K "_law_marks") cdv A outer s H [.ref a] Q E := by
  have hlen := hk0.len
  have hkey := hk0.at_
  have hq1 : ∀ (H1 : Hp), Same H H1 → SqL K H1 a xs := fun H1 s => Same.seq s hq0
  refine ⟨_, (pss_cons (ps_set (i := 1) sc_law_marks.nd rfl (by first | exact Or.inl rfl | exact Or.inr rfl) pe_dnewT)
    (pss_cons (ps_set (i := 2) sc_law_marks.nd rfl (by first | exact Or.inl rfl | exact Or.inr rfl) (pe_lst pa_nil))
    (pss_cons (ps_for PassesOwn.never rfl (pi_list (pv 0)) (pg_name (i := 3) sc_law_marks.nd rfl (by first | exact Or.inl rfl | exact Or.inr rfl))
    (pss_cons (ps_if (pt_cmp (pc_dnotin (hu_of hr) (pv 3) (pv 1)))
      (pss_one (ps_dput (hu_of hr) (pv 1) (pv 3) (pe_callB call_len_dT (by rfl) T.f_len boot_len (pa_cons (pv 1) pa_nil)) rfl))
      pss_nil)
      (pss_one (ps_expr (pe_bm PySem.F.plainAttrs_list PySem.F.slot_list_append PySem.F.type_list_append mt_append (pv 2) (pa_cons (pe_dget (hu_of hr) (pv 1) (pv 3) (fun _ _ => rfl)) pa_nil))))))
    (pss_one (ps_ret (pv 2)))))), ?_⟩
  refine fun d hd => ?_
  refine ⟨Nat.zero_le _, fun l hl => ?_⟩
  have hdl : d ≠ l := fun z => by rw [← z, upd_same] at hl; cases hl
  have nl : H l = none := by rw [upd_ne (fun z => hdl z.symm)] at hl; exact hl
  refine ⟨_, rfl, a, rfl, ⟨_, hq1 _ (Same.new2 hd nl)⟩, for_list (xs := xs) (PR K H a d l xs .dT ks) ?_ ?_ ?_ ?_⟩
  · exact ⟨none, rfl, Same.new2 hd nl, by rw [upd_ne hdl, upd_same] <;> rfl, by rw [upd_same] <;> rfl⟩
  · exact fun i σ H1 _ h => by obtain ⟨_, _, h1, _⟩ := h; exact hq1 _ h1
  · intro i x σ H1 hx h
    obtain ⟨m, rfl, s1, e1, e2⟩ := h
    obtain ⟨k, hk, g1, g2⟩ := hkey i x hx
    refine ⟨_, rfl, _, rfl, d, _, rfl, g1 _ _ _ s1 e1, _, rfl, ?_⟩
    have tk : ks.take (i + 1) = ks.take i ++ [k] := by rw [List.take_add_one, hk] <;> rfl
    have li : i < xs.length := ltE hx
    have lt : (tbl (firsts (ks.take i))).length ≤ i := by
      rw [tbl_len]
      exact Nat.le_trans (firsts_le _) (List.length_take_le ..)
    rw [valV_tbl]
    by_cases hin : k ∈ firsts (ks.take i)
    · rw [if_pos hin]
      refine iteF ?_
      refine ⟨_, rfl, .inl ⟨rfl, _, .inl (.inl e2)⟩, _, rfl, _, rfl, d, _, rfl, by rw [← valV_some hin]; exact g1 _ _ _ s1 e1, l, _, _, rfl, rfl, e2, by rw [nV_ren_take hk]; omega, ?_⟩
      refine ⟨_, rfl, fun b o q => ?_, ?_, ?_⟩
      · rw [upd_ne (fun z => by rw [z, nl] at q; cases q)]
        exact s1 b o q
      · rw [upd_ne hdl, tk, firsts_old ((mem_firsts _ _).mp hin)]
        exact e1
      · rw [upd_same, tk, ren_snoc]
        simp [nV]
    · rw [if_neg hin]
      refine iteT ?_
      refine ⟨_, rfl, d, _, rfl, e1, _, rfl, _, rfl, d, _, rfl, g2 _ _ _ _ s1 e1 (by omega), ?_⟩
      have vn : valV (tbl (firsts (ks.take i))) k = none := by rw [valV_tbl, if_neg hin]
      rw [putK_new _ vn, tbl_len, ← tbl_snoc, ← firsts_new (fun z => hin ((mem_firsts _ _).mpr z)), ← tk]
      have e1' : upd H1 d (.dT (tbl (firsts (ks.take (i + 1))))) d = some (.dT (tbl (firsts (ks.take (i + 1))))) := upd_same ..
      have e2' : upd H1 d (.dT (tbl (firsts (ks.take (i + 1))))) l = some (.lst (nV (ren (ks.take i)))) := by rw [upd_ne (fun z => hdl z.symm)]; exact e2
      have s2 : Same H (upd H1 d (.dT (tbl (firsts (ks.take (i + 1)))))) := fun b o q => by
        rw [upd_ne (fun z => by rw [z, hd] at q; cases q)]
        exact s1 b o q
      have hin2 : k ∈ firsts (ks.take (i + 1)) := (mem_firsts _ _).mpr (by rw [tk]; exact List.mem_append_right _ (List.mem_singleton.mpr rfl))
      refine ⟨_, rfl, .inl ⟨rfl, _, .inl (.inl e2')⟩, _, rfl, _, rfl, d, _, rfl, by rw [← valV_some hin2]; exact g1 _ _ _ s2 e1', l, _, _, rfl, rfl, e2', by rw [nV_ren_take hk]; omega, ?_⟩
      refine ⟨_, rfl, fun b o q => ?_, ?_, ?_⟩
      · rw [upd_ne (fun z => by rw [z, nl] at q; cases q)]
        exact s2 b o q
      · rw [upd_ne hdl]
        exact e1'
      · rw [upd_same, tk, ren_snoc, ix_self]
        simp [nV]
  · intro σ H1 h
    obtain ⟨m, rfl, s1, e1, e2⟩ := h
    have full : ks.take xs.length = ks := by rw [← hlen]; exact List.take_length
    rw [full, hr2] at e2
    exact ⟨_, rfl, hQ H1 l s1 nl e2⟩

theorem ok__law_marks (T : Tx K mg) : Ok P w K mg base "_law_marks" 1 (spMarks K) := by
  refine ok_of T.a__law_marks sc_law_marks (fun vs H Q E h => ?_) bi__law_marks fun cdv A outer s H vs Q E hr h => ?_
  · obtain ⟨a, xs, r, rfl, _⟩ := h
    rfl
  obtain ⟨a, xs, r, rfl, hz, hq, h, hQ⟩ := h
  have hz2 : xs.length ≤ sizeLine := Nat.le_trans hz (by decide)
  rcases h with ⟨ns, rfl, rfl⟩ | ⟨ts, ps, rfl, rfl, hp⟩
  · exact mar_KL T hr hq hz2 (key_int H ns) (ren_map int_inl) hQ
  · exact mar_TL T hr hq hz2 (key_pair hp) (ren_map kp_inj) hQ
end
end K03
set_option Elab.async false
set_option linter.all false
set_option maxRecDepth 100000
set_option maxHeartbeats 4000000
namespace K03
open PySem PySem.Spec PyProof.Rows L2 Ms
section
variable {P : Program} {w : World} {K : PySem.W.Frag} {mg : Str → Option Value} {base : Heap}
theorem ok__law_groups (T : Tx K mg) : Ok P w K mg base "_law_groups" 1 (spGroups K) := by
  refine ok_of T.a__law_groups sc_law_groups (fun vs H Q E h => ?_) bi__law_groups fun cdv A outer s H vs Q E hr h => ?_
  · obtain ⟨a, r, rfl, _⟩ := h
    rfl
  obtain ⟨a, r, rfl, ha, hrow, hpos, hz, hQ⟩ := h
  have ha1 : ∀ H1 : Hp, Same H H1 → SqL K H1 a (nV r) := fun H1 q => Same.seq q ha
  refine ⟨_, (pss_cons (ps_setLc (i := 1) (own := [("k", 2)]) (g := gName 2) rfl sc_law_groups.nd rfl rfl (sw_true rfl rfl rfl (by decide +kernel)) (pi_range1 rfl T.f_range (pa_cons (pe_op op_add (pe_callB (maxK K (hc := rfl)) (by rfl) T.f_max (by decide +kernel) (pa_cons (pv 0) pa_nil)) pe_int) pa_nil)) (blkOk_by (N := ["row", "groups", "k", "group"]) (sc := defScope s_law_groups) (by decide +kernel)) (fun _ _ _ _ _ => (pg_name (i := 2) sc_law_groups.nd rfl (by first | exact Or.inl rfl | exact Or.inr rfl))) (fun _ _ _ _ _ => pts_nil) (fun _ _ _ _ _ => (pe_lst pa_nil)))
  (pss_cons (ps_for PassesOwn.never rfl (pi_range1 rfl T.f_range (pa_cons (pe_callB (lenK K) (by rfl) T.f_len boot_len (pa_cons (pv 0) pa_nil)) pa_nil)) (pg_name (i := 2) sc_law_groups.nd rfl (by first | exact Or.inl rfl | exact Or.inr rfl))
  (pss_cons (ps_set (i := 3) sc_law_groups.nd rfl (by first | exact Or.inl rfl | exact Or.inr rfl) (pe_ix (ixL K) (pv 1) (pe_ix (ixL K) (pv 0) (pv 2) (fun _ _ => rfl)) (fun _ _ => rfl)))
    (pss_one (ps_expr (pe_bm PySem.F.plainAttrs_list PySem.F.slot_list_append PySem.F.type_list_append mt_append (pv 3) (pa_cons (pv 2) pa_nil))))))
  (pss_one (ps_ret (pv 1))))), ?_⟩
  refine ⟨_, rfl, a, r.map fun n => ((n : Nat) : Int), rfl, by rw [← nV_int]; exact ha, by rw [List.length_map]; exact hpos, fun mx hmx hle => ?_⟩
  have cpos : 0 < cnt r := by
    have q : at0 r 0 < cnt r := (row_mem hrow).mp (List.mem_of_getElem? (of_at0 hpos))
    omega
  have ecnt : mx + 1 = (cnt r : Nat) := by
    obtain ⟨n, hn, rfl⟩ := List.mem_map.mp hmx
    have h1 := (row_mem hrow).mp hn
    have h2 := hle (((cnt r - 1 : Nat) : Nat) : Int) (List.mem_map.mpr ⟨_, (row_mem hrow).mpr (by omega), rfl⟩)
    omega
  have cle : cnt r ≤ r.length := firsts_le r
  refine ⟨_, _, rfl, rfl, _, rfl, by omega, by omega, fun D nD => ?_⟩
  have et : (mx + 1).toNat = cnt r := by omega
  rw [et]
  refine lc_it walk_range (fun i H1 => ∃ ls : List Addr, H1 D = some (.lst (ls.map V.ref)) ∧ ls.length = i ∧ ls.Nodup ∧ Same H H1 ∧ ∀ l ∈ ls, H1 l = some (.lst []) ∧ H l = none) ?_ (fun _ _ _ _ => trivial) ?_ ?_
  · exact ⟨[], upd_same .., rfl, List.nodup_nil, same_new nD, fun l hl => by cases hl⟩
  · rintro i x H1 H2 hi ⟨ls, h1, h2, h3, h4, h5⟩ ⟨rfl, hx⟩
    refine ⟨rfl, Nat.zero_le _, fun l nl => ?_⟩
    have lD : l ≠ D := fun z => by rw [z, h1] at nl; cases nl
    refine ⟨ls.map V.ref, by rw [upd_ne lD.symm]; exact h1, by rw [List.length_map, h2]; exact fewS (by omega), ls ++ [l], ?_, by rw [List.length_append, h2, List.length_singleton], ?_, fun b o q => ?_, fun l' hl' => ?_⟩
    · rw [upd_same, List.map_append, List.map_singleton]
    · exact List.nodup_append.mpr ⟨h3, List.nodup_cons.mpr ⟨List.not_mem_nil, List.nodup_nil⟩, fun x hx y hy e => by
        rw [List.mem_singleton.mp hy] at e
        rw [e] at hx
        have q := (h5 l hx).1
        rw [nl] at q
        cases q⟩
    · rw [upd_ne (fun z => by rw [z, nD] at q; cases q)]
      exact same_new nl _ _ (h4 _ _ q)
    · rcases List.mem_append.mp hl' with z | z
      · obtain ⟨q1, q2⟩ := h5 _ z
        refine ⟨?_, q2⟩
        rw [upd_ne (fun e => by rw [e, h1] at q1; cases ls with
          | nil => cases z
          | cons => cases q1)]
        exact same_new nl _ _ q1
      · rw [List.mem_singleton.mp z]
        exact ⟨by rw [upd_ne lD, upd_same], h4.free nl⟩
  · rintro H1 ⟨ls, h1, h2, h3, h4, h5⟩
    have la : ∀ m, m < cnt r → ls[m]? = some (ls.getD m 0) := fun m hm => by
      rw [List.getD_eq_getElem?_getD, getE (by rw [h2]; exact hm)] <;> rfl
    have inj : ∀ m m', m < cnt r → m' < cnt r → ls.getD m 0 = ls.getD m' 0 → m = m' := fun m m' hm hm' e => by
      have q1 := la m hm
      have q2 := la m' hm'
      rw [e] at q1
      exact (List.getElem?_inj (by rw [h2]; exact hm) h3).mp (q1.trans q2.symm)
    have lne : ∀ m, m < cnt r → ls.getD m 0 ≠ D := fun m hm e => by
      have q := (h5 _ (List.mem_of_getElem? (la m hm))).1
      rw [e, h1] at q
      cases ls with
      | nil => rw [← h2] at hm; exact absurd hm (Nat.not_lt_zero _)
      | cons => cases q
    refine ⟨_, rfl, a, _, rfl, .inl (ha1 _ h4), _, rfl, by omega, by rw [nV_len]; omega, ?_⟩
    have en : (((nV r).length : Nat) : Int).toNat = r.length := by rw [nV_len]; omega
    rw [en]
    refine for_it walk_range (fun i σ H2 => ∃ m2 m3, σ = [some (.ref a), some (.ref D), m2, m3] ∧ H2 D = some (.lst (ls.map V.ref)) ∧ Same H H2 ∧ ∀ m, m < cnt r → H2 (ls.getD m 0) = some (.lst (nV (places m (r.take i))))) ?_ (fun _ _ _ _ _ => trivial) ?_ ?_
    · exact ⟨none, none, rfl, h1, h4, fun m hm => (h5 _ (List.mem_of_getElem? (la m hm))).1⟩
    · rintro i x σ H2 H3 hi ⟨m2, m3, rfl, k1, k2, k3⟩ ⟨rfl, hx⟩
      have hx : x = .int (i : Nat) := hx.trans (congrArg V.int (Int.zero_add _))
      subst hx
      have hm : at0 r i < cnt r := (row_mem hrow).mp (List.mem_of_getElem? (of_at0 hi))
      have g := k3 _ hm
      refine ⟨_, rfl, _, rfl, _, rfl, a, _, _, _, rfl, rfl, ha1 _ k2, atI_nat (nV_at0 hi), D, _, _, _, rfl, rfl, .inl (.inl k1), atI_nat (v := .ref (ls.getD (at0 r i) 0)) (by rw [List.getElem?_map, la _ hm] <;> rfl), ?_⟩
      refine ⟨_, rfl, .inl ⟨rfl, _, .inl (.inl g)⟩, _, rfl, _, _, _, rfl, rfl, g, ?_, ?_⟩
      · rw [nV_len]
        have := places_len (at0 r i) (r.take i)
        rw [List.length_take] at this
        exact fewS (by omega)
      rw [nV_snoc]
      refine ⟨_, _, rfl, by rw [upd_ne (lne _ hm).symm]; exact k1, fun b o q => ?_, fun m hm' => ?_⟩
      · have q2 := (h5 _ (List.mem_of_getElem? (la _ hm))).2
        rw [upd_ne (fun z => by rw [z, q2] at q; cases q)]
        exact k2 _ _ q
      · have tk : r.take (i + 1) = r.take i ++ [at0 r i] := by rw [List.take_add_one, of_at0 hi] <;> rfl
        rw [tk, places_snoc]
        by_cases e : m = at0 r i
        · rw [if_pos e, e, upd_same, List.length_take]
          have : min i r.length = i := by omega
          rw [this]
        · rw [if_neg e, upd_ne fun z => e (inj _ _ hm' hm z)]
          exact k3 _ hm'
    · rintro σ H2 ⟨m2, m3, rfl, k1, k2, k3⟩
      refine ⟨_, rfl, hQ H2 D ls k2 nD k1 ?_⟩
      rw [row_cells hrow]
      refine pair_of (by rw [h2, List.length_map, List.length_range]) fun i x y e1 e2 => ?_
      have hi : i < cnt r := by rw [← h2]; exact ltE e1
      rw [List.getElem?_map, List.getElem?_range hi] at e2
      have e3 := k3 i hi
      rw [List.take_length] at e3
      rw [← Option.some.inj e2, ← Option.some.inj ((la i hi).symm.trans e1)]
      exact e3
theorem ok__law_numbers (T : Tx K mg) : Ok P w K mg base "_law_numbers" 2 (spNumbers K) := by
  have O__law_whole : Ok P w K mg base "_law_whole" 1 spWhole := ok__law_whole T
  refine ok_of T.a__law_numbers sc_law_numbers (fun vs H Q E h => ?_) bi__law_numbers fun cdv A outer s H vs Q E hr h => ?_
  · obtain ⟨t, l, xs, rfl, _⟩ := h
    rfl
  obtain ⟨t, l, xs, rfl, ht, hl, hz, hQ⟩ := h
  refine ⟨_, (pss_cons (ps_if (PW.pt (pw_or (pt_not (pt_val (pe_callB (isK K) (by rfl) T.f_isinstance (by decide +kernel) (pa_cons (pv 0) (pa_cons (pe_bltn (v := .ty "tuple") (by rfl) T.f_tuple (by decide +kernel) rfl) pa_nil))))) (pw_or1 (pt_cmpR op_ne (pe_callB (lenK K) (by rfl) T.f_len boot_len (pa_cons (pv 0) pa_nil)) (pe_callB (lenK K) (by rfl) T.f_len boot_len (pa_cons (pv 1) pa_nil)) (nomark _)))))
  (pss_one (ps_ret pe_bl))
  pss_nil)
  (pss_cons (ps_for PassesOwn.never rfl (pi_range1 rfl T.f_range (pa_cons (pe_callB (lenK K) (by rfl) T.f_len boot_len (pa_cons (pv 1) pa_nil)) pa_nil)) (pg_name (i := 2) sc_law_numbers.nd rfl (by first | exact Or.inl rfl | exact Or.inr rfl))
  (pss_one (ps_if (PW.pt (pw_or (pt_not (pt_val (pe_c (E := EN) O__law_whole hr (by decide) (fun σ => passN σ) (pa_cons (pe_ix (ixT K) (pv 0) (pv 2) (fun _ _ => rfl)) pa_nil)))) (pw_or1 (pt_cmpR op_ne (pe_ix (ixT K) (pv 0) (pv 2) (fun _ _ => rfl)) (pe_ix (ixL K) (pv 1) (pv 2) (fun _ _ => rfl)) (nomark _)))))
    (pss_one (ps_ret pe_bl))
    pss_nil)))
  (pss_one (ps_ret pe_bl)))), ?_⟩
  refine ⟨_, rfl, .ref t, .ty "tuple", _, _, true, rfl, .ty _, .of (.base (.tup ht)), T.is_tuple_tuple, true, rfl, ?_⟩
  refine iteF ?_
  refine ⟨_, rfl, t, _, rfl, .inr (.inl (.inl ht)), _, rfl, l, _, rfl, .inl hl, rfl, _, rfl, ?_⟩
  have ne : (!decide (V.int ((nV xs).length : Nat) = V.int ((nV xs).length : Nat))) = false := by simp
  rw [ne]
  refine iteF ?_
  refine ⟨_, rfl, l, _, rfl, .inl hl, _, rfl, by omega, by rw [nV_len]; omega, ?_⟩
  have en : (((nV xs).length : Nat) : Int).toNat = xs.length := by rw [nV_len]; omega
  rw [en]
  refine for_it walk_range (fun i σ H2 => ∃ m, σ = [some (.ref t), some (.ref l), m] ∧ H2 = H) ?_ (fun _ _ _ _ _ => trivial) ?_ ?_
  · exact ⟨none, rfl, rfl⟩
  · rintro i x σ H2 H3 hi ⟨m, rfl, rfl⟩ ⟨rfl, hx⟩
    have hx : x = .int (i : Nat) := hx.trans (congrArg V.int (Int.zero_add _))
    subst hx
    refine ⟨_, rfl, _, rfl, t, _, _, _, rfl, rfl, .inl (.inl ht), atI_nat (nV_at0 hi), _, rfl, true, rfl, ?_⟩
    refine iteF ?_
    refine ⟨_, rfl, _, rfl, t, _, _, _, rfl, rfl, .inl (.inl ht), atI_nat (nV_at0 hi), _, rfl, _, rfl, l, _, _, _, rfl, rfl, hl, atI_nat (nV_at0 hi), rfl, _, rfl, ?_⟩
    have ne : (!decide (V.int (at0 xs i : Nat) = V.int (at0 xs i : Nat))) = false := by simp
    rw [ne]
    exact iteF ⟨_, rfl, rfl⟩
  · rintro σ H2 ⟨m, rfl, rfl⟩
    exact hQ
end
end K03
set_option Elab.async false
set_option linter.all false
set_option maxRecDepth 100000
set_option maxHeartbeats 4000000
namespace K03
open PySem PySem.Spec PyProof.Rows L2 Ms
theorem spNumbers_in {K : PySem.W.Frag} {H : Hp} {Q : VK} {E : XK} {t l : Addr} {xs : List Nat} (ht : H t = some (.tup (nV xs))) (hl : SqL K H l (nV xs)) (hz : xs.length ≤ 16777216) (hQ : Q (.bl true) H) : spNumbers K [.ref t, .ref l] H Q E := ⟨t, l, xs, rfl, ht, hl, hz, hQ⟩
theorem SightAt.ins {K : PySem.W.Frag} {H : Hp} {p : Addr} {r : List Nat} (h : SightAt K H p r) : ∃ dx fs, H p = some (.ins (CS K) dx fs) := let ⟨dx, _, _, e, _⟩ := h.ex; ⟨dx, _, e⟩
theorem pget {α β : Type} {F : α → β → Prop} {xs : List α} {ys : List β} (h : Paired F xs ys) {i : Nat} {y : β} (e : ys[i]? = some y) : ∃ x, xs[i]? = some x ∧ F x y := by
  have l := Paired.length h
  have hi : i < xs.length := by rw [l]; exact ltE e
  obtain ⟨z, e2, f⟩ := LiI.paired_get h (getE hi)
  rw [e] at e2
  cases e2
  exact ⟨_, getE hi, f⟩
section
variable {P : Program} {w : World} {K : PySem.W.Frag} {mg : Str → Option Value} {base : Heap}
theorem ok__law_agrees (T : Tx K mg) : Ok P w K mg base "_law_agrees" 3 (spAgrees K) := by
  have O__law_whole : Ok P w K mg base "_law_whole" 1 spWhole := ok__law_whole T
  have O__law_groups : Ok P w K mg base "_law_groups" 1 (spGroups K) := ok__law_groups T
  have O__law_numbers : Ok P w K mg base "_law_numbers" 2 (spNumbers K) := ok__law_numbers T
  obtain ⟨fdP, psP, FP, bP⟩ := fn_cells (P := P) (w := w) (base := base) T
  refine ok_of T.a__law_agrees sc_law_agrees (fun vs H Q E h => ?_) bi__law_agrees fun cdv A outer s H vs Q E hr h => ?_
  · obtain ⟨p, l, r, rfl, _⟩ := h
    rfl
  obtain ⟨p, l, r, rfl, hp, hl, hQ⟩ := h
  refine ⟨_, (pss_cons (ps_if (PW.pt (pw_or (pt_not (pt_val (pe_callB (isK K) (by rfl) T.f_isinstance (by decide +kernel) (pa_cons (pv 0) (pa_cons (pe_glob (v := .ref (He.ga K "Sight")) rfl T.g_Sight rfl) pa_nil))))) (pw_or (pt_not (pt_val (pe_c (E := EN) O__law_whole hr (by decide) (fun σ => passN σ) (pa_cons (pe_fld (pv 0) rfl) pa_nil)))) (pw_or1 (pt_cmpR op_ne (pe_fld (pv 0) rfl) (pe_callB (lenK K) (by rfl) T.f_len boot_len (pa_cons (pv 1) pa_nil)) (nomark _))))))
  (pss_one (ps_ret pe_bl))
  pss_nil)
  (pss_cons (ps_set (i := 2) sc_law_agrees.nd rfl (by first | exact Or.inl rfl | exact Or.inr rfl) (pe_c (E := EN) O__law_groups hr (by decide) (fun σ => passN σ) (pa_cons (pv 1) pa_nil)))
  (pss_cons (ps_set (i := 3) sc_law_agrees.nd rfl (by first | exact Or.inl rfl | exact Or.inr rfl) (pe_prop (pv 0) T.c_Sight T.p_cells FP (hr.mono (by decide)) bP .nil passF (by rfl)))
  (pss_cons (ps_if (PW.pt (pw_or (pt_not (pt_val (pe_c (E := EN) O__law_numbers hr (by decide) (fun σ => passN σ) (pa_cons (pe_fld (pv 0) rfl) (pa_cons (pv 1) pa_nil))))) (pw_or (pt_not (pt_val (pe_callB (isK K) (by rfl) T.f_isinstance (by decide +kernel) (pa_cons (pv 3) (pa_cons (pe_bltn (v := .ty "tuple") (by rfl) T.f_tuple (by decide +kernel) rfl) pa_nil))))) (pw_or1 (pt_cmpR op_ne (pe_callB (lenK K) (by rfl) T.f_len boot_len (pa_cons (pv 3) pa_nil)) (pe_callB (lenK K) (by rfl) T.f_len boot_len (pa_cons (pv 2) pa_nil)) (nomark _))))))
  (pss_one (ps_ret pe_bl))
  pss_nil)
  (pss_cons (ps_for PassesOwn.never rfl (pi_range1 rfl T.f_range (pa_cons (pe_callB (lenK K) (by rfl) T.f_len boot_len (pa_cons (pv 2) pa_nil)) pa_nil)) (pg_name (i := 4) sc_law_agrees.nd rfl (by first | exact Or.inl rfl | exact Or.inr rfl))
  (pss_one (ps_if (pt_not (pt_val (pe_c (E := EN) O__law_numbers hr (by decide) (fun σ => passN σ) (pa_cons (pe_ix (ixT K) (pv 3) (pv 4) (fun _ _ => rfl)) (pa_cons (pe_ix (ixL K) (pv 2) (pv 4) (fun _ _ => rfl)) pa_nil)))))
    (pss_one (ps_ret pe_bl))
    pss_nil)))
  (pss_one (ps_ret pe_bl))))))), ?_⟩
  obtain ⟨dx, t, c, e1, e2, e3⟩ := hp.ex
  refine ⟨_, rfl, .ref p, .ref (CS K), _, _, true, rfl, .own _, .of (.base (.ins e1 T.c_Sight T.cl_Sight.ca T.cl_Sight.cg T.cl_Sight.ct T.cl_Sight.ob)), T.is_Sight_Sight, true, rfl, ?_⟩
  refine iteF ?_
  refine ⟨_, rfl, p, _, dx, _, _, rfl, e1, T.c_Sight, T.n_size, rfl, _, rfl, true, rfl, ?_⟩
  refine iteF ?_
  refine ⟨_, rfl, p, _, dx, _, _, rfl, e1, T.c_Sight, T.n_size, rfl, _, rfl, l, _, rfl, .inl hl, rfl, _, rfl, ?_⟩
  have ne : (!decide (V.int (r.length : Nat) = V.int ((nV r).length : Nat))) = false := by rw [nV_len]; simp
  rw [ne]
  refine iteF ?_
  refine ⟨_, rfl, l, r, rfl, hl, hp.row, hp.pos, hp.few, fun H1 g ls s1 ng hg hls => ?_⟩
  obtain ⟨ts, c1, c2⟩ := e3.same s1
  refine ⟨_, rfl, p, dx, _, rfl, s1 _ _ e1, p, r, rfl, hp.same s1, fun c' hc' => ?_⟩
  obtain ⟨ts, c1, c2⟩ := hc'
  refine ⟨_, rfl, p, _, dx, _, _, rfl, s1 _ _ e1, T.c_Sight, T.n_marks, rfl, _, rfl, ?_⟩
  refine ⟨t, l, r, rfl, s1 _ _ e2, Same.seq s1 hl, hp.few, true, rfl, ?_⟩
  refine iteF ?_
  refine ⟨_, rfl, .ref c', .ty "tuple", _, _, true, rfl, .ty _, .of (.base (.tup c1)), T.is_tuple_tuple, true, rfl, ?_⟩
  refine iteF ?_
  have lt : ts.length = ls.length := by rw [Paired.length c2, Paired.length hls]
  refine ⟨_, rfl, c', _, rfl, .inr (.inl (.inl c1)), _, rfl, g, _, rfl, .inl (.inl (.inl hg)), rfl, _, rfl, ?_⟩
  have ne : (!decide (V.int ((ts.map V.ref).length : Nat) = V.int ((ls.map V.ref).length : Nat))) = false := by rw [List.length_map, List.length_map, lt]; simp
  rw [ne]
  refine iteF ?_
  have lsl : ls.length ≤ 16777216 := by
    rw [Paired.length hls, row_cells hp.row, List.length_map, List.length_range]
    exact Nat.le_trans (firsts_le r) hp.few
  refine ⟨_, rfl, g, _, rfl, .inl (.inl (.inl hg)), _, rfl, by omega, by rw [List.length_map]; omega, ?_⟩
  have en : (((ls.map V.ref).length : Nat) : Int).toNat = ls.length := by rw [List.length_map]; omega
  rw [en]
  refine for_it walk_range (fun i σ H2 => ∃ m, σ = [some (.ref p), some (.ref l), some (.ref g), some (.ref c'), m] ∧ H2 = H1) ?_ (fun _ _ _ _ _ => trivial) ?_ ?_
  · exact ⟨none, rfl, rfl⟩
  · rintro i x σ H2 H3 hi ⟨m, rfl, rfl⟩ ⟨rfl, hx⟩
    have hx : x = .int (i : Nat) := hx.trans (congrArg V.int (Int.zero_add _))
    subst hx
    have hic : i < (cellsOf r).length := by rw [← Paired.length hls]; exact hi
    obtain ⟨a1, b1, d1⟩ := pget c2 (getE hic)
    obtain ⟨a2, b2, d2⟩ := pget hls (getE hic)
    have few : ((cellsOf r)[i]).length ≤ 16777216 := by
      have q : (cellsOf r)[i] ∈ cellsOf r := List.getElem_mem hic
      generalize (cellsOf r)[i] = cc at q
      unfold cellsOf at q
      obtain ⟨m, _, e⟩ := List.mem_map.mp q
      rw [← e]
      exact Nat.le_trans (places_len m r) hp.few
    refine ⟨_, rfl, _, rfl, c', _, _, .ref a1, rfl, rfl, .inl (.inl c1), atI_nat (by rw [List.getElem?_map, b1] <;> rfl), _, rfl, _, rfl, g, _, _, .ref a2, rfl, rfl, .inl (.inl hg), atI_nat (by rw [List.getElem?_map, b2] <;> rfl), a1, a2, _, rfl, d1, .inl (.inl d2), few, true, rfl, ?_⟩
    exact iteF ⟨_, rfl, rfl⟩
  · rintro σ H2 ⟨m, rfl, rfl⟩
    exact hQ _ s1
end
end K03
set_option Elab.async false
set_option linter.all false
set_option maxRecDepth 100000
namespace K03
open PySem PySem.Spec PyProof.Rows L2 Ms
theorem same2 {H H1 H2 : Hp} (a : Same H H1) (b : Same H1 H2) : Same H H2 := fun c o q => b _ _ (a _ _ q)
theorem same_put {H H1 : Hp} {p : Addr} {o : HO} (h : H p = none) (s : Same H H1) : Same H (upd H1 p o) := fun b q e => by
  rw [upd_ne (ne_of_none e h)]
  exact s b q e
theorem pget2 {α β : Type} {F : α → β → Prop} {xs : List α} {ys : List β} (h : Paired F xs ys) {i : Nat} (hi : i < xs.length) : ∃ x y, xs[i]? = some x ∧ ys[i]? = some y ∧ F x y := by
  obtain ⟨y, e, f⟩ := LiI.paired_get h (getE hi)
  exact ⟨_, _, getE hi, e, f⟩
theorem SqB.same {K : PySem.W.Frag} {H H' : Hp} {b : Bool} {a : Addr} {xs : List V} (e : Same H H') (h : SqB K b H a xs) : SqB K b H' a xs := by
  cases b
  · exact Same.sqT e h
  · exact Same.seq e h
end K03
set_option Elab.async false
set_option linter.all false
set_option maxRecDepth 100000
set_option maxHeartbeats 4000000
/-! Ms: data of one form, compared. -/
namespace Ms
open PySem PySem.Spec PyProof.Rows L2
structure Enc (α : Type) [DecidableEq α] where
  d : α → PyData
  k : Nat
  ok : α → Prop
  lay : ∀ a, ok a → PyData.canLay0 (d a) = true
  dep : ∀ a, PyData.depth (d a) ≤ k
  eqv : ∀ a b, PyData.eqv (d a) (d b) = decide (a = b)
namespace Enc
variable {α β γ : Type} [DecidableEq α] [DecidableEq β] [DecidableEq γ]
def int : Enc Int := ⟨.int, 0, fun _ => True, fun _ _ => by simp [PyData.canLay0], fun _ => by simp [PyData.depth], fun a b => by
  simp only [PyData.eqv]
  by_cases h : a = b
  · subst h; simp
  · simp [h]⟩
def str : Enc Str := ⟨.str, 0, fun z => PyData.strOk z = true, fun _ h => by simp [PyData.canLay0, h], fun _ => by simp [PyData.depth], fun a b => by
  simp only [PyData.eqv]
  by_cases h : a = b
  · subst h; simp
  · simp [h]⟩
theorem layAll (e : Enc α) : ∀ l : List α, (∀ x ∈ l, e.ok x) → PyData.canLayAll0 (l.map e.d) = true
  | [], _ => by simp [PyData.canLayAll0]
  | x :: l, h => by
    have ih := layAll e l fun y hy => h y (List.mem_cons_of_mem _ hy)
    simp only [List.map_cons, PyData.canLayAll0, e.lay x (h x List.mem_cons_self), ih, Bool.and_self]
theorem depAll (e : Enc α) : ∀ l : List α, PyData.depthAll (l.map e.d) ≤ e.k
  | [] => by simp [PyData.depthAll]
  | x :: l => by
    have ih := depAll e l
    have h := e.dep x
    simp only [List.map_cons, PyData.depthAll]
    omega
theorem eqvAll (e : Enc α) : ∀ l m : List α, PyData.eqvAll (l.map e.d) (m.map e.d) = decide (l = m)
  | [], [] => by simp [PyData.eqvAll]
  | [], _ :: _ => by simp [PyData.eqvAll]
  | _ :: _, [] => by simp [PyData.eqvAll]
  | x :: l, y :: m => by
    have ih := eqvAll e l m
    simp only [List.map_cons, PyData.eqvAll, e.eqv, ih]
    by_cases h : x = y
    · subst h; simp
    · simp [h]
def list (e : Enc α) : Enc (List α) := ⟨fun l => .list (l.map e.d), e.k + 1, fun l => ∀ x ∈ l, e.ok x, fun l h => by simp only [PyData.canLay0, layAll e l h], fun l => by
  have := depAll e l
  simp only [PyData.depth]
  omega, fun l m => by simp only [PyData.eqv, eqvAll]⟩
def tup (e : Enc α) : Enc (List α) := ⟨fun l => .tuple (l.map e.d), e.k + 1, fun l => ∀ x ∈ l, e.ok x, fun l h => by simp only [PyData.canLay0, layAll e l h], fun l => by
  have := depAll e l
  simp only [PyData.depth]
  omega, fun l m => by simp only [PyData.eqv, eqvAll]⟩
theorem eqv2 (e : Enc α) (f : Enc β) (p q : α × β) : PyData.eqvAll [e.d p.1, f.d p.2] [e.d q.1, f.d q.2] = decide (p = q) := by
  obtain ⟨a, b⟩ := p
  obtain ⟨c, d⟩ := q
  simp only [PyData.eqvAll, e.eqv, f.eqv, Bool.and_true]
  by_cases h : a = c <;> by_cases g : b = d <;> simp [h, g]
theorem eqv3 (e : Enc α) (f : Enc β) (g : Enc γ) (p q : α × β × γ) : PyData.eqvAll [e.d p.1, f.d p.2.1, g.d p.2.2] [e.d q.1, f.d q.2.1, g.d q.2.2] = decide (p = q) := by
  obtain ⟨a, b, c⟩ := p
  obtain ⟨a', b', c'⟩ := q
  simp only [PyData.eqvAll, e.eqv, f.eqv, g.eqv, Bool.and_true]
  by_cases h : a = a' <;> by_cases g : b = b' <;> by_cases i : c = c' <;> simp [h, g, i]
def tup2 (e : Enc α) (f : Enc β) : Enc (α × β) := ⟨fun p => .tuple [e.d p.1, f.d p.2], e.k + f.k + 1, fun p => e.ok p.1 ∧ f.ok p.2, fun p h => by simp only [PyData.canLay0, PyData.canLayAll0, e.lay _ h.1, f.lay _ h.2, Bool.and_self], fun p => by
  have := e.dep p.1
  have := f.dep p.2
  simp only [PyData.depth, PyData.depthAll]
  omega, fun p q => by simp only [PyData.eqv, eqv2]⟩
def list2 (e : Enc α) (f : Enc β) : Enc (α × β) := ⟨fun p => .list [e.d p.1, f.d p.2], e.k + f.k + 1, fun p => e.ok p.1 ∧ f.ok p.2, fun p h => by simp only [PyData.canLay0, PyData.canLayAll0, e.lay _ h.1, f.lay _ h.2, Bool.and_self], fun p => by
  have := e.dep p.1
  have := f.dep p.2
  simp only [PyData.depth, PyData.depthAll]
  omega, fun p q => by simp only [PyData.eqv, eqv2]⟩
def tup3 (e : Enc α) (f : Enc β) (g : Enc γ) : Enc (α × β × γ) := ⟨fun p => .tuple [e.d p.1, f.d p.2.1, g.d p.2.2], e.k + f.k + g.k + 1, fun p => e.ok p.1 ∧ f.ok p.2.1 ∧ g.ok p.2.2, fun p h => by simp only [PyData.canLay0, PyData.canLayAll0, e.lay _ h.1, f.lay _ h.2.1, g.lay _ h.2.2, Bool.and_self], fun p => by
  have := e.dep p.1
  have := f.dep p.2.1
  have := g.dep p.2.2
  simp only [PyData.depth, PyData.depthAll]
  omega, fun p q => by simp only [PyData.eqv, eqv3]⟩
def list3 (e : Enc α) (f : Enc β) (g : Enc γ) : Enc (α × β × γ) := ⟨fun p => .list [e.d p.1, f.d p.2.1, g.d p.2.2], e.k + f.k + g.k + 1, fun p => e.ok p.1 ∧ f.ok p.2.1 ∧ g.ok p.2.2, fun p h => by simp only [PyData.canLay0, PyData.canLayAll0, e.lay _ h.1, f.lay _ h.2.1, g.lay _ h.2.2, Bool.and_self], fun p => by
  have := e.dep p.1
  have := f.dep p.2.1
  have := g.dep p.2.2
  simp only [PyData.depth, PyData.depthAll]
  omega, fun p q => by simp only [PyData.eqv, eqv3]⟩
theorem shaped (e : Enc α) (h : e.k ≤ 60) (a : α) (o : e.ok a) : SeqAt.shaped (e.d a) = true := by
  have := e.dep a
  unfold SeqAt.shaped
  rw [e.lay a o, Bool.true_and]
  exact decide_eq_true (by omega)
end Enc
abbrev KT : Type := List Int × List (Str × List Int) × List (Str × List Int × List Int)
instance decKP : DecidableEq (List (Str × List Int × List Int)) := inferInstance
instance decKT : DecidableEq KT := @instDecidableEqProd _ _ inferInstance (@instDecidableEqProd _ _ inferInstance decKP)
def keyE : Enc KT := .tup3 (.tup .int) (.tup (.tup2 .str (.tup .int))) (.tup (.tup3 .str (.tup .int) (.tup .int)))
def rowE : Enc KT := .list3 (.list .int) (.list (.list2 .str (.list .int))) (.list (.list3 .str (.list .int) (.list .int)))
structure KOk (a : KT) : Prop where
  f : ∀ x ∈ a.2.1, PyData.strOk x.1 = true
  p : ∀ x ∈ a.2.2, PyData.strOk x.1 = true
theorem keyE_sh (a : KT) (o : KOk a) : SeqAt.shaped (keyE.d a) = true := keyE.shaped (by decide) a ⟨fun _ _ => trivial, fun x hx => ⟨o.f x hx, fun _ _ => trivial⟩, fun x hx => ⟨o.p x hx, fun _ _ => trivial, fun _ _ => trivial⟩⟩
theorem rowE_sh (a : KT) (o : KOk a) : SeqAt.shaped (rowE.d a) = true := rowE.shaped (by decide) a ⟨fun _ _ => trivial, fun x hx => ⟨o.f x hx, fun _ _ => trivial⟩, fun x hx => ⟨o.p x hx, fun _ _ => trivial, fun _ _ => trivial⟩⟩
section
variable {K : PySem.W.Frag} {H : Hp}
theorem dpAllP {α : Type} {F : V → α → Prop} {d : α → PyData} {vs : List V} {xs : List α} (h : Paired F vs xs) (f : ∀ v x, F v x → Dp K H v (d x)) : DpAll K H vs (xs.map d) := by
  induction h with
  | nil => exact .nil
  | cons e _ ih => exact .cons (f _ _ e) ih
end
end Ms
set_option Elab.async false
set_option linter.all false
set_option maxRecDepth 100000
set_option maxHeartbeats 4000000
/-! Ms: found in a list, and where. -/
namespace Ms
open PySem PySem.Spec PyProof.Rows L2
section
variable {X : Cx} (K : PySem.W.Frag) (e : X.K = K := by rfl)
include e
theorem indexK : MtR X "list.index" (rIndex K) := by subst e; exact mt_index
end
theorem eqV_int {a b : Int} : eqV (.int a) (.int b) = decide (a = b) := by
  unfold eqV
  by_cases h : a = b
  · subst h; simp
  · simp [h]
theorem eqV_str {a b : Str} : eqV (.str a) (.str b) = decide (a = b) := by
  unfold eqV
  by_cases h : a = b
  · subst h; simp
  · simp [h]
theorem inV_int {n : Int} {l : List Int} : inV (.int n) (l.map V.int) = decide (n ∈ l) := by
  unfold inV
  rw [Bool.eq_iff_iff, List.any_eq_true, decide_eq_true_eq]
  constructor
  · rintro ⟨y, hy, e⟩
    obtain ⟨m, hm, rfl⟩ := List.mem_map.mp hy
    rw [eqV_int, decide_eq_true_eq] at e
    exact e ▸ hm
  · intro h
    exact ⟨_, List.mem_map.mpr ⟨n, h, rfl⟩, by rw [eqV_int, decide_eq_true_eq]⟩
theorem inV_str {n : Str} {l : List Str} : inV (.str n) (l.map V.str) = decide (n ∈ l) := by
  unfold inV
  rw [Bool.eq_iff_iff, List.any_eq_true, decide_eq_true_eq]
  constructor
  · rintro ⟨y, hy, e⟩
    obtain ⟨m, hm, rfl⟩ := List.mem_map.mp hy
    rw [eqV_str, decide_eq_true_eq] at e
    exact e ▸ hm
  · intro h
    exact ⟨_, List.mem_map.mpr ⟨n, h, rfl⟩, by rw [eqV_str, decide_eq_true_eq]⟩
theorem flat_ints (l : List Int) : (l.map V.int).all flatV = true := by
  rw [List.all_eq_true]
  intro x hx
  obtain ⟨m, _, rfl⟩ := List.mem_map.mp hx
  rfl
theorem flat_strs (l : List Str) : (l.map V.str).all flatV = true := by
  rw [List.all_eq_true]
  intro x hx
  obtain ⟨m, _, rfl⟩ := List.mem_map.mp hx
  rfl
/-- l.index(n) of ints -/
theorem index_ints {K : PySem.W.Frag} {H : Hp} {Q : VK} {a : Addr} {l : List Int} {n : Int} (hs : SqL K H a (l.map V.int)) (hn : n ∈ l) (q : Q (.int (l.idxOf n : Nat)) H) : rIndex K (.ref a) [.int n] H Q := by
  have hl : l.idxOf n < l.length := List.idxOf_lt_length_of_mem hn
  refine ⟨a, l.map V.int, .int n, l.idxOf n, .int n, rfl, rfl, hs, rfl, flat_ints l, ?_, by rw [eqV_int, decide_eq_true_eq], fun m z' hm hz => ?_, q⟩
  · rw [List.getElem?_map, getE hl, List.getElem_idxOf hl] <;> rfl
  · rw [List.getElem?_map] at hz
    have lm : m < l.length := Nat.lt_trans hm hl
    rw [getE lm] at hz
    cases hz
    rw [eqV_int, decide_eq_false_iff_not]
    intro e
    have := List.not_of_lt_findIdx (p := (· == n)) (xs := l) (i := m) hm
    simp at this
    exact this e
end Ms
set_option Elab.async false
set_option linter.all false
set_option maxRecDepth 100000
set_option maxHeartbeats 4000000
/-! Ms: what stands for good (G) in the heap H, shapes of values, rules with rests. -/
namespace K03
open PySem PySem.Spec PyProof.Rows L2 Ms
theorem same_rfl {H : Hp} : Same H H := fun _ _ e => e
/-- from (G, H) to (G', H'): what stands for good grows by new things only -/
def Grow (G H G' H' : Hp) : Prop := Same H H' ∧ Same G G' ∧ Same G' H' ∧ ∀ b, G' b ≠ none → G b ≠ none ∨ H b = none
theorem Grow.rfl {G H : Hp} (s : Same G H) : Grow G H G H := ⟨same_rfl, same_rfl, s, fun _ h => .inl h⟩
theorem Grow.trans {G H G1 H1 G2 H2 : Hp} (a : Grow G H G1 H1) (b : Grow G1 H1 G2 H2) : Grow G H G2 H2 :=
  ⟨same2 a.1 b.1, same2 a.2.1 b.2.1, b.2.2.1, fun x h => (b.2.2.2 x h).elim (a.2.2.2 x) fun n => .inr (a.1.free n)⟩
/-- the state: what stands for good, the heap, the lists that still grow -/
structure Cur (G0 H0 : Hp) (Ds : List Addr) (G H : Hp) : Prop where
  gr : Grow G0 H0 G H
  ds : ∀ d ∈ Ds, G d = none ∧ H d ≠ none ∧ H0 d = none
section
variable {G0 H0 G H G' H' : Hp} {Ds : List Addr} {p D : Addr} {o : HO}
theorem Cur.init (s : Same G H) : Cur G H [] G H := ⟨.rfl s, fun _ h => absurd h List.not_mem_nil⟩
theorem Cur.le (c : Cur G0 H0 Ds G H) : Same G H := c.gr.2.2.1
theorem Cur.go (c : Cur G0 H0 Ds G H) (g : Grow G H G' H') : Cur G0 H0 Ds G' H' := by
  refine ⟨c.gr.trans g, fun d hd => ?_⟩
  obtain ⟨a, b, e⟩ := c.ds d hd
  refine ⟨?_, fun z => b ?_, e⟩
  · cases q : G' d with
    | none => rfl
    | some u => exact ((g.2.2.2 d (by rw [q]; exact fun z => nomatch z)).elim (fun h => absurd a h) fun h => absurd h b)
  · exact g.1.free z
theorem Grow.new (s : Same G H) (n : H p = none) : Grow G H (upd G p o) (upd H p o) := by
  refine ⟨same_new n, same_new (s.free n), fun b u e => ?_, fun b h => ?_⟩
  · by_cases z : b = p
    · subst z; rw [upd_same] at e ⊢; exact e
    · rw [upd_ne z] at e ⊢; exact s b u e
  · by_cases z : b = p
    · subst z; exact .inr n
    · rw [upd_ne z] at h; exact .inl h
theorem Cur.acc (c : Cur G0 H0 Ds G H) (n : H D = none) : Cur G0 H0 (D :: Ds) G (upd H D o) := by
  have s := same_new (o := o) n
  refine ⟨⟨same2 c.gr.1 s, c.gr.2.1, same2 c.le s, c.gr.2.2.2⟩, fun d hd => ?_⟩
  rcases List.mem_cons.mp hd with e | hd
  · subst e; exact ⟨c.le.free n, by rw [upd_same]; exact fun z => (nomatch z), c.gr.1.free n⟩
  · obtain ⟨a, b, e⟩ := c.ds d hd
    refine ⟨a, fun z => b (s.free z), e⟩
theorem Cur.put (c : Cur G0 H0 Ds G H) (m : D ∈ Ds) : Cur G0 H0 Ds G (upd H D o) := by
  obtain ⟨a, b, e⟩ := c.ds D m
  refine ⟨⟨same_put e c.gr.1, c.gr.2.1, fun x u h => ?_, c.gr.2.2.2⟩, fun d hd => ?_⟩
  · rw [upd_ne (fun z => by rw [z, a] at h; cases h)]; exact c.le x u h
  · obtain ⟨a', b', e'⟩ := c.ds d hd
    refine ⟨a', fun z => ?_, e'⟩
    by_cases q : d = D
    · subst q; rw [upd_same] at z; cases z
    · rw [upd_ne q] at z; exact b' z
/-- a list that grew stands for good -/
theorem Cur.fin (c : Cur G0 H0 (D :: Ds) G H) (nd : ¬ D ∈ Ds) (h : H D = some o) : Cur G0 H0 Ds (upd G D o) H ∧ Same G (upd G D o) := by
  obtain ⟨a, b, e⟩ := c.ds D List.mem_cons_self
  have s : Same G (upd G D o) := same_new a
  refine ⟨⟨⟨c.gr.1, same2 c.gr.2.1 s, fun x u q => ?_, fun x q => ?_⟩, fun d hd => ?_⟩, s⟩
  · by_cases z : x = D
    · subst z; rw [upd_same] at q; rw [← q]; exact h
    · rw [upd_ne z] at q; exact c.le x u q
  · by_cases z : x = D
    · subst z; exact .inr e
    · rw [upd_ne z] at q; exact c.gr.2.2.2 x q
  · obtain ⟨a', b', e'⟩ := c.ds d (List.mem_cons_of_mem _ hd)
    have z : d ≠ D := fun z => nd (z ▸ hd)
    exact ⟨by rw [upd_ne z]; exact a', b', e'⟩
end
def TL (H : Hp) (a : Addr) (xs : List V) : Prop := H a = some (.tup xs)
def RL (H : Hp) (a : Addr) (xs : List V) : Prop := H a = some (.lst xs)
/-! ### shapes -/
abbrev Shp : Type := V → Hp → Prop
class Mon (E : Shp) : Prop where
  mono : ∀ {v : V} {G G' : Hp}, Same G G' → E v G → E v G'
def Ib (lo hi : Int) : Shp := fun v _ => ∃ z, v = .int z ∧ lo ≤ z ∧ z < hi
def Iz : Shp := fun v _ => ∃ z, v = .int z
def Sp_ (P : Str → Prop) : Shp := fun v _ => ∃ s, v = .str s ∧ P s
def Bz : Shp := fun v _ => ∃ b, v = .bl b
def Ls (n : Nat) (E : Shp) : Shp := fun v G => ∃ p ys, v = .ref p ∧ G p = some (.lst ys) ∧ ys.length = n ∧ ∀ y ∈ ys, E y G
def Lm (m : Nat) (E : Shp) : Shp := fun v G => ∃ n, n ≤ m ∧ Ls n E v G
/-- the items one by one -/
def All2 (G : Hp) : List Shp → List V → Prop
  | [], [] => True
  | E :: Es, y :: ys => E y G ∧ All2 G Es ys
  | _, _ => False
def Rw (Es : List Shp) : Shp := fun v G => ∃ p ys, v = .ref p ∧ G p = some (.lst ys) ∧ All2 G Es ys
def Tw (Es : List Shp) : Shp := fun v G => ∃ p ys, v = .ref p ∧ G p = some (.tup ys) ∧ All2 G Es ys
/-- digits below the sizes -/
def Dg (SS : List Nat) : Shp := fun v G => ∃ p ds, v = .ref p ∧ G p = some (.lst (nV ds)) ∧ ds.length = SS.length ∧ ∀ i, i < SS.length → at0 ds i < at0 SS i
instance {lo hi : Int} : Mon (Ib lo hi) := ⟨fun _ h => h⟩
instance : Mon Iz := ⟨fun _ h => h⟩
instance : Mon Bz := ⟨fun _ h => h⟩
instance {P : Str → Prop} : Mon (Sp_ P) := ⟨fun _ h => h⟩
instance {n : Nat} {E : Shp} [Mon E] : Mon (Ls n E) := ⟨fun s ⟨p, ys, e, h1, h2, h3⟩ => ⟨p, ys, e, s _ _ h1, h2, fun y hy => Mon.mono s (h3 y hy)⟩⟩
instance {n : Nat} {E : Shp} [Mon E] : Mon (Lm n E) := ⟨fun s ⟨n, h, g⟩ => ⟨n, h, Mon.mono s g⟩⟩
instance {SS : List Nat} : Mon (Dg SS) := ⟨fun s ⟨p, ds, e, h, r⟩ => ⟨p, ds, e, s _ _ h, r⟩⟩
class Mons (Es : List Shp) : Prop where
  mono : ∀ {ys : List V} {G G' : Hp}, Same G G' → All2 G Es ys → All2 G' Es ys
instance : Mons [] := ⟨fun {ys} _ _ _ h => by cases ys <;> exact h⟩
instance {E : Shp} {Es : List Shp} [Mon E] [Mons Es] : Mons (E :: Es) := ⟨fun {ys} _ _ s h => by
  cases ys with
  | nil => exact h
  | cons y ys => exact ⟨Mon.mono s h.1, Mons.mono s h.2⟩⟩
instance {Es : List Shp} [Mons Es] : Mon (Rw Es) := ⟨fun s ⟨p, ys, e, h, r⟩ => ⟨p, ys, e, s _ _ h, Mons.mono s r⟩⟩
instance {Es : List Shp} [Mons Es] : Mon (Tw Es) := ⟨fun s ⟨p, ys, e, h, r⟩ => ⟨p, ys, e, s _ _ h, Mons.mono s r⟩⟩
/-! ### rules with rests -/
section
variable {G0 H0 G H : Hp} {Ds : List Addr} {σ : L2.St} {Q : VK} {K : PySem.W.Frag} {t : TA} {ta tb : TE} {v x y : V} {i j : Int} {k : Nat} {p q : Addr} {xs : List V} {E : Shp}
theorem r_var (e : σ[k]? = some (some v)) (h : Q v H) : tVar k σ H Q := ⟨v, e, h⟩
theorem r_c (h : Q v H) : tC v σ H Q := h
theorem r_op {r : R2} (h : ta σ H fun x H1 => tb σ H1 fun y H2 => r x y H2 Q) : tOp r ta tb σ H Q := h
theorem r_un {r : V → Hp → VK → Prop} (h : ta σ H fun x H1 => r x H1 Q) : tUn r ta σ H Q := h
theorem r_nil {Q : List V → Hp → Prop} (h : Q [] H) : tNil σ H Q := h
theorem r_cons {tr : TA} {Q : List V → Hp → Prop} (h : ta σ H fun x H1 => tr σ H1 fun xs H2 => Q (x :: xs) H2) : tCons ta tr σ H Q := h
theorem r_cb {r : List V → Hp → VK → Prop} (h : t σ H fun vs H1 => r vs H1 Q) : tCB r t σ H Q := h
theorem r_calls {sp : Sp} {E : L2.St → XK} (h : t σ H fun vs H1 => sp vs H1 Q (E σ)) : tCallS sp E t σ H Q := h
theorem r_sl {r : V → Option Int → Option Int → Hp → VK → Prop} {tl th : TO} (h : ta σ H fun x H1 => tl σ H1 fun l H2 => th σ H2 fun u H3 => r x l u H3 Q) : tSl r ta tl th σ H Q := h
theorem r_nopart {Q : Option Int → Hp → Prop} (h : Q none H) : tNoPart σ H Q := h
theorem r_part {Q : Option Int → Hp → Prop} (h : ta σ H fun x H1 => ∃ i, x = .int i ∧ Q (some i) H1) : tPart ta σ H Q := h
theorem r_asint {Q : Int → Prop} (h : Q i) : ∃ j, V.int i = .int j ∧ Q j := ⟨i, rfl, h⟩
theorem r_asbl {b : Bool} {Q : Bool → Prop} (h : Q b) : ∃ j, V.bl b = .bl j ∧ Q j := ⟨b, rfl, h⟩
theorem r_test {Q : Bool → Hp → Prop} (h : ta σ H fun x H' => ∃ k, x = .bl k ∧ Q k H') : tTest ta σ H Q := h
theorem r_tb {Q : Bool → Hp → Prop} (h : ta σ H fun x H' => ∃ k, x = .bl k ∧ Q k H') : tB ta σ H Q := h
theorem r_and {t u : TT} {Q : Bool → Hp → Prop} (h : t σ H fun c H1 => if c = true then u σ H1 Q else Q false H1) : tAnd t u σ H Q := h
theorem r_or {t u : TT} {Q : Bool → Hp → Prop} (h : t σ H fun c H1 => if c = true then Q true H1 else u σ H1 Q) : tOr t u σ H Q := h
theorem r_not {t : TT} {Q : Bool → Hp → Prop} (h : t σ H fun c H1 => Q (!c) H1) : tNot t σ H Q := h
theorem r_ifx {t : TT} (h : t σ H fun c H1 => if c = true then ta σ H1 Q else tb σ H1 Q) : tIf t ta tb σ H Q := h
theorem r_i0 {g : Int → Int → V} (h : Q (g i j) H) : rI0 g (.int i) (.int j) H Q := ⟨i, j, rfl, rfl, h⟩
theorem r_i {g : Int → Int → V} {C : Int → Int → Prop} (hc : C i j) (h : Q (g i j) H) : rI C g (.int i) (.int j) H Q := ⟨i, j, rfl, rfl, hc, h⟩
theorem r_u {g : Int → V} (h : Q (g i) H) : rU g (.int i) H Q := ⟨i, rfl, h⟩
theorem r_add (h : Q (.int (i + j)) H) : rAdd (.int i) (.int j) H Q := ⟨i, j, rfl, rfl, h⟩
theorem r_sub (h : Q (.int (i - j)) H) : rSub (.int i) (.int j) H Q := ⟨i, j, rfl, rfl, h⟩
theorem r_eqi (h : Q (.bl (decide (i = j))) H) : rEq (.int i) (.int j) H Q := ⟨rfl, by
  have e : decide (V.int i = V.int j) = decide (i = j) := decide_eq_decide.mpr ⟨fun h => V.int.inj h, fun h => by rw [h]⟩
  rw [e]; exact h⟩
theorem r_nei (h : Q (.bl (!decide (i = j))) H) : rNe (.int i) (.int j) H Q := ⟨rfl, by
  have e : decide (V.int i = V.int j) = decide (i = j) := decide_eq_decide.mpr ⟨fun h => V.int.inj h, fun h => by rw [h]⟩
  rw [e]; exact h⟩
theorem r_eqs {a b : Str} (h : Q (.bl (decide (a = b))) H) : rEq (.str a) (.str b) H Q := ⟨rfl, by
  have e : decide (V.str a = V.str b) = decide (a = b) := decide_eq_decide.mpr ⟨fun h => V.str.inj h, fun h => by rw [h]⟩
  rw [e]; exact h⟩
theorem r_nes {a b : Str} (h : Q (.bl (!decide (a = b))) H) : rNe (.str a) (.str b) H Q := ⟨rfl, by
  have e : decide (V.str a = V.str b) = decide (a = b) := decide_eq_decide.mpr ⟨fun h => V.str.inj h, fun h => by rw [h]⟩
  rw [e]; exact h⟩
/-- branches -/
theorem r_ite {c : Prop} [Decidable c] {A B : Prop} (h1 : c → A) (h2 : ¬ c → B) : if decide c = true then A else B := by
  by_cases h : c
  · rw [decide_eq_true h, if_pos rfl]; exact h1 h
  · rw [decide_eq_false h, if_neg Bool.false_ne_true]; exact h2 h
theorem r_iteN {c : Prop} [Decidable c] {A B : Prop} (h1 : ¬ c → A) (h2 : c → B) : if (!decide c) = true then A else B := by
  by_cases h : c
  · rw [decide_eq_true h]; show if false = true then A else B; rw [if_neg Bool.false_ne_true]; exact h2 h
  · rw [decide_eq_false h]; show if true = true then A else B; rw [if_pos rfl]; exact h1 h
/-- a new list -/
def AL (xs : List V) (H1 : Hp) (Q : VK) : Prop := xs.length ≤ sizeLine ∧ ∀ p, H1 p = none → Q (.ref p) (upd H1 p (.lst xs))
def AT (xs : List V) (H1 : Hp) (Q : VK) : Prop := xs.length ≤ sizeLine ∧ ∀ p, H1 p = none → Q (.ref p) (upd H1 p (.tup xs))
theorem r_lst (h : t σ H fun xs H1 => AL xs H1 Q) : tLst t σ H Q := h
theorem r_new {z : V} (c : Cur G0 H0 Ds G H) (hl : (z :: xs).length ≤ 16777216) (h : ∀ p G' H', Same G G' → Same H H' → Cur G0 H0 Ds G' H' → H p = none → RL G' p (z :: xs) → Q (.ref p) H') : AL (z :: xs) H Q :=
  ⟨Nat.le_trans hl (by decide), fun p n => h p _ _ (same_new (c.le.free n)) (same_new n) (c.go (.new c.le n)) n (upd_same ..)⟩
theorem r_new0 (c : Cur G0 H0 Ds G H) (h : ∀ p G' H', Same G G' → Same H H' → Cur G0 H0 Ds G' H' → H p = none → RL G' p [] → Q (.ref p) H') : AL [] H Q :=
  ⟨Nat.zero_le _, fun p n => h p _ _ (same_new (c.le.free n)) (same_new n) (c.go (.new c.le n)) n (upd_same ..)⟩
theorem r_newT (c : Cur G0 H0 Ds G H) (hl : xs.length ≤ 16777216) (h : ∀ p G' H', Same G G' → Same H H' → Cur G0 H0 Ds G' H' → H p = none → TL G' p xs → Q (.ref p) H') : AT xs H Q :=
  ⟨Nat.le_trans hl (by decide), fun p n => h p _ _ (same_new (c.le.free n)) (same_new n) (c.go (.new c.le n)) n (upd_same ..)⟩
theorem r_tup (h : t σ H fun xs H1 => AT xs H1 Q) : tTup t σ H Q := h
/-- a list that still grows -/
theorem r_acc (c : Cur G0 H0 Ds G H) (h : ∀ D H', ¬ D ∈ Ds → Same H H' → Cur G0 H0 (D :: Ds) G H' → RL H' D [] → Q (.ref D) H') : AL [] H Q :=
  ⟨Nat.zero_le _, fun p n => h p _ (fun m => (c.ds p m).2.1 n) (same_new n) (c.acc n) (upd_same ..)⟩
/-! items -/
theorem r_ix (c : Cur G0 H0 Ds G H) (e : RL G p xs) (a : atI xs i = some v) (h : Q v H) : rIxL K (.ref p) (.int i) H Q :=
  ⟨p, xs, i, v, rfl, rfl, .inl (.inl (c.le _ _ e)), a, h⟩
theorem atI_ok {xs : List V} {i : Int} (lo : 0 ≤ i) (hi : i < xs.length) : ∃ v, atI xs i = some v ∧ v ∈ xs := by
  obtain ⟨n, rfl⟩ := Int.eq_ofNat_of_zero_le lo
  have l : n < xs.length := by omega
  exact ⟨xs[n], atI_nat (getE l), List.getElem_mem l⟩
theorem r_ixS {n : Nat} (c : Cur G0 H0 Ds G H) (e : Ls n E x G) (lo : 0 ≤ i) (hi : i < (n : Int)) (h : ∀ v, E v G → Q v H) : rIxL K x (.int i) H Q := by
  obtain ⟨p, ys, rfl, e1, e2, e3⟩ := e
  obtain ⟨v, a, m⟩ := atI_ok (xs := ys) lo (by omega)
  exact r_ix c e1 a (h v (e3 v m))
theorem r_ixD {SS : List Nat} {n : Nat} (c : Cur G0 H0 Ds G H) (e : Dg SS x G) (ei : i = (n : Nat)) (l : n < SS.length) (h : ∀ z : Nat, z < at0 SS n → Q (.int (z : Nat)) H) : rIxL K x (.int i) H Q := by
  obtain ⟨p, ds, rfl, e1, e2, e3⟩ := e
  subst ei
  exact r_ix c e1 (atI_nat (nV_at0 (by omega))) (h _ (e3 n l))
theorem r_ixR {Es : List Shp} {n : Nat} (c : Cur G0 H0 Ds G H) (e : Rw Es x G) (he : Es[n]? = some E) (h : ∀ v, E v G → Q v H) : rIxL K x (.int (n : Nat)) H Q := by
  obtain ⟨p, ys, rfl, e1, e2⟩ := e
  have : ∀ {Es : List Shp} {ys : List V} {n : Nat}, All2 G Es ys → Es[n]? = some E → ∃ v, ys[n]? = some v ∧ E v G := by
    intro Es
    induction Es with
    | nil => intro ys n _ h; cases h
    | cons F Es ih =>
      intro ys n a h
      cases ys with
      | nil => exact a.elim
      | cons y ys =>
        cases n with
        | zero => cases h; exact ⟨y, rfl, a.1⟩
        | succ n =>
          have h : Es[n]? = some E := h
          obtain ⟨v, q1, q2⟩ := ih a.2 h
          exact ⟨v, q1, q2⟩
  obtain ⟨v, a, b⟩ := this e2 he
  exact r_ix c e1 (atI_nat a) (h v b)
/-! len -/
theorem r_len (c : Cur G0 H0 Ds G H) (e : RL G p xs) (h : Q (.int (xs.length : Nat)) H) : rLenOf K [.ref p] H Q := ⟨p, xs, rfl, .inl (.inl (.inl (c.le _ _ e))), h⟩
theorem r_lenS {n : Nat} (c : Cur G0 H0 Ds G H) (e : Ls n E x G) (h : Q (.int (n : Nat)) H) : rLenOf K [x] H Q := by
  obtain ⟨p, ys, rfl, e1, e2, _⟩ := e
  subst e2
  exact r_len c e1 h
/-! statements -/
theorem r_seq {t u : TS} {D : Ends} (h : ∀ D1 : Ends, D1.nx = u D → D1.rt = D.rt → D1.bk = D.bk → D1.ct = D.ct → t D1 σ H) : tSeq t u D σ H := h _ rfl rfl rfl rfl
theorem r_asg {g : TG} {D : Ends} (h : ta σ H fun x H1 => g x σ H1 D.nx) : tAsg ta g D σ H := h
theorem r_gname {N : L2.St → Hp → Prop} (h : N (σ.set k (some v)) H) : gName k v σ H N := h
theorem r_nx {D : Ends} {N : L2.St → Hp → Prop} (f : D.nx = N) (h : N σ H) : D.nx σ H := f ▸ h
theorem r_rt {D D' : Ends} (f : D.rt = D'.rt) (h : D'.rt v H) : D.rt v H := f ▸ h
theorem r_ret {D : Ends} (h : ta σ H D.rt) : tRet ta D σ H := h
theorem r_next {D : Ends} (h : D.nx σ H) : tNext D σ H := h
theorem r_drop {D : Ends} (h : ta σ H fun _ H1 => D.nx σ H1) : tDrop ta D σ H := h
theorem r_ifs {cT : TT} {t u : TS} {D : Ends} (h : cT σ H fun b H1 => if b = true then t D σ H1 else u D σ H1) : tIfS cT t u D σ H := h
/-- what holds between two statements -/
theorem r_mid {t u : TS} {D : Ends} (M : L2.St → Hp → Prop) (h1 : ∀ D1 : Ends, (∀ σ H, M σ H → D1.nx σ H) → D1.rt = D.rt → t D1 σ H) (h2 : ∀ σ H, M σ H → u D σ H) : tSeq t u D σ H :=
  h1 ⟨u D, D.rt, D.bk, D.ct⟩ h2 rfl
end

theorem RL.up {G G' : Hp} {p : Addr} {xs : List V} (h : RL G p xs) (s : Same G G') : RL G' p xs := s _ _ h
theorem mon_up {E : Shp} [Mon E] {v : V} {G G' : Hp} (h : E v G) (s : Same G G') : E v G' := Mon.mono s h
section
variable {G0 H0 G H : Hp} {Ds : List Addr} {σ : L2.St} {Q : VK} {K : PySem.W.Frag}
theorem r_rtX {D : Ends} {R : VK} {v : V} (f : D.rt = R) (h : R v H) : D.rt v H := f ▸ h
theorem r_top {ts : TS} {N : L2.St → Hp → Prop} (h : ∀ D : Ends, D.nx = N → D.rt = Q → ts D σ H) : ts { nx := N, rt := Q } σ H := h _ rfl rfl
/-- a comprehension over what walks -/
theorem lcf_all {J : It} {n : Nat} {Gd : Hp → Prop} {Y : Nat → Hp → V → Hp → Prop} (w : Walk J n Gd Y) {X : Nat → V → Prop} (hY : ∀ i H x H', Y i H x H' → H' = H ∧ X i x) {g : TG} {tt : TT} {te : TE} {vs : List Nat} (c : Cur G0 H0 Ds G H) (p : Nat → Bool) (E : Nat → Shp) [∀ i, Mon (E i)] (hn : n ≤ 16777215)
    (hG : ∀ H', Same H H' → Gd H')
    (hs : ∀ i x Gi Hi (Yes : V → Hp → Prop) (No : Hp → Prop), i < n → Same G Gi → Same H Hi → Cur Gi Hi [] Gi Hi → X i x → (∀ y H4 G4, p i = true → Cur Gi Hi [] G4 H4 → E i y G4 → Yes y H4) → (∀ H4 G4, p i = false → Cur Gi Hi [] G4 H4 → No H4) →
      g x (wipe σ vs) Hi fun σ2 H2 => wipe σ2 vs = wipe σ vs ∧ tt σ2 H2 fun b H3 => if b = true then te σ2 H3 Yes else No H3)
    (hd : ∀ D ys G' H', Same G G' → Same H H' → Cur G0 H0 Ds G' H' → RL G' D ys → Paired (fun y i => E i y G') ys ((List.range n).filter p) → Q (.ref D) H') :
    ∀ D, H D = none → ∃ W : Nat → Nat → Hp → Prop, (∃ m, W 0 m (upd H D (.lst []))) ∧ ∀ i m H, W i m H →
      (J.stop i H ∧ Q (.ref D) H) ∨ (J.go i H ∧ ∃ Nx : Hp → Prop, (∀ H', Nx H' → ∃ m', m' < m ∧ W (i + 1) m' H') ∧ ∀ x H', J.yld i H x H' → g x (wipe σ vs) H' fun σ2 H2 => wipe σ2 vs = wipe σ vs ∧ tt σ2 H2 fun b H3 =>
        if b = true then te σ2 H3 fun y H4 => ∃ acc, H4 D = some (.lst acc) ∧ acc.length < sizeLine ∧ Nx (upd H4 D (.lst (acc ++ [y]))) else Nx H3) := by
  intro D nD
  have nds : ¬ D ∈ Ds := fun m => (c.ds D m).2.1 nD
  have mono2 : ∀ {Ga Gb : Hp} {ys : List V} {is : List Nat}, Same Ga Gb → Paired (fun y i => E i y Ga) ys is → Paired (fun y i => E i y Gb) ys is := fun s h => by
    induction h with
    | nil => exact .nil
    | cons e _ ih => exact .cons (Mon.mono s e) ih
  refine lc_it w (fun i H1 => ∃ Gi ys, Same G Gi ∧ Same H H1 ∧ Cur G0 H0 (D :: Ds) Gi H1 ∧ RL H1 D ys ∧ ys.length ≤ i ∧ Paired (fun y i => E i y Gi) ys ((List.range i).filter p)) ?_ ?_ ?_ ?_
  · exact ⟨G, [], same_rfl, same_new nD, c.acc nD, upd_same .., Nat.le_refl 0, .nil⟩
  · rintro i H1 _ ⟨Gi, ys, _, s, _⟩
    exact hG _ s
  · rintro i x H1 H' hi ⟨Gi, ys, s1, s2, c1, h1, h2, h3⟩ hy
    obtain ⟨rfl, hx⟩ := hY _ _ _ _ hy
    have e : (List.range (i + 1)).filter p = (List.range i).filter p ++ (if p i = true then [i] else []) := by
      rw [List.range_succ, List.filter_append]
      congr 1
      by_cases h : p i = true
      · rw [List.filter_cons_of_pos h, if_pos h] <;> rfl
      · rw [List.filter_cons_of_neg h, if_neg h] <;> rfl
    refine hs i x Gi H' _ _ hi s1 s2 (.init c1.le) hx (fun y H4 G4 pi c4 ey => ?_) fun H4 G4 pi c4 => ?_
    · have g4 := c4.gr
      have c5 := c1.go g4
      refine ⟨ys, g4.1 _ _ h1, Nat.lt_of_lt_of_le (show ys.length < 16777216 by omega) (by decide), G4, ys ++ [y], same2 s1 g4.2.1, same_put nD (same2 s2 g4.1), c5.put List.mem_cons_self, upd_same .., by rw [List.length_append, List.length_singleton]; omega, ?_⟩
      rw [e, if_pos pi]
      exact psnoc (mono2 g4.2.1 h3) ey
    · have g4 := c4.gr
      refine ⟨G4, ys, same2 s1 g4.2.1, same2 s2 g4.1, c1.go g4, g4.1 _ _ h1, by omega, ?_⟩
      rw [e, if_neg (by rw [pi]; exact Bool.false_ne_true), List.append_nil]
      exact mono2 g4.2.1 h3
  · rintro H1 ⟨Gi, ys, s1, s2, c1, h1, h2, h3⟩
    obtain ⟨c2, s3⟩ := c1.fin nds h1
    exact hd D ys _ _ (same2 s1 s3) s2 c2 (upd_same ..) (mono2 s3 h3)

/-- the rest of a comprehension behind its iterable -/
def LcB (J : It) (g : TG) (tt : TT) (te : TE) (vs : List Nat) (σ : L2.St) (H1 : Hp) (Q : VK) : Prop := ∀ D, H1 D = none → ∃ W : Nat → Nat → Hp → Prop, (∃ m, W 0 m (upd H1 D (.lst []))) ∧ ∀ i m H, W i m H →
      (J.stop i H ∧ Q (.ref D) H) ∨ (J.go i H ∧ ∃ Nx : Hp → Prop, (∀ H', Nx H' → ∃ m', m' < m ∧ W (i + 1) m' H') ∧ ∀ x H', J.yld i H x H' → g x (wipe σ vs) H' fun σ2 H2 => wipe σ2 vs = wipe σ vs ∧ tt σ2 H2 fun b H3 =>
        if b = true then te σ2 H3 fun y H4 => ∃ acc, H4 D = some (.lst acc) ∧ acc.length < sizeLine ∧ Nx (upd H4 D (.lst (acc ++ [y]))) else Nx H3)
theorem r_lc {wi : TI} {g : TG} {tt : TT} {te : TE} {vs : List Nat} (h : wi σ H fun J H1 => LcB J g tt te vs σ H1 Q) : tLc wi g tt te vs σ H Q := h
theorem r_ilist {tl : TE} {R : It → Hp → Prop} (h : tl σ H fun x H1 => ∃ a, x = .ref a ∧ (∃ xs, SqL K H1 a xs) ∧ R (Itl K a) H1) : iList K tl σ H R := h
theorem r_irng1 {ta : TA} {R : It → Hp → Prop} (h : ta σ H fun vs H1 => ∃ j, vs = [V.int j] ∧ -2 ^ 62 ≤ j ∧ j < 2 ^ 62 ∧ R (Itr 0 j.toNat) H1) : iRng1 ta σ H R := h
theorem yList {xs : List V} : ∀ i H x H', YAt xs i H x H' → H' = H ∧ xs[i]? = some x := fun _ _ _ _ h => h
theorem yRng {n : Nat} : ∀ i H x H', YFn (fun i => V.int (0 + (i : Nat))) i H x H' → H' = H ∧ x = V.int (i : Nat) := fun i _ _ _ h => ⟨h.1, h.2.trans (congrArg V.int (Int.zero_add _))⟩
/-- [e for x in xs] -/
theorem lcl {g : TG} {te : TE} {vs : List Nat} {a : Addr} {xs : List V} (c : Cur G0 H0 Ds G H) (ha : RL G a xs) (E : Nat → Shp) [∀ i, Mon (E i)] (hn : xs.length ≤ 16777215)
    (hs : ∀ i x Gi Hi (Yes : V → Hp → Prop), xs[i]? = some x → Same G Gi → Same H Hi → Cur Gi Hi [] Gi Hi → (∀ y H4 G4, Cur Gi Hi [] G4 H4 → E i y G4 → Yes y H4) → g x (wipe σ vs) Hi fun σ2 H2 => wipe σ2 vs = wipe σ vs ∧ te σ2 H2 Yes)
    (hd : ∀ D ys G' H', Same G G' → Same H H' → Cur G0 H0 Ds G' H' → RL G' D ys → Paired (fun y i => E i y G') ys (List.range xs.length) → Q (.ref D) H') :
    ∃ a', V.ref a = .ref a' ∧ (∃ xs, SqL K H a' xs) ∧ LcB (Itl K a') g tYes te vs σ H Q := by
  have hq : ∀ H', Same H H' → SqL K H' a xs := fun H' s => .inl (.inl (s _ _ (c.le _ _ ha)))
  refine ⟨a, rfl, ⟨xs, hq H same_rfl⟩, ?_⟩
  refine lcf_all (walk_list (K := K) (a := a) (xs := xs)) yList c (fun _ => true) E hn hq (fun i x Gi Hi Yes No hi s1 s2 c1 hx y1 y2 => ?_) fun D ys G' H' s1 s2 c' h1 h2 => hd D ys G' H' s1 s2 c' h1 (by rw [List.filter_eq_self.mpr fun _ _ => rfl] at h2; exact h2)
  exact hs i x Gi Hi Yes hx s1 s2 c1 fun y H4 G4 a b => y1 y H4 G4 rfl a b
theorem lcr {g : TG} {te : TE} {vs : List Nat} {j : Int} {n : Nat} (c : Cur G0 H0 Ds G H) (ej : j = (n : Nat)) (E : Nat → Shp) [∀ i, Mon (E i)] (hn : n ≤ 16777215)
    (hs : ∀ i Gi Hi (Yes : V → Hp → Prop), i < n → Same G Gi → Same H Hi → Cur Gi Hi [] Gi Hi → (∀ y H4 G4, Cur Gi Hi [] G4 H4 → E i y G4 → Yes y H4) → g (.int (i : Nat)) (wipe σ vs) Hi fun σ2 H2 => wipe σ2 vs = wipe σ vs ∧ te σ2 H2 Yes)
    (hd : ∀ D ys G' H', Same G G' → Same H H' → Cur G0 H0 Ds G' H' → RL G' D ys → Paired (fun y i => E i y G') ys (List.range n) → Q (.ref D) H') :
    ∃ j', [V.int j] = [V.int j'] ∧ -2 ^ 62 ≤ j' ∧ j' < 2 ^ 62 ∧ LcB (Itr 0 j'.toNat) g tYes te vs σ H Q := by
  subst ej
  refine ⟨_, rfl, by omega, by omega, ?_⟩
  rw [Int.toNat_natCast]
  refine lcf_all walk_range (yRng (n := n)) c (fun _ => true) E hn (fun _ _ => trivial) (fun i x Gi Hi Yes No hi s1 s2 c1 hx y1 y2 => ?_) fun D ys G' H' s1 s2 c' h1 h2 => hd D ys G' H' s1 s2 c' h1 (by rw [List.filter_eq_self.mpr fun _ _ => rfl] at h2; exact h2)
  subst hx
  exact hs i Gi Hi Yes hi s1 s2 c1 fun y H4 G4 a b => y1 y H4 G4 rfl a b
end
/-! what a comprehension has made -/
theorem pr_len {E : Nat → Shp} {G : Hp} {ys : List V} {n : Nat} (h : Paired (fun y i => E i y G) ys (List.range n)) : ys.length = n := by rw [Paired.length h, List.length_range]
theorem pr_at {E : Nat → Shp} {G : Hp} {ys : List V} {n : Nat} (h : Paired (fun y i => E i y G) ys (List.range n)) {i : Nat} (hi : i < n) : ∃ y, ys[i]? = some y ∧ E i y G := by
  obtain ⟨y, j, h1, h2, h3⟩ := pget2 h (i := i) (by rw [pr_len h]; exact hi)
  rw [List.getElem?_range hi] at h2
  cases h2
  exact ⟨y, h1, h3⟩
theorem pr_all {E : Nat → Shp} {F : Shp} {G : Hp} {ys : List V} {n : Nat} (h : Paired (fun y i => E i y G) ys (List.range n)) (f : ∀ i y, i < n → E i y G → F y G) : ∀ y ∈ ys, F y G := fun y hy => by
  obtain ⟨i, e⟩ := List.getElem?_of_mem hy
  have l := ltE e
  rw [pr_len h] at l
  obtain ⟨y', e1, e2⟩ := pr_at h l
  rw [e] at e1
  cases e1
  exact f i y l e2
theorem pr_eq {f : Nat → V} {ys : List V} {n : Nat} (h : Paired (fun y i => y = f i) ys (List.range n)) : ys = (List.range n).map f := by
  refine List.ext_getElem? fun i => ?_
  rw [List.getElem?_map]
  by_cases l : i < n
  · obtain ⟨y, e1, e2⟩ := pr_at (E := fun i y _ => y = f i) (G := fun _ => none) h l
    rw [e1, List.getElem?_range l, e2] <;> rfl
  · have hl : ys.length = n := by rw [Paired.length h, List.length_range]
    rw [List.getElem?_eq_none (by omega), List.getElem?_eq_none (by rw [List.length_range]; omega)] <;> rfl
theorem pr_ints {lo hi : Int} {G : Hp} {ys : List V} {n : Nat} (h : Paired (fun y i => (fun _ : Nat => Ib lo hi) i y G) ys (List.range n)) : ∃ ms : List Int, ys = ms.map V.int ∧ ms.length = n ∧ ∀ x ∈ ms, lo ≤ x ∧ x < hi := by
  have hl := pr_len h
  have : ∀ {ys : List V} {is : List Nat}, Paired (fun y i => (fun _ : Nat => Ib lo hi) i y G) ys is → ∃ ms : List Int, ys = ms.map V.int ∧ ∀ x ∈ ms, lo ≤ x ∧ x < hi := by
    intro ys is h
    induction h with
    | nil => exact ⟨[], rfl, fun _ h => absurd h List.not_mem_nil⟩
    | cons e _ ih =>
      obtain ⟨ms, rfl, g⟩ := ih
      obtain ⟨z, rfl, z1, z2⟩ := e
      exact ⟨z :: ms, rfl, fun x hx => by rcases List.mem_cons.mp hx with e | e; · subst e; exact ⟨z1, z2⟩
                                          · exact g x e⟩
  obtain ⟨ms, rfl, g⟩ := this h
  rw [List.length_map] at hl
  exact ⟨ms, rfl, hl, g⟩
theorem pr_nats {f : Nat → Nat} {ys : List V} {n : Nat} (h : Paired (fun y i => y = V.int ((f i : Nat) : Int)) ys (List.range n)) : ys = nV ((List.range n).map f) := by
  rw [pr_eq h]
  unfold nV
  rw [List.map_map] <;> rfl
def Vi (v : V) : Shp := fun y _ => y = v
instance {v : V} : Mon (Vi v) := ⟨fun _ h => h⟩
section
variable {H : Hp} {Q : VK} {i : Int} {b : Bool}
def RInt (xs : List V) (H : Hp) (Q : VK) : Prop := (∃ i, xs = [.int i] ∧ Q (.int i) H) ∨ ∃ k, xs = [.bl k] ∧ Q (.int (if k then 1 else 0)) H
theorem r_cbint {t : TA} {σ : L2.St} (h : t σ H fun vs H1 => RInt vs H1 Q) : tCB (fun xs H Q => (∃ i, xs = [.int i] ∧ Q (.int i) H) ∨ ∃ k, xs = [.bl k] ∧ Q (.int (if k then 1 else 0)) H) t σ H Q := h
theorem r_int (h : Q (.int i) H) : RInt [.int i] H Q := .inl ⟨i, rfl, h⟩
theorem r_intb (h : Q (.int (if b then 1 else 0)) H) : RInt [.bl b] H Q := .inr ⟨b, rfl, h⟩
end
end K03
set_option Elab.async false
set_option linter.all false
set_option maxRecDepth 100000
set_option maxHeartbeats 4000000
namespace K03
open PySem PySem.Spec PyProof.Rows L2 Ms
theorem fmodN (a b : Nat) : ((a : Nat) : Int).fmod (b : Nat) = ((a % b : Nat) : Int) := by
  rw [Int.fmod_eq_emod_of_nonneg _ (by omega)] <;> rfl
theorem fdivN (a b : Nat) : ((a : Nat) : Int).fdiv (b : Nat) = ((a / b : Nat) : Int) := by
  rw [Int.fdiv_eq_ediv_of_nonneg _ (by omega)] <;> rfl
section
variable {G0 H0 G H : Hp} {Ds : List Addr} {σ : L2.St} {Q : VK} {K : PySem.W.Frag} {t : TA} {ta tb to : TE} {v x y : V} {i j : Int} {a b p D : Addr} {xs ys zs : List V}
theorem r_bm {T : String} {r : V → List V → Hp → VK → Prop} (h : to σ H fun x H1 => tyV K T x H1 ∧ t σ H1 fun xs H2 => r x xs H2 Q) : tBM K T r to t σ H Q := h
theorem r_tyl {A : Prop} (h : RL H D ys) (k : A) : tyV K "list" (.ref D) H ∧ A := ⟨.inl ⟨rfl, _, .inl (.inl h)⟩, k⟩
theorem r_append (c : Cur G0 H0 Ds G H) (m : D ∈ Ds) (h : RL H D ys) (l : ys.length < 16777216) (k : ∀ H', Cur G0 H0 Ds G H' → RL H' D (ys ++ [v]) → (∀ b, b ≠ D → H' b = H b) → Q .non H') : rAppend (.ref D) [v] H Q :=
  ⟨D, ys, v, rfl, rfl, h, Nat.lt_of_lt_of_le l (by decide), k _ (c.put m) (upd_same ..) fun b hb => upd_ne hb⟩
theorem r_cat (c : Cur G0 H0 Ds G H) (h1 : RL G a xs) (h2 : RL G b zs) (hl : xs.length + zs.length ≤ 16777216) (k : ∀ p G' H', Same G G' → Same H H' → Cur G0 H0 Ds G' H' → H p = none → RL G' p (xs ++ zs) → Q (.ref p) H') : rCat (.ref a) (.ref b) H Q :=
  ⟨a, b, xs, zs, rfl, rfl, c.le _ _ h1, c.le _ _ h2, Nat.le_trans hl (by decide), fun p n => k p _ _ (same_new (c.le.free n)) (same_new n) (c.go (.new c.le n)) n (upd_same ..)⟩
theorem r_rep {n : Nat} (c : Cur G0 H0 Ds G H) (h1 : RL G a xs) (ei : i = (n : Nat)) (hl : xs.length * n ≤ 16777216) (hn : n ≤ 16777216) (k : ∀ p G' H', Same G G' → Same H H' → Cur G0 H0 Ds G' H' → H p = none → RL G' p (List.replicate n xs).flatten → Q (.ref p) H') : rRep (.ref a) (.int i) H Q := by
  subst ei
  refine ⟨a, _, xs, rfl, rfl, c.le _ _ h1, by omega, by omega, by rw [Int.toNat_natCast]; exact Nat.le_trans hl (by decide), fun p n0 => ?_⟩
  rw [Int.toNat_natCast]
  exact k p _ _ (same_new (c.le.free n0)) (same_new n0) (c.go (.new c.le n0)) n0 (upd_same ..)
def RMx2 (xs : List V) (H : Hp) (Q : VK) : Prop := ∃ i j, xs = [.int i, .int j] ∧ Q (.int (if j > i then j else i)) H
def RMn2 (xs : List V) (H : Hp) (Q : VK) : Prop := ∃ i j, xs = [.int i, .int j] ∧ Q (.int (if j < i then j else i)) H
theorem r_cbmx (h : t σ H fun vs H1 => RMx2 vs H1 Q) : tCB (fun xs H Q => ∃ i j, xs = [.int i, .int j] ∧ Q (.int (if j > i then j else i)) H) t σ H Q := h
theorem r_cbmn (h : t σ H fun vs H1 => RMn2 vs H1 Q) : tCB (fun xs H Q => ∃ i j, xs = [.int i, .int j] ∧ Q (.int (if j < i then j else i)) H) t σ H Q := h
theorem r_mx (h : Q (.int (max i j)) H) : RMx2 [.int i, .int j] H Q := ⟨i, j, rfl, by
  have e : (if j > i then j else i) = max i j := by omega
  rw [e]; exact h⟩
theorem r_mn (h : Q (.int (min i j)) H) : RMn2 [.int i, .int j] H Q := ⟨i, j, rfl, by
  have e : (if j < i then j else i) = min i j := by omega
  rw [e]; exact h⟩
/-- script[k], digits -/
def Sq (K : PySem.W.Frag) (G : Hp) (a : Addr) (ns : List Int) : Prop := SqL K G a (ns.map V.int)
theorem Sq.up {G G' : Hp} {ns : List Int} (h : Sq K G a ns) (s : Same G G') : Sq K G' a ns := Same.seq s h
theorem r_cell {E : XK} {ns : List Int} {n : Nat} (c : Cur G0 H0 Ds G H) (h : Sq K G a ns) (ei : i = (n : Nat)) (k : ∀ z, Q (.int z) H) : spCellL K [.ref a, .int i] H Q E := by
  subst ei
  exact ⟨a, ns, n, rfl, Same.seq c.le h, k⟩
theorem r_dig {E : XK} (ss : List Nat) (c : Cur G0 H0 Ds G H) (h : RL G a xs) (e : xs = nV ss) (hb : ∀ x ∈ ss, 0 < x ∧ x < 1073741824) (hl : ss.length ≤ 16777216)
    (k : ∀ p G' H', Same G G' → Same H H' → Cur G0 H0 Ds G' H' → Dg ss (.ref p) G' → Q (.ref p) H') : spDigits K [.int i, .ref a] H Q E := by
  subst e
  refine ⟨i, a, ss, rfl, .inl (.inl (c.le _ _ h)), hb, hl, fun H' p ds s n hp dl dlt => ?_⟩
  have g : Grow G H (upd G p (.lst (nV ds))) H' := by
    refine ⟨s, same_new (c.le.free n), fun b u e => ?_, fun b hb => ?_⟩
    · by_cases z : b = p
      · subst z; rw [upd_same] at e; rw [← e]; exact hp
      · rw [upd_ne z] at e; exact s _ _ (c.le _ _ e)
    · by_cases z : b = p
      · subst z; exact .inr n
      · rw [upd_ne z] at hb; exact .inl hb
  exact k p _ _ g.2.1 s (c.go g) ⟨p, ds, rfl, upd_same .., dl, dlt⟩
theorem r_modN (hj : 0 < j) (k : ∀ d : Nat, (d : Int) < j → (d : Int) = i.fmod j → Q (.int (d : Nat)) H) : rI (fun _ j => j ≠ 0) (fun i j => .int (i.fmod j)) (.int i) (.int j) H Q := by
  refine r_i (by omega) ?_
  have h1 := Int.fmod_nonneg_of_pos i hj
  have h2 := Int.fmod_lt_of_pos i hj
  have e : ((i.fmod j).toNat : Int) = i.fmod j := Int.toNat_of_nonneg h1
  have q := k (i.fmod j).toNat (by omega) e
  rw [e] at q
  exact q
theorem r_fdN {n m : Nat} (ei : i = (n : Nat)) (ej : j = (m : Nat)) (hm : 0 < m) (hb : m < 1073741824) (k : Q (.int ((n / m : Nat) : Int)) H) : rI CDivN (fun i j => .int (i.fdiv j)) (.int i) (.int j) H Q := by
  subst ei ej
  refine r_i ⟨by omega, by omega⟩ ?_
  rw [fdivN]
  exact k
/-- an item of a list of small numbers -/
theorem r_ixN (L : List Nat) (lo hi : Nat) {n : Nat} (c : Cur G0 H0 Ds G H) (h : RL G a xs) (e : xs = nV L) (ei : i = (n : Nat)) (l : n < L.length) (k : ∀ v : Nat, lo ≤ v → v ≤ hi → Q (.int (v : Nat)) H) (hb : ∀ v ∈ L, lo ≤ v ∧ v ≤ hi := by decide) : rIxL K (.ref a) (.int i) H Q := by
  subst e ei
  have m := hb _ (List.getElem_mem l)
  exact r_ix c h (atI_nat (nV_at (getE l))) (k _ m.1 m.2)
theorem menu_at {M : List Str} {m : Nat} (h : m < M.length) : (M.map V.str)[m]? = some (.str (M.getD m "")) := by
  rw [List.getElem?_map, List.getD_eq_getElem?_getD, getE h] <;> rfl
/-! ### for -/
def FB (J : It) (g : TG) (tb : TS) (D : Ends) (σ : L2.St) (H : Hp) : Prop := ∃ W : Nat → Nat → L2.St → Hp → Prop, (∃ m, W 0 m σ H) ∧ ∀ i m σ H, W i m σ H →
      (J.stop i H ∧ D.nx σ H) ∨ (J.go i H ∧ ∃ N : L2.St → Hp → Prop, (∀ σ' H', N σ' H' → ∃ m', m' < m ∧ W (i + 1) m' σ' H') ∧ ∀ x H', J.yld i H x H' → g x σ H' fun σ2 H2 => tb { D with nx := N, ct := N, bk := D.nx } σ2 H2)
theorem r_for {wi : TI} {g : TG} {tb : TS} {D : Ends} (h : wi σ H fun J H1 => FB J g tb D σ H1) : tFor wi g tb D σ H := h
theorem fr_rng {g : TG} {tb : TS} {D : Ends} {n : Nat} (ej : j = (n : Nat)) (hn : n ≤ 16777216) (Inv : Nat → L2.St → Hp → Prop) (h0 : Inv 0 σ H)
    (hs : ∀ i σ' H', i < n → Inv i σ' H' → ∀ Db : Ends, (∀ σ H, Inv (i + 1) σ H → Db.nx σ H) → (∀ σ H, Inv (i + 1) σ H → Db.ct σ H) → Db.bk = D.nx → Db.rt = D.rt → g (.int (i : Nat)) σ' H' fun σ2 H2 => tb Db σ2 H2)
    (hd : ∀ σ' H', Inv n σ' H' → D.nx σ' H') : ∃ j', [V.int j] = [V.int j'] ∧ -2 ^ 62 ≤ j' ∧ j' < 2 ^ 62 ∧ FB (Itr 0 j'.toNat) g tb D σ H := by
  subst ej
  refine ⟨_, rfl, by omega, by omega, ?_⟩
  rw [Int.toNat_natCast]
  refine for_it walk_range Inv h0 (fun _ _ _ _ _ => trivial) (fun i x σ' H' H'' hi p y => ?_) hd
  obtain ⟨rfl, rfl⟩ := yRng (n := n) i H' x H'' y
  exact hs i σ' H'' hi p _ (fun _ _ h => h) (fun _ _ h => h) rfl rfl
theorem fr_list {g : TG} {tb : TS} {D : Ends} (Inv : Nat → L2.St → Hp → Prop) (h0 : Inv 0 σ H) (hG : ∀ i σ' H', Inv i σ' H' → SqL K H' a xs)
    (hs : ∀ i x σ' H', xs[i]? = some x → Inv i σ' H' → ∀ Db : Ends, (∀ σ H, Inv (i + 1) σ H → Db.nx σ H) → (∀ σ H, Inv (i + 1) σ H → Db.ct σ H) → Db.bk = D.nx → Db.rt = D.rt → g x σ' H' fun σ2 H2 => tb Db σ2 H2)
    (hd : ∀ σ' H', Inv xs.length σ' H' → D.nx σ' H') : ∃ a', V.ref a = .ref a' ∧ (∃ xs, SqL K H a' xs) ∧ FB (Itl K a') g tb D σ H := by
  refine ⟨a, rfl, ⟨xs, hG _ _ _ h0⟩, ?_⟩
  refine for_it (walk_list (K := K) (a := a) (xs := xs)) Inv h0 (fun i σ' H' _ p => hG i σ' H' p) (fun i x σ' H' H'' hi p y => ?_) hd
  obtain ⟨rfl, hx⟩ := yList i H' x H'' y
  exact hs i x σ' H'' hx p _ (fun _ _ h => h) (fun _ _ h => h) rfl rfl
end
end K03
set_option Elab.async false
set_option linter.all false
set_option maxRecDepth 100000
set_option maxHeartbeats 4000000
namespace K03
open PySem PySem.Spec PyProof.Rows L2 Ms
section
variable {G0 H0 G H : Hp} {Ds : List Addr} {σ : L2.St} {Q : VK} {K : PySem.W.Frag} {p a : Addr} {n : Int} {z : Str}
theorem r_inI {l : List Int} (h : SqL K H p (l.map V.int)) (k : Q (.bl (decide (n ∈ l))) H) : rIn K false (.int n) (.ref p) H Q :=
  ⟨p, _, rfl, .inl h, rfl, Ms.flat_ints l, by rw [inV_int]; exact k⟩
theorem r_ninI {l : List Int} (h : SqL K H p (l.map V.int)) (k : Q (.bl (!decide (n ∈ l))) H) : rIn K true (.int n) (.ref p) H Q :=
  ⟨p, _, rfl, .inl h, rfl, Ms.flat_ints l, by rw [inV_int]; exact k⟩
theorem r_inS {l : List Str} (h : SqL K H p (l.map V.str)) (k : Q (.bl (decide (z ∈ l))) H) : rIn K false (.str z) (.ref p) H Q :=
  ⟨p, _, rfl, .inl h, rfl, Ms.flat_strs l, by rw [inV_str]; exact k⟩
theorem r_ninS {l : List Str} (h : SqL K H p (l.map V.str)) (k : Q (.bl (!decide (z ∈ l))) H) : rIn K true (.str z) (.ref p) H Q :=
  ⟨p, _, rfl, .inl h, rfl, Ms.flat_strs l, by rw [inV_str]; exact k⟩
def cI (l : List Nat) : List Int := l.map fun n => ((n : Nat) : Int)
theorem nV_cI (l : List Nat) : nV l = (cI l).map V.int := nV_int l
theorem cI_mem {l : List Nat} {d : Nat} : ((d : Nat) : Int) ∈ cI l ↔ d ∈ l := by
  constructor
  · intro m
    obtain ⟨y, hy, e⟩ := List.mem_map.mp m
    have : y = d := by omega
    exact this ▸ hy
  · intro m
    exact List.mem_map.mpr ⟨d, m, rfl⟩
/-- in a list of small numbers -/
theorem r_ninN {l : List Nat} {d : Nat} (h : SqL K H p (nV l)) (k : Q (.bl (!decide (d ∈ l))) H) : rIn K true (.int (d : Nat)) (.ref p) H Q := by
  rw [nV_cI] at h
  refine r_ninI h ?_
  rw [show decide (((d : Nat) : Int) ∈ cI l) = decide (d ∈ l) from decide_eq_decide.mpr cI_mem]
  exact k
theorem r_inN {l : List Nat} {d : Nat} (h : SqL K H p (nV l)) (k : Q (.bl (decide (d ∈ l))) H) : rIn K false (.int (d : Nat)) (.ref p) H Q := by
  rw [nV_cI] at h
  refine r_inI h ?_
  rw [show decide (((d : Nat) : Int) ∈ cI l) = decide (d ∈ l) from decide_eq_decide.mpr cI_mem]
  exact k
end
/-- steps: a party, a place -/
theorem TL.up {G G' : Hp} {p : Addr} {xs : List V} (h : TL G p xs) (s : Same G G') : TL G' p xs := s _ _ h
section
variable {G0 H0 G H : Hp} {Ds : List Addr} {Q : VK} {K : PySem.W.Frag} {p : Addr} {xs : List V} {i : Int} {v : V}
theorem r_ixt (c : Cur G0 H0 Ds G H) (e : TL G p xs) (a : atI xs i = some v) (h : Q v H) : rIxT K (.ref p) (.int i) H Q :=
  ⟨p, xs, i, v, rfl, rfl, .inl (.inl (c.le _ _ e)), a, h⟩
end
theorem cut_from2 (xs : List V) {n : Nat} : cutV xs (some ((n : Nat) : Int)) none = xs.drop n := by
  unfold cutV
  have e0 : HT.sIx xs.length xs.length none = xs.length := rfl
  have e1 : HT.sIx xs.length 0 (some ((n : Nat) : Int)) = min n xs.length := by
    unfold HT.sIx
    simp only
    rw [if_neg (by omega), Int.toNat_natCast]
  rw [e0, e1]
  rcases Nat.le_total n xs.length with h | h
  · rw [Nat.min_eq_left h, List.take_of_length_le (by rw [List.length_drop]; exact Nat.le_refl _)]
  · rw [Nat.min_eq_right h, Nat.sub_self, List.take_zero, List.drop_eq_nil_of_le h]
section
variable {G0 H0 G H : Hp} {Ds : List Addr} {Q : VK} {K : PySem.W.Frag} {a : Addr} {xs : List V} {i : Int}
theorem r_slf {lo : Nat} (c : Cur G0 H0 Ds G H) (h : RL G a xs) (ei : i = (lo : Nat)) (k : ∀ p G' H', Same G G' → Same H H' → Cur G0 H0 Ds G' H' → RL G' p (xs.drop lo) → Q (.ref p) H') : rSlL K (.ref a) (some i) none H Q := by
  subst ei
  refine ⟨a, xs, rfl, .inl (.inl (c.le _ _ h)), fun p n => ?_⟩
  rw [cut_from2]
  exact k p _ _ (same_new (c.le.free n)) (same_new n) (c.go (.new c.le n)) (upd_same ..)
end
theorem nV_drop {l : List Nat} {n : Nat} : (nV l).drop n = nV (l.drop n) := by unfold nV; rw [List.map_drop]
section
variable {G0 H0 G H : Hp} {Ds : List Addr} {Q : VK} {K : PySem.W.Frag} {a : Addr} {xs : List V} {n : Int}
theorem r_lent (c : Cur G0 H0 Ds G H) (h : TL G a xs) (k : Q (.int (xs.length : Nat)) H) : rLenOf K [.ref a] H Q := ⟨a, xs, rfl, .inr (.inl (.inl (c.le _ _ h))), k⟩
theorem r_idx {l : List Nat} (c : Cur G0 H0 Ds G H) (h : RL G a (nV l)) (m : n ∈ cI l) (k : Q (.int ((cI l).idxOf n : Nat)) H) : rIndex K (.ref a) [.int n] H Q := by
  have hs : SqL K H a ((cI l).map V.int) := by rw [← nV_cI]; exact .inl (.inl (c.le _ _ h))
  exact index_ints hs m k
end
theorem r_andV {ta tb : TE} {σ : L2.St} {H : Hp} {Q : VK} (h : ta σ H fun x H1 => ∃ c, x = .bl c ∧ if c = true then tb σ H1 Q else Q (.bl false) H1) : tAndV ta tb σ H Q := h
theorem r_orV {ta tb : TE} {σ : L2.St} {H : Hp} {Q : VK} (h : ta σ H fun x H1 => ∃ c, x = .bl c ∧ if c = true then Q (.bl true) H1 else tb σ H1 Q) : tOrV ta tb σ H Q := h
theorem r_notV {ta : TE} {σ : L2.St} {H : Hp} {Q : VK} (h : ta σ H fun x H1 => ∃ c, x = .bl c ∧ Q (.bl (!c)) H1) : tNotV ta σ H Q := h
end K03
set_option Elab.async false
set_option linter.all false
set_option maxRecDepth 100000
set_option maxHeartbeats 4000000
/-! Ms: rows of rows of strings and numbers compared with themselves. -/
namespace Ms
open PySem PySem.Spec PyProof.Rows L2
def vD : V → PyData
  | .int i => .int i
  | .str s => .str s
  | _ => .none
def VPl : V → Prop
  | .int _ => True
  | .str s => PyData.strOk s = true
  | _ => False
theorem dpV {K : PySem.W.Frag} {H : Hp} : ∀ {vs : List V}, (∀ v ∈ vs, VPl v) → DpAll K H vs (vs.map vD)
  | [], _ => .nil
  | v :: vs, h => .cons (by
      have := h v List.mem_cons_self
      cases v with
      | int i => exact .int i
      | str s => exact .str s
      | _ => exact this.elim) (dpV fun x hx => h x (List.mem_cons_of_mem _ hx))
theorem layV : ∀ {vs : List V}, (∀ v ∈ vs, VPl v) → PyData.canLayAll0 (vs.map vD) = true
  | [], _ => by simp [PyData.canLayAll0]
  | v :: vs, h => by
    have ih := layV fun x hx => h x (List.mem_cons_of_mem _ hx)
    have hv := h v List.mem_cons_self
    have e : PyData.canLay0 (vD v) = true := by
      cases v with
      | int i => simp [vD, PyData.canLay0]
      | str s => simp only [vD, PyData.canLay0]; exact hv
      | _ => exact hv.elim
    simp only [List.map_cons, PyData.canLayAll0, e, ih, Bool.and_self]
theorem depV : ∀ vs : List V, PyData.depthAll (vs.map vD) = 0
  | [] => by simp [PyData.depthAll]
  | v :: vs => by
    have ih := depV vs
    have e : PyData.depth (vD v) = 0 := by cases v <;> simp [vD, PyData.depth]
    simp only [List.map_cons, PyData.depthAll, e, ih] <;> rfl
theorem eqvV : ∀ vs : List V, PyData.eqvAll (vs.map vD) (vs.map vD) = true
  | [] => by simp [PyData.eqvAll]
  | v :: vs => by
    have ih := eqvV vs
    have e : PyData.eqv (vD v) (vD v) = true := by cases v <;> simp [vD, PyData.eqv]
    simp only [List.map_cons, PyData.eqvAll, e, ih, Bool.and_self]
def dRv (rs : List (List V)) : List PyData := rs.map fun r => .list (r.map vD)
theorem layRv : ∀ {rs : List (List V)}, (∀ r ∈ rs, ∀ v ∈ r, VPl v) → PyData.canLayAll0 (dRv rs) = true
  | [], _ => by simp [dRv, PyData.canLayAll0]
  | r :: rs, h => by
    have ih := layRv fun x hx => h x (List.mem_cons_of_mem _ hx)
    have e := layV (h r List.mem_cons_self)
    unfold dRv at ih ⊢
    simp only [List.map_cons, PyData.canLayAll0, PyData.canLay0, e, ih, Bool.and_self]
theorem depRv : ∀ rs : List (List V), PyData.depthAll (dRv rs) ≤ 1
  | [] => by simp [dRv, PyData.depthAll]
  | r :: rs => by
    have ih := depRv rs
    unfold dRv at ih ⊢
    simp only [List.map_cons, PyData.depthAll, PyData.depth, depV]
    omega
theorem eqvRv : ∀ rs : List (List V), PyData.eqvAll (dRv rs) (dRv rs) = true
  | [] => by simp [dRv, PyData.eqvAll]
  | r :: rs => by
    have ih := eqvRv rs
    have e : PyData.eqv (.list (r.map vD)) (.list (r.map vD)) = true := by
      have := eqvV r
      simpa [PyData.eqv] using this
    unfold dRv at ih ⊢
    simp only [List.map_cons, PyData.eqvAll, e, ih, Bool.and_self]
theorem eqvLRv (rs : List (List V)) : PyData.eqv (.list (dRv rs)) (.list (dRv rs)) = true := by
  have := eqvRv rs
  simpa [PyData.eqv] using this
theorem shRv {rs : List (List V)} (g : ∀ r ∈ rs, ∀ v ∈ r, VPl v) : SeqAt.shaped (.list (dRv rs)) = true := by
  unfold SeqAt.shaped
  have h := depRv rs
  have e : PyData.depth (.list (dRv rs)) ≤ 64 := by
    unfold PyData.depth
    omega
  have l : PyData.canLay0 (.list (dRv rs)) = true := by
    unfold PyData.canLay0
    exact layRv g
  rw [l, decide_eq_true e] <;> rfl
theorem dpRv {K : PySem.W.Frag} {H : Hp} {as : List Addr} {rs : List (List V)} (h : Paired (fun a r => SqL K H a r ∧ ∀ v ∈ r, VPl v) as rs) : DpAll K H (as.map V.ref) (dRv rs) := by
  induction h with
  | nil => exact .nil
  | cons r _ ih => exact .cons (.lst r.1 (dpV r.2)) ih
end Ms
set_option Elab.async false
set_option linter.all false
set_option maxRecDepth 100000
set_option maxHeartbeats 4000000
namespace K03
open PySem PySem.Spec PyProof.Rows L2 Ms
/-- a list with these items -/
def Lx (xs : List V) : Shp := fun v G => ∃ p, v = .ref p ∧ RL G p xs
instance {xs : List V} : Mon (Lx xs) := ⟨fun s ⟨p, e, h⟩ => ⟨p, e, h.up s⟩⟩
theorem Grow.put {G H H' : Hp} {p : Addr} {o : HO} (s : Same G H) (h : Same H H') (n : H p = none) (e : H' p = some o) : Grow G H (upd G p o) H' := by
  refine ⟨h, same_new (s.free n), fun b u q => ?_, fun b q => ?_⟩
  · by_cases z : b = p
    · subst z; rw [upd_same] at q; rw [← q]; exact e
    · rw [upd_ne z] at q; exact h b u (s b u q)
  · by_cases z : b = p
    · subst z; exact .inr n
    · rw [upd_ne z] at q; exact .inl q
theorem pr_rows {f : Nat → List Int} {G : Hp} {ys : List V} {is : List Nat} (h : Paired (fun y i => Lx ((f i).map V.int) y G) ys is) : ∃ qs : List Addr, ys = qs.map V.ref ∧ Paired (fun a (r : List Int) => RL G a (r.map V.int)) qs (is.map f) := by
  induction h with
  | nil => exact ⟨[], rfl, .nil⟩
  | cons e _ ih =>
    obtain ⟨qs, rfl, g⟩ := ih
    obtain ⟨t, rfl, ht⟩ := e
    exact ⟨t :: qs, rfl, .cons ht g⟩
theorem set_int {zs : List Int} {n : Nat} {z : Int} : (zs.map V.int).set n (.int z) = (zs.set n z).map V.int := by rw [List.map_set]
section
variable {G0 H0 G H : Hp} {Ds : List Addr} {σ : L2.St} {Q : VK} {K : PySem.W.Frag} {v : V} {i x y : Int} {a b p : Addr} {xs : List V} {ns ms : List Int}
theorem r_listH (c : Cur G0 H0 Ds G H) (h : RL H a xs) (k : ∀ p G' H', Same G G' → Same H H' → Cur G0 H0 Ds G' H' → RL G' p xs → Q (.ref p) H') : rLstOf K [.ref a] H Q :=
  ⟨a, xs, rfl, .inl (.inl (.inl h)), fun p n => k p _ _ (same_new (c.le.free n)) (same_new n) (c.go (.new c.le n)) (upd_same ..)⟩
theorem r_ixH (e : RL H p xs) (w : atI xs i = some v) (h : Q v H) : rIxL K (.ref p) (.int i) H Q := ⟨p, xs, i, v, rfl, rfl, .inl (.inl e), w, h⟩
theorem r_eqL (ha : SqL K H a (ns.map V.int)) (hb : SqL K H b (ms.map V.int)) (k : Q (.bl (decide (ns = ms))) H) : rEqD K (.ref a) (.ref b) H Q :=
  ⟨_, _, .lst ha (dpI _), .lst hb (dpI _), shI _, shI _, by rw [eqvL]; exact k⟩
theorem r_neL (ha : SqL K H a (ns.map V.int)) (hb : SqL K H b (ms.map V.int)) (k : Q (.bl (!decide (ns = ms))) H) : rNeD K (.ref a) (.ref b) H Q :=
  ⟨_, _, .lst ha (dpI _), .lst hb (dpI _), shI _, shI _, by rw [eqvL]; exact k⟩
theorem r_break {D : Ends} {N : L2.St → Hp → Prop} (f : D.bk = N) (h : N σ H) : tBreak D σ H := by unfold tBreak; rw [f]; exact h
end
/-- a row of numbers -/
def Rz : Shp := fun v G => ∃ (p : Addr) (r : List Int), v = .ref p ∧ RL G p (r.map V.int) ∧ r.length ≤ 60
instance : Mon Rz := ⟨fun s ⟨p, r, e, h, l⟩ => ⟨p, r, e, h.up s, l⟩⟩
theorem all_ints {ys : List V} (h : ∀ y ∈ ys, ∃ z, y = V.int z) : ∃ r : List Int, ys = r.map V.int := by
  induction ys with
  | nil => exact ⟨[], rfl⟩
  | cons y ys ih =>
    obtain ⟨z, rfl⟩ := h y List.mem_cons_self
    obtain ⟨r, rfl⟩ := ih fun x hx => h x (List.mem_cons_of_mem _ hx)
    exact ⟨z :: r, rfl⟩
theorem rz_of {ys : List V} {n : Nat} {p : Addr} {G : Hp} (q : Paired (fun y i => (fun _ : Nat => Iz) i y G) ys (List.range n)) (h : RL G p ys) (hn : n ≤ 60) : Rz (.ref p) G := by
  have yl := pr_len q
  obtain ⟨r, rfl⟩ := all_ints (pr_all (F := Iz) q fun _ _ _ h => h)
  rw [List.length_map] at yl
  exact ⟨p, r, rfl, h, by omega⟩
theorem rz_nV {r : List Nat} {p : Addr} {G : Hp} (h : RL G p (nV r)) (hn : r.length ≤ 60) : Rz (.ref p) G := ⟨p, cI r, rfl, by rw [← nV_cI]; exact h, by unfold cI; rw [List.length_map]; exact hn⟩
theorem rz_all {ys : List V} {G : Hp} (h : ∀ y ∈ ys, Rz y G) : ∃ (qs : List Addr) (rs : List (List Int)), ys = qs.map V.ref ∧ Paired (fun a (r : List Int) => RL G a (r.map V.int) ∧ r.length ≤ 60) qs rs := by
  induction ys with
  | nil => exact ⟨[], [], rfl, .nil⟩
  | cons y ys ih =>
    obtain ⟨p, r, rfl, h1, h2⟩ := h y List.mem_cons_self
    obtain ⟨qs, rs, rfl, h3⟩ := ih fun x hx => h x (List.mem_cons_of_mem _ hx)
    exact ⟨p :: qs, r :: rs, rfl, .cons ⟨h1, h2⟩ h3⟩
theorem all_snoc {E : Shp} {G G' : Hp} [Mon E] {ys : List V} {y : V} (h : ∀ x ∈ ys, E x G) (s : Same G G') (hy : E y G') : ∀ x ∈ ys ++ [y], E x G' := fun x hx => by
  rcases List.mem_append.mp hx with h' | h'
  · exact Mon.mono s (h x h')
  · rw [List.mem_singleton.mp h']; exact hy
section
variable {G0 H0 G H : Hp} {Ds : List Addr} {σ : L2.St} {Q : VK} {K : PySem.W.Frag} {v : V} {i x y : Int} {a b p : Addr} {xs : List V}
theorem r_ixB {b : Bool} (c : Cur G0 H0 Ds G H) (e : RL G p [.int x, .int y]) (h : Q (.int (if b = true then y else x)) H) : rIxL K (.ref p) (.int (if b = true then 1 else 0)) H Q := by
  cases b with
  | true => exact r_ix c e (atI_nat (j := 1) rfl) h
  | false => exact r_ix c e (atI_nat (j := 0) rfl) h
theorem r_accX (c : Cur G0 H0 Ds G H) (hl : xs.length ≤ 16777216) (h : ∀ D H', ¬ D ∈ Ds → Same H H' → Cur G0 H0 (D :: Ds) G H' → RL H' D xs → Q (.ref D) H') : AL xs H Q :=
  ⟨Nat.le_trans hl (by decide), fun p n => h p _ (fun m => (c.ds p m).2.1 n) (same_new n) (c.acc n) (upd_same ..)⟩
theorem r_abs {t : TA} (h : t σ H fun vs H1 => ∃ i, vs = [.int i] ∧ Q (.int (if i < 0 then -i else i)) H1) : tCB (fun xs H Q => ∃ i, xs = [.int i] ∧ Q (.int (if i < 0 then -i else i)) H) t σ H Q := h
end
theorem all_app {E : Shp} {G : Hp} {xs ys : List V} (h : ∀ x ∈ xs, E x G) (g : ∀ x ∈ ys, E x G) : ∀ x ∈ xs ++ ys, E x G := fun x hx => (List.mem_append.mp hx).elim (h x) (g x)
theorem all_up {E : Shp} [Mon E] {G G' : Hp} {xs : List V} (h : ∀ x ∈ xs, E x G) (s : Same G G') : ∀ x ∈ xs, E x G' := fun x hx => Mon.mono s (h x hx)
theorem all_one {E : Shp} {G : Hp} {x : V} (h : E x G) : ∀ y ∈ [x], E y G := fun y hy => by rw [List.mem_singleton.mp hy]; exact h
theorem all_drop {E : Shp} {G : Hp} {xs : List V} {k : Nat} (h : ∀ x ∈ xs, E x G) : ∀ x ∈ xs.drop k, E x G := fun x hx => h x (List.mem_of_mem_drop hx)
theorem all_take {E : Shp} {G : Hp} {xs : List V} {k : Nat} (h : ∀ x ∈ xs, E x G) : ∀ x ∈ xs.take k, E x G := fun x hx => h x (List.mem_of_mem_take hx)
theorem cut_to2 (xs : List V) {n : Nat} : cutV xs none (some ((n : Nat) : Int)) = xs.take n := by
  unfold cutV
  have e0 : HT.sIx xs.length 0 none = 0 := rfl
  have e1 : HT.sIx xs.length xs.length (some ((n : Nat) : Int)) = min n xs.length := by
    unfold HT.sIx
    simp only
    rw [if_neg (by omega), Int.toNat_natCast]
  rw [e0, e1, List.drop_zero, Nat.sub_zero]
  rcases Nat.le_total n xs.length with h | h
  · rw [Nat.min_eq_left h]
  · rw [Nat.min_eq_right h, List.take_of_length_le (Nat.le_refl _), List.take_of_length_le h]
section
variable {G0 H0 G H : Hp} {Ds : List Addr} {σ : L2.St} {Q : VK} {K : PySem.W.Frag} {v : V} {i x y : Int} {a b p : Addr} {xs : List V} {ns ms : List Int}
theorem r_slt {hi : Nat} (c : Cur G0 H0 Ds G H) (h : RL G a xs) (ei : i = (hi : Nat)) (k : ∀ p G' H', Same G G' → Same H H' → Cur G0 H0 Ds G' H' → RL G' p (xs.take hi) → Q (.ref p) H') : rSlL K (.ref a) none (some i) H Q := by
  subst ei
  refine ⟨a, xs, rfl, .inl (.inl (c.le _ _ h)), fun p n => ?_⟩
  rw [cut_to2]
  exact k p _ _ (same_new (c.le.free n)) (same_new n) (c.go (.new c.le n)) (upd_same ..)
end
theorem lx_rows {f : Nat → List V} {G : Hp} {ys : List V} {is : List Nat} (h : Paired (fun y i => Lx (f i) y G) ys is) : ∃ qs : List Addr, ys = qs.map V.ref ∧ Paired (fun a (r : List V) => RL G a r) qs (is.map f) := by
  induction h with
  | nil => exact ⟨[], rfl, .nil⟩
  | cons e _ ih =>
    obtain ⟨qs, rfl, g⟩ := ih
    obtain ⟨t, rfl, ht⟩ := e
    exact ⟨t :: qs, rfl, .cons ht g⟩
theorem map_getD {α : Type} {l : List α} {d : α} {n : Nat} (e : n = l.length) : (List.range n).map (fun i => l.getD i d) = l := by
  subst e
  refine List.ext_getElem? fun i => ?_
  rw [List.getElem?_map]
  by_cases h : i < l.length
  · rw [List.getElem?_range h, getE h]
    show some (l.getD i d) = _
    rw [List.getD_eq_getElem?_getD, getE h] <;> rfl
  · rw [List.getElem?_eq_none (by rw [List.length_range]; omega), List.getElem?_eq_none (by omega)] <;> rfl
theorem pimp2 {α β : Type} {F G : α → β → Prop} {xs : List α} {ys : List β} (h : ∀ x y, y ∈ ys → F x y → G x y) (p : Paired F xs ys) : Paired G xs ys := by
  induction p with
  | nil => exact .nil
  | cons e _ ih => exact .cons (h _ _ List.mem_cons_self e) (ih fun x y m => h x y (List.mem_cons_of_mem _ m))
theorem r_listT {G0 H0 G H : Hp} {Ds : List Addr} {Q : VK} {K : PySem.W.Frag} {a : Addr} {xs : List V} (c : Cur G0 H0 Ds G H) (h : TL G a xs) (k : ∀ p G' H', Same G G' → Same H H' → Cur G0 H0 Ds G' H' → RL G' p xs → Q (.ref p) H') : rLstOf K [.ref a] H Q :=
  ⟨a, xs, rfl, .inr (.inl (.inl (c.le _ _ h))), fun p n => k p _ _ (same_new (c.le.free n)) (same_new n) (c.go (.new c.le n)) (upd_same ..)⟩
section
variable {K : PySem.W.Frag}
theorem fr_tup {σ : L2.St} {H : Hp} {g : TG} {tb : TS} {D : Ends} {a : Addr} {xs : List V} (Inv : Nat → L2.St → Hp → Prop) (h0 : Inv 0 σ H) (hG : ∀ i σ' H', Inv i σ' H' → SqT K H' a xs)
    (hs : ∀ i x σ' H', xs[i]? = some x → Inv i σ' H' → ∀ Db : Ends, (∀ σ H, Inv (i + 1) σ H → Db.nx σ H) → (∀ σ H, Inv (i + 1) σ H → Db.ct σ H) → Db.bk = D.nx → Db.rt = D.rt → g x σ' H' fun σ2 H2 => tb Db σ2 H2)
    (hd : ∀ σ' H', Inv xs.length σ' H' → D.nx σ' H') : ∃ a', V.ref a = .ref a' ∧ (∃ xs, SqT K H a' xs) ∧ FB (Itt K a') g tb D σ H := by
  refine ⟨a, rfl, ⟨xs, hG _ _ _ h0⟩, ?_⟩
  refine for_it walk_tup Inv h0 (fun i σ' H' _ p => hG i σ' H' p) (fun i x σ' H' H'' hi p y => ?_) hd
  obtain ⟨rfl, hx⟩ := y
  exact hs i x σ' H'' hx p _ (fun _ _ h => h) (fun _ _ h => h) rfl rfl
theorem lct {G0 H0 G H : Hp} {Ds : List Addr} {σ : L2.St} {Q : VK} {g : TG} {te : TE} {vs : List Nat} {a : Addr} {xs : List V} (c : Cur G0 H0 Ds G H) (hq : ∀ H', Same H H' → SqT K H' a xs) (E : Nat → Shp) [∀ i, Mon (E i)] (hn : xs.length ≤ 16777215)
    (hs : ∀ i x Gi Hi (Yes : V → Hp → Prop), xs[i]? = some x → Same G Gi → Same H Hi → Cur Gi Hi [] Gi Hi → (∀ y H4 G4, Cur Gi Hi [] G4 H4 → E i y G4 → Yes y H4) → g x (wipe σ vs) Hi fun σ2 H2 => wipe σ2 vs = wipe σ vs ∧ te σ2 H2 Yes)
    (hd : ∀ D ys G' H', Same G G' → Same H H' → Cur G0 H0 Ds G' H' → RL G' D ys → Paired (fun y i => E i y G') ys (List.range xs.length) → Q (.ref D) H') :
    ∃ a', V.ref a = .ref a' ∧ (∃ xs, SqT K H a' xs) ∧ LcB (Itt K a') g tYes te vs σ H Q := by
  refine ⟨a, rfl, ⟨xs, hq H same_rfl⟩, ?_⟩
  refine lcf_all (walk_tup (K := K) (a := a) (xs := xs)) (fun _ _ _ _ h => h) c (fun _ => true) E hn hq (fun i x Gi Hi Yes No hi s1 s2 c1 hx y1 y2 => ?_) fun D ys G' H' s1 s2 c' h1 h2 => hd D ys G' H' s1 s2 c' h1 (by rw [List.filter_eq_self.mpr fun _ _ => rfl] at h2; exact h2)
  exact hs i x Gi Hi Yes hx s1 s2 c1 fun y H4 G4 a b => y1 y H4 G4 rfl a b
end
section
variable {K : PySem.W.Frag}
theorem fr_seq {σ : L2.St} {H : Hp} {J} {g : TG} {tb : TS} {D : Ends} {b : Bool} {a : Addr} {xs : List V} (wk : Walk J xs.length (fun H => SqB K b H a xs) (YAt xs)) (Inv : Nat → L2.St → Hp → Prop) (h0 : Inv 0 σ H) (hG : ∀ i σ' H', Inv i σ' H' → SqB K b H' a xs)
    (hs : ∀ i x σ' H', xs[i]? = some x → Inv i σ' H' → ∀ Db : Ends, (∀ σ H, Inv (i + 1) σ H → Db.nx σ H) → (∀ σ H, Inv (i + 1) σ H → Db.ct σ H) → Db.bk = D.nx → Db.rt = D.rt → g x σ' H' fun σ2 H2 => tb Db σ2 H2)
    (hd : ∀ σ' H', Inv xs.length σ' H' → D.nx σ' H') : FB J g tb D σ H := by
  refine for_it wk Inv h0 (fun i σ' H' _ p => hG i σ' H' p) (fun i x σ' H' H'' hi p y => ?_) hd
  obtain ⟨rfl, hx⟩ := y
  exact hs i x σ' H'' hx p _ (fun _ _ h => h) (fun _ _ h => h) rfl rfl
end
end K03
set_option Elab.async false
set_option linter.all false
set_option maxRecDepth 100000
set_option maxHeartbeats 4000000
/-! Ms, plain: the first pair that one row joins and the other parts. -/
namespace Ms
section
variable {κ : Type} [DecidableEq κ]
theorem places_mem {m : κ} {l : List κ} {x : Nat} : x ∈ places m l ↔ l[x]? = some m := by
  unfold places
  rw [List.mem_filter, List.mem_range, decide_eq_true_eq]
  exact ⟨fun h => h.2, fun h => ⟨ltE h, h⟩⟩
theorem places_asc (m : κ) (l : List κ) : (places m l).Pairwise (· < ·) := by
  unfold places
  exact List.Pairwise.filter _ List.pairwise_lt_range
/-- smaller numbers stand ahead -/
theorem ren_before (l : List κ) : ∀ (x m i : Nat), (ren l)[x]? = some m → i < m → ∃ y, y < x ∧ (ren l)[y]? = some i := by
  induction l using snoc_ind with
  | h0 => intro x m i h; cases h
  | hs l k ih =>
    intro x m i h hi
    rw [ren_snoc] at h ⊢
    have up : ∀ {y : Nat}, y < (ren l).length → (ren l ++ [(firsts l).idxOf k])[y]? = (ren l)[y]? := fun hy => List.getElem?_append_left hy
    rcases Nat.lt_or_ge x (ren l).length with hx | hx
    · rw [up hx] at h
      obtain ⟨y, hy, e⟩ := ih x m i h hi
      exact ⟨y, hy, by rw [up (ltE e)]; exact e⟩
    · have lx := ltE h
      rw [List.length_append, List.length_singleton] at lx
      have ex : x = (ren l).length := by omega
      rw [ex, List.getElem?_append_right (Nat.le_refl _), Nat.sub_self] at h
      have em : (firsts l).idxOf k = m := by simpa using h
      have hle : (firsts l).idxOf k ≤ (firsts l).length := List.idxOf_le_length
      have hmem : i ∈ ren l := by
        rw [← mem_firsts, firsts_ren, List.mem_range]
        omega
      obtain ⟨y, hy⟩ := List.mem_iff_getElem?.mp hmem
      exact ⟨y, by rw [ex]; exact ltE hy, by rw [up (ltE hy)]; exact hy⟩
end
/-- d and o are one in f and two in g -/
def UP (f g : List Nat) (d o : Nat) : Prop := d < o ∧ o < f.length ∧ at0 f d = at0 f o ∧ at0 g d ≠ at0 g o
def Fst (f g : List Nat) : Option (Nat × Nat) → Prop
  | none => ∀ d o, ¬ UP f g d o
  | some (d, o) => UP f g d o ∧ ∀ d' o', UP f g d' o' → d < d' ∨ (d = d' ∧ o ≤ o')
theorem Fst.uniq {f g : List Nat} {r r' : Option (Nat × Nat)} (h : Fst f g r) (h' : Fst f g r') : r = r' := by
  cases r with
  | none => cases r' with
    | none => rfl
    | some p => exact absurd h'.1 (h _ _)
  | some p => cases r' with
    | none => exact absurd h.1 (h' _ _)
    | some p' =>
      obtain ⟨d, o⟩ := p
      obtain ⟨d', o'⟩ := p'
      have a := h.2 _ _ h'.1
      have b := h'.2 _ _ h.1
      have e1 : d = d' := by omega
      have e2 : o = o' := by omega
      rw [e1, e2]
theorem up_alike {f g f' g' : List Nat} (hf : Alike f f') (hg : Alike g g') (e : f.length = g.length) {d o : Nat} : UP f g d o ↔ UP f' g' d o := by
  unfold UP
  refine and_congr_right fun h1 => ?_
  rw [← hf.1]
  refine and_congr_right fun h2 => ?_
  have d1 : d < f.length := by omega
  have k1 := hf.2 d o _ _ _ _ (of_at0 d1) (of_at0 h2) (of_at0 (hf.1 ▸ d1)) (of_at0 (hf.1 ▸ h2))
  have k2 := hg.2 d o _ _ _ _ (of_at0 (e ▸ d1)) (of_at0 (e ▸ h2)) (of_at0 (hg.1 ▸ e ▸ d1)) (of_at0 (hg.1 ▸ e ▸ h2))
  exact and_congr k1 (not_congr k2)
theorem fst_alike {f g f' g' : List Nat} (hf : Alike f f') (hg : Alike g g') (e : f.length = g.length) {r : Option (Nat × Nat)} : Fst f g r ↔ Fst f' g' r := by
  cases r with
  | none => exact forall_congr' fun d => forall_congr' fun o => not_congr (up_alike hf hg e)
  | some p =>
    obtain ⟨d, o⟩ := p
    exact and_congr (up_alike hf hg e) (forall_congr' fun d => forall_congr' fun o => imp_congr (up_alike hf hg e) Iff.rfl)
/-- no pair: g is as coarse as f -/
theorem fst_none {f g : List Nat} (e : f.length = g.length) : Fst f g none ↔ ∀ (i j a c d : Nat), f[i]? = some a → f[j]? = some a → g[i]? = some c → g[j]? = some d → c = d := by
  constructor
  · intro h i j a c d h1 h2 h3 h4
    rcases Nat.lt_trichotomy i j with l | l | l
    · by_cases z : c = d
      · exact z
      · exact absurd ⟨l, ltE h2, by rw [at0_of h1, at0_of h2], by rw [at0_of h3, at0_of h4]; exact z⟩ (h i j)
    · subst l
      rw [h3] at h4
      exact Option.some.inj h4
    · by_cases z : c = d
      · exact z
      · exact absurd ⟨l, ltE h1, by rw [at0_of h1, at0_of h2], by rw [at0_of h3, at0_of h4]; exact fun q => z q.symm⟩ (h j i)
  · rintro h d o ⟨h1, h2, h3, h4⟩
    have d1 : d < f.length := by omega
    exact h4 (h d o _ _ _ (of_at0 d1) (by rw [h3]; exact of_at0 h2) (of_at0 (e ▸ d1)) (of_at0 (e ▸ h2)))
end Ms
set_option Elab.async false
set_option linter.all false
set_option maxRecDepth 100000
set_option maxHeartbeats 4000000
/-! Ms, plain: which sight tells which, by what is common and what is pooled. -/
namespace Ms
theorem row_uniq {f g u v : List Nat} (hu : Row u) (hv : Row v) (ju : Joins f g u) (jv : Joins f g v) : u = v := by
  have q := (ren_alike (ju.alike jv)).1
  rw [show ren u = u from hu, show ren v = v from hv] at q
  exact q
theorem zip_at {f g : List Nat} {i a b : Nat} (h1 : f[i]? = some a) (h2 : g[i]? = some b) : (f.zip g)[i]? = some (a, b) := List.getElem?_zip_eq_some.mpr ⟨h1, h2⟩
theorem zswap : ∀ f g : List Nat, g.zip f = (f.zip g).map Prod.swap
  | [], g => by cases g <;> rfl
  | _ :: _, [] => rfl
  | a :: f, b :: g => by
    show (b, a) :: g.zip f = (b, a) :: (f.zip g).map Prod.swap
    rw [zswap f g]
theorem ren_zip_swap (f g : List Nat) : ren (g.zip f) = ren (f.zip g) := by
  rw [zswap]
  exact ren_map fun a b z => Prod.swap_inj.mp z
theorem ren_zip_fine {f u : List Nat} (hf : Row f) (e : f.length = u.length) (h : ∀ (i j a c d : Nat), f[i]? = some a → f[j]? = some a → u[i]? = some c → u[j]? = some d → c = d) : ren (f.zip u) = f := by
  have al : Alike (f.zip u) f := ⟨by rw [List.length_zip]; omega, fun i j a b c d h1 h2 h3 h4 => by
    obtain ⟨k1, k2⟩ := List.getElem?_zip_eq_some.mp h1
    obtain ⟨k3, k4⟩ := List.getElem?_zip_eq_some.mp h2
    rw [h3] at k1
    rw [h4] at k3
    constructor
    · intro z
      rw [Option.some.inj k1, Option.some.inj k3, z]
    · intro z
      subst z
      have q := h i j c _ _ h3 h4 k2 k4
      exact Prod.ext ((Option.some.inj k1).symm.trans (Option.some.inj k3)) q⟩
  rw [(ren_alike al).1]
  exact hf
theorem joins_coarse {f g u : List Nat} (j : Joins f g u) {i k a c d : Nat} (h1 : f[i]? = some a) (h2 : f[k]? = some a) (h3 : u[i]? = some c) (h4 : u[k]? = some d) : c = d :=
  (j.2 i k c d h3 h4).mpr (.of (.inl ⟨ltE h1, ltE h2, by rw [h1, h2]⟩))
theorem joins_self (g : List Nat) : Joins g g g := joins_fine rfl fun i j a c d h1 h2 h3 h4 => by
  rw [h3] at h1
  rw [h4] at h2
  exact (Option.some.inj h1).trans (Option.some.inj h2).symm
theorem tell_and {f g : List Nat} {r : Option (Nat × Nat)} (hf : Row f) (e : f.length = g.length) (h : Fst f g r) : decide (ren (f.zip g) = f) = decide (r = none) := by
  cases r with
  | none => rw [ren_zip_fine hf e ((fst_none e).mp h)]; simp
  | some p =>
    obtain ⟨d, o⟩ := p
    obtain ⟨⟨h1, h2, h3, h4⟩, _⟩ := h
    have d1 : d < f.length := by omega
    have n : ren (f.zip g) ≠ f := fun z => by
      have q := (alike_ren (f.zip g)).2 d o _ _ (at0 f d) (at0 f o) (zip_at (of_at0 d1) (of_at0 (e ▸ d1))) (zip_at (of_at0 h2) (of_at0 (e ▸ h2))) (by rw [z]; exact of_at0 d1) (by rw [z]; exact of_at0 h2)
      exact h4 (Prod.mk.inj (q.mpr h3)).2
    rw [decide_eq_false n, decide_eq_false (fun z => nomatch z)]
theorem tell_or {f g u : List Nat} {r : Option (Nat × Nat)} (hg : Row g) (hu : Row u) (e : f.length = g.length) (j : Joins f g u) (h : Fst f g r) : decide (u = g) = decide (r = none) := by
  cases r with
  | none => rw [row_uniq hu hg j (joins_fine e ((fst_none e).mp h))]; simp
  | some p =>
    obtain ⟨d, o⟩ := p
    obtain ⟨⟨h1, h2, h3, h4⟩, _⟩ := h
    have d1 : d < f.length := by omega
    have n : u ≠ g := fun z => by
      rw [z] at j
      exact h4 (joins_coarse j (of_at0 d1) (by rw [h3]; exact of_at0 h2) (of_at0 (e ▸ d1)) (of_at0 (e ▸ h2)))
    rw [decide_eq_false n, decide_eq_false (fun z => nomatch z)]
theorem tell_self (f : List Nat) : Fst f f none := (fst_none rfl).mpr fun i j a c d h1 h2 h3 h4 => by
  rw [h1] at h3
  rw [h2] at h4
  exact (Option.some.inj h3).symm.trans (Option.some.inj h4)
theorem tell_joins {f g u : List Nat} (j : Joins f g u) : Fst f u none := (fst_none j.1.symm).mpr fun _ _ _ _ _ h1 h2 h3 h4 => joins_coarse j h1 h2 h3 h4
theorem tell_pool {f g : List Nat} (e : f.length = g.length) : Fst (ren (f.zip g)) g none := (fst_none (by rw [ren_len, List.length_zip]; omega)).mpr fun i j a c d h1 h2 h3 h4 => by
  have l1 : i < f.length := e ▸ ltE h3
  have l2 : j < f.length := e ▸ ltE h4
  have q := (alike_ren (f.zip g)).2 i j _ _ a a (zip_at (of_at0 l1) h3) (zip_at (of_at0 l2) h4) h1 h2
  exact (Prod.mk.inj (q.mpr rfl)).2
theorem tell_nothing {f : List Nat} {n : Nat} (e : f.length = n) : Fst f (ren (List.replicate n (0 : Int))) none := (fst_none (by rw [ren_len, List.length_replicate]; exact e)).mpr fun i j a c d h1 h2 h3 h4 => by
  have l1 : i < n := e ▸ ltE h1
  have l2 : j < n := e ▸ ltE h2
  exact ((alike_ren (List.replicate n (0 : Int))).2 i j 0 0 c d (List.getElem?_replicate_of_lt l1) (List.getElem?_replicate_of_lt l2) h3 h4).mp rfl
theorem tell_every {g : List Nat} {n : Nat} (e : n = g.length) : Fst (ren ((List.range n).map fun i => ((i : Nat) : Int))) g none := (fst_none (by rw [ren_len, List.length_map, List.length_range]; exact e)).mpr fun i j a c d h1 h2 h3 h4 => by
  have l1 : i < n := e ▸ ltE h3
  have l2 : j < n := e ▸ ltE h4
  have q := (alike_ren ((List.range n).map fun i => ((i : Nat) : Int))).2 i j (i : Int) (j : Int) a a (by rw [List.getElem?_map, List.getElem?_range l1] <;> rfl) (by rw [List.getElem?_map, List.getElem?_range l2] <;> rfl) h1 h2
  have ij : (i : Int) = (j : Int) := q.mpr rfl
  have ij : i = j := by omega
  subst ij
  rw [h3] at h4
  exact Option.some.inj h4
end Ms
set_option Elab.async false
set_option linter.all false
set_option maxRecDepth 100000
set_option maxHeartbeats 4000000
/-! Ms, plain: rows of a product. -/
namespace Ms
section
variable {κ ι : Type} [DecidableEq κ] [DecidableEq ι]
/-- what a row picked of numbered marks is -/
theorem ren_pick {L : List κ} {ds : List Nat} {m : List ι} (hl : ds.length = m.length)
    (h : ∀ (i j d e : Nat) (x y : ι), ds[i]? = some d → ds[j]? = some e → m[i]? = some x → m[j]? = some y → ∃ u v, L[d]? = some u ∧ L[e]? = some v ∧ (u = v ↔ x = y)) :
    ren (ds.map fun d => at0 (ren L) d) = ren m := by
  refine (ren_alike ⟨by rw [List.length_map]; exact hl, fun i j a b c d h1 h2 h3 h4 => ?_⟩).1
  rw [List.getElem?_map] at h1 h2
  cases q1 : ds[i]? with
  | none => rw [q1] at h1; cases h1
  | some d1 => cases q2 : ds[j]? with
    | none => rw [q2] at h2; cases h2
    | some d2 =>
      rw [q1] at h1
      rw [q2] at h2
      obtain ⟨u, v, g1, g2, g3⟩ := h i j d1 d2 c d q1 q2 h3 h4
      have l1 : d1 < (ren L).length := by rw [ren_len]; exact ltE g1
      have l2 : d2 < (ren L).length := by rw [ren_len]; exact ltE g2
      have k := (alike_ren L).2 d1 d2 u v _ _ g1 g2 (of_at0 l1) (of_at0 l2)
      rw [← Option.some.inj h1, ← Option.some.inj h2]
      exact k.symm.trans g3
end
/-- the pairs of two rows, in order -/
abbrev prod (f g : List Nat) : List (Nat × Nat) := f.flatMap fun a => g.map fun b => (a, b)
theorem prod_at (g : List Nat) {j y : Nat} (hj : g[j]? = some y) : ∀ (f : List Nat) (k x : Nat), f[k]? = some x → (prod f g)[k * g.length + j]? = some (x, y)
  | [], k, x, h => by cases h
  | a :: f, 0, x, h => by
    have e : a = x := by simpa using h
    subst e
    rw [Nat.zero_mul, Nat.zero_add]
    show ((g.map fun b => (a, b)) ++ prod f g)[j]? = _
    rw [List.getElem?_append_left (by rw [List.length_map]; exact ltE hj), List.getElem?_map, hj] <;> rfl
  | a :: f, k + 1, x, h => by
    have h : f[k]? = some x := by simpa using h
    show ((g.map fun b => (a, b)) ++ prod f g)[(k + 1) * g.length + j]? = _
    rw [List.getElem?_append_right (by rw [List.length_map, Nat.add_mul]; omega), List.length_map]
    have e : (k + 1) * g.length + j - g.length = k * g.length + j := by rw [Nat.add_mul]; omega
    rw [e]
    exact prod_at g hj f k x h
theorem range_at {n i k : Nat} {h : Nat → Nat} (e : ((List.range n).map h)[i]? = some k) : i < n ∧ k = h i := by
  rw [List.getElem?_map] at e
  by_cases l : i < n
  · rw [List.getElem?_range l] at e
    exact ⟨l, (Option.some.inj e).symm⟩
  · rw [List.getElem?_eq_none (by rw [List.length_range]; omega)] at e
    cases e
theorem pick_first {f g : List Nat} (hf : Row f) {j : Nat} (hj : j < g.length) : ren (((List.range f.length).map fun k => k * g.length + j).map fun d => at0 (ren (prod f g)) d) = f := by
  rw [ren_pick (m := f) (by rw [List.length_map, List.length_range]) fun a b d e x y h1 h2 h3 h4 => ?_]
  · exact hf
  obtain ⟨l1, rfl⟩ := range_at h1
  obtain ⟨l2, rfl⟩ := range_at h2
  exact ⟨_, _, prod_at g (of_at0 hj) f a x h3, prod_at g (of_at0 hj) f b y h4, ⟨fun z => (Prod.mk.inj z).1, fun z => by rw [z]⟩⟩
theorem pick_second {f g : List Nat} (hg : Row g) {i : Nat} (hi : i < f.length) : ren (((List.range g.length).map fun k => i * g.length + k).map fun d => at0 (ren (prod f g)) d) = g := by
  rw [ren_pick (m := g) (by rw [List.length_map, List.length_range]) fun a b d e x y h1 h2 h3 h4 => ?_]
  · exact hg
  obtain ⟨l1, rfl⟩ := range_at h1
  obtain ⟨l2, rfl⟩ := range_at h2
  exact ⟨_, _, prod_at g h3 f i _ (of_at0 hi), prod_at g h4 f i _ (of_at0 hi), ⟨fun z => (Prod.mk.inj z).2, fun z => by rw [z]⟩⟩
theorem pick_all {f : List Nat} (hf : Row f) : ren ((List.range f.length).map fun d => at0 f d) = f := by
  have e : (List.range f.length).map (fun d => at0 f d) = f := by
    refine List.ext_getElem? fun i => ?_
    by_cases l : i < f.length
    · rw [List.getElem?_map, List.getElem?_range l, of_at0 l] <;> rfl
    · rw [List.getElem?_eq_none (by rw [List.length_map, List.length_range]; omega), List.getElem?_eq_none (by omega)]
  rw [e]
  exact hf
end Ms
set_option Elab.async false
set_option linter.all false
set_option maxRecDepth 100000
set_option maxHeartbeats 4000000
/-! Ms, plain: how many sights there are, and in which order they stand. -/
namespace Ms
/-- how many ways to go on for n deals where m marks are in use -/
def goOn : Nat → Nat → Nat
  | 0, _ => 1
  | n + 1, m => m * goOn n m + goOn n (m + 1)
/-- sums of neighbours, k times -/
def nb (f : Nat → Nat) : Nat → Nat → Nat
  | 0, n => f n
  | k + 1, n => nb f k n + nb f k (n + 1)
theorem nb_add (f g : Nat → Nat) : ∀ k n, nb (fun i => f i + g i) k n = nb f k n + nb g k n
  | 0, _ => rfl
  | k + 1, n => by
    unfold nb
    rw [nb_add f g k n, nb_add f g k (n + 1)]
    omega
theorem nb_mul (c : Nat) (f : Nat → Nat) : ∀ k n, nb (fun i => c * f i) k n = c * nb f k n
  | 0, _ => rfl
  | k + 1, n => by
    unfold nb
    rw [nb_mul c f k n, nb_mul c f k (n + 1), Nat.mul_add]
theorem nb_up (f : Nat → Nat) : ∀ k n, nb (fun i => f (i + 1)) k n = nb f k (n + 1)
  | 0, _ => rfl
  | k + 1, n => by
    unfold nb
    rw [nb_up f k n, nb_up f k (n + 1)]
theorem nb_goOn : ∀ n m, nb (fun i => goOn i m) n 0 = goOn n (m + 1)
  | 0, _ => rfl
  | n + 1, m => by
    have e : nb (fun i => goOn i m) n 1 = m * goOn n (m + 1) + goOn n (m + 2) := by
      rw [← nb_up (fun i => goOn i m) n 0]
      show nb (fun i => m * goOn i m + goOn i (m + 1)) n 0 = _
      rw [nb_add, nb_mul, nb_goOn n m, nb_goOn n (m + 1)]
    show nb (fun i => goOn i m) n 0 + nb (fun i => goOn i m) n 1 = (m + 1) * goOn n (m + 1) + goOn n (m + 2)
    rw [e, nb_goOn n m, Nat.add_mul, Nat.one_mul]
    omega
/-- the rows of the triangle of neighbours' sums -/
def tri (n : Nat) : List Nat := (List.range (n + 1)).map fun k => nb (fun i => goOn i 0) k (n - k)
theorem tri_len (n : Nat) : (tri n).length = n + 1 := by unfold tri; rw [List.length_map, List.length_range]
theorem tri_at {n k : Nat} (h : k ≤ n) : (tri n)[k]? = some (nb (fun i => goOn i 0) k (n - k)) := by
  unfold tri
  rw [List.getElem?_map, List.getElem?_range (by omega)] <;> rfl
theorem goOn_one (n : Nat) : goOn (n + 1) 0 = goOn n 1 := by
  show 0 * goOn n 0 + goOn n 1 = goOn n 1
  omega
theorem tri_last (n : Nat) : (tri n)[n]? = some (goOn n 1) := by rw [tri_at (Nat.le_refl n), Nat.sub_self, nb_goOn]
theorem tri_first (n : Nat) : (tri (n + 1))[0]? = some (goOn n 1) := by
  rw [tri_at (Nat.zero_le _), Nat.sub_zero, ← goOn_one] <;> rfl
theorem tri_next {n k a b : Nat} (h : k ≤ n) (h1 : (tri (n + 1))[k]? = some a) (h2 : (tri n)[k]? = some b) : (tri (n + 1))[k + 1]? = some (a + b) := by
  rw [tri_at (by omega)] at h1 h2 ⊢
  have e : n + 1 - (k + 1) = n - k := by omega
  have e2 : n + 1 - k = n - k + 1 := by omega
  rw [e]
  rw [e2] at h1
  rw [← Option.some.inj h1, ← Option.some.inj h2]
  show some (nb _ k (n - k) + nb _ k (n - k + 1)) = _
  rw [Nat.add_comm]
/-- the numbers of rows of n + 1 deals with k + 1 marks -/
def stir : Nat → Nat → Nat
  | 0, 0 => 1
  | 0, _ + 1 => 0
  | n + 1, 0 => stir n 0
  | n + 1, k + 1 => stir n (k + 1) * (k + 2) + stir n k
def upTo (f : Nat → Nat) : Nat → Nat
  | 0 => 0
  | n + 1 => upTo f n + f n
theorem upTo_add (f g : Nat → Nat) : ∀ n, upTo (fun i => f i + g i) n = upTo f n + upTo g n
  | 0 => rfl
  | n + 1 => by
    unfold upTo
    rw [upTo_add f g n]
    omega
theorem upTo_first (f : Nat → Nat) : ∀ n, upTo f (n + 1) = f 0 + upTo (fun i => f (i + 1)) n
  | 0 => by show 0 + f 0 = f 0 + 0; omega
  | n + 1 => by
    show upTo f (n + 1) + f (n + 1) = f 0 + (upTo (fun i => f (i + 1)) n + f (n + 1))
    rw [upTo_first f n]
    omega
theorem upTo_congr {f g : Nat → Nat} : ∀ n, (∀ i, i < n → f i = g i) → upTo f n = upTo g n
  | 0, _ => rfl
  | n + 1, h => by
    unfold upTo
    rw [upTo_congr n fun i hi => h i (by omega), h n (by omega)]
theorem stir_out : ∀ n k, n < k → stir n k = 0
  | 0, 0, h => absurd h (Nat.lt_irrefl _)
  | 0, k + 1, _ => rfl
  | n + 1, 0, h => absurd h (Nat.not_lt_zero _)
  | n + 1, k + 1, h => by
    unfold stir
    rw [stir_out n (k + 1) (by omega), stir_out n k (by omega)]
    omega
theorem stir_goOn : ∀ n j, upTo (fun k => stir n k * goOn j (k + 1)) (n + 1) = goOn (n + j) 1
  | 0, j => by
    show 0 + 1 * goOn j 1 = goOn (0 + j) 1
    rw [Nat.zero_add, Nat.one_mul, Nat.zero_add]
  | n + 1, j => by
    have ih := stir_goOn n (j + 1)
    rw [show n + (j + 1) = n + 1 + j from by omega] at ih
    rw [← ih]
    have e1 : upTo (fun k => stir n k * goOn (j + 1) (k + 1)) (n + 1) = upTo (fun k => stir n k * (k + 1) * goOn j (k + 1)) (n + 1) + upTo (fun k => stir n k * goOn j (k + 2)) (n + 1) := by
      rw [← upTo_add]
      refine upTo_congr _ fun i _ => ?_
      show stir n i * ((i + 1) * goOn j (i + 1) + goOn j (i + 2)) = _
      rw [Nat.mul_add, Nat.mul_assoc]
    rw [e1, upTo_first]
    have e2 : upTo (fun i => stir (n + 1) (i + 1) * goOn j (i + 1 + 1)) (n + 1) = upTo (fun i => stir n (i + 1) * (i + 2) * goOn j (i + 2)) (n + 1) + upTo (fun k => stir n k * goOn j (k + 2)) (n + 1) := by
      rw [← upTo_add]
      refine upTo_congr _ fun i _ => ?_
      show (stir n (i + 1) * (i + 2) + stir n i) * goOn j (i + 2) = _
      rw [Nat.add_mul]
    rw [e2]
    have e3 : upTo (fun k => stir n k * (k + 1) * goOn j (k + 1)) (n + 1) = stir n 0 * goOn j 1 + upTo (fun i => stir n (i + 1) * (i + 2) * goOn j (i + 2)) n := by
      rw [upTo_first]
      show stir n 0 * 1 * goOn j 1 + _ = _
      rw [Nat.mul_one]
    have e4 : upTo (fun i => stir n (i + 1) * (i + 2) * goOn j (i + 2)) (n + 1) = upTo (fun i => stir n (i + 1) * (i + 2) * goOn j (i + 2)) n := by
      show _ + stir n (n + 1) * (n + 2) * goOn j (n + 2) = _
      rw [stir_out n (n + 1) (by omega)]
      simp
    rw [e3, e4]
    show stir n 0 * goOn j 1 + _ = _
    omega
end Ms
set_option Elab.async false
set_option linter.all false
set_option maxRecDepth 100000
set_option maxHeartbeats 4000000
/-! Ms, plain: all rows of marks, in their order, and the row after a row. -/
namespace Ms
def mx (r : List Nat) : Nat := r.foldr max 0
theorem mx_cons (a : Nat) (r : List Nat) : mx (a :: r) = max a (mx r) := rfl
theorem mx_snoc (r : List Nat) (a : Nat) : mx (r ++ [a]) = max (mx r) a := by
  induction r with
  | nil => show max a 0 = max 0 a; omega
  | cons b r ih =>
    show max b (mx (r ++ [a])) = max (max b (mx r)) a
    rw [ih]
    omega
/-- the row after, of a row told from its end -/
def nxtR : List Nat → Option (List Nat)
  | [] => none
  | [_] => none
  | m :: k :: r => if m ≤ mx (k :: r) then some ((m + 1) :: k :: r) else (nxtR (k :: r)).map (0 :: ·)
def nxt (r : List Nat) : Option (List Nat) := (nxtR r.reverse).map List.reverse
theorem mx_rev (r : List Nat) : mx r.reverse = mx r := by
  induction r with
  | nil => rfl
  | cons a r ih =>
    rw [List.reverse_cons, mx_snoc, ih, mx_cons]
    omega
theorem nxt_one (m : Nat) : nxt [m] = none := rfl
theorem nxt_snoc {r : List Nat} (h : r ≠ []) (m : Nat) : nxt (r ++ [m]) = if m ≤ mx r then some (r ++ [m + 1]) else (nxt r).map (· ++ [0]) := by
  unfold nxt
  rw [List.reverse_append, List.reverse_singleton, List.singleton_append, ← mx_rev r]
  cases e : r.reverse with
  | nil => exact absurd (List.reverse_eq_nil_iff.mp e) h
  | cons k t =>
    have er : r = (k :: t).reverse := by rw [← e, List.reverse_reverse]
    rw [er]
    rw [show nxtR (m :: k :: t) = if m ≤ mx (k :: t) then some ((m + 1) :: k :: t) else (nxtR (k :: t)).map (0 :: ·) from rfl]
    by_cases c : m ≤ mx (k :: t)
    · rw [if_pos c, if_pos c]
      simp
    · rw [if_neg c, if_neg c]
      simp only [Option.map_map]
      congr 1
      funext z
      simp
/-- a list of rows in which each is the one after -/
inductive Walks : List (List Nat) → Prop
  | one {r} : nxt r = none → Walks [r]
  | cons {r r' t} : nxt r = some r' → Walks (r' :: t) → Walks (r :: r' :: t)
theorem Walks.last {rows : List (List Nat)} (w : Walks rows) : ∀ {i : Nat} {r : List Nat}, rows[i]? = some r → nxt r = rows[i + 1]? := by
  induction w with
  | one h =>
    intro i r e
    cases i with
    | zero => rw [← Option.some.inj e]; exact h
    | succ => cases e
  | cons h _ ih =>
    intro i r e
    cases i with
    | zero => rw [← Option.some.inj e]; exact h
    | succ i => exact ih (by simpa using e)
def ext (r : List Nat) : List (List Nat) := (List.range (mx r + 2)).map fun m => r ++ [m]
def rgs : Nat → List (List Nat)
  | 0 => [[0]]
  | n + 1 => (rgs n).flatMap ext
theorem block {r : List Nat} (hr : r ≠ []) {T : List (List Nat)} (hT : (T = [] ∧ nxt r = none) ∨ ∃ r' t, T = (r' ++ [0]) :: t ∧ nxt r = some r' ∧ Walks T) :
    ∀ c m, m + c = mx r + 1 → Walks ((List.range' m (c + 1)).map (fun m => r ++ [m]) ++ T)
  | 0, m, e => by
    have n : ¬ m ≤ mx r := by omega
    rcases hT with ⟨rfl, h⟩ | ⟨r', t, rfl, h, w⟩
    · refine .one ?_
      rw [nxt_snoc hr, if_neg n, h] <;> rfl
    · refine .cons ?_ w
      rw [nxt_snoc hr, if_neg n, h] <;> rfl
  | c + 1, m, e => by
    have ih := block hr hT c (m + 1) (by omega)
    refine .cons ?_ ih
    rw [nxt_snoc hr, if_pos (by omega)]
theorem ext_eq (r : List Nat) : ext r = (List.range' 0 (mx r + 1 + 1)).map fun m => r ++ [m] := by
  unfold ext
  rw [List.range_eq_range']
theorem walks_ext {rows : List (List Nat)} (w : Walks rows) : (∀ r ∈ rows, r ≠ []) → Walks (rows.flatMap ext) ∧ ∀ r, rows.head? = some r → (rows.flatMap ext).head? = some (r ++ [0]) := by
  have hd : ∀ (r : List Nat) (t : List (List Nat)), (ext r ++ t).head? = some (r ++ [0]) := fun r t => by
    rw [ext_eq]
    rfl
  induction w with
  | @one r h =>
    intro ne
    rw [List.flatMap_cons, List.flatMap_nil]
    refine ⟨?_, fun r' e => ?_⟩
    · rw [ext_eq]
      exact block (ne _ (List.mem_singleton.mpr rfl)) (.inl ⟨rfl, h⟩) _ 0 (by omega)
    · rw [← Option.some.inj e]
      exact hd r []
  | @cons r r' t h w ih =>
    intro ne
    obtain ⟨ih1, ih2⟩ := ih fun x hx => ne x (List.mem_cons_of_mem _ hx)
    rw [List.flatMap_cons]
    refine ⟨?_, fun r'' e => ?_⟩
    · rw [ext_eq]
      have q := ih2 r' rfl
      cases e : (r' :: t).flatMap ext with
      | nil => rw [e] at q; cases q
      | cons x xs =>
        rw [e] at q ih1
        refine block (ne _ (List.mem_cons_self ..)) (.inr ⟨r', xs, ?_, h, ih1⟩) _ 0 (by omega)
        rw [← Option.some.inj q]
    · rw [← Option.some.inj e]
      exact hd r _
theorem rgs_len : ∀ n, ∀ r ∈ rgs n, r.length = n + 1
  | 0, r, h => by rw [List.mem_singleton.mp h] <;> rfl
  | n + 1, r, h => by
    obtain ⟨a, ha, hr⟩ := List.mem_flatMap.mp h
    unfold ext at hr
    obtain ⟨m, _, rfl⟩ := List.mem_map.mp hr
    rw [List.length_append, rgs_len n a ha] <;> rfl
theorem rgs_walks : ∀ n, Walks (rgs n) ∧ (rgs n).head? = some (List.replicate (n + 1) 0)
  | 0 => ⟨.one rfl, rfl⟩
  | n + 1 => by
    obtain ⟨w, h⟩ := rgs_walks n
    obtain ⟨w1, h1⟩ := walks_ext w fun r hr e => by
      have q := rgs_len n r hr
      rw [e] at q
      cases q
    refine ⟨w1, ?_⟩
    have q := h1 _ h
    rw [← List.replicate_succ'] at q
    exact q
theorem sum_ext (j : Nat) (r : List Nat) : ((ext r).map fun x => goOn j (mx x + 1)).sum = goOn (j + 1) (mx r + 1) := by
  have key : ∀ c, c ≤ mx r + 1 → (((List.range c).map fun m => r ++ [m]).map fun x => goOn j (mx x + 1)).sum = c * goOn j (mx r + 1) := fun c => by
    induction c with
    | zero => intro _; simp
    | succ c ih =>
      intro hc
      rw [List.range_succ, List.map_append, List.map_append, List.sum_append, ih (by omega)]
      show _ + (goOn j (mx (r ++ [c]) + 1) + 0) = _
      rw [mx_snoc, show max (mx r) c = mx r from by omega, Nat.add_mul, Nat.one_mul]
      omega
  unfold ext
  rw [show mx r + 2 = (mx r + 1) + 1 from rfl, List.range_succ, List.map_append, List.map_append, List.sum_append, key _ (Nat.le_refl _)]
  show _ + (goOn j (mx (r ++ [mx r + 1]) + 1) + 0) = _
  rw [mx_snoc, show max (mx r) (mx r + 1) = mx r + 1 from by omega]
  show _ = (mx r + 1) * goOn j (mx r + 1) + goOn j (mx r + 1 + 1)
  omega
theorem sum_flat (j : Nat) : ∀ rows : List (List Nat), ((rows.flatMap ext).map fun x => goOn j (mx x + 1)).sum = (rows.map fun x => goOn (j + 1) (mx x + 1)).sum
  | [] => rfl
  | r :: rows => by
    rw [List.flatMap_cons, List.map_append, List.sum_append, sum_ext, sum_flat j rows] <;> rfl
theorem rgs_goOn : ∀ n j, ((rgs n).map fun x => goOn j (mx x + 1)).sum = goOn (n + j) 1
  | 0, j => by
    show goOn j 1 + 0 = goOn (0 + j) 1
    rw [Nat.zero_add] <;> rfl
  | n + 1, j => by
    show (((rgs n).flatMap ext).map fun x => goOn j (mx x + 1)).sum = _
    rw [sum_flat, rgs_goOn n (j + 1), show n + (j + 1) = n + 1 + j from by omega]
/-- the count -/
theorem rgs_count (n : Nat) : (rgs n).length = goOn n 1 := by
  have q := rgs_goOn n 0
  rw [Nat.add_zero] at q
  rw [← q]
  generalize rgs n = l
  induction l with
  | nil => rfl
  | cons a l ih =>
    rw [List.length_cons, List.map_cons, List.sum_cons, ← ih]
    show _ = 1 + l.length
    omega
end Ms
set_option Elab.async false
set_option linter.all false
set_option maxRecDepth 100000
set_option maxHeartbeats 4000000
/-! Ms: other == one, where one's class has an own __eq__ and other is of a builtin type. -/
namespace Ms
open PySem PySem.Spec PyProof.Rows L2
open PySem.AutoSeq1 (wpAny_loadPart')
open PySem.MeetsSeq
theorem int_eq_declines_ins (b : Int) (u : Tok) (l C dx : Addr) :
    Meets (Builtin.«int.__eq__» ⟨[.int b u, .ref l], []⟩) (fun _ R s => s.heap.get? l = some (PySem.W.instObj C dx) ∧ R (.ok (.ret .notImplemented)) s) :=
  .of_wp fun prog w A R s h => by obtain ⟨hp, g, d, tk, os⟩ := s; obtain ⟨hl, h⟩ := h; unfold PySem.W.instObj at hl; wp_walk using wpAny_loadPart' hl, wpAny_load hl; exact ⟨_, rfl, h⟩
theorem str_eq_declines_ins (b : Str) (u : Tok) (l C dx : Addr) :
    Meets (Builtin.«str.__eq__» ⟨[.str b u, .ref l], []⟩) (fun _ R s => s.heap.get? l = some (PySem.W.instObj C dx) ∧ R (.ok (.ret .notImplemented)) s) :=
  .of_wp fun prog w A R s h => by obtain ⟨hp, g, d, tk, os⟩ := s; obtain ⟨hl, h⟩ := h; unfold PySem.W.instObj at hl; wp_walk using wpAny_loadPart' hl, wpAny_load hl; exact ⟨_, rfl, h⟩
theorem list_eq_declines_ins (a l C dx : Addr) (items : Array Value) (n : Nat) (dd : Option Addr) (sl : Array (Option Value)) :
    Meets (Builtin.«list.__eq__» ⟨[.ref a, .ref l], []⟩) (fun _ R s => s.heap.get? a = some { cls := .type "list", dict := dd, data := .seq items n, slots := sl } ∧ s.heap.get? l = some (PySem.W.instObj C dx) ∧ (∀ M, PySem.W.Looks M s.heap (isSubtype (.ref C) (.type "list")) false) ∧ R (.ok (.ret .notImplemented)) s) :=
  .of_wp fun prog w A R s h => by
    obtain ⟨hp, g, d, tk, os⟩ := s; obtain ⟨hl, hx, hs, h⟩ := h; unfold PySem.W.instObj at hx
    wp_walk using wpAny_loadPart' hl, wpAny_load hl, wpAny_loadPart' hx, wpAny_load hx
    refine (hs (model prog w)).here ?_
    simp only [Bool.not_false, if_true]
    wp_walk
    exact ⟨_, rfl, h⟩
theorem tuple_eq_declines_ins (a l C dx : Addr) (items : Array Value) (n : Nat) (dd : Option Addr) (sl : Array (Option Value)) :
    Meets (Builtin.«tuple.__eq__» ⟨[.ref a, .ref l], []⟩) (fun _ R s => s.heap.get? a = some { cls := .type "tuple", dict := dd, data := .seq items n, slots := sl } ∧ s.heap.get? l = some (PySem.W.instObj C dx) ∧ (∀ M, PySem.W.Looks M s.heap (isSubtype (.ref C) (.type "tuple")) false) ∧ R (.ok (.ret .notImplemented)) s) :=
  .of_wp fun prog w A R s h => by
    obtain ⟨hp, g, d, tk, os⟩ := s; obtain ⟨hl, hx, hs, h⟩ := h; unfold PySem.W.instObj at hx
    wp_walk using wpAny_loadPart' hl, wpAny_load hl, wpAny_loadPart' hx, wpAny_load hx
    refine (hs (model prog w)).here ?_
    simp only [Bool.not_false, if_true]
    wp_walk
    exact ⟨_, rfl, h⟩
section
variable {prog : Program} {w : World} {A : Around} {E : Value → Shared → Prop} {s : Shared} {K : PySem.W.Frag} {x C L f : Addr} {h₀ : Heap} {m : Str → Option Value} {ox : Obj} {od : Option Obj} {a : Value} {Ta id : String}
open PySem.W in
theorem cmp_back {Q : Value → Shared → Prop} (hu : A.units < cLine) (F : Fr h₀ L s.heap m) (X₀ : K.In h₀) (I : InstAt s.heap x ox C od) (ha : s.TypeIs a Ta) (hsub : subIn K (.ref C) (.type Ta) = some false) (h1 : Slot Ta "__eq__" id)
    (hs : findIn K (.ref C) "__eq__" = some (some (.ref f))) (hf : isFn K (.ref f) = true)
    (hc : ∀ R : Value → Shared → Prop, R .notImplemented s → wpAny (model prog w) A (call (.builtin id) [a, .ref x]) R E s)
    (h : wpAny (model prog w) A (call (.ref f) [.ref x, a]) (PySem.W.CmpBack Q) E s) : wpAny (model prog w) A (richCompare .Eq a (.ref x)) Q E s := by
  have X := X₀.keeps F.keep
  have one : wpAny (model prog w) A (tryCompare (.ref x) "__eq__" a) (fun r s' => ∃ v, r = some v ∧ Q v s') E s := by
    unfold tryCompare
    refine wpAny_bind (ifBound_K X I hs hf (wpAny_mono h (fun v s' hv => ?_) fun _ _ e => e))
    cases v <;> first | exact hv.elim | exact wpAny_pure ⟨_, rfl, hv⟩
  unfold richCompare
  simp only [ha.oneThing_none]
  refine wpAny_holding (wpAny_bind (wpAny_cRoomFor hu ?_))
  refine wpAny_bind (wpAny_typeOf ha (wpAny_bind (I.type.here ?_)))
  have ne : (Value.type Ta != Value.ref C) = true := by simp
  simp only [ne, if_true]
  refine wpAny_bind ((looks_subIn X hsub).here ?_)
  simp only [Bool.false_eq_true, if_false, Bool.not_false, if_true]
  refine wpAny_bind (m := tryCompare a _ (.ref x)) (wpAny_tryCompare_declines ha h1 (hc _ ⟨rfl, ?_⟩))
  refine wpAny_bind (m := tryCompare (.ref x) _ a) (wpAny_mono one (fun r s' z => ?_) fun _ _ e => e)
  obtain ⟨v, rfl, hq⟩ := z
  exact wpAny_pure hq
end
inductive TyL (K : PySem.W.Frag) (H : Hp) : V → String → Prop where
  | non : TyL K H .non "NoneType"
  | int (i : Int) : TyL K H (.int i) "int"
  | str (x : Str) : TyL K H (.str x) "str"
  | lst {a : Addr} {xs : List V} (h : SqL K H a xs) : TyL K H (.ref a) "list"
  | tup {a : Addr} {xs : List V} (h : SqT K H a xs) : TyL K H (.ref a) "tuple"
/-- x == one: one's class has an own __eq__, x is of a builtin type; or x is an instance of a class with an own __eq__ -/
def tEqX (K : PySem.W.Frag) (C C' : Addr) (sp sp' : Sp) (E : L2.St → XK) (ta tb : TE) : TE := fun σ H Q => ta σ H fun x H1 => tb σ H1 fun y H2 =>
  (∃ a dx fs t, x = .ref a ∧ H2 a = some (.ins C' dx fs) ∧ TyX K H2 y t ∧ PySem.W.notFirst K C' t = true ∧ sp' [x, y] H2 Q (E σ)) ∨
  (∃ b dx fs T, y = .ref b ∧ H2 b = some (.ins C dx fs) ∧ TyL K H2 x T ∧ PySem.W.subIn K (.ref C) (.type T) = some false ∧ sp [y, x] H2 Q (E σ))
section
variable {X : Cx} {k k' j : Nat} {sp sp' : Sp} {E : L2.St → XK} {c c' : Str} {pos : Pos} {a b : Expr} {ta tb : TE}
theorem pe_eqX (K : PySem.W.Frag) (F : BOk X.prog X.w X.K X.mg X.base c "__eq__" k sp) (F' : BOk X.prog X.w X.K X.mg X.base c' "__eq__" k' sp') (hr : Room j X.A) (hk : k ≤ j) (hk' : k' ≤ j) (hx : ∀ σ, PassesAt (L2.CX X.prog X.w) X σ (E σ)) (ha : PE X a ta) (hb' : PE X b tb) (hK : X.K = K := by rfl) :
    PE X (.Compare a [.Eq] [b] pos) (tEqX K (He.ga K c) (He.ga K c') sp sp' E ta tb) := by
  subst hK
  obtain ⟨fd, ps, F1, hb⟩ := F.ex
  obtain ⟨fd', ps', F1', hb2⟩ := F'.ex
  refine ⟨fun pins s σ H Q I h => ?_⟩
  refine wpAny_Compare1 (binT ha hb' I h fun v u s2 x y H2 I2 rx ry q => ?_) (nomark _)
  obtain ⟨mm, hF⟩ := I2.fr
  show wpAny (model X.prog X.w) X.A (richCompare .Eq v u) (EP X pins σ Q) X.xe s2
  rcases q with ⟨a1, dx, fs, t, rfl, h1, ty, nf, q⟩ | ⟨b1, dx, fs, T, rfl, h1, ty, sb, q⟩
  · cases rx
    obtain ⟨mA, J, _⟩ := ins_get I2.hok h1
    obtain ⟨od, J, _⟩ := J.look
    obtain ⟨P, Z, pz, _⟩ := kit_of I2 ry ty
    refine PySem.W.cmp_K (op := .Eq) (tb := t) hr.units0 hF I2.ok.mod.kin J (Z.ty _ _ I2.kIn pz) nf F'.fi F'.fn ?_
    exact thn (run_fnS (us := [.ref a1, u]) (vs := [.ref a1, y]) F1' (hr.mono hk') hb2 (hx σ) I2 (.cons rfl (.cons ry .nil)) q) fun v s3 ⟨z, H3, I3, r3, q3⟩ => cmpBack_rel r3 ⟨z, H3, I3, r3, q3⟩
  cases ry
  obtain ⟨mA, J0, _⟩ := ins_get I2.hok h1
  obtain ⟨od, J, _⟩ := J0.look
  have ho := J0.obj
  have fin : wpAny (model X.prog X.w) X.A (call (.ref (He.ma X.K (He.ga X.K c) "__eq__")) [.ref b1, v]) (PySem.W.CmpBack (EP X pins σ Q)) X.xe s2 :=
    thn (run_fnS (us := [.ref b1, v]) (vs := [.ref b1, x]) F1 (hr.mono hk) hb (hx σ) I2 (.cons rfl (.cons rx .nil)) q) fun v s3 ⟨z, H3, I3, r3, q3⟩ => cmpBack_rel r3 ⟨z, H3, I3, r3, q3⟩
  have lk : ∀ M, PySem.W.Looks M s2.heap (isSubtype (.ref (He.ga X.K c)) (.type T)) false := fun M => PySem.W.looks_subIn I2.kIn sb
  cases ty with
  | non =>
    cases (show v = Value.none from rx)
    exact cmp_back hr.units0 hF I2.ok.mod.kin J rfl sb PySem.F.slot_NoneType_eq F.fi F.fn (fun R hR => call_gives PySem.F.slot_NoneType_eq rfl PySem.F.entry_NoneType_eq (PySem.F.args_NoneType_eq_2 _ _) (PySem.SeqAt.NoneType___eq___none_ref_0 _) hR) fin
  | int i =>
    obtain ⟨t, rfl⟩ := (show ∃ t, v = Value.int i t from rx)
    exact cmp_back hr.units0 hF I2.ok.mod.kin J (typeIs_int s2 i t) sb PySem.F.slot_int_eq F.fi F.fn (fun R hR => call_meets PySem.F.slot_int_eq (typeIs_int s2 i t) PySem.F.entry_int_eq (PySem.F.args_int_eq_2 _ _) (int_eq_declines_ins i t b1 _ dx) ⟨ho, hR⟩) fin
  | str i =>
    obtain ⟨t, rfl⟩ := (show ∃ t, v = Value.str i t from rx)
    exact cmp_back hr.units0 hF I2.ok.mod.kin J (typeIs_str s2 i t) sb PySem.F.slot_str_eq F.fi F.fn (fun R hR => call_meets PySem.F.slot_str_eq (typeIs_str s2 i t) PySem.F.entry_str_eq (PySem.F.args_str_eq_2 _ _) (str_eq_declines_ins i t b1 _ dx) ⟨ho, hR⟩) fin
  | lst h =>
    cases rx
    obtain ⟨its, rv, ⟨⟨oc, od', odat, osl⟩, n, e, e1, e2, e3⟩, _⟩ := I2.list h
    simp only at e1 e2 e3
    subst e1 e2 e3
    exact cmp_back hr.units0 hF I2.ok.mod.kin J ⟨_, e, rfl⟩ sb PySem.F.slot_list_eq F.fi F.fn (fun R hR => call_meets PySem.F.slot_list_eq ⟨_, e, rfl⟩ PySem.F.entry_list_eq (PySem.F.args_list_eq_2 _ _) (list_eq_declines_ins _ b1 _ dx _ n _ _) ⟨e, ho, lk, hR⟩) fin
  | tup h =>
    cases rx
    obtain ⟨its, rv, ⟨⟨oc, od', odat, osl⟩, e, e1, n, e3⟩, _⟩ := I2.tuple h
    simp only at e1 e3
    subst e1 e3
    exact cmp_back hr.units0 hF I2.ok.mod.kin J ⟨_, e, rfl⟩ sb PySem.F.slot_tuple_eq F.fi F.fn (fun R hR => call_meets PySem.F.slot_tuple_eq ⟨_, e, rfl⟩ PySem.F.entry_tuple_eq (PySem.F.args_tuple_eq_2 _ _) (tuple_eq_declines_ins _ b1 _ dx _ n _ _) ⟨e, ho, lk, hR⟩) fin
def rEqX (K : PySem.W.Frag) (C C' : Addr) (sp sp' : Sp) (E : XK) : R2 := fun x y H2 Q =>
  (∃ a dx fs t, x = .ref a ∧ H2 a = some (.ins C' dx fs) ∧ TyX K H2 y t ∧ PySem.W.notFirst K C' t = true ∧ sp' [x, y] H2 Q E) ∨
  (∃ b dx fs T, y = .ref b ∧ H2 b = some (.ins C dx fs) ∧ TyL K H2 x T ∧ PySem.W.subIn K (.ref C) (.type T) = some false ∧ sp [y, x] H2 Q E)
theorem op_eqX (K : PySem.W.Frag) {E : XK} (F : BOk X.prog X.w X.K X.mg X.base c "__eq__" k sp) (F' : BOk X.prog X.w X.K X.mg X.base c' "__eq__" k' sp') (hr : Room j X.A) (hk : k ≤ j) (hk' : k' ≤ j) (hx : ∀ σ, PassesAt (L2.CX X.prog X.w) X σ E) (hK : X.K = K := by rfl) :
    OpR X (compareOp .Eq) (rEqX K (He.ga K c) (He.ga K c') sp sp' E) := by
  subst hK
  obtain ⟨fd, ps, F1, hb⟩ := F.ex
  obtain ⟨fd', ps', F1', hb2⟩ := F'.ex
  intro pins s2 σ H2 x y v u Q I2 rx ry q
  obtain ⟨mm, hF⟩ := I2.fr
  show wpAny (model X.prog X.w) X.A (richCompare .Eq v u) (EP X pins σ Q) X.xe s2
  rcases q with ⟨a1, dx, fs, t, rfl, h1, ty, nf, q⟩ | ⟨b1, dx, fs, T, rfl, h1, ty, sb, q⟩
  · cases rx
    obtain ⟨mA, J, _⟩ := ins_get I2.hok h1
    obtain ⟨od, J, _⟩ := J.look
    obtain ⟨P, Z, pz, _⟩ := kit_of I2 ry ty
    refine PySem.W.cmp_K (op := .Eq) (tb := t) hr.units0 hF I2.ok.mod.kin J (Z.ty _ _ I2.kIn pz) nf F'.fi F'.fn ?_
    exact thn (run_fnS (E := fun _ => E) (us := [.ref a1, u]) (vs := [.ref a1, y]) F1' (hr.mono hk') hb2 (hx σ) I2 (.cons rfl (.cons ry .nil)) q) fun v s3 ⟨z, H3, I3, r3, q3⟩ => cmpBack_rel r3 ⟨z, H3, I3, r3, q3⟩
  cases ry
  obtain ⟨mA, J0, _⟩ := ins_get I2.hok h1
  obtain ⟨od, J, _⟩ := J0.look
  have ho := J0.obj
  have fin : wpAny (model X.prog X.w) X.A (call (.ref (He.ma X.K (He.ga X.K c) "__eq__")) [.ref b1, v]) (PySem.W.CmpBack (EP X pins σ Q)) X.xe s2 :=
    thn (run_fnS (E := fun _ => E) (us := [.ref b1, v]) (vs := [.ref b1, x]) F1 (hr.mono hk) hb (hx σ) I2 (.cons rfl (.cons rx .nil)) q) fun v s3 ⟨z, H3, I3, r3, q3⟩ => cmpBack_rel r3 ⟨z, H3, I3, r3, q3⟩
  have lk : ∀ M, PySem.W.Looks M s2.heap (isSubtype (.ref (He.ga X.K c)) (.type T)) false := fun M => PySem.W.looks_subIn I2.kIn sb
  cases ty with
  | non =>
    cases (show v = Value.none from rx)
    exact cmp_back hr.units0 hF I2.ok.mod.kin J rfl sb PySem.F.slot_NoneType_eq F.fi F.fn (fun R hR => call_gives PySem.F.slot_NoneType_eq rfl PySem.F.entry_NoneType_eq (PySem.F.args_NoneType_eq_2 _ _) (PySem.SeqAt.NoneType___eq___none_ref_0 _) hR) fin
  | int i =>
    obtain ⟨t, rfl⟩ := (show ∃ t, v = Value.int i t from rx)
    exact cmp_back hr.units0 hF I2.ok.mod.kin J (typeIs_int s2 i t) sb PySem.F.slot_int_eq F.fi F.fn (fun R hR => call_meets PySem.F.slot_int_eq (typeIs_int s2 i t) PySem.F.entry_int_eq (PySem.F.args_int_eq_2 _ _) (int_eq_declines_ins i t b1 _ dx) ⟨ho, hR⟩) fin
  | str i =>
    obtain ⟨t, rfl⟩ := (show ∃ t, v = Value.str i t from rx)
    exact cmp_back hr.units0 hF I2.ok.mod.kin J (typeIs_str s2 i t) sb PySem.F.slot_str_eq F.fi F.fn (fun R hR => call_meets PySem.F.slot_str_eq (typeIs_str s2 i t) PySem.F.entry_str_eq (PySem.F.args_str_eq_2 _ _) (str_eq_declines_ins i t b1 _ dx) ⟨ho, hR⟩) fin
  | lst h =>
    cases rx
    obtain ⟨its, rv, ⟨⟨oc, od', odat, osl⟩, n, e, e1, e2, e3⟩, _⟩ := I2.list h
    simp only at e1 e2 e3
    subst e1 e2 e3
    exact cmp_back hr.units0 hF I2.ok.mod.kin J ⟨_, e, rfl⟩ sb PySem.F.slot_list_eq F.fi F.fn (fun R hR => call_meets PySem.F.slot_list_eq ⟨_, e, rfl⟩ PySem.F.entry_list_eq (PySem.F.args_list_eq_2 _ _) (list_eq_declines_ins _ b1 _ dx _ n _ _) ⟨e, ho, lk, hR⟩) fin
  | tup h =>
    cases rx
    obtain ⟨its, rv, ⟨⟨oc, od', odat, osl⟩, e, e1, n, e3⟩, _⟩ := I2.tuple h
    simp only at e1 e3
    subst e1 e3
    exact cmp_back hr.units0 hF I2.ok.mod.kin J ⟨_, e, rfl⟩ sb PySem.F.slot_tuple_eq F.fi F.fn (fun R hR => call_meets PySem.F.slot_tuple_eq ⟨_, e, rfl⟩ PySem.F.entry_tuple_eq (PySem.F.args_tuple_eq_2 _ _) (tuple_eq_declines_ins _ b1 _ dx _ n _ _) ⟨e, ho, lk, hR⟩) fin
def rEqS (K : PySem.W.Frag) (C : Addr) (sp : Sp) (E : XK) : R2 := fun x y H2 Q => ∃ a dx fs t, x = .ref a ∧ H2 a = some (.ins C dx fs) ∧ TyX K H2 y t ∧ PySem.W.notFirst K C t = true ∧ sp [x, y] H2 Q E
theorem op_eqS (K : PySem.W.Frag) {E : XK} (F : BOk X.prog X.w X.K X.mg X.base c "__eq__" k sp) (hr : Room j X.A) (hk : k ≤ j) (hx : ∀ σ, PassesAt (L2.CX X.prog X.w) X σ E) (hK : X.K = K := by rfl) :
    OpR X (compareOp .Eq) (rEqS K (He.ga K c) sp E) := fun pins s2 σ H2 x y v u Q I2 rx ry q => op_eqX K F F hr hk hk hx hK pins s2 σ H2 x y v u Q I2 rx ry (.inl q)
end
def ckSb (c : Str) (t : String) : Ck := fun K => decide (PySem.W.subIn K (.ref (He.ga K c)) (.type t) = some false)
end Ms
set_option Elab.async false
set_option linter.all false
set_option maxRecDepth 100000
set_option maxHeartbeats 4000000
/-! Ms: min of a list or a tuple of ints. -/
namespace Ms
open PySem PySem.Spec PyProof.Rows L2
theorem ints_len {its : List Value} {ns : List Int} (hi : IntsAre its ns) : its.length = ns.length := by
  induction hi with
  | nil => rfl
  | cons n t h ih => rw [List.length_cons, List.length_cons, ih]
theorem ints_atL {its : List Value} {ns : List Int} (hi : IntsAre its ns) : ∀ {i : Nat} {v : Value}, its[i]? = some v → ∃ t, v = .int (ns.getD i 0) t := by
  induction hi with
  | nil => intro i v e; cases i <;> cases e
  | cons n t h ih =>
    intro i v e
    cases i with
    | zero => cases e; exact ⟨t, rfl⟩
    | succ i => exact ih (i := i) e
theorem ints_at {its : List Value} {ns : List Int} (hi : IntsAre its ns) {i : Nat} {v : Value} (h : its.toArray[i]? = some v) : i < ns.length ∧ ∃ t, v = .int (ns.getD i 0) t := by
  have h : its[i]? = some v := by simpa using h
  exact ⟨by rw [← ints_len hi]; exact (List.getElem?_eq_some_iff.mp h).1, ints_atL hi h⟩
theorem min_rawT {prog : Program} {w : World} {A : Around} {E : Value → Shared → Prop} {s : Shared} {l : Addr} {its : List Value} {ns : List Int} {Q : Value → Shared → Prop} (hh : A.handled = none) (ht : s.heap.IsTuple l its.toArray) (hi : IntsAre its ns) (hne : 0 < ns.length)
    (h : ∀ (h' : Heap) (tk : Nat) (M : Int) (t' : Tok), (∀ (b : Addr) (o : Obj), s.heap.get? b = some o → h'.get? b = some o) → M ∈ ns → (∀ a, a ∈ ns → M ≤ a) → Q (.int M t') { heap := h', gens := s.gens, drawn := s.drawn, toks := tk, os := s.os }) :
    wpAny (model prog w) A (call (.builtin "min") [.ref l]) Q E s := by
  have lt : l < s.heap.objs.size := by obtain ⟨o, e, _⟩ := ht; exact Heap.lt_size e
  have ne : l ≠ s.heap.objs.size := fun e => by rw [e] at lt; exact absurd lt (Nat.lt_irrefl _)
  have li : its.length = ns.length := ints_len hi
  refine call_min_walk (wpAny_pyIter_tuple ht ⟨s.heap.objs.size, [s.heap.objs.size, l], [s.heap.objs.size], its.toArray.size, fun i v => its.toArray[i]? = some v, fun i h => h.IsTupleIter s.heap.objs.size l i ∧ h.IsTuple l its.toArray, fun i j => decide (ns.getD i 0 < ns.getD j 0), rfl, Walks.tuple (A := A.in1) hh _ _ ne its.toArray, ⟨?_, ?_⟩, ?_, ?_, CmpOf.ints_lt (fun i => ns.getD i 0) (fun i v e => (ints_at hi e).2), fun v h' tk hv hk => ?_⟩)
  · exact ⟨_, Heap.get?_push_size _ rfl, rfl, rfl⟩
  · obtain ⟨o, e, r⟩ := ht
    exact ⟨o, Heap.get?_push_of_some _ e, r⟩
  · intro b hb
    show b < (s.heap.push _).objs.size
    rw [Heap.size_push]
    rcases List.mem_cons.mp hb with e | e
    · rw [e]; exact Nat.lt_succ_self _
    · rw [List.mem_singleton.mp e]; exact Nat.lt_succ_of_lt lt
  · rw [List.size_toArray, li]; exact hne
  · obtain ⟨h1, h2⟩ := argBest_lt (fun i => ns.getD i 0) (its.toArray.size - 1)
    obtain ⟨hl, t, rfl⟩ := ints_at hi hv
    refine h h' tk _ t (fun b o e => hk b o (fun m => ?_) (Heap.get?_push_of_some _ e)) ?_ fun a ha => ?_
    · have := Heap.lt_size e
      rw [List.mem_singleton.mp m] at this
      exact absurd this (Nat.lt_irrefl _)
    · rw [List.getD_eq_getElem?_getD, List.getElem?_eq_getElem hl]
      exact List.getElem_mem hl
    · obtain ⟨j, hj⟩ := List.getElem?_of_mem ha
      have jl := (List.getElem?_eq_some_iff.mp hj).1
      have z := h2 j (by rw [List.size_toArray, li]; omega)
      rw [List.getD_eq_getElem?_getD (l := ns) (i := j), hj] at z
      exact z
def rMinQ (K : PySem.W.Frag) : List V → Hp → VK → Prop := fun vs H Q => ∃ (a : Addr) (b : Bool) (ns : List Int), vs = [.ref a] ∧ SqB K b H a (ns.map V.int) ∧ 0 < ns.length ∧ ∀ m, m ∈ ns → (∀ y, y ∈ ns → m ≤ y) → Q (.int m) H
theorem minK {X : Cx} (K : PySem.W.Frag) (hc : X.calm = true) (e : X.K = K := by rfl) : CallR X (.builtin "min") (rMinQ K) := by
  subst e
  intro pins s σ H vs us Q I r h
  obtain ⟨a, b, ns, rfl, hs, hne, q⟩ := h
  rw [Vals.ref1 r]
  cases b
  · obtain ⟨its, rv, hl, _⟩ := I.tuple hs
    exact min_rawT (I.ok.hd hc) hl (Vals.ints rv) hne fun h' tk m t' hk h1 h2 => ⟨.int m, H, I.kept hk, ⟨t', rfl⟩, q m h1 h2⟩
  · obtain ⟨its, rv, hl, _⟩ := I.list hs
    exact min_raw (I.ok.hd hc) hl.isList (Vals.ints rv) hne fun h' tk m t' hk h1 h2 => ⟨.int m, H, I.kept hk, ⟨t', rfl⟩, q m h1 h2⟩
end Ms
set_option Elab.async false
set_option linter.all false
set_option maxRecDepth 100000
set_option maxHeartbeats 4000000
/-! Ms: sum and max of lists, x[i] += .. of a list. -/
namespace Ms
open PySem PySem.Spec PyProof.Rows L2
theorem sumK {X : Cx} (K : PySem.W.Frag) (hc : X.calm = true) (e : X.K = K := by rfl) : CallR X (.builtin "sum") (rSum K) := by subst e; exact cr_sum hc
theorem maxLK {X : Cx} (K : PySem.W.Frag) (hc : X.calm = true) (e : X.K = K := by rfl) : CallR X (.builtin "max") (rMax K) := by subst e; exact cr_max hc
theorem minLK {X : Cx} (K : PySem.W.Frag) (hc : X.calm = true) (e : X.K = K := by rfl) : CallR X (.builtin "min") (rMin K) := by subst e; exact cr_min hc
def rGetL (K : PySem.W.Frag) : V → V → Hp → VK → Prop := fun x y H Q => ∃ (p : Addr) (xs : List V) (n : Nat) (v : V), x = .ref p ∧ y = .int (n : Nat) ∧ SqL K H p xs ∧ xs[n]? = some v ∧ Q v H
theorem getLK {X : Cx} (K : PySem.W.Frag) (e : X.K = K := by rfl) : PGet X (rGetL K) := by
  subst e
  intro pins s σ H o i ov iv Q I ro ri h
  obtain ⟨p, xs, n, v, rfl, rfl, hq, hx, q⟩ := h
  cases ro
  obtain ⟨t, rfl⟩ := ri
  obtain ⟨its, r, pl, hz⟩ := I.list hq
  obtain ⟨u, hu, ru⟩ := r.get hx
  have hn := line63
  have lr := r.length
  have lx := (List.getElem?_eq_some_iff.mp hx).1
  refine getItem_listL pl.isList (Int.natCast_nonneg n) ?_ (by rw [Int.toNat_natCast]; exact hu) ⟨v, H, I, ru, q⟩
  have : xs.length ≤ sizeLine := hz
  have : sizeLine = 2 ^ 24 := rfl
  omega
theorem preSum_get {ns : List Int} : ∀ {j : Nat}, j ≤ ns.length → preSum (fun i => ns.getD i 0) j = (ns.take j).sum
  | 0, _ => by simp [preSum]
  | j + 1, h => by
    rw [preSum, preSum_get (by omega), List.take_add_one, List.getElem?_eq_getElem (show j < ns.length by omega), List.getD_eq_getElem?_getD, List.getElem?_eq_getElem (show j < ns.length by omega)]
    show (ns.take j).sum + ns[j] = (ns.take j ++ [ns[j]]).sum
    rw [List.sum_append, List.sum_cons, List.sum_nil, Int.add_zero]
theorem sum_rawT {prog : Program} {w : World} {A : Around} {E : Value → Shared → Prop} {s : Shared} {l : Addr} {its : List Value} {ns : List Int} {Q : Value → Shared → Prop} (hh : A.handled = none) (ht : s.heap.IsTuple l its.toArray) (hi : IntsAre its ns)
    (h : ∀ (h' : Heap) (tk : Nat) (t' : Tok), (∀ (b : Addr) (o : Obj), s.heap.get? b = some o → h'.get? b = some o) → Q (.int ns.sum t') { heap := h', gens := s.gens, drawn := s.drawn, toks := tk, os := s.os }) :
    wpAny (model prog w) A (call (.builtin "sum") [.ref l]) Q E s := by
  have lt : l < s.heap.objs.size := by obtain ⟨o, e, _⟩ := ht; exact Heap.lt_size e
  have ne : l ≠ s.heap.objs.size := fun e => by rw [e] at lt; exact absurd lt (Nat.lt_irrefl _)
  have li : its.length = ns.length := ints_len hi
  refine call_sum_walkG (wpAny_pyIter_tuple ht ⟨s.heap.objs.size, [s.heap.objs.size, l], [s.heap.objs.size], its.toArray.size, fun i v => its.toArray[i]? = some v, fun i h => h.IsTupleIter s.heap.objs.size l i ∧ h.IsTuple l its.toArray, fun i => ns.getD i 0, rfl, Walks.tuple (A := A.in1) hh _ _ ne its.toArray, ⟨?_, ?_⟩, ?_, (fun i v e => (ints_at hi e).2), fun h' tk t' hk => ?_⟩)
  · exact ⟨_, Heap.get?_push_size _ rfl, rfl, rfl⟩
  · obtain ⟨o, e, r⟩ := ht
    exact ⟨o, Heap.get?_push_of_some _ e, r⟩
  · intro b hb
    show b < (s.heap.push _).objs.size
    rw [Heap.size_push]
    rcases List.mem_cons.mp hb with e | e
    · rw [e]; exact Nat.lt_succ_self _
    · rw [List.mem_singleton.mp e]; exact Nat.lt_succ_of_lt lt
  · have z := h h' tk t' fun b o e => hk b o (fun m => by
      have := Heap.lt_size e
      rw [List.mem_singleton.mp m] at this
      exact absurd this (Nat.lt_irrefl _)) (Heap.get?_push_of_some _ e)
    rw [preSum_get (by rw [List.size_toArray]; omega), List.size_toArray, li, List.take_of_length_le (Nat.le_refl _)]
    exact z
/-- sum of a list or a tuple -/
def rSumQ (K : PySem.W.Frag) : List V → Hp → VK → Prop := fun vs H Q => ∃ (a : Addr) (b : Bool) (ns : List Int), vs = [V.ref a] ∧ SqB K b H a (ns.map V.int) ∧ Q (.int ns.sum) H
theorem sumQ {X : Cx} (K : PySem.W.Frag) (hc : X.calm = true) (e : X.K = K := by rfl) : CallR X (.builtin "sum") (rSumQ K) := by
  subst e
  intro pins s σ H vs us Q I r h
  obtain ⟨a, b, ns, rfl, hs, q⟩ := h
  rw [Vals.ref1 r]
  cases b
  · obtain ⟨its, rv, hl, _⟩ := I.tuple hs
    exact sum_rawT (I.ok.hd hc) hl rv.ints fun h' tk t' hk => ⟨.int _, H, I.kept hk, ⟨t', rfl⟩, q⟩
  · obtain ⟨its, rv, hl, _⟩ := I.list hs
    exact sum_raw (I.ok.hd hc) hl.isList rv.ints fun h' tk t' hk => ⟨.int _, H, I.kept hk, ⟨t', rfl⟩, q⟩
end Ms
set_option Elab.async false
set_option linter.all false
set_option maxRecDepth 100000
set_option maxHeartbeats 4000000
/-! Ms, plain: the rows of marks are all rows that number by first places, in their order. -/
namespace Ms
theorem idx_range {c m : Nat} : (List.range c).idxOf m = if m < c then m else c := by
  induction c with
  | zero => rfl
  | succ c ih =>
    rw [List.range_succ, List.idxOf_append]
    by_cases h : m < c
    · rw [if_pos (List.mem_range.mpr h), ih, if_pos h, if_pos (by omega)]
    · rw [if_neg (fun z => h (List.mem_range.mp z)), List.length_range]
      by_cases e : m = c
      · subst e
        rw [List.idxOf_cons_self, if_pos (by omega)]; omega
      · rw [if_neg (by omega), List.idxOf_eq_length (fun z => e (List.mem_singleton.mp z))]
        show 1 + c = c + 1
        omega
theorem row_cnt {r : List Nat} (h : Row r) : firsts r = List.range (firsts r).length := by
  have := firsts_ren r
  rw [show ren r = r from h] at this
  exact this
theorem row_snoc {r : List Nat} {m : Nat} : Row (r ++ [m]) ↔ Row r ∧ m ≤ (firsts r).length := by
  unfold Row
  rw [ren_snoc]
  constructor
  · intro e
    obtain ⟨e1, e2⟩ := List.append_inj e (ren_len r)
    have e3 := (List.cons.inj e2).1
    refine ⟨e1, ?_⟩
    rw [row_cnt e1, idx_range] at e3
    split at e3 <;> omega
  · rintro ⟨e1, e2⟩
    rw [e1, row_cnt e1, idx_range]
    split
    · rfl
    · rw [show (firsts r).length = m by omega]
theorem le_mx {l : List Nat} {a : Nat} (h : a ∈ l) : a ≤ mx l := by
  induction l with
  | nil => cases h
  | cons b l ih =>
    rw [mx_cons]
    rcases List.mem_cons.mp h with rfl | h
    · omega
    · have := ih h; omega
theorem mx_mem {l : List Nat} (h : l ≠ []) : mx l ∈ l := by
  induction l with
  | nil => exact absurd rfl h
  | cons b l ih =>
    rw [mx_cons]
    by_cases e : l = []
    · subst e; show max b 0 ∈ [b]; rw [Nat.max_zero]; exact List.mem_cons_self
    · rcases Nat.le_total b (mx l) with q | q
      · rw [Nat.max_eq_right q]; exact List.mem_cons_of_mem _ (ih e)
      · rw [Nat.max_eq_left q]; exact List.mem_cons_self
theorem row_has {r : List Nat} (h : Row r) {m : Nat} : m ∈ r ↔ m < (firsts r).length := by
  rw [← mem_firsts, row_cnt h, List.mem_range, List.length_range]
theorem row_mx {r : List Nat} (h : Row r) (ne : r ≠ []) : mx r + 1 = (firsts r).length := by
  have h1 := (row_has h).mp (mx_mem ne)
  have h2 : 0 < (firsts r).length := by omega
  have h3 := le_mx ((row_has h).mpr (show (firsts r).length - 1 < (firsts r).length by omega))
  omega
theorem mem_rgs : ∀ (n : Nat) (r : List Nat), r ∈ rgs n ↔ Row r ∧ r.length = n + 1
  | 0, r => by
    constructor
    · intro h
      rw [List.mem_singleton.mp h]
      exact ⟨rfl, rfl⟩
    · rintro ⟨h, l⟩
      match r, l with
      | [m], _ =>
        have h2 : Row (([] : List Nat) ++ [m]) := h
        have := (row_snoc.mp h2).2
        have e : m = 0 := by simpa [firsts_nil] using this
        rw [e]
        exact List.mem_singleton.mpr rfl
  | n + 1, r => by
    constructor
    · intro h
      obtain ⟨t, ht, hr⟩ := List.mem_flatMap.mp h
      obtain ⟨m, hm, rfl⟩ := List.mem_map.mp hr
      obtain ⟨h1, h2⟩ := (mem_rgs n t).mp ht
      have ne : t ≠ [] := fun e => by rw [e] at h2; cases h2
      refine ⟨row_snoc.mpr ⟨h1, ?_⟩, by rw [List.length_append, h2] <;> rfl⟩
      have := List.mem_range.mp hm
      have := row_mx h1 ne
      omega
    · rintro ⟨h, l⟩
      have ne : r ≠ [] := fun e => by rw [e] at l; cases l
      obtain ⟨t, m, rfl⟩ : ∃ t m, r = t ++ [m] := ⟨_, _, (List.dropLast_concat_getLast ne).symm⟩
      obtain ⟨h1, h2⟩ := row_snoc.mp h
      have lt : t.length = n + 1 := by simpa using l
      have ne2 : t ≠ [] := fun e => by rw [e] at lt; cases lt
      refine List.mem_flatMap.mpr ⟨t, (mem_rgs n t).mpr ⟨h1, lt⟩, List.mem_map.mpr ⟨m, List.mem_range.mpr ?_, rfl⟩⟩
      have := row_mx h1 ne2
      omega
theorem lt_snoc : ∀ {r t : List Nat} {a b : Nat}, r.length = t.length → r < t → r ++ [a] < t ++ [b]
  | [], [], _, _, _, h => absurd h (by decide)
  | [], _ :: _, _, _, l, _ => by cases l
  | _ :: _, [], _, _, l, _ => by cases l
  | x :: r, y :: t, a, b, l, h => by
    rw [List.cons_append, List.cons_append]
    rw [List.cons_lt_cons_iff] at h ⊢
    rcases h with h | ⟨e, h⟩
    · exact .inl h
    · exact .inr ⟨e, lt_snoc (by simpa using l) h⟩
theorem lt_last : ∀ {r : List Nat} {a b : Nat}, a < b → r ++ [a] < r ++ [b]
  | [], a, b, h => by
    show [a] < [b]
    rw [List.cons_lt_cons_iff]
    exact .inl h
  | x :: r, a, b, h => by
    rw [List.cons_append, List.cons_append, List.cons_lt_cons_iff]
    exact .inr ⟨rfl, lt_last h⟩
theorem rgs_lt : ∀ n, (rgs n).Pairwise (· < ·)
  | 0 => List.pairwise_singleton ..
  | n + 1 => by
    show ((rgs n).flatMap ext).Pairwise (· < ·)
    rw [List.pairwise_flatMap]
    refine ⟨fun r hr => ?_, ?_⟩
    · unfold ext
      rw [List.pairwise_map]
      exact List.pairwise_lt_range.imp fun h => lt_last h
    · have ih := rgs_lt n
      have hl := rgs_len n
      refine List.Pairwise.imp_of_mem (R := (· < ·)) (fun {a b} ha hb h x hx y hy => ?_) ih
      obtain ⟨m, _, rfl⟩ := List.mem_map.mp hx
      obtain ⟨k, _, rfl⟩ := List.mem_map.mp hy
      exact lt_snoc (by rw [hl a ha, hl b hb]) h
end Ms
set_option Elab.async false
set_option linter.all false
set_option maxRecDepth 100000
set_option maxHeartbeats 4000000
/-! K03: marks_after, row_after, sight_count. -/
namespace K03
open PySem PySem.Spec PyProof.Rows L2 Ms
/-- a list of small numbers -/
def NL (H : Hp) (a : Addr) (r : List Nat) : Prop := H a = some (.lst (nV r))
def spAfter (K : PySem.W.Frag) : Sp := fun vs H Q _ => ∃ (a : Addr) (r : List Nat), vs = [.ref a] ∧ NL H a r ∧ 0 < r.length ∧ r.length ≤ 60 ∧
  (∀ t, nxt r = some t → ∀ H' p, Same H H' → H p = none → NL H' p t → Q (.ref p) H') ∧ (nxt r = none → ∀ H', Same H H' → Q .non H')
theorem rep0 (i : Nat) : (List.replicate i [V.int 0]).flatten = nV (List.replicate i 0) := by
  induction i with
  | zero => rfl
  | succ i ih => rw [List.replicate_succ, List.flatten_cons, ih] <;> rfl
theorem max_mx {l : List Nat} (h : l ≠ []) {m : Int} (hm : m ∈ cI l) (ha : ∀ y ∈ cI l, y ≤ m) : m = (mx l : Nat) := by
  obtain ⟨k, hk, rfl⟩ := List.mem_map.mp hm
  have h1 := le_mx hk
  have h2 := ha ((mx l : Nat) : Int) (List.mem_map_of_mem (mx_mem h))
  omega
theorem r_max {K : PySem.W.Frag} {H : Hp} {p : Addr} {l : List Nat} {Q : VK} (h : SqL K H p (nV l)) (l0 : l ≠ []) (k : Q (.int (mx l : Nat)) H) : rMax K [.ref p] H Q := by
  refine ⟨p, cI l, rfl, by rw [← nV_cI]; exact h, by unfold cI; rw [List.length_map]; exact List.length_pos_iff.mpr l0, fun m hm ha => ?_⟩
  rw [max_mx l0 hm ha]; exact k
section
variable {P : Program} {w : World} {K : PySem.W.Frag} {mg : Str → Option Value} {base : Heap}
theorem ok_marks_after (T : Tx K mg) : Ok P w K mg base "marks_after" 2 (spAfter K) := by
  refine ok_of T.a_marks_after scmarks_after (fun vs H Q E h => ?_) bi_marks_after fun cdv A outer s H vs Q E hr h => ?_
  · obtain ⟨a, r, rfl, _⟩ := h
    rfl
  obtain ⟨a, r, rfl, ha, r0, rl, hQ, hN⟩ := h
  refine ⟨_, (pss_cons (ps_for PassesOwn.never rfl (pi_revR (by rfl) T.f_reversed (prg_2 (by rfl) T.f_range pe_int (pe_callB (lenK K) (by rfl) T.f_len boot_len (pa_cons (pv 0) pa_nil)))) (pg_name (i := 1) scmarks_after.nd rfl (by first | exact Or.inl rfl | exact Or.inr rfl))
  (pss_one (ps_if (pt_cmpR op_le (pe_ix (ixL K) (pv 0) (pv 1) (fun _ _ => rfl)) (pe_callB (maxLK K (hc := rfl)) (by rfl) T.f_max (by decide +kernel) (pa_cons (pe_slice sl_list (pv 0) po_none (po_some (pv 1))) pa_nil)) (nomark _))
    (pss_one (ps_ret (pe_op op_cat (pe_op op_cat (pe_slice sl_list (pv 0) po_none (po_some (pv 1))) (pe_lst (pa_cons (pe_op op_add (pe_ix (ixL K) (pv 0) (pv 1) (fun _ _ => rfl)) pe_int) pa_nil))) (pe_op op_rep (pe_lst (pa_cons pe_int pa_nil)) (pe_op op_sub (pe_op op_sub (pe_callB (lenK K) (by rfl) T.f_len boot_len (pa_cons (pv 0) pa_nil)) (pv 1)) pe_int)))))
    pss_nil)))
  (pss_one (ps_ret pe_non))), ?_⟩
  refine ⟨_, rfl, a, nV r, rfl, .inl (.inl (.inl ha)), 1, _, rfl, rfl, by decide, by decide, by rw [nV_len]; omega, by rw [nV_len]; omega, ?_⟩
  have hk : (((nV r).length : Nat) - 1 : Int).toNat = r.length - 1 := by rw [nV_len]; omega
  rw [hk]
  refine for_it walk_rangeC (fun i σ H' => Same H H' ∧ (∃ x, σ = [some (.ref a), x]) ∧ nxt r = (nxt (r.take (r.length - i))).map (· ++ List.replicate i 0)) ?_ (fun _ _ _ _ _ => trivial) ?_ ?_
  · refine ⟨same_rfl, ⟨none, rfl⟩, ?_⟩
    rw [Nat.sub_zero, List.take_length]
    cases nxt r with
    | none => rfl
    | some t => simp
  · rintro i x σ _ H1 hi ⟨s1, ⟨z, rfl⟩, hn⟩ ⟨rfl, rfl⟩
    dsimp only
    have ep : (1 + ((r.length - 1 : Nat) : Int) - 1 + (i : Nat) * (-1)) = ((r.length - 1 - i : Nat) : Int) := by omega
    rw [ep]
    have hq : r.length - 1 - i < r.length := by omega
    have h1 := s1 _ _ ha
    refine ⟨_, rfl, _, rfl, a, nV r, (r.length - 1 - i : Nat), _, rfl, rfl, .inl (.inl h1), atI_nat (nV_at0 hq), _, rfl, _, rfl, _, rfl, a, nV r, rfl, .inl (.inl h1), fun p1 n1 => ?_⟩
    rw [cut_to2]
    rw [show (nV r).take (r.length - 1 - i) = nV (r.take (r.length - 1 - i)) from List.map_take.symm]
    have s2 := same_new (o := .lst (nV (r.take (r.length - 1 - i)))) n1
    have b1 : upd H1 p1 (.lst (nV (r.take (r.length - 1 - i)))) p1 = some (.lst (nV (r.take (r.length - 1 - i)))) := upd_same ..
    generalize upd H1 p1 (.lst (nV (r.take (r.length - 1 - i)))) = H2 at s2 b1
    have hne : r.take (r.length - 1 - i) ≠ [] := fun e => by
      have := congrArg List.length e
      rw [List.length_take, List.length_nil] at this
      omega
    dsimp only [tNil]
    refine r_max (.inl (.inl b1)) hne ?_
    refine ⟨_, _, rfl, rfl, _, rfl, ?_⟩
    have et : r.take (r.length - i) = r.take (r.length - 1 - i) ++ [at0 r (r.length - 1 - i)] := by
      have e : r.length - i = (r.length - 1 - i) + 1 := by omega
      rw [e, List.take_add_one, of_at0 hq] <;> rfl
    rw [et, nxt_snoc hne] at hn
    by_cases hc : at0 r (r.length - 1 - i) ≤ mx (r.take (r.length - 1 - i))
    · rw [if_pos hc] at hn
      rw [decide_eq_true (show ((at0 r (r.length - 1 - i) : Nat) : Int) ≤ (mx (r.take (r.length - 1 - i)) : Nat) by omega), if_pos rfl]
      have h2 := s2 _ _ h1
      have big : 4000000 ≤ sizeLine := by decide
      refine ⟨_, rfl, _, rfl, _, rfl, a, nV r, rfl, .inl (.inl h2), fun p3 n3 => ?_⟩
      rw [cut_to2, show (nV r).take (r.length - 1 - i) = nV (r.take (r.length - 1 - i)) from List.map_take.symm]
      have s3 := same_new (o := .lst (nV (r.take (r.length - 1 - i)))) n3
      have b3 : upd H2 p3 (.lst (nV (r.take (r.length - 1 - i)))) p3 = some (.lst (nV (r.take (r.length - 1 - i)))) := upd_same ..
      generalize upd H2 p3 (.lst (nV (r.take (r.length - 1 - i)))) = H3 at s3 b3
      have h3 := s3 _ _ h2
      refine ⟨_, rfl, _, rfl, a, nV r, (r.length - 1 - i : Nat), _, rfl, rfl, .inl (.inl h3), atI_nat (nV_at0 hq), _, _, rfl, rfl, by show 1 ≤ sizeLine; omega, fun p4 n4 => ?_⟩
      rw [show ([V.int ((at0 r (r.length - 1 - i) : Nat) + 1)] : List V) = nV [at0 r (r.length - 1 - i) + 1] from rfl]
      have s4 := same_new (o := .lst (nV [at0 r (r.length - 1 - i) + 1])) n4
      have b4 : upd H3 p4 (.lst (nV [at0 r (r.length - 1 - i) + 1])) p4 = some (.lst (nV [at0 r (r.length - 1 - i) + 1])) := upd_same ..
      generalize upd H3 p4 (.lst (nV [at0 r (r.length - 1 - i) + 1])) = H4 at s4 b4
      have h4 := s4 _ _ h3
      have b3 := s4 _ _ b3
      refine ⟨p3, p4, _, _, rfl, rfl, b3, b4, by rw [nV_len, nV_len, List.length_take]; show _ + 1 ≤ _; omega, fun p5 n5 => ?_⟩
      rw [show nV (r.take (r.length - 1 - i)) ++ nV [at0 r (r.length - 1 - i) + 1] = nV (r.take (r.length - 1 - i) ++ [at0 r (r.length - 1 - i) + 1]) from List.map_append.symm]
      have s5 := same_new (o := .lst (nV (r.take (r.length - 1 - i) ++ [at0 r (r.length - 1 - i) + 1]))) n5
      have b5 : upd H4 p5 (.lst (nV (r.take (r.length - 1 - i) ++ [at0 r (r.length - 1 - i) + 1]))) p5 = some (.lst (nV (r.take (r.length - 1 - i) ++ [at0 r (r.length - 1 - i) + 1]))) := upd_same ..
      generalize upd H4 p5 (.lst (nV (r.take (r.length - 1 - i) ++ [at0 r (r.length - 1 - i) + 1]))) = H5 at s5 b5
      have h5 := s5 _ _ h4
      refine ⟨by show 1 ≤ sizeLine; omega, fun p6 n6 => ?_⟩
      have s6 := same_new (o := .lst [.int 0]) n6
      have b6 : upd H5 p6 (.lst [.int 0]) p6 = some (.lst [.int 0]) := upd_same ..
      generalize upd H5 p6 (.lst [.int 0]) = H6 at s6 b6
      have h6 := s6 _ _ h5
      have b5 := s6 _ _ b5
      refine ⟨_, rfl, a, nV r, rfl, .inl (.inl (.inl h6)), _, rfl, _, _, rfl, rfl, _, _, rfl, rfl, p6, ((r.length : Nat) - (r.length - 1 - i : Nat) - 1 : Int), _, rfl, by rw [nV_len] <;> rfl, b6, by omega, by omega, by show 1 * _ ≤ _; omega, fun p7 n7 => ?_⟩
      rw [show (List.replicate ((r.length : Nat) - (r.length - 1 - i : Nat) - 1 : Int).toNat [V.int 0]).flatten = nV (List.replicate i 0) from by
        rw [show ((r.length : Nat) - (r.length - 1 - i : Nat) - 1 : Int).toNat = i by omega]
        exact rep0 i]
      have s7 := same_new (o := .lst (nV (List.replicate i 0))) n7
      have b7 : upd H6 p7 (.lst (nV (List.replicate i 0))) p7 = some (.lst (nV (List.replicate i 0))) := upd_same ..
      generalize upd H6 p7 (.lst (nV (List.replicate i 0))) = H7 at s7 b7
      have b5 := s7 _ _ b5
      refine ⟨p5, p7, _, _, rfl, rfl, b5, b7, by rw [nV_len, nV_len, List.length_append, List.length_take, List.length_replicate]; show _ + 1 + _ ≤ _; omega, fun p8 n8 => ?_⟩
      rw [show nV (r.take (r.length - 1 - i) ++ [at0 r (r.length - 1 - i) + 1]) ++ nV (List.replicate i 0) = nV (r.take (r.length - 1 - i) ++ [at0 r (r.length - 1 - i) + 1] ++ List.replicate i 0) from List.map_append.symm]
      refine hQ _ hn _ p8 (same2 s1 (same2 s2 (same2 s3 (same2 s4 (same2 s5 (same2 s6 (same2 s7 (same_new n8)))))))) ?_ (upd_same ..)
      exact (same2 s1 (same2 s2 (same2 s3 (same2 s4 (same2 s5 (same2 s6 s7)))))).free n8
    · rw [if_neg hc] at hn
      rw [decide_eq_false (show ¬ ((at0 r (r.length - 1 - i) : Nat) : Int) ≤ (mx (r.take (r.length - 1 - i)) : Nat) by omega), if_neg Bool.false_ne_true]
      refine ⟨same2 s1 s2, ⟨_, rfl⟩, ?_⟩
      rw [hn, show r.length - (i + 1) = r.length - 1 - i by omega, Option.map_map]
      congr 1
      funext t
      show t ++ [0] ++ List.replicate i 0 = t ++ List.replicate (i + 1) 0
      rw [List.append_assoc, List.replicate_succ] <;> rfl
  · rintro σ H1 ⟨s1, ⟨z, rfl⟩, hn⟩
    refine hN ?_ H1 s1
    rw [hn]
    have e : r.take (r.length - (r.length - 1)) = [at0 r 0] := by
      cases r with
      | nil => simp at r0
      | cons x r => 
        rw [show (x :: r).length - ((x :: r).length - 1) = 1 by simp] <;> rfl
    rw [e, nxt_one] <;> rfl
end
end K03
/-! Generators that sleep while other code runs: what runs well while the sleepers' own code is a poison (`unsupported`) runs as well, and to the same end, with the sleepers themselves, and they are as they were. -/
namespace Ms
open PySem
theorem no_uns {M : Model} {fs : List Frame} {Γ : Ctx} {p : Pos} {w : String} {s s' : Shared} {e : End} : ¬ Runs M Γ p (.unsupported w) fs s e s' := by
  have h0 : ∀ {Γ : Ctx} {p : Pos} {w : String} {s s' : Shared} {e : End}, ¬ Runs M Γ p (.unsupported w) [] s e s' := fun h => by cases h
  intro h
  cases h with
  | segRet h _ => exact h0 h
  | segGen h _ => exact h0 h
  | segSuspOut _ h => exact h0 h
  | segSuspGen _ h => exact h0 h
def NE : End → Prop
  | .ret _ => True
  | .susp _ _ _ _ _ _ fs => splitAtGen fs = none
def OkG : GenState → Prop
  | .suspended _ _ _ _ fs _ => splitAtGen fs = none
  | _ => True
theorem NE.ok {e : End} (h : NE e) : OkG e.genState := by
  cases e with
  | ret _ => exact trivial
  | susp => exact h
/-- A: the sleepers of D are poisoned; B: they are themselves; all else is alike -/
structure Rel (D : Nat → Prop) (A B : Array GenState) : Prop where
  sz : B.size = A.size
  din : ∀ i, D i → ∃ w l c p fs cl, A[i]? = some (.suspended (fun _ => .unsupported w) l c p fs cl)
  seen : ∀ i x, D i → A[i]? = some x → ∃ y, B[i]? = some y ∧ y.seen = x.seen
  out : ∀ i, ¬ D i → B[i]? = A[i]?
  ok : ∀ i x, ¬ D i → A[i]? = some x → OkG x
theorem Rel.set {D : Nat → Prop} {A B : Array GenState} (r : Rel D A B) {i : Nat} (n : ¬ D i) {X : GenState} (o : OkG X) : Rel D (A.setIfInBounds i X) (B.setIfInBounds i X) := by
  have ne : ∀ j, D j → i ≠ j := fun j d e => n (e ▸ d)
  refine ⟨by rw [Array.size_setIfInBounds, Array.size_setIfInBounds]; exact r.sz, fun j d => ?_, fun j x d h => ?_, fun j d => ?_, fun j x d h => ?_⟩
  · rw [Array.getElem?_setIfInBounds_ne (ne j d)]
    exact r.din j d
  · rw [Array.getElem?_setIfInBounds_ne (ne j d)] at h ⊢
    exact r.seen j x d h
  · rw [Array.getElem?_setIfInBounds, Array.getElem?_setIfInBounds, r.sz, r.out j d]
  · rw [Array.getElem?_setIfInBounds] at h
    split at h
    · split at h
      · rw [← Option.some.inj h]; exact o
      · cases h
    · exact r.ok j x d h
theorem Rel.keep {D : Nat → Prop} {B : Array GenState} {i : Nat} (n : ¬ D i) {X : GenState} : ∀ j, D j → (B.setIfInBounds i X)[j]? = B[j]? := fun j d => by
  rw [Array.getElem?_setIfInBounds_ne (fun (e : i = j) => n (e ▸ d))]
theorem Rel.lt {D : Nat → Prop} {A B : Array GenState} (r : Rel D A B) {i : Nat} (d : D i) : i < A.size := by
  obtain ⟨_, _, _, _, _, _, h⟩ := r.din i d
  exact (Array.getElem?_eq_some_iff.mp h).1
theorem Rel.push {D : Nat → Prop} {A B : Array GenState} (r : Rel D A B) {X : GenState} (o : OkG X) : Rel D (A.push X) (B.push X) := by
  refine ⟨by rw [Array.size_push, Array.size_push, r.sz], fun j d => ?_, fun j x d h => ?_, fun j d => ?_, fun j x d h => ?_⟩
  · rw [Array.getElem?_push, if_neg (Nat.ne_of_lt (r.lt d))]
    exact r.din j d
  · rw [Array.getElem?_push, if_neg (Nat.ne_of_lt (r.lt d))] at h
    rw [Array.getElem?_push, r.sz, if_neg (Nat.ne_of_lt (r.lt d))]
    exact r.seen j x d h
  · rw [Array.getElem?_push, Array.getElem?_push, r.sz, r.out j d]
  · rw [Array.getElem?_push] at h
    split at h
    · rw [← Option.some.inj h]; exact o
    · exact r.ok j x d h
theorem Rel.pkeep {D : Nat → Prop} {A B : Array GenState} (r : Rel D A B) {X : GenState} : ∀ j, D j → (B.push X)[j]? = B[j]? := fun j d => by
  rw [Array.getElem?_push, r.sz, if_neg (Nat.ne_of_lt (r.lt d))]
theorem split_tl {F : Frame} {fs : List Frame} (h : splitAtGen (F :: fs) = none) : splitAtGen fs = none := by
  cases F with
  | ret k h' g' l' c' p' kp => rw [splitAtGen_ret] at h; exact Option.map_eq_none_iff.mp h
  | gen g' k l' c' p' => rw [splitAtGen_gen] at h; cases h
/-- what does not sleep is no sleeper -/
theorem Rel.awake {D : Nat → Prop} {A B : Array GenState} (r : Rel D A B) {i : Nat} {x : GenState} (h : A[i]? = some x) (n : ∀ w l c p fs cl, x ≠ .suspended (fun _ => .unsupported w) l c p fs cl) : ¬ D i := fun d => by
  obtain ⟨w, l, c, p, fs, cl, e⟩ := r.din i d
  exact n w l c p fs cl (Option.some.inj (h.symm.trans e))
theorem Rel.gs {D : Nat → Prop} {A B : Array GenState} (r : Rel D A B) {i : Nat} {x : GenState} (b : A[i]? = some x) : ∃ y, B[i]? = some y ∧ y.seen = x.seen := by
  by_cases d : D i
  · exact r.seen i x d b
  · exact ⟨x, (r.out i d).trans b, rfl⟩
theorem Rel.susp {D : Nat → Prop} {A B : Array GenState} (r : Rel D A B) {i : Nat} {k : Resume → Sem PySem.Fin} {l : List Value} {c : Code} {p : Pos} {fs : List Frame} {cl : Bool} (b : A[i]? = some (.suspended k l c p fs cl)) : (∃ w, k = fun _ => .unsupported w) ∨ (¬ D i ∧ B[i]? = some (.suspended k l c p fs cl) ∧ splitAtGen fs = none) := by
  by_cases d : D i
  · obtain ⟨w, l', c', p', fs', cl', e⟩ := r.din i d
    cases b.symm.trans e
    exact .inl ⟨w, rfl⟩
  · exact .inr ⟨d, (r.out i d).trans b, r.ok i _ d b⟩
theorem swap {D : Nat → Prop} {M : Model} {Γ : Ctx} {p : Pos} {t : Sem PySem.Fin} {fs : List Frame} {s s' : Shared} {e : End} (h : Runs M Γ p t fs s e s') :
    splitAtGen fs = none → ∀ B, Rel D s.gens B → ∃ B', NE e ∧ Rel D s'.gens B' ∧ (∀ i, D i → B'[i]? = B[i]?) ∧ Runs M Γ p t fs { s with gens := B } e { s' with gens := B' } := by
  induction h with
  | done => exact fun _ B r => ⟨B, trivial, r, fun _ _ => rfl, .done⟩
  | raise => exact fun _ B r => ⟨B, trivial, r, fun _ _ => rfl, .raise⟩
  | again b _ ih => exact fun f B r => let ⟨B', z1, z2, z3, z4⟩ := ih f B r; ⟨B', z1, z2, z3, .again b z4⟩
  | rule _ ih => exact fun f B r => let ⟨B', z1, z2, z3, z4⟩ := ih f B r; ⟨B', z1, z2, z3, .rule z4⟩
  | «at» _ ih => exact fun f B r => let ⟨B', z1, z2, z3, z4⟩ := ih f B r; ⟨B', z1, z2, z3, .at z4⟩
  | load b _ ih => exact fun f B r => let ⟨B', z1, z2, z3, z4⟩ := ih f B r; ⟨B', z1, z2, z3, .load b z4⟩
  | update b _ ih => exact fun f B r => let ⟨B', z1, z2, z3, z4⟩ := ih f B r; ⟨B', z1, z2, z3, .update b z4⟩
  | loadIfAlive _ ih => exact fun f B r => let ⟨B', z1, z2, z3, z4⟩ := ih f B r; ⟨B', z1, z2, z3, .loadIfAlive z4⟩
  | point _ ih => exact fun f B r => let ⟨B', z1, z2, z3, z4⟩ := ih f B r; ⟨B', z1, z2, z3, .point z4⟩
  | alloc _ ih => exact fun f B r => let ⟨B', z1, z2, z3, z4⟩ := ih f B r; ⟨B', z1, z2, z3, .alloc z4⟩
  | fresh _ ih => exact fun f B r => let ⟨B', z1, z2, z3, z4⟩ := ih f B r; ⟨B', z1, z2, z3, .fresh z4⟩
  | ask _ ih => exact fun f B r => let ⟨B', z1, z2, z3, z4⟩ := ih f B r; ⟨B', z1, z2, z3, .ask z4⟩
  | choose b _ ih => exact fun f B r => let ⟨B', z1, z2, z3, z4⟩ := ih f B r; ⟨B', z1, z2, z3, .choose b z4⟩
  | os _ ih => exact fun f B r => let ⟨B', z1, z2, z3, z4⟩ := ih f B r; ⟨B', z1, z2, z3, .os z4⟩
  | handled _ ih => exact fun f B r => let ⟨B', z1, z2, z3, z4⟩ := ih f B r; ⟨B', z1, z2, z3, .handled z4⟩
  | stack _ ih => exact fun f B r => let ⟨B', z1, z2, z3, z4⟩ := ih f B r; ⟨B', z1, z2, z3, .stack z4⟩
  | thread _ ih => exact fun f B r => let ⟨B', z1, z2, z3, z4⟩ := ih f B r; ⟨B', z1, z2, z3, .thread z4⟩
  | genState b _ ih =>
    intro f B r
    obtain ⟨B', z1, z2, z3, z4⟩ := ih f B r
    refine ⟨B', z1, z2, z3, ?_⟩
    obtain ⟨y, hy, e⟩ := r.gs b
    exact .genState hy (by rw [e]; exact z4)
  | newGen _ ih =>
    intro f B r
    obtain ⟨B', z1, z2, z3, z4⟩ := ih f (B.push _) (r.push trivial)
    refine ⟨B', z1, z2, fun i d => (z3 i d).trans (r.pkeep i d), ?_⟩
    refine .newGen ?_
    dsimp only
    rw [r.sz]
    exact z4
  | call _ _ ih1 ih2 => exact fun f B r => let ⟨B1, z1, z2, z3, z4⟩ := ih1 rfl B r; let ⟨B2, y1, y2, y3, y4⟩ := ih2 f B1 z2; ⟨B2, y1, y2, fun i d => (y3 i d).trans (z3 i d), .call z4 y4⟩
  | callSusp _ ih => exact fun f B r => let ⟨B1, z1, z2, z3, z4⟩ := ih rfl B r; ⟨B1, by show splitAtGen (_ ++ _) = none; rw [splitAtGen_append_none _ z1]; rfl, z2, z3, .callSusp z4⟩
  | yield => exact fun _ B r => ⟨B, rfl, r, fun _ _ => rfl, .yield⟩
  | resumeFresh b _ qe _ ih1 ih2 =>
    intro f B r
    have n := r.awake b (fun _ _ _ _ _ _ h => nomatch h)
    obtain ⟨B1, z1, z2, z3, z4⟩ := ih1 rfl _ (r.set n (X := .running) trivial)
    obtain ⟨B2, y1, y2, y3, y4⟩ := ih2 f _ (z2.set n z1.ok)
    exact ⟨B2, y1, y2, fun i d => (y3 i d).trans ((Rel.keep n i d).trans ((z3 i d).trans (Rel.keep n i d))), .resumeFresh ((r.out _ n).trans b) z4 qe y4⟩
  | resumeSuspended b r1 qe _ ih1 ih2 =>
    intro f B r
    rcases r.susp b with ⟨w, rfl⟩ | ⟨d, bB, o⟩
    · exact (no_uns r1).elim
    · obtain ⟨B1, z1, z2, z3, z4⟩ := ih1 o _ (r.set d (X := .running) trivial)
      obtain ⟨B2, y1, y2, y3, y4⟩ := ih2 f _ (z2.set d z1.ok)
      exact ⟨B2, y1, y2, fun i d' => (y3 i d').trans ((Rel.keep d i d').trans ((z3 i d').trans (Rel.keep d i d'))), .resumeSuspended bB z4 qe y4⟩
  | resumeJustStarted b v _ ih =>
    intro f B r
    have n := r.awake b (fun _ _ _ _ _ _ h => nomatch h)
    obtain ⟨B1, z1, z2, z3, z4⟩ := ih f B r
    exact ⟨B1, z1, z2, z3, .resumeJustStarted ((r.out _ n).trans b) v z4⟩
  | resumeThrowFresh b _ ih =>
    intro f B r
    have n := r.awake b (fun _ _ _ _ _ _ h => nomatch h)
    obtain ⟨B1, z1, z2, z3, z4⟩ := ih f _ (r.set n (X := .finished) trivial)
    exact ⟨B1, z1, z2, fun i d => (z3 i d).trans (Rel.keep n i d), .resumeThrowFresh ((r.out _ n).trans b) z4⟩
  | resumeRunning b _ ih =>
    intro f B r
    have n := r.awake b (fun _ _ _ _ _ _ h => nomatch h)
    obtain ⟨B1, z1, z2, z3, z4⟩ := ih f B r
    exact ⟨B1, z1, z2, z3, .resumeRunning ((r.out _ n).trans b) z4⟩
  | resumeFinished b _ ih =>
    intro f B r
    have n := r.awake b (fun _ _ _ _ _ _ h => nomatch h)
    obtain ⟨B1, z1, z2, z3, z4⟩ := ih f B r
    exact ⟨B1, z1, z2, z3, .resumeFinished ((r.out _ n).trans b) z4⟩
  | segRet _ _ ih1 ih2 => exact fun f B r => let ⟨B1, z1, z2, z3, z4⟩ := ih1 rfl B r; let ⟨B2, y1, y2, y3, y4⟩ := ih2 (split_tl f) B1 z2; ⟨B2, y1, y2, fun i d => (y3 i d).trans (z3 i d), .segRet z4 y4⟩
  | segGen _ _ ih1 ih2 => exact fun f => by rw [splitAtGen_gen] at f; cases f
  | segSuspOut b _ ih => exact fun f B r => let ⟨B1, z1, z2, z3, z4⟩ := ih rfl B r; ⟨B1, by show splitAtGen (_ ++ _) = none; rw [splitAtGen_append_none _ z1, b]; rfl, z2, z3, .segSuspOut b z4⟩
  | segSuspGen b _ _ _ ih1 ih2 => exact fun f => by rw [b] at f; cases f
end Ms
/-! The same for a computation: a promise from the poisoned state is a promise from the true one. -/
namespace Ms
open PySem
def Mv (D : Nat → Prop) (B : Array GenState) (a b : Shared) : Prop := ∃ B', b = { a with gens := B' } ∧ Rel D a.gens B' ∧ ∀ i, D i → B'[i]? = B[i]?
theorem Mv.up {D : Nat → Prop} {B B1 : Array GenState} (k : ∀ i, D i → B1[i]? = B[i]?) {a b : Shared} (h : Mv D B1 a b) : Mv D B a b :=
  let ⟨B', h1, h2, h3⟩ := h
  ⟨B', h1, h2, fun i d => (h3 i d).trans (k i d)⟩
theorem wp_up {α : Type} {M : Model} {Γ : Ctx} {D : Nat → Prop} {B B1 : Array GenState} (k : ∀ i, D i → B1[i]? = B[i]?) {t : Sem α} {Q : α → Pos → Shared → Prop} {E : Value → Pos → Shared → Prop} {p : Pos} {s : Shared}
    (h : Sem.wp M Γ t (fun a p b => ∃ x, Q a p x ∧ Mv D B1 x b) (fun e p b => ∃ x, E e p x ∧ Mv D B1 x b) p s) : Sem.wp M Γ t (fun a p b => ∃ x, Q a p x ∧ Mv D B x b) (fun e p b => ∃ x, E e p x ∧ Mv D B x b) p s :=
  Sem.wp_mono M Γ t (fun _ _ _ ⟨x, q, m⟩ => ⟨x, q, m.up k⟩) (fun _ _ _ ⟨x, q, m⟩ => ⟨x, q, m.up k⟩) p s h
theorem wakes_swap {M : Model} {Γ : Ctx} {D : Nat → Prop} {p : Pos} {g : Nat} {x : Resume} {s s' : Shared} {res : GenResult} {B : Array GenState} (h : Wakes M Γ p g x s res s') (r : Rel D s.gens B) :
    ∃ B1, Wakes M Γ p g x { s with gens := B } res { s' with gens := B1 } ∧ Rel D s'.gens B1 ∧ ∀ i, D i → B1[i]? = B[i]? := by
  unfold Wakes at h ⊢
  cases hx : s.gens[g]? with
  | none => rw [hx] at h; exact h.elim
  | some st =>
    rw [hx] at h
    cases st with
    | fresh c =>
      have n := r.awake hx (fun _ _ _ _ _ _ h => nomatch h)
      have hb := (r.out _ n).trans hx
      dsimp only
      rw [hb]
      dsimp only at h ⊢
      cases x with
      | throw y =>
        obtain ⟨rfl, rfl⟩ := h
        exact ⟨_, ⟨rfl, rfl⟩, r.set n (X := .finished) trivial, Rel.keep n⟩
      | send v =>
        cases v with
        | none =>
          obtain ⟨e1, s1, h1, h2, rfl, rfl⟩ := h
          obtain ⟨B1, z1, z2, z3, z4⟩ := swap h1 rfl _ (r.set n (X := .running) trivial)
          exact ⟨_, ⟨e1, _, z4, h2, rfl, rfl⟩, z2.set n z1.ok, fun i d => (Rel.keep n i d).trans ((z3 i d).trans (Rel.keep n i d))⟩
        | _ =>
          obtain ⟨rfl, rfl⟩ := h
          exact ⟨B, ⟨rfl, rfl⟩, r, fun _ _ => rfl⟩
    | running =>
      have n := r.awake hx (fun _ _ _ _ _ _ h => nomatch h)
      have hb := (r.out _ n).trans hx
      dsimp only
      rw [hb]
      obtain ⟨rfl, rfl⟩ := h
      exact ⟨B, ⟨rfl, rfl⟩, r, fun _ _ => rfl⟩
    | finished =>
      have n := r.awake hx (fun _ _ _ _ _ _ h => nomatch h)
      have hb := (r.out _ n).trans hx
      dsimp only
      rw [hb]
      obtain ⟨rfl, rfl⟩ := h
      exact ⟨B, ⟨rfl, rfl⟩, r, fun _ _ => rfl⟩
    | suspended k l c q fs cl =>
      obtain ⟨e1, s1, h1, h2, rfl, rfl⟩ := h
      rcases r.susp hx with ⟨w, rfl⟩ | ⟨n, hb, o⟩
      · exact (no_uns h1).elim
      · dsimp only
        rw [hb]
        obtain ⟨B1, z1, z2, z3, z4⟩ := swap h1 o _ (r.set n (X := .running) trivial)
        exact ⟨_, ⟨e1, _, z4, h2, rfl, rfl⟩, z2.set n z1.ok, fun i d => (Rel.keep n i d).trans ((z3 i d).trans (Rel.keep n i d))⟩
theorem wp_swap {α : Type} {M : Model} {Γ : Ctx} {D : Nat → Prop} (t : Sem α) {Q : α → Pos → Shared → Prop} {E : Value → Pos → Shared → Prop} : ∀ {p : Pos} {s : Shared} {B : Array GenState}, Sem.wp M Γ t Q E p s → Rel D s.gens B →
    Sem.wp M Γ t (fun a p b => ∃ x, Q a p x ∧ Mv D B x b) (fun e p b => ∃ x, E e p x ∧ Mv D B x b) p { s with gens := B } := by
  induction t with
  | pure a => exact fun {p s B} h r => ⟨s, h, B, rfl, r, fun _ _ => rfl⟩
  | raise e => exact fun {p s B} h r => ⟨s, h, B, rfl, r, fun _ _ => rfl⟩
  | unsupported => exact fun h _ => h.elim
  | finish => exact fun h _ => h.elim
  | rule _ k ih => exact fun h r => ih _ h r
  | «at» _ k ih => exact fun h r => ih _ h r
  | load _ _ k ih => exact fun ⟨o, h1, h⟩ r => ⟨o, h1, ih _ h r⟩
  | update _ _ f k ih => exact fun ⟨h1, h⟩ r => ⟨h1, ih _ h r⟩
  | loadIfAlive _ k ih => exact fun h r => ih _ h r
  | point _ k ih => exact fun h r => ih _ h r
  | register _ _ _ => exact fun h _ => h.elim
  | alloc _ k ih => exact fun h r => ih _ h r
  | fresh k ih => exact fun h r => ih _ h r
  | ask k ih => exact fun h r => ih _ h r
  | choose _ _ k ih => exact fun ⟨h1, h⟩ r => ⟨h1, ih _ h r⟩
  | os _ _ k ih => exact fun h r => ih _ h r
  | call c hd _ _ k ih =>
    intro p s B h r
    obtain ⟨x, s1, h1, h2⟩ := h
    obtain ⟨B1, z1, z2, z3, z4⟩ := swap h1 rfl B r
    exact ⟨x, _, z4, wp_up z3 (ih _ h2 z2)⟩
  | handled _ k ih => exact fun h r => ih _ h r
  | genState _ k ih =>
    intro p s B h r
    obtain ⟨x, h1, h2⟩ := h
    obtain ⟨y, h3, e⟩ := r.gs h1
    exact ⟨y, h3, by rw [e]; exact ih _ h2 r⟩
  | newGen c k ih =>
    intro p s B h r
    have z := wp_up r.pkeep (ih _ h (r.push (X := .fresh c) trivial))
    show Sem.wp M Γ (k B.size) _ _ p _
    rw [r.sz]
    exact z
  | stack k ih => exact fun h r => ih _ h r
  | thread k ih => exact fun h r => ih _ h r
  | yield => exact fun h _ => h.elim
  | fork => exact fun h _ => h.elim
  | await => exact fun h _ => h.elim
  | resume g x l k ih =>
    intro p s B h r
    obtain ⟨res, s1, h1, h2⟩ := h
    obtain ⟨B1, z1, z2, z3⟩ := wakes_swap h1 r
    exact ⟨res, _, z1, wp_up z3 (ih _ h2 z2)⟩
end Ms
/-! The poison itself: every sleeper of a state. -/
namespace Ms
open PySem
def psn : GenState → GenState
  | .suspended _ l c p fs cl => .suspended (fun _ => .unsupported "") l c p fs cl
  | x => x
theorem psn_bare (x : GenState) : (psn x).bare = x.bare := by cases x <;> rfl
theorem psn_seen (x : GenState) : x.seen = (psn x).seen := by cases x <;> rfl
def Asleep (gs : Array GenState) (i : Nat) : Prop := ∃ k l c p fs cl, gs[i]? = some (.suspended k l c p fs cl)
theorem psn_rel (gs : Array GenState) : Rel (Asleep gs) (gs.map psn) gs := by
  refine ⟨(Array.size_map ..).symm, fun i d => ?_, fun i x d h => ?_, fun i d => ?_, fun i x d h => ?_⟩
  · obtain ⟨k, l, c, p, fs, cl, h⟩ := d
    exact ⟨"", l, c, p, fs, cl, by rw [Array.getElem?_map, h] <;> rfl⟩
  · rw [Array.getElem?_map] at h
    cases hy : gs[i]? with
    | none => rw [hy] at h; cases h
    | some y =>
      rw [hy] at h
      obtain rfl := Option.some.inj h
      exact ⟨y, rfl, psn_seen y⟩
  · rw [Array.getElem?_map]
    cases hy : gs[i]? with
    | none => rfl
    | some y =>
      cases y with
      | suspended k l c p fs cl => exact (d ⟨k, l, c, p, fs, cl, hy⟩).elim
      | _ => rfl
  · rw [Array.getElem?_map] at h
    cases hy : gs[i]? with
    | none => rw [hy] at h; cases h
    | some y =>
      rw [hy] at h
      obtain rfl := Option.some.inj h
      cases y with
      | suspended k l c p fs cl => exact (d ⟨k, l, c, p, fs, cl, hy⟩).elim
      | _ => exact trivial
/-- what a promise from the poisoned state says from the true one: the sleepers are as they were -/
theorem any_asleep {α : Type} {M : Model} {A : Around} {t : Sem α} {Q : α → Shared → Prop} {E : Value → Shared → Prop} {s : Shared} (h : wpAny M A t Q E { s with gens := s.gens.map psn }) :
    wpAny M A t (fun a b => ∃ x, Q a x ∧ Mv (Asleep s.gens) s.gens x b) (fun e b => ∃ x, E e x ∧ Mv (Asleep s.gens) s.gens x b) s := fun Γ p hΓ =>
  wp_swap (s := { s with gens := s.gens.map psn }) t (h Γ p hΓ) (psn_rel s.gens)
end Ms
set_option linter.all false
/-! The poison and the invariant of a suite. -/
namespace Ms
open PySem PySem.Spec PyProof.Rows L2
theorem all_psn {gs : Array GenState} (h : AllBare gs) : AllBare (gs.map psn) := fun y m => by
  obtain ⟨x, hx, rfl⟩ := Array.mem_map.mp m
  rw [psn_bare]
  exact h x hx
theorem inv_gens {X : Cx} {pins : List (Addr × Obj)} {σ : L2.St} {H : Hp} {s : Shared} {G : Array GenState} (I : Inv X pins σ H s) (h : AllBare G) : Inv X pins σ H { s with gens := G } := { I with bare := h }
theorem inv_psn {X : Cx} {pins : List (Addr × Obj)} {σ : L2.St} {H : Hp} {s : Shared} (I : Inv X pins σ H s) : Inv X pins σ H { s with gens := s.gens.map psn } := inv_gens I (all_psn I.bare)
/-- back again: what lies outside the sleepers is as x has it, the sleepers are the old ones -/
theorem bare_back {gs : Array GenState} {x b : Shared} (m : Mv (Asleep gs) gs x b) (h : AllBare gs) (hx : AllBare x.gens) : AllBare b.gens := fun y my => by
  obtain ⟨B', rfl, r, k⟩ := m
  obtain ⟨i, hi⟩ := Array.getElem?_of_mem my
  by_cases d : Asleep gs i
  · have := (k i d).symm.trans hi
    exact h y (Array.mem_of_getElem? this)
  · have := (r.out i d).symm.trans hi
    exact hx y (Array.mem_of_getElem? this)
theorem inv_back {X : Cx} {pins : List (Addr × Obj)} {σ : L2.St} {H : Hp} {s x b : Shared} (m : Mv (Asleep s.gens) s.gens x b) (h : AllBare s.gens) (I : Inv X pins σ H x) : Inv X pins σ H b := by
  have q := bare_back m h I.bare
  obtain ⟨B', rfl, r, k⟩ := m
  exact inv_gens I q
/-- a suite beside sleepers: its promise, and they are as they were -/
theorem pss_asleep {X : Cx} {st : List Stmt} {t : TS} (h : PSs X st t) {pins : List (Addr × Obj)} {s : Shared} {σ : L2.St} {H : Hp} {D : Ends} (I : Inv X pins σ H s) (ht : t D σ H) :
    wpAny (model X.prog X.w) X.A (execs st X.env) (fun a b => ∃ x, SP X pins D a x ∧ Mv (Asleep s.gens) s.gens x b) (fun e b => ∃ x, X.xe e x ∧ Mv (Asleep s.gens) s.gens x b) s :=
  any_asleep (h.run pins _ σ H D (inv_psn I) ht)
end Ms
set_option Elab.async false
set_option linter.all false
set_option maxRecDepth 100000
/-! A run of a generator's code, told by the End it comes to (no fixed protocol: what is wanted of a wake-up may speak of that wake-up). -/
namespace Ms
open PySem PySem.Spec PyProof.Rows L2 GenW
def Sg (M : Model) (A : Around) (Φ : End → Shared → Prop) (c : Code) (t : Sem PySem.Fin) (fs : List Frame) (s : Shared) : Prop :=
  ∀ Γ p, Γ.code = c → Γ.Woken A → ∃ e z, Runs M Γ p t fs s e z ∧ Φ e z
section
variable {M : Model} {A : Around} {Φ : End → Shared → Prop} {c : Code} {fs : List Frame} {s : Shared}
theorem sg_wrap {α : Type} {m : Sem α} {K : α → Sem PySem.Fin} {B : Value → Sem PySem.Fin} {gd : Bool → Bool} {lv : List Value → List Value}
    (h : wpAny M (A.over c fs) m (fun a z => Sg M A Φ c (K a) fs z) (fun x z => Sg M A Φ c (B x) fs z) s) : Sg M A Φ c (m.wrap K B gd lv) fs s := by
  rintro Γ p rfl w
  exact runs_wrap_of_wp K B gd lv m (h (Γ.over fs) p (w.over fs)) (fun a q z y => y Γ q rfl w) fun x q z y => y Γ q rfl w
theorem sg_bind {α : Type} {m : Sem α} {K : α → Sem PySem.Fin} (h : wpAny M (A.over c fs) m (fun a z => Sg M A Φ c (K a) fs z) (fun x z => Sg M A Φ c (.raise x) fs z) s) : Sg M A Φ c (m >>= K) fs s := by
  rw [Sem.bind_eq_wrap']
  exact sg_wrap h
theorem sg_at {q : Pos} {k : Unit → Sem PySem.Fin} (h : Sg M A Φ c (k ()) fs s) : Sg M A Φ c (.at q k) fs s := sg_wrap (m := standAt q) (K := k) (B := .raise) (gd := id) (lv := id) (wpAny_standAt h)
theorem sg_point {l : List Value} {k : Unit → Sem PySem.Fin} (h : Sg M A Φ c (k ()) fs s) : Sg M A Φ c (.point l k) fs s := sg_wrap (m := point) (K := k) (B := .raise) (gd := id) (lv := fun _ => l) (wpAny_point h)
theorem sg_call {d : Code} {b : Option Value} {g : Bool} {l : List Value} {k : Result → Sem PySem.Fin} (h : ∀ p, Sg M A Φ d (M.den d) (.ret k b g l c p [] :: fs) s) : Sg M A Φ c (.call d b g l k) fs s := by
  rintro Γ p rfl w
  obtain ⟨e, z, r, y⟩ := h p (Γ.goto d) p rfl (w.goto d)
  exact ⟨e, z, runs_call_seg r, y⟩
theorem sg_leaf {k b g l d q kp} (r : Result) (h : Sg M A Φ d (k r) fs s) : Sg M A Φ c (leafOf r) (.ret k b g l d q kp :: fs) s := by
  rintro Γ p rfl w
  obtain ⟨e, z, x, y⟩ := h (Γ.goto d) q rfl (w.goto d)
  exact ⟨e, z, x.pop r, y⟩
theorem sg_again {d : Code} (hq : d.quiet = true) (h : Sg M A Φ d (M.den d) fs s) : Sg M A Φ c (.pure (.again d)) fs s := by
  rintro Γ p rfl w
  obtain ⟨e, z, x, y⟩ := h (Γ.goto d) p rfl (w.goto d)
  exact ⟨e, z, Runs.head (c₁ := d) (fun _ _ u => .again hq u) x, y⟩
theorem sg_end (r : Result) (h : Φ (.ret r) s) : Sg M A Φ c (leafOf r) [] s := by
  rintro Γ p rfl _
  exact ⟨_, s, Runs.leaf r, h⟩
theorem sg_yield {v : Value} {g : Bool} {l : List Value} {k : Resume → Sem PySem.Fin} (hf : splitAtGen fs = none) (h : ∀ p, Φ (.susp v g l k c p fs) s) : Sg M A Φ c (.yield v g l k) fs s := by
  rintro Γ p rfl _
  exact ⟨_, s, Runs.yield' fs hf, h p⟩
/-- woken now, it comes to Φ -/
def Awk (M : Model) (A : Around) (Φ : End → Shared → Prop) (gs : GenState) (s : Shared) : Prop :=
  match gs with
  | .fresh c => Sg M A Φ c (M.den c) [] s
  | .suspended k _ c _ fs _ => Sg M A Φ c (k (.send .none)) fs s
  | _ => False
theorem wp_wake {α : Type} {E : Value → Shared → Prop} {g : Nat} {gs : GenState} {l : List Value} {k : GenResult → Sem α} {Q : α → Shared → Prop} (hg : s.gens[g]? = some gs) (hw : Awk M A Φ gs (s.setGen g .running))
    (h : ∀ e z, Φ e z → e.quiet = true ∧ wpAny M A (k e.result) Q E (z.setGen g e.genState)) : wpAny M A (.resume g (.send .none) l k) Q E s := by
  intro Γ p i
  rw [Sem.wp_resume]
  cases gs with
  | running => exact hw.elim
  | finished => exact hw.elim
  | fresh c =>
    obtain ⟨e, z, r, y⟩ := hw (Γ.wake c p) p rfl (i.wake c p)
    obtain ⟨q, o⟩ := h e z y
    exact ⟨_, _, by unfold Wakes; rw [hg]; exact ⟨e, z, r, q, rfl, rfl⟩, o Γ p i⟩
  | suspended k₀ l₀ c₀ p₀ fs₀ cl =>
    obtain ⟨e, z, r, y⟩ := hw (Γ.wake c₀ p) p₀ rfl (i.wake c₀ p)
    obtain ⟨q, o⟩ := h e z y
    exact ⟨_, _, by unfold Wakes; rw [hg]; exact ⟨e, z, r, q, rfl, rfl⟩, o Γ p i⟩
end
section
variable {P : Program} {w : World} {A : Around} {E : Value → Shared → Prop} {s : Shared} {Φ : End → Shared → Prop}
/-- next(g): an item, or its end -/
theorem next_gen {a : Addr} {g : Nat} {gs : GenState} {Q : Option Value → Shared → Prop} (hh : A.handled = none) (hl : s.heap.NoLimit) (hd : A.depth < recursionLimit) (hg : s.heap.IsGen a g) (hgs : s.gens[g]? = some gs)
    (hw : Awk (model P w) A.in1 Φ gs (s.setGen g .running))
    (hY : ∀ v b l k c p fs z, Φ (.susp v b l k c p fs) z → (End.susp v b l k c p fs).quiet = true ∧ Q (some v) (z.setGen g (End.susp v b l k c p fs).genState))
    (hR : ∀ r z, Φ (.ret r) z → r = .ok (.ret .none) ∧ ∀ h', (∀ b o, z.heap.get? b = some o → h'.get? b = some o) → Q none { z.setGen g .finished with heap := h' }) :
    wpAny (model P w) A (pyNext (.ref a)) Q E s := by
  unfold pyNext
  refine wpAny_bind (wpAny_attempt (wpAny_callSpecial?_slot (name := Str.ofString "__next__") hg.typeIs slot_gen_next (wpAny_call_entry slot_gen_next hg.typeIs entry_gen_next ?_ (args_gen_next _))))
  show wpAny _ _ (Builtin.Generator.genWake (.ref a) (.send .none)) _ _ s
  unfold Builtin.Generator.genWake
  refine wpAny_bind (wpAny_holding (wpAny_genNumber hg (wpAny_bind (wpAny_genState hgs ?_))))
  cases gs with
  | running => exact hw.elim
  | finished => exact hw.elim
  | _ =>
    refine wpAny_bind (wpAny_roomToWake hl hd ?_)
    refine wp_wake (Φ := Φ) hgs hw fun e z y => ?_
    cases e with
    | susp v b l k c p fs =>
      obtain ⟨q, o⟩ := hY v b l k c p fs z y
      exact ⟨q, wpAny_pure ⟨v, rfl, wpAny_pure o⟩⟩
    | ret r =>
      obtain ⟨rfl, o⟩ := hR r z y
      refine ⟨rfl, ?_⟩
      show wpAny _ _ (newExc (.type "StopIteration") [] >>= _) _ _ _
      simp only [newExc, newTuple]
      refine wpAny_bind (wpAny_bind (wpAny_newObj_type ?_ (by size_fits)))
      refine wpAny_bind (m := firstArgMember _ _) (wpAny_of_eq (a := Value.none) (by first | rfl | (simp only [firstArgMember]; rfl)) (wpAny_newObj_type ?_ (by size_fits)))
      simp only [raiseNew]
      refine wpAny_bind (wpAny_bind (wpAny_handled ?_))
      first | rw [show A.in1.handled = none from hh] | rw [hh]
      refine wpAny_throw (wpAny_bind (wpAny_isInstance (T := "StopIteration") (b := true) ⟨_, Heap.get?_push_size _ rfl, rfl⟩ isSubtype_stop (wpAny_pure (o _ fun b u hb => Heap.get?_push_of_some _ (Heap.get?_push_of_some _ hb)))))
end
end Ms
set_option Elab.async false
set_option linter.all false
set_option maxRecDepth 100000
set_option maxHeartbeats 2000000
/-! `for x in g(..)` over an own generator: the generator's frame while it sleeps, its runs from yield to yield. -/
namespace Ms
open PySem PySem.Spec PyProof.Rows L2 GenW
/-- the heap's first n objects -/
def cut (h : Heap) (n : Nat) : Heap := { h with objs := h.objs.extract 0 n }
theorem cut_size {h : Heap} {n : Nat} (hn : n ≤ h.objs.size) : (cut h n).objs.size = n := by
  show (h.objs.extract 0 n).size = n
  rw [Array.size_extract]; omega
theorem cut_some {h : Heap} {n b : Nat} {o : Obj} : (cut h n).get? b = some o ↔ b < n ∧ h.get? b = some o := by
  rw [Heap.get?_some_iff, Heap.get?_some_iff]
  show (h.objs.extract 0 n)[b]? = some o ∧ _ ↔ _
  constructor
  · rintro ⟨e, f⟩
    obtain ⟨hb, e'⟩ := Array.getElem?_eq_some_iff.mp e
    rw [Array.size_extract] at hb
    have hbn : b < n := by omega
    have hbs : b < h.objs.size := by omega
    rw [Array.getElem_extract] at e'
    refine ⟨hbn, ?_, f⟩
    rw [Array.getElem?_eq_getElem hbs]
    simpa using e'
  · rintro ⟨hb, e, f⟩
    obtain ⟨hs, e'⟩ := Array.getElem?_eq_some_iff.mp e
    refine ⟨?_, f⟩
    have hz : b < (h.objs.extract 0 n).size := by rw [Array.size_extract]; omega
    rw [Array.getElem?_eq_getElem hz, Array.getElem_extract]
    simpa using e'
abbrev cutS (s : Shared) (n : Nat) : Shared := { s with heap := cut s.heap n }
/-- another's code has run: of what was older than n it kept what Un says, of the younger nothing is said -/
theorem inv_past {X : Cx} {pins : List (Addr × Obj)} {σ : L2.St} {H H' : Hp} {s z : Shared} {n : Nat} (I : Inv X pins σ H s) (hL : X.env.locals < n) (hc : ∀ x c, X.env.cells.lookup x = some c → c < n) (hp : ∀ p ∈ X.pn ++ pins, p.1 < n)
    (u : Un (frs X.stack) [] H H' (cut s.heap n) z.heap) (hok : HOk X.prog X.w H' z.heap) (hg : AllBare z.gens) (os : z.os = s.os) : Inv X pins σ H' z := by
  have nch : ∀ {b : Addr} {o : Obj}, s.heap.get? b = some o → b ∉ (List.range s.heap.objs.size).filter (fun b => decide (n ≤ b)) → (cut s.heap n).get? b = some o := fun {b o} e h => by
    refine cut_some.mpr ⟨?_, e⟩
    rcases Nat.lt_or_ge b n with q | q
    · exact q
    · exact absurd (List.mem_filter.mpr ⟨List.mem_range.mpr (Heap.lt_size e), decide_eq_true q⟩) h
  refine I.call' (ch := (List.range s.heap.objs.size).filter fun b => decide (n ≤ b)) os
    ⟨fun b o e h hb hx => u.keep b o (nch e hx) h hb (by simp), fun b o e h hb hx => u.slot b o (nch e hx) h hb (by simp), fun b o e h hx => u.free b o (nch e hx) h (by simp), fun b o e hx => u.there b o (nch e hx) (by simp), u.tups, u.frzs, u.tbls⟩
    hok hg fun b hb => ?_
  have hb' : n ≤ b := of_decide_eq_true (List.mem_filter.mp hb).2
  refine ⟨.inr (Nat.le_trans I.ok.above (Nat.le_trans (Nat.le_of_lt hL) hb')), Nat.ne_of_gt (Nat.lt_of_lt_of_le hL hb'), fun x c e => Nat.ne_of_lt (Nat.lt_of_lt_of_le (hc x c e) hb'), fun p m => Nat.ne_of_lt (Nat.lt_of_lt_of_le (hp p m) hb')⟩
/-- a frame's own object by the names -/
def Lo (N : List Str) (sc : Scope) (σ : L2.St) (o : Obj) : Prop :=
  ∃ es ep, o.data = .dict es ep ∧ StrKeys es ∧ ∀ (i : Nat) (x : Str) (v : V), N[i]? = some x → σ[i]? = some (some v) → Vis sc x → sc.names.lookup x = some .local ∧ ∃ u, RelV v u ∧ nsFind es x = some u
/-- the context of a generator's frame: no exception leaves it -/
abbrev gX (P : Program) (w : World) (K : PySem.W.Frag) (mg : Str → Option Value) (base : Heap) (N : List Str) (qual : Str) (sc : Scope) (f : Addr) (cd : Value) (A : Around) (outer : List Env) (s : Shared) (H : Hp) : Cx :=
  (cxOf (L2.CX P w) P w K mg base N qual sc f cd A outer s H (fun _ _ _ => False)).nox
section
variable {P : Program} {w : World} {K : PySem.W.Frag} {mg : Str → Option Value} {base : Heap} {N ps : List Str} {qual : Str} {sc : Scope} {f : Addr} {cd : Value} {A : Around} {outer : List Env}
theorem lo_of {X : Cx} {s : Shared} {H : Hp} {pins : List (Addr × Obj)} {σ : L2.St} (I : Inv X pins σ H s) (nc : X.env.cells = []) : ∃ o, s.heap.get? X.env.locals = some o ∧ Lo X.N X.env.scope σ o := by
  obtain ⟨m, ⟨o, es, ep, ho, hd, hk, hn⟩, hl⟩ := I.loc
  refine ⟨o, ho, es, ep, hd, hk, fun i x v e1 e2 e3 => ?_⟩
  obtain ⟨u, r, l⟩ := hl i x v e1 e2 e3
  rcases l with ⟨k, e⟩ | ⟨_, c, e, _⟩
  · exact ⟨k, u, r, (hn x).trans e⟩
  · rw [nc] at e
    cases e
theorem inv_wake (S : GScope N ps sc) (nc : ∀ n, cellsFrom n sc.names [] = []) (hd : A.handled = none) {s : Shared} {H : Hp} {n0 : Nat} (e0 : Env0 P w K mg base A outer s H) (hb : base.objs.size ≤ n0) (hf : ∀ b ∈ frs outer, b < n0) (hn : n0 ≤ s.heap.objs.size)
    {o : Obj} (ho : s.heap.get? n0 = some o) {σ : L2.St} (lo : Lo N sc σ o) (hH : H n0 = none) {pins : List (Addr × Obj)} (hp : ∀ p ∈ pins, s.heap.get? p.1 = some p.2 ∧ H p.1 = none ∧ p.1 ≠ n0 ∧ p.1 ∉ frs outer ∧ ∀ v, p.2.data ≠ .cell v) (hl : σ.length = N.length) :
    Inv (gX P w K mg base N qual sc f cd A outer (cutS s n0) H) pins σ H s := by
  have hz := cut_size hn
  have nocell : ∀ {n : Nat} {x : Str} {c : Addr}, (cellsFrom n sc.names []).lookup x = some c → False := fun {n x c} e => by
    rw [nc] at e; cases e
  obtain ⟨es, ep, hd1, hk1, hl1⟩ := lo
  refine ⟨⟨e0.mod, S.kind, rfl, rfl, Nat.le_refl _, fun y z c h1 h2 => (nocell h1).elim, fun y hy => ?_, fun y c _ h => (nocell h).elim, fun _ => hd, Around.frames_deeper e0.frames, .inr ⟨rfl, rfl⟩, fun b z => absurd (show b ∈ ([] : List Addr) from z) (by simp), fun b o e => ?_, ?_, fun b _ _ z => absurd (show b ∈ ([] : List Addr) from z) (by simp),
      fun b z => absurd (show b ∈ ([] : List Addr) from z) (by simp), ?_, e0.frf⟩, rfl, e0.bare, ?_, ?_, fun y c h => (nocell h).elim, ?_, fun y c h => (nocell h).elim, fun p m => ?_, e0.hok, hl⟩
  · have hy : sc.names.lookup y = some .cell ∨ sc.names.lookup y = some .free := hy
    rcases hy with hy | hy
    · obtain ⟨c, e⟩ := cell_has (n := 0) hy
      exact (nocell e).elim
    · exact absurd rfl (S.nofree _ (PySem.mem_of_lookup hy))
  · obtain ⟨e1, e2⟩ := e0.bs b o e
    exact ⟨cut_some.mpr ⟨Nat.lt_of_lt_of_le (Heap.lt_size e) hb, e1⟩, e2⟩
  · show base.objs.size ≤ (cut s.heap n0).objs.size
    rw [hz]; exact hb
  · show (cut s.heap n0).FunFrames base outer
    have all : ∀ l : List Env, (∀ b ∈ frs l, b < n0) → s.heap.FunFrames base l → (cut s.heap n0).FunFrames base l := by
      intro l
      induction l with
      | nil => intro _ _; trivial
      | cons env r ih =>
        rintro q ⟨k, ⟨L, ob, hf', hn', ho', hd'⟩, rr⟩
        refine ⟨k, ⟨L, ob, hf', hn', cut_some.mpr ⟨q L ?_, ho'⟩, hd'⟩, ih (fun b m => q b ?_) rr⟩
        · unfold frs; rw [List.filterMap_cons, hf']; exact List.mem_cons_self
        · unfold frs; rw [List.filterMap_cons, hf']; exact List.mem_cons_of_mem _ m
    exact all outer hf e0.funs
  · exact Un.kept fun b o e => (cut_some.mp e).2
  · refine ⟨fun name => nsFind es name, ⟨o, es, ep, ?_, hd1, hk1, fun _ => rfl⟩, fun i x v e1 e2 e3 => ?_⟩
    · show s.heap.get? (cut s.heap n0).objs.size = some o
      rw [hz]; exact ho
    · obtain ⟨k, u, r, e⟩ := hl1 i x v e1 e2 e3
      exact ⟨u, r, .inl ⟨k, e⟩⟩
  · show H (cut s.heap n0).objs.size = none
    rw [hz]; exact hH
  · obtain ⟨a1, a2, a3, a4, a5⟩ := hp p m
    refine ⟨a1, a2, ?_, a4, a5⟩
    show p.1 ≠ (cut s.heap n0).objs.size
    rw [hz]; exact a3
end
end Ms
set_option Elab.async false
set_option linter.all false
set_option maxRecDepth 100000
set_option maxHeartbeats 2000000
/-! A generator `s1; while test: yield e; s2` from yield to yield. -/
namespace Ms
open PySem PySem.Spec PyProof.Rows L2 GenW
section
variable {M : Model} {A : Around} {Φ : End → Shared → Prop} {c : Code} {fs : List Frame} {s : Shared} {env : Env} {K : Flow → Sem PySem.Fin} {B : Value → Sem PySem.Fin}
/-- a statement that hands out nothing -/
theorem sg_stmt {st : Stmt} {rest : List Stmt} (h : wpAny M (A.over c fs) (exec st env) (fun a z => a = .next ∧ Sg M A Φ c ((execs rest env).wrap K B id id) fs z) (fun _ _ => False) s) : Sg M A Φ c ((execs (st :: rest) env).wrap K B id id) fs s := by
  rw [execs_cons_wrap]
  exact sg_wrap (wpAny_mono h (fun a z y => by obtain ⟨rfl, y⟩ := y; exact y) fun _ _ y => y.elim)
/-- a yield as a statement: what stands behind it is what a wake-up runs -/
theorem sg_out {e : Expr} {q p : Pos} {rest : List Stmt} (hf : splitAtGen fs = none) (hco : env.scope.isCoroutine = false) (hi : interactive env = false)
    (h : wpAny M (A.over c fs) (eval e env) (fun v z => ∀ k : Resume → Sem PySem.Fin, (∀ Ψ z', Sg M A Ψ c ((execs rest env).wrap K B id id) fs z' → Sg M A Ψ c (k (.send .none)) fs z') → ∀ l p, Φ (.susp v false l k c p fs) z) (fun _ _ => False) s) :
    Sg M A Φ c ((execs (.Expr (.Yield (some e) q) p :: rest) env).wrap K B id id) fs s := by
  rw [execs_cons_wrap, exec_Expr env _ p hi rfl]
  show Sg M A Φ c (.at p fun _ => ((eval e env >>= fun v => (standAt q >>= fun _ => yieldOut env v)) >>= fun x => dropValue (.Yield (some e) q) p x).wrap _ B id id) fs s
  have hy : ∀ v, yieldOut env v = yieldValue v := fun v => by simp only [yieldOut, hco, Bool.false_eq_true, if_false]
  simp only [hy]
  refine sg_at ?_
  rw [Sem.bind_eq_wrap', Sem.bind_eq_wrap', Sem.wrap_wrap, Sem.wrap_wrap]
  refine sg_wrap (wpAny_mono h (fun v z y => ?_) fun _ _ y => y.elim)
  exact sg_at (sg_yield hf (y _ (fun Ψ z' x => x) _))
theorem sg_nil (h : Sg M A Φ c (K .next) fs s) : Sg M A Φ c ((execs [] env).wrap K B id id) fs s := h
end
section
variable {P : Program} {w : World} {A : Around} {Φ : End → Shared → Prop} {c : Code} {fs : List Frame} {s : Shared} {env : Env}
/-- one turn of a while's code -/
theorem sg_turn {test : Expr} {body : List Stmt} (h : wpAny (model P w) (A.over (.whileLoop test body [] env) fs) (isTrue test env (eval test env)) (fun b z =>
      if b = true then ∀ (K : Flow → Sem PySem.Fin) (B : Value → Sem PySem.Fin), K .next = .pure (.again (.whileLoop test body [] env)) → Sg (model P w) A Φ (.whileLoop test body [] env) ((execs body env).wrap K B id id) fs z
      else Sg (model P w) A Φ (.whileLoop test body [] env) (leafOf (.ok .next)) fs z) (fun _ _ => False) s) :
    Sg (model P w) A Φ (.whileLoop test body [] env) ((model P w).den (.whileLoop test body [] env)) fs s := by
  show Sg _ A Φ _ ((whileTurn test body [] env).onRaise (fun x => do noteFrame x env; theTreesLotGoes x)) fs s
  unfold whileTurn
  rw [Sem.onRaise_eq_wrap, Sem.bind_eq_wrap', Sem.wrap_wrap]
  refine sg_wrap (wpAny_mono h (fun b z y => ?_) fun _ _ y => y.elim)
  cases b with
  | true =>
    rw [if_pos rfl] at y
    show Sg _ A Φ _ (Sem.wrap _ _ _ _ (if true = true then _ else _)) fs z
    rw [if_pos rfl, Sem.bind_eq_wrap', Sem.wrap_wrap]
    exact y _ _ rfl
  | false =>
    rw [if_neg Bool.false_ne_true] at y
    show Sg _ A Φ _ (Sem.wrap _ _ _ _ (if false = true then _ else _)) fs z
    rw [if_neg Bool.false_ne_true]
    exact y
theorem sg_def {body : List Stmt} (h : ∀ (K : Flow → Sem PySem.Fin) (B : Value → Sem PySem.Fin), K .next = leafOf (.ok (.ret .none)) → Sg (model P w) A Φ (.func body env) ((execs body env).wrap K B id id) fs s) :
    Sg (model P w) A Φ (.func body env) ((model P w).den (.func body env)) fs s := by
  show Sg _ A Φ _ (.point [] fun _ => ((execs body env).onRaise (leaving env)) >>= _) fs s
  refine sg_point ?_
  rw [Sem.onRaise_eq_wrap, Sem.bind_eq_wrap', Sem.wrap_wrap]
  exact h _ _ rfl
/-- a while as the last statement: its code over a frame that goes on behind it -/
theorem sg_while {test : Expr} {body : List Stmt} {p : Pos} {K : Flow → Sem PySem.Fin} {B : Value → Sem PySem.Fin}
    (h : ∀ (kk : Result → Sem PySem.Fin) (l : List Value) (q : Pos), kk (.ok .next) = K .next → Sg (model P w) A Φ (.whileLoop test body [] env) ((model P w).den (.whileLoop test body [] env)) (.ret kk none false l c q [] :: fs) s) :
    Sg (model P w) A Φ c ((execs [.While test body [] p] env).wrap K B id id) fs s := by
  rw [execs_cons_wrap]
  exact sg_at (sg_call fun q => h _ _ q rfl)
end
end Ms
set_option Elab.async false
set_option linter.all false
set_option maxRecDepth 100000
set_option maxHeartbeats 2000000
/-! What each wake-up of such a generator comes to. -/
namespace Ms
open PySem PySem.Spec PyProof.Rows L2 GenW
/-- J: at the test, j items are out; S: asleep behind the j-th; Y: what the j-th is; G: how the heap has grown -/
structure Gsp where
  J : Nat → L2.St → Hp → Prop
  S : Nat → L2.St → Hp → Prop
  Y : Nat → V → Hp → Prop
  G : Hp → Hp → Prop
/-- the readings of the parts in one context -/
structure GB (X : Cx) (s1 : Stmt) (test e : Expr) (s2 : Stmt) (n : Nat) (T : Gsp) (σ0 : L2.St) (Pre : Hp → Prop) : Prop where
  one : ∃ t, PS X s1 t ∧ ∀ H, Pre H → t { nx := fun σ H' => T.J 0 σ H' ∧ T.G H H', rt := fun _ _ => False } σ0 H
  test : ∃ t, PT X test t ∧ (∀ j σ H, j < n → T.J j σ H → t σ H fun b H' => b = true ∧ T.J j σ H' ∧ T.G H H') ∧ ∀ σ H, T.J n σ H → t σ H fun b H' => b = false ∧ T.G H H'
  out : ∃ t, PE X e t ∧ ∀ j σ H, j < n → T.J j σ H → t σ H fun x H' => T.S j σ H' ∧ T.Y j x H' ∧ T.G H H'
  two : ∃ t, PS X s2 t ∧ ∀ j σ H, j < n → T.S j σ H → t { nx := fun σ' H' => T.J (j + 1) σ' H' ∧ T.G H H', rt := fun _ _ => False } σ H
section
variable (P : Program) (w : World) (K : PySem.W.Frag) (mg : Str → Option Value) (base : Heap) (N : List Str) (qual : Str) (sc : Scope) (f : Addr) (cd : Value) (A : Around) (outer : List Env) (n0 a : Addr) (go : Obj) (T : Gsp)
def Fi : Nat → Nat → Shared → Hp → End → Shared → Prop
  | 0 => fun _ s H e z => match e with
    | .ret r => r = .ok (.ret .none) ∧ ∃ σ H', Inv (gX P w K mg base N qual sc f cd A outer (cutS s n0) H) [(a, go)] σ H' z ∧ T.G H H'
    | .susp .. => False
  | m + 1 => fun j s H e z => match e with
    | .ret _ => False
    | .susp v b l k c p fs => (End.susp v b l k c p fs).quiet = true ∧ ∃ σ x H', Inv (gX P w K mg base N qual sc f cd A outer (cutS s n0) H) [(a, go)] σ H' z ∧ RelV x v ∧ T.S j σ H' ∧ T.Y j x H' ∧ T.G H H' ∧
      ∀ s2 H2, n0 ≤ s2.heap.objs.size → Inv (gX P w K mg base N qual sc f cd A outer (cutS s2 n0) H2) [(a, go)] σ H2 s2 → T.S j σ H2 → Sg (model P w) A (Fi m (j + 1) s2 H2) c (k (.send .none)) fs s2
end
section
variable {P : Program} {w : World} {K : PySem.W.Frag} {mg : Str → Option Value} {base : Heap} {N : List Str} {qual : Str} {sc : Scope} {f : Addr} {cd : Value} {A : Around} {outer : List Env} {n0 a : Addr} {go : Obj} {T : Gsp}
  {s1 s2 : Stmt} {test e : Expr} {n : Nat} {σ0 : L2.St} {Pre : Hp → Prop} {q p pw : Pos}
theorem gx_env {s : Shared} {H : Hp} (hn : n0 ≤ s.heap.objs.size) : (gX P w K mg base N qual sc f cd A outer (cutS s n0) H).env = envOfC qual sc n0 f cd := by
  show envOfC qual sc (cut s.heap n0).objs.size f cd = _
  rw [cut_size hn]
theorem gx_A {s : Shared} {H : Hp} (hn : n0 ≤ s.heap.objs.size) : (gX P w K mg base N qual sc f cd A outer (cutS s n0) H).A = A.deeper (envOfC qual sc n0 f cd) := by
  show A.deeper (envOfC qual sc (cut s.heap n0).objs.size f cd) = _
  rw [cut_size hn]
/-- from the test on -/
theorem gen_loop (hG : ∀ x y z, T.G x y → T.G y z → T.G x z) (hco : sc.isCoroutine = false) (hk : sc.kind = .function) (gb : ∀ s H, n0 ≤ s.heap.objs.size → GB (gX P w K mg base N qual sc f cd A outer (cutS s n0) H) s1 test e s2 n T σ0 Pre)
    {kk : Result → Sem PySem.Fin} {l : List Value} {pq : Pos} {body : List Stmt} (hkk : kk (.ok .next) = leafOf (.ok (.ret .none))) :
    ∀ (m j : Nat) (s z : Shared) (H H' : Hp) (σ : L2.St), m + j = n → n0 ≤ s.heap.objs.size → Inv (gX P w K mg base N qual sc f cd A outer (cutS s n0) H) [(a, go)] σ H' z → T.G H H' → T.J j σ H' →
      Sg (model P w) A (Fi P w K mg base N qual sc f cd A outer n0 a go T m j s H) (.whileLoop test [.Expr (.Yield (some e) q) p, s2] [] (envOfC qual sc n0 f cd)) ((model P w).den (.whileLoop test [.Expr (.Yield (some e) q) p, s2] [] (envOfC qual sc n0 f cd)))
        [.ret kk none false l (.func body (envOfC qual sc n0 f cd)) pq []] z := by
  intro m
  have hov : A.over (.whileLoop test [.Expr (.Yield (some e) q) p, s2] [] (envOfC qual sc n0 f cd)) [.ret kk none false l (.func body (envOfC qual sc n0 f cd)) pq []] = A.deeper (envOfC qual sc n0 f cd) := (over_loop rfl rfl).trans over_func
  induction m with
  | zero =>
    intro j s z H H' σ hj hs I g jj
    have hj' : j = n := by omega
    subst hj'
    refine sg_turn ?_
    rw [hov]
    obtain ⟨t, pt, _, ht⟩ := (gb s H hs).test
    have h := pt.run _ z σ H' _ I (ht σ H' jj)
    rw [gx_env hs, gx_A hs] at h
    refine wpAny_mono h (fun b z2 y => ?_) fun _ _ y => y
    obtain ⟨H2, I2, rfl, g2⟩ := y
    rw [if_neg Bool.false_ne_true]
    refine sg_leaf (.ok .next) ?_
    rw [hkk]
    exact sg_end (.ok (.ret .none)) ⟨rfl, σ, H2, I2, hG _ _ _ g g2⟩
  | succ m ih =>
    intro j s z H H' σ hj hs I g jj
    have hlt : j < n := by omega
    refine sg_turn ?_
    rw [hov]
    obtain ⟨t, pt, ht, _⟩ := (gb s H hs).test
    have h := pt.run _ z σ H' _ I (ht j σ H' hlt jj)
    rw [gx_env hs, gx_A hs] at h
    refine wpAny_mono h (fun b z2 y => ?_) fun _ _ y => y
    obtain ⟨H2, I2, rfl, j2, g2⟩ := y
    rw [if_pos rfl]
    intro KK BB hKK
    refine sg_out rfl hco (by first | rfl | (simp only [interactive]; rfl) | simp [interactive, envOfC, hk]) ?_
    rw [hov]
    obtain ⟨t3, p3, h3⟩ := (gb s H hs).out
    have h := p3.run _ z2 σ H2 _ I2 (h3 j σ H2 hlt j2)
    rw [gx_env hs, gx_A hs] at h
    refine wpAny_mono h (fun v z3 y => ?_) fun _ _ y => y
    obtain ⟨x, H3, I3, r3, q3, y3, g3⟩ := y
    intro k hk2 l2 p2
    refine ⟨rfl, σ, x, H3, I3, r3, q3, y3, hG _ _ _ (hG _ _ _ g g2) g3, fun s4 H4 hs4 I4 q4 => hk2 _ _ (sg_stmt ?_)⟩
    rw [hov]
    obtain ⟨t4, p4, h4⟩ := (gb s4 H4 hs4).two
    have h := p4.run _ s4 σ H4 _ I4 (h4 j σ H4 hlt q4)
    rw [gx_env hs4, gx_A hs4] at h
    refine wpAny_mono h (fun fl z5 y => ?_) fun _ _ y => y
    cases fl with
    | next =>
      obtain ⟨σ5, H5, I5, j5, g5⟩ := y
      refine ⟨rfl, sg_nil ?_⟩
      rw [hKK]
      exact sg_again rfl (ih (j + 1) s4 z5 H4 H5 σ5 (by omega) hs4 I5 g5 j5)
    | brk => obtain ⟨_, _, _, y⟩ := y; exact y.elim
    | cont => obtain ⟨_, _, _, y⟩ := y; exact y.elim
    | ret v => obtain ⟨_, _, _, _, _, y⟩ := y; exact y.elim
/-- the whole of it, not yet begun -/
theorem gen_run (hG : ∀ x y z, T.G x y → T.G y z → T.G x z) (hco : sc.isCoroutine = false) (hk : sc.kind = .function) (gb : ∀ s H, n0 ≤ s.heap.objs.size → GB (gX P w K mg base N qual sc f cd A outer (cutS s n0) H) s1 test e s2 n T σ0 Pre)
    {s : Shared} {H : Hp} (hs : n0 ≤ s.heap.objs.size) (I : Inv (gX P w K mg base N qual sc f cd A outer (cutS s n0) H) [(a, go)] σ0 H s) (pre : Pre H) :
    Sg (model P w) A (Fi P w K mg base N qual sc f cd A outer n0 a go T n 0 s H) (.func [s1, .While test [.Expr (.Yield (some e) q) p, s2] [] pw] (envOfC qual sc n0 f cd)) ((model P w).den (.func [s1, .While test [.Expr (.Yield (some e) q) p, s2] [] pw] (envOfC qual sc n0 f cd))) [] s := by
  refine sg_def fun KK BB hKK => sg_stmt ?_
  rw [over_func]
  obtain ⟨t1, p1, h1⟩ := (gb s H hs).one
  have h := p1.run _ s σ0 H _ I (h1 H pre)
  rw [gx_env hs, gx_A hs] at h
  refine wpAny_mono h (fun fl z y => ?_) fun _ _ y => y
  cases fl with
  | next =>
    obtain ⟨σ1, H1, I1, j1, g1⟩ := y
    refine ⟨rfl, sg_while fun kk l pq hkk => ?_⟩
    exact gen_loop hG hco hk gb (hkk.trans hKK) n 0 s z H H1 σ1 (by omega) hs I1 g1 j1
  | brk => obtain ⟨_, _, _, y⟩ := y; exact y.elim
  | cont => obtain ⟨_, _, _, y⟩ := y; exact y.elim
  | ret v => obtain ⟨_, _, _, _, _, y⟩ := y; exact y.elim
end
end Ms
set_option Elab.async false
set_option linter.all false
set_option maxRecDepth 100000
set_option maxHeartbeats 2000000
/-! THE RULE: for x in g(..), g an own generator. -/
namespace Ms
open PySem PySem.Spec PyProof.Rows L2 GenW
/-- an own generator at these arguments: n items, as T says -/
structure GenOk (P : Program) (w : World) (K : PySem.W.Frag) (mg : Str → Option Value) (base : Heap) (x : Str) (st : Stmt) (N ps : List Str) (k : Nat) (vs : List V) (n : Nat) (T : Gsp) (Pre : Hp → Prop) : Prop where
  at_ : At K mg x st
  sc : GScope N ps (defScope st)
  nc : ∀ n, cellsFrom n (defScope st).names [] = []
  bi : BindsIn x x st ps
  len : vs.length = ps.length
  trans : ∀ x y z, T.G x y → T.G y z → T.G x z
  body : ∃ s1 test e s2 q p pw, defBody st = [s1, .While test [.Expr (.Yield (some e) q) p, s2] [] pw] ∧ ∀ cd A outer s H, Rm k x st (He.ga K x) cd A s → GB (gX P w K mg base N x (defScope st) (He.ga K x) cd A outer s H) s1 test e s2 n T (L2.start N vs) Pre
def tForG (GS : List V → Nat → Gsp → (Hp → Prop) → Prop) (ta : TA) (g : TG) (tb : TS) : TS := fun D σ H => ta σ H fun vs H1 => ∃ n T Pre, GS vs n T Pre ∧ Pre H1 ∧ ∃ Pv : Nat → L2.St → Hp → Prop, Pv 0 σ H1 ∧
  (∀ j σ H x σg H', j < n → Pv j σ H → T.G H H' → T.S j σg H' → T.Y j x H' → g x σ H' fun σ2 H2 => tb { D with nx := fun σ' H' => Pv (j + 1) σ' H' ∧ T.S j σg H', ct := fun σ' H' => Pv (j + 1) σ' H' ∧ T.S j σg H', bk := D.nx } σ2 H2) ∧
  ∀ σ H H', Pv n σ H → T.G H H' → D.nx σ H'
section
variable {X : Cx} {x : Str} {st : Stmt} {N ps : List Str} {k : Nat} {vs : List V} {n : Nat} {T : Gsp} {Pre : Hp → Prop}
/-- what the call has made: a generator that has not begun -/
structure Made (X : Cx) (x : Str) (st : Stmt) (N : List Str) (vs : List V) (pins : List (Addr × Obj)) (σ : L2.St) (H : Hp) (n0 a g : Nat) (go : Obj) (cd : Value) (s : Shared) : Prop where
  inv : Inv X pins σ H s
  le : n0 ≤ s.heap.objs.size
  bz : X.base.objs.size ≤ n0
  fr : ∀ b ∈ frs X.stack, b < n0
  loc : X.env.locals < n0
  cel : ∀ x c, X.env.cells.lookup x = some c → c < n0
  pin : ∀ p ∈ X.pn ++ pins, p.1 < n0
  ne : n0 < a
  obj : s.heap.get? a = some go
  gen : ∀ h : Heap, h.get? a = some go → h.IsGen a g
  dat : ∀ v, go.data ≠ .cell v
  own : ∃ o, s.heap.get? n0 = some o ∧ Lo N (defScope st) (L2.start N vs) o
  st : s.gens[g]? = some (.fresh (.func (defBody st) (envOfC x (defScope st) n0 (He.ga X.K x) cd)))
  nL : H n0 = none
  nA : H a = none
theorem call_gen (D : GenOk X.prog X.w X.K X.mg X.base x st N ps k vs n T Pre) (hr : Room (k + 2) X.A) {pins : List (Addr × Obj)} {s : Shared} {σ : L2.St} {H : Hp} {us : List Value} {E : Value → Shared → Prop} (I : Inv X pins σ H s) (r : Vals vs us) :
    wpAny (model X.prog X.w) X.A (call (.ref (He.ga X.K x)) us) (fun u z => ∃ n0 a g go cd, u = .ref a ∧ Made X x st N vs pins σ H n0 a g go cd z) E s := by
  obtain ⟨fd, F⟩ := D.at_.df
  obtain ⟨oc, od, dV, kV, doc, pm, an, cdv, ct, osl, rfl, lk, hcd, hdv, _⟩ := F.ex
  have hl : us.length = ps.length := by rw [← r.length]; exact D.len
  have S := D.sc
  have KX : X.K.In s.heap := I.kIn
  have hb : bindArgs (PySem.W.fnOf x x (defArgs st) (defBody st) (defScope st) dV kV doc pm an cdv ct) ⟨us, []⟩ = pure (ps.zip us) := by
    have e : dV = .none := by
      first
        | exact hdv
        | (cases hdv; rfl)
        | simpa [DflV] using hdv
    subst e
    exact D.bi kV doc pm an cdv ct us hl
  have hkind : ∀ y ∈ ps.zip us, (defScope st).names.lookup y.1 = some .local ∨ ((defScope st).names.lookup y.1 = some .cell ∧ ((cellsFrom (s.heap.objs.size + 1) (defScope st).names []).lookup y.1).isSome = true) := fun ⟨n, v⟩ hy => by
    rcases S.par n (List.of_mem_zip hy).1 with q | q
    · exact .inl q
    · exact .inr ⟨q, PySem.W.cellsFrom_some _ _ _ (.inl q)⟩
  refine wpAny_call (codeAny_mono (R := fun r z => match r with | .ok (.ret u) => ∃ n0 a g go cd, u = .ref a ∧ Made X x st N vs pins σ H n0 a g go cd z | _ => False) (codeAny_call_generator hr.depth (KX _ _ lk) rfl S.co S.gen rfl (PySem.W.codeRec_of KX hcd) (wpAny_of_eq hb (wpAny_newFunctionEnv_cells S.kind hkind fun env he s1 y => ?_))) fun r z q => ?_)
  · subst he
    obtain ⟨h1, tk, es1, hk1⟩ := y.done
    have lim1 : s1.heap.NoLimit := I.nolimit.keeps y.toInCall.keep
    refine ⟨lim1, ?_⟩
    have lt1 : s.heap.objs.size < s1.heap.objs.size := y.toInCall.ns.lt
    have kp1 : ∀ b o, s.heap.get? b = some o → s1.heap.get? b = some o := y.toInCall.keep
    obtain ⟨oL, hoL, lo⟩ := lo_of (inv_startG (E := fun _ _ _ => False) (qual := x) (f := He.ga X.K x) (cd := cdv) S hr.hd I.env0 D.len r y) (D.nc _)
    have fin : ∀ (ob : Obj) (nm qn : Value) (tk2 : Nat), ob.cls = .type "generator" → ob.data = .fields #[.int s1.gens.size 0, nm, qn] → ob.slots = #[] → (∀ h : Heap, (h.push ob).get? h.objs.size = some ob) →
        ∃ n0 a g go cd, Value.ref s1.heap.objs.size = .ref a ∧ Made X x st N vs pins σ H n0 a g go cd { s1 with gens := s1.gens.push (.fresh (.func (defBody st) (envOfC x (defScope st) s.heap.objs.size (He.ga X.K x) cdv))), toks := tk2, heap := s1.heap.push ob } := by
      intro ob nm qn tk2 g1 g2 g3 g4
      have kp2 : ∀ b o, s.heap.get? b = some o → (s1.heap.push ob).get? b = some o := fun b o e => Heap.get?_push_of_some _ (kp1 b o e)
      refine ⟨s.heap.objs.size, s1.heap.objs.size, s1.gens.size, ob, cdv, rfl, ?_⟩
      exact {
        inv := I.call' (ch := []) (by rw [es1]) (Un.kept kp2) (I.hok.kept kp2) (AllBare.push (by rw [es1]; exact I.bare) rfl) fun b z => by simp at z
        le := by show s.heap.objs.size ≤ (s1.heap.push ob).objs.size; rw [Heap.size_push]; omega
        bz := Nat.le_trans I.ok.bsz I.sz
        fr := fun b hb => by
          rcases List.mem_cons.mp (I.stkSub b hb) with q | q
          · rw [q]; exact I.lt
          · obtain ⟨_, o, ho, _⟩ := I.funs.mem q
            exact Heap.lt_size ho
        loc := I.lt
        cel := fun y c e => by
          obtain ⟨v, o, ho, _⟩ := I.cell y c e
          exact Heap.lt_size ho
        pin := fun p m => Heap.lt_size (I.pin p m).1
        ne := lt1
        obj := g4 _
        gen := fun h e => ⟨ob, nm, qn, e, g1, g2, g3⟩
        dat := fun v e => by rw [g2] at e; cases e
        own := ⟨oL, Heap.get?_push_of_some _ hoL, lo⟩
        st := Array.getElem?_push_size ..
        nL := I.hok.fresh (Nat.le_refl _)
        nA := I.hok.fresh (Nat.le_of_lt lt1) }
    exact fin { cls := .type "generator", data := .fields #[.int s1.gens.size 0, .str x s1.toks, .str x (s1.toks + 1)] } _ _ _ rfl rfl rfl fun h => Heap.get?_push_size _ rfl
  · cases r with
    | error e => exact q.elim
    | ok fl =>
      cases fl with
      | ret u => exact q
      | next => exact q.elim
      | brk => exact q.elim
      | cont => exact q.elim
/-- the top of a turn: j items are out -/
structure Top (X : Cx) (x : Str) (st : Stmt) (N : List Str) (T : Gsp) (n : Nat) (pins : List (Addr × Obj)) (n0 a g : Nat) (go : Obj) (cd : Value) (j : Nat) (σ : L2.St) (H : Hp) (s : Shared) : Prop where
  inv : Inv X pins σ H s
  le : n0 ≤ s.heap.objs.size
  obj : s.heap.get? a = some go
  nA : H a = none
  nL : H n0 = none
  st : ∃ gs, s.gens[g]? = some gs ∧ Awk (model X.prog X.w) X.A.in1 (Fi X.prog X.w X.K X.mg X.base N x (defScope st) (He.ga X.K x) cd X.A.in1 X.stack n0 a go T (n - j) j (s.setGen g .running) H) gs (s.setGen g .running)
theorem top_first (D : GenOk X.prog X.w X.K X.mg X.base x st N ps k vs n T Pre) (hr : Room (k + 2) X.A) {pins : List (Addr × Obj)} {s : Shared} {σ : L2.St} {H : Hp} {n0 a g : Nat} {go : Obj} {cd : Value} (m : Made X x st N vs pins σ H n0 a g go cd s) (pre : Pre H) : Top X x st N T n pins n0 a g go cd 0 σ H s := by
  obtain ⟨s1, test, e, s2, q, p, pw, hbd, hb⟩ := D.body
  refine ⟨m.inv, m.le, m.obj, m.nA, m.nL, _, m.st, ?_⟩
  have e0 := m.inv.env0
  have e1 : Env0 X.prog X.w X.K X.mg X.base X.A.in1 X.stack (s.setGen g .running) H := ⟨e0.frames, e0.mod, e0.bs, e0.bsz, e0.funs, e0.frf, e0.hok, allBare_setGen e0.bare rfl⟩
  obtain ⟨o, ho, lo⟩ := m.own
  have nfr : a ∉ frs X.stack := fun h => absurd (m.fr a h) (Nat.not_lt.mpr (Nat.le_of_lt m.ne))
  have I := inv_wake (qual := x) (f := He.ga X.K x) (cd := cd) (s := s.setGen g .running) (pins := [(a, go)]) D.sc D.nc (A := X.A.in1) hr.hd e1 m.bz m.fr m.le ho lo m.nL (fun p hp => by
    rw [List.mem_singleton.mp hp]
    exact ⟨m.obj, m.nA, Nat.ne_of_gt m.ne, nfr, m.dat⟩) (by
      show (L2.start N vs).length = N.length
      have h1 := D.len
      have h2 : ps.length ≤ N.length := by have := congrArg List.length D.sc.pre; rw [List.length_take] at this; omega
      unfold L2.start
      rw [List.length_append, List.length_map, List.length_replicate]
      omega)
  have run := gen_run (n := n) (s1 := s1) (test := test) (e := e) (s2 := s2) (q := q) (p := p) (pw := pw) D.trans D.sc.co D.sc.kind (fun s H hs => hb cd X.A.in1 X.stack (cutS s n0) H ((show Room (k + 1) X.A.in1 from hr.in1).deeper _)) (s := s.setGen g .running) m.le I pre
  rw [hbd]
  exact run
end
end Ms
set_option Elab.async false
set_option linter.all false
set_option maxRecDepth 100000
set_option maxHeartbeats 2000000
/-! The loop over an own generator. -/
namespace Ms
open PySem PySem.Spec PyProof.Rows L2 GenW
section
variable {X : Cx} {x : Str} {st : Stmt} {N ps : List Str} {k : Nat} {vs : List V} {n : Nat} {T : Gsp} {Pre : Hp → Prop} {pins : List (Addr × Obj)} {n0 a g : Nat} {go : Obj} {cd : Value}
/-- what does not change through the loop -/
structure Fix (X : Cx) (pins : List (Addr × Obj)) (n0 a g : Nat) (go : Obj) : Prop where
  bz : X.base.objs.size ≤ n0
  fr : ∀ b ∈ frs X.stack, b < n0
  loc : X.env.locals < n0
  cel : ∀ x c, X.env.cells.lookup x = some c → c < n0
  pin : ∀ p ∈ X.pn ++ pins, p.1 < n0
  ne : n0 < a
  gen : ∀ h : Heap, h.get? a = some go → h.IsGen a g
  dat : ∀ v, go.data ≠ .cell v
theorem Made.fix {σ : L2.St} {H : Hp} {s : Shared} (m : Made X x st N vs pins σ H n0 a g go cd s) : Fix X pins n0 a g go := ⟨m.bz, m.fr, m.loc, m.cel, m.pin, m.ne, m.gen, m.dat⟩
/-- an item is out: what it is, how the generator sleeps -/
def Out (X : Cx) (x : Str) (st : Stmt) (N : List Str) (T : Gsp) (n : Nat) (pins : List (Addr × Obj)) (n0 a g : Nat) (go : Obj) (cd : Value) (j : Nat) (σ : L2.St) (H : Hp) (v : Value) (z : Shared) : Prop :=
  j < n ∧ ∃ oL σg xv H' kk l c p fs, Inv X pins σ H' z ∧ z.heap.get? a = some go ∧ H' a = none ∧ z.heap.get? n0 = some oL ∧ H' n0 = none ∧ (∀ v, oL.data ≠ .cell v) ∧ RelV xv v ∧ T.S j σg H' ∧ T.Y j xv H' ∧ T.G H H' ∧ z.gens[g]? = some (.suspended kk l c p fs false) ∧
    ∀ pins2 σ2 H2 s2, Inv X pins2 σ2 H2 s2 → Inv X pins σ2 H2 s2 → s2.heap.get? a = some go → H2 a = none → s2.heap.get? n0 = some oL → H2 n0 = none → T.S j σg H2 → s2.gens[g]? = some (.suspended kk l c p fs false) → Top X x st N T n pins n0 a g go cd (j + 1) σ2 H2 s2
theorem turn_gen (hx : X.xe = fun _ _ => False) (D : GenOk X.prog X.w X.K X.mg X.base x st N ps k vs n T Pre) (hr : Room (k + 2) X.A) (F : Fix X pins n0 a g go) {j : Nat} {σ : L2.St} {H : Hp} {s : Shared} (hj : j ≤ n) (tp : Top X x st N T n pins n0 a g go cd j σ H s) :
    wpAny (model X.prog X.w) X.A (pyNext (.ref a)) (fun r z => match r with | none => j = n ∧ ∃ H', Inv X pins σ H' z ∧ T.G H H' | some v => Out X x st N T n pins n0 a g go cd j σ H v z) (fun _ _ => False) s := by
  obtain ⟨I, le, hobj, nA, nL, gs, hgs, hw⟩ := tp
  have hgl : g < s.gens.size := (Array.getElem?_eq_some_iff.mp hgs).1
  -- behind a run: the consumer's side
  have after : ∀ {σg : L2.St} {H' : Hp} {z : Shared}, Inv (gX X.prog X.w X.K X.mg X.base N x (defScope st) (He.ga X.K x) cd X.A.in1 X.stack (cutS (s.setGen g .running) n0) H) [(a, go)] σg H' z → Inv X pins σ H' z := fun {σg H' z} J =>
    inv_past I F.loc F.cel F.pin J.base J.hok J.bare J.os
  refine wpAny_mono (wpAny_gsz (n := g + 1) hgl (Q := fun r z => match r with | none => j = n ∧ ∃ H', Inv X pins σ H' z ∧ T.G H H' | some v => Out X x st N T n pins n0 a g go cd j σ H v z) (E := fun _ _ => False)
    (next_gen hr.hd I.nolimit (by have := hr.dp; show X.A.depth < _; omega) (F.gen _ hobj) hgs hw (fun v b l kk c p fs z y => ?_) fun r z y => ?_)) (fun r z y => y) fun _ _ y => y
  · cases hm : n - j with
    | zero => rw [hm] at y; exact y.elim
    | succ m =>
      rw [hm] at y
      obtain ⟨hq, σg, xv, H', J, rv, hS, hY, hG, hcont⟩ := y
      refine ⟨hq, fun hsz => ⟨by omega, ?_⟩⟩
      have hsz1 : g < z.gens.size := by
        have q : (z.setGen g (End.susp v b l kk c p fs).genState).gens.size = z.gens.size := setGen_size _ _ _
        omega
      have hst : (End.susp v b l kk c p fs).genState = .suspended kk l c p fs false := by
        have q : (!(b || fs.any Frame.guarded)) = true := hq
        show GenState.suspended kk l c p fs (b || fs.any Frame.guarded) = _
        cases h : (b || fs.any Frame.guarded) with
        | true => rw [h] at q; cases q
        | false => rfl
      rw [hst]
      obtain ⟨oL, hoL, lo⟩ := lo_of J (D.nc _)
      have hlc : (gX X.prog X.w X.K X.mg X.base N x (defScope st) (He.ga X.K x) cd X.A.in1 X.stack (cutS (s.setGen g .running) n0) H).env.locals = n0 := cut_size le
      rw [hlc] at hoL
      have hfree := J.free
      rw [hlc] at hfree
      obtain ⟨ha1, ha2, _⟩ := J.pin (a, go) (List.mem_append_right _ (List.mem_singleton.mpr rfl))
      have hda : ∀ u, oL.data ≠ .cell u := fun u q => by
        obtain ⟨es, ep, hd, _⟩ := lo
        rw [hd] at q; cases q
      refine ⟨oL, σg, xv, H', kk, l, c, p, fs, inv_gens (after J) (allBare_setGen J.bare rfl), ha1, ha2, hoL, hfree, hda, rv, hS, hY, hG, setGen_at hsz1, fun pins2 σ2 H2 s2 I2 I3 b1 b2 b3 b4 b5 b6 => ?_⟩
      have hle2 : n0 ≤ s2.heap.objs.size := Nat.le_of_lt (Heap.lt_size b3)
      refine ⟨I3, hle2, b1, b2, b4, _, b6, ?_⟩
      have e0 := I2.env0
      have e1 : Env0 X.prog X.w X.K X.mg X.base X.A.in1 X.stack (s2.setGen g .running) H2 := ⟨e0.frames, e0.mod, e0.bs, e0.bsz, e0.funs, e0.frf, e0.hok, allBare_setGen e0.bare rfl⟩
      have nfr : a ∉ frs X.stack := fun h => absurd (F.fr a h) (Nat.not_lt.mpr (Nat.le_of_lt F.ne))
      have I4 := inv_wake (qual := x) (f := He.ga X.K x) (cd := cd) (s := s2.setGen g .running) (pins := [(a, go)]) D.sc D.nc (A := X.A.in1) hr.hd e1 F.bz F.fr hle2 b3 lo b4 (fun p hp => by
        rw [List.mem_singleton.mp hp]
        exact ⟨b1, b2, Nat.ne_of_gt F.ne, nfr, F.dat⟩) J.len
      have e : n - (j + 1) = m := by omega
      rw [e]
      exact hcont (s2.setGen g .running) H2 hle2 I4 b5
  · cases hm : n - j with
    | succ m => rw [hm] at y; exact y.elim
    | zero =>
      rw [hm] at y
      obtain ⟨rfl, σg, H', J, hG⟩ := y
      refine ⟨rfl, fun h' hk hsz => ⟨by omega, H', ?_, hG⟩⟩
      exact (after J).call' (ch := []) rfl (Un.kept hk) ((after J).hok.kept hk) (allBare_setGen J.bare rfl) fun b z => by simp at z
theorem ps_for_gen {GS : List V → Nat → Gsp → (Hp → Prop) → Prop} {tg e0 : Expr} {es : List Expr} {ta : TA} {g' : TG} {tb : TS} {body : List Stmt} {p pos pos' : Pos} (hx : X.xe = fun _ _ => False) (hc : X.calm = true) (hr : Room (k + 2) X.A) (hg : Gl X x)
    (hD : ∀ vs n T Pre, GS vs n T Pre → GenOk X.prog X.w X.K X.mg X.base x st N ps k vs n T Pre) (A0 : At X.K X.mg x st) (ha : PA X (e0 :: es) ta) (ht : PG X tg g') (hb : PSs X body tb) (hlt : ∀ it v, letOwnedTupleGo tg it v = pure () := by intros; rfl)
    (hdb : (x == ("__debug__" : Str)) = false := by decide) (he : starEach (e0 :: es) X.env = (false, eval e0 X.env) :: starEach es X.env := by rfl) (hpl : (backTo pos' (starEach es X.env)).any (·.1) = false := by rfl)
    (hs : ∀ v, foldedSetIterable (.Call (.Name x p) (e0 :: es) [] pos') X.env v = pure v := by intro _; rfl) :
    PS X (.For tg (.Call (.Name x p) (e0 :: es) [] pos') body [] pos) (tForG GS ta g' tb) := by
  refine ⟨fun pins s σ H D I h => ?_⟩
  rw [hx]
  have kp : PySem.W.keepIn X.K (.ref (He.ga X.K x)) = true := let ⟨_, F⟩ := A0.df; F.kp
  have bad : ∀ {α : Type} {t : Sem α} {Q : α → Shared → Prop} {E : Value → Shared → Prop} {s : Shared}, wpAny (model X.prog X.w) X.A t Q X.xe s → wpAny (model X.prog X.w) X.A t Q E s := fun {α t Q E s} h => wpAny_mono h (fun _ _ y => y) fun _ _ y => by rw [hx] at y; exact y.elim
  refine wpAny_For (thn (Q := fun u z => ∃ vs n T Pre H1 n0 a g go cd, u = .ref a ∧ GenOk X.prog X.w X.K X.mg X.base x st N ps k vs n T Pre ∧ Pre H1 ∧ Made X x st N vs pins σ H1 n0 a g go cd z ∧ ∃ Pv : Nat → L2.St → Hp → Prop, Pv 0 σ H1 ∧
      (∀ j σ H x σg H', j < n → Pv j σ H → T.G H H' → T.S j σg H' → T.Y j x H' → g' x σ H' fun σ2 H2 => tb { D with nx := fun σ' H' => Pv (j + 1) σ' H' ∧ T.S j σg H', ct := fun σ' H' => Pv (j + 1) σ' H' ∧ T.S j σg H', bk := D.nx } σ2 H2) ∧
      ∀ σ H H', Pv n σ H → T.G H H' → D.nx σ H') (wpAny_Call_Name_kw (ld_glob I hg A0.gl (PySem.W.callWith_K (h₀ := X.base) I.ok.mod.kin kp (bad (thn (ha.run pos' pins s σ H _ I h) fun us s1 ⟨vs, H1, I1, r, q⟩ => ⟨I1.kIn, ?_⟩)) he hpl) hdb)) fun u z y => ?_) hs
  · obtain ⟨n, T, Pre, gs, pre, rest⟩ := q
    exact thn (call_gen (hD _ _ _ _ gs) hr I1 r) fun u z ⟨n0, a, g, go, cd, e, m⟩ => ⟨vs, n, T, Pre, H1, n0, a, g, go, cd, e, hD _ _ _ _ gs, pre, m, rest⟩
  · obtain ⟨vs, n, T, Pre, H1, n0, a, g, go, cd, rfl, Dk, pre, m, Pv, p0, step, fin⟩ := y
    have F := m.fix
    refine wpAny_pyIter_gen (m.gen _ m.obj) ?_
    refine codeAny_forLoop_any (fun c s' => ∃ j σ' H', c = n - j ∧ j ≤ n ∧ Top X x st N T n pins n0 a g go cd j σ' H' s' ∧ Pv j σ' H') ?_ n ⟨0, σ, H1, by simp, Nat.zero_le _, top_first Dk hr m pre, p0⟩
    rintro c s3 ⟨j, σ3, H3, rfl, hj, tp, pv⟩
    refine wpAny_mono (turn_gen hx Dk hr F hj tp) (fun r z y => ?_) fun _ _ y => y.elim
    cases r with
    | none =>
      obtain ⟨rfl, H4, I4, g4⟩ := y
      exact wpAny_execs_nil ⟨σ3, H4, I4, fin σ3 H3 H4 pv g4⟩
    | some v =>
      obtain ⟨hlt', oL, σg, xv, H4, kk, l, c, pp, fs, I4, b1, b2, b3, b4, b5, rv, hS, hY, hG, hst, hwake⟩ := y
      refine wpAny_of_eq (hlt _ _) ?_
      have nfr : a ∉ X.fs := fun q => by
        obtain ⟨_, o, ho, _⟩ := I4.ok.funs.mem q
        exact absurd (Heap.lt_size ho) (Nat.not_lt.mpr (Nat.le_trans I4.ok.above (Nat.le_of_lt (Nat.lt_trans F.loc F.ne))))
      have nfr0 : n0 ∉ X.fs := fun q => by
        obtain ⟨_, o, ho, _⟩ := I4.ok.funs.mem q
        exact absurd (Heap.lt_size ho) (Nat.not_lt.mpr (Nat.le_trans I4.ok.above (Nat.le_of_lt F.loc)))
      -- the generator's two objects stay as they are
      have I5 : Inv X (pins ++ [(a, go), (n0, oL)]) σ3 H4 z := I4.pins_of fun q hq => by
        rcases List.mem_append.mp hq with hq | hq
        · exact I4.pin q (List.mem_append_right _ hq)
        · rcases List.mem_cons.mp hq with rfl | hq
          · exact ⟨b1, b2, Nat.ne_of_gt (Nat.lt_trans F.loc F.ne), nfr, F.dat⟩
          · rw [List.mem_singleton.mp hq]
            exact ⟨b3, b4, Nat.ne_of_gt F.loc, nfr0, b5⟩
      have asl : Asleep z.gens g := ⟨kk, l, c, pp, fs, false, hst⟩
      have h6 := any_asleep (ht.run _ _ σ3 H4 xv v _ (inv_psn I5) rv (step j σ3 H3 xv σg H4 hlt' pv hG hS hY))
      refine wpAny_mono h6 (fun _ s6 y6 => ?_) fun _ _ y => by obtain ⟨_, y, _⟩ := y; rw [hx] at y; exact y.elim
      obtain ⟨x6, ⟨σ6, H6, I6, q6⟩, m6⟩ := y6
      have I6' := inv_back m6 I5.bare I6
      have st6 : s6.gens[g]? = some (.suspended kk l c pp fs false) := by
        obtain ⟨B', rfl, _, kp⟩ := m6
        exact (kp g asl).trans hst
      have h7 := pss_asleep hb I6' q6
      refine wpAny_mono h7 (fun f s7 y7 => ?_) fun _ _ y => by obtain ⟨_, y, _⟩ := y; rw [hx] at y; exact y.elim
      obtain ⟨x7, sp7, m7⟩ := y7
      have st7 : s7.gens[g]? = some (.suspended kk l c pp fs false) := by
        obtain ⟨B', rfl, _, kp⟩ := m7
        exact (kp g ⟨kk, l, c, pp, fs, false, st6⟩).trans st6
      have again : ∀ {σ7 : L2.St} {H7 : Hp}, Inv X (pins ++ [(a, go), (n0, oL)]) σ7 H7 x7 → Pv (j + 1) σ7 H7 ∧ T.S j σg H7 → ∃ m, m < n - j ∧ ∃ j σ' H', m = n - j ∧ j ≤ n ∧ Top X x st N T n pins n0 a g go cd j σ' H' s7 ∧ Pv j σ' H' := fun {σ7 H7} I7 q7 => by
        have J := inv_back m7 I6'.bare I7
        obtain ⟨a1, a2, _⟩ := J.pin (a, go) (by simp)
        obtain ⟨a3, a4, _⟩ := J.pin (n0, oL) (by simp)
        exact ⟨n - (j + 1), by omega, j + 1, σ7, H7, rfl, hlt', hwake _ _ _ _ J J.unpinned a1 a2 a3 a4 q7.2 st7, q7.1⟩
      cases f with
      | next => obtain ⟨σ7, H7, I7, q7⟩ := sp7; exact again I7 q7
      | cont => obtain ⟨σ7, H7, I7, q7⟩ := sp7; exact again I7 q7
      | brk => obtain ⟨σ7, H7, I7, q7⟩ := sp7; exact ⟨σ7, H7, (inv_back m7 I6'.bare I7).unpinned, q7⟩
      | ret u => obtain ⟨v7, σ7, H7, I7, r7, q7⟩ := sp7; exact ⟨v7, σ7, H7, (inv_back m7 I6'.bare I7).unpinned, r7, q7⟩
end
end Ms
set_option Elab.async false
set_option linter.all false
set_option maxRecDepth 100000
set_option maxHeartbeats 4000000
/-! K03: all_sights, a generator. -/
namespace K03
open PySem PySem.Spec PyProof.Rows L2 Ms
def rowsN (n : Nat) : List (List Nat) := rgs (n - 1)
def Tall (K : PySem.W.Frag) (n : Nat) : Gsp where
  J := fun j σ H => ∃ z, σ = [some (.int (n : Nat)), some z] ∧ (∀ r, (rowsN n)[j]? = some r → ∃ g, z = .ref g ∧ NL H g r) ∧ ((rowsN n)[j]? = none → z = .non)
  S := fun j σ H => ∃ g r, σ = [some (.int (n : Nat)), some (.ref g)] ∧ (rowsN n)[j]? = some r ∧ NL H g r
  Y := fun j x H => ∃ p r, x = .ref p ∧ (rowsN n)[j]? = some r ∧ SightAt K H p r
  G := Same
def spAll (K : PySem.W.Frag) : List V → Nat → Gsp → (Hp → Prop) → Prop := fun vs m T Pre => ∃ n : Nat, 0 < n ∧ n ≤ 8 ∧ vs = [.int (n : Nat)] ∧ m = (rowsN n).length ∧ T = Tall K n ∧ Pre = fun _ => True
theorem rowsN_len {n : Nat} (h : 0 < n) {r : List Nat} (m : r ∈ rowsN n) : r.length = n := by
  have := rgs_len (n - 1) r m
  omega
section
variable {P : Program} {w : World} {K : PySem.W.Frag} {mg : Str → Option Value} {base : Heap}
theorem gen_all (T : Tx K mg) (C : COk P w K mg base "Sight" 2 (spInit K)) (O_marks_after : Ok P w K mg base "marks_after" 2 (spAfter K)) {vs : List V} {m : Nat} {G : Gsp} {Pre : Hp → Prop} (h : spAll K vs m G Pre) : GenOk P w K mg base "all_sights" sall_sights ["size", "marks"] ["size"] 3 vs m G Pre := by
  obtain ⟨n, n0, n8, rfl, rfl, rfl, rfl⟩ := h
  refine ⟨T.a_all_sights, sc_all_sights, fun n => rfl, bi_all_sights, rfl, fun _ _ _ a b => same2 a b, _, _, _, _, _, _, _, rfl, fun cd A outer s H hr => ?_⟩
  have O_Sightu__initu_ := C
  have big : 4000000 ≤ sizeLine := by decide
  refine ⟨⟨_, ps_set (i := 1) sc_all_sights.nd rfl (by first | exact Or.inl rfl | exact Or.inr rfl) (pe_op op_rep (pe_lst (pa_cons pe_int pa_nil)) (pv 0)), fun H1 _ => ?_⟩,
    ⟨_, pt_cmpR op_notN (pv 1) pe_non (nomark _), fun j σ H1 hj hJ => ?_, fun σ H1 hJ => ?_⟩,
    ⟨_, pe_nK K (E := EN) O_Sightu__initu_ hr (by decide) (fun σ => passN σ) (pa_cons (pv 1) pa_nil), fun j σ H1 hj hJ => ?_⟩,
    ⟨_, ps_set (i := 1) sc_all_sights.nd rfl (by first | exact Or.inl rfl | exact Or.inr rfl) (pe_c (E := EN) O_marks_after hr (by decide) (fun σ => passN σ) (pa_cons (pv 1) pa_nil)), fun j σ H1 hj hS => ?_⟩⟩
  · obtain ⟨_, hf⟩ := rgs_walks (n - 1)
    refine ⟨by show 1 ≤ sizeLine; omega, fun p1 n1 => ?_⟩
    have s1 := same_new (o := .lst ([V.int 0])) n1
    have b1 : upd H1 p1 (.lst ([V.int 0])) p1 = some (.lst ([V.int 0])) := upd_same ..
    generalize upd H1 p1 (.lst ([V.int 0])) = H1 at s1 b1
    refine ⟨_, rfl, p1, _, _, rfl, rfl, b1, by omega, by omega, by show 1 * _ ≤ _; omega, fun p2 n2 => ?_⟩
    rw [show (List.replicate ((n : Nat) : Int).toNat [V.int 0]).flatten = nV (List.replicate n 0) from by rw [Int.toNat_natCast]; exact rep0 n]
    have e0 : (rowsN n)[0]? = some (List.replicate n 0) := by
      rw [← List.head?_eq_getElem?]
      have q := hf
      rw [show n - 1 + 1 = n by omega] at q
      exact q
    refine ⟨⟨_, rfl, fun r e => ⟨p2, rfl, ?_⟩, fun e => ?_⟩, same2 s1 (same_new n2)⟩
    · rw [e0] at e
      cases e
      exact upd_same ..
    · rw [e0] at e
      cases e
  · obtain ⟨z, rfl, h1, h2⟩ := hJ
    obtain ⟨g, rfl, hg⟩ := h1 _ (getE hj)
    exact ⟨_, rfl, rfl, _, rfl, rfl, ⟨_, rfl, h1, h2⟩, same_rfl⟩
  · obtain ⟨z, rfl, h1, h2⟩ := hJ
    obtain rfl := h2 (List.getElem?_eq_none (Nat.le_refl _))
    exact ⟨_, rfl, rfl, _, rfl, rfl, same_rfl⟩
  · obtain ⟨z, rfl, h1, h2⟩ := hJ
    obtain ⟨g, rfl, hg⟩ := h1 _ (getE hj)
    have hr2 : Row ((rowsN n)[j]) := ((mem_rgs (n - 1) _).mp (List.getElem_mem hj)).1
    have hl := rowsN_len n0 (List.getElem_mem hj)
    have hm : MarksAt K H1 g ((rowsN n)[j]) := ⟨_, by rw [nV_len]; omega, .inl ⟨cI ((rowsN n)[j]), nV_cI _, by unfold cI; rw [ren_map (fun a b e => by omega)]; exact hr2.symm, .inl (.inl (.inl hg))⟩⟩
    refine ⟨_, rfl, ?_⟩
    refine make_fin hm (fun _ H' p s1 np hs => ⟨⟨g, _, rfl, getE hj, s1 _ _ hg⟩, ⟨p, _, rfl, getE hj, hs⟩, s1⟩) (fun e => absurd e (by omega))
  · obtain ⟨g, r, rfl, e, hg⟩ := hS
    have hl := rowsN_len n0 (List.mem_of_getElem? e)
    have hn := (rgs_walks (n - 1)).1.last e
    refine ⟨_, rfl, g, r, rfl, hg, by omega, by omega, fun t et H' p s1 np hp => ?_, fun et H' s1 => ?_⟩
    · refine ⟨⟨_, rfl, fun r' e' => ⟨p, rfl, ?_⟩, fun e' => ?_⟩, s1⟩
      · rw [hn] at et
        rw [show (rowsN n)[j + 1]? = some t from et] at e'
        cases e'; exact hp
      · rw [hn] at et
        rw [show (rowsN n)[j + 1]? = some t from et] at e'
        cases e'
    · refine ⟨⟨_, rfl, fun r' e' => ?_, fun e' => rfl⟩, s1⟩
      rw [hn] at et
      rw [show (rowsN n)[j + 1]? = none from et] at e'
      cases e'
end
end K03
set_option Elab.async false
set_option linter.all false
set_option maxRecDepth 100000
set_option maxHeartbeats 4000000
/-! K03: _law_walked. -/
namespace K03
open PySem PySem.Spec PyProof.Rows L2 Ms
/-- a list of lists of numbers -/
def RowsAt (H : Hp) (a : Addr) (rs : List (List Nat)) : Prop := ∃ ls : List Addr, H a = some (.lst (ls.map V.ref)) ∧ Paired (fun l r => NL H l r) ls rs
theorem RowsAt.same {H H' : Hp} (s : Same H H') {a : Addr} {rs : List (List Nat)} (h : RowsAt H a rs) : RowsAt H' a rs := by
  obtain ⟨ls, h1, h2⟩ := h
  exact ⟨ls, s _ _ h1, pimp (fun _ _ _ e => s _ _ e) h2⟩
theorem RowsAt.get {H : Hp} {rs : List (List Nat)} {ls : List Addr} (h2 : Paired (fun l r => NL H l r) ls rs) {i : Nat} {r : List Nat} (e : rs[i]? = some r) : ∃ l, ls[i]? = some l ∧ (ls.map V.ref)[i]? = some (.ref l) ∧ NL H l r := by
  have hl := Paired.length h2
  obtain ⟨l, r', e1, e2, f⟩ := pget2 h2 (i := i) (by rw [hl]; exact ltE e)
  rw [e] at e2; cases e2
  exact ⟨l, e1, by rw [List.getElem?_map, e1] <;> rfl, f⟩
def spWalked (K : PySem.W.Frag) : Sp := fun vs H Q _ => ∃ (a : Addr) (n : Nat), vs = [.ref a, .int (n : Nat)] ∧ 0 < n ∧ n ≤ 8 ∧ RowsAt H a (rowsN n) ∧ ∀ H', Same H H' → Q (.bl true) H'
section
variable {P : Program} {w : World} {K : PySem.W.Frag} {mg : Str → Option Value} {base : Heap}
theorem ok__law_walked (T : Tx K mg) : Ok P w K mg base "_law_walked" 6 (spWalked K) := by
  have C : COk P w K mg base "Sight" 2 (spInit K) := cok T
  have O_marks_after : Ok P w K mg base "marks_after" 2 (spAfter K) := ok_marks_after T
  have O__law_agrees : Ok P w K mg base "_law_agrees" 3 (spAgrees K) := ok__law_agrees T
  refine ok_of T.a__law_walked sc_law_walked (fun vs H Q E h => ?_) bi__law_walked fun cdv A outer s H vs Q E hr h => ?_
  · obtain ⟨a, n, rfl, _⟩ := h
    rfl
  obtain ⟨a, n, rfl, n0, n8, ha, hQ⟩ := h
  refine ⟨_, (pss_cons (ps_set (i := 2) sc_law_walked.nd rfl (by first | exact Or.inl rfl | exact Or.inr rfl) pe_int)
  (pss_cons (ps_for_gen (GS := spAll K) rfl rfl (hr.mono (by decide)) rfl (fun _ _ _ _ h => gen_all T C O_marks_after h) T.a_all_sights (pa_cons (pv 1) pa_nil) (pg_name (i := 3) sc_law_walked.nd rfl (by first | exact Or.inl rfl | exact Or.inr rfl))
  (pss_cons (ps_if (PW.pt (pw_or (pt_cmpR op_ge (pv 2) (pe_callB (lenK K) (by rfl) T.f_len boot_len (pa_cons (pv 0) pa_nil)) (nomark _)) (pw_or1 (pt_not (pt_val (pe_c (E := EN) O__law_agrees hr (by decide) (fun σ => passN σ) (pa_cons (pv 3) (pa_cons (pe_ix (ixL K) (pv 0) (pv 2) (fun _ _ => rfl)) pa_nil))))))))
    (pss_one (ps_ret pe_bl))
    pss_nil)
    (pss_one (ps_set (i := 2) sc_law_walked.nd rfl (by first | exact Or.inl rfl | exact Or.inr rfl) (pe_op op_add (pv 2) pe_int)))))
  (pss_one (ps_ret (pe_cmpR op_eq (pv 2) (pe_callB (lenK K) (by rfl) T.f_len boot_len (pa_cons (pv 0) pa_nil)) (nomark _)))))), ?_⟩
  refine ⟨_, rfl, _, _, _, ⟨n, n0, n8, rfl, rfl, rfl, rfl⟩, trivial, fun j σ H' => Same H H' ∧ ∃ x, σ = [some (.ref a), some (.int (n : Nat)), some (.int (j : Nat)), x], ⟨same_rfl, _, rfl⟩, ?_, ?_⟩
  · rintro j σ H1 x σg H2 hj ⟨s1, z, rfl⟩ g1 hS ⟨p, r, rfl, er, hp⟩
    have s2 : Same H H2 := same2 s1 g1
    obtain ⟨ls, h1, h2⟩ := ha.same s2
    obtain ⟨l, e1, e2, e3⟩ := RowsAt.get h2 er
    have hl : (ls.map V.ref).length = (rowsN n).length := by rw [List.length_map]; exact Paired.length h2
    refine ⟨_, rfl, _, rfl, a, _, rfl, .inl (.inl (.inl h1)), _, _, rfl, rfl, _, rfl, ?_⟩
    rw [hl, decide_eq_false (show ¬ (((rowsN n).length : Nat) : Int) ≤ (j : Nat) by omega)]
    refine iteF ?_
    refine ⟨_, rfl, _, rfl, _, rfl, a, _, (j : Nat), _, rfl, rfl, .inl (.inl h1), atI_nat e2, p, l, r, rfl, hp, .inl (.inl e3), fun H3 s3 => ⟨true, rfl, ?_⟩⟩
    refine iteF ?_
    refine ⟨_, rfl, _, _, rfl, rfl, ⟨same2 s2 s3, _, rfl⟩, ?_⟩
    obtain ⟨g, r', q1, q2, q3⟩ := hS
    exact ⟨g, r', q1, q2, s3 _ _ q3⟩
  · rintro σ H1 H2 ⟨s1, z, rfl⟩ g1
    obtain ⟨ls, h1, h2⟩ := ha.same (same2 s1 g1)
    refine ⟨_, rfl, _, rfl, a, _, rfl, .inl (.inl (.inl h1)), rfl, ?_⟩
    have hl : (ls.map V.ref).length = (rowsN n).length := by rw [List.length_map]; exact Paired.length h2
    rw [hl, decide_eq_true rfl]
    exact hQ _ (same2 s1 g1)
end
end K03
set_option Elab.async false
set_option linter.all false
set_option maxRecDepth 100000
set_option maxHeartbeats 4000000
/-! K03: _law_rows. -/
namespace K03
open PySem PySem.Spec PyProof.Rows L2 Ms
def spRows (K : PySem.W.Frag) : Sp := fun vs H Q _ => ∃ (n : Nat), vs = [.int (n : Nat)] ∧ 0 < n ∧ n ≤ 8 ∧ ∀ H' p, Same H H' → H p = none → RowsAt H' p (rowsN n) → Q (.ref p) H'
theorem rgs_few {i : Nat} (h : i ≤ 7) : (rgs i).length ≤ 4140 := by
  rw [rgs_count]
  have : ∀ i : Fin 8, goOn i.1 1 ≤ 4140 := by decide +kernel
  exact this ⟨i, by omega⟩
theorem flat_take {rs : List (List Nat)} {k : Nat} {r : List Nat} (e : rs[k]? = some r) : (rs.take (k + 1)).flatMap ext = (rs.take k).flatMap ext ++ ext r := by
  rw [List.take_add_one, e, List.flatMap_append]
  show _ ++ (ext r ++ []) = _
  rw [List.append_nil]
theorem flat_len {rs : List (List Nat)} {k : Nat} : ((rs.take k).flatMap ext).length ≤ (rs.flatMap ext).length := by
  have e : rs.flatMap ext = (rs.take k).flatMap ext ++ (rs.drop k).flatMap ext := by rw [← List.flatMap_append, List.take_append_drop]
  rw [e, List.length_append]; omega
theorem ext_take {r : List Nat} {m : Nat} (h : m < mx r + 2) : (ext r).take (m + 1) = (ext r).take m ++ [r ++ [m]] := by
  have e : (ext r)[m]? = some (r ++ [m]) := by
    unfold ext
    rw [List.getElem?_map, List.getElem?_range h] <;> rfl
  rw [List.take_add_one, e] <;> rfl
theorem ext_len (r : List Nat) : (ext r).length = mx r + 2 := by unfold ext; rw [List.length_map, List.length_range]
theorem cI_pos {r : List Nat} (h : r ≠ []) : 0 < (cI r).length := by unfold cI; rw [List.length_map]; exact List.length_pos_iff.mpr h
/-- a list of lists that still grows -/
def Grw (H : Hp) (D : Addr) (rs : List (List Nat)) : Prop := ∃ ms : List Addr, H D = some (.lst (ms.map V.ref)) ∧ Paired (fun l r => l ≠ D ∧ NL H l r) ms rs
theorem Grw.rows {H : Hp} {D : Addr} {rs : List (List Nat)} (h : Grw H D rs) : RowsAt H D rs := by
  obtain ⟨ms, h1, h2⟩ := h
  exact ⟨ms, h1, pimp (fun _ _ _ e => e.2) h2⟩
theorem Grw.same {H H' : Hp} (s : Same H H') {D : Addr} {rs : List (List Nat)} (h : Grw H D rs) : Grw H' D rs := by
  obtain ⟨ms, h1, h2⟩ := h
  exact ⟨ms, s _ _ h1, pimp (fun _ _ _ e => ⟨e.1, s _ _ e.2⟩) h2⟩
theorem Grw.push {H : Hp} {D p : Addr} {rs : List (List Nat)} {r : List Nat} (h : Grw H D rs) (hp : NL H p r) (ne : p ≠ D) : ∃ ys, H D = some (.lst ys) ∧ ys.length = rs.length ∧ Grw (upd H D (.lst (ys ++ [.ref p]))) D (rs ++ [r]) := by
  obtain ⟨ms, h1, h2⟩ := h
  refine ⟨_, h1, by rw [List.length_map]; exact Paired.length h2, ms ++ [p], ?_, ?_⟩
  · rw [upd_same, List.map_append] <;> rfl
  · have up : ∀ {l : Addr} {q : List Nat}, l ≠ D → NL H l q → NL (upd H D (.lst (ms.map V.ref ++ [.ref p]))) l q := fun {l q} a b => by
      show upd H D _ l = _
      rw [upd_ne a]; exact b
    exact psnoc (pimp (fun _ _ _ e => ⟨e.1, up e.1 e.2⟩) h2) ⟨ne, up ne hp⟩
section
variable {P : Program} {w : World} {K : PySem.W.Frag} {mg : Str → Option Value} {base : Heap}
theorem ok__law_rows (T : Tx K mg) : Ok P w K mg base "_law_rows" 2 (spRows K) := by
  refine ok_of T.a__law_rows sc_law_rows (fun vs H Q E h => ?_) bi__law_rows fun cdv A outer s H vs Q E hr h => ?_
  · obtain ⟨n, rfl, _⟩ := h
    rfl
  obtain ⟨n, rfl, n0, n8, hQ⟩ := h
  have big : 4000000 ≤ sizeLine := by decide
  refine ⟨_, (pss_cons (ps_set (i := 1) sc_law_rows.nd rfl (by first | exact Or.inl rfl | exact Or.inr rfl) (pe_lst (pa_cons (pe_lst (pa_cons pe_int pa_nil)) pa_nil)))
  (pss_cons (ps_for PassesOwn.never rfl (pi_range1 rfl T.f_range (pa_cons (pe_op op_sub (pv 0) pe_int) pa_nil)) (pg_name (i := 2) sc_law_rows.nd rfl (by first | exact Or.inl rfl | exact Or.inr rfl))
  (pss_cons (ps_set (i := 3) sc_law_rows.nd rfl (by first | exact Or.inl rfl | exact Or.inr rfl) (pe_lst pa_nil))
    (pss_cons (ps_for PassesOwn.never rfl (pi_list (pe_callTy (lstK K) (by rfl) T.f_list (by decide +kernel) (pa_cons (pv 1) pa_nil))) (pg_name (i := 4) sc_law_rows.nd rfl (by first | exact Or.inl rfl | exact Or.inr rfl))
    (pss_one (ps_for PassesOwn.never rfl (pi_range1 rfl T.f_range (pa_cons (pe_op op_add (pe_callB (maxLK K (hc := rfl)) (by rfl) T.f_max (by decide +kernel) (pa_cons (pv 4) pa_nil)) pe_int) pa_nil)) (pg_name (i := 5) sc_law_rows.nd rfl (by first | exact Or.inl rfl | exact Or.inr rfl))
      (pss_one (ps_expr (pe_bm PySem.F.plainAttrs_list PySem.F.slot_list_append PySem.F.type_list_append mt_append (pv 3) (pa_cons (pe_op op_cat (pv 4) (pe_lst (pa_cons (pv 5) pa_nil))) pa_nil)))))))
    (pss_one (ps_set (i := 1) sc_law_rows.nd rfl (by first | exact Or.inl rfl | exact Or.inr rfl) (pv 3))))))
  (pss_one (ps_ret (pv 1))))), ?_⟩
  refine ⟨by show 1 ≤ sizeLine; omega, fun p1 n1 => ?_⟩
  have s1 := same_new (o := .lst ([V.int 0])) n1
  have b1 : upd H p1 (.lst ([V.int 0])) p1 = some (.lst ([V.int 0])) := upd_same ..
  generalize upd H p1 (.lst ([V.int 0])) = H1 at s1 b1
  refine ⟨by show 1 ≤ sizeLine; omega, fun p2 n2 => ?_⟩
  have s2 := same_new (o := .lst ([V.ref p1])) n2
  have b2 : upd H1 p2 (.lst ([V.ref p1])) p2 = some (.lst ([V.ref p1])) := upd_same ..
  generalize upd H1 p2 (.lst ([V.ref p1])) = H2 at s2 b2
  have b1 := s2 _ _ b1
  refine ⟨_, rfl, _, _, rfl, rfl, _, rfl, by omega, by omega, ?_⟩
  have hk : ((n : Nat) - 1 : Int).toNat = n - 1 := by omega
  rw [hk]
  refine for_it walk_range (fun i σ H' => Same H H' ∧ ∃ q x3 x4 x5 x6, σ = [some (.int (n : Nat)), some (.ref q), x3, x4, x5, x6] ∧ H q = none ∧ RowsAt H' q (rgs i)) ?_ (fun _ _ _ _ _ => trivial) ?_ ?_
  · exact ⟨same2 s1 s2, p2, _, _, _, _, rfl, s1.free n2, [p1], b2, .cons b1 .nil⟩
  · rintro i x σ _ H3 hi ⟨s3, q, x3, x4, x5, x6, rfl, nq, hq⟩ ⟨rfl, rfl⟩
    refine ⟨Nat.zero_le _, fun D nD => ?_⟩
    have sD := same_new (o := .lst []) nD
    obtain ⟨ls, q1, q2⟩ := id hq
    refine ⟨_, rfl, q, _, rfl, .inl (.inl (.inl (sD _ _ q1))), fun c nc => ?_⟩
    have bD : upd H3 D (.lst []) D = some (.lst []) := upd_same ..
    generalize upd H3 D (.lst []) = Hd at sD bD nc
    have cD : c ≠ D := (ne_of_none bD nc).symm
    have sc := same_new (o := .lst (ls.map V.ref)) nc
    have bc : upd Hd c (.lst (ls.map V.ref)) c = some (.lst (ls.map V.ref)) := upd_same ..
    generalize upd Hd c (.lst (ls.map V.ref)) = Hc at sc bc
    have i7 : i + 1 ≤ 7 := by omega
    have few := rgs_few i7
    have ll : ls.length = (rgs i).length := Paired.length q2
    refine ⟨c, rfl, ⟨_, .inl (.inl bc)⟩, ?_⟩
    refine for_it (walk_list (K := K) (a := c) (xs := ls.map V.ref)) (fun k σ H' => Same H3 H' ∧ H' c = some (.lst (ls.map V.ref)) ∧ Grw H' D (((rgs i).take k).flatMap ext) ∧ ∃ x5 x6, σ = [some (.int (n : Nat)), some (.ref q), some (.int (0 + (i : Nat))), some (.ref D), x5, x6]) ?_ (fun k σ H' _ h => .inl (.inl h.2.1)) ?_ ?_
    · exact ⟨same2 sD sc, bc, ⟨[], sc _ _ bD, .nil⟩, _, _, rfl⟩
    · rintro k x σ _ H4 hk4 ⟨s4, c4, g4, x5, x6, rfl⟩ ⟨rfl, ex⟩
      rw [List.length_map] at hk4
      obtain ⟨r, er⟩ : ∃ r, (rgs i)[k]? = some r := ⟨_, getE (by omega)⟩
      obtain ⟨l, e1, e2, e3⟩ := RowsAt.get q2 er
      have hx : x = .ref l := by
        have ex : (ls.map V.ref)[k]? = some x := ex
        rw [e2] at ex
        exact (Option.some.inj ex).symm
      subst hx
      have rl := rgs_len i r (List.mem_of_getElem? er)
      have rne : r ≠ [] := fun e => by rw [e] at rl; cases rl
      have lD : l ≠ D := (ne_of_none e3 nD)
      have e4 : NL H4 l r := s4 _ _ e3
      have lc : l ≠ c := fun z => by
        have z1 : H4 c = some (.lst (nV r)) := z ▸ e4
        rw [c4] at z1
        have z2 : ls.map V.ref = nV r := HO.lst.inj (Option.some.inj z1)
        cases r with
        | nil => exact rne rfl
        | cons y r =>
          cases ls with
          | nil => cases z2
          | cons u ls => cases (List.cons.inj z2).1
      refine ⟨_, rfl, l, cI r, rfl, by rw [← nV_cI]; exact .inl (.inl e4), cI_pos rne, fun mz hmz haz => ?_⟩
      obtain rfl := max_mx rne hmz haz
      refine ⟨_, _, rfl, rfl, _, rfl, by omega, by
        have := fun m hm => le_mx (l := r) (a := m) hm
        have hb : mx r ≤ 8 := by
          have h1 := ((mem_rgs i r).mp (List.mem_of_getElem? er)).1
          have h2 := row_mx h1 rne
          have h3 := firsts_le r
          omega
        omega, ?_⟩
      have hm : ((mx r : Nat) + 2 : Int).toNat = mx r + 2 := by omega
      rw [hm]
      refine for_it walk_range (fun m σ H' => Same H3 H' ∧ H' c = some (.lst (ls.map V.ref)) ∧ Grw H' D (((rgs i).take k).flatMap ext ++ (ext r).take m) ∧ ∃ x6, σ = [some (.int (n : Nat)), some (.ref q), some (.int (0 + (i : Nat))), some (.ref D), some (.ref l), x6]) ?_ (fun _ _ _ _ _ => trivial) ?_ ?_
      · refine ⟨s4, c4, ?_, _, rfl⟩
        rw [List.take_zero, List.append_nil]
        exact g4
      · rintro m x σ _ H5 hm5 ⟨s5, c5, g5, x6, rfl⟩ ⟨rfl, rfl⟩
        have e5 : NL H5 l r := s5 _ _ e3
        have lenb : (((rgs i).take k).flatMap ext ++ (ext r).take m).length ≤ 4140 := by
          have h1 := flat_len (rs := rgs i) (k := k + 1)
          rw [flat_take er, List.length_append] at h1
          have h2 : ((rgs i).flatMap ext).length ≤ 4140 := few
          rw [List.length_append, List.length_take]
          omega
        refine ⟨_, rfl, .inl ⟨rfl, ?_⟩, _, rfl, ?_⟩
        · obtain ⟨ms, m1, _⟩ := g5
          exact ⟨_, .inl (.inl m1)⟩
        refine ⟨_, rfl, by show 1 ≤ sizeLine; omega, fun p6 n6 => ?_⟩
        dsimp only
        rw [show ([V.int (0 + ((m : Nat) : Int))] : List V) = nV [m] from by rw [Int.zero_add] <;> rfl]
        have s6 := same_new (o := .lst (nV [m])) n6
        have b6 : upd H5 p6 (.lst (nV [m])) p6 = some (.lst (nV [m])) := upd_same ..
        generalize upd H5 p6 (.lst (nV [m])) = H6 at s6 b6
        have e5 := s6 _ _ e5
        have c5 := s6 _ _ c5
        have g6 := g5.same s6
        have s5 := same2 s5 s6
        refine ⟨l, p6, _, _, rfl, rfl, e5, b6, by rw [nV_len, nV_len]; show _ + 1 ≤ _; omega, fun p7 n7 => ?_⟩
        rw [show nV r ++ nV [m] = nV (r ++ [m]) from List.map_append.symm]
        have s7 := same_new (o := .lst (nV (r ++ [m]))) n7
        have b7 : upd H6 p7 (.lst (nV (r ++ [m]))) p7 = some (.lst (nV (r ++ [m]))) := upd_same ..
        generalize upd H6 p7 (.lst (nV (r ++ [m]))) = H7 at s7 b7
        have c5 := s7 _ _ c5
        have g7 := g6.same s7
        have s5 := same2 s5 s7
        have p7D : p7 ≠ D := fun z => by
          obtain ⟨ms, m1, _⟩ := g6
          rw [z, m1] at n7; cases n7
        obtain ⟨ys, y1, y2, y3⟩ := g7.push b7 p7D
        refine ⟨D, ys, _, rfl, rfl, y1, by omega, ?_⟩
        refine ⟨same_put nD s5, by rw [upd_ne cD]; exact c5, ?_, _, rfl⟩
        rw [ext_take hm5, ← List.append_assoc]
        exact y3
      · rintro σ H5 ⟨s5, c5, g5, x6, rfl⟩
        refine ⟨s5, c5, ?_, _, _, rfl⟩
        rw [flat_take er]
        rw [List.take_of_length_le (l := ext r) (by rw [ext_len]; exact Nat.le_refl _)] at g5
        exact g5
    · rintro σ H4 ⟨s4, c4, g4, x5, x6, rfl⟩
      refine ⟨_, rfl, same2 s3 s4, D, _, _, _, _, rfl, s3.free nD, ?_⟩
      rw [List.length_map, List.take_of_length_le (by omega)] at g4
      exact g4.rows
  · rintro σ H3 ⟨s3, q, x3, x4, x5, x6, rfl, nq, hq⟩
    exact ⟨_, rfl, hQ H3 q s3 nq hq⟩
end
end K03
set_option Elab.async false
set_option linter.all false
set_option maxRecDepth 100000
set_option maxHeartbeats 4000000
namespace Ms
open PySem PySem.Spec PyProof.Rows L2
/-! strings -/
def dS (zs : List Str) : List PyData := zs.map PyData.str
theorem dpS {K : PySem.W.Frag} {H : Hp} : ∀ zs : List Str, DpAll K H (zs.map V.str) (dS zs)
  | [] => .nil
  | z :: zs => .cons (.str z) (dpS zs)
theorem layS : ∀ {zs : List Str}, (∀ z ∈ zs, PyData.strOk z = true) → PyData.canLayAll0 (dS zs) = true
  | [], _ => by simp [dS, PyData.canLayAll0]
  | z :: zs, h => by
    have ih := layS fun x hx => h x (List.mem_cons_of_mem _ hx)
    have e := h z List.mem_cons_self
    unfold dS at ih ⊢
    simp only [List.map_cons, PyData.canLayAll0, PyData.canLay0, e, ih, Bool.and_self]
theorem depS : ∀ zs : List Str, PyData.depthAll (dS zs) = 0
  | [] => by simp [dS, PyData.depthAll]
  | z :: zs => by
    have ih := depS zs
    unfold dS at ih ⊢
    simp only [List.map_cons, PyData.depthAll, PyData.depth, ih] <;> rfl
theorem eqvS : ∀ ns ms : List Str, PyData.eqvAll (dS ns) (dS ms) = decide (ns = ms)
  | [], [] => by simp [dS, PyData.eqvAll]
  | [], _ :: _ => by simp [dS, PyData.eqvAll]
  | _ :: _, [] => by simp [dS, PyData.eqvAll]
  | n :: ns, m :: ms => by
    have ih := eqvS ns ms
    unfold dS at ih ⊢
    simp only [List.map_cons, PyData.eqvAll, PyData.eqv, ih]
    by_cases h : n = m
    · subst h; simp
    · simp [h]
theorem eqvLS (ns ms : List Str) : PyData.eqv (.list (dS ns)) (.list (dS ms)) = decide (ns = ms) := by
  rw [← eqvS] <;> simp [PyData.eqv]
theorem shS {zs : List Str} (g : ∀ z ∈ zs, PyData.strOk z = true) : SeqAt.shaped (.list (dS zs)) = true := by
  unfold SeqAt.shaped
  simp only [PyData.canLay0, layS g, PyData.depth, depS, Bool.true_and]
  decide
end Ms
set_option Elab.async false
set_option linter.all false
set_option maxRecDepth 100000
set_option maxHeartbeats 4000000
/-! sorted(d) of a dict of ints, of any length; min of a list of pairs of ints. -/
namespace Ms
open PySem PySem.Spec PyProof.Rows L2
section
variable {X : Cx}
def rSortedDI : List V → Hp → VK → Prop := fun xs H Q => ∃ (a : Addr) (kvs : List (Key × V)) (ks : List Int), xs = [.ref a] ∧ Rd H a (.dK kvs) ∧ kvs.map (·.1) = ks.map Sum.inl ∧
    ∀ (ys : List Int) (p : Addr), ys.Perm ks → ys.Pairwise (· ≤ ·) → H p = none → Q (.ref p) (upd H p (.lst (ys.map V.int)))
theorem cr_sortedDI (hcalm : X.calm = true) : CallR X (.builtin "sorted") rSortedDI := by
  intro pins s σ H xs us Q I r q
  obtain ⟨a, kvs, ks, ex, hd, hks, q⟩ := q
  subst ex
  obtain ⟨u, eu, rx⟩ := vals1 r
  subst eu
  cases rx
  obtain ⟨z, lo, vs, rel, dd⟩ := dk_rd I.hok hd
  obtain ⟨ep, hat⟩ := dd.dictAt
  have hkeys : vs.map (·.1) = ks.map Sum.inl := rel.keys.symm.trans hks
  have hl : vs.length = ks.length := by
    have e := congrArg List.length hkeys
    rw [List.length_map, List.length_map] at e
    exact e
  have h16 : vs.length ≤ sizeLine := by rw [← rel.length]; exact z
  refine Calls.call_function_entry PyProof.Rows.kind_sorted PyProof.Rows.plain_sorted PyProof.Rows.entry_sorted (PyProof.Rows.args_sorted1 _) ?_
  unfold Builtin.«sorted»
  refine wpAny_bind (m := checkCount "sorted" 1 1 _) (wpAny_pure ?_)
  refine wpAny_bind (PySem.W.kdu_collect (A := X.A.in1) (PySem.W.kdl_dict (knd := mixKind X.prog X.w) (kvs := vs) (ep := ep) lo) (I.ok.hd hcalm) hat h16 fun h' tk acc hk hacc => ?_)
  have hal : acc.toList.length = ks.length := by rw [Array.length_toList, hacc.1, hl]
  have hS : IntsAre acc.toList ks := ints_each hal fun j v e => by
    obtain ⟨k, x, e1, e2⟩ := hacc.2 j v (by rw [← Array.getElem?_toList]; exact e)
    have e3 : (vs.map (·.1))[j]? = some k := by rw [List.getElem?_map, e1]; rfl
    rw [hkeys, List.getElem?_map] at e3
    cases e4 : ks[j]? with
    | none => rw [e4] at e3; cases e3
    | some y =>
      rw [e4] at e3
      have e5 : Sum.inl y = k := Option.some.inj e3
      subst e5
      rcases keyIs_shape (show keyIs (Sum.inl y) v = true from e2) with ⟨i, t, ek, ev⟩ | ⟨z, t, ek, ev⟩
      · cases ek
        exact ⟨y, t, rfl, ev⟩
      · cases ek
  have I1 : Inv X pins σ H { s with heap := h', toks := tk } := I.kept hk
  have hal2 : acc.toList.length ≤ sizeLine := by rw [hal, ← hl]; exact h16
  refine wpAny_bind (wpAny_newList ?_ hal2)
  have hoL : (h'.push (seqObj "list" acc.toList.toArray 0)).get? h'.objs.size = some (seqObj "list" acc.toList.toArray 0) := Heap.get?_push_size _ rfl
  show wpAny _ _ _ _ _ { s with heap := h'.push (seqObj "list" acc.toList.toArray 0), toks := tk }
  refine wpAny_bind (wpAny_holding (wpAny_call_entry PyProof.Rows.slot_list_sort ⟨_, hoL, rfl⟩ PyProof.Rows.entry_list_sort
    (SrtO.list_sort_ord SrtO.swo_int hoL hal2 (fun h2 => SrtO.ints_sortable hS h2) fun out h1 h2 => ⟨_, rfl, ?_⟩) (PyProof.Rows.args_list_sort _)))
  obtain ⟨k1, k2, k3⟩ := SrtO.ints_out hS h1 h2
  obtain ⟨e', he'⟩ := PyProof.Rows.sortedHeap_at (vs := acc.toList) (out := out.toArray) hoL
  have hlen : ((out.map SrtO.iv).map V.int).length ≤ sizeLine := by
    rw [List.length_map, k2.length_eq, ← hl]
    exact h16
  refine wpAny_pure ⟨_, rfl, .ref h'.objs.size, upd H h'.objs.size (.lst ((out.map SrtO.iv).map V.int)), I1.laid (t' := tk) (fun b u e => ?_) (Nat.le_refl _)
    (show ObjOk X.prog X.w _ _ _ (.lst ((out.map SrtO.iv).map V.int)) from ⟨hlen, out, e', vals_of_ints k1, he'⟩), rfl, q _ _ k2 k3 (I1.hok.fresh (Nat.le_refl _))⟩
  have hb : b < h'.objs.size := Heap.lt_size e
  rw [PyProof.Rows.sortedHeap_old (Nat.ne_of_lt hb) (by rw [size_push']; exact Nat.lt_succ_of_lt hb)]
  exact Heap.get?_push_of_some _ e
/-! ### the least pair -/
def pairD (p : Int × Int) : PyData := .tuple [.int p.1, .int p.2]
def ltP2 (p q : Int × Int) : Prop := p.1 < q.1 ∨ (p.1 = q.1 ∧ p.2 < q.2)
instance (p q : Int × Int) : Decidable (ltP2 p q) := by unfold ltP2; infer_instance
theorem lt_pairD (p q : Int × Int) : PySem.W.dataLt (pairD p) (pairD q) = decide (ltP2 p q) := PySem.W.dataLt_ii p.1 p.2 q.1 q.2
theorem pairD_inj {p q : Int × Int} (h : pairD p = pairD q) : p = q := by
  unfold pairD at h
  injection h with h
  injection h with h1 h2
  injection h1 with h1
  injection h2 with h2 _
  injection h2 with h2
  exact Prod.ext h1 h2
theorem minD_pairs (p : Int × Int) : ∀ ps : List (Int × Int), ∃ m, m ∈ p :: ps ∧ PySem.W.minD (pairD p) (ps.map pairD) = pairD m ∧ ∀ q ∈ p :: ps, ¬ ltP2 q m := by
  intro ps
  unfold PySem.W.minD
  induction ps generalizing p with
  | nil => exact ⟨p, List.mem_cons_self, rfl, fun q hq => by
      rw [List.mem_singleton.mp hq]
      unfold ltP2
      omega⟩
  | cons k r ih =>
    rw [List.map_cons, List.foldl_cons, lt_pairD]
    by_cases h : ltP2 k p
    · rw [if_pos (decide_eq_true h)]
      obtain ⟨m, h1, h2, h3⟩ := ih k
      refine ⟨m, List.mem_cons_of_mem _ h1, h2, fun q hq => ?_⟩
      rcases List.mem_cons.mp hq with rfl | hq
      · have := h3 k List.mem_cons_self
        unfold ltP2 at *
        omega
      · exact h3 q hq
    · rw [if_neg (by rw [decide_eq_false h]; exact Bool.false_ne_true)]
      obtain ⟨m, h1, h2, h3⟩ := ih p
      refine ⟨m, ?_, h2, fun q hq => ?_⟩
      · rcases List.mem_cons.mp h1 with e | e
        · exact e ▸ List.mem_cons_self
        · exact List.mem_cons_of_mem _ (List.mem_cons_of_mem _ e)
      · rcases List.mem_cons.mp hq with rfl | hq
        · exact h3 _ List.mem_cons_self
        · rcases List.mem_cons.mp hq with rfl | hq
          · have := h3 p List.mem_cons_self
            unfold ltP2 at *
            omega
          · exact h3 q (List.mem_cons_of_mem _ hq)
def rMinP (K : PySem.W.Frag) : List V → Hp → VK → Prop := fun vs H Q => ∃ (a : Addr) (ts : List Addr) (ps : List (Int × Int)), vs = [V.ref a] ∧ SqL K H a (ts.map V.ref) ∧ Paired (fun t p => SqT K H t [.int p.1, .int p.2]) ts ps ∧ 0 < ps.length ∧
  ∀ (i : Nat) t p, ts[i]? = some t → ps[i]? = some p → (∀ q ∈ ps, ¬ ltP2 q p) → Q (.ref t) H
theorem dps {K : PySem.W.Frag} {H : Hp} : ∀ {ts : List Addr} {ps : List (Int × Int)}, Paired (fun t p => SqT K H t [.int p.1, .int p.2]) ts ps → DpAll K H (ts.map V.ref) (ps.map pairD)
  | _, _, .nil => .nil
  | _, _, .cons r t => .cons (.tup r (.cons (.int _) (.cons (.int _) .nil))) (dps t)
theorem minP_raw (K : PySem.W.Frag) (e : X.K = K := by rfl) (hc : X.calm = true) (hu : X.A.units + 64 < cLine) : CallR X (.builtin "min") (rMinP K) := by
  subst e
  intro pins s σ H vs us Q I r h
  obtain ⟨a, ts, ps, rfl, hs, hp, hne, q⟩ := h
  obtain ⟨its, rv, hl, _⟩ := I.list hs
  rw [Vals.ref1 r]
  obtain ⟨as, ra⟩ := Dp.readsAll I _ _ _ (dps hp) rv
  cases ps with
  | nil => exact absurd hne (Nat.lt_irrefl _)
  | cons p0 ps =>
    rw [List.map_cons] at ra
    have dp : ∀ (l : List (Int × Int)), PyData.depthAll (l.map pairD) ≤ 2 := fun l => by
      induction l with
      | nil => exact Nat.zero_le _
      | cons x l ih => exact Nat.max_le.mpr ⟨by simp [pairD, PyData.depth, PyData.depthAll], ih⟩
    have al : PySem.W.AlikeAll (pairD p0 :: ps.map pairD) := by
      rw [← List.map_cons]
      refine ⟨fun x hx y hy => ?_, fun x hx => ?_⟩
      · obtain ⟨x, _, rfl⟩ := List.mem_map.mp hx
        obtain ⟨y, _, rfl⟩ := List.mem_map.mp hy
        rfl
      · obtain ⟨x, _, rfl⟩ := List.mem_map.mp hx
        exact fun z => by cases z
    have dd : PyData.depthAll (pairD p0 :: ps.map pairD) ≤ 2 := by rw [← List.map_cons]; exact dp _
    refine PySem.W.min_list_data (I.ok.hd hc) hl.isList (x := pairD p0) (xs := ps.map pairD) (as := as) (by simpa using ra) al (by omega) fun i v h' tk bs hv rd hk => ?_
    have hv : its[i]? = some v := by simpa using hv
    obtain ⟨cs, r0, hi, hm, _⟩ := PySem.W.readsAll_at ra i v hv
    obtain ⟨m, m1, m2, m3⟩ := minD_pairs p0 ps
    rw [m2] at rd
    have e1 := (PyProof.Rows.reads_det (fun b o e _ => hk b o e) r0 rd).1
    rw [← List.map_cons, List.length_map] at hi
    have e2 : ((p0 :: ps).map pairD).getD i .none = pairD (p0 :: ps)[i] := by
      rw [List.getD_eq_getElem?_getD, List.getElem?_map, List.getElem?_eq_getElem hi] <;> rfl
    rw [← List.map_cons, e2] at e1
    have e3 : m = (p0 :: ps)[i] := pairD_inj e1
    have hit : i < ts.length := by rw [Paired.length hp]; exact hi
    obtain ⟨u, u1, u2⟩ := rv.get (i := i) (x := .ref ts[i]) (by rw [List.getElem?_map, List.getElem?_eq_getElem hit] <;> rfl)
    rw [hv] at u1
    cases u1
    exact ⟨.ref ts[i], H, I.kept hk, u2, q i _ _ (List.getElem?_eq_getElem hit) (List.getElem?_eq_getElem hi) (e3 ▸ m3)⟩
end
end Ms
set_option Elab.async false
set_option linter.all false
set_option maxRecDepth 100000
set_option maxHeartbeats 4000000
/-! Ms: sorted(xs), xs a list of lists of ints. -/
namespace Ms
open PySem PySem.Spec PyProof.Rows L2
abbrev encL (b : Addr × List Int) : PyData := .list (dI b.2)
/-- sorted(xs), xs lists of ints -/
def rSortLs (K : PySem.W.Frag) : List V → Hp → VK → Prop := fun vs H Q => ∃ (a : Addr) (ps : List (Addr × List Int)), vs = [V.ref a] ∧ SqL K H a (ps.map fun b => V.ref b.1) ∧ (∀ b ∈ ps, SqL K H b.1 (b.2.map V.int)) ∧ ps.length ≤ 1000 ∧
  ∀ p, H p = none → Q (.ref p) (upd H p (.lst ((ps.mergeSort (PySem.W.dataLe false encL)).map fun b => V.ref b.1)))

theorem alikeI : ∀ (xs ys : List Int), PySem.W.alikeAll (dI xs) (dI ys) = true
  | [], _ => by unfold dI; rw [List.map_nil]; unfold PySem.W.alikeAll; rfl
  | _ :: _, [] => by unfold dI; rw [List.map_cons, List.map_nil]; unfold PySem.W.alikeAll; rfl
  | x :: xs, y :: ys => by
    have ih := alikeI xs ys
    unfold dI at ih ⊢
    rw [List.map_cons, List.map_cons]
    unfold PySem.W.alikeAll
    rw [ih] <;> rfl
theorem depI0 : ∀ xs : List Int, PyData.depthAll (dI xs) = 0
  | [] => by simp [dI, PyData.depthAll]
  | z :: zs => by
    have ih := depI0 zs
    unfold dI at ih ⊢
    simp only [List.map_cons, PyData.depthAll, PyData.depth, ih] <;> rfl
theorem each_refs : ∀ {ps : List (Addr × List Int)} {us : List Value}, Vals (ps.map fun b => V.ref b.1) us → PySem.W.EachIs (fun v b => v = Value.ref b.1) us ps
  | [], us, r => by
    rw [List.map_nil] at r
    cases r
    exact .nil
  | p :: ps, us, r => by
    rw [List.map_cons] at r
    cases r with
    | cons h q =>
      cases h
      exact .cons rfl (each_refs q)
theorem refs_each : ∀ {ps : List (Addr × List Int)} {us : List Value}, PySem.W.EachIs (fun v b => v = Value.ref b.1) us ps → Vals (ps.map fun b => V.ref b.1) us
  | [], _, .nil => .nil
  | p :: ps, _, .cons h q => by
    subst h
    exact .cons rfl (refs_each q)
section
variable {X : Cx}
theorem cr_sortLs (hu : X.A.units + 64 < cLine) : CallR X (.builtin "sorted") (rSortLs X.K) := by
  intro pins s σ H vs us Q I r h
  obtain ⟨a, ps, rfl, hs, hp, hz, q⟩ := h
  rw [Vals.ref1 r]
  obtain ⟨its, rv, pl, _⟩ := I.list hs
  have ei := each_refs rv
  have er : PySem.W.EachIs (fun v b => ∃ as, Reads s.heap v (encL b) as) its ps := (PySem.W.each_mem ei).mono fun v b ⟨e, hb⟩ => by
    subst e
    exact Dp.reads I (encL b) (V.ref b.1) _ (.lst (hp b hb) (dpI _)) rfl
  have hal : PySem.W.AllAlike (ps.map encL) := fun d hd d' hd' => by
    obtain ⟨b, _, rfl⟩ := List.mem_map.mp hd
    obtain ⟨b', _, rfl⟩ := List.mem_map.mp hd'
    show PySem.W.alike (.list (dI b.2)) (.list (dI b'.2)) = true
    unfold PySem.W.alike
    exact alikeI _ _
  have hk : PySem.W.Sortable (ps.map encL) := .inr fun d hd => by
    obtain ⟨b, _, rfl⟩ := List.mem_map.mp hd
    refine ⟨?_, fun xs => ?_⟩
    · show PyData.list _ ≠ _
      exact fun z => by cases z
    · show PyData.list _ ≠ _
      exact fun z => by cases z
  refine PySem.W.sorted_data (R := fun v b => v = Value.ref b.1) (bs := ps) (enc := encL) pl.isList ei er hal hk (by rw [sizeLine_eq]; omega) (fun b _ => by show _ + PyData.depth (.list (dI b.2)) < cLine; unfold PyData.depth; rw [depI0]; omega) fun out ol ho => ?_
  obtain ⟨c, hc⟩ := PyProof.Rows.sortedAll_at s.heap its out.toArray
  have hn : H (s.heap.objs.size + 1) = none := I.hok.fresh (Nat.le_succ _)
  have rvo := refs_each ho
  have hlen : ((ps.mergeSort (PySem.W.dataLe false encL)).map fun b => V.ref b.1).length ≤ sizeLine := by rw [List.length_map, List.length_mergeSort, sizeLine_eq]; omega
  exact ⟨.ref (s.heap.objs.size + 1), _, I.laid (t' := s.toks) (a := s.heap.objs.size + 1) (o := .lst ((ps.mergeSort (PySem.W.dataLe false encL)).map fun b => V.ref b.1)) (h' := PyProof.Rows.sortedAll s.heap its out.toArray) (fun b o e => PyProof.Rows.sortedAll_old e) (Nat.le_succ _) ⟨hlen, out, c, rvo, hc⟩, rfl, q _ hn⟩
theorem sortLsK (K : PySem.W.Frag) (e : X.K = K := by rfl) (hu : X.A.units + 64 < cLine) : CallR X (.builtin "sorted") (rSortLs K) := by subst e; exact cr_sortLs hu
end
theorem le_rows : PySem.W.dataLe false encL = fun p q => decide (p.2 ≤ q.2) := PySem.W.dataLe_rows (β := Addr × List Int) fun b => b.2
end Ms
set_option Elab.async false
set_option linter.all false
set_option maxRecDepth 100000
set_option maxHeartbeats 4000000
/-! Ms: sorted(xs, key=lambda x: x.f), f a tuple of ints. -/
namespace Ms
open PySem PySem.Spec PyProof.Rows L2 LamX
section
variable {X : Cx} {pins : List (Addr × Obj)} {σ : L2.St} {H : Hp} {s : Shared} {A : Around} {E : Value → Shared → Prop}
/-- what such a lambda must be like -/
structure Lm (params : Arguments) (scope : Scope) (p attr : Str) (q1 : Pos) : Prop where
  kind : scope.kind = .function
  co : scope.isCoroutine = false
  gen : scope.isGenerator = false
  names : scope.names = [(p, .local)]
  dbg : (p == ("__debug__" : Str)) = false
  base : ∀ env : Env, attributeBase (.Name p q1) attr env (eval (.Name p q1) env) = eval (.Name p q1) env
  bind : ∀ (q : Str) (body : Expr) (pm ctv : Value) (c' : Addr) (u : Value), bindArgs (PySem.W.kla_fn "<lambda>" q params body scope [] pm (.ref c') ctv) ⟨[u], []⟩ = pure [(p, u)]
/-- its call -/
theorem call_lam {f c' a C dx t : Addr} {fs : List (Str × V)} {q attr p : Str} {params : Arguments} {scope : Scope} {pm ctv : Value} {q1 q2 : Pos} (L : Lm params scope p attr q1) (I : Inv X pins σ H s) (hd : A.depth < recursionLimit)
    (hf : s.heap.get? f = some (PySem.W.kla_obj "<lambda>" q params (.Attribute (.Name p q1) attr q2) scope [] pm c' ctv)) (hc : H c' = some (CodeO c' q)) (e : H a = some (.ins C dx fs)) (c : Cls X.K C) (n : NoAttr X.K C attr) (l : fs.lookup attr = some (.ref t)) :
    wpAny (model X.prog X.w) A (call (.ref f) [.ref a]) (fun u z => u = .ref t ∧ ∃ h' tk, z = { s with heap := h', toks := tk } ∧ ∀ b o, s.heap.get? b = some o → h'.get? b = some o) E s := by
  obtain ⟨⟨oc, vs, tq, hoc, hdc, hvc⟩, _, _⟩ := I.hok c' _ hc
  refine wpAny_call (codeAny_mono (R := fun r z => match r with | .ok (.ret u) => u = .ref t ∧ ∃ h' tk, z = { s with heap := h', toks := tk } ∧ ∀ b o, s.heap.get? b = some o → h'.get? b = some o | _ => False)
    (PySem.W.kla_callFunE hd hf rfl L.co L.gen rfl ⟨c', oc, vs, tq, rfl, hoc, hdc, hvc⟩ ?_) fun r z y => ?_)
  · rw [L.bind]
    refine wpAny_pure (wpAny_newFunctionEnv (fun y hy => ?_) (fun y hy => ?_) (fun h₁ hns hsb => ⟨I.nolimit.fresh _ hsb, ?_⟩) L.kind)
    · have hy : y ∈ scope.names := hy
      rw [L.names] at hy
      rw [List.mem_singleton.mp hy]
      exact fun z => by cases z
    · rw [List.mem_singleton.mp hy]
      show scope.names.lookup p = some .local
      rw [L.names, List.lookup_cons, beq_self_eq_true]
    show codeAny _ _ (.expr (.Attribute (.Name p q1) attr q2) (newEnv scope s.heap.objs.size mainGlobals [] (q ++ ".<locals>.") (some f) (.ref c') none builtinsNs)) _ _
    have kp : ∀ b o, s.heap.get? b = some o → h₁.get? b = some o := fun b o e => hsb.extBut b o (Nat.ne_of_lt (Heap.lt_size e)) (Heap.get?_push_of_some _ e)
    obtain ⟨mA, O, r, _, _, _⟩ := ins_get (I.hok.kept kp) e
    obtain ⟨u, hu, ru⟩ := RelO.some_of (v := .ref t) (o := mA attr) (by rw [← l]; exact r attr)
    obtain rfl : u = Value.ref t := ru
    refine PySem.W.kla_codeExpr (attr_of (L.base _) (wpAny_Name (wpAny_loadName_local (v := .ref a) L.kind ?_ hns ?_ ?_) L.dbg))
    · show scope.names.lookup p = some .local
      rw [L.names, List.lookup_cons, beq_self_eq_true]
    · show ([(p, Value.ref a)] : List (Str × Value)).reverse.lookup p = some (.ref a)
      rw [List.reverse_singleton, List.lookup_cons, beq_self_eq_true]
    · exact get_map (s := { s with heap := h₁, toks := s.toks + ([(p, Value.ref a)] : List (Str × Value)).length }) (I.ok.mod.kin.keeps fun b o e => kp b o (I.bk b o e)) O (c.get attr) c.hd n hu (handed_of (v := .ref t) rfl) ⟨rfl, h₁, _, rfl, kp⟩
  · cases r with
    | error e => exact y.elim
    | ok fl =>
      cases fl with
      | ret u => exact y
      | next => exact y.elim
      | brk => exact y.elim
      | cont => exact y.elim
end
abbrev encT (b : Addr × List Int) : PyData := .tuple (dI b.2)
theorem reads_ints {h : Heap} : ∀ {ns : List Int} {us : List Value}, Vals (ns.map V.int) us → ReadsAll h us (dI ns) []
  | [], us, r => by
    rw [List.map_nil] at r
    cases r
    exact .nil
  | n :: ns, us, r => by
    rw [List.map_cons] at r
    cases r with
    | cons e r =>
      obtain ⟨t, rfl⟩ := e
      exact .cons (as := []) (bs := []) (.int n t) (reads_ints r)
theorem le_rowsT : PySem.W.dataLe false encT = fun p q => decide (p.2 ≤ q.2) := by
  rw [← le_rows]
  rfl
/-- sorted(xs, key=lambda x: x.f): the instances by their tuples -/
def tSortK (K : PySem.W.Frag) (C : Addr) (attr : Str) (Pt : Addr) (q : Str) (ta : TE) : TE := fun σ H Q => ta σ H fun x H1 => ∃ (a : Addr) (ps : List (Addr × List Int)), x = .ref a ∧ SqL K H1 a (ps.map fun b => V.ref b.1) ∧ ps.length ≤ 16777216 ∧
  (∀ b ∈ ps, b.2 ≠ [] ∧ ∃ dx fs t, H1 b.1 = some (.ins C dx fs) ∧ fs.lookup attr = some (.ref t) ∧ H1 t = some (.tup (b.2.map V.int))) ∧ Cls K C ∧ NoAttr K C attr ∧ TabS H1 Pt q ∧
  ∀ H2 D, ExtN H1 H2 → TabS H2 Pt q → H2 D = none → Q (.ref D) (upd H2 D (.lst ((ps.mergeSort fun p q => decide (p.2 ≤ q.2)).map fun b => V.ref b.1)))
section
variable {X : Cx}
theorem ExtN.seqL {K : PySem.W.Frag} {H H' : Hp} (e : ExtN H H') {a : Addr} {xs : List V} (h : SqL K H a xs) : SqL K H' a xs := by
  rcases h with (h | ⟨o, h⟩) | h
  · exact .inl (.inl (e _ _ h fun _ z => by cases z))
  · exact .inl (.inr ⟨o, e _ _ h fun _ z => by cases z⟩)
  · exact .inr h
theorem alikeT {ps : List (Addr × List Int)} : PySem.W.AllAlike (ps.map encT) := fun d hd d' hd' => by
  obtain ⟨b, _, rfl⟩ := List.mem_map.mp hd
  obtain ⟨b', _, rfl⟩ := List.mem_map.mp hd'
  show PySem.W.alike (.tuple (dI b.2)) (.tuple (dI b'.2)) = true
  unfold PySem.W.alike
  exact alikeI _ _
theorem pe_sortKey {e : Expr} {te : TE} {c Pt C : Addr} {p attr : Str} {params : Arguments} {scope : Scope} {q1 q2 lp kp np pos : Pos} (L : Lm params scope p attr q1) (hg : Gl X "sorted") (hm : X.mg "sorted" = none) (he : PE X e te) (hr : Room 2 X.A) (TB : TabB X.base X.mg c Pt) (hcode : X.env.code = .ref c) (hdef : defaultsOf params X.env = ([], []))
    (hst : starEach [e] X.env = (false, eval e X.env) :: starEach [] X.env := by rfl) (hbt : backTo pos (starEach [e] X.env) = (false, eval e X.env) :: backTo pos (starEach [] X.env) := by rfl) :
    PE X (.Call (.Name "sorted" np) [e] [⟨some "key", .Lambda params (.Attribute (.Name p q1) attr q2) scope lp, kp⟩] pos) (tSortK X.K C attr Pt (X.env.qual ++ "<lambda>") te) := by
  refine ⟨fun pins s σ H Q I h => ?_⟩
  refine wpAny_Call_Name_kw (ld_blt I hg hm (show bootBuiltins "sorted" = some (.builtin "sorted") by decide +kernel) ?_ (by decide) (by decide))
  refine PyProof.Rows.callWith_kw (thn ((pa_cons he pa_nil hst).run pos pins s σ H (fun vs H1 => match vs with | [x] => (∃ (a : Addr) (ps : List (Addr × List Int)), x = .ref a ∧ SqL X.K H1 a (ps.map fun b => V.ref b.1) ∧ ps.length ≤ 16777216 ∧
    (∀ b ∈ ps, b.2 ≠ [] ∧ ∃ dx fs t, H1 b.1 = some (.ins C dx fs) ∧ fs.lookup attr = some (.ref t) ∧ H1 t = some (.tup (b.2.map V.int))) ∧ Cls X.K C ∧ NoAttr X.K C attr ∧ TabS H1 Pt (X.env.qual ++ "<lambda>") ∧
    ∀ H2 D, ExtN H1 H2 → TabS H2 Pt (X.env.qual ++ "<lambda>") → H2 D = none → Q (.ref D) (upd H2 D (.lst ((ps.mergeSort fun p q => decide (p.2 ≤ q.2)).map fun b => V.ref b.1)))) | _ => False) I h) fun us s1 ⟨vs, H1, I1, r1, q⟩ => ?_) hbt (by rw [hbt]; rfl) rfl rfl
  match vs, r1, q with
  | [x], r1, ⟨a, ps, ex, hs, hz, hp, hC, hN, hT, hQ⟩ =>
    subst ex
    obtain rfl := Vals.ref1 r1
    show wpAny _ _ (evalAll [do let v ← eval (.Lambda params (.Attribute (.Name p q1) attr q2) scope lp) X.env; standAt pos; pure v]) _ _ s1
    refine wpAny_evalAll_cons (wpAny_bind (lam_make2 (T := [(Pt, X.env.qual ++ "<lambda>")]) I1 TB hcode (List.mem_singleton.mpr rfl) (fun y hy _ => by rw [List.mem_singleton.mp hy]) (fun y hy => by rw [List.mem_singleton.mp hy]; exact hT) hdef (fun y hy hf => ?_) fun f c' pm ctv H2 s2 I2 hE hT2 hf hfn hfr hco => ?_))
    · rw [L.names] at hy
      rw [List.mem_singleton.mp hy] at hf
      cases hf
    have ecl : cloFrom X.env.cells scope.names [] = [] := by rw [L.names] <;> rfl
    rw [ecl] at hf
    refine wpAny_bind (wpAny_standAt (wpAny_pure (wpAny_evalAll_nil ?_)))
    show wpAny _ _ (call (.builtin "sorted") [.ref a] [(Str.ofString "key", .ref f)]) _ _ s2
    have big : cLine = cLine := rfl
    obtain ⟨its, rv, pl, _⟩ := I2.list (ExtN.seqL hE hs)
    have ei := each_refs rv
    have hun := hr.un
    have hdp := hr.dp
    refine PySem.W.sorted_key_data (b := false) (R := fun v b => v = Value.ref b.1) (bs := ps) encT pl.isList ei alikeT (.inl fun d hd => ?_) (by rw [sizeLine_eq]; omega) (fun b _ => ?_) (PyProof.Rows.ksk_s1 _ _) (fun _ => PyProof.Rows.ksk_l1 _ _) (fun _ => PyProof.Rows.ksk_t1 _ _) (fun v b ev hb h tk kp => ?_) fun out c h' tk kp fr hD len eo => ?_
    · obtain ⟨b, hb, rfl⟩ := List.mem_map.mp hd
      obtain ⟨ne, _⟩ := hp b hb
      show ∃ x r, PyData.tuple (dI b.2) = .tuple (x :: r)
      cases hb2 : b.2 with
      | nil => exact absurd hb2 ne
      | cons n ns => exact ⟨_, _, rfl⟩
    · show X.A.units + 2 + PyData.depth (.tuple (dI b.2)) < cLine
      unfold PyData.depth
      rw [depI0]
      omega
    · subst ev
      obtain ⟨_, dx, fs, t, e1, e2, e3⟩ := hp b hb
      have I3 := I2.kept (t' := tk) kp
      have e3' := hE _ _ e3 (fun _ z => by cases z)
      refine wpAny_mono (call_lam (A := X.A.in1.in1) (E := fun _ _ => False) L I3 (by show X.A.depth < _; omega) (kp _ _ hf) hco (hE _ _ e1 fun _ z => by cases z) hC hN e2) (fun u z y => ?_) fun _ _ y => y
      obtain ⟨rfl, h', tk', rfl, kp2⟩ := y
      refine ⟨h', tk', rfl, kp2, ?_⟩
      obtain ⟨_, us, ru, o, eo, ec, n, ed⟩ := (I3.hok.kept kp2) t _ e3'
      exact .tuple eo ec ed (reads_ints (by simpa using ru))
    · have hn : H2 (s2.heap.objs.size + 1) = none := I2.hok.fresh (Nat.le_succ _)
      rw [le_rowsT] at eo
      have rvo := refs_each eo
      have hlen : ((ps.mergeSort fun p q => decide (p.2 ≤ q.2)).map fun b => V.ref b.1).length ≤ sizeLine := by rw [List.length_map, List.length_mergeSort, sizeLine_eq]; omega
      exact ⟨.ref (s2.heap.objs.size + 1), _, I2.laid (t' := tk) (a := s2.heap.objs.size + 1) (o := .lst ((ps.mergeSort fun p q => decide (p.2 ≤ q.2)).map fun b => V.ref b.1)) (h' := h') kp (Nat.le_succ _) ⟨hlen, out, c, rvo, hD⟩, rfl, hQ H2 _ hE (hT2 _ (List.mem_singleton.mpr rfl)) hn⟩
end
end Ms
set_option Elab.async false
set_option linter.all false
set_option maxRecDepth 100000
set_option maxHeartbeats 4000000
/-! K03: in_order. -/
namespace K03
open PySem PySem.Spec PyProof.Rows L2 Ms LamX
abbrev qLam : Str := ("in_order" : Str) ++ ".<locals>." ++ "<lambda>"
/-- in_order's code object stands at c, its table at Pt -/
structure TabO (K : PySem.W.Frag) (mg : Str → Option Value) (base : Heap) (c Pt : Addr) : Prop where
  tb : TabB base mg c Pt
  code : ∀ o d fd sl, K.lookup (He.ga K "in_order") = some ⟨o, d, .func fd, sl⟩ → fd.code = .ref c
/-- a def whose code object is known -/
theorem ok_ofC {P : Program} {w : World} {K : PySem.W.Frag} {mg : Str → Option Value} {base : Heap} {x : Str} {st : Stmt} {N ps : List Str} {k : Nat} {sp : Sp} {c : Addr} (D : At K mg x st) (hc : ∀ o d fd sl, K.lookup (He.ga K x) = some ⟨o, d, .func fd, sl⟩ → fd.code = .ref c) (S : FnScope N ps (defScope st))
    (len : ∀ vs H Q E, sp vs H Q E → vs.length = ps.length) (hb : BindsIn x x st ps) (body : ∀ (A : Around) (outer : List Env) (s : Shared) (H : Hp) (vs : List V) (Q : VK) (E : XK), Rm k x st (He.ga K x) (.ref c) A s → sp vs H Q E → Goal P w K mg base x st N (He.ga K x) (.ref c) A outer s H vs Q E) : Ok P w K mg base x (k + 1) sp := by
  obtain ⟨fd, F⟩ := D.df
  refine ⟨⟨fd, ps, ?_, F.bindsN hb⟩, D.gl, F.kp⟩
  obtain ⟨oc, od, dV, kV, doc, pm, an, cdv, ct, osl, rfl, lk, hcd, _, _⟩ := F.ex
  have e : cdv = .ref c := hc _ _ _ _ lk
  subst e
  exact fn_of lk hcd S len fun A outer s H vs Q E hr h => let ⟨t, h1, h2⟩ := body A outer s H vs Q E hr h; ⟨t, h1.nox, h2⟩
theorem SightAt.by_ {K : PySem.W.Frag} {H H' : Hp} {p : Addr} {r : List Nat} (h : SightAt K H p r) (e1 : ∀ b C dx fs, H b = some (.ins C dx fs) → H' b = some (.ins C dx fs)) (e2 : ∀ b xs, H b = some (.tup xs) → H' b = some (.tup xs)) : SightAt K H' p r :=
  let ⟨dx, t, c, h1, h2, ts, h3, h4⟩ := h.ex
  ⟨⟨dx, t, c, e1 _ _ _ _ h1, e2 _ _ h2, ts, e2 _ _ h3, pimp (fun _ _ _ z => e2 _ _ z) h4⟩, h.row, h.pos, h.few⟩
theorem SightAt.ext {K : PySem.W.Frag} {H H' : Hp} {p : Addr} {r : List Nat} (h : SightAt K H p r) (e : ExtN H H') : SightAt K H' p r :=
  h.by_ (fun b C dx fs q => e _ _ q fun _ z => by cases z) fun b xs q => e _ _ q fun _ z => by cases z
theorem SightAt.put {K : PySem.W.Frag} {H : Hp} {p D : Addr} {r : List Nat} {ys zs : List V} (h : SightAt K H p r) (hD : H D = some (.lst ys)) : SightAt K (upd H D (.lst zs)) p r :=
  h.by_ (fun b C dx fs q => by rw [upd_ne (fun z => by rw [z, hD] at q; cases q)]; exact q) fun b xs q => by rw [upd_ne (fun z => by rw [z, hD] at q; cases q)]; exact q
/-- a list of lists of ints -/
def IRows (H : Hp) (a : Addr) (rs : List (List Int)) : Prop := ∃ ls : List Addr, H a = some (.lst (ls.map V.ref)) ∧ Paired (fun l (r : List Int) => H l = some (.lst (r.map V.int))) ls rs
/-- a tuple of sights -/
def SightsT (K : PySem.W.Frag) (H : Hp) (t : Addr) (qs : List (List Nat)) : Prop := ∃ ps : List Addr, H t = some (.tup (ps.map V.ref)) ∧ Paired (fun p q => SightAt K H p q) ps qs
def spOrder (K : PySem.W.Frag) (Pt : Addr) : Sp := fun vs H Q _ => ∃ (a : Addr) (rs : List (List Int)), vs = [.ref a] ∧ IRows H a rs ∧ rs.length ≤ 100000 ∧ (∀ r ∈ rs, 0 < r.length ∧ r.length ≤ 60) ∧ TabS H Pt qLam ∧
  ∀ H' t qs, ExtN H H' → TabS H' Pt qLam → SightsT K H' t qs → qs.Perm (rs.map ren) → qs.Pairwise (· ≤ ·) → Q (.ref t) H'
theorem paired_zip {α β : Type} {F : α → β → Prop} {xs : List α} {ys : List β} (h : Paired F xs ys) {a : α} {b : β} (m : (a, b) ∈ xs.zip ys) : F a b := by
  induction h with
  | nil => cases m
  | cons f _ ih =>
    rw [List.zip_cons_cons] at m
    rcases List.mem_cons.mp m with e | m
    · cases e; exact f
    · exact ih m
theorem paired_maps {α β γ : Type} {F : β → γ → Prop} {g : α → β} {f : α → γ} : ∀ {l : List α}, (∀ b ∈ l, F (g b) (f b)) → Paired F (l.map g) (l.map f)
  | [], _ => .nil
  | b :: l, h => .cons (h b List.mem_cons_self) (paired_maps fun x m => h x (List.mem_cons_of_mem _ m))
theorem cI_lt : ∀ {p q : List Nat}, cI p < cI q ↔ p < q
  | [], [] => by
    constructor
    · intro h; exact absurd h (List.lt_irrefl _)
    · intro h; exact absurd h (List.lt_irrefl _)
  | [], b :: q => ⟨fun _ => List.nil_lt_cons _ _, fun _ => List.nil_lt_cons _ _⟩
  | a :: p, [] => ⟨fun h => absurd h (List.not_lt_nil _), fun h => absurd h (List.not_lt_nil _)⟩
  | a :: p, b :: q => by
    show ((a : Int) :: cI p) < ((b : Int) :: cI q) ↔ _
    rw [List.cons_lt_cons_iff, List.cons_lt_cons_iff, cI_lt (p := p) (q := q)]
    constructor
    · rintro (h | ⟨h, g⟩)
      · exact .inl (by omega)
      · exact .inr ⟨by omega, g⟩
    · rintro (h | ⟨h, g⟩)
      · exact .inl (by omega)
      · exact .inr ⟨by omega, g⟩
theorem cI_le {p q : List Nat} : cI p ≤ cI q ↔ p ≤ q := by
  rw [← List.not_lt, ← List.not_lt, cI_lt]
theorem cI_nat (q : List Nat) : (cI q).map Int.toNat = q := by
  unfold cI
  rw [List.map_map]
  show q.map (fun n => Int.toNat ((n : Nat) : Int)) = q
  simp
section
variable {P : Program} {w : World} {K : PySem.W.Frag} {mg : Str → Option Value} {base : Heap} {c Pt : Addr}
theorem ok_in_order (T : Tx K mg) (B : TabO K mg base c Pt) : Ok P w K mg base "in_order" 4 (spOrder K Pt) := by
  have O_Sightu__initu_ : COk P w K mg base "Sight" 2 (spInit K) := cok T
  refine ok_ofC T.a_in_order B.code scin_order (fun vs H Q E h => ?_) bi_in_order fun A outer s H vs Q E hr h => ?_
  · obtain ⟨a, rs, rfl, _⟩ := h
    rfl
  obtain ⟨a, rs, rfl, ha, hz, hl, hT, hQ⟩ := h
  have big : 4000000 ≤ sizeLine := by decide
  refine ⟨_, (pss_one (ps_ret (pe_callTy (tupK K) (by rfl) T.f_tuple (by decide +kernel) (pa_cons (pe_sortKey (C := CS K) (attr := "marks") (p := "sight") ⟨rfl, rfl, rfl, rfl, by decide, fun _ => rfl, fun _ _ _ _ _ _ => rfl⟩ (by rfl) T.f_sorted (pe_lc (own := [("row", 1)]) (g := gName 1) rfl scin_order.nd (pi_list (pv 0)) (blkOk_by (N := ["rows", "row"]) (sc := defScope sin_order) (by decide +kernel)) (fun _ _ _ _ _ => (pg_name (i := 1) scin_order.nd rfl (by first | exact Or.inl rfl | exact Or.inr rfl))) (fun _ _ _ _ _ => pts_nil) (fun _ _ _ _ _ => (pe_nK K (E := EN) O_Sightu__initu_ hr (by decide) (fun σ => passN σ) (pa_cons (pv 1) pa_nil)))) (hr.mono (by decide)) B.tb rfl rfl) pa_nil)))), ?_⟩
  obtain ⟨ls, h1, h2⟩ := ha
  have ll : ls.length = rs.length := Paired.length h2
  refine ⟨_, rfl, a, rfl, ⟨_, .inl (.inl h1)⟩, fun D nD => ?_⟩
  refine lc_it (walk_list (K := K) (a := a) (xs := ls.map V.ref)) (fun i H1 => Same H H1 ∧ ∃ ps : List Addr, H1 D = some (.lst (ps.map V.ref)) ∧ Paired (fun p r => SightAt K H1 p r) ps ((rs.take i).map ren)) ⟨same_new nD, [], upd_same .., .nil⟩ (fun i H1 _ h => .inl (.inl (h.1 _ _ h1))) ?_ ?_
  · rintro i x _ H1 hi ⟨s1, ps, b1, b2⟩ ⟨rfl, ex⟩
    rw [List.length_map] at hi
    obtain ⟨l, r, e1, e2, e3⟩ := pget2 h2 hi
    have hx : x = .ref l := by
      have ex : (ls.map V.ref)[i]? = some x := ex
      rw [List.getElem?_map, e1] at ex
      exact (Option.some.inj ex).symm
    subst hx
    obtain ⟨r0, r60⟩ := hl r (List.mem_of_getElem? e2)
    have hm : MarksAt K H1 l (ren r) := ⟨r.map V.int, by rw [List.length_map]; omega, .inl ⟨r, rfl, rfl, .inl (.inl (.inl (s1 _ _ e3)))⟩⟩
    refine ⟨rfl, _, rfl, make_fin hm (fun _ H3 p s2 np hs => ?_) fun e => absurd e (by rw [ren_len]; omega)⟩
    have pl : ps.length ≤ i := by
      have := Paired.length b2
      rw [List.length_map, List.length_take] at this
      omega
    refine ⟨_, s2 _ _ b1, by rw [List.length_map]; omega, same_put nD (same2 s1 s2), ps ++ [p], by rw [upd_same, List.map_append] <;> rfl, ?_⟩
    rw [List.take_add_one, e2, List.map_append]
    exact psnoc (pimp (fun _ _ _ z => (z.same s2).put (s2 _ _ b1)) b2) (hs.put (s2 _ _ b1))
  · rintro H1 ⟨s1, ps, b1, b2⟩
    rw [List.length_map, List.take_of_length_le (by omega)] at b2
    have hq : ∀ b ∈ (ps.zip (rs.map ren)).map (fun b => (b.1, cI b.2)), ∃ q : List Nat, b.2 = cI q ∧ SightAt K H1 b.1 q := fun b hb => by
      obtain ⟨⟨p, q⟩, hz, rfl⟩ := List.mem_map.mp hb
      exact ⟨q, rfl, paired_zip b2 hz⟩
    have hpl : ps.length = (rs.map ren).length := Paired.length b2
    refine ⟨D, (ps.zip (rs.map ren)).map (fun b => (b.1, cI b.2)), rfl, ?_, ?_, fun b hb => ?_, T.c_Sight, T.n_marks, hT.ext s1, fun H2 D2 x2 hT2 n2 => ?_⟩
    · refine .inl (.inl ?_)
      rw [b1, List.map_map]
      have e : (ps.zip (rs.map ren)).map (V.ref ∘ Prod.fst) = ps.map V.ref := by rw [← List.map_map, List.map_fst_zip (by omega)]
      show some (HO.lst (ps.map V.ref)) = some (HO.lst ((ps.zip (rs.map ren)).map (V.ref ∘ Prod.fst)))
      rw [e]
    · rw [List.length_map, List.length_zip]
      have := Paired.length b2
      rw [List.length_map] at this
      omega
    · obtain ⟨q, e, hs⟩ := hq b hb
      obtain ⟨dx, t, cc, g1, g2, _⟩ := hs.ex
      refine ⟨fun z => ?_, dx, _, t, g1, rfl, ?_⟩
      · rw [e] at z
        have := hs.pos
        have z2 := congrArg List.length z
        unfold cI at z2
        rw [List.length_map, List.length_nil] at z2
        omega
      · rw [e, ← nV_cI]; exact g2
    · have pm := List.mergeSort_perm ((ps.zip (rs.map ren)).map (fun b => (b.1, cI b.2))) (fun p q => decide (p.2 ≤ q.2))
      have pw : (((ps.zip (rs.map ren)).map (fun b => (b.1, cI b.2))).mergeSort (fun p q => decide (p.2 ≤ q.2))).Pairwise (fun p q => decide (p.2 ≤ q.2) = true) := List.pairwise_mergeSort (le := fun p q : Addr × List Int => decide (p.2 ≤ q.2))
        (fun a b c h1 h2 => decide_eq_true (List.le_trans (of_decide_eq_true h1) (of_decide_eq_true h2))) (fun a b => by
          rcases List.le_total a.2 b.2 with h | h
          · rw [decide_eq_true h] <;> rfl
          · rw [decide_eq_true h, Bool.or_true]) _
      generalize ((ps.zip (rs.map ren)).map (fun b => (b.1, cI b.2))).mergeSort (fun p q => decide (p.2 ≤ q.2)) = S at pm pw
      have hS : ∀ b ∈ S, ∃ q : List Nat, b.2 = cI q ∧ SightAt K H1 b.1 q := fun b hb => hq b (pm.mem_iff.mp hb)
      have b3 : upd H2 D2 (.lst (S.map fun b => V.ref b.1)) D2 = some (.lst (S.map fun b => V.ref b.1)) := upd_same ..
      have s3 := same_new (o := .lst (S.map fun b => V.ref b.1)) n2
      generalize upd H2 D2 (.lst (S.map fun b => V.ref b.1)) = H3 at b3 s3
      refine ⟨D2, _, rfl, .inl ⟨.inl (.inl b3), fun t nt => ?_⟩⟩
      have s4 := same_new (o := .tup (S.map fun b => V.ref b.1)) nt
      have x4 : ExtN H (upd H3 t (.tup (S.map fun b => V.ref b.1))) := (ExtN.of s1).trans (x2.trans (ExtN.of (same2 s3 s4)))
      refine hQ _ t (S.map fun b => b.2.map Int.toNat) x4 (hT2.ext (same2 s3 s4)) ⟨S.map fun b => b.1, ?_, paired_maps fun b hb => ?_⟩ ?_ ?_
      · rw [upd_same, List.map_map] <;> rfl
      · obtain ⟨q, e, hs⟩ := hS b hb
        rw [e, cI_nat]
        exact (hs.ext x2).same (same2 s3 s4)
      · have := pm.map fun b : Addr × List Int => b.2.map Int.toNat
        refine this.trans ?_
        rw [List.map_map]
        have e : (ps.zip (rs.map ren)).map ((fun b : Addr × List Int => b.2.map Int.toNat) ∘ fun b => (b.1, cI b.2)) = (ps.zip (rs.map ren)).map Prod.snd := List.map_congr_left fun b _ => cI_nat b.2
        rw [e, List.map_snd_zip (by omega)]
      · rw [List.pairwise_map]
        refine List.Pairwise.imp_of_mem (fun {b b'} hb hb' h => ?_) pw
        obtain ⟨q, e, _⟩ := hS b hb
        obtain ⟨q', e', _⟩ := hS b' hb'
        have h := of_decide_eq_true h
        rw [e, e'] at h
        rw [e, e', cI_nat, cI_nat]
        exact cI_le.mp h
end
end K03
set_option Elab.async false
set_option linter.all false
set_option maxRecDepth 100000
set_option maxHeartbeats 4000000
/-! Ms, plain: a row with one mark more, one mark less. -/
namespace Msp
open Ms
theorem nodup_len {α : Type} [DecidableEq α] {l m : List α} (hl : l.Nodup) (hm : m.Nodup) (h : ∀ x, x ∈ l ↔ x ∈ m) : l.length = m.length :=
  ((List.perm_ext_iff_of_nodup hl hm).mpr h).length_eq
theorem nd_ne {α : Type} {l : List α} (h : l.Nodup) {i j : Nat} (hij : i < j) (hj : j < l.length) : l[i]? ≠ l[j]? := fun e => by
  rw [getE (Nat.lt_trans hij hj), getE hj] at e
  have := (List.getElem_inj h).mp (Option.some.inj e)
  omega
/-- a list with just one mark too many: the two places -/
theorem one_pair {κ : Type} [DecidableEq κ] : ∀ L : List κ, L.length = (firsts L).length + 1 → ∃ a b, a < b ∧ b < L.length ∧ L[a]? = L[b]? ∧ ∀ i j, i < j → j < L.length → L[i]? = L[j]? → i = a ∧ j = b := fun L => by
  induction L using snoc_ind with
  | h0 => intro h; cases h
  | hs l k ih =>
    intro h
    rw [List.length_append, List.length_singleton] at h
    have up : ∀ {p}, p < l.length → (l ++ [k])[p]? = l[p]? := fun hp => List.getElem?_append_left hp
    have last : (l ++ [k])[l.length]? = some k := by rw [List.getElem?_append_right (Nat.le_refl _), Nat.sub_self] <;> rfl
    by_cases hk : k ∈ l
    · rw [firsts_old hk] at h
      have nd : l.Nodup := by
        have hl : (firsts l).length = l.length := by omega
        have sub : ∀ {l : List κ}, (firsts l).length = l.length → firsts l = l := fun {l} => by
          induction l using snoc_ind with
          | h0 => intro _; rfl
          | hs l k ih =>
            intro e
            rw [firsts_snoc] at e ⊢
            by_cases hk : k ∈ firsts l
            · rw [if_pos hk] at e
              have := firsts_le l
              rw [List.length_append, List.length_singleton] at e
              omega
            · rw [if_neg hk] at e ⊢
              rw [List.length_append, List.length_append, List.length_singleton] at e
              rw [ih (by omega)]
        rw [← sub hl]
        exact firsts_nodup l
      obtain ⟨a, ha⟩ := List.getElem?_of_mem hk
      have la := ltE ha
      refine ⟨a, l.length, la, by rw [List.length_append, List.length_singleton]; omega, by rw [up la, ha, last], fun i j hij hj e => ?_⟩
      rw [List.length_append, List.length_singleton] at hj
      by_cases hjl : j < l.length
      · rw [up (by omega), up hjl] at e
        exfalso
        have := nd_ne nd hij hjl
        exact this e
      · have ej : j = l.length := by omega
        subst ej
        rw [up hij, last] at e
        refine ⟨?_, rfl⟩
        rcases Nat.lt_trichotomy i a with q | q | q
        · exact absurd (e.trans ha.symm) (nd_ne nd q la)
        · exact q
        · exact absurd (ha.trans e.symm) (nd_ne nd q hij)
    · rw [firsts_new hk, List.length_append, List.length_singleton] at h
      obtain ⟨a, b, h1, h2, h3, h4⟩ := ih (by omega)
      refine ⟨a, b, h1, by rw [List.length_append, List.length_singleton]; omega, by rw [up (by omega), up h2]; exact h3, fun i j hij hj e => ?_⟩
      rw [List.length_append, List.length_singleton] at hj
      by_cases hjl : j < l.length
      · rw [up (by omega), up hjl] at e
        exact h4 i j hij hjl e
      · have ej : j = l.length := by omega
        subst ej
        rw [up hij, last] at e
        exact absurd (List.mem_of_getElem? e) hk
/-- f tells g: what f does not tell apart, g does not -/
def Tell (f g : List Nat) : Prop := ∀ i j a c d : Nat, f[i]? = some a → f[j]? = some a → g[i]? = some c → g[j]? = some d → c = d
def nblk (r : List Nat) : Nat := (firsts r).length
theorem mem_cnt {r : List Nat} (h : Row r) {m : Nat} : m ∈ r ↔ m < nblk r := row_has h
/-- f has one mark more than g and tells it: two marks of f are one in g, the others are as they were -/
theorem pair_of {f g : List Nat} (hf : Row f) (hg : Row g) (el : f.length = g.length) (ec : nblk f = nblk g + 1) (ht : Tell f g) : ∃ a b m : Nat, a < b ∧ b < nblk f ∧ (∀ i x : Nat, (f[i]? = some a ∨ f[i]? = some b) → g[i]? = some x → x = m) ∧ m < nblk g ∧
    ∀ i j x y z : Nat, f[i]? = some x → f[j]? = some y → g[i]? = some z → g[j]? = some z → x = y ∨ (x = a ∧ y = b) ∨ (x = b ∧ y = a) := by
  have at_ : ∀ b : Nat, b < nblk f → ∃ i : Nat, f[i]? = some b ∧ i = f.idxOf b ∧ i < g.length := fun b hb => by
    have hm := (mem_cnt hf).mpr hb
    have hl := List.idxOf_lt_length_of_mem hm
    refine ⟨_, ?_, rfl, by omega⟩
    rw [getE hl, List.getElem_idxOf]
  have key : ∀ i b z : Nat, f[i]? = some b → g[i]? = some z → at0 g (f.idxOf b) = z := fun i b z h1 h2 => by
    obtain ⟨j, e1, e2, e3⟩ := at_ b ((mem_cnt hf).mp (List.mem_of_getElem? h1))
    rw [← e2]
    exact ht j i b _ z e1 h1 (of_at0 e3) h2
  have hL : ((List.range (nblk f)).map fun b => at0 g (f.idxOf b)).length = (firsts ((List.range (nblk f)).map fun b => at0 g (f.idxOf b))).length + 1 := by
    rw [List.length_map, List.length_range]
    refine ec.trans ?_
    congr 1
    show (firsts g).length = _
    refine nodup_len (firsts_nodup _) (firsts_nodup _) fun m => ?_
    rw [mem_firsts, mem_firsts, List.mem_map]
    constructor
    · intro h
      obtain ⟨i, hi⟩ := List.getElem?_of_mem h
      have hl := ltE hi
      have h2 := getE (l := f) (i := i) (by omega)
      exact ⟨f[i], List.mem_range.mpr ((mem_cnt hf).mp (List.mem_of_getElem? h2)), key i _ m h2 hi⟩
    · rintro ⟨b, hb, rfl⟩
      obtain ⟨i, e1, e2, e3⟩ := at_ b (List.mem_range.mp hb)
      rw [← e2]
      exact List.mem_of_getElem? (of_at0 e3)
  obtain ⟨a, b, h1, h2, h3, h4⟩ := one_pair _ hL
  rw [List.length_map, List.length_range] at h2 h4
  have la : ∀ b : Nat, b < nblk f → ((List.range (nblk f)).map fun b => at0 g (f.idxOf b))[b]? = some (at0 g (f.idxOf b)) := fun b hb => by
    rw [List.getElem?_map, List.getElem?_range hb] <;> rfl
  rw [la a (by omega), la b h2] at h3
  have h3 := Option.some.inj h3
  refine ⟨a, b, at0 g (f.idxOf b), h1, h2, fun i x h hx => ?_, ?_, fun i j x y z hx hy hz hz' => ?_⟩
  · rcases h with h | h
    · rw [← h3]; exact (key i a x h hx).symm
    · exact (key i b x h hx).symm
  · obtain ⟨i, e1, e2, e3⟩ := at_ b h2
    rw [← e2]
    exact (mem_cnt hg).mp (List.mem_of_getElem? (of_at0 e3))
  · have k1 := key i x z hx hz
    have k2 := key j y z hy hz'
    have lx := (mem_cnt hf).mp (List.mem_of_getElem? hx)
    have ly := (mem_cnt hf).mp (List.mem_of_getElem? hy)
    have e : ((List.range (nblk f)).map fun b => at0 g (f.idxOf b))[x]? = ((List.range (nblk f)).map fun b => at0 g (f.idxOf b))[y]? := by rw [la x lx, la y ly, k1, k2]
    rcases Nat.lt_trichotomy x y with q | q | q
    · exact .inr (.inl (h4 x y q ly e))
    · exact .inl q
    · obtain ⟨q1, q2⟩ := h4 y x q lx e.symm
      exact .inr (.inr ⟨q2, q1⟩)
def mergeRow (r : List Nat) (lo hi : Nat) : List Nat := r.map fun m => if m = hi then lo else m
def mergeRows (r : List Nat) : List (List Nat) := (List.range (nblk r)).flatMap fun hi => (List.range hi).map fun lo => mergeRow r lo hi
theorem merge_at {r : List Nat} {lo hi i x : Nat} (h : (mergeRow r lo hi)[i]? = some x) : ∃ m, r[i]? = some m ∧ x = if m = hi then lo else m := by
  unfold mergeRow at h
  rw [List.getElem?_map] at h
  cases e : r[i]? with
  | none => rw [e] at h; cases h
  | some m => rw [e] at h; exact ⟨m, rfl, (Option.some.inj h).symm⟩
theorem merge_get {r : List Nat} {lo hi i m : Nat} (h : r[i]? = some m) : (mergeRow r lo hi)[i]? = some (if m = hi then lo else m) := by
  unfold mergeRow
  rw [List.getElem?_map, h] <;> rfl
theorem merge_complete {f g : List Nat} (hf : Row f) (hg : Row g) (el : f.length = g.length) (ec : nblk f = nblk g + 1) (ht : Tell f g) : g ∈ (mergeRows f).map ren := by
  obtain ⟨a, b, m, h1, h2, h3, h4, h5⟩ := pair_of hf hg el ec ht
  refine List.mem_map.mpr ⟨mergeRow f a b, List.mem_flatMap.mpr ⟨b, List.mem_range.mpr h2, List.mem_map.mpr ⟨a, List.mem_range.mpr h1, rfl⟩⟩, ?_⟩
  refine Eq.trans (ren_alike ⟨by unfold mergeRow; rw [List.length_map, el], fun i j x y z w hx hy hz hw => ?_⟩).1 hg
  obtain ⟨p, hp, rfl⟩ := merge_at hx
  obtain ⟨q, hq, rfl⟩ := merge_at hy
  constructor
  · intro e
    by_cases epq : p = q
    · subst epq
      exact ht i j p z w hp hq hz hw
    · have : (p = a ∧ q = b) ∨ (p = b ∧ q = a) := by
        by_cases pb : p = b
        · rw [if_pos pb] at e
          by_cases qb : q = b
          · exact absurd (pb.trans qb.symm) epq
          · rw [if_neg qb] at e
            exact .inr ⟨pb, e.symm⟩
        · rw [if_neg pb] at e
          by_cases qb : q = b
          · rw [if_pos qb] at e
            exact .inl ⟨e, qb⟩
          · rw [if_neg qb] at e
            exact absurd e epq
      rcases this with ⟨e1, e2⟩ | ⟨e1, e2⟩
      · rw [h3 i z (.inl (e1 ▸ hp)) hz, h3 j w (.inr (e2 ▸ hq)) hw]
      · rw [h3 i z (.inr (e1 ▸ hp)) hz, h3 j w (.inl (e2 ▸ hq)) hw]
  · intro e
    subst e
    rcases h5 i j p q z hp hq hz hw with e | ⟨e1, e2⟩ | ⟨e1, e2⟩
    · rw [e]
    · rw [e1, e2, if_neg (by omega), if_pos rfl]
    · rw [e1, e2, if_pos rfl, if_neg (by omega)]
theorem cnt_ren {κ : Type} [DecidableEq κ] (l : List κ) : nblk (ren l) = (firsts l).length := by
  unfold nblk
  rw [firsts_ren, List.length_range]
theorem merge_sound {f : List Nat} (hf : Row f) {lo hi : Nat} (h1 : lo < hi) (h2 : hi < nblk f) : Row (ren (mergeRow f lo hi)) ∧ (ren (mergeRow f lo hi)).length = f.length ∧ nblk (ren (mergeRow f lo hi)) + 1 = nblk f ∧ Tell f (ren (mergeRow f lo hi)) := by
  refine ⟨row_ren _, by rw [ren_len]; unfold mergeRow; rw [List.length_map], ?_, fun i j a c d ha hb hc hd => ?_⟩
  · rw [cnt_ren]
    have e : (hi :: firsts (mergeRow f lo hi)).length = (List.range (nblk f)).length := by
      have mem : ∀ k, k ∈ firsts (mergeRow f lo hi) ↔ k < nblk f ∧ k ≠ hi := fun k => by
        rw [mem_firsts]
        unfold mergeRow
        rw [List.mem_map]
        constructor
        · rintro ⟨m, hm, rfl⟩
          have := (mem_cnt hf).mp hm
          by_cases e : m = hi
          · rw [if_pos e]; omega
          · rw [if_neg e]; exact ⟨this, e⟩
        · rintro ⟨a, b⟩
          exact ⟨k, (mem_cnt hf).mpr a, if_neg b⟩
      refine nodup_len (List.nodup_cons.mpr ⟨fun z => ((mem hi).mp z).2 rfl, firsts_nodup _⟩) List.nodup_range fun k => ?_
      rw [List.mem_cons, mem, List.mem_range]
      constructor
      · rintro (rfl | ⟨a, _⟩)
        · exact h2
        · exact a
      · intro h
        by_cases e : k = hi
        · exact .inl e
        · exact .inr ⟨h, e⟩
    rw [List.length_cons, List.length_range] at e
    exact e
  · exact ((alike_ren (mergeRow f lo hi)).2 i j _ _ c d (merge_get ha) (merge_get hb) hc hd).mp rfl
theorem alike_of {κ ι : Type} [DecidableEq κ] [DecidableEq ι] {x : List κ} {y : List ι} (e : ren x = ren y) : Alike x y := (e ▸ alike_ren x).trans (alike_ren y).symm
theorem merge_inj {f : List Nat} (hf : Row f) {lo hi lo' hi' : Nat} (h1 : lo < hi) (h2 : hi < nblk f) (h3 : lo' < hi') (e : ren (mergeRow f lo hi) = ren (mergeRow f lo' hi')) : lo = lo' ∧ hi = hi' := by
  obtain ⟨i, hi1⟩ := List.getElem?_of_mem ((mem_cnt hf).mpr (show lo < nblk f by omega))
  obtain ⟨j, hj1⟩ := List.getElem?_of_mem ((mem_cnt hf).mpr h2)
  have a := (alike_of e).2 i j _ _ _ _ (merge_get hi1) (merge_get hj1) (merge_get hi1) (merge_get hj1)
  rw [if_neg (show ¬ lo = hi by omega), if_pos rfl] at a
  have a := a.mp rfl
  by_cases q : hi = hi'
  · rw [if_pos q, if_neg (by omega)] at a
    exact ⟨a, q⟩
  · rw [if_neg q] at a
    by_cases q2 : lo = hi'
    · rw [if_pos q2] at a; omega
    · rw [if_neg q2] at a; omega
theorem merge_nodup {f : List Nat} (hf : Row f) : ((mergeRows f).map ren).Nodup := by
  unfold mergeRows
  rw [List.map_flatMap]
  unfold List.Nodup
  rw [List.pairwise_flatMap]
  refine ⟨fun hi hm => ?_, ?_⟩
  · rw [List.map_map, List.pairwise_map]
    refine List.Pairwise.imp_of_mem (fun {a b} ha hb h e => ?_) List.pairwise_lt_range
    have := (merge_inj hf (List.mem_range.mp ha) (List.mem_range.mp hm) (List.mem_range.mp hb) e).1
    omega
  · refine List.Pairwise.imp_of_mem (fun {a b} ha hb h x hx y hy e => ?_) List.pairwise_lt_range
    rw [List.map_map] at hx hy
    obtain ⟨lo, h1, rfl⟩ := List.mem_map.mp hx
    obtain ⟨lo', h2, rfl⟩ := List.mem_map.mp hy
    have := (merge_inj hf (List.mem_range.mp h1) (List.mem_range.mp ha) (List.mem_range.mp h2) e).2
    omega
theorem merge_count (f : List Nat) : 2 * (mergeRows f).length = nblk f * (nblk f - 1) := by
  unfold mergeRows
  rw [List.length_flatMap]
  have : ∀ c, 2 * ((List.range c).map fun hi => ((List.range hi).map fun lo => mergeRow f lo hi).length).sum = c * (c - 1) := fun c => by
    induction c with
    | zero => rfl
    | succ c ih =>
      rw [List.range_succ, List.map_append, List.sum_append, Nat.mul_add, ih, List.map_singleton, List.length_map, List.length_range]
      show c * (c - 1) + 2 * (c + 0) = (c + 1) * c
      cases c with
      | zero => rfl
      | succ c =>
        show (c + 1) * c + 2 * (c + 1) = (c + 1 + 1) * (c + 1)
        rw [Nat.mul_comm (c + 1) c, ← Nat.add_mul, Nat.mul_comm]
  exact this _
end Msp
set_option Elab.async false
set_option linter.all false
set_option maxRecDepth 100000
set_option maxHeartbeats 4000000
/-! Ms, plain: a cell split in two. -/
namespace Msp
open Ms
def subs (ds : List Nat) : List (List Nat) := ds.foldl (fun cs d => cs ++ cs.map (· ++ [d])) [[]]
theorem subs_nil : subs [] = [[]] := rfl
theorem subs_snoc (l : List Nat) (d : Nat) : subs (l ++ [d]) = subs l ++ (subs l).map (· ++ [d]) := by
  unfold subs
  rw [List.foldl_append] <;> rfl
theorem subs_len (l : List Nat) : (subs l).length = 2 ^ l.length := by
  induction l using snoc_ind with
  | h0 => rfl
  | hs l d ih =>
    rw [subs_snoc, List.length_append, List.length_map, ih, List.length_append, List.length_singleton, Nat.pow_succ]
    omega
theorem subs_sub {l c : List Nat} (h : c ∈ subs l) : ∀ x ∈ c, x ∈ l := by
  induction l using snoc_ind generalizing c with
  | h0 =>
    rw [subs_nil] at h
    rw [List.mem_singleton.mp h]
    exact fun x hx => nomatch hx
  | hs l d ih =>
    rw [subs_snoc] at h
    intro x hx
    rcases List.mem_append.mp h with h | h
    · exact List.mem_append_left _ (ih h x hx)
    · obtain ⟨c', h', rfl⟩ := List.mem_map.mp h
      rcases List.mem_append.mp hx with hx | hx
      · exact List.mem_append_left _ (ih h' x hx)
      · exact List.mem_append_right _ hx
theorem subs_filter (p : Nat → Bool) (l : List Nat) : l.filter p ∈ subs l := by
  induction l using snoc_ind with
  | h0 => exact List.mem_singleton.mpr rfl
  | hs l d ih =>
    rw [subs_snoc, List.filter_append]
    by_cases h : p d = true
    · rw [List.filter_cons_of_pos h]
      exact List.mem_append_right _ (List.mem_map.mpr ⟨_, ih, rfl⟩)
    · rw [List.filter_cons_of_neg h, List.filter_nil, List.append_nil]
      exact List.mem_append_left _ ih
/-- such a choice is the list's part that it holds -/
theorem subs_eq {l : List Nat} (nd : l.Nodup) {c : List Nat} (h : c ∈ subs l) : c = l.filter fun x => decide (x ∈ c) := by
  induction l using snoc_ind generalizing c with
  | h0 =>
    rw [subs_nil] at h
    rw [List.mem_singleton.mp h] <;> rfl
  | hs l d ih =>
    obtain ⟨n1, n2, n3⟩ := List.nodup_append.mp nd
    have dl : ¬ d ∈ l := fun z => n3 d z d (List.mem_singleton.mpr rfl) rfl
    rw [subs_snoc] at h
    rw [List.filter_append]
    rcases List.mem_append.mp h with h | h
    · have dc : ¬ d ∈ c := fun z => dl (subs_sub h d z)
      rw [List.filter_cons_of_neg (by simpa using dc), List.filter_nil, List.append_nil]
      exact ih n1 h
    · obtain ⟨c', h', rfl⟩ := List.mem_map.mp h
      have dc : ¬ d ∈ c' := fun z => dl (subs_sub h' d z)
      rw [List.filter_cons_of_pos (by simp), List.filter_nil]
      congr 1
      refine (ih n1 h').trans (List.filter_congr fun x hx => ?_)
      have : x ≠ d := fun z => dl (z ▸ hx)
      simp [this]
theorem subs_nodup {l : List Nat} (nd : l.Nodup) : (subs l).Nodup := by
  induction l using snoc_ind with
  | h0 => exact List.nodup_cons.mpr ⟨List.not_mem_nil, List.nodup_nil⟩
  | hs l d ih =>
    obtain ⟨n1, n2, n3⟩ := List.nodup_append.mp nd
    have dl : ¬ d ∈ l := fun z => n3 d z d (List.mem_singleton.mpr rfl) rfl
    rw [subs_snoc]
    refine List.nodup_append.mpr ⟨ih n1, ?_, fun x hx y hy e => ?_⟩
    · unfold List.Nodup
      rw [List.pairwise_map]
      exact (ih n1).imp fun h e => h (List.append_cancel_right e)
    · obtain ⟨c', h', rfl⟩ := List.mem_map.mp hy
      exact dl (subs_sub (e ▸ hx) d (List.mem_append_right _ (List.mem_singleton.mpr rfl)))
theorem subs_head (l : List Nat) : ∃ t, subs l = [] :: t := by
  induction l using snoc_ind with
  | h0 => exact ⟨[], rfl⟩
  | hs l d ih =>
    obtain ⟨t, e⟩ := ih
    rw [subs_snoc, e]
    exact ⟨_, rfl⟩
theorem subs_tail {l : List Nat} (nd : l.Nodup) {c : List Nat} : c ∈ (subs l).drop 1 ↔ c ∈ subs l ∧ c ≠ [] := by
  obtain ⟨t, e⟩ := subs_head l
  have nd2 := subs_nodup nd
  rw [e] at nd2 ⊢
  have hn := (List.nodup_cons.mp nd2).1
  show c ∈ t ↔ _
  constructor
  · intro h
    exact ⟨List.mem_cons_of_mem _ h, fun z => hn (z ▸ h)⟩
  · rintro ⟨h, g⟩
    rcases List.mem_cons.mp h with h | h
    · exact absurd h g
    · exact h
def splitRow (r ch : List Nat) : List Int := (List.range r.length).map fun d => if d ∈ ch then -1 else ((at0 r d : Nat) : Int)
def splitRows (r : List Nat) : List (List Int) := (cellsOf r).flatMap fun cell => ((subs (cell.drop 1)).drop 1).map fun ch => splitRow r ch
theorem split_get {r ch : List Nat} {i m : Nat} (h : r[i]? = some m) : (splitRow r ch)[i]? = some (if i ∈ ch then -1 else (m : Int)) := by
  unfold splitRow
  rw [List.getElem?_map, List.getElem?_range (ltE h)]
  show some (if i ∈ ch then (-1 : Int) else ((at0 r i : Nat) : Int)) = _
  rw [at0_of h]
theorem split_at {r ch : List Nat} {i : Nat} {x : Int} (h : (splitRow r ch)[i]? = some x) : ∃ m, r[i]? = some m ∧ x = if i ∈ ch then -1 else (m : Int) := by
  have l : i < r.length := by
    have := ltE h
    unfold splitRow at this
    rw [List.length_map, List.length_range] at this
    exact this
  refine ⟨at0 r i, of_at0 l, ?_⟩
  rw [split_get (of_at0 l)] at h
  exact (Option.some.inj h).symm
theorem split_len (r ch : List Nat) : (splitRow r ch).length = r.length := by unfold splitRow; rw [List.length_map, List.length_range]
theorem mem_places {m : Nat} {r : List Nat} {i : Nat} : i ∈ places m r ↔ r[i]? = some m := by
  unfold places
  rw [List.mem_filter, List.mem_range, decide_eq_true_eq]
  exact ⟨fun h => h.2, fun h => ⟨ltE h, h⟩⟩
theorem places_rise (m : Nat) (r : List Nat) : (places m r).Pairwise (· < ·) := List.Pairwise.filter _ List.pairwise_lt_range
theorem rise_nodup {l : List Nat} (h : l.Pairwise (· < ·)) : l.Nodup := h.imp fun h e => by omega
/-- a cell: its first deal, the others -/
theorem cell_cons {r : List Nat} {m : Nat} (h : m ∈ r) : ∃ d t, places m r = d :: t ∧ r[d]? = some m ∧ (∀ x ∈ t, d < x ∧ r[x]? = some m) ∧ t.Nodup ∧ ∀ i, r[i]? = some m → i = d ∨ i ∈ t := by
  obtain ⟨i, hi⟩ := List.getElem?_of_mem h
  have hm : i ∈ places m r := mem_places.mpr hi
  have hp := places_rise m r
  have hall : ∀ x ∈ places m r, r[x]? = some m := fun x hx => mem_places.mp hx
  have hback : ∀ i, r[i]? = some m → i ∈ places m r := fun i hi => mem_places.mpr hi
  cases e : places m r with
  | nil => rw [e] at hm; cases hm
  | cons d t =>
    rw [e] at hp hall hback
    obtain ⟨p1, p2⟩ := List.pairwise_cons.mp hp
    exact ⟨d, t, rfl, hall d List.mem_cons_self, fun x hx => ⟨p1 x hx, hall x (List.mem_cons_of_mem _ hx)⟩, rise_nodup p2, fun i hi => List.mem_cons.mp (hback i hi)⟩
theorem cells_row {r : List Nat} (h : Row r) : cellsOf r = (List.range (nblk r)).map fun m => places m r := by
  unfold cellsOf
  rw [row_cnt h] <;> rfl
theorem split_sound {r : List Nat} (h : Row r) {m : Nat} (hm : m < nblk r) {ch : List Nat} (hc : ch ∈ subs ((places m r).drop 1)) (ne : ch ≠ []) : Row (ren (splitRow r ch)) ∧ (ren (splitRow r ch)).length = r.length ∧ nblk (ren (splitRow r ch)) = nblk r + 1 ∧ Tell (ren (splitRow r ch)) r := by
  obtain ⟨d, t, e, hd, ht, _, _⟩ := cell_cons ((mem_cnt h).mpr hm)
  rw [e] at hc
  have sub : ∀ x ∈ ch, d < x ∧ r[x]? = some m := fun x hx => ht x (subs_sub hc x hx)
  have dn : ¬ d ∈ ch := fun z => Nat.lt_irrefl _ (sub d z).1
  refine ⟨row_ren _, by rw [ren_len, split_len], ?_, fun i j a c d' ha hb hc' hd' => ?_⟩
  · rw [cnt_ren]
    have mem : ∀ k : Int, k ∈ firsts (splitRow r ch) ↔ k = -1 ∨ ∃ n : Nat, n < nblk r ∧ k = (n : Int) := fun k => by
      rw [mem_firsts]
      constructor
      · intro hk
        obtain ⟨i, hi⟩ := List.getElem?_of_mem hk
        obtain ⟨m', h1, h2⟩ := split_at hi
        by_cases q : i ∈ ch
        · rw [if_pos q] at h2; exact .inl h2
        · rw [if_neg q] at h2; exact .inr ⟨m', (mem_cnt h).mp (List.mem_of_getElem? h1), h2⟩
      · rintro (rfl | ⟨n, hn, rfl⟩)
        · cases ch with
          | nil => exact absurd rfl ne
          | cons x ch =>
            have := split_get (ch := x :: ch) (sub x List.mem_cons_self).2
            rw [if_pos List.mem_cons_self] at this
            exact List.mem_of_getElem? this
        · by_cases q : n = m
          · subst q
            have := split_get (ch := ch) hd
            rw [if_neg dn] at this
            exact List.mem_of_getElem? this
          · obtain ⟨i, hi⟩ := List.getElem?_of_mem ((mem_cnt h).mpr hn)
            have := split_get (ch := ch) hi
            rw [if_neg (fun z => q (by have := (sub i z).2; rw [hi] at this; exact Option.some.inj this))] at this
            exact List.mem_of_getElem? this
    have e2 : (firsts (splitRow r ch)).length = ((-1 : Int) :: (List.range (nblk r)).map fun n : Nat => (n : Int)).length := by
      refine nodup_len (firsts_nodup _) (List.nodup_cons.mpr ⟨fun z => ?_, ?_⟩) fun k => ?_
      · obtain ⟨n, _, e⟩ := List.mem_map.mp z
        omega
      · unfold List.Nodup
        rw [List.pairwise_map]
        exact List.pairwise_lt_range.imp fun h e => by omega
      · rw [mem, List.mem_cons, List.mem_map]
        constructor
        · rintro (h | ⟨n, hn, rfl⟩)
          · exact .inl h
          · exact .inr ⟨n, List.mem_range.mpr hn, rfl⟩
        · rintro (h | ⟨n, hn, rfl⟩)
          · exact .inl h
          · exact .inr ⟨n, List.mem_range.mp hn, rfl⟩
    rw [e2, List.length_cons, List.length_map, List.length_range]
  · have al := (alike_ren (splitRow r ch)).2 i j _ _ a a (split_get hc') (split_get hd') ha hb
    have al := al.mpr rfl
    by_cases q1 : i ∈ ch
    · by_cases q2 : j ∈ ch
      · have h1 := (sub i q1).2
        have h2 := (sub j q2).2
        rw [hc'] at h1
        rw [hd'] at h2
        rw [Option.some.inj h1, Option.some.inj h2]
      · rw [if_pos q1, if_neg q2] at al; omega
    · by_cases q2 : j ∈ ch
      · rw [if_neg q1, if_pos q2] at al; omega
      · rw [if_neg q1, if_neg q2] at al; omega
/-- the marks of a row begin in their order -/
theorem row_first : ∀ {r : List Nat}, Row r → ∀ {i b : Nat}, r[i]? = some b → ∀ {a : Nat}, a < b → ∃ j, j < i ∧ r[j]? = some a := fun {r} => by
  induction r using snoc_ind with
  | h0 => intro _ i b h; cases h
  | hs l m ih =>
    intro h i b hb a hab
    obtain ⟨h1, h2⟩ := row_snoc.mp h
    by_cases hi : i < l.length
    · rw [List.getElem?_append_left hi] at hb
      obtain ⟨j, hj, e⟩ := ih h1 hb hab
      exact ⟨j, hj, by rw [List.getElem?_append_left (by omega)]; exact e⟩
    · have hl := ltE hb
      rw [List.length_append, List.length_singleton] at hl
      have ei : i = l.length := by omega
      subst ei
      rw [List.getElem?_append_right (Nat.le_refl _), Nat.sub_self] at hb
      have hb : m = b := Option.some.inj hb
      obtain ⟨j, hj⟩ := List.getElem?_of_mem ((row_has h1).mpr (show a < (firsts l).length by omega))
      exact ⟨j, ltE hj, by rw [List.getElem?_append_left (ltE hj)]; exact hj⟩
theorem split_complete {f g : List Nat} (hf : Row f) (hg : Row g) (el : f.length = g.length) (ec : nblk f = nblk g + 1) (ht : Tell f g) : f ∈ (splitRows g).map ren := by
  obtain ⟨a, b, m, h1, h2, h3, h4, h5⟩ := pair_of hf hg el ec ht
  obtain ⟨d, t, e, hd, hdt, tn, hall⟩ := cell_cons ((mem_cnt hg).mpr h4)
  have gat : ∀ {i}, i < f.length → ∃ z, g[i]? = some z := fun hi => ⟨_, getE (by omega)⟩
  -- where f has b
  have inT : ∀ i, f[i]? = some b → i ∈ t := fun i hi => by
    obtain ⟨z, hz⟩ := gat (ltE hi)
    have ez := h3 i z (.inr hi) hz
    subst ez
    rcases hall i hz with q | q
    · exfalso
      obtain ⟨j, hj, hja⟩ := row_first hf hi h1
      obtain ⟨y, hy⟩ := gat (ltE hja)
      have ey := h3 j y (.inl hja) hy
      subst ey
      rcases hall j hy with q2 | q2
      · omega
      · have := (hdt j q2).1; omega
    · exact q
  have hch : t.filter (fun i => decide (f[i]? = some b)) ∈ subs t := subs_filter _ _
  have hmem : ∀ i, i ∈ t.filter (fun i => decide (f[i]? = some b)) ↔ f[i]? = some b := fun i => by
    rw [List.mem_filter, decide_eq_true_eq]
    exact ⟨fun h => h.2, fun h => ⟨inT i h, h⟩⟩
  have hne : t.filter (fun i => decide (f[i]? = some b)) ≠ [] := fun z => by
    obtain ⟨i, hi⟩ := List.getElem?_of_mem ((mem_cnt hf).mpr h2)
    have := (hmem i).mpr hi
    rw [z] at this
    cases this
  generalize t.filter (fun i => decide (f[i]? = some b)) = ch at hch hmem hne
  refine List.mem_map.mpr ⟨splitRow g ch, List.mem_flatMap.mpr ⟨places m g, ?_, List.mem_map.mpr ⟨ch, ?_, rfl⟩⟩, ?_⟩
  · rw [cells_row hg]
    exact List.mem_map.mpr ⟨m, List.mem_range.mpr h4, rfl⟩
  · rw [e]
    exact (subs_tail tn).mpr ⟨hch, hne⟩
  refine Eq.trans (ren_alike ⟨by rw [split_len, el], fun i j x y z w hx hy hz hw => ?_⟩).1 hf
  obtain ⟨p, hp, rfl⟩ := split_at hx
  obtain ⟨q, hq, rfl⟩ := split_at hy
  constructor
  · intro ee
    by_cases q1 : i ∈ ch
    · by_cases q2 : j ∈ ch
      · have e1 := (hmem i).mp q1
        have e2 := (hmem j).mp q2
        rw [hz] at e1
        rw [hw] at e2
        rw [Option.some.inj e1, Option.some.inj e2]
      · rw [if_pos q1, if_neg q2] at ee; omega
    · by_cases q2 : j ∈ ch
      · rw [if_neg q1, if_pos q2] at ee; omega
      · rw [if_neg q1, if_neg q2] at ee
        have epq : p = q := by omega
        subst epq
        rcases h5 i j z w p hz hw hp hq with r | ⟨_, r⟩ | ⟨r, _⟩
        · exact r
        · exact absurd ((hmem j).mpr (r ▸ hw)) q2
        · exact absurd ((hmem i).mpr (r ▸ hz)) q1
  · intro ee
    subst ee
    by_cases q1 : z = b
    · rw [if_pos ((hmem i).mpr (q1 ▸ hz)), if_pos ((hmem j).mpr (q1 ▸ hw))]
    · rw [if_neg (fun y => q1 (by have := (hmem i).mp y; rw [hz] at this; exact Option.some.inj this)), if_neg (fun y => q1 (by have := (hmem j).mp y; rw [hw] at this; exact Option.some.inj this)), ht i j z p q hz hw hp hq]
end Msp
set_option Elab.async false
set_option linter.all false
set_option maxRecDepth 100000
set_option maxHeartbeats 4000000
/-! Ms, plain: splits and merges, each once, in their order. -/
namespace Msp
open Ms
theorem split_inj {r : List Nat} (h : Row r) {m m' : Nat} (hm : m < nblk r) (hm' : m' < nblk r) {ch ch' : List Nat} (hc : ch ∈ subs ((places m r).drop 1)) (hc' : ch' ∈ subs ((places m' r).drop 1)) (ne : ch ≠ []) (ne' : ch' ≠ []) (e : ren (splitRow r ch) = ren (splitRow r ch')) : m = m' ∧ ch = ch' := by
  have half : ∀ {m m' : Nat} {ch ch' : List Nat}, m < nblk r → m' < nblk r → ch ∈ subs ((places m r).drop 1) → ch' ∈ subs ((places m' r).drop 1) → ren (splitRow r ch) = ren (splitRow r ch') → ∀ d ∈ ch, d ∈ ch' ∧ m = m' := fun {m m' ch ch'} hm hm' hc hc' e d hd => by
    obtain ⟨k, t, ek, hk, ht, _, _⟩ := cell_cons ((mem_cnt h).mpr hm)
    obtain ⟨k', t', ek', hk', ht', _, _⟩ := cell_cons ((mem_cnt h).mpr hm')
    rw [ek] at hc
    rw [ek'] at hc'
    have s1 := fun x hx => ht x (subs_sub hc x hx)
    have s2 := fun x hx => ht' x (subs_sub hc' x hx)
    have kn : ¬ k ∈ ch := fun z => Nat.lt_irrefl _ (s1 k z).1
    have hdm := (s1 d hd).2
    have al := (alike_of e).2 d k _ _ _ _ (split_get hdm) (split_get hk) (split_get hdm) (split_get hk)
    rw [if_pos hd, if_neg kn] at al
    have kn' : ¬ k ∈ ch' := fun z => by
      have q := s2 k z
      have em : m = m' := by
        have := q.2
        rw [hk] at this
        exact Option.some.inj this
      subst em
      rw [ek] at ek'
      obtain ⟨q1, _⟩ := List.cons.inj ek'
      omega
    by_cases q : d ∈ ch'
    · refine ⟨q, ?_⟩
      have := (s2 d q).2
      rw [hdm] at this
      exact Option.some.inj this
    · rw [if_neg q, if_neg kn'] at al
      have := al.mpr rfl
      omega
  have em : m = m' := by
    cases ch with
    | nil => exact absurd rfl ne
    | cons x ch => exact (half hm hm' hc hc' e x List.mem_cons_self).2
  subst em
  refine ⟨rfl, ?_⟩
  obtain ⟨k, t, ek, _, _, tn, _⟩ := cell_cons ((mem_cnt h).mpr hm)
  rw [ek] at hc hc'
  have hc0 : ch ∈ subs ((places m r).drop 1) := by rw [ek]; exact hc
  have hc0' : ch' ∈ subs ((places m r).drop 1) := by rw [ek]; exact hc'
  rw [subs_eq tn hc, subs_eq tn hc']
  refine List.filter_congr fun x _ => decide_eq_decide.mpr ?_
  exact ⟨fun z => (half hm hm hc0 hc0' e x z).1, fun z => (half hm hm hc0' hc0 e.symm x z).1⟩
theorem split_rows {r : List Nat} (h : Row r) : (splitRows r).map ren = (List.range (nblk r)).flatMap fun m => ((subs ((places m r).drop 1)).drop 1).map fun ch => ren (splitRow r ch) := by
  unfold splitRows
  rw [cells_row h, List.map_flatMap, List.flatMap_map]
  congr 1
  funext m
  rw [List.map_map] <;> rfl
theorem tail_nodup {r : List Nat} {m : Nat} : ((places m r).drop 1).Nodup := (List.drop_sublist 1 _).nodup (rise_nodup (places_rise m r))
theorem split_nodup {r : List Nat} (h : Row r) : ((splitRows r).map ren).Nodup := by
  rw [split_rows h]
  unfold List.Nodup
  rw [List.pairwise_flatMap]
  refine ⟨fun m hm => ?_, ?_⟩
  · rw [List.pairwise_map]
    have nd : ((subs ((places m r).drop 1)).drop 1).Nodup := (List.drop_sublist 1 _).nodup (subs_nodup tail_nodup)
    refine List.Pairwise.imp_of_mem (fun {a b} ha hb h2 e => h2 ?_) nd
    obtain ⟨a1, a2⟩ := (subs_tail tail_nodup).mp ha
    obtain ⟨b1, b2⟩ := (subs_tail tail_nodup).mp hb
    exact (split_inj h (List.mem_range.mp hm) (List.mem_range.mp hm) a1 b1 a2 b2 e).2
  · refine List.Pairwise.imp_of_mem (fun {m m'} ha hb h2 x hx y hy e => ?_) List.pairwise_lt_range
    obtain ⟨ch, h3, rfl⟩ := List.mem_map.mp hx
    obtain ⟨ch', h4, rfl⟩ := List.mem_map.mp hy
    obtain ⟨a1, a2⟩ := (subs_tail tail_nodup).mp h3
    obtain ⟨b1, b2⟩ := (subs_tail tail_nodup).mp h4
    have := (split_inj h (List.mem_range.mp ha) (List.mem_range.mp hb) a1 b1 a2 b2 e).1
    omega
theorem split_iff {r t : List Nat} (h : Row r) : t ∈ (splitRows r).map ren ↔ Row t ∧ t.length = r.length ∧ nblk t = nblk r + 1 ∧ Tell t r := by
  constructor
  · intro ht
    rw [split_rows h] at ht
    obtain ⟨m, hm, ht⟩ := List.mem_flatMap.mp ht
    obtain ⟨ch, hc, rfl⟩ := List.mem_map.mp ht
    obtain ⟨a1, a2⟩ := (subs_tail tail_nodup).mp hc
    exact split_sound h (List.mem_range.mp hm) a1 a2
  · rintro ⟨h1, h2, h3, h4⟩
    exact split_complete h1 h h2 h3 h4
theorem merge_iff {r t : List Nat} (h : Row r) : t ∈ (mergeRows r).map ren ↔ Row t ∧ t.length = r.length ∧ nblk t + 1 = nblk r ∧ Tell r t := by
  constructor
  · intro ht
    obtain ⟨x, hx, rfl⟩ := List.mem_map.mp ht
    obtain ⟨hi, h1, hx⟩ := List.mem_flatMap.mp hx
    obtain ⟨lo, h2, rfl⟩ := List.mem_map.mp hx
    exact merge_sound h (List.mem_range.mp h2) (List.mem_range.mp h1)
  · rintro ⟨h1, h2, h3, h4⟩
    exact merge_complete h h1 h2.symm h3.symm h4
theorem split_count (r : List Nat) : (splitRows r).length = ((cellsOf r).map fun cell => 2 ^ (cell.length - 1) - 1).sum := by
  unfold splitRows
  rw [List.length_flatMap]
  congr 1
  refine List.map_congr_left fun cell _ => ?_
  rw [List.length_map, List.length_drop, subs_len, List.length_drop]
/-- two rising lists with the same members -/
theorem rise_uniq : ∀ {l m : List (List Nat)}, l.Pairwise (· < ·) → m.Pairwise (· < ·) → (∀ x, x ∈ l ↔ x ∈ m) → l = m
  | [], [], _, _, _ => rfl
  | [], b :: m, _, _, h => nomatch (h b).mpr List.mem_cons_self
  | a :: l, [], _, _, h => nomatch (h a).mp List.mem_cons_self
  | a :: l, b :: m, hl, hm, h => by
    obtain ⟨l1, l2⟩ := List.pairwise_cons.mp hl
    obtain ⟨m1, m2⟩ := List.pairwise_cons.mp hm
    have e : a = b := by
      rcases List.mem_cons.mp ((h a).mp List.mem_cons_self) with q | q
      · exact q
      · rcases List.mem_cons.mp ((h b).mpr List.mem_cons_self) with q2 | q2
        · exact q2.symm
        · exact absurd (List.lt_trans (m1 a q) (l1 b q2)) (List.lt_irrefl _)
    subst e
    rw [rise_uniq l2 m2 fun x => ?_]
    constructor
    · intro hx
      rcases List.mem_cons.mp ((h x).mp (List.mem_cons_of_mem _ hx)) with q | q
      · subst q; exact absurd (l1 x hx) (List.lt_irrefl _)
      · exact q
    · intro hx
      rcases List.mem_cons.mp ((h x).mpr (List.mem_cons_of_mem _ hx)) with q | q
      · subst q; exact absurd (m1 x hx) (List.lt_irrefl _)
      · exact q
/-- sorted, each once: rising -/
theorem rise_of {l : List (List Nat)} (h : l.Pairwise (· ≤ ·)) (nd : l.Nodup) : l.Pairwise (· < ·) := (h.and nd).imp fun {a b} ⟨h1, h2⟩ => by
  rcases List.le_iff_lt_or_eq.mp h1 with q | q
  · exact q
  · exact absurd q h2
theorem once {l : List (List Nat)} (nd : l.Nodup) {r : List Nat} (h : r ∈ l) : (l.filter fun q => decide (q = r)).length = 1 := by
  have : (l.filter fun q => decide (q = r)).length = [r].length := nodup_len ((List.filter_sublist).nodup nd) (List.nodup_cons.mpr ⟨List.not_mem_nil, List.nodup_nil⟩) fun x => by
    rw [List.mem_filter, decide_eq_true_eq, List.mem_singleton]
    exact ⟨fun h => h.2, fun e => ⟨e ▸ h, e⟩⟩
  exact this
end Msp
set_option Elab.async false
set_option linter.all false
set_option maxRecDepth 100000
/-! Ms, plain: steps from a set of deals, the first of the shortest ways. -/
namespace Ms
/-! ### lists to which what is new is added -/
section
variable {α : Type} [DecidableEq α]
def adds (d xs : List α) : List α := xs.foldl (fun d x => if x ∈ d then d else d ++ [x]) d
theorem adds_nil (d : List α) : adds d [] = d := rfl
theorem adds_snoc (d xs : List α) (x : α) : adds d (xs ++ [x]) = if x ∈ adds d xs then adds d xs else adds d xs ++ [x] := by
  unfold adds
  rw [List.foldl_append] <;> rfl
theorem mem_adds (d xs : List α) (y : α) : y ∈ adds d xs ↔ y ∈ d ∨ y ∈ xs := by
  induction xs using snoc_ind with
  | h0 => simp [adds_nil]
  | hs l a ih =>
    rw [adds_snoc]
    by_cases h : a ∈ adds d l
    · rw [if_pos h, ih]
      have := ih
      constructor
      · rintro (q | q)
        · exact .inl q
        · exact .inr (List.mem_append_left _ q)
      · rintro (q | q)
        · exact .inl q
        · rcases List.mem_append.mp q with q | q
          · exact .inr q
          · rw [List.mem_singleton.mp q] at this ⊢
            exact this.mp h
    · rw [if_neg h]
      simp [ih, or_assoc]
theorem nodup_adds {d : List α} (hd : d.Nodup) (xs : List α) : (adds d xs).Nodup := by
  induction xs using snoc_ind with
  | h0 => exact hd
  | hs l a ih =>
    rw [adds_snoc]
    by_cases h : a ∈ adds d l
    · rw [if_pos h]; exact ih
    · rw [if_neg h]
      refine List.nodup_append.mpr ⟨ih, List.nodup_cons.mpr ⟨List.not_mem_nil, List.nodup_nil⟩, fun x hx y hy e => ?_⟩
      rw [List.mem_singleton.mp hy] at e
      exact h (e ▸ hx)
/-- what is added -/
def news (d xs : List α) : List α := (adds d xs).drop d.length
theorem adds_eq (d xs : List α) : adds d xs = d ++ news d xs := by
  unfold news
  induction xs using snoc_ind with
  | h0 => simp [adds_nil]
  | hs l a ih =>
    have hl : d.length ≤ (adds d l).length := by rw [ih, List.length_append]; omega
    rw [adds_snoc]
    by_cases h : a ∈ adds d l
    · rw [if_pos h]; exact ih
    · rw [if_neg h, List.drop_append_of_le_length hl, ← List.append_assoc, ← ih]
theorem news_nil (d : List α) : news d [] = [] := by unfold news; rw [adds_nil]; exact List.drop_length
theorem news_old {d xs : List α} {x : α} (h : x ∈ adds d xs) : news d (xs ++ [x]) = news d xs := by
  unfold news
  rw [adds_snoc, if_pos h]
theorem news_new {d xs : List α} {x : α} (h : ¬ x ∈ adds d xs) : news d (xs ++ [x]) = news d xs ++ [x] := by
  have hl : d.length ≤ (adds d xs).length := by rw [adds_eq d xs, List.length_append]; omega
  unfold news
  rw [adds_snoc, if_neg h, List.drop_append_of_le_length hl]
theorem mem_news {d : List α} (hd : d.Nodup) (xs : List α) (y : α) : y ∈ news d xs ↔ y ∈ xs ∧ ¬ y ∈ d := by
  have h1 := mem_adds d xs y
  have h2 := nodup_adds hd xs
  rw [adds_eq] at h1 h2
  rw [List.mem_append] at h1
  obtain ⟨_, _, h3⟩ := List.nodup_append.mp h2
  constructor
  · intro q
    have nd : ¬ y ∈ d := fun z => h3 y z y q rfl
    exact ⟨(h1.mp (.inr q)).resolve_left nd, nd⟩
  · rintro ⟨q1, q2⟩
    exact (h1.mpr (.inr q1)).resolve_left q2
theorem nodup_news {d : List α} (hd : d.Nodup) (xs : List α) : (news d xs).Nodup := by
  have h2 := nodup_adds hd xs
  rw [adds_eq] at h2
  exact (List.nodup_append.mp h2).2.1
theorem nodup_le {l m : List α} (h : l.Nodup) (s : ∀ x ∈ l, x ∈ m) : l.length ≤ m.length := by
  induction l generalizing m with
  | nil => exact Nat.zero_le _
  | cons x l ih =>
    obtain ⟨h1, h2⟩ := List.nodup_cons.mp h
    have hx := s x List.mem_cons_self
    have q := ih (m := m.erase x) h2 fun y hy => (List.mem_erase_of_ne (fun (e : y = x) => h1 (by rw [← e]; exact hy))).mpr (s y (List.mem_cons_of_mem _ hy))
    rw [List.length_erase_of_mem hx] at q
    have : 0 < m.length := List.length_pos_of_mem hx
    rw [List.length_cons]
    omega
end
/-! ### steps -/
section
variable (adj : Nat → Nat → Prop) (S : Nat → Prop)
def Rch : Nat → Nat → Prop
  | 0, v => S v
  | k + 1, v => Rch k v ∨ ∃ u, Rch k u ∧ adj u v
def Dst (k v : Nat) : Prop := Rch adj S k v ∧ ∀ j, j < k → ¬ Rch adj S j v
variable {adj S}
theorem Rch.mono {k l v : Nat} (h : Rch adj S k v) (hl : k ≤ l) : Rch adj S l v := by
  induction l with
  | zero => rw [Nat.le_zero.mp hl] at h; exact h
  | succ l ih =>
    by_cases e : k = l + 1
    · rw [← e]; exact h
    · exact .inl (ih (by omega))
theorem Rch.dst {k v : Nat} (h : Rch adj S k v) : ∃ j, j ≤ k ∧ Dst adj S j v := by
  induction k with
  | zero => exact ⟨0, Nat.le_refl _, h, fun j hj => absurd hj (Nat.not_lt_zero _)⟩
  | succ k ih =>
    by_cases q : Rch adj S k v
    · obtain ⟨j, h1, h2⟩ := ih q
      exact ⟨j, by omega, h2⟩
    · exact ⟨k + 1, Nat.le_refl _, h, fun j hj z => q (z.mono (by omega))⟩
theorem Dst.uniq {k l v : Nat} (h : Dst adj S k v) (g : Dst adj S l v) : k = l := by
  rcases Nat.lt_trichotomy k l with q | q | q
  · exact absurd h.1 (g.2 k q)
  · exact q
  · exact absurd g.1 (h.2 l q)
theorem Dst.back {k v : Nat} (h : Dst adj S (k + 1) v) : ∃ u, Dst adj S k u ∧ adj u v := by
  rcases h.1 with q | ⟨u, q1, q2⟩
  · exact absurd q (h.2 k (Nat.lt_succ_self _))
  · refine ⟨u, ⟨q1, fun j hj z => ?_⟩, q2⟩
    exact h.2 (j + 1) (by omega) (.inr ⟨u, z, q2⟩)
theorem Dst.on {k u v : Nat} (h : Dst adj S k u) (g : adj u v) : ∃ j, j ≤ k + 1 ∧ Dst adj S j v := Rch.dst (k := k + 1) (.inr ⟨u, h.1, g⟩)
theorem dst_zero {v : Nat} : Dst adj S 0 v ↔ S v := ⟨fun h => h.1, fun h => ⟨h, fun j hj => absurd hj (Nat.not_lt_zero _)⟩⟩
/-- a layer that is empty is the last -/
theorem no_more {s : Nat} (h : ∀ v, ¬ Dst adj S s v) {k v : Nat} (g : Dst adj S k v) : k < s := by
  rcases Nat.lt_or_ge k s with q | q
  · exact q
  · exfalso
    induction k generalizing v with
    | zero =>
      have : s = 0 := by omega
      subst this
      exact h _ g
    | succ k ih =>
      by_cases e : s = k + 1
      · subst e; exact h _ g
      · obtain ⟨u, q1, _⟩ := g.back
        exact ih q1 (by omega)
end
/-! ### ways -/
def Lx : List Nat → List Nat → Prop
  | x :: p, y :: q => x < y ∨ (x = y ∧ Lx p q)
  | _, _ => False
theorem Lx.irrefl : ∀ p : List Nat, ¬ Lx p p
  | [], h => h
  | x :: p, h => by
    rcases h with h | ⟨_, h⟩
    · exact Nat.lt_irrefl _ h
    · exact Lx.irrefl p h
theorem Lx.trans : ∀ {p q r : List Nat}, Lx p q → Lx q r → Lx p r
  | x :: p, y :: q, z :: r, h, g => by
    rcases h with h | ⟨rfl, h⟩
    · rcases g with g | ⟨rfl, g⟩
      · exact .inl (Nat.lt_trans h g)
      · exact .inl h
    · rcases g with g | ⟨rfl, g⟩
      · exact .inl g
      · exact .inr ⟨rfl, Lx.trans h g⟩
theorem Lx.snoc : ∀ {p q : List Nat} (a b : Nat), p.length = q.length → Lx p q → Lx (p ++ [a]) (q ++ [b])
  | x :: p, y :: q, a, b, hl, h => by
    rcases h with h | ⟨rfl, h⟩
    · exact .inl h
    · exact .inr ⟨rfl, Lx.snoc a b (Nat.succ.inj hl) h⟩
theorem Lx.last : ∀ (p : List Nat) {a b : Nat}, a < b → Lx (p ++ [a]) (p ++ [b])
  | [], a, b, h => .inl h
  | x :: p, a, b, h => .inr ⟨rfl, Lx.last p h⟩
/-- shorter, or as long and ahead -/
def Sl (p q : List Nat) : Prop := p.length < q.length ∨ (p.length = q.length ∧ Lx p q)
def Se (p q : List Nat) : Prop := p = q ∨ Sl p q
theorem Sl.irrefl (p : List Nat) : ¬ Sl p p := by
  rintro (h | ⟨_, h⟩)
  · exact Nat.lt_irrefl _ h
  · exact Lx.irrefl p h
theorem Sl.trans {p q r : List Nat} (h : Sl p q) (g : Sl q r) : Sl p r := by
  rcases h with h | ⟨h1, h2⟩
  · rcases g with g | ⟨g1, g2⟩
    · exact .inl (by omega)
    · exact .inl (by omega)
  · rcases g with g | ⟨g1, g2⟩
    · exact .inl (by omega)
    · exact .inr ⟨by omega, h2.trans g2⟩
theorem Sl.snoc {p q : List Nat} (a b : Nat) (h : Sl p q) : Sl (p ++ [a]) (q ++ [b]) := by
  rcases h with h | ⟨h1, h2⟩
  · exact .inl (by rw [List.length_append, List.length_append, List.length_singleton, List.length_singleton]; omega)
  · exact .inr ⟨by rw [List.length_append, List.length_append, List.length_singleton, List.length_singleton]; omega, h2.snoc a b h1⟩
theorem Sl.last (p : List Nat) {a b : Nat} (h : a < b) : Sl (p ++ [a]) (p ++ [b]) := .inr ⟨by simp, Lx.last p h⟩
theorem Se.trans {p q r : List Nat} (h : Se p q) (g : Se q r) : Se p r := by
  rcases h with rfl | h
  · exact g
  · rcases g with rfl | g
    · exact .inr h
    · exact .inr (h.trans g)
theorem Se.anti {p q : List Nat} (h : Se p q) (g : Se q p) : p = q := by
  rcases h with h | h
  · exact h
  · rcases g with g | g
    · exact g.symm
    · exact absurd (h.trans g) (Sl.irrefl p)
theorem Se.snoc {p q : List Nat} (a : Nat) (h : Se p q) : Se (p ++ [a]) (q ++ [a]) := by
  rcases h with rfl | h
  · exact .inl rfl
  · exact .inr (h.snoc a a)
/-- a way from u to v: the deals behind u -/
inductive Pth (adj : Nat → Nat → Prop) : Nat → List Nat → Nat → Prop where
  | nil (u : Nat) : Pth adj u [] u
  | cons {u x v : Nat} {p : List Nat} (h : adj u x) (t : Pth adj x p v) : Pth adj u (x :: p) v
theorem Pth.snoc {adj : Nat → Nat → Prop} {u v x : Nat} {p : List Nat} (h : Pth adj u p v) (g : adj v x) : Pth adj u (p ++ [x]) x := by
  induction h with
  | nil u => exact .cons g (.nil _)
  | cons h t ih => exact .cons h (ih g)
theorem Pth.un {adj : Nat → Nat → Prop} {u v : Nat} {p : List Nat} (h : Pth adj u p v) : p = [] ∧ u = v ∨ ∃ q w, p = q ++ [v] ∧ Pth adj u q w ∧ adj w v := by
  induction h with
  | nil u => exact .inl ⟨rfl, rfl⟩
  | @cons u x v p h t ih =>
    rcases ih with ⟨rfl, rfl⟩ | ⟨q, w, rfl, h1, h2⟩
    · exact .inr ⟨[], u, rfl, .nil _, h⟩
    · exact .inr ⟨x :: q, w, rfl, .cons h h1, h2⟩
theorem Pth.ind {adj : Nat → Nat → Prop} {u : Nat} {C : List Nat → Nat → Prop} (h0 : C [] u) (hs : ∀ p w v, Pth adj u p w → C p w → adj w v → C (p ++ [v]) v) {p : List Nat} {v : Nat} (h : Pth adj u p v) : C p v := by
  have k : ∀ n (p : List Nat) v, p.length = n → Pth adj u p v → C p v := by
    intro n
    induction n with
    | zero =>
      intro p v hl h
      rw [List.length_eq_zero_iff.mp hl] at h ⊢
      cases h
      exact h0
    | succ n ih =>
      intro p v hl h
      rcases h.un with ⟨rfl, _⟩ | ⟨q, w, rfl, h1, h2⟩
      · cases hl
      · have : q.length = n := by simpa using hl
        exact hs q w v h1 (ih q w this h1) h2
  exact k _ p v rfl h
theorem Pth.rch {adj : Nat → Nat → Prop} {S : Nat → Prop} (sym : ∀ a b, adj a b → adj b a) {u v : Nat} {p : List Nat} (h : Pth adj u p v) (hv : S v) : Rch adj S p.length u := by
  induction h with
  | nil u => exact hv
  | cons h t ih => exact .inr ⟨_, ih hv, sym _ _ h⟩
theorem rch_pth {adj : Nat → Nat → Prop} {S : Nat → Prop} {k v : Nat} (h : Rch adj S k v) : ∃ u p, S u ∧ Pth adj u p v := by
  induction k generalizing v with
  | zero => exact ⟨v, [], h, .nil _⟩
  | succ k ih =>
    rcases h with h | ⟨w, h, g⟩
    · exact ih h
    · obtain ⟨u, p, h1, h2⟩ := ih h
      exact ⟨u, _, h1, h2.snoc g⟩
/-! ### the way that goes to the least nearer deal at each step -/
section
variable (adj : Nat → Nat → Prop) (S : Nat → Prop)
/-- from u, d steps away, by the deals of c to v, e steps away, always to the least one nearer -/
inductive Gdy : Nat → Nat → List Nat → Nat → Nat → Prop where
  | nil (u d : Nat) : Gdy u d [] u d
  | cons {u d x v e : Nat} {c : List Nat} (h : adj u x) (hd : Dst adj S d x) (hl : ∀ y, adj u y → Dst adj S d y → x ≤ y) (t : Gdy x d c v e) : Gdy u (d + 1) (x :: c) v e
variable {adj S}
theorem Gdy.snoc {u d v e x : Nat} {c : List Nat} (g : Gdy adj S u d c v (e + 1)) (h : adj v x) (hd : Dst adj S e x) (hl : ∀ y, adj v y → Dst adj S e y → x ≤ y) : Gdy adj S u d (c ++ [x]) x e := by
  generalize hz : e + 1 = z at g
  induction g with
  | nil u d => subst hz; exact .cons h hd hl (.nil _ _)
  | cons h1 h2 h3 t ih => exact .cons h1 h2 h3 (ih h hl hz)
theorem Gdy.pth {u d v e : Nat} {c : List Nat} (g : Gdy adj S u d c v e) : Pth adj u c v := by
  induction g with
  | nil u d => exact .nil _
  | cons h1 h2 h3 t ih => exact .cons h1 ih
theorem Gdy.len {u d v e : Nat} {c : List Nat} (g : Gdy adj S u d c v e) : c.length + e = d := by
  induction g with
  | nil u d => simp
  | cons h1 h2 h3 t ih => rw [List.length_cons]; omega
theorem Gdy.least (sym : ∀ a b, adj a b → adj b a) {u d v : Nat} {c : List Nat} (g : Gdy adj S u d c v 0) (hu : Dst adj S d u) : ∀ {p : List Nat} {z : Nat}, Pth adj u p z → S z → Se c p := by
  generalize hz : 0 = e at g
  induction g with
  | nil u d =>
    subst hz
    intro p z hp hs
    cases p with
    | nil => exact .inl rfl
    | cons x p => exact .inr (.inl (Nat.zero_lt_succ _))
  | @cons u d x v e c h1 h2 h3 t ih =>
    intro p z hp hs
    have ll := Gdy.len t
    have lr : d + 1 ≤ p.length := by
      rcases Nat.lt_or_ge p.length (d + 1) with q | q
      · exact absurd (hp.rch sym hs) (hu.2 _ q)
      · exact q
    rcases Nat.lt_or_ge (d + 1) p.length with q | q
    · exact .inr (.inl (by rw [List.length_cons]; omega))
    · cases hp with
      | nil => cases lr
      | @cons _ y _ p ha tp =>
        rw [List.length_cons] at q lr
        have lp : p.length = d := by omega
        have ry := tp.rch sym hs
        rw [lp] at ry
        have dy : Dst adj S d y := ⟨ry, fun j hj z => hu.2 (j + 1) (by omega) (.inr ⟨y, z, sym _ _ ha⟩)⟩
        have le := h3 y ha dy
        have lc : (x :: c).length = (y :: p).length := by rw [List.length_cons, List.length_cons]; omega
        rcases Nat.lt_or_ge x y with lt | ge
        · exact .inr (.inr ⟨lc, .inl lt⟩)
        · have e1 : x = y := by omega
          subst e1
          rcases ih h2 hz tp hs with rfl | k
          · exact .inl rfl
          · refine .inr (.inr ⟨lc, .inr ⟨rfl, ?_⟩⟩)
            rcases k with k | ⟨_, k⟩
            · exfalso
              rw [List.length_cons, List.length_cons] at lc
              omega
            · exact k
end
end Ms
set_option Elab.async false
set_option linter.all false
set_option maxRecDepth 100000
set_option maxHeartbeats 4000000
/-! dicts with numbers for keys; a comprehension of a dict. -/
namespace Ms
open PySem PySem.Spec PyProof.Rows L2
abbrev ikey (n : Nat) : Key := .inl (n : Int)
theorem ikey_inj {a b : Nat} (h : ikey a = ikey b) : a = b := by
  have := Sum.inl.inj h
  omega
/-- the keys with their values -/
def dkv (ks : List Nat) (f : Nat → V) : List (Key × V) := ks.map fun j => (ikey j, f j)
theorem dkv_len (ks : List Nat) (f : Nat → V) : (dkv ks f).length = ks.length := List.length_map ..
theorem valV_dkv (ks : List Nat) (f : Nat → V) (v : Nat) : valV (dkv ks f) (ikey v) = if v ∈ ks then some (f v) else none := by
  unfold dkv
  induction ks with
  | nil => rfl
  | cons j ks ih =>
    rw [List.map_cons]
    by_cases h : j = v
    · subst h
      rw [valV_pos (p := (ikey j, f j)) rfl, if_pos List.mem_cons_self]
    · have h2 : ¬ v = j := fun z => h z.symm
      rw [valV_neg (p := (ikey j, f j)) (fun z => h (ikey_inj z)), ih]
      simp [List.mem_cons, h2]
theorem valV_in {ks : List Nat} {f : Nat → V} {v : Nat} (h : v ∈ ks) : valV (dkv ks f) (ikey v) = some (f v) := by rw [valV_dkv, if_pos h]
theorem valV_out {ks : List Nat} {f : Nat → V} {v : Nat} (h : ¬ v ∈ ks) : valV (dkv ks f) (ikey v) = none := by rw [valV_dkv, if_neg h]
theorem dkv_snoc (ks : List Nat) (f : Nat → V) (v : Nat) : dkv (ks ++ [v]) f = dkv ks f ++ [(ikey v, f v)] := by
  unfold dkv
  rw [List.map_append] <;> rfl
theorem dkv_new {ks : List Nat} {f : Nat → V} {v : Nat} (h : ¬ v ∈ ks) : putK (dkv ks f) (ikey v) (f v) = dkv (ks ++ [v]) f := by rw [putK_new _ (valV_out h), dkv_snoc]
theorem putK_same {κ : Type} [DecidableEq κ] {kvs : List (κ × V)} {k : κ} {x : V} (h : ∀ p ∈ kvs, p.1 = k → p.2 = x) (hk : valV kvs k ≠ none) : putK kvs k x = kvs := by
  have e : (kvs.any fun kv => decide (kv.1 = k)) = true := by
    cases q : kvs.any fun kv => decide (kv.1 = k) with
    | true => rfl
    | false =>
      exfalso
      refine hk ?_
      unfold valV
      rw [List.find?_eq_none.mpr fun p hp => ?_]
      · rfl
      · have := List.any_eq_false.mp q p hp
        simpa using this
  unfold putK
  rw [if_pos e]
  have e2 : kvs.map (fun kv => if kv.1 = k then (kv.1, x) else kv) = kvs.map id := List.map_congr_left fun p hp => by
    by_cases z : p.1 = k
    · rw [if_pos z]
      exact Prod.ext rfl (h p hp z).symm
    · rw [if_neg z] <;> rfl
  rw [e2, List.map_id]
theorem dkv_old {ks : List Nat} {f : Nat → V} {v : Nat} (h : v ∈ ks) : putK (dkv ks f) (ikey v) (f v) = dkv ks f := by
  refine putK_same (fun p hp e => ?_) (by rw [valV_in h]; exact fun z => by cases z)
  obtain ⟨j, _, rfl⟩ := List.mem_map.mp hp
  rw [ikey_inj e]
theorem dkv_adds (ks xs : List Nat) (f : Nat → V) (v : Nat) : putK (dkv (adds ks xs) f) (ikey v) (f v) = dkv (adds ks (xs ++ [v])) f := by
  rw [adds_snoc]
  by_cases h : v ∈ adds ks xs
  · rw [if_pos h, dkv_old h]
  · rw [if_neg h, dkv_new h]
/-! pairs of numbers for keys -/
abbrev pk (p : Nat × Nat) : List Key := [ikey p.1, ikey p.2]
theorem pk_inj {p q : Nat × Nat} (h : pk p = pk q) : p = q := by
  injection h with h1 h2
  injection h2 with h2 _
  exact Prod.ext (ikey_inj h1) (ikey_inj h2)
def dkp (ps : List (Nat × Nat)) : List (List Key × V) := ps.map fun p => (pk p, .bl true)
theorem dkp_len (ps : List (Nat × Nat)) : (dkp ps).length = ps.length := List.length_map ..
theorem valV_dkp (ps : List (Nat × Nat)) (p : Nat × Nat) : valV (dkp ps) (pk p) = if p ∈ ps then some (.bl true) else none := by
  unfold dkp
  induction ps with
  | nil => rfl
  | cons j ps ih =>
    rw [List.map_cons]
    by_cases h : j = p
    · subst h
      rw [valV_pos (p := (pk j, V.bl true)) rfl, if_pos List.mem_cons_self]
    · have h2 : ¬ p = j := fun z => h z.symm
      rw [valV_neg (p := (pk j, V.bl true)) (fun z => h (pk_inj z)), ih]
      simp [List.mem_cons, h2]
theorem dkp_new {ps : List (Nat × Nat)} {p : Nat × Nat} (h : ¬ p ∈ ps) : putK (dkp ps) (pk p) (.bl true) = dkp (ps ++ [p]) := by
  rw [putK_new _ (by rw [valV_dkp, if_neg h])]
  unfold dkp
  rw [List.map_append] <;> rfl
/-! a comprehension of a dict, over anything that is walked -/
theorem dc_it {J : It} {n : Nat} {G : Hp → Prop} {Y : Nat → Hp → V → Hp → Prop} (w : Walk J n G Y) {g : TG} {tt : TT} {tk tv : TE} {vs : List Nat} {σ : L2.St} {H1 : Hp} {D : Addr} {Qd : Hp → Prop} (Pv : Nat → Hp → Prop) (h0 : Pv 0 (upd H1 D (.dK []))) (hG : ∀ i H, i ≤ n → Pv i H → G H)
    (hs : ∀ i x H H', i < n → Pv i H → Y i H x H' → g x (wipe σ vs) H' fun σ2 H2 => wipe σ2 vs = wipe σ vs ∧ tt σ2 H2 fun b H3 =>
      if b = true then tk σ2 H3 fun y H4 => tv σ2 H4 fun z H5 => ∃ kvs k, y = kV k ∧ H5 D = some (.dK kvs) ∧ kvs.length < sizeLine ∧ Pv (i + 1) (upd H5 D (.dK (putK kvs k z))) else Pv (i + 1) H3) (hd : ∀ H, Pv n H → Qd H) :
    ∃ W : Nat → Nat → Hp → Prop, (∃ m, W 0 m (upd H1 D (.dK []))) ∧ ∀ i m H, W i m H →
      (J.stop i H ∧ Qd H) ∨ (J.go i H ∧ ∃ Nx : Hp → Prop, (∀ H', Nx H' → ∃ m', m' < m ∧ W (i + 1) m' H') ∧ ∀ x H', J.yld i H x H' → g x (wipe σ vs) H' fun σ2 H2 => wipe σ2 vs = wipe σ vs ∧ tt σ2 H2 fun b H3 =>
        if b = true then tk σ2 H3 fun y H4 => tv σ2 H4 fun z H5 => ∃ kvs k, y = kV k ∧ H5 D = some (.dK kvs) ∧ kvs.length < sizeLine ∧ Nx (upd H5 D (.dK (putK kvs k z))) else Nx H3) := by
  refine ⟨fun i m H => m = n - i ∧ i ≤ n ∧ Pv i H, ⟨n, by simp, Nat.zero_le _, h0⟩, ?_⟩
  rintro i m H ⟨rfl, hi, p⟩
  have q := hG i H hi p
  by_cases hlt : i < n
  · exact .inr ⟨w.goes i H hlt q, Pv (i + 1), fun H' p' => ⟨n - (i + 1), by omega, rfl, hlt, p'⟩, fun x H' y => hs i x H H' hlt p (w.yields i H x H' hlt q y)⟩
  · have e : i = n := by omega
    subst e
    exact .inl ⟨w.stops H q, hd H p⟩
end Ms
namespace Ms
open PySem PySem.Spec PyProof.Rows L2
section
variable {X : Cx}
theorem ps_setDc {i : Nat} {y : Str} {py : Pos} {kx vx tg iter : Expr} {ifs : List Expr} {scope : Scope} {own : List (Str × Nat)} {pos spos : Pos} {wi : TI} {g : TG} {tt : TT} {tk tv : TE} (hc : X.calm = true) (hN : X.N.Nodup) (hy : X.N[i]? = some y) (hyl : X.env.scope.names.lookup y = some .local)
    (hsw : swapsWith (.DictComp kx vx [⟨tg, iter, ifs, 0⟩] scope pos) (some (.Name y py)) spos.line X.env = pure true) (hi : PI X tg iter wi) (ok : BlkOk X.N X.env.scope scope own)
    (hg : ∀ (s : Shared) (H : Hp) (C : Addr) (cl : List (Str × Addr)) (fp : List Addr), PG (X.blk s H scope (compEnvC scope cl C X.env) fp) tg g) (ht : ∀ (s : Shared) (H : Hp) (C : Addr) (cl : List (Str × Addr)) (fp : List Addr), PTs (X.blk s H scope (compEnvC scope cl C X.env) fp) ifs tt)
    (hk : ∀ (s : Shared) (H : Hp) (C : Addr) (cl : List (Str × Addr)) (fp : List Addr), PE (X.blk s H scope (compEnvC scope cl C X.env) fp) kx tk)
    (he : ∀ (s : Shared) (H : Hp) (C : Addr) (cl : List (Str × Addr)) (fp : List Addr), PE (X.blk s H scope (compEnvC scope cl C X.env) fp) vx tv) (hs : ∀ x, foldedSetIterable iter X.env x = pure x := by intro _; rfl) :
    PS X (.Assign [.Name y py] (.DictComp kx vx [⟨tg, iter, ifs, 0⟩] scope pos) spos) (tAsg (tDc wi g tt tk tv (own.map (·.2))) (gName i)) := by
  refine ⟨fun pins s σ H D I h => ?_⟩
  rw [exec_Assign_Name_used _ _ _ _ hsw]
  refine wpAny_bind (wpAny_standAt (wpAny_bind ?_))
  show wpAny _ X.A (do let _ ← comprehension (.DictComp kx vx [⟨tg, iter, ifs, 0⟩] scope pos) scope X.env (firstIterPos [⟨tg, iter, ifs, 0⟩] pos) newDict false (eval iter X.env) (some (assign (.Name y py) X.env))) _ _ s
  have h : tDc wi g tt tk tv (own.map (·.2)) σ H (fun x H1 => gName i x σ H1 D.nx) := h
  refine wpAny_bind (thn (dc_core (Qf := fun _ s' => SP X pins D .next s') hc hN I hi ok hg ht hk he hs h fun L C s' m H' I' q hn f => ?_) fun _ s' hq => wpAny_pure (wpAny_pure hq))
  show wpAny _ _ (assign (.Name y py) X.env (.ref L)) _ _ _
  refine wpAny_assign_Name (store_ok2 (v := V.ref L) I' hN hy (.inl hyl) rfl (fun s2 I2 ⟨a, sb, ha⟩ => ?_) (.inr hyl))
  obtain ⟨f0, f1, f2, f3, f4, f5⟩ := f
  have haC : C ≠ a := by
    rcases ha with z | z
    · rw [z]; exact f1
    · exact fun e => f4 y a z e.symm
  refine ⟨m, hn.sameBut sb haC, fun h3 sb3 => ?_⟩
  exact ⟨_, H', I2.turned (t' := s2.toks) (fun b o hb e => (sb3.2 b hb).trans e) f0 f1 f3 f4 f5, q⟩
theorem swd_true {kx vx : Expr} {gs : List Comprehension} {scope : Scope} {pos py : Pos} {y : Str} {l : Nat} {env : Env} (hk : env.scope.kind = .function) (hy : env.scope.names.lookup y = some .local) (hl : (py.line == pos.line) = true)
    (ha : (scope.names.any fun (n, k) => n == y && (k == .local || k == .cell)) = false) : swapsWith (.DictComp kx vx gs scope pos) (some (.Name y py)) l env = pure true := by
  have ky : env.kindOf y = some .local := hy
  have hb : env.blockKind = .function := by unfold Env.blockKind; rw [hk]; rfl
  unfold swapsWith
  simp only [hb, ky, ha, Expr.pos, hl]
  rfl
end
end Ms
namespace Ms
open PySem PySem.Spec PyProof.Rows L2
section
variable {X : Cx} (K : PySem.W.Frag) (e : X.K = K := by rfl)
include e
theorem inK : OpR X (compareOp .In) (rIn K false) := by subst e; exact op_in_seq
theorem notInK : OpR X (compareOp .NotIn) (rIn K true) := by subst e; exact op_notIn_seq
theorem sortedK : CallR X (.builtin "sorted") (rSortedI K) := by subst e; exact cr_sortedI
end
end Ms
namespace Ms
open PySem PySem.Spec PyProof.Rows L2
/-- a block inside of a block -/
theorem blkOk_to {N N' : List Str} {sc sc' scope : Scope} {own : List (Str × Nat)} (h : BlkOk N sc scope own) (e1 : N' = N) (e2 : sc' = sc) : BlkOk N' sc' scope own := by
  subst e1; subst e2; exact h
end Ms
set_option Elab.async false
set_option linter.all false
set_option maxRecDepth 100000
set_option maxHeartbeats 4000000
/-! K03: split_off. -/
namespace K03
open PySem PySem.Spec PyProof.Rows L2 Ms Msp LamX
def spOff (K : PySem.W.Frag) : Sp := fun vs H Q _ => ∃ (a b : Addr) (r ch : List Nat), vs = [.ref a, .ref b] ∧ H a = some (.tup (nV r)) ∧ H b = some (.tup (nV ch)) ∧ r.length ≤ 60 ∧ ch.length ≤ 60 ∧
  ∀ H' p, Same H H' → H p = none → H' p = some (.lst ((splitRow r ch).map V.int)) → Q (.ref p) H'
theorem adds_len (l : List Nat) : (adds [] l).length ≤ l.length := by
  induction l using snoc_ind with
  | h0 => exact Nat.le_refl _
  | hs l k ih =>
    rw [adds_snoc, List.length_append, List.length_singleton]
    split
    · omega
    · rw [List.length_append, List.length_singleton]; omega
section
variable {P : Program} {w : World} {K : PySem.W.Frag} {mg : Str → Option Value} {base : Heap}
theorem ok_split_off (T : Tx K mg) : Ok P w K mg base "split_off" 2 (spOff K) := by
  refine ok_of T.a_split_off scsplit_off (fun vs H Q E h => ?_) bi_split_off fun cdv A outer s H vs Q E hr h => ?_
  · obtain ⟨a, b, r, ch, rfl, _⟩ := h
    rfl
  obtain ⟨a, b, r, ch, rfl, ha, hb, lr, lc, hQ⟩ := h
  have big : 4000000 ≤ sizeLine := by decide
  refine ⟨_, (pss_cons (ps_set (i := 2) scsplit_off.nd rfl (by first | exact Or.inl rfl | exact Or.inr rfl) (pe_dc (own := [("deal", 3)]) (g := gName 3) rfl scsplit_off.nd (pi_tup (pv 1)) (blkOk_by (N := ["marks", "deals", "listed", "deal", "mark"]) (sc := defScope ssplit_off) (by decide +kernel)) (fun _ _ _ _ _ => (pg_name (i := 3) scsplit_off.nd rfl (by first | exact Or.inl rfl | exact Or.inr rfl))) (fun _ _ _ _ _ => pts_nil) (fun _ _ _ _ _ => (pv 3)) (fun _ _ _ _ _ => pe_bl)))
  (pss_one (ps_ret (pe_lc (own := [("deal", 3), ("mark", 4)]) (g := gTup K 2 (gCons (gName 3) (gCons (gName 4) (gNil)))) rfl scsplit_off.nd (pi_enumT (by rfl) T.f_enumerate (pa_cons (pv 0) pa_nil)) (blkOk_by (N := ["marks", "deals", "listed", "deal", "mark"]) (sc := defScope ssplit_off) (by decide +kernel)) (fun _ _ _ _ _ => (pg_tup rfl (pgs_cons (pg_name (i := 3) scsplit_off.nd rfl (by first | exact Or.inl rfl | exact Or.inr rfl)) (pgs_cons (pg_name (i := 4) scsplit_off.nd rfl (by first | exact Or.inl rfl | exact Or.inr rfl)) pgs_nil)))) (fun _ _ _ _ _ => pts_nil) (fun _ _ _ _ _ => (pe_ifExp (pt_cmp (pc_din (hu_of hr) (pv 3) (pv 2))) (pe_un un_neg pe_int) (pv 4))))))), ?_⟩
  refine ⟨_, rfl, b, rfl, ⟨_, .inl (.inl hb)⟩, fun D nD => ?_⟩
  refine dc_it (walk_tup (K := K) (a := b) (xs := nV ch)) (fun i H1 => Same H H1 ∧ H1 D = some (.dK (dkv (adds [] (ch.take i)) fun _ => .bl true))) ⟨same_new nD, upd_same ..⟩ (fun i H1 _ h => .inl (.inl (h.1 _ _ hb))) ?_ ?_
  · rintro i x _ H1 hi ⟨s1, d1⟩ ⟨rfl, ex⟩
    rw [nV_len] at hi
    have hx : x = .int (at0 ch i : Nat) := by
      have ex : (nV ch)[i]? = some x := ex
      rw [nV_at0 hi] at ex
      exact (Option.some.inj ex).symm
    subst hx
    refine ⟨rfl, _, rfl, _, ikey (at0 ch i), rfl, d1, ?_, same_put nD s1, ?_⟩
    · rw [dkv_len]
      have := adds_len (ch.take i)
      rw [List.length_take] at this
      omega
    · rw [upd_same, dkv_adds, List.take_add_one, of_at0 hi] <;> rfl
  · rintro H1 ⟨s1, d1⟩
    rw [nV_len, List.take_length] at d1
    refine ⟨_, rfl, a, _, rfl, .inl (.inl (s1 _ _ ha)), fun L nL => ?_⟩
    have a1 := s1 _ _ ha
    refine lc_it (walk_enumT (K := K) (a := a) (xs := nV r)) (fun i H2 => Same H1 H2 ∧ H2 L = some (.lst (((splitRow r ch).take i).map V.int))) ⟨same_new nL, upd_same ..⟩ (fun i H2 _ h => .inl (.inl (h.1 _ _ a1))) ?_ ?_
    · rintro i x H2 _ hi ⟨s2, l2⟩ ⟨Tt, x1, y1, rfl, nT, rfl, e1, e2⟩
      rw [nV_len] at hi
      have e1 := Option.some.inj e1
      subst e1
      have e2 : (nV r)[i]? = some y1 := e2
      rw [nV_at0 hi] at e2
      have e2 := Option.some.inj e2
      subst e2
      have s3 := same_new (o := .tup [.int (i : Nat), .int (at0 r i : Nat)]) nT
      have b3 : upd H2 Tt (.tup [.int (i : Nat), .int (at0 r i : Nat)]) Tt = some (.tup [.int (i : Nat), .int (at0 r i : Nat)]) := upd_same ..
      generalize upd H2 Tt (.tup [.int (i : Nat), .int (at0 r i : Nat)]) = H3 at s3 b3
      have es := split_get (ch := ch) (of_at0 hi)
      have fin : ∀ z : Int, z = (if i ∈ ch then -1 else ((at0 r i : Nat) : Int)) → ∃ acc, H3 L = some (.lst acc) ∧ acc.length < sizeLine ∧ (Same H1 (upd H3 L (.lst (acc ++ [.int z]))) ∧ upd H3 L (.lst (acc ++ [.int z])) L = some (.lst (((splitRow r ch).take (i + 1)).map V.int))) := fun z ez => by
        refine ⟨_, s3 _ _ l2, by rw [List.length_map, List.length_take]; omega, same_put nL (same2 s2 s3), ?_⟩
        rw [upd_same, List.take_add_one, es, ez, List.map_append] <;> rfl
      refine ⟨Tt, _, rfl, .inl (.inl b3), rfl, _, _, rfl, _, _, rfl, rfl, rfl, ?_⟩
      refine ⟨_, rfl, _, rfl, D, _, rfl, DGet.k (k := ikey i) (s3 _ _ (s2 _ _ d1)), _, rfl, ?_⟩
      by_cases q : i ∈ ch
      · rw [valV_in ((mem_adds _ _ _).mpr (.inr q))]
        refine ⟨1, rfl, fin _ ?_⟩
        rw [if_pos q]
      · rw [valV_out (fun z => q (((mem_adds _ _ _).mp z).resolve_left List.not_mem_nil))]
        refine ⟨_, rfl, fin _ ?_⟩
        rw [if_neg q]
    · rintro H2 ⟨s2, l2⟩
      rw [nV_len, List.take_of_length_le (by rw [Msp.split_len]; exact Nat.le_refl _)] at l2
      exact hQ H2 L (same2 s1 s2) (s1.free nL) l2
end
end K03
set_option Elab.async false
set_option linter.all false
set_option maxRecDepth 100000
set_option maxHeartbeats 4000000
/-! K03: splits. -/
namespace K03
open PySem PySem.Spec PyProof.Rows L2 Ms Msp LamX
def SplitsOf (r : List Nat) (qs : List (List Nat)) : Prop := qs.Pairwise (· < ·) ∧ qs.Perm ((splitRows r).map ren)
def MergesOf (r : List Nat) (qs : List (List Nat)) : Prop := qs.Pairwise (· < ·) ∧ qs.Perm ((mergeRows r).map ren)
def spSplits (K : PySem.W.Frag) (Pt : Addr) : Sp := fun vs H Q _ => ∃ (p : Addr) (r : List Nat), vs = [.ref p] ∧ SightAt K H p r ∧ r.length ≤ 10 ∧ TabS H Pt qLam ∧
  ∀ H' t qs, ExtN H H' → TabS H' Pt qLam → SightsT K H' t qs → SplitsOf r qs → Q (.ref t) H'
/-- a list of lists of ints that still grows -/
def GrI (H : Hp) (D : Addr) (rs : List (List Int)) : Prop := ∃ ms : List Addr, H D = some (.lst (ms.map V.ref)) ∧ Paired (fun l (r : List Int) => l ≠ D ∧ H l = some (.lst (r.map V.int))) ms rs
theorem GrI.same {H H' : Hp} (s : Same H H') {D : Addr} {rs : List (List Int)} (h : GrI H D rs) : GrI H' D rs := by
  obtain ⟨ms, h1, h2⟩ := h
  exact ⟨ms, s _ _ h1, pimp (fun _ _ _ e => ⟨e.1, s _ _ e.2⟩) h2⟩
theorem GrI.rows {H : Hp} {D : Addr} {rs : List (List Int)} (h : GrI H D rs) : IRows H D rs := by
  obtain ⟨ms, h1, h2⟩ := h
  exact ⟨ms, h1, pimp (fun _ _ _ e => e.2) h2⟩
/-- all of H but what stands at D is as it was -/
def Same1 (D : Addr) (H H' : Hp) : Prop := ∀ b o, b ≠ D → H b = some o → H' b = some o
/-- choices: a list of tuples of deals -/
def ChAt (H : Hp) (q : Addr) (cs : List (List Nat)) : Prop := ∃ ls : List Addr, H q = some (.lst (ls.map V.ref)) ∧ Paired (fun l c => H l = some (.tup (nV c))) ls cs
theorem ChAt.same {H H' : Hp} (s : Same H H') {q : Addr} {cs : List (List Nat)} (h : ChAt H q cs) : ChAt H' q cs := by
  obtain ⟨ls, h1, h2⟩ := h
  exact ⟨ls, s _ _ h1, pimp (fun _ _ _ e => s _ _ e) h2⟩
theorem pa_starK {X : Cx} {e : Expr} {es : List Expr} {te : TE} {t : TA} {p : Pos} (K : PySem.W.Frag) (he : PE X e te) (hr : PA X es t) (hK : X.K = K := by rfl) (hs : starEach (.Starred e p :: es) X.env = (true, eval e X.env) :: starEach es X.env := by rfl) : PA X (.Starred e p :: es) (StX.tStar K te t) := by
  subst hK
  exact StX.pa_star he hr hs
theorem paired_app {α β : Type} {F : α → β → Prop} : ∀ {xs xs' : List α} {ys ys' : List β}, Paired F xs ys → Paired F xs' ys' → Paired F (xs ++ xs') (ys ++ ys')
  | _, _, _, _, .nil, h => h
  | _, _, _, _, .cons a t, h => .cons a (paired_app t h)
theorem paired_drop {α β : Type} {F : α → β → Prop} : ∀ {xs : List α} {ys : List β}, Paired F xs ys → Paired F (xs.drop 1) (ys.drop 1)
  | _, _, .nil => .nil
  | _, _, .cons _ t => t
theorem flat_few (r : List Nat) : ∀ l : List (List Nat), (∀ c ∈ l, c.length ≤ 10) → (l.flatMap fun cell => ((subs (cell.drop 1)).drop 1).map (splitRow r)).length ≤ l.length * 512
  | [], _ => Nat.le_refl _
  | c :: l, h => by
    have ih := flat_few r l fun x hx => h x (List.mem_cons_of_mem _ hx)
    have hc := h c List.mem_cons_self
    have : 2 ^ (c.drop 1).length ≤ 2 ^ 9 := Nat.pow_le_pow_right (by decide) (by rw [List.length_drop]; omega)
    have e9 : (2 : Nat) ^ 9 = 512 := by decide
    rw [List.flatMap_cons, List.length_append, List.length_map, List.length_drop, subs_len, List.length_cons]
    omega
theorem cells_few {r : List Nat} (h : Row r) (l : r.length ≤ 10) : (cellsOf r).length ≤ 10 ∧ ∀ c ∈ cellsOf r, c.length ≤ 10 := by
  refine ⟨?_, fun c hc => ?_⟩
  · rw [cells_row h, List.length_map, List.length_range]
    have := firsts_le r
    unfold nblk
    omega
  · obtain ⟨k, hk⟩ := List.getElem?_of_mem hc
    have hl := ltE hk
    rw [cells_row h] at hk hl
    rw [List.length_map, List.length_range] at hl
    rw [List.getElem?_map, List.getElem?_range hl] at hk
    have e : places k r = c := Option.some.inj hk
    rw [← e]
    have := List.length_filter_le (fun i => decide (r[i]? = some k)) (List.range r.length)
    rw [List.length_range] at this
    exact Nat.le_trans this l
theorem sIx1 {n : Nat} (h : 0 < n) : HT.sIx n 0 (some 1) = 1 := by
  unfold HT.sIx
  simp only
  rw [if_neg (by omega)]
  omega
theorem subs_short {l c : List Nat} (h : c ∈ subs l) : c.length ≤ l.length := by
  induction l using snoc_ind generalizing c with
  | h0 =>
    rw [subs_nil] at h
    rw [List.mem_singleton.mp h]
    exact Nat.le_refl _
  | hs l d ih =>
    rw [subs_snoc] at h
    rw [List.length_append, List.length_singleton]
    rcases List.mem_append.mp h with h | h
    · have := ih h; omega
    · obtain ⟨c', h', rfl⟩ := List.mem_map.mp h
      have := ih h'
      rw [List.length_append, List.length_singleton]; omega
theorem cell_ok {r : List Nat} (h : Row r) {k : Nat} {cell : List Nat} (e : (cellsOf r)[k]? = some cell) : 0 < cell.length ∧ cell.length ≤ r.length ∧ ∀ d ∈ cell, d < r.length := by
  rw [cells_row h] at e
  have hk := ltE e
  rw [List.length_map, List.length_range] at hk
  rw [List.getElem?_map, List.getElem?_range hk] at e
  have e : places k r = cell := Option.some.inj e
  subst e
  obtain ⟨d, t, e1, _⟩ := cell_cons ((mem_cnt h).mpr hk)
  refine ⟨by rw [e1]; exact Nat.succ_pos _, ?_, fun d hd => ltE (mem_places.mp hd)⟩
  have := List.length_filter_le (fun i => decide (r[i]? = some k)) (List.range r.length)
  rw [List.length_range] at this
  exact this
section
variable {P : Program} {w : World} {K : PySem.W.Frag} {mg : Str → Option Value} {base : Heap} {c Pt : Addr}
theorem ok_splits (T : Tx K mg) (B : TabO K mg base c Pt) : Ok P w K mg base "splits" 5 (spSplits K Pt) := by
  have O_split_off : Ok P w K mg base "split_off" 2 (spOff K) := ok_split_off T
  have O_in_order : Ok P w K mg base "in_order" 4 (spOrder K Pt) := ok_in_order T B
  obtain ⟨fdP, psP, FP, bP⟩ := fn_cells (P := P) (w := w) (base := base) T
  refine ok_of T.a_splits scsplits (fun vs H Q E h => ?_) bi_splits fun cdv A outer s H vs Q E hr h => ?_
  · obtain ⟨p, r, rfl, _⟩ := h
    rfl
  obtain ⟨p, r, rfl, hp, lr, hT, hQ⟩ := h
  have big : 4000000 ≤ sizeLine := by decide
  refine ⟨_, (pss_cons (ps_set (i := 1) scsplits.nd rfl (by first | exact Or.inl rfl | exact Or.inr rfl) (pe_lst pa_nil))
  (pss_cons (ps_for PassesOwn.never rfl (pi_tup (pe_prop (pv 0) T.c_Sight T.p_cells FP (hr.mono (by decide)) bP .nil passF (by rfl))) (pg_name (i := 2) scsplits.nd rfl (by first | exact Or.inl rfl | exact Or.inr rfl))
  (pss_cons (ps_set (i := 3) scsplits.nd rfl (by first | exact Or.inl rfl | exact Or.inr rfl) (pe_lst (pa_cons (pe_tup pa_nil) pa_nil)))
    (pss_cons (ps_for PassesOwn.never rfl (pi_tup (pe_slice sl_tup (pv 2) (po_some pe_int) po_none)) (pg_name (i := 4) scsplits.nd rfl (by first | exact Or.inl rfl | exact Or.inr rfl))
    (pss_one (ps_set (i := 3) scsplits.nd rfl (by first | exact Or.inl rfl | exact Or.inr rfl) (pe_op op_cat (pv 3) (pe_lc (own := [("choice", 5)]) (g := gName 5) rfl scsplits.nd (pi_list (pv 3)) (blkOk_by (N := ["sight", "rows", "cell", "choices", "deal", "choice"]) (sc := defScope ssplits) (by decide +kernel)) (fun _ _ _ _ _ => (pg_name (i := 5) scsplits.nd rfl (by first | exact Or.inl rfl | exact Or.inr rfl))) (fun _ _ _ _ _ => pts_nil) (fun _ _ _ _ _ => (pe_tup (pa_starK K (pv 5) (pa_cons (pv 4) pa_nil)))))))))
    (pss_one (ps_expr (pe_bm PySem.F.plainAttrs_list PySem.F.slot_list_extend PySem.F.type_list_extend mt_extend (pv 1) (pa_cons (pe_lc (own := [("choice", 5)]) (g := gName 5) rfl scsplits.nd (pi_list (pe_slice sl_list (pv 3) (po_some pe_int) po_none)) (blkOk_by (N := ["sight", "rows", "cell", "choices", "deal", "choice"]) (sc := defScope ssplits) (by decide +kernel)) (fun _ _ _ _ _ => (pg_name (i := 5) scsplits.nd rfl (by first | exact Or.inl rfl | exact Or.inr rfl))) (fun _ _ _ _ _ => pts_nil) (fun _ _ _ _ _ => (pe_c (E := EN) O_split_off hr (by decide) (fun σ => passN σ) (pa_cons (pe_fldK K (pv 0)) (pa_cons (pv 5) pa_nil))))) pa_nil)))))))
  (pss_one (ps_ret (pe_c (E := EN) O_in_order hr (by decide) (fun σ => passN σ) (pa_cons (pv 1) pa_nil)))))), ?_⟩
  refine ⟨by show 0 ≤ sizeLine; omega, fun D nD => ?_⟩
  have sD := same_new (o := .lst []) nD
  have bD : upd H D (.lst []) D = some (.lst []) := upd_same ..
  generalize upd H D (.lst []) = H1 at sD bD
  have hp1 := hp.same sD
  obtain ⟨dx, t, c', e1, e2, e3⟩ := hp1.ex
  refine ⟨_, rfl, p, dx, _, rfl, e1, p, r, rfl, hp1, fun cl hcl => ?_⟩
  obtain ⟨ts, g1, g2⟩ := hcl
  refine ⟨cl, rfl, ⟨_, .inl (.inl g1)⟩, ?_⟩
  refine for_it (walk_tup (K := K) (a := cl) (xs := ts.map V.ref)) (fun k σ H' => Same H H' ∧ Same1 D H1 H' ∧ GrI H' D (((cellsOf r).take k).flatMap fun cell => ((subs (cell.drop 1)).drop 1).map (splitRow r)) ∧ ∃ x2 x3 x4 x5, σ = [some (.ref p), some (.ref D), x2, x3, x4, x5]) ?_ ?_ ?_ ?_
  · exact ⟨sD, fun _ _ _ e => e, ⟨[], bD, .nil⟩, _, _, _, _, rfl⟩
  · rintro k σ H2 _ ⟨_, o2, _⟩
    exact .inl (.inl (o2 _ _ (fun z => by rw [z, bD] at g1; cases g1) g1))
  · rintro k x σ _ H2 hk ⟨s2, o2, d2, x2, x3, x4, x5, rfl⟩ ⟨rfl, ex⟩
    rw [List.length_map] at hk
    obtain ⟨tc, cell, q1, q2, q3⟩ := pget2 g2 hk
    have hx : x = .ref tc := by
      have ex : (ts.map V.ref)[k]? = some x := ex
      rw [List.getElem?_map, q1] at ex
      exact (Option.some.inj ex).symm
    subst hx
    have up : ∀ {b xs}, H1 b = some (.tup xs) → H2 b = some (.tup xs) := fun {b xs} e => o2 b _ (fun z => by rw [z, bD] at e; cases e) e
    have c2 := up q3
    have p2 : SightAt K H2 p r := hp1.by_ (fun b C dx fs e => o2 b _ (fun z => by rw [z, bD] at e; cases e) e) fun b xs e => up e
    obtain ⟨cell0, lcell, ltc⟩ := cell_ok hp.row q2
    have l9 : (cell.drop 1).length ≤ 9 := by rw [List.length_drop]; omega
    refine r_mid (fun σ H3 => Same H2 H3 ∧ ∃ q, σ = [some (.ref p), some (.ref D), some (.ref tc), some (.ref q), x4, x5] ∧ ChAt H3 q [[]]) (fun D1 hn _ => ?_) ?_
    · refine ⟨by show 0 ≤ sizeLine; omega, fun p3 n3 => ⟨by show 1 ≤ sizeLine; omega, fun p4 n4 => ?_⟩⟩
      have s3 := same_new (o := .tup []) n3
      have b3 : upd H2 p3 (.tup []) p3 = some (.tup []) := upd_same ..
      generalize upd H2 p3 (.tup []) = H3 at s3 b3 n4
      have s4 := same_new (o := .lst [V.ref p3]) n4
      exact hn _ _ ⟨same2 s3 s4, p4, rfl, [p3], upd_same .., .cons (s4 _ _ b3) .nil⟩
    rintro σ H3 ⟨s3, q, rfl, hq3⟩
    refine r_mid (fun σ H4 => Same H3 H4 ∧ ∃ q x4, σ = [some (.ref p), some (.ref D), some (.ref tc), some (.ref q), x4, x5] ∧ ChAt H4 q (subs (cell.drop 1))) (fun D1 hn _ => ?_) ?_
    · refine ⟨_, rfl, _, rfl, tc, _, rfl, .inl (.inl (s3 _ _ c2)), ?_⟩
      refine ⟨fun z => ?_, fun p5 n5 => ?_⟩
      · have := z.1
        rw [nV_len, sIx1 cell0] at this
        omega
      rw [show cutV (nV cell) (some 1) none = nV (cell.drop 1) from (cut_from2 (nV cell) (n := 1)).trans nV_drop]
      have s5 := same_new (o := .tup (nV (cell.drop 1))) n5
      have b5 : upd H3 p5 (.tup (nV (cell.drop 1))) p5 = some (.tup (nV (cell.drop 1))) := upd_same ..
      generalize upd H3 p5 (.tup (nV (cell.drop 1))) = H5 at s5 b5
      refine ⟨p5, rfl, ⟨_, .inl (.inl b5)⟩, ?_⟩
      have hq5 := hq3.same s5
      refine for_it (walk_tup (K := K) (a := p5) (xs := nV (cell.drop 1))) (fun j σ H' => Same H5 H' ∧ ∃ q x4, σ = [some (.ref p), some (.ref D), some (.ref tc), some (.ref q), x4, x5] ∧ ChAt H' q (subs ((cell.drop 1).take j))) ⟨same_rfl, q, _, rfl, hq5⟩ (fun j σ H' _ h => .inl (.inl (h.1 _ _ b5))) ?_ ?_
      · rintro j x σ _ H6 hj ⟨s6, q, x4, rfl, hq6⟩ ⟨rfl, ex⟩
        rw [nV_len] at hj
        have hx : x = .int (at0 (cell.drop 1) j : Nat) := by
          have ex : (nV (cell.drop 1))[j]? = some x := ex
          rw [nV_at0 hj] at ex
          exact (Option.some.inj ex).symm
        subst hx
        have few : (subs ((cell.drop 1).take j)).length ≤ 512 := by
          rw [subs_len]
          have : 2 ^ ((cell.drop 1).take j).length ≤ 2 ^ 9 := Nat.pow_le_pow_right (by decide) (by rw [List.length_take]; omega)
          exact this
        obtain ⟨ls, g3, g4⟩ := hq6
        have ll := Paired.length g4
        refine ⟨_, rfl, _, rfl, q, rfl, ⟨_, .inl (.inl g3)⟩, fun E nE => ?_⟩
        refine lc_it (walk_list (K := K) (a := q) (xs := ls.map V.ref)) (fun i H' => Same H6 H' ∧ ∃ es : List Addr, H' E = some (.lst (es.map V.ref)) ∧ Paired (fun l c => H' l = some (.tup (nV c))) es (((subs ((cell.drop 1).take j)).take i).map (· ++ [at0 (cell.drop 1) j]))) ⟨same_new nE, [], upd_same .., .nil⟩ (fun i H' _ h => .inl (.inl (h.1 _ _ g3))) ?_ ?_
        · rintro i x _ H7 hi ⟨s7, es, u1, u2⟩ ⟨rfl, ex⟩
          rw [List.length_map] at hi
          obtain ⟨l, ch, v1, v2, v3⟩ := pget2 g4 hi
          have hx : x = .ref l := by
            have ex : (ls.map V.ref)[i]? = some x := ex
            rw [List.getElem?_map, v1] at ex
            exact (Option.some.inj ex).symm
          subst hx
          have le : es.length = i := by
            have := Paired.length u2
            rw [List.length_map, List.length_take] at this
            omega
          have lch : ch.length ≤ 10 := by
            have := subs_short (List.mem_of_getElem? v2)
            rw [List.length_take] at this
            omega
          refine ⟨rfl, _, rfl, l, _, rfl, .inl (.inl (.inl (s7 _ _ v3))), _, rfl, by rw [List.length_append, nV_len]; show _ + 1 ≤ _; omega, fun p8 n8 => ?_⟩
          dsimp only
          rw [show nV ch ++ [V.int (at0 (cell.drop 1) j : Nat)] = nV (ch ++ [at0 (cell.drop 1) j]) from by unfold nV; rw [List.map_append] <;> rfl]
          have s8 := same_new (o := .tup (nV (ch ++ [at0 (cell.drop 1) j]))) n8
          have b8 : upd H7 p8 (.tup (nV (ch ++ [at0 (cell.drop 1) j]))) p8 = some (.tup (nV (ch ++ [at0 (cell.drop 1) j]))) := upd_same ..
          generalize upd H7 p8 (.tup (nV (ch ++ [at0 (cell.drop 1) j]))) = H8 at s8 b8
          have u1 := s8 _ _ u1
          refine ⟨_, u1, by rw [List.length_map]; omega, same_put nE (same2 s7 s8), es ++ [p8], by rw [upd_same, List.map_append] <;> rfl, ?_⟩
          have keep : ∀ {b xs}, H8 b = some (.tup xs) → ∀ o, upd H8 E (.lst o) b = some (.tup xs) := fun {b xs} e o => by rw [upd_ne (fun z => by rw [z, u1] at e; cases e)]; exact e
          rw [List.take_add_one, v2, List.map_append]
          exact psnoc (pimp (fun _ _ _ z => keep (s8 _ _ z) _) u2) (keep b8 _)
        · rintro H7 ⟨s7, es, u1, u2⟩
          rw [List.length_map, List.take_of_length_le (by omega)] at u2
          have le : es.length = ls.length := by
            have := Paired.length u2
            rw [List.length_map] at this
            omega
          refine ⟨q, E, _, _, rfl, rfl, s7 _ _ g3, u1, by rw [List.length_map, List.length_map]; omega, fun p8 n8 => ?_⟩
          rw [← List.map_append]
          have s8 := same_new (o := .lst ((ls ++ es).map V.ref)) n8
          have b8 : upd H7 p8 (.lst ((ls ++ es).map V.ref)) p8 = some (.lst ((ls ++ es).map V.ref)) := upd_same ..
          generalize upd H7 p8 (.lst ((ls ++ es).map V.ref)) = H8 at s8 b8
          refine ⟨same2 s6 (same2 s7 s8), p8, _, rfl, ls ++ es, b8, ?_⟩
          rw [List.take_add_one, of_at0 hj]
          show Paired _ _ (subs ((cell.drop 1).take j ++ [at0 (cell.drop 1) j]))
          rw [subs_snoc]
          exact paired_app (pimp (fun _ _ _ z => s8 _ _ (s7 _ _ z)) g4) (pimp (fun _ _ _ z => s8 _ _ z) u2)
      · rintro σ H6 ⟨s6, q, x4, rfl, hq6⟩
        rw [nV_len, List.take_length] at hq6
        exact hn _ _ ⟨same2 s5 s6, q, _, rfl, hq6⟩
    rintro σ H4 ⟨s4, q, x4, rfl, hq4⟩
    obtain ⟨ls, g3, g4⟩ := hq4
    have ll := Paired.length g4
    rw [subs_len] at ll
    have few : 2 ^ (cell.drop 1).length ≤ 2 ^ 9 := Nat.pow_le_pow_right (by decide) l9
    have e9 : (2 : Nat) ^ 9 = 512 := by decide
    have s24 := same2 s3 s4
    have p4 := p2.same s24
    have d4 := d2.same s24
    refine ⟨_, rfl, .inl ⟨rfl, ?_⟩, ?_⟩
    · obtain ⟨ms, m1, _⟩ := d4
      exact ⟨_, .inl (.inl m1)⟩
    refine ⟨_, rfl, _, rfl, q, _, rfl, .inl (.inl g3), fun p5 n5 => ?_⟩
    rw [show cutV (ls.map V.ref) (some 1) none = (ls.drop 1).map V.ref from (cut_from2 (ls.map V.ref) (n := 1)).trans List.map_drop.symm]
    have s5 := same_new (o := .lst ((ls.drop 1).map V.ref)) n5
    have b5 : upd H4 p5 (.lst ((ls.drop 1).map V.ref)) p5 = some (.lst ((ls.drop 1).map V.ref)) := upd_same ..
    generalize upd H4 p5 (.lst ((ls.drop 1).map V.ref)) = H5 at s5 b5
    have g5 := paired_drop (pimp (fun _ _ _ z => s5 _ _ z) g4)
    have l5 := Paired.length g5
    have l5' : (ls.drop 1).length ≤ 512 := by rw [List.length_drop]; omega
    have p5' := p4.same s5
    have d5 := d4.same s5
    refine ⟨p5, rfl, ⟨_, .inl (.inl b5)⟩, fun E nE => ?_⟩
    refine lc_it (walk_list (K := K) (a := p5) (xs := (ls.drop 1).map V.ref)) (fun i H' => Same H5 H' ∧ ∃ es : List Addr, H' E = some (.lst (es.map V.ref)) ∧ Paired (fun l (x : List Int) => l ≠ E ∧ l ≠ D ∧ H' l = some (.lst (x.map V.int))) es ((((subs (cell.drop 1)).drop 1).take i).map (splitRow r))) ⟨same_new nE, [], upd_same .., .nil⟩ (fun i H' _ h => .inl (.inl (h.1 _ _ b5))) ?_ ?_
    · rintro i x _ H7 hi ⟨s7, es, u1, u2⟩ ⟨rfl, ex⟩
      rw [List.length_map] at hi
      obtain ⟨l, ch, v1, v2, v3⟩ := pget2 g5 hi
      have hx : x = .ref l := by
        have ex : ((ls.drop 1).map V.ref)[i]? = some x := ex
        rw [List.getElem?_map, v1] at ex
        exact (Option.some.inj ex).symm
      subst hx
      have le : es.length = i := by
        have := Paired.length u2
        rw [List.length_map, List.length_take] at this
        omega
      have lch : ch.length ≤ 10 := by
        have := subs_short (List.mem_of_mem_drop (List.mem_of_getElem? v2))
        omega
      obtain ⟨dx, t', c', f1, f2, f3⟩ := (p5'.same s7).ex
      obtain ⟨ms, m1, _⟩ := id d5
      refine ⟨rfl, _, rfl, p, _, dx, _, _, rfl, f1, T.c_Sight, T.n_marks, rfl, _, rfl, t', l, r, ch, rfl, f2, s7 _ _ v3, by omega, by omega, fun H8 p8 s8 n8 b8 => ?_⟩
      have nE8 : p8 ≠ E := fun z => by rw [z, u1] at n8; cases n8
      have nD8 : p8 ≠ D := fun z => by rw [z, s7 _ _ m1] at n8; cases n8
      refine ⟨_, s8 _ _ u1, by rw [List.length_map]; omega, same_put nE (same2 s7 s8), es ++ [p8], by rw [upd_same, List.map_append] <;> rfl, ?_⟩
      rw [List.take_add_one, v2, List.map_append]
      exact psnoc (pimp (fun _ _ _ z => ⟨z.1, z.2.1, by rw [upd_ne z.1]; exact s8 _ _ z.2.2⟩) u2) ⟨nE8, nD8, by rw [upd_ne nE8]; exact b8⟩
    · rintro H7 ⟨s7, es, u1, u2⟩
      rw [List.length_map, List.take_of_length_le (by omega)] at u2
      have le := Paired.length u2
      rw [List.length_map] at le
      obtain ⟨ms, m1, m2⟩ := d5.same s7
      have lm := Paired.length m2
      have big2 : ms.length ≤ 100000 := by
        rw [lm]
        obtain ⟨f1, f2⟩ := cells_few hp.row lr
        have := flat_few r ((cellsOf r).take k) fun c hc => f2 c (List.mem_of_mem_take hc)
        rw [List.length_take] at this
        have : min k (cellsOf r).length * 512 ≤ 10 * 512 := Nat.mul_le_mul_right _ (by omega)
        omega
      refine ⟨D, E, _, _, rfl, rfl, m1, u1, by rw [List.length_map, List.length_map]; omega, ?_⟩
      rw [← List.map_append]
      have sAll : Same H2 H7 := same2 s24 (same2 s5 s7)
      refine ⟨same_put nD (same2 s2 sAll), fun b o hb e => by rw [upd_ne hb]; exact sAll _ _ (o2 _ _ hb e), ⟨ms ++ es, upd_same .., ?_⟩, _, _, _, _, rfl⟩
      rw [List.take_add_one, q2, List.flatMap_append]
      refine paired_app (pimp (fun _ _ _ z => ⟨z.1, by rw [upd_ne z.1]; exact z.2⟩) m2) ?_
      show Paired _ es (((subs (cell.drop 1)).drop 1).map (splitRow r) ++ [])
      rw [List.append_nil]
      exact pimp (fun _ _ _ z => ⟨z.2.1, by rw [upd_ne z.2.1]; exact z.2.2⟩) u2
  · rintro σ H2 ⟨s2, o2, d2, x2, x3, x4, x5, rfl⟩
    have lts : ts.length = (cellsOf r).length := Paired.length g2
    rw [List.length_map, List.take_of_length_le (by omega)] at d2
    refine ⟨_, rfl, D, splitRows r, rfl, d2.rows, ?_, fun x hx => ?_, hT.ext s2, fun H' t qs x' hT' hS hp' hw => ?_⟩
    · obtain ⟨f1, f2⟩ := cells_few hp.row lr
      have g1 := flat_few r (cellsOf r) f2
      have g2 : (cellsOf r).length * 512 ≤ 10 * 512 := Nat.mul_le_mul_right _ f1
      unfold splitRows
      exact Nat.le_trans g1 (Nat.le_trans g2 (by decide))
    · obtain ⟨cell, h1, h2⟩ := List.mem_flatMap.mp hx
      obtain ⟨ch, _, rfl⟩ := List.mem_map.mp h2
      rw [Msp.split_len]
      exact ⟨hp.pos, by omega⟩
    · exact hQ H' t qs ((ExtN.of s2).trans x') hT' hS ⟨rise_of hw (hp'.nodup_iff.mpr (split_nodup hp.row)), hp'⟩
end
end K03
set_option Elab.async false
set_option linter.all false
set_option maxRecDepth 100000
set_option maxHeartbeats 4000000
/-! K03: merges. -/
namespace K03
open PySem PySem.Spec PyProof.Rows L2 Ms Msp LamX
def spMerges (K : PySem.W.Frag) (Pt : Addr) : Sp := fun vs H Q _ => ∃ (p : Addr) (r : List Nat), vs = [.ref p] ∧ SightAt K H p r ∧ r.length ≤ 10 ∧ TabS H Pt qLam ∧
  ∀ H' t qs, ExtN H H' → TabS H' Pt qLam → SightsT K H' t qs → MergesOf r qs → Q (.ref t) H'
theorem merge_len (r : List Nat) (lo hi : Nat) : (mergeRow r lo hi).length = r.length := by unfold mergeRow; rw [List.length_map]
/-- the merged rows up to one of the highs -/
def mgs (r : List Nat) (hi : Nat) : List (List Int) := (List.range hi).flatMap fun h => (List.range h).map fun lo => cI (mergeRow r lo h)
theorem mgs_succ (r : List Nat) (hi : Nat) : mgs r (hi + 1) = mgs r hi ++ (List.range hi).map fun lo => cI (mergeRow r lo hi) := by
  unfold mgs
  rw [List.range_succ, List.flatMap_append]
  show _ ++ (_ ++ []) = _
  rw [List.append_nil]
theorem mgs_len (r : List Nat) : ∀ hi, hi ≤ 10 → (mgs r hi).length ≤ 10 * hi
  | 0, _ => Nat.zero_le _
  | hi + 1, h => by
    have := mgs_len r hi (by omega)
    rw [mgs_succ, List.length_append, List.length_map, List.length_range]
    omega
theorem ren_cI (l : List Nat) : ren (cI l) = ren l := by
  exact ren_map fun a b e => by omega
theorem mgs_all (r : List Nat) : (mgs r (nblk r)).map ren = (mergeRows r).map ren := by
  unfold mgs mergeRows
  rw [List.map_flatMap, List.map_flatMap]
  refine congrArg (fun f => (List.range (nblk r)).flatMap f) (funext fun h => ?_)
  rw [List.map_map, List.map_map]
  exact congrArg (fun f => (List.range h).map f) (funext fun lo => ren_cI _)
theorem GrI.push {H : Hp} {D p : Addr} {rs : List (List Int)} {r : List Int} (h : GrI H D rs) (hp : H p = some (.lst (r.map V.int))) (ne : p ≠ D) : ∃ ys, H D = some (.lst ys) ∧ ys.length = rs.length ∧ GrI (upd H D (.lst (ys ++ [.ref p]))) D (rs ++ [r]) := by
  obtain ⟨ms, h1, h2⟩ := h
  refine ⟨_, h1, by rw [List.length_map]; exact Paired.length h2, ms ++ [p], ?_, ?_⟩
  · rw [upd_same, List.map_append] <;> rfl
  · exact psnoc (pimp (fun _ _ _ e => ⟨e.1, by rw [upd_ne e.1]; exact e.2⟩) h2) ⟨ne, by rw [upd_ne ne]; exact hp⟩
theorem nblk_few (r : List Nat) : nblk r ≤ r.length := firsts_le r
theorem cells_cnt {r : List Nat} (h : Row r) : (cellsOf r).length = nblk r := by
  rw [cells_row h, List.length_map, List.length_range]
section
variable {P : Program} {w : World} {K : PySem.W.Frag} {mg : Str → Option Value} {base : Heap} {c Pt : Addr}
theorem ok_merges (T : Tx K mg) (B : TabO K mg base c Pt) : Ok P w K mg base "merges" 5 (spMerges K Pt) := by
  have O_in_order : Ok P w K mg base "in_order" 4 (spOrder K Pt) := ok_in_order T B
  obtain ⟨fdP, psP, FP, bP⟩ := fn_cells (P := P) (w := w) (base := base) T
  refine ok_of T.a_merges scmerges (fun vs H Q E h => ?_) bi_merges fun cdv A outer s H vs Q E hr h => ?_
  · obtain ⟨p, r, rfl, _⟩ := h
    rfl
  obtain ⟨p, r, rfl, hp, lr, hT, hQ⟩ := h
  have big : 4000000 ≤ sizeLine := by decide
  have nb := nblk_few r
  refine ⟨_, (pss_cons (ps_set (i := 1) scmerges.nd rfl (by first | exact Or.inl rfl | exact Or.inr rfl) (pe_callB (lenK K) (by rfl) T.f_len boot_len (pa_cons (pe_prop (pv 0) T.c_Sight T.p_cells FP (hr.mono (by decide)) bP .nil passF (by rfl)) pa_nil)))
  (pss_cons (ps_set (i := 2) scmerges.nd rfl (by first | exact Or.inl rfl | exact Or.inr rfl) (pe_lst pa_nil))
  (pss_cons (ps_for PassesOwn.never rfl (pi_range1 rfl T.f_range (pa_cons (pv 1) pa_nil)) (pg_name (i := 3) scmerges.nd rfl (by first | exact Or.inl rfl | exact Or.inr rfl))
  (pss_one (ps_for PassesOwn.never rfl (pi_range1 rfl T.f_range (pa_cons (pv 3) pa_nil)) (pg_name (i := 4) scmerges.nd rfl (by first | exact Or.inl rfl | exact Or.inr rfl))
    (pss_one (ps_expr (pe_bm PySem.F.plainAttrs_list PySem.F.slot_list_append PySem.F.type_list_append mt_append (pv 2) (pa_cons (pe_lc (own := [("mark", 5)]) (g := gName 5) rfl scmerges.nd (pi_tup (pe_fld (pv 0) rfl)) (blkOk_by (N := ["sight", "count", "rows", "high", "low", "mark"]) (sc := defScope smerges) (by decide +kernel)) (fun _ _ _ _ _ => (pg_name (i := 5) scmerges.nd rfl (by first | exact Or.inl rfl | exact Or.inr rfl))) (fun _ _ _ _ _ => pts_nil) (fun _ _ _ _ _ => (pe_ifExp (pt_cmpR op_eq (pv 5) (pv 3) (nomark _)) (pv 4) (pv 5)))) pa_nil)))))))
  (pss_one (ps_ret (pe_c (E := EN) O_in_order hr (by decide) (fun σ => passN σ) (pa_cons (pv 2) pa_nil))))))), ?_⟩
  obtain ⟨dx, t, c', e1, e2, e3⟩ := hp.ex
  refine ⟨_, rfl, p, dx, _, rfl, e1, p, r, rfl, hp, fun cl hcl => ?_⟩
  obtain ⟨ts, g1, g2⟩ := hcl
  have lts : ts.length = nblk r := by rw [Paired.length g2, cells_cnt hp.row]
  refine ⟨cl, _, rfl, .inr (.inl (.inl g1)), ?_⟩
  rw [List.length_map, lts]
  refine ⟨by show 0 ≤ sizeLine; omega, fun D nD => ?_⟩
  have sD := same_new (o := .lst []) nD
  have bD : upd H D (.lst []) D = some (.lst []) := upd_same ..
  generalize upd H D (.lst []) = H1 at sD bD
  refine ⟨_, rfl, _, rfl, by omega, by omega, ?_⟩
  have hk : ((nblk r : Nat) : Int).toNat = nblk r := by omega
  rw [hk]
  refine for_it walk_range (fun i σ H' => Same H H' ∧ GrI H' D (mgs r i) ∧ ∃ x4 x5 x6, σ = [some (.ref p), some (.int (nblk r : Nat)), some (.ref D), x4, x5, x6]) ?_ (fun _ _ _ _ _ => trivial) ?_ ?_
  · exact ⟨sD, ⟨[], bD, .nil⟩, _, _, _, rfl⟩
  · rintro i x σ _ H3 hi ⟨s3, d3, x4, x5, x6, rfl⟩ ⟨rfl, rfl⟩
    refine ⟨_, rfl, _, rfl, by omega, by omega, ?_⟩
    have hk2 : (0 + ((i : Nat) : Int)).toNat = i := by omega
    rw [hk2]
    refine for_it walk_range (fun j σ H' => Same H H' ∧ GrI H' D (mgs r i ++ ((List.range j).map fun lo => cI (mergeRow r lo i))) ∧ ∃ x5 x6, σ = [some (.ref p), some (.int (nblk r : Nat)), some (.ref D), some (.int (0 + (i : Nat))), x5, x6]) ?_ (fun _ _ _ _ _ => trivial) ?_ ?_
    · refine ⟨s3, ?_, _, _, rfl⟩
      rw [List.range_zero, List.map_nil, List.append_nil]
      exact d3
    · rintro j x σ _ H5 hj ⟨s5, d5, x5, x6, rfl⟩ ⟨rfl, rfl⟩
      dsimp only
      obtain ⟨ms, m1, _⟩ := id d5
      obtain ⟨dx, t', c', f1, f2, f3⟩ := (hp.same s5).ex
      refine ⟨_, rfl, .inl ⟨rfl, _, .inl (.inl m1)⟩, ?_⟩
      refine ⟨_, rfl, p, _, dx, _, _, rfl, f1, T.c_Sight, T.n_marks, rfl, t', rfl, ⟨_, .inl (.inl f2)⟩, fun E nE => ?_⟩
      refine lc_it (walk_tup (K := K) (a := t') (xs := nV r)) (fun k H' => Same H5 H' ∧ H' E = some (.lst (((cI (mergeRow r j i)).take k).map V.int))) ⟨same_new nE, upd_same ..⟩ (fun k H' _ h => .inl (.inl (h.1 _ _ f2))) ?_ ?_
      · rintro k x _ H7 hk7 ⟨s7, u1⟩ ⟨rfl, ex⟩
        rw [nV_len] at hk7
        have hx : x = .int (at0 r k : Nat) := by
          have ex : (nV r)[k]? = some x := ex
          rw [nV_at0 hk7] at ex
          exact (Option.some.inj ex).symm
        subst hx
        have lm : (cI (mergeRow r j i)).length = r.length := by unfold cI; rw [List.length_map, merge_len]
        have em : (cI (mergeRow r j i))[k]? = some (((if at0 r k = i then j else at0 r k : Nat)) : Int) := by
          unfold cI
          rw [List.getElem?_map, merge_get (of_at0 hk7)] <;> rfl
        have fin : ∀ z : Int, z = ((if at0 r k = i then j else at0 r k : Nat) : Int) → ∃ acc, H7 E = some (.lst acc) ∧ acc.length < sizeLine ∧ (Same H5 (upd H7 E (.lst (acc ++ [.int z]))) ∧ upd H7 E (.lst (acc ++ [.int z])) E = some (.lst (((cI (mergeRow r j i)).take (k + 1)).map V.int))) := fun z ez => by
          refine ⟨_, u1, by rw [List.length_map, List.length_take]; omega, same_put nE s7, ?_⟩
          rw [upd_same, List.take_add_one, em, ez, List.map_append] <;> rfl
        refine ⟨rfl, _, rfl, _, rfl, rfl, ?_⟩
        by_cases q : at0 r k = i
        · rw [decide_eq_true (show V.int (at0 r k : Nat) = V.int (0 + (i : Nat)) by rw [q, Int.zero_add])]
          refine ⟨true, rfl, iteT ⟨_, rfl, fin _ ?_⟩⟩
          rw [if_pos q]; omega
        · rw [decide_eq_false (show ¬ V.int (at0 r k : Nat) = V.int (0 + (i : Nat)) from fun z => q (by have := V.int.inj z; omega))]
          refine ⟨false, rfl, iteF ⟨_, rfl, fin _ ?_⟩⟩
          rw [if_neg q]
      · rintro H7 ⟨s7, u1⟩
        have lm : (cI (mergeRow r j i)).length = r.length := by unfold cI; rw [List.length_map, merge_len]
        rw [nV_len, List.take_of_length_le (by rw [lm]; exact Nat.le_refl _)] at u1
        have d7 := d5.same s7
        have nD7 : E ≠ D := fun z => by rw [z, m1] at nE; cases nE
        obtain ⟨ys, y1, y2, y3⟩ := d7.push u1 nD7
        have lb : (mgs r i ++ ((List.range j).map fun lo => cI (mergeRow r lo i))).length ≤ 10 * i + j := by
          have := mgs_len r i (by omega)
          rw [List.length_append, List.length_map, List.length_range]
          omega
        refine ⟨D, ys, _, rfl, rfl, y1, by omega, ?_⟩
        refine ⟨same_put nD (same2 s5 s7), ?_, _, _, rfl⟩
        rw [List.range_succ, List.map_append, ← List.append_assoc]
        exact y3
    · rintro σ H5 ⟨s5, d5, x5, x6, rfl⟩
      exact ⟨s5, by rw [mgs_succ]; exact d5, _, _, _, rfl⟩
  · rintro σ H3 ⟨s3, d3, x4, x5, x6, rfl⟩
    refine ⟨_, rfl, D, mgs r (nblk r), rfl, d3.rows, ?_, fun x hx => ?_, hT.ext s3, fun H' t qs x' hT' hS hp' hw => ?_⟩
    · have := mgs_len r (nblk r) (by omega)
      omega
    · unfold mgs at hx
      obtain ⟨hh, h1, h2⟩ := List.mem_flatMap.mp hx
      obtain ⟨lo, _, rfl⟩ := List.mem_map.mp h2
      have e : (cI (mergeRow r lo hh)).length = r.length := by unfold cI; rw [List.length_map, merge_len]
      rw [e]
      exact ⟨hp.pos, by omega⟩
    · rw [mgs_all] at hp'
      exact hQ H' t qs ((ExtN.of s3).trans x') hT' hS ⟨rise_of hw (hp'.nodup_iff.mpr (merge_nodup hp.row)), hp'⟩
end
end K03
set_option Elab.async false
set_option linter.all false
set_option maxRecDepth 100000
set_option maxHeartbeats 4000000
/-! K03: _law_tells. -/
namespace K03
open PySem PySem.Spec PyProof.Rows L2 Ms Msp LamX
def spTells (K : PySem.W.Frag) : Sp := fun vs H Q _ => ∃ (a b : Addr) (r t : List Nat), vs = [.ref a, .ref b] ∧ NL H a r ∧ NL H b t ∧ r.length = t.length ∧ r.length ≤ 60 ∧ ∀ z : Bool, (z = true ↔ Tell r t) → Q (.bl z) H
def LoT (r t : List Nat) (k : Nat) : Prop := ∀ a b, a < b → b < k → at0 r a = at0 r b → at0 t a = at0 t b
theorem lot_tell {r t : List Nat} (e : r.length = t.length) (h : LoT r t r.length) : Tell r t := fun i j a c d h1 h2 h3 h4 => by
  have li := ltE h1
  have lj := ltE h2
  have g1 := of_at0 li
  have g2 := of_at0 lj
  have g3 := of_at0 (l := t) (i := i) (by omega)
  have g4 := of_at0 (l := t) (i := j) (by omega)
  rw [h1] at g1; rw [h2] at g2; rw [h3] at g3; rw [h4] at g4
  have g1 := Option.some.inj g1
  have g2 := Option.some.inj g2
  have g3 := Option.some.inj g3
  have g4 := Option.some.inj g4
  rw [g3, g4]
  rcases Nat.lt_trichotomy i j with q | q | q
  · exact h i j q lj (by rw [← g1, ← g2])
  · rw [q]
  · exact (h j i q li (by rw [← g1, ← g2])).symm
theorem not_tell {r t : List Nat} {j k : Nat} (hj : j < r.length) (hk : k < r.length) (e : r.length = t.length) (h1 : at0 r j = at0 r k) (h2 : at0 t j ≠ at0 t k) : ¬ Tell r t := fun h => h2 (h j k _ _ _ (of_at0 hj) (h1 ▸ of_at0 hk) (of_at0 (by omega)) (of_at0 (by omega)))
theorem LoT.zero {r t : List Nat} : LoT r t 0 := fun _ _ _ h => absurd h (Nat.not_lt_zero _)
theorem LoT.step {r t : List Nat} {k : Nat} (h : LoT r t k) (g : ∀ j, j < k → at0 r j = at0 r k → at0 t j = at0 t k) : LoT r t (k + 1) := fun a b h1 h2 h3 => by
  by_cases q : b = k
  · subst q
    exact g a h1 h3
  · exact h a b h1 (by omega) h3
section
variable {P : Program} {w : World} {K : PySem.W.Frag} {mg : Str → Option Value} {base : Heap}
theorem ok__law_tells (T : Tx K mg) : Ok P w K mg base "_law_tells" 1 (spTells K) := by
  refine ok_of T.a__law_tells sc_law_tells (fun vs H Q E h => ?_) bi__law_tells fun cdv A outer s H vs Q E hr h => ?_
  · obtain ⟨a, b, r, t, rfl, _⟩ := h
    rfl
  obtain ⟨a, b, r, t, rfl, ha, hb, le, lr, hQ⟩ := h
  have big : 4000000 ≤ sizeLine := by decide
  refine ⟨_, (pss_cons (ps_for PassesOwn.never rfl (pi_range1 rfl T.f_range (pa_cons (pe_callB (lenK K) (by rfl) T.f_len boot_len (pa_cons (pv 0) pa_nil)) pa_nil)) (pg_name (i := 2) sc_law_tells.nd rfl (by first | exact Or.inl rfl | exact Or.inr rfl))
  (pss_one (ps_for PassesOwn.never rfl (pi_range1 rfl T.f_range (pa_cons (pv 2) pa_nil)) (pg_name (i := 3) sc_law_tells.nd rfl (by first | exact Or.inl rfl | exact Or.inr rfl))
    (pss_one (ps_if (PW.pt (pw_and (pt_cmpR op_eq (pe_ix (ixL K) (pv 0) (pv 3) (fun _ _ => rfl)) (pe_ix (ixL K) (pv 0) (pv 2) (fun _ _ => rfl)) (nomark _)) (pw_and1 (pt_cmpR op_ne (pe_ix (ixL K) (pv 1) (pv 3) (fun _ _ => rfl)) (pe_ix (ixL K) (pv 1) (pv 2) (fun _ _ => rfl)) (nomark _)))))
      (pss_one (ps_ret pe_bl))
      pss_nil)))))
  (pss_one (ps_ret pe_bl))), ?_⟩
  refine ⟨_, rfl, a, _, rfl, .inl (.inl (.inl ha)), ?_⟩
  rw [nV_len]
  refine ⟨_, rfl, by omega, by omega, ?_⟩
  have hk : ((r.length : Nat) : Int).toNat = r.length := by omega
  rw [hk]
  refine for_it walk_range (fun k σ H' => H' = H ∧ LoT r t k ∧ ∃ x2 x3, σ = [some (.ref a), some (.ref b), x2, x3]) ?_ (fun _ _ _ _ _ => trivial) ?_ ?_
  · exact ⟨rfl, LoT.zero, _, _, rfl⟩
  · rintro k x σ _ H3 hk3 ⟨rfl, hl, x2, x3, rfl⟩ ⟨rfl, rfl⟩
    dsimp only
    rw [Int.zero_add]
    refine ⟨_, rfl, _, rfl, by omega, by omega, ?_⟩
    have hk2 : ((k : Nat) : Int).toNat = k := by omega
    rw [hk2]
    refine for_it walk_range (fun j σ H' => H' = H3 ∧ (∀ i, i < j → at0 r i = at0 r k → at0 t i = at0 t k) ∧ ∃ x3, σ = [some (.ref a), some (.ref b), some (.int (k : Nat)), x3]) ?_ (fun _ _ _ _ _ => trivial) ?_ ?_
    · exact ⟨rfl, fun _ h => absurd h (Nat.not_lt_zero _), _, rfl⟩
    · rintro j x σ _ H5 hj ⟨rfl, hg, x3, rfl⟩ ⟨rfl, rfl⟩
      dsimp only
      rw [Int.zero_add]
      refine ⟨_, rfl, _, rfl, a, _, ((j : Nat) : Int), _, rfl, rfl, .inl (.inl ha), atI_nat (nV_at0 (show j < r.length by omega)), _, rfl, _, rfl, a, _, ((k : Nat) : Int), _, rfl, rfl, .inl (.inl ha), atI_nat (nV_at0 hk3), ?_⟩
      refine ⟨rfl, ?_⟩
      have ij : ∀ {x y : Nat}, V.int (x : Nat) = V.int (y : Nat) ↔ x = y := fun {x y} => ⟨fun z => by have := V.int.inj z; omega, fun z => by rw [z]⟩
      have next : (at0 r j = at0 r k → at0 t j = at0 t k) → ∀ i, i < j + 1 → at0 r i = at0 r k → at0 t i = at0 t k := fun g i hi e => by
        by_cases q : i = j
        · subst q; exact g e
        · exact hg i (by omega) e
      by_cases q : at0 r j = at0 r k
      · rw [decide_eq_true (ij.mpr q)]
        refine ⟨true, rfl, iteT ?_⟩
        refine ⟨_, rfl, _, rfl, b, _, ((j : Nat) : Int), _, rfl, rfl, .inl (.inl hb), atI_nat (nV_at0 (show j < t.length by omega)), _, rfl, _, rfl, b, _, ((k : Nat) : Int), _, rfl, rfl, .inl (.inl hb), atI_nat (nV_at0 (show k < t.length by omega)), ?_⟩
        refine ⟨rfl, ?_⟩
        by_cases q2 : at0 t j = at0 t k
        · rw [decide_eq_true (ij.mpr q2)]
          exact ⟨false, rfl, iteF ⟨rfl, next fun _ => q2, _, rfl⟩⟩
        · rw [decide_eq_false fun z => q2 (ij.mp z)]
          refine ⟨true, rfl, iteT ?_⟩
          exact hQ false ⟨fun z => (Bool.false_ne_true z).elim, fun z => (not_tell (show j < r.length by omega) hk3 le q q2 z).elim⟩
      · rw [decide_eq_false fun z => q (ij.mp z)]
        exact ⟨false, rfl, iteF (iteF ⟨rfl, next fun z => (q z).elim, _, rfl⟩)⟩
    · rintro σ H5 ⟨rfl, hg, x3, rfl⟩
      exact ⟨rfl, hl.step hg, _, _, rfl⟩
  · rintro σ H3 ⟨rfl, hl, x2, x3, rfl⟩
    exact hQ true ⟨fun _ => lot_tell le hl, fun _ => rfl⟩
end
end K03
set_option Elab.async false
set_option linter.all false
set_option maxRecDepth 100000
set_option maxHeartbeats 4000000
/-! Ms: xs < ys, lists of ints. -/
namespace Ms
open PySem PySem.Spec PyProof.Rows L2
/-- xs < ys -/
def rLtL (K : PySem.W.Frag) : R2 := fun x y H Q => ∃ (a b : Addr) (xs ys : List Int), x = .ref a ∧ y = .ref b ∧ SqL K H a (xs.map V.int) ∧ SqL K H b (ys.map V.int) ∧ Q (.bl (decide (xs < ys))) H
section
variable {X : Cx}
theorem op_ltL (hu : X.A.units + 64 < cLine) : OpR X (compareOp .Lt) (rLtL X.K) := by
  intro pins s σ H x y v u Q I rx ry h
  obtain ⟨a, b, xs, ys, rfl, rfl, hx, hy, q⟩ := h
  obtain ⟨as, r1⟩ := Dp.reads I (.list (dI xs)) _ v (.lst hx (dpI _)) rx
  obtain ⟨bs, r2⟩ := Dp.reads I (.list (dI ys)) _ u (.lst hy (dpI _)) ry
  refine PySem.W.lt_data r1 r2 (by unfold PySem.W.alike; exact alikeI _ _) (fun z => by cases z) ?_ ⟨.bl _, H, I, ?_, q⟩
  · have e : ∀ zs : List Int, (PyData.list (dI zs)).depth = 1 := fun zs => by rw [PyData.depth, depI0]
    rw [e, e]
    omega
  · show Value.bool (PySem.W.dataLt (.list (dI xs)) (.list (dI ys))) = _
    rw [PySem.W.dataLt_list]
    exact congrArg Value.bool (PySem.W.dataLt_ints ..)
theorem ltLK (K : PySem.W.Frag) (e : X.K = K := by rfl) (hu : X.A.units + 64 < cLine) : OpR X (compareOp .Lt) (rLtL K) := by subst e; exact op_ltL hu
end
end Ms
set_option Elab.async false
set_option linter.all false
set_option maxRecDepth 100000
set_option maxHeartbeats 4000000
/-! K03: _law_listed. -/
namespace K03
open PySem PySem.Spec PyProof.Rows L2 Ms Msp LamX
def OneL (r : List Nat) (st : Int) (q : List Nat) : Prop := Row q ∧ q.length = r.length ∧ (nblk q : Int) = nblk r + st ∧ (st = 1 → Tell q r) ∧ (st = -1 → Tell r q)
def spListed (K : PySem.W.Frag) : Sp := fun vs H Q _ => ∃ (a l : Addr) (r : List Nat) (qs : List (List Nat)) (st : Int), vs = [.ref a, .ref l, .int st, .int (qs.length : Nat)] ∧ SightsT K H a qs ∧ NL H l r ∧ Row r ∧ 0 < r.length ∧ r.length ≤ 60 ∧ (st = 1 ∨ st = -1) ∧
  (∀ q ∈ qs, OneL r st q) ∧ qs.Pairwise (· < ·) ∧ ∀ H', Same H H' → Q (.bl true) H'
def bf (qs : List (List Nat)) : Nat → List Nat
  | 0 => []
  | k + 1 => (qs[k]?).getD []
theorem bf_lt {qs : List (List Nat)} (h : qs.Pairwise (· < ·)) {k : Nat} {q : List Nat} (e : qs[k]? = some q) (ne : q ≠ []) : bf qs k < q := by
  cases k with
  | zero => cases q with
    | nil => exact absurd rfl ne
    | cons a q => exact List.nil_lt_cons _ _
  | succ k =>
    have hk := ltE e
    have e2 : qs[k]? = some qs[k] := List.getElem?_eq_getElem (by omega)
    show (qs[k]?).getD [] < q
    rw [e2]
    rw [List.getElem?_eq_getElem hk] at e
    have e := Option.some.inj e
    rw [← e]
    exact List.pairwise_iff_getElem.mp h k (k + 1) (by omega) hk (by omega)
theorem mx_nblk {r : List Nat} (h : Row r) (ne : r ≠ []) : (mx r : Int) = nblk r - 1 := by
  have := row_mx h ne
  unfold nblk
  omega
section
variable {P : Program} {w : World} {K : PySem.W.Frag} {mg : Str → Option Value} {base : Heap}
theorem ok__law_listed (T : Tx K mg) : Ok P w K mg base "_law_listed" 4 (spListed K) := by
  have O__law_tells : Ok P w K mg base "_law_tells" 1 (spTells K) := ok__law_tells T
  have O__law_agrees : Ok P w K mg base "_law_agrees" 3 (spAgrees K) := ok__law_agrees T
  have O__law_marks : Ok P w K mg base "_law_marks" 1 (spMarks K) := ok__law_marks T
  refine ok_of T.a__law_listed sc_law_listed (fun vs H Q E h => ?_) bi__law_listed fun cdv A outer s H vs Q E hr h => ?_
  · obtain ⟨a, l, r, qs, st, rfl, _⟩ := h
    rfl
  obtain ⟨a, l, r, qs, st, rfl, ha, hl, hw, r0, r60, hst, hqs, hpw, hQ⟩ := h
  have big : 4000000 ≤ sizeLine := by decide
  refine ⟨_, (pss_cons (ps_if (PW.pt (pw_or (pt_not (pt_val (pe_callB (isK K) (by rfl) T.f_isinstance (by decide +kernel) (pa_cons (pv 0) (pa_cons (pe_bltn (v := .ty "tuple") (by rfl) T.f_tuple (by decide +kernel) rfl) pa_nil))))) (pw_or1 (pt_cmpR op_ne (pe_callB (lenK K) (by rfl) T.f_len boot_len (pa_cons (pv 0) pa_nil)) (pv 3) (nomark _)))))
  (pss_one (ps_ret pe_bl))
  pss_nil)
  (pss_cons (ps_set (i := 4) sc_law_listed.nd rfl (by first | exact Or.inl rfl | exact Or.inr rfl) (pe_lst pa_nil))
  (pss_cons (ps_for PassesOwn.never rfl (pi_tup (pv 0)) (pg_name (i := 5) sc_law_listed.nd rfl (by first | exact Or.inl rfl | exact Or.inr rfl))
  (pss_cons (ps_if (PW.pt (pw_or (pt_not (pt_val (pe_callB (isK K) (by rfl) T.f_isinstance (by decide +kernel) (pa_cons (pv 5) (pa_cons (pe_glob (v := .ref (He.ga K "Sight")) rfl T.g_Sight rfl) pa_nil))))) (pw_or (pt_not (pt_val (pe_callB (isK K) (by rfl) T.f_isinstance (by decide +kernel) (pa_cons (pe_fld (pv 5) rfl) (pa_cons (pe_bltn (v := .ty "tuple") (by rfl) T.f_tuple (by decide +kernel) rfl) pa_nil))))) (pw_or1 (pt_cmpR op_ne (pe_callB (lenK K) (by rfl) T.f_len boot_len (pa_cons (pe_fld (pv 5) rfl) pa_nil)) (pe_callB (lenK K) (by rfl) T.f_len boot_len (pa_cons (pv 1) pa_nil)) (nomark _))))))
    (pss_one (ps_ret pe_bl))
    pss_nil)
    (pss_cons (ps_set (i := 6) sc_law_listed.nd rfl (by first | exact Or.inl rfl | exact Or.inr rfl) (pe_callTy (lstK K) (by rfl) T.f_list (by decide +kernel) (pa_cons (pe_fld (pv 5) rfl) pa_nil)))
    (pss_cons (ps_if (PW.pt (pw_or (pt_not (pt_val (pe_c (E := EN) O__law_agrees hr (by decide) (fun σ => passN σ) (pa_cons (pv 5) (pa_cons (pe_c (E := EN) O__law_marks hr (by decide) (fun σ => passN σ) (pa_cons (pv 6) pa_nil)) pa_nil))))) (pw_or (pt_cmpR op_ne (pe_callB (maxLK K (hc := rfl)) (by rfl) T.f_max (by decide +kernel) (pa_cons (pv 6) pa_nil)) (pe_op op_add (pe_callB (maxLK K (hc := rfl)) (by rfl) T.f_max (by decide +kernel) (pa_cons (pv 1) pa_nil)) (pv 2)) (nomark _)) (pw_or1 (pt_not (pt_cmpR (ltLK K (hu := hr.units)) (pv 4) (pv 6) (nomark _)))))))
    (pss_one (ps_ret pe_bl))
    pss_nil)
    (pss_cons (ps_if (PW.pt (pw_or (PW.pt (pw_and (pt_cmpR op_eq (pv 2) pe_int (nomark _)) (pw_and1 (pt_not (pt_val (pe_c (E := EN) O__law_tells hr (by decide) (fun σ => passN σ) (pa_cons (pv 6) (pa_cons (pv 1) pa_nil)))))))) (pw_or1 (PW.pt (pw_and (pt_cmpR op_eq (pv 2) (pe_un un_neg pe_int) (nomark _)) (pw_and1 (pt_not (pt_val (pe_c (E := EN) O__law_tells hr (by decide) (fun σ => passN σ) (pa_cons (pv 1) (pa_cons (pv 6) pa_nil)))))))))))
    (pss_one (ps_ret pe_bl))
    pss_nil)
    (pss_one (ps_set (i := 4) sc_law_listed.nd rfl (by first | exact Or.inl rfl | exact Or.inr rfl) (pv 6))))))))
  (pss_one (ps_ret pe_bl))))), ?_⟩
  obtain ⟨ps, g1, g2⟩ := ha
  have lps : ps.length = qs.length := Paired.length g2
  refine ⟨_, rfl, .ref a, .ty "tuple", _, _, true, rfl, .ty _, .of (.base (.tup g1)), T.is_tuple_tuple, true, rfl, ?_⟩
  refine iteF ?_
  refine ⟨_, rfl, a, _, rfl, .inr (.inl (.inl g1)), _, rfl, rfl, _, rfl, ?_⟩
  have ne : (!decide (V.int ((ps.map V.ref).length : Nat) = V.int (qs.length : Nat))) = false := by rw [List.length_map, lps]; simp
  rw [ne]
  refine iteF ?_
  refine ⟨by show 0 ≤ sizeLine; omega, fun D nD => ?_⟩
  have sD := same_new (o := .lst []) nD
  have bD : upd H D (.lst []) D = some (.lst []) := upd_same ..
  generalize upd H D (.lst []) = H1 at sD bD
  refine ⟨_, rfl, a, rfl, ⟨_, .inl (.inl (sD _ _ g1))⟩, ?_⟩
  refine for_it (walk_tup (K := K) (a := a) (xs := ps.map V.ref)) (fun k σ H' => Same H H' ∧ ∃ b x5 x6, σ = [some (.ref a), some (.ref l), some (.int st), some (.int (qs.length : Nat)), some (.ref b), x5, x6] ∧ NL H' b (bf qs k)) ?_ (fun k σ H' _ h => .inl (.inl (h.1 _ _ g1))) ?_ ?_
  · exact ⟨sD, D, _, _, rfl, bD⟩
  · rintro k x σ _ H2 hk ⟨s2, b, x5, x6, rfl, hb⟩ ⟨rfl, ex⟩
    rw [List.length_map] at hk
    obtain ⟨p, q, v1, v2, v3⟩ := pget2 g2 hk
    have hx : x = .ref p := by
      have ex : (ps.map V.ref)[k]? = some x := ex
      rw [List.getElem?_map, v1] at ex
      exact (Option.some.inj ex).symm
    subst hx
    have hp := v3.same s2
    obtain ⟨dx, t, c, e1, e2, e3⟩ := hp.ex
    obtain ⟨o1, o2, o3, o4, o5⟩ := hqs q (List.mem_of_getElem? v2)
    have qne : q ≠ [] := List.length_pos_iff.mp (by omega)
    have rne : r ≠ [] := List.length_pos_iff.mp r0
    refine ⟨_, rfl, .ref p, .ref (CS K), _, _, true, rfl, .own _, .of (.base (.ins e1 T.c_Sight T.cl_Sight.ca T.cl_Sight.cg T.cl_Sight.ct T.cl_Sight.ob)), T.is_Sight_Sight, true, rfl, ?_⟩
    refine iteF ?_
    refine ⟨_, rfl, p, _, dx, _, _, rfl, e1, T.c_Sight, T.n_marks, rfl, .ref t, .ty "tuple", _, _, true, rfl, .ty _, .of (.base (.tup e2)), T.is_tuple_tuple, true, rfl, ?_⟩
    refine iteF ?_
    refine ⟨_, rfl, p, _, dx, _, _, rfl, e1, T.c_Sight, T.n_marks, rfl, t, _, rfl, .inr (.inl (.inl e2)), _, rfl, l, _, rfl, .inl (.inl (.inl (s2 _ _ hl))), rfl, _, rfl, ?_⟩
    have ne : (!decide (V.int ((nV q).length : Nat) = V.int ((nV r).length : Nat))) = false := by rw [nV_len, nV_len, o2]; simp
    rw [ne]
    refine iteF ?_
    refine ⟨_, rfl, p, _, dx, _, _, rfl, e1, T.c_Sight, T.n_marks, rfl, t, _, rfl, .inr (.inl (.inl e2)), fun m n3 => ?_⟩
    have hl := s2 _ _ hl
    have s3 := same_new (o := .lst (nV q)) n3
    have b3 : upd H2 m (.lst (nV q)) m = some (.lst (nV q)) := upd_same ..
    generalize upd H2 m (.lst (nV q)) = H3 at s3 b3
    have hb := s3 _ _ hb
    have hl := s3 _ _ hl
    refine r_mid (fun σ H4 => H4 = H3 ∧ σ = [some (.ref a), some (.ref l), some (.int st), some (.int (qs.length : Nat)), some (.ref b), some (.ref p), some (.ref m)]) (fun D1 hn _ => hn _ _ ⟨rfl, rfl⟩) ?_
    rintro σ H3 ⟨rfl, rfl⟩
    refine r_mid (fun σ H4 => Same H3 H4 ∧ σ = [some (.ref a), some (.ref l), some (.int st), some (.int (qs.length : Nat)), some (.ref b), some (.ref p), some (.ref m)]) (fun D1 hn _ => ?_) ?_
    · refine ⟨_, rfl, _, rfl, m, (cI q).map V.int, q, rfl, ?_, by rw [← nV_cI]; exact .inl (.inl b3), .inl ⟨cI q, rfl, ((ren_cI q).trans o1).symm⟩, fun H4 g s4 ng hg => ?_⟩
      · rw [← nV_cI, nV_len]; omega
      refine ⟨p, g, q, rfl, (hp.same s3).same s4, .inl (.inl hg), fun H5 s5 => ⟨true, rfl, ?_⟩⟩
      refine iteF ?_
      have b5 := s5 _ _ (s4 _ _ b3)
      have l5 := s5 _ _ (s4 _ _ hl)
      have hb5 := s5 _ _ (s4 _ _ hb)
      refine ⟨_, rfl, m, cI q, rfl, by rw [← nV_cI]; exact .inl (.inl b5), cI_pos qne, fun mz hm hz => ?_⟩
      obtain rfl := max_mx qne hm hz
      refine ⟨_, rfl, l, cI r, rfl, by rw [← nV_cI]; exact .inl (.inl l5), cI_pos rne, fun mz hm hz => ?_⟩
      obtain rfl := max_mx rne hm hz
      refine ⟨_, rfl, _, _, rfl, rfl, rfl, _, rfl, ?_⟩
      have ne : (!decide (V.int (mx q : Nat) = V.int ((mx r : Nat) + st))) = false := by
        have e1 := mx_nblk o1 qne
        have e2 := mx_nblk hw rne
        have : ((mx q : Nat) : Int) = (mx r : Nat) + st := by omega
        rw [this]; simp
      rw [ne]
      refine iteF ?_
      refine ⟨_, rfl, _, rfl, b, m, cI (bf qs k), cI q, rfl, rfl, by rw [← nV_cI]; exact .inl (.inl hb5), by rw [← nV_cI]; exact .inl (.inl b5), _, rfl, ?_⟩
      rw [decide_eq_true (cI_lt.mpr (bf_lt hpw v2 qne))]
      refine iteF ?_
      exact hn _ _ ⟨same2 s4 s5, rfl⟩
    rintro σ H4 ⟨s4, rfl⟩
    have l4 := s4 _ _ hl
    have b4 := s4 _ _ b3
    have done : Same H H4 ∧ NL H4 m (bf qs (k + 1)) := ⟨same2 s2 (same2 s3 s4), by show NL H4 m ((qs[k]?).getD []); rw [v2]; exact b4⟩
    rcases hst with hst | hst
    · subst hst
      refine ⟨_, rfl, rfl, _, rfl, ?_⟩
      refine iteT ?_
      refine ⟨_, rfl, _, rfl, m, l, q, r, rfl, b4, l4, o2, by omega, fun z hz => ⟨z, rfl, ?_⟩⟩
      rw [hz.mpr (o4 rfl)]
      refine iteF ?_
      refine ⟨_, rfl, _, rfl, rfl, false, rfl, ?_⟩
      exact iteF (iteF ⟨_, rfl, done.1, m, _, _, rfl, done.2⟩)
    · subst hst
      refine ⟨_, rfl, rfl, false, rfl, ?_⟩
      refine iteF (iteF ?_)
      refine ⟨_, rfl, _, rfl, rfl, true, rfl, ?_⟩
      refine iteT ?_
      refine ⟨_, rfl, _, rfl, l, m, r, q, rfl, l4, b4, o2.symm, by omega, fun z hz => ⟨z, rfl, ?_⟩⟩
      rw [hz.mpr (o5 rfl)]
      refine iteF ?_
      exact ⟨_, rfl, done.1, m, _, _, rfl, done.2⟩
  · rintro σ H2 ⟨s2, b, x5, x6, rfl, hb⟩
    exact hQ _ s2
end
end K03
set_option Elab.async false
set_option linter.all false
set_option maxRecDepth 100000
set_option maxHeartbeats 4000000
/-! Ms: one == y as a test, by the class's own __eq__. -/
namespace Ms
open PySem PySem.Spec PyProof.Rows L2
section
variable {X : Cx} {k j : Nat} {sp : Sp} {E : L2.St → XK} {c : Str} {pos : Pos} {ta tb : TE}
theorem pt_eqS {a b : Expr} (F : BOk X.prog X.w X.K X.mg X.base c "__eq__" k sp) (hr : Room j X.A) (hk : k ≤ j) (hx : ∀ σ, PassesAt (L2.CX X.prog X.w) X σ (E σ)) (ha : PE X a ta) (hb' : PE X b tb) :
    PT X (.Compare a [.Eq] [b] pos) (tTest (tEqS X.K (He.ga X.K c) sp E ta tb)) := by
  obtain ⟨fd, ps, F1, hb⟩ := F.ex
  refine ⟨fun pins s σ H Q I h => ?_⟩
  refine wpAny_isTrue_Compare1 (thn (ha.run pins s σ H _ I h) fun v s1 ⟨x, H1, I1, rx, q1⟩ => thn (hb'.run pins s1 σ H1 _ I1 q1) fun u s2 ⟨y, H2, I2, ry, q⟩ => ?_) (nomark _)
  obtain ⟨a1, dx, fs, t, rfl, h1, ty, nf, q⟩ := q
  cases rx
  obtain ⟨mA, J, _⟩ := ins_get I2.hok h1
  obtain ⟨od, J, _⟩ := J.look
  obtain ⟨mm, hF⟩ := I2.fr
  obtain ⟨P, Z, pz, _⟩ := kit_of I2 ry ty
  have key : wpAny (model X.prog X.w) X.A (richCompare .Eq (.ref a1) u) (EP X pins σ fun x H' => ∃ k, x = .bl k ∧ Q k H') X.xe s2 := by
    refine PySem.W.cmp_K (op := .Eq) (tb := t) hr.units0 hF I2.ok.mod.kin J (Z.ty _ _ I2.kIn pz) nf F.fi F.fn ?_
    exact thn (run_fnS (us := [.ref a1, u]) (vs := [.ref a1, y]) F1 (hr.mono hk) hb (hx σ) I2 (.cons rfl (.cons ry .nil)) q) fun v s3 ⟨z, H3, I3, r3, q3⟩ => cmpBack_rel r3 ⟨z, H3, I3, r3, q3⟩
  refine thn key fun d s3 ⟨z, H3, I3, r3, k, e, q3⟩ => ?_
  subst e
  cases r3
  exact wpAny_truthy_bool ⟨H3, I3, q3⟩
theorem pt_eqSK {a b : Expr} (K : PySem.W.Frag) (F : BOk X.prog X.w X.K X.mg X.base c "__eq__" k sp) (hr : Room j X.A) (hk : k ≤ j) (hx : ∀ σ, PassesAt (L2.CX X.prog X.w) X σ (E σ)) (ha : PE X a ta) (hb' : PE X b tb) (hK : X.K = K := by rfl) :
    PT X (.Compare a [.Eq] [b] pos) (tTest (tEqS K (He.ga K c) sp E ta tb)) := by
  subst hK
  exact pt_eqS F hr hk hx ha hb'
end
end Ms
set_option Elab.async false
set_option linter.all false
set_option maxRecDepth 100000
set_option maxHeartbeats 4000000
/-! K03: _law_once. -/
namespace K03
open PySem PySem.Spec PyProof.Rows L2 Ms Msp LamX
def spOnce (K : PySem.W.Frag) : Sp := fun vs H Q _ => ∃ (a p : Addr) (qs : List (List Nat)) (r : List Nat), vs = [.ref a, .ref p] ∧ SightsT K H a qs ∧ qs.length ≤ 1000000 ∧ SightAt K H p r ∧ qs.Nodup ∧ r ∈ qs ∧ ∀ H', Same H H' → Q (.bl true) H'
section
variable {P : Program} {w : World} {K : PySem.W.Frag} {mg : Str → Option Value} {base : Heap}
theorem ok__law_once (T : Tx K mg) : Ok P w K mg base "_law_once" 2 (spOnce K) := by
  have O_Sightu__equ_ : BOk P w K mg base "Sight" "__eq__" 1 (spEq K) := bok_eq T
  refine ok_of T.a__law_once sc_law_once (fun vs H Q E h => ?_) bi__law_once fun cdv A outer s H vs Q E hr h => ?_
  · obtain ⟨a, p, qs, r, rfl, _⟩ := h
    rfl
  obtain ⟨a, p, qs, r, rfl, ha, lq, hp, nd, mr, hQ⟩ := h
  have big : 4000000 ≤ sizeLine := by decide
  refine ⟨_, (pss_one (ps_ret (pe_and (pe_callB (isK K) (by rfl) T.f_isinstance (by decide +kernel) (pa_cons (pv 0) (pa_cons (pe_bltn (v := .ty "tuple") (by rfl) T.f_tuple (by decide +kernel) rfl) pa_nil))) (pe_one (pe_cmpR op_eq (pe_callB (lenK K) (by rfl) T.f_len boot_len (pa_cons (pe_lc (own := [("item", 2)]) (g := gName 2) rfl sc_law_once.nd (pi_tup (pv 0)) (blkOk_by (N := ["found", "sight", "item"]) (sc := defScope s_law_once) (by decide +kernel)) (fun _ _ _ _ _ => (pg_name (i := 2) sc_law_once.nd rfl (by first | exact Or.inl rfl | exact Or.inr rfl))) (fun _ _ _ _ _ => (pts_one (pt_eqSK K (E := EN) O_Sightu__equ_ hr (by decide) (fun σ => passN σ) (pv 2) (pv 1)))) (fun _ _ _ _ _ => (pv 2))) pa_nil)) pe_int (nomark _)))))), ?_⟩
  obtain ⟨ps, g1, g2⟩ := ha
  have lps : ps.length = qs.length := Paired.length g2
  refine ⟨_, rfl, .ref a, .ty "tuple", _, _, true, rfl, .ty _, .of (.base (.tup g1)), T.is_tuple_tuple, true, rfl, ?_⟩
  refine iteT ?_
  refine ⟨_, rfl, a, rfl, ⟨_, .inl (.inl g1)⟩, fun D nD => ?_⟩
  refine lc_it (walk_tup (K := K) (a := a) (xs := ps.map V.ref)) (fun i H' => Same H H' ∧ ∃ xs : List V, H' D = some (.lst xs) ∧ xs.length = ((qs.take i).filter fun q => decide (q = r)).length) ⟨same_new nD, [], upd_same .., rfl⟩ (fun i H' _ h => .inl (.inl (h.1 _ _ g1))) ?_ ?_
  · rintro i x _ H2 hi ⟨s2, xs, u1, u2⟩ ⟨rfl, ex⟩
    rw [List.length_map] at hi
    obtain ⟨t, q, v1, v2, v3⟩ := pget2 g2 hi
    have hx : x = .ref t := by
      have ex : (ps.map V.ref)[i]? = some x := ex
      rw [List.getElem?_map, v1] at ex
      exact (Option.some.inj ex).symm
    subst hx
    have hq := v3.same s2
    have hp2 := hp.same s2
    obtain ⟨dx, t1, c1, e1, _, _⟩ := hq.ex
    obtain ⟨dy, t2, c2, f1, _, _⟩ := hp2.ex
    have ft : (qs.take (i + 1)).filter (fun q => decide (q = r)) = (qs.take i).filter (fun q => decide (q = r)) ++ [q].filter fun q => decide (q = r) := by
      rw [List.take_add_one, v2, List.filter_append] <;> rfl
    refine ⟨rfl, _, rfl, _, rfl, t, dx, _, .ref (CS K), rfl, e1, .base (.ins f1 T.c_Sight T.cl_Sight.ca T.cl_Sight.cg T.cl_Sight.ct T.cl_Sight.ob), T.nf_Sight, t, q, .ref p, rfl, hq, .inl ⟨p, r, rfl, hp2, _, rfl, ?_⟩⟩
    by_cases z : q = r
    · rw [decide_eq_true z]
      refine iteT ⟨_, rfl, _, u1, ?_, same_put nD s2, _, upd_same .., ?_⟩
      · rw [u2]
        have := List.length_filter_le (fun q => decide (q = r)) (qs.take i)
        rw [List.length_take] at this
        omega
      · rw [ft, List.length_append, u2, List.length_append]
        show _ + 1 = _ + ([q].filter fun q => decide (q = r)).length
        rw [List.filter_cons_of_pos (by exact decide_eq_true z)] <;> rfl
    · rw [decide_eq_false z]
      refine iteF ⟨s2, _, u1, ?_⟩
      rw [ft, List.length_append, u2, List.filter_cons_of_neg (by rw [decide_eq_false z]; exact Bool.false_ne_true)] <;> rfl
  · rintro H2 ⟨s2, xs, u1, u2⟩
    rw [List.length_map, List.take_of_length_le (by omega), once nd mr] at u2
    refine ⟨D, _, rfl, .inl (.inl (.inl u1)), rfl, ?_⟩
    rw [u2]
    exact hQ _ s2
end
end K03
set_option Elab.async false
set_option linter.all false
set_option maxRecDepth 100000
set_option maxHeartbeats 4000000
/-! K03: _law_is_all. -/
namespace K03
open PySem PySem.Spec PyProof.Rows L2 Ms Msp LamX
def spIsAll (K : PySem.W.Frag) : Sp := fun vs H Q _ => ∃ (a b l : Addr) (qs ts : List (List Nat)) (r : List Nat), vs = [.ref a, .ref b, .ref l] ∧ SightsT K H a qs ∧ SightsT K H b ts ∧ NL H l r ∧ Row r ∧ 0 < r.length ∧ r.length ≤ 6 ∧ SplitsOf r qs ∧ MergesOf r ts ∧ ∀ H', Same H H' → Q (.bl true) H'
noncomputable def pM (r q : List Nat) : Bool := @decide (mx r < mx q ∧ Tell q r) (Classical.propDecidable _)
noncomputable def pL (r q : List Nat) : Bool := @decide (mx q < mx r ∧ Tell r q) (Classical.propDecidable _)
theorem pM_iff {r q : List Nat} : pM r q = true ↔ mx r < mx q ∧ Tell q r := by
  unfold pM
  exact @decide_eq_true_iff _ (Classical.propDecidable _)
theorem pL_iff {r q : List Nat} : pL r q = true ↔ mx q < mx r ∧ Tell r q := by
  unfold pL
  exact @decide_eq_true_iff _ (Classical.propDecidable _)
def p1 (r q : List Nat) : Bool := decide (mx q = mx r + 1 ∨ mx q + 1 = mx r)
theorem p1_iff {r q : List Nat} : p1 r q = true ↔ mx q = mx r + 1 ∨ mx q + 1 = mx r := by
  unfold p1
  exact decide_eq_true_iff
theorem rowsN_lt (n : Nat) : (rowsN n).Pairwise (· < ·) := rgs_lt _
theorem rowsN_mem {n : Nat} (h : 0 < n) {q : List Nat} : q ∈ rowsN n ↔ Row q ∧ q.length = n := by
  have := mem_rgs (n - 1) q
  rw [show n - 1 + 1 = n by omega] at this
  exact this
theorem all_more {r : List Nat} (h : Row r) (r0 : 0 < r.length) {qs : List (List Nat)} (s : SplitsOf r qs) : qs = ((rowsN r.length).filter (p1 r)).filter (pM r) := by
  refine rise_uniq s.1 (((rowsN_lt _).filter _).filter _) fun x => ?_
  rw [s.2.mem_iff, split_iff h, List.mem_filter, List.mem_filter, rowsN_mem r0, p1_iff, pM_iff]
  have rne : r ≠ [] := List.length_pos_iff.mp r0
  have e2 := mx_nblk h rne
  constructor
  · rintro ⟨h1, h2, h3, h4⟩
    have e1 := mx_nblk h1 (List.length_pos_iff.mp (by omega))
    exact ⟨⟨⟨h1, h2⟩, .inl (by omega)⟩, by omega, h4⟩
  · rintro ⟨⟨⟨h1, h2⟩, h3⟩, h4, h5⟩
    have e1 := mx_nblk h1 (List.length_pos_iff.mp (by omega))
    exact ⟨h1, h2, by omega, h5⟩
theorem all_less {r : List Nat} (h : Row r) (r0 : 0 < r.length) {qs : List (List Nat)} (s : MergesOf r qs) : qs = ((rowsN r.length).filter (p1 r)).filter (pL r) := by
  refine rise_uniq s.1 (((rowsN_lt _).filter _).filter _) fun x => ?_
  rw [s.2.mem_iff, merge_iff h, List.mem_filter, List.mem_filter, rowsN_mem r0, p1_iff, pL_iff]
  have rne : r ≠ [] := List.length_pos_iff.mp r0
  have e2 := mx_nblk h rne
  constructor
  · rintro ⟨h1, h2, h3, h4⟩
    have e1 := mx_nblk h1 (List.length_pos_iff.mp (by omega))
    exact ⟨⟨⟨h1, h2⟩, .inr (by omega)⟩, by omega, h4⟩
  · rintro ⟨⟨⟨h1, h2⟩, h3⟩, h4, h5⟩
    have e1 := mx_nblk h1 (List.length_pos_iff.mp (by omega))
    exact ⟨h1, h2, by omega, h5⟩
theorem filt_take {p : List Nat → Bool} {L : List (List Nat)} {i : Nat} {q : List Nat} (e : L[i]? = some q) : (L.take (i + 1)).filter p = (L.take i).filter p ++ if p q = true then [q] else [] := by
  rw [List.take_add_one, e, List.filter_append]
  show _ ++ [q].filter p = _
  by_cases h : p q = true
  · rw [if_pos h, List.filter_cons_of_pos h] <;> rfl
  · rw [if_neg h, List.filter_cons_of_neg h] <;> rfl
theorem filt_len {p : List Nat → Bool} {L : List (List Nat)} {i : Nat} : ((L.take i).filter p).length ≤ L.length := by
  have h1 := List.length_filter_le p (L.take i)
  rw [List.length_take] at h1
  omega
theorem paired_mapr {α β γ : Type} {F : α → γ → Prop} {f : β → γ} : ∀ {xs : List α} {ys : List β}, Paired (fun a b => F a (f b)) xs ys → Paired F xs (ys.map f)
  | _, _, .nil => .nil
  | _, _, .cons h t => .cons h (paired_mapr t)
section
variable {P : Program} {w : World} {K : PySem.W.Frag} {mg : Str → Option Value} {base : Heap}
theorem ok__law_is_all (T : Tx K mg) : Ok P w K mg base "_law_is_all" 3 (spIsAll K) := by
  have O__law_rows : Ok P w K mg base "_law_rows" 2 (spRows K) := ok__law_rows T
  have O__law_tells : Ok P w K mg base "_law_tells" 1 (spTells K) := ok__law_tells T
  refine ok_of T.a__law_is_all sc_law_is_all (fun vs H Q E h => ?_) bi__law_is_all fun cdv A outer s H vs Q E hr h => ?_
  · obtain ⟨a, b, l, qs, ts, r, rfl, _⟩ := h
    rfl
  obtain ⟨a, b, l, qs, ts, r, rfl, ha, hb, hl, hw, r0, r6, hqs, hts, hQ⟩ := h
  have big : 4000000 ≤ sizeLine := by decide
  refine ⟨_, (pss_cons (ps_setLc (i := 3) (own := [("other", 4)]) (g := gName 4) rfl sc_law_is_all.nd rfl rfl (sw_true rfl rfl rfl (by decide +kernel)) (pi_list (pe_c (E := EN) O__law_rows hr (by decide) (fun σ => passN σ) (pa_cons (pe_callB (lenK K) (by rfl) T.f_len boot_len (pa_cons (pv 2) pa_nil)) pa_nil))) (blkOk_by (N := ["finer", "coarser", "row", "rows", "other", "more", "less", "item"]) (sc := defScope s_law_is_all) (by decide +kernel)) (fun _ _ _ _ _ => (pg_name (i := 4) sc_law_is_all.nd rfl (by first | exact Or.inl rfl | exact Or.inr rfl))) (fun _ _ _ _ _ => (pts_one (pt_cmpR op_eq (pe_callB call_abs (by rfl) T.f_abs (by decide +kernel) (pa_cons (pe_op op_sub (pe_callB (maxLK K (hc := rfl)) (by rfl) T.f_max (by decide +kernel) (pa_cons (pv 4) pa_nil)) (pe_callB (maxLK K (hc := rfl)) (by rfl) T.f_max (by decide +kernel) (pa_cons (pv 2) pa_nil))) pa_nil)) pe_int (nomark _)))) (fun _ _ _ _ _ => (pv 4)))
  (pss_cons (ps_setLc (i := 5) (own := [("other", 4)]) (g := gName 4) rfl sc_law_is_all.nd rfl rfl (sw_true rfl rfl rfl (by decide +kernel)) (pi_list (pv 3)) (blkOk_by (N := ["finer", "coarser", "row", "rows", "other", "more", "less", "item"]) (sc := defScope s_law_is_all) (by decide +kernel)) (fun _ _ _ _ _ => (pg_name (i := 4) sc_law_is_all.nd rfl (by first | exact Or.inl rfl | exact Or.inr rfl))) (fun _ _ _ _ _ => (pts_one (PW.pt (pw_and (pt_cmpR op_gt (pe_callB (maxLK K (hc := rfl)) (by rfl) T.f_max (by decide +kernel) (pa_cons (pv 4) pa_nil)) (pe_callB (maxLK K (hc := rfl)) (by rfl) T.f_max (by decide +kernel) (pa_cons (pv 2) pa_nil)) (nomark _)) (pw_and1 (pt_val (pe_c (E := EN) O__law_tells hr (by decide) (fun σ => passN σ) (pa_cons (pv 4) (pa_cons (pv 2) pa_nil))))))))) (fun _ _ _ _ _ => (pv 4)))
  (pss_cons (ps_setLc (i := 6) (own := [("other", 4)]) (g := gName 4) rfl sc_law_is_all.nd rfl rfl (sw_true rfl rfl rfl (by decide +kernel)) (pi_list (pv 3)) (blkOk_by (N := ["finer", "coarser", "row", "rows", "other", "more", "less", "item"]) (sc := defScope s_law_is_all) (by decide +kernel)) (fun _ _ _ _ _ => (pg_name (i := 4) sc_law_is_all.nd rfl (by first | exact Or.inl rfl | exact Or.inr rfl))) (fun _ _ _ _ _ => (pts_one (PW.pt (pw_and (pt_cmpR op_lt (pe_callB (maxLK K (hc := rfl)) (by rfl) T.f_max (by decide +kernel) (pa_cons (pv 4) pa_nil)) (pe_callB (maxLK K (hc := rfl)) (by rfl) T.f_max (by decide +kernel) (pa_cons (pv 2) pa_nil)) (nomark _)) (pw_and1 (pt_val (pe_c (E := EN) O__law_tells hr (by decide) (fun σ => passN σ) (pa_cons (pv 2) (pa_cons (pv 4) pa_nil))))))))) (fun _ _ _ _ _ => (pv 4)))
  (pss_one (ps_ret (pe_and (pe_cmpR (eqK K (hu := hr.units)) (pe_lc (own := [("item", 7)]) (g := gName 7) rfl sc_law_is_all.nd (pi_tup (pv 0)) (blkOk_by (N := ["finer", "coarser", "row", "rows", "other", "more", "less", "item"]) (sc := defScope s_law_is_all) (by decide +kernel)) (fun _ _ _ _ _ => (pg_name (i := 7) sc_law_is_all.nd rfl (by first | exact Or.inl rfl | exact Or.inr rfl))) (fun _ _ _ _ _ => pts_nil) (fun _ _ _ _ _ => (pe_callTy (lstK K) (by rfl) T.f_list (by decide +kernel) (pa_cons (pe_fldK K (pv 7)) pa_nil)))) (pv 5) (nomark _)) (pe_one (pe_cmpR (eqK K (hu := hr.units)) (pe_lc (own := [("item", 7)]) (g := gName 7) rfl sc_law_is_all.nd (pi_tup (pv 1)) (blkOk_by (N := ["finer", "coarser", "row", "rows", "other", "more", "less", "item"]) (sc := defScope s_law_is_all) (by decide +kernel)) (fun _ _ _ _ _ => (pg_name (i := 7) sc_law_is_all.nd rfl (by first | exact Or.inl rfl | exact Or.inr rfl))) (fun _ _ _ _ _ => pts_nil) (fun _ _ _ _ _ => (pe_callTy (lstK K) (by rfl) T.f_list (by decide +kernel) (pa_cons (pe_fldK K (pv 7)) pa_nil)))) (pv 6) (nomark _))))))))), ?_⟩
  have rne : r ≠ [] := List.length_pos_iff.mp r0
  -- rows
  refine r_mid (fun σ H2 => Same H H2 ∧ ∃ g, σ = [some (.ref a), some (.ref b), some (.ref l), some (.ref g), none, none, none, none] ∧ RowsAt H2 g ((rowsN r.length).filter (p1 r))) (fun D1 hn _ => ?_) ?_
  · refine ⟨_, rfl, l, _, rfl, .inl (.inl (.inl hl)), r.length, by rw [nV_len], r0, by omega, fun H1 g s1 ng hg => ?_⟩
    obtain ⟨ls, g1, g2⟩ := hg
    have ll := Paired.length g2
    have few : (rowsN r.length).length ≤ 4140 := rgs_few (by omega)
    refine ⟨g, rfl, ⟨_, .inl (.inl g1)⟩, fun D nD => ?_⟩
    have lD : ∀ {x o}, H1 x = some o → x ≠ D := fun e z => by rw [z, nD] at e; cases e
    refine lc_it (walk_list (K := K) (a := g) (xs := ls.map V.ref)) (fun i H' => Same H1 H' ∧ Grw H' D (((rowsN r.length).take i).filter (p1 r))) ⟨same_new nD, [], upd_same .., .nil⟩ (fun i H' _ h => .inl (.inl (h.1 _ _ g1))) ?_ ?_
    · rintro i x _ H3 hi ⟨s3, d3⟩ ⟨rfl, ex⟩
      rw [List.length_map] at hi
      obtain ⟨t, q, v1, v2, v3⟩ := pget2 g2 hi
      have hx : x = .ref t := by
        have ex : (ls.map V.ref)[i]? = some x := ex
        rw [List.getElem?_map, v1] at ex
        exact (Option.some.inj ex).symm
      subst hx
      have hq : NL H3 t q := s3 _ _ v3
      have hl3 : NL H3 l r := s3 _ _ (s1 _ _ hl)
      obtain ⟨_, lq⟩ := (rowsN_mem r0).mp (List.mem_of_getElem? v2)
      have qne : q ≠ [] := List.length_pos_iff.mp (by omega)
      refine ⟨rfl, _, rfl, t, cI q, rfl, by rw [← nV_cI]; exact .inl (.inl hq), cI_pos qne, fun mz hm hz => ?_⟩
      obtain rfl := max_mx qne hm hz
      refine ⟨_, rfl, l, cI r, rfl, by rw [← nV_cI]; exact .inl (.inl hl3), cI_pos rne, fun mz hm hz => ?_⟩
      obtain rfl := max_mx rne hm hz
      refine ⟨_, _, rfl, rfl, _, rfl, rfl, ?_⟩
      have ft := filt_take (p := p1 r) v2
      by_cases z : p1 r q = true
      · have zi := p1_iff.mp z
        have e : (if ((mx q : Nat) : Int) - (mx r : Nat) < 0 then -(((mx q : Nat) : Int) - (mx r : Nat)) else ((mx q : Nat) : Int) - (mx r : Nat)) = 1 := by split <;> omega
        rw [e, decide_eq_true rfl]
        rw [if_pos z] at ft
        obtain ⟨ys, y1, y2, y3⟩ := d3.push hq (lD v3)
        have := filt_len (p := p1 r) (L := rowsN r.length) (i := i)
        exact ⟨true, rfl, iteT ⟨_, rfl, ys, y1, by omega, same_put nD s3, by rw [ft]; exact y3⟩⟩
      · have zi := fun y => z (p1_iff.mpr y)
        have e : ¬ (if ((mx q : Nat) : Int) - (mx r : Nat) < 0 then -(((mx q : Nat) : Int) - (mx r : Nat)) else ((mx q : Nat) : Int) - (mx r : Nat)) = 1 := fun e => zi (by split at e <;> omega)
        rw [decide_eq_false fun y => e (V.int.inj y)]
        rw [if_neg z, List.append_nil] at ft
        exact ⟨false, rfl, iteF ⟨s3, by rw [ft]; exact d3⟩⟩
    · rintro H3 ⟨s3, d3⟩
      rw [List.length_map, List.take_of_length_le (by omega)] at d3
      exact hn _ _ ⟨same2 s1 s3, D, rfl, d3.rows⟩
  rintro σ H2 ⟨s2, g, rfl, hg⟩
  -- more
  refine r_mid (fun σ H4 => Same H2 H4 ∧ ∃ d, σ = [some (.ref a), some (.ref b), some (.ref l), some (.ref g), none, some (.ref d), none, none] ∧ RowsAt H4 d (((rowsN r.length).filter (p1 r)).filter (pM r))) (fun D1 hn _ => ?_) ?_
  · obtain ⟨ls, g1, g2⟩ := hg
    have ll := Paired.length g2
    have few : ((rowsN r.length).filter (p1 r)).length ≤ 4140 := Nat.le_trans (List.length_filter_le _ _) (rgs_few (by omega))
    refine ⟨_, rfl, g, rfl, ⟨_, .inl (.inl g1)⟩, fun D nD => ?_⟩
    have lD : ∀ {x o}, H2 x = some o → x ≠ D := fun e z => by rw [z, nD] at e; cases e
    refine lc_it (walk_list (K := K) (a := g) (xs := ls.map V.ref)) (fun i H' => Same H2 H' ∧ Grw H' D ((((rowsN r.length).filter (p1 r)).take i).filter (pM r))) ⟨same_new nD, [], upd_same .., .nil⟩ (fun i H' _ h => .inl (.inl (h.1 _ _ g1))) ?_ ?_
    · rintro i x _ H3 hi ⟨s3, d3⟩ ⟨rfl, ex⟩
      rw [List.length_map] at hi
      obtain ⟨t, q, v1, v2, v3⟩ := pget2 g2 hi
      have hx : x = .ref t := by
        have ex : (ls.map V.ref)[i]? = some x := ex
        rw [List.getElem?_map, v1] at ex
        exact (Option.some.inj ex).symm
      subst hx
      have hq : NL H3 t q := s3 _ _ v3
      have hl3 : NL H3 l r := s3 _ _ (s2 _ _ hl)
      obtain ⟨_, lq⟩ := (rowsN_mem r0).mp (List.mem_filter.mp (List.mem_of_getElem? v2)).1
      have qne : q ≠ [] := List.length_pos_iff.mp (by omega)
      refine ⟨rfl, _, rfl, t, cI q, rfl, by rw [← nV_cI]; exact .inl (.inl hq), cI_pos qne, fun mz hm hz => ?_⟩
      obtain rfl := max_mx qne hm hz
      refine ⟨_, rfl, l, cI r, rfl, by rw [← nV_cI]; exact .inl (.inl hl3), cI_pos rne, fun mz hm hz => ?_⟩
      obtain rfl := max_mx rne hm hz
      refine ⟨_, _, rfl, rfl, _, rfl, ?_⟩
      have ft := filt_take (p := pM r) v2
      have dT : pM r q = true → ∃ acc, H3 D = some (.lst acc) ∧ acc.length < sizeLine ∧ (Same H2 (upd H3 D (.lst (acc ++ [V.ref t]))) ∧ Grw (upd H3 D (.lst (acc ++ [V.ref t]))) D ((((rowsN r.length).filter (p1 r)).take (i + 1)).filter (pM r))) := fun ez => by
        rw [if_pos ez] at ft
        obtain ⟨ys, y1, y2, y3⟩ := d3.push hq (lD v3)
        have := filt_len (p := pM r) (L := (rowsN r.length).filter (p1 r)) (i := i)
        exact ⟨ys, y1, by omega, same_put nD s3, by rw [ft]; exact y3⟩
      have dF : ¬ pM r q = true → Same H2 H3 ∧ Grw H3 D ((((rowsN r.length).filter (p1 r)).take (i + 1)).filter (pM r)) := fun ez => by
        rw [if_neg ez, List.append_nil] at ft
        exact ⟨s3, by rw [ft]; exact d3⟩
      by_cases c : mx r < mx q
      · rw [decide_eq_true (show ((mx r : Nat) : Int) < (mx q : Nat) by omega)]
        refine iteT ?_
        refine ⟨_, rfl, _, rfl, t, l, q, r, rfl, hq, hl3, lq, by omega, fun z hz => ⟨z, rfl, ?_⟩⟩
        cases z with
        | true => exact iteT ⟨_, rfl, dT (pM_iff.mpr ⟨c, hz.mp rfl⟩)⟩
        | false => exact iteF (dF fun y => Bool.false_ne_true (hz.mpr (pM_iff.mp y).2))
      · rw [decide_eq_false (show ¬ ((mx r : Nat) : Int) < (mx q : Nat) by omega)]
        exact iteF (iteF (dF fun y => c (pM_iff.mp y).1))
    · rintro H3 ⟨s3, d3⟩
      rw [List.length_map, List.take_of_length_le (by omega)] at d3
      exact hn _ _ ⟨s3, D, rfl, d3.rows⟩
  rintro σ H4 ⟨s4, d, rfl, hd⟩
  have hg := hg.same s4
  -- less
  refine r_mid (fun σ H5 => Same H4 H5 ∧ ∃ f, σ = [some (.ref a), some (.ref b), some (.ref l), some (.ref g), none, some (.ref d), some (.ref f), none] ∧ RowsAt H5 f (((rowsN r.length).filter (p1 r)).filter (pL r))) (fun D1 hn _ => ?_) ?_
  · obtain ⟨ls, g1, g2⟩ := hg
    have ll := Paired.length g2
    have few : ((rowsN r.length).filter (p1 r)).length ≤ 4140 := Nat.le_trans (List.length_filter_le _ _) (rgs_few (by omega))
    refine ⟨_, rfl, g, rfl, ⟨_, .inl (.inl g1)⟩, fun D nD => ?_⟩
    have lD : ∀ {x o}, H4 x = some o → x ≠ D := fun e z => by rw [z, nD] at e; cases e
    refine lc_it (walk_list (K := K) (a := g) (xs := ls.map V.ref)) (fun i H' => Same H4 H' ∧ Grw H' D ((((rowsN r.length).filter (p1 r)).take i).filter (pL r))) ⟨same_new nD, [], upd_same .., .nil⟩ (fun i H' _ h => .inl (.inl (h.1 _ _ g1))) ?_ ?_
    · rintro i x _ H3 hi ⟨s3, d3⟩ ⟨rfl, ex⟩
      rw [List.length_map] at hi
      obtain ⟨t, q, v1, v2, v3⟩ := pget2 g2 hi
      have hx : x = .ref t := by
        have ex : (ls.map V.ref)[i]? = some x := ex
        rw [List.getElem?_map, v1] at ex
        exact (Option.some.inj ex).symm
      subst hx
      have hq : NL H3 t q := s3 _ _ v3
      have hl3 : NL H3 l r := s3 _ _ (s4 _ _ (s2 _ _ hl))
      obtain ⟨_, lq⟩ := (rowsN_mem r0).mp (List.mem_filter.mp (List.mem_of_getElem? v2)).1
      have qne : q ≠ [] := List.length_pos_iff.mp (by omega)
      refine ⟨rfl, _, rfl, t, cI q, rfl, by rw [← nV_cI]; exact .inl (.inl hq), cI_pos qne, fun mz hm hz => ?_⟩
      obtain rfl := max_mx qne hm hz
      refine ⟨_, rfl, l, cI r, rfl, by rw [← nV_cI]; exact .inl (.inl hl3), cI_pos rne, fun mz hm hz => ?_⟩
      obtain rfl := max_mx rne hm hz
      refine ⟨_, _, rfl, rfl, _, rfl, ?_⟩
      have ft := filt_take (p := pL r) v2
      have dT : pL r q = true → ∃ acc, H3 D = some (.lst acc) ∧ acc.length < sizeLine ∧ (Same H4 (upd H3 D (.lst (acc ++ [V.ref t]))) ∧ Grw (upd H3 D (.lst (acc ++ [V.ref t]))) D ((((rowsN r.length).filter (p1 r)).take (i + 1)).filter (pL r))) := fun ez => by
        rw [if_pos ez] at ft
        obtain ⟨ys, y1, y2, y3⟩ := d3.push hq (lD v3)
        have := filt_len (p := pL r) (L := (rowsN r.length).filter (p1 r)) (i := i)
        exact ⟨ys, y1, by omega, same_put nD s3, by rw [ft]; exact y3⟩
      have dF : ¬ pL r q = true → Same H4 H3 ∧ Grw H3 D ((((rowsN r.length).filter (p1 r)).take (i + 1)).filter (pL r)) := fun ez => by
        rw [if_neg ez, List.append_nil] at ft
        exact ⟨s3, by rw [ft]; exact d3⟩
      by_cases c : mx q < mx r
      · rw [decide_eq_true (show ((mx q : Nat) : Int) < (mx r : Nat) by omega)]
        refine iteT ?_
        refine ⟨_, rfl, _, rfl, l, t, r, q, rfl, hl3, hq, lq.symm, by omega, fun z hz => ⟨z, rfl, ?_⟩⟩
        cases z with
        | true => exact iteT ⟨_, rfl, dT (pL_iff.mpr ⟨c, hz.mp rfl⟩)⟩
        | false => exact iteF (dF fun y => Bool.false_ne_true (hz.mpr (pL_iff.mp y).2))
      · rw [decide_eq_false (show ¬ ((mx q : Nat) : Int) < (mx r : Nat) by omega)]
        exact iteF (iteF (dF fun y => c (pL_iff.mp y).1))
    · rintro H3 ⟨s3, d3⟩
      rw [List.length_map, List.take_of_length_le (by omega)] at d3
      exact hn _ _ ⟨s3, D, rfl, d3.rows⟩
  rintro σ H5 ⟨s5, f, rfl, hf⟩
  have hd := hd.same s5
  have s05 : Same H H5 := same2 s2 (same2 s4 s5)
  obtain ⟨ps, g1, g2⟩ := ha
  obtain ⟨us, k1, k2⟩ := hb
  have lps : ps.length = qs.length := Paired.length g2
  have lus : us.length = ts.length := Paired.length k2
  have em := all_more hw r0 hqs
  have el := all_less hw r0 hts
  have few : ∀ p : List Nat → Bool, (((rowsN r.length).filter (p1 r)).filter p).length ≤ 4140 := fun p => Nat.le_trans (List.length_filter_le _ _) (Nat.le_trans (List.length_filter_le _ _) (rgs_few (by omega)))
  have fq : qs.length ≤ 4140 := by rw [em]; exact few _
  have ft : ts.length ≤ 4140 := by rw [el]; exact few _
  have g5 := pimp (fun _ _ _ z => SightAt.same s05 z) g2
  rw [← em] at hd
  rw [← el] at hf
  have rows_eq : ∀ {H' : Hp} {D d : Addr} {L : List (List Nat)}, RowsAt H' D L → RowsAt H' d L → ∃ u v, Dp K H' (.ref D) u ∧ Dp K H' (.ref d) v ∧ SeqAt.shaped u = true ∧ SeqAt.shaped v = true ∧ PyData.eqv u v = true := fun {H' D d L} h1 h2 => by
    obtain ⟨ls, m1, m2⟩ := h1
    obtain ⟨ls', m1', m2'⟩ := h2
    have cv : ∀ {xs : List Addr}, Paired (fun l r => NL H' l r) xs L → Paired (fun a r => SqL K H' a (r.map V.int)) xs (L.map cI) := fun h => paired_mapr (pimp (fun _ _ _ z => by show SqL K H' _ _; rw [← nV_cI]; exact .inl (.inl z)) h)
    exact ⟨_, _, .lst (.inl (.inl m1)) (dpR (cv m2)), .lst (.inl (.inl m1')) (dpR (cv m2')), shR _, shR _, by rw [eqvLR]; exact decide_eq_true rfl⟩
  refine ⟨_, rfl, a, rfl, ⟨_, .inl (.inl (s05 _ _ g1))⟩, fun D nD => ?_⟩
  refine lc_it (walk_tup (K := K) (a := a) (xs := ps.map V.ref)) (fun i H' => Same H5 H' ∧ Grw H' D (qs.take i)) ⟨same_new nD, [], upd_same .., .nil⟩ (fun i H' _ h => .inl (.inl (h.1 _ _ (s05 _ _ g1)))) ?_ ?_
  · rintro i x _ H6 hi ⟨s6, d6⟩ ⟨rfl, ex⟩
    rw [List.length_map] at hi
    obtain ⟨p, q, v1, v2, v3⟩ := pget2 g5 hi
    have hx : x = .ref p := by
      have ex : (ps.map V.ref)[i]? = some x := ex
      rw [List.getElem?_map, v1] at ex
      exact (Option.some.inj ex).symm
    subst hx
    obtain ⟨dx, t, c, e1, e2, e3⟩ := (v3.same s6).ex
    refine ⟨rfl, _, rfl, p, _, dx, _, _, rfl, e1, T.c_Sight, T.n_marks, rfl, t, _, rfl, .inr (.inl (.inl e2)), fun m n7 => ?_⟩
    have s7 := same_new (o := .lst (nV q)) n7
    have b7 : upd H6 m (.lst (nV q)) m = some (.lst (nV q)) := upd_same ..
    generalize upd H6 m (.lst (nV q)) = H7 at s7 b7
    have d7 := d6.same s7
    have mD : m ≠ D := fun z => by
      obtain ⟨ms, m1, _⟩ := d6
      rw [z, m1] at n7; cases n7
    obtain ⟨ys, y1, y2, y3⟩ := d7.push b7 mD
    refine ⟨ys, y1, by rw [y2, List.length_take]; omega, same_put nD (same2 s6 s7), ?_⟩
    rw [List.take_add_one, v2]
    exact y3
  rintro H6 ⟨s6, d6⟩
  rw [List.length_map, List.take_of_length_le (by omega)] at d6
  obtain ⟨u, v, q1, q2, q3, q4, q5⟩ := rows_eq d6.rows (hd.same s6)
  refine ⟨_, rfl, u, v, q1, q2, q3, q4, true, by rw [q5], ?_⟩
  refine iteT ?_
  have s07 := same2 s05 s6
  have k7 := pimp (fun _ _ _ z => SightAt.same s07 z) k2
  refine ⟨_, rfl, b, rfl, ⟨_, .inl (.inl (s07 _ _ k1))⟩, fun D nD => ?_⟩
  refine lc_it (walk_tup (K := K) (a := b) (xs := us.map V.ref)) (fun i H' => Same H6 H' ∧ Grw H' D (ts.take i)) ⟨same_new nD, [], upd_same .., .nil⟩ (fun i H' _ h => .inl (.inl (h.1 _ _ (s07 _ _ k1)))) ?_ ?_
  · rintro i x _ H8 hi ⟨s8, d8⟩ ⟨rfl, ex⟩
    rw [List.length_map] at hi
    obtain ⟨p, q, v1, v2, v3⟩ := pget2 k7 hi
    have hx : x = .ref p := by
      have ex : (us.map V.ref)[i]? = some x := ex
      rw [List.getElem?_map, v1] at ex
      exact (Option.some.inj ex).symm
    subst hx
    obtain ⟨dx, t, c, e1, e2, e3⟩ := (v3.same s8).ex
    refine ⟨rfl, _, rfl, p, _, dx, _, _, rfl, e1, T.c_Sight, T.n_marks, rfl, t, _, rfl, .inr (.inl (.inl e2)), fun m n7 => ?_⟩
    have s7 := same_new (o := .lst (nV q)) n7
    have b7 : upd H8 m (.lst (nV q)) m = some (.lst (nV q)) := upd_same ..
    generalize upd H8 m (.lst (nV q)) = H7 at s7 b7
    have d7 := d8.same s7
    have mD : m ≠ D := fun z => by
      obtain ⟨ms, m1, _⟩ := d8
      rw [z, m1] at n7; cases n7
    obtain ⟨ys, y1, y2, y3⟩ := d7.push b7 mD
    refine ⟨ys, y1, by rw [y2, List.length_take]; omega, same_put nD (same2 s8 s7), ?_⟩
    rw [List.take_add_one, v2]
    exact y3
  rintro H8 ⟨s8, d8⟩
  rw [List.length_map, List.take_of_length_le (by omega)] at d8
  obtain ⟨u, v, q1, q2, q3, q4, q5⟩ := rows_eq d8.rows ((hf.same s6).same s8)
  refine ⟨_, rfl, u, v, q1, q2, q3, q4, ?_⟩
  rw [q5]
  exact hQ _ (same2 s07 s8)
end
end K03
set_option Elab.async false
set_option linter.all false
set_option maxRecDepth 100000
set_option maxHeartbeats 4000000
/-! K03: _law_cell, the same answer each time. -/
namespace K03
open PySem PySem.Spec PyProof.Rows L2 Ms
def seedF (ns : List Int) : Int := ns.foldl (fun s c => (s * 31 + c.fmod 1000003).fmod 1000003) 17
def cellF (ns : List Int) (k : Nat) : Int := match ns[k]? with
  | some z => z
  | none => ((seedF ns + 7) * ((k : Nat) + 3) * 69621).fmod 2147483647
def spCellF (K : PySem.W.Frag) : Sp := fun vs H Q _ => ∃ (a : Addr) (ns : List Int) (k : Nat), vs = [.ref a, .int (k : Nat)] ∧ SqL K H a (ns.map V.int) ∧ Q (.int (cellF ns k)) H
theorem seed_snoc (ns : List Int) (c : Int) : seedF (ns ++ [c]) = (seedF ns * 31 + c.fmod 1000003).fmod 1000003 := by
  unfold seedF
  rw [List.foldl_append] <;> rfl
theorem seed_few (ns : List Int) : 0 ≤ seedF ns ∧ seedF ns < 1000003 := by
  induction ns using snoc_ind with
  | h0 => exact ⟨by decide, by decide⟩
  | hs l c ih =>
    rw [seed_snoc]
    exact modPos (by decide)
section
variable {P : Program} {w : World} {K : PySem.W.Frag} {mg : Str → Option Value} {base : Heap}
theorem ok__law_cellF (T : Tx K mg) : Ok P w K mg base "_law_cell" 1 (spCellF K) := by
  refine ok_of T.a__law_cell sc_law_cell (fun vs H Q E h => ?_) bi__law_cell fun cdv A outer s H vs Q E hr h => ?_
  · obtain ⟨a, ns, k, rfl, _⟩ := h
    rfl
  obtain ⟨a, ns, k, rfl, ha, hQ⟩ := h
  refine ⟨_, (pss_cons (ps_if (pt_cmpR op_lt (pv 1) (pe_callB (lenK K) (by rfl) T.f_len boot_len (pa_cons (pv 0) pa_nil)) (nomark _))
  (pss_one (ps_ret (pe_ix (ixL K) (pv 0) (pv 1) (fun _ _ => rfl))))
  pss_nil)
  (pss_cons (ps_set (i := 2) sc_law_cell.nd rfl (by first | exact Or.inl rfl | exact Or.inr rfl) pe_int)
  (pss_cons (ps_for PassesOwn.never rfl (pi_list (pv 0)) (pg_name (i := 3) sc_law_cell.nd rfl (by first | exact Or.inl rfl | exact Or.inr rfl))
  (pss_one (ps_set (i := 2) sc_law_cell.nd rfl (by first | exact Or.inl rfl | exact Or.inr rfl) (pe_op op_modN (pe_callTy call_int1 (by rfl) T.f_int (by decide +kernel) (pa_cons (pe_op op_add (pe_op op_mul (pv 2) pe_int) (pe_op op_modN (pe_callTy call_int1 (by rfl) T.f_int (by decide +kernel) (pa_cons (pv 3) pa_nil)) pe_int)) pa_nil)) pe_int))))
  (pss_one (ps_ret (pe_op op_modN (pe_callTy call_int1 (by rfl) T.f_int (by decide +kernel) (pa_cons (pe_op op_mul (pe_op op_mul (pe_op op_add (pv 2) pe_int) (pe_op op_add (pv 1) pe_int)) pe_int) pa_nil)) pe_int)))))), ?_⟩
  refine ⟨_, rfl, _, rfl, a, _, rfl, .inl ha, _, _, rfl, rfl, _, rfl, ?_⟩
  by_cases hk : k < ns.length
  · have e : decide (((k : Nat) : Int) < ((ns.map V.int).length : Nat)) = true := decide_eq_true (by rw [List.length_map]; omega)
    rw [e]
    have ec : cellF ns k = ns[k] := by
      unfold cellF
      rw [getE hk]
    rw [ec] at hQ
    refine iteT ⟨_, rfl, _, rfl, a, _, _, _, rfl, rfl, ha, atI_nat (by rw [List.getElem?_map, getE hk] <;> rfl), hQ⟩
  · have e : decide (((k : Nat) : Int) < ((ns.map V.int).length : Nat)) = false := decide_eq_false (by rw [List.length_map]; omega)
    rw [e]
    refine iteF ?_
    refine ⟨_, rfl, a, rfl, ⟨_, ha⟩, for_list (xs := ns.map V.int) (fun i σ H1 => ∃ (m : Option V), σ = [some (.ref a), some (.int (k : Nat)), some (.int (seedF (ns.take i))), m] ∧ H1 = H) ?_ ?_ ?_ ?_⟩
    · exact ⟨none, rfl, rfl⟩
    · rintro i σ H1 _ ⟨_, _, rfl⟩
      exact ha
    · rintro i x σ H1 hx ⟨m, rfl, rfl⟩
      rw [List.getElem?_map] at hx
      obtain ⟨h1, h2⟩ := seed_few (ns.take i)
      cases en : ns[i]? with
      | none => rw [en] at hx; cases hx
      | some n =>
        rw [en] at hx
        cases hx
        refine ⟨_, rfl, _, _, rfl, rfl, .inl ⟨by omega, by omega⟩, _, rfl, .inl ⟨_, rfl, _, _, rfl, rfl, nz rfl, _, _, rfl, rfl, .inl ⟨_, rfl, _, _, rfl, rfl, nz rfl, ?_⟩⟩⟩
        have es : seedF (ns.take (i + 1)) = (seedF (ns.take i) * 31 + n.fmod 1000003).fmod 1000003 := by
          rw [List.take_add_one, en]
          exact seed_snoc _ _
        exact ⟨some (.int n), by rw [es] <;> rfl, rfl⟩
    · rintro σ H1 ⟨m, rfl, rfl⟩
      rw [List.length_map, List.take_length]
      obtain ⟨h1, h2⟩ := seed_few ns
      have ec : cellF ns k = ((seedF ns + 7) * ((k : Nat) + 3) * 69621).fmod 2147483647 := by
        unfold cellF
        rw [List.getElem?_eq_none (by omega)]
      rw [ec] at hQ
      refine ⟨_, rfl, _, _, rfl, rfl, _, rfl, _, _, rfl, rfl, _, _, rfl, rfl, .inl ⟨by omega, by omega⟩, _, _, rfl, rfl, .inr ⟨by decide, by decide⟩, .inl ⟨_, rfl, _, _, rfl, rfl, nz rfl, hQ⟩⟩
end
end K03
set_option Elab.async false
set_option linter.all false
set_option maxRecDepth 100000
set_option maxHeartbeats 4000000
/-! K03: _law_ways. -/
namespace K03
open PySem PySem.Spec PyProof.Rows L2 Ms Msp LamX
def spWays (K : PySem.W.Frag) : Sp := fun vs H Q _ => ∃ (l : Addr) (r : List Nat), vs = [.ref l] ∧ NL H l r ∧ Row r ∧ 0 < r.length ∧ r.length ≤ 10 ∧ ∀ H', Same H H' → Q (.int ((splitRows r).length : Nat)) H'
def wys (cs : List (List Nat)) : Nat := (cs.map fun cell => 2 ^ (cell.length - 1) - 1).sum
theorem wys_snoc (cs : List (List Nat)) (c : List Nat) : wys (cs ++ [c]) = wys cs + (2 ^ (c.length - 1) - 1) := by
  unfold wys
  rw [List.map_append, List.sum_append]
  show _ + (_ + 0) = _
  rw [Nat.add_zero]
section
variable {P : Program} {w : World} {K : PySem.W.Frag} {mg : Str → Option Value} {base : Heap}
theorem ok__law_ways (T : Tx K mg) : Ok P w K mg base "_law_ways" 2 (spWays K) := by
  have O__law_groups : Ok P w K mg base "_law_groups" 1 (spGroups K) := ok__law_groups T
  refine ok_of T.a__law_ways sc_law_ways (fun vs H Q E h => ?_) bi__law_ways fun cdv A outer s H vs Q E hr h => ?_
  · obtain ⟨l, r, rfl, _⟩ := h
    rfl
  obtain ⟨l, r, rfl, hl, hw, r0, r10, hQ⟩ := h
  have big : 4000000 ≤ sizeLine := by decide
  refine ⟨_, (pss_cons (ps_set (i := 1) sc_law_ways.nd rfl (by first | exact Or.inl rfl | exact Or.inr rfl) pe_int)
  (pss_cons (ps_for PassesOwn.never rfl (pi_list (pe_c (E := EN) O__law_groups hr (by decide) (fun σ => passN σ) (pa_cons (pv 0) pa_nil))) (pg_name (i := 2) sc_law_ways.nd rfl (by first | exact Or.inl rfl | exact Or.inr rfl))
  (pss_cons (ps_set (i := 3) sc_law_ways.nd rfl (by first | exact Or.inl rfl | exact Or.inr rfl) pe_int)
    (pss_cons (ps_for PassesOwn.never rfl (pi_list (pe_slice sl_list (pv 2) (po_some pe_int) po_none)) (pg_name (i := 4) sc_law_ways.nd rfl (by first | exact Or.inl rfl | exact Or.inr rfl))
    (pss_one (ps_set (i := 3) sc_law_ways.nd rfl (by first | exact Or.inl rfl | exact Or.inr rfl) (pe_op op_mul (pv 3) pe_int))))
    (pss_one (ps_set (i := 1) sc_law_ways.nd rfl (by first | exact Or.inl rfl | exact Or.inr rfl) (pe_op op_sub (pe_op op_add (pv 1) (pv 3)) pe_int))))))
  (pss_one (ps_ret (pv 1))))), ?_⟩
  refine ⟨_, rfl, l, r, rfl, .inl (.inl hl), hw, r0, by omega, fun H1 g ls s1 ng hg hls => ?_⟩
  have ll := Paired.length hls
  refine ⟨g, rfl, ⟨_, .inl (.inl hg)⟩, ?_⟩
  refine for_it (walk_list (K := K) (a := g) (xs := ls.map V.ref)) (fun k σ H' => Same H1 H' ∧ ∃ x2 x3 x4, σ = [some (.ref l), some (.int (wys ((cellsOf r).take k) : Nat)), x2, x3, x4]) ?_ (fun k σ H' _ h => .inl (.inl (h.1 _ _ hg))) ?_ ?_
  · exact ⟨same_rfl, _, _, _, rfl⟩
  · rintro k x σ _ H2 hk ⟨s2, x2, x3, x4, rfl⟩ ⟨rfl, ex⟩
    rw [List.length_map] at hk
    obtain ⟨m, cell, v1, v2, v3⟩ := pget2 hls hk
    have hx : x = .ref m := by
      have ex : (ls.map V.ref)[k]? = some x := ex
      rw [List.getElem?_map, v1] at ex
      exact (Option.some.inj ex).symm
    subst hx
    obtain ⟨c0, c1, _⟩ := cell_ok hw v2
    have m2 := s2 _ _ v3
    refine r_mid (fun σ H3 => H3 = H2 ∧ σ = [some (.ref l), some (.int (wys ((cellsOf r).take k) : Nat)), some (.ref m), some (.int 1), x4]) (fun D1 hn _ => hn _ _ ⟨rfl, rfl⟩) ?_
    rintro σ H2 ⟨rfl, rfl⟩
    refine r_mid (fun σ H3 => Same H2 H3 ∧ ∃ x4, σ = [some (.ref l), some (.int (wys ((cellsOf r).take k) : Nat)), some (.ref m), some (.int (2 ^ (cell.length - 1) : Nat)), x4]) (fun D1 hn _ => ?_) ?_
    · refine ⟨_, rfl, _, rfl, m, _, rfl, .inl (.inl m2), fun p3 n3 => ?_⟩
      rw [show cutV (nV cell) (some 1) none = nV (cell.drop 1) from (cut_from2 (nV cell) (n := 1)).trans nV_drop]
      have s3 := same_new (o := .lst (nV (cell.drop 1))) n3
      have b3 : upd H2 p3 (.lst (nV (cell.drop 1))) p3 = some (.lst (nV (cell.drop 1))) := upd_same ..
      generalize upd H2 p3 (.lst (nV (cell.drop 1))) = H3 at s3 b3
      refine ⟨p3, rfl, ⟨_, .inl (.inl b3)⟩, ?_⟩
      refine for_it (walk_list (K := K) (a := p3) (xs := nV (cell.drop 1))) (fun j σ H' => H' = H3 ∧ ∃ x4, σ = [some (.ref l), some (.int (wys ((cellsOf r).take k) : Nat)), some (.ref m), some (.int (2 ^ j : Nat)), x4]) ⟨rfl, _, rfl⟩ (fun j σ H' _ h => .inl (.inl (h.1 ▸ b3))) ?_ ?_
      · rintro j x σ _ H6 hj ⟨rfl, x4, rfl⟩ ⟨rfl, ex⟩
        rw [nV_len, List.length_drop] at hj
        have e9 : (2 : Nat) ^ j ≤ 2 ^ 9 := Nat.pow_le_pow_right (by decide) (by omega)
        have e512 : (2 : Nat) ^ 9 = 512 := by decide
        refine ⟨_, rfl, _, _, rfl, rfl, .inr ⟨by omega, by omega⟩, ?_⟩
        have e : ((2 ^ j : Nat) : Int) * 2 = ((2 ^ (j + 1) : Nat) : Int) := by rw [Nat.pow_succ]; push_cast; rfl
        exact ⟨rfl, _, by rw [← e] <;> rfl⟩
      · rintro σ H6 ⟨rfl, x4, rfl⟩
        rw [nV_len, List.length_drop]
        exact hn _ _ ⟨s3, _, rfl⟩
    rintro σ H3 ⟨s3, x4, rfl⟩
    refine ⟨_, rfl, _, rfl, _, _, rfl, rfl, _, _, rfl, rfl, ?_⟩
    have pos : 0 < 2 ^ (cell.length - 1) := Nat.pow_pos (by decide)
    have e : ((wys ((cellsOf r).take k) : Nat) : Int) + (2 ^ (cell.length - 1) : Nat) - 1 = (wys ((cellsOf r).take (k + 1)) : Nat) := by
      rw [List.take_add_one, v2]
      show _ = ((wys (_ ++ [cell]) : Nat) : Int)
      rw [wys_snoc]
      omega
    exact ⟨same2 s2 s3, _, _, _, by rw [← e] <;> rfl⟩
  · rintro σ H2 ⟨s2, x2, x3, x4, rfl⟩
    refine ⟨_, rfl, ?_⟩
    have e : wys ((cellsOf r).take (ls.map V.ref).length) = (splitRows r).length := by
      rw [List.length_map, List.take_of_length_le (by omega), split_count] <;> rfl
    rw [e]
    exact hQ _ (same2 s1 s2)
end
end K03
set_option Elab.async false
set_option linter.all false
set_option maxRecDepth 100000
set_option maxHeartbeats 4000000
/-! K03: _law_draw. -/
namespace K03
open PySem PySem.Spec PyProof.Rows L2 Ms Msp LamX
def spDraw (K : PySem.W.Frag) : Sp := fun vs H Q _ => ∃ (a : Addr) (ns : List Int), vs = [.ref a] ∧ SqL K H a (ns.map V.int) ∧ ∀ H' p ds, Same H H' → H p = none → NL H' p ds → 0 < ds.length → ds.length ≤ 10 → Q (.ref p) H'
def SZ2 : List Nat := [5, 4, 6, 3, 7, 8, 2, 10, 9, 4, 6, 5, 1, 8, 7]
theorem sz2_ok {d : Nat} (h : d < 15) : 0 < at0 SZ2 d ∧ at0 SZ2 d ≤ 10 := by
  have : ∀ d : Fin 15, 0 < at0 SZ2 d.1 ∧ at0 SZ2 d.1 ≤ 10 := by decide
  exact this ⟨d, h⟩
def WD (n : Nat) : List Nat := [3, 2, n, n / 2 + 1, 4, 3, 1, 5]
theorem wd_ok {n d : Nat} (h : d < 8) (n0 : 0 < n) (n10 : n ≤ 10) : 0 < at0 (WD n) d ∧ at0 (WD n) d ≤ 10 := by
  have : ∀ (n : Fin 11) (d : Fin 8), 0 < n.1 → 0 < at0 (WD n.1) d.1 ∧ at0 (WD n.1) d.1 ≤ 10 := by decide
  exact this ⟨n, by omega⟩ ⟨d, h⟩ n0
theorem repN (k x : Nat) : (List.replicate k [V.int (x : Nat)]).flatten = nV (List.replicate k x) := by
  induction k with
  | zero => rfl
  | succ i ih => rw [List.replicate_succ, List.flatten_cons, ih] <;> rfl
section
variable {P : Program} {w : World} {K : PySem.W.Frag} {mg : Str → Option Value} {base : Heap}
theorem ok__law_draw (T : Tx K mg) : Ok P w K mg base "_law_draw" 2 (spDraw K) := by
  have O__law_cell : Ok P w K mg base "_law_cell" 1 (spCellL K) := ok__law_cell T
  have O__law_digits : Ok P w K mg base "_law_digits" 1 (spDigits K) := ok__law_digits T
  refine ok_of T.a__law_draw sc_law_draw (fun vs H Q E h => ?_) bi__law_draw fun cdv A outer s H vs Q E hr h => ?_
  · obtain ⟨a, ns, rfl, _⟩ := h
    rfl
  obtain ⟨a, ns, rfl, ha, hQ⟩ := h
  have big : 4000000 ≤ sizeLine := by decide
  refine ⟨_, (pss_cons (ps_set (i := 1) sc_law_draw.nd rfl (by first | exact Or.inl rfl | exact Or.inr rfl) (pe_c (E := EN) O__law_digits hr (by decide) (fun σ => passN σ) (pa_cons (pe_c (E := EN) O__law_cell hr (by decide) (fun σ => passN σ) (pa_cons (pv 0) (pa_cons pe_int pa_nil))) (pa_cons (pe_lst (pa_cons pe_int (pa_cons pe_int pa_nil))) pa_nil))))
  (pss_cons (ps_set (i := 2) sc_law_draw.nd rfl (by first | exact Or.inl rfl | exact Or.inr rfl) (pe_ix (ixL K) (pe_lst (pa_cons pe_int (pa_cons pe_int (pa_cons pe_int (pa_cons pe_int (pa_cons pe_int (pa_cons pe_int (pa_cons pe_int (pa_cons pe_int (pa_cons pe_int (pa_cons pe_int (pa_cons pe_int (pa_cons pe_int (pa_cons pe_int (pa_cons pe_int (pa_cons pe_int pa_nil)))))))))))))))) (pe_ix (ixL K) (pv 1) pe_int (fun _ _ => rfl)) (fun _ _ => rfl)))
  (pss_cons (ps_set (i := 3) sc_law_draw.nd rfl (by first | exact Or.inl rfl | exact Or.inr rfl) (pe_ix (ixL K) (pe_lst (pa_cons pe_int (pa_cons pe_int (pa_cons (pv 2) (pa_cons (pe_op op_add (pe_op op_fdivN (pv 2) pe_int) pe_int) (pa_cons pe_int (pa_cons pe_int (pa_cons pe_int (pa_cons pe_int pa_nil))))))))) (pe_ix (ixL K) (pv 1) pe_int (fun _ _ => rfl)) (fun _ _ => rfl)))
  (pss_one (ps_ret (pe_c (E := EN) O__law_digits hr (by decide) (fun σ => passN σ) (pa_cons (pe_c (E := EN) O__law_cell hr (by decide) (fun σ => passN σ) (pa_cons (pv 0) (pa_cons pe_int pa_nil))) (pa_cons (pe_op op_rep (pe_lst (pa_cons (pv 3) pa_nil)) (pv 2)) pa_nil)))))))), ?_⟩
  refine r_mid (fun σ H1 => Same H H1 ∧ ∃ sh ds, σ = [some (.ref a), some (.ref sh), none, none] ∧ NL H1 sh ds ∧ ds.length = 2 ∧ at0 ds 0 < 15 ∧ at0 ds 1 < 8) (fun D1 hn _ => ?_) ?_
  · refine ⟨_, rfl, a, ns, 0, rfl, ha, fun z => ⟨by show 2 ≤ sizeLine; omega, fun p1 n1 => ?_⟩⟩
    rw [show ([V.int 15, V.int 8] : List V) = nV [15, 8] from rfl]
    have s1 := same_new (o := .lst (nV [15, 8])) n1
    have b1 : upd H p1 (.lst (nV [15, 8])) p1 = some (.lst (nV [15, 8])) := upd_same ..
    generalize upd H p1 (.lst (nV [15, 8])) = H1 at s1 b1
    refine ⟨z, p1, [15, 8], rfl, .inl (.inl b1), by decide, by decide, fun H2 p ds s2 np hp dl db => ?_⟩
    exact hn _ _ ⟨same2 s1 s2, p, ds, rfl, hp, dl, db 0 (by decide), db 1 (by decide)⟩
  rintro σ H1 ⟨s1, sh, ds, rfl, hsh, dl, d0, d1⟩
  refine r_mid (fun σ H2 => Same H1 H2 ∧ ∃ n : Nat, σ = [some (.ref a), some (.ref sh), some (.int (n : Nat)), none] ∧ 0 < n ∧ n ≤ 10) (fun D1 hn _ => ?_) ?_
  · refine ⟨by show 15 ≤ sizeLine; omega, fun p1 n1 => ?_⟩
    rw [show ([V.int 5, V.int 4, V.int 6, V.int 3, V.int 7, V.int 8, V.int 2, V.int 10, V.int 9, V.int 4, V.int 6, V.int 5, V.int 1, V.int 8, V.int 7] : List V) = nV SZ2 from rfl]
    have s2 := same_new (o := .lst (nV SZ2)) n1
    have b2 : upd H1 p1 (.lst (nV SZ2)) p1 = some (.lst (nV SZ2)) := upd_same ..
    generalize upd H1 p1 (.lst (nV SZ2)) = H2 at s2 b2
    refine ⟨_, rfl, sh, _, 0, _, rfl, rfl, .inl (.inl (s2 _ _ hsh)), atI_nat (j := 0) (nV_at0 (i := 0) (by omega)), p1, _, _, _, rfl, rfl, .inl (.inl b2), atI_nat (nV_at0 (show at0 ds 0 < 15 from d0)), ?_⟩
    exact hn _ _ ⟨s2, _, rfl, sz2_ok d0⟩
  rintro σ H2 ⟨s2, n, rfl, n0, n10⟩
  have hsh := s2 _ _ hsh
  refine r_mid (fun σ H3 => Same H2 H3 ∧ ∃ x : Nat, σ = [some (.ref a), some (.ref sh), some (.int (n : Nat)), some (.int (x : Nat))] ∧ 0 < x ∧ x ≤ 10) (fun D1 hn _ => ?_) ?_
  · refine ⟨_, rfl, _, rfl, _, _, rfl, rfl, ⟨by omega, by omega⟩, _, _, rfl, rfl, by show 8 ≤ sizeLine; omega, fun p1 n1 => ?_⟩
    have e : ((n : Nat) : Int).fdiv 2 + 1 = ((n / 2 + 1 : Nat) : Int) := by
      have := fdivN n 2
      push_cast at this ⊢
      omega
    rw [show ([V.int 3, V.int 2, V.int (n : Nat), V.int (((n : Nat) : Int).fdiv 2 + 1), V.int 4, V.int 3, V.int 1, V.int 5] : List V) = nV (WD n) from by rw [e] <;> rfl]
    have s2 := same_new (o := .lst (nV (WD n))) n1
    have b2 : upd H2 p1 (.lst (nV (WD n))) p1 = some (.lst (nV (WD n))) := upd_same ..
    generalize upd H2 p1 (.lst (nV (WD n))) = H3 at s2 b2
    refine ⟨_, rfl, sh, _, 1, _, rfl, rfl, .inl (.inl (s2 _ _ hsh)), atI_nat (j := 1) (nV_at0 (i := 1) (by omega)), p1, _, _, _, rfl, rfl, .inl (.inl b2), atI_nat (nV_at0 (show at0 ds 1 < (WD n).length from d1)), ?_⟩
    exact hn _ _ ⟨s2, _, rfl, wd_ok d1 n0 n10⟩
  rintro σ H3 ⟨s3, x, rfl, x0, x10⟩
  have s03 : Same H H3 := same2 s1 (same2 s2 s3)
  refine ⟨_, rfl, a, ns, 1, rfl, Same.seq s03 ha, fun z => ?_⟩
  refine ⟨_, rfl, by show 1 ≤ sizeLine; omega, fun p4 n4 => ?_⟩
  rw [show ([V.int (x : Nat)] : List V) = nV [x] from rfl]
  have s4 := same_new (o := .lst (nV [x])) n4
  have b4 : upd H3 p4 (.lst (nV [x])) p4 = some (.lst (nV [x])) := upd_same ..
  generalize upd H3 p4 (.lst (nV [x])) = H4 at s4 b4
  refine ⟨_, rfl, p4, ((n : Nat) : Int), _, rfl, rfl, b4, by omega, by omega, by show 1 * _ ≤ _; omega, fun p5 n5 => ?_⟩
  rw [show (List.replicate ((n : Nat) : Int).toNat (nV [x])).flatten = nV (List.replicate n x) from by
    rw [show ((n : Nat) : Int).toNat = n by omega]
    exact repN n x]
  have s5 := same_new (o := .lst (nV (List.replicate n x))) n5
  have b5 : upd H4 p5 (.lst (nV (List.replicate n x))) p5 = some (.lst (nV (List.replicate n x))) := upd_same ..
  generalize upd H4 p5 (.lst (nV (List.replicate n x))) = H5 at s5 b5
  refine ⟨z, p5, List.replicate n x, rfl, .inl (.inl b5), fun y hy => ?_, by rw [List.length_replicate]; omega, fun H6 p ds s6 np hp dl db => ?_⟩
  · rw [(List.mem_replicate.mp hy).2]; omega
  rw [List.length_replicate] at dl
  exact hQ H6 p ds (same2 s03 (same2 s4 (same2 s5 s6))) ((same2 s03 (same2 s4 s5)).free np) hp (by omega) (by omega)
end
end K03
set_option Elab.async false
set_option linter.all false
set_option maxRecDepth 100000
set_option maxHeartbeats 4000000
/-! K03: _law_partb. -/
namespace K03
open PySem PySem.Spec PyProof.Rows L2 Ms Msp LamX
def spPartB (K : PySem.W.Frag) (Pt : Addr) : Sp := fun vs H Q _ => ∃ (a : Addr) (ns : List Int), vs = [.ref a] ∧ SqL K H a (ns.map V.int) ∧ TabS H Pt qLam ∧ ∀ H', Q (.bl true) H'
theorem SightsT.ext {K : PySem.W.Frag} {H H' : Hp} (e : ExtN H H') {t : Addr} {qs : List (List Nat)} (h : SightsT K H t qs) : SightsT K H' t qs := by
  obtain ⟨ps, h1, h2⟩ := h
  exact ⟨ps, e _ _ h1 (fun _ z => by cases z), pimp (fun _ _ _ z => SightAt.ext z e) h2⟩
theorem NL.ext {H H' : Hp} (e : ExtN H H') {l : Addr} {r : List Nat} (h : NL H l r) : NL H' l r := e _ _ h fun _ z => by cases z
theorem SplitsOf.one {r : List Nat} (h : Row r) {qs : List (List Nat)} (s : SplitsOf r qs) : ∀ q ∈ qs, OneL r 1 q := fun q hq => by
  obtain ⟨h1, h2, h3, h4⟩ := (split_iff h).mp (s.2.mem_iff.mp hq)
  exact ⟨h1, h2, by omega, fun _ => h4, fun z => by cases z⟩
theorem MergesOf.one {r : List Nat} (h : Row r) {qs : List (List Nat)} (s : MergesOf r qs) : ∀ q ∈ qs, OneL r (-1) q := fun q hq => by
  obtain ⟨h1, h2, h3, h4⟩ := (merge_iff h).mp (s.2.mem_iff.mp hq)
  exact ⟨h1, h2, by omega, fun z => (by cases z), fun _ => h4⟩
theorem SplitsOf.len {r : List Nat} {qs : List (List Nat)} (s : SplitsOf r qs) : qs.length = (splitRows r).length := by rw [s.2.length_eq, List.length_map]
theorem MergesOf.len {r : List Nat} {qs : List (List Nat)} (s : MergesOf r qs) : 2 * qs.length = nblk r * (nblk r - 1) := by rw [s.2.length_eq, List.length_map, merge_count]
theorem SplitsOf.back {r q : List Nat} (h : Row r) {qs ts : List (List Nat)} (s : SplitsOf r qs) (hq : q ∈ qs) (m : MergesOf q ts) : ts.Nodup ∧ r ∈ ts := by
  obtain ⟨h1, h2, h3, h4⟩ := (split_iff h).mp (s.2.mem_iff.mp hq)
  exact ⟨m.1.imp fun {a b} (z : a < b) (e : a = b) => absurd (e ▸ z) (List.lt_irrefl _), m.2.mem_iff.mpr ((merge_iff h1).mpr ⟨h, h2.symm, by omega, h4⟩)⟩
theorem MergesOf.back {r q : List Nat} (h : Row r) {qs ts : List (List Nat)} (s : MergesOf r qs) (hq : q ∈ qs) (m : SplitsOf q ts) : ts.Nodup ∧ r ∈ ts := by
  obtain ⟨h1, h2, h3, h4⟩ := (merge_iff h).mp (s.2.mem_iff.mp hq)
  exact ⟨m.1.imp fun {a b} (z : a < b) (e : a = b) => absurd (e ▸ z) (List.lt_irrefl _), m.2.mem_iff.mpr ((split_iff h1).mpr ⟨h, h2.symm, by omega, h4⟩)⟩
theorem SplitsOf.few {r : List Nat} (h : Row r) (l : r.length ≤ 10) {qs : List (List Nat)} (s : SplitsOf r qs) : qs.length ≤ 100000 := by
  rw [s.len]
  obtain ⟨f1, f2⟩ := cells_few h l
  have g1 := flat_few r (cellsOf r) f2
  have g2 : (cellsOf r).length * 512 ≤ 10 * 512 := Nat.mul_le_mul_right _ f1
  unfold splitRows
  exact Nat.le_trans g1 (Nat.le_trans g2 (by decide))
theorem MergesOf.few {r : List Nat} (l : r.length ≤ 10) {qs : List (List Nat)} (s : MergesOf r qs) : qs.length ≤ 100 := by
  have h1 := s.len
  have h2 := nblk_few r
  have h3 : nblk r * (nblk r - 1) ≤ 10 * 10 := Nat.mul_le_mul (by omega) (by omega)
  omega
/-- what stands while the part runs -/
structure Bd (K : PySem.W.Frag) (Pt : Addr) (H : Hp) (a g x f c : Addr) (ns : List Int) (r : List Nat) (qs ts : List (List Nat)) : Prop where
  scr : SqL K H a (ns.map V.int)
  row : NL H g r
  sight : SightAt K H x r
  fin : SightsT K H f qs
  coa : SightsT K H c ts
  tab : TabS H Pt qLam
theorem Bd.ext {K : PySem.W.Frag} {Pt : Addr} {H H' : Hp} {a g x f c : Addr} {ns : List Int} {r : List Nat} {qs ts : List (List Nat)} (b : Bd K Pt H a g x f c ns r qs ts) (e : ExtN H H') (t : TabS H' Pt qLam) : Bd K Pt H' a g x f c ns r qs ts :=
  ⟨ExtN.seqL e b.scr, b.row.ext e, b.sight.ext e, b.fin.ext e, b.coa.ext e, t⟩
theorem Bd.same {K : PySem.W.Frag} {Pt : Addr} {H H' : Hp} {a g x f c : Addr} {ns : List Int} {r : List Nat} {qs ts : List (List Nat)} (b : Bd K Pt H a g x f c ns r qs ts) (s : Same H H') : Bd K Pt H' a g x f c ns r qs ts := b.ext (ExtN.of s) (b.tab.ext s)
def TS : List Nat := [511, 511, 511, 45, 45, 45]
section
variable {P : Program} {w : World} {K : PySem.W.Frag} {mg : Str → Option Value} {base : Heap} {c Pt : Addr}
theorem ok__law_partb (T : Tx K mg) (B : TabO K mg base c Pt) : Ok P w K mg base "_law_partb" 6 (spPartB K Pt) := by
  have O__law_cell : Ok P w K mg base "_law_cell" 1 (spCellF K) := ok__law_cellF T
  have O__law_digits : Ok P w K mg base "_law_digits" 1 (spDigits K) := ok__law_digits T
  have O__law_draw : Ok P w K mg base "_law_draw" 2 (spDraw K) := ok__law_draw T
  have O__law_marks : Ok P w K mg base "_law_marks" 1 (spMarks K) := ok__law_marks T
  have O_Sightu__initu_ : COk P w K mg base "Sight" 2 (spInit K) := cok T
  have O_splits : Ok P w K mg base "splits" 5 (spSplits K Pt) := ok_splits T B
  have O_merges : Ok P w K mg base "merges" 5 (spMerges K Pt) := ok_merges T B
  have O__law_listed : Ok P w K mg base "_law_listed" 4 (spListed K) := ok__law_listed T
  have O__law_ways : Ok P w K mg base "_law_ways" 2 (spWays K) := ok__law_ways T
  have O__law_is_all : Ok P w K mg base "_law_is_all" 3 (spIsAll K) := ok__law_is_all T
  have O__law_once : Ok P w K mg base "_law_once" 2 (spOnce K) := ok__law_once T
  have O__law_agrees : Ok P w K mg base "_law_agrees" 3 (spAgrees K) := ok__law_agrees T
  refine ok_of T.a__law_partb sc_law_partb (fun vs H Q E h => ?_) bi__law_partb fun cdv A outer s H vs Q E hr h => ?_
  · obtain ⟨a, ns, rfl, _⟩ := h
    rfl
  obtain ⟨a, ns, rfl, ha, hT, hQ⟩ := h
  have big : 4000000 ≤ sizeLine := by decide
  refine ⟨_, (pss_cons (ps_set (i := 1) sc_law_partb.nd rfl (by first | exact Or.inl rfl | exact Or.inr rfl) (pe_c (E := EN) O__law_draw hr (by decide) (fun σ => passN σ) (pa_cons (pv 0) pa_nil)))
  (pss_cons (ps_set (i := 2) sc_law_partb.nd rfl (by first | exact Or.inl rfl | exact Or.inr rfl) (pe_c (E := EN) O__law_marks hr (by decide) (fun σ => passN σ) (pa_cons (pv 1) pa_nil)))
  (pss_cons (ps_set (i := 3) sc_law_partb.nd rfl (by first | exact Or.inl rfl | exact Or.inr rfl) (pe_nK K (E := EN) O_Sightu__initu_ hr (by decide) (fun σ => passN σ) (pa_cons (pe_lc (own := [("mark", 4)]) (g := gName 4) rfl sc_law_partb.nd (pi_list (pv 1)) (blkOk_by (N := ["script", "marks", "row", "sight", "mark", "many", "finer", "coarser", "turns", "turn", "second", "third"]) (sc := defScope s_law_partb) (by decide +kernel)) (fun _ _ _ _ _ => (pg_name (i := 4) sc_law_partb.nd rfl (by first | exact Or.inl rfl | exact Or.inr rfl))) (fun _ _ _ _ _ => pts_nil) (fun _ _ _ _ _ => (pe_op op_sub (pe_c (E := EN) O__law_cell hr (by decide) (fun σ => passN σ) (pa_cons (pv 0) (pa_cons pe_int pa_nil))) (pe_op op_mul pe_int (pv 4))))) pa_nil)))
  (pss_cons (ps_set (i := 5) sc_law_partb.nd rfl (by first | exact Or.inl rfl | exact Or.inr rfl) (pe_op op_add (pe_callB (maxLK K (hc := rfl)) (by rfl) T.f_max (by decide +kernel) (pa_cons (pv 2) pa_nil)) pe_int))
  (pss_cons (ps_set (i := 6) sc_law_partb.nd rfl (by first | exact Or.inl rfl | exact Or.inr rfl) (pe_c (E := EN) O_splits hr (by decide) (fun σ => passN σ) (pa_cons (pv 3) pa_nil)))
  (pss_cons (ps_set (i := 7) sc_law_partb.nd rfl (by first | exact Or.inl rfl | exact Or.inr rfl) (pe_c (E := EN) O_merges hr (by decide) (fun σ => passN σ) (pa_cons (pv 3) pa_nil)))
  (pss_cons (ps_if (pt_not (pt_val (pe_c (E := EN) O__law_listed hr (by decide) (fun σ => passN σ) (pa_cons (pv 6) (pa_cons (pv 2) (pa_cons pe_int (pa_cons (pe_c (E := EN) O__law_ways hr (by decide) (fun σ => passN σ) (pa_cons (pv 2) pa_nil)) pa_nil)))))))
  (pss_one (ps_ret pe_bl))
  pss_nil)
  (pss_cons (ps_if (pt_not (pt_val (pe_c (E := EN) O__law_listed hr (by decide) (fun σ => passN σ) (pa_cons (pv 7) (pa_cons (pv 2) (pa_cons (pe_un un_neg pe_int) (pa_cons (pe_op op_fdivN (pe_op op_mul (pv 5) (pe_op op_sub (pv 5) pe_int)) pe_int) pa_nil)))))))
  (pss_one (ps_ret pe_bl))
  pss_nil)
  (pss_cons (ps_if (PW.pt (pw_and (pt_cmpR op_le (pe_callB (lenK K) (by rfl) T.f_len boot_len (pa_cons (pv 2) pa_nil)) pe_int (nomark _)) (pw_and1 (pt_not (pt_val (pe_c (E := EN) O__law_is_all hr (by decide) (fun σ => passN σ) (pa_cons (pv 6) (pa_cons (pv 7) (pa_cons (pv 2) pa_nil)))))))))
  (pss_one (ps_ret pe_bl))
  pss_nil)
  (pss_cons (ps_set (i := 8) sc_law_partb.nd rfl (by first | exact Or.inl rfl | exact Or.inr rfl) (pe_c (E := EN) O__law_digits hr (by decide) (fun σ => passN σ) (pa_cons (pe_c (E := EN) O__law_cell hr (by decide) (fun σ => passN σ) (pa_cons (pv 0) (pa_cons pe_int pa_nil))) (pa_cons (pe_lst (pa_cons pe_int (pa_cons pe_int (pa_cons pe_int (pa_cons pe_int (pa_cons pe_int (pa_cons pe_int pa_nil))))))) pa_nil))))
  (pss_cons (ps_if (pt_cmpR op_gt (pe_callB (lenK K) (by rfl) T.f_len boot_len (pa_cons (pv 6) pa_nil)) pe_int (nomark _))
  (pss_one (ps_for PassesOwn.never rfl (pi_list (pe_op op_cat (pe_lst (pa_cons pe_int (pa_cons (pe_op op_sub (pe_callB (lenK K) (by rfl) T.f_len boot_len (pa_cons (pv 6) pa_nil)) pe_int) pa_nil))) (pe_slice sl_list (pv 8) po_none (po_some pe_int)))) (pg_name (i := 9) sc_law_partb.nd rfl (by first | exact Or.inl rfl | exact Or.inr rfl))
    (pss_one (ps_if (pt_not (pt_val (pe_c (E := EN) O__law_once hr (by decide) (fun σ => passN σ) (pa_cons (pe_c (E := EN) O_merges hr (by decide) (fun σ => passN σ) (pa_cons (pe_ix (ixT K) (pv 6) (pe_op op_modN (pe_callTy call_int1 (by rfl) T.f_int (by decide +kernel) (pa_cons (pv 9) pa_nil)) (pe_callB (lenK K) (by rfl) T.f_len boot_len (pa_cons (pv 6) pa_nil))) (fun _ _ => rfl)) pa_nil)) (pa_cons (pv 3) pa_nil)))))
      (pss_one (ps_ret pe_bl))
      pss_nil))))
  pss_nil)
  (pss_cons (ps_if (pt_cmpR op_gt (pe_callB (lenK K) (by rfl) T.f_len boot_len (pa_cons (pv 7) pa_nil)) pe_int (nomark _))
  (pss_one (ps_for PassesOwn.never rfl (pi_list (pe_op op_cat (pe_lst (pa_cons pe_int (pa_cons (pe_op op_sub (pe_callB (lenK K) (by rfl) T.f_len boot_len (pa_cons (pv 7) pa_nil)) pe_int) pa_nil))) (pe_slice sl_list (pv 8) (po_some pe_int) po_none))) (pg_name (i := 9) sc_law_partb.nd rfl (by first | exact Or.inl rfl | exact Or.inr rfl))
    (pss_one (ps_if (pt_not (pt_val (pe_c (E := EN) O__law_once hr (by decide) (fun σ => passN σ) (pa_cons (pe_c (E := EN) O_splits hr (by decide) (fun σ => passN σ) (pa_cons (pe_ix (ixT K) (pv 7) (pe_op op_modN (pe_callTy call_int1 (by rfl) T.f_int (by decide +kernel) (pa_cons (pv 9) pa_nil)) (pe_callB (lenK K) (by rfl) T.f_len boot_len (pa_cons (pv 7) pa_nil))) (fun _ _ => rfl)) pa_nil)) (pa_cons (pv 3) pa_nil)))))
      (pss_one (ps_ret pe_bl))
      pss_nil))))
  pss_nil)
  (pss_cons (ps_set (i := 10) sc_law_partb.nd rfl (by first | exact Or.inl rfl | exact Or.inr rfl) (pe_c (E := EN) O__law_digits hr (by decide) (fun σ => passN σ) (pa_cons (pe_c (E := EN) O__law_cell hr (by decide) (fun σ => passN σ) (pa_cons (pv 0) (pa_cons pe_int pa_nil))) (pa_cons (pe_op op_rep (pe_lst (pa_cons pe_int pa_nil)) (pe_op op_add pe_int (pe_op op_modN (pe_callTy call_int1 (by rfl) T.f_int (by decide +kernel) (pa_cons (pe_c (E := EN) O__law_cell hr (by decide) (fun σ => passN σ) (pa_cons (pv 0) (pa_cons pe_int pa_nil))) pa_nil)) pe_int))) pa_nil))))
  (pss_cons (ps_set (i := 11) sc_law_partb.nd rfl (by first | exact Or.inl rfl | exact Or.inr rfl) (pe_c (E := EN) O__law_marks hr (by decide) (fun σ => passN σ) (pa_cons (pv 10) pa_nil)))
  (pss_cons (ps_if (pt_not (pt_val (pe_c (E := EN) O__law_listed hr (by decide) (fun σ => passN σ) (pa_cons (pe_c (E := EN) O_splits hr (by decide) (fun σ => passN σ) (pa_cons (pe_nK K (E := EN) O_Sightu__initu_ hr (by decide) (fun σ => passN σ) (pa_cons (pv 10) pa_nil)) pa_nil)) (pa_cons (pv 11) (pa_cons pe_int (pa_cons (pe_c (E := EN) O__law_ways hr (by decide) (fun σ => passN σ) (pa_cons (pv 11) pa_nil)) pa_nil)))))))
  (pss_one (ps_ret pe_bl))
  pss_nil)
  (pss_cons (ps_if (pt_not (pt_val (pe_c (E := EN) O__law_listed hr (by decide) (fun σ => passN σ) (pa_cons (pe_c (E := EN) O_merges hr (by decide) (fun σ => passN σ) (pa_cons (pe_nK K (E := EN) O_Sightu__initu_ hr (by decide) (fun σ => passN σ) (pa_cons (pv 10) pa_nil)) pa_nil)) (pa_cons (pv 11) (pa_cons (pe_un un_neg pe_int) (pa_cons (pe_op op_fdivN (pe_op op_mul (pe_callB (maxLK K (hc := rfl)) (by rfl) T.f_max (by decide +kernel) (pa_cons (pv 11) pa_nil)) (pe_op op_add (pe_callB (maxLK K (hc := rfl)) (by rfl) T.f_max (by decide +kernel) (pa_cons (pv 11) pa_nil)) pe_int)) pe_int) pa_nil)))))))
  (pss_one (ps_ret pe_bl))
  pss_nil)
  (pss_cons (ps_if (PW.pt (pw_or (pt_not (pt_val (pe_c (E := EN) O__law_listed hr (by decide) (fun σ => passN σ) (pa_cons (pe_c (E := EN) O_splits hr (by decide) (fun σ => passN σ) (pa_cons (pv 3) pa_nil)) (pa_cons (pv 2) (pa_cons pe_int (pa_cons (pe_callB (lenK K) (by rfl) T.f_len boot_len (pa_cons (pv 6) pa_nil)) pa_nil))))))) (pw_or1 (pt_not (pt_val (pe_c (E := EN) O__law_listed hr (by decide) (fun σ => passN σ) (pa_cons (pe_c (E := EN) O_merges hr (by decide) (fun σ => passN σ) (pa_cons (pv 3) pa_nil)) (pa_cons (pv 2) (pa_cons (pe_un un_neg pe_int) (pa_cons (pe_callB (lenK K) (by rfl) T.f_len boot_len (pa_cons (pv 7) pa_nil)) pa_nil))))))))))
  (pss_one (ps_ret pe_bl))
  pss_nil)
  (pss_one (ps_ret (pe_c (E := EN) O__law_agrees hr (by decide) (fun σ => passN σ) (pa_cons (pv 3) (pa_cons (pv 2) pa_nil)))))))))))))))))))))), ?_⟩
  -- marks
  refine r_mid (fun σ H1 => Same H H1 ∧ ∃ m ds, σ = [some (.ref a), some (.ref m), none, none, none, none, none, none, none, none, none, none] ∧ NL H1 m ds ∧ 0 < ds.length ∧ ds.length ≤ 10) (fun D1 hn _ => ?_) ?_
  · exact ⟨_, rfl, a, ns, rfl, ha, fun H1 m ds s1 nm hm d0 d10 => hn _ _ ⟨s1, m, ds, rfl, hm, d0, d10⟩⟩
  rintro σ H1 ⟨s1, m, ds, rfl, hm, d0, d10⟩
  -- row
  refine r_mid (fun σ H2 => Same H1 H2 ∧ ∃ g, σ = [some (.ref a), some (.ref m), some (.ref g), none, none, none, none, none, none, none, none, none] ∧ NL H2 g (ren ds)) (fun D1 hn _ => ?_) ?_
  · refine ⟨_, rfl, m, (cI ds).map V.int, ren ds, rfl, ?_, by rw [← nV_cI]; exact .inl (.inl hm), .inl ⟨cI ds, rfl, (ren_cI ds).symm⟩, fun H2 g s2 ng hg => hn _ _ ⟨s2, g, rfl, hg⟩⟩
    rw [← nV_cI, nV_len]; omega
  rintro σ H2 ⟨s2, g, rfl, hg⟩
  have hm2 := s2 _ _ hm
  have ha2 := Same.seq (same2 s1 s2) ha
  have hT2 := hT.ext (same2 s1 s2)
  obtain ⟨r, er⟩ : ∃ r, r = ren ds := ⟨_, rfl⟩
  have hw : Row r := er ▸ row_ren ds
  have r0 : 0 < r.length := by rw [er, ren_len]; exact d0
  have r10 : r.length ≤ 10 := by rw [er, ren_len]; exact d10
  rw [← er] at hg
  have rne : r ≠ [] := List.length_pos_iff.mp r0
  have emx := mx_nblk hw rne
  have nb := nblk_few r
  -- sight
  refine r_mid (fun σ H3 => Same H2 H3 ∧ ∃ x, σ = [some (.ref a), some (.ref m), some (.ref g), some (.ref x), none, none, none, none, none, none, none, none] ∧ SightAt K H3 x r) (fun D1 hn _ => ?_) ?_
  · refine ⟨_, rfl, m, rfl, ⟨_, .inl (.inl hm2)⟩, fun D nD => ?_⟩
    obtain ⟨zs, ez⟩ : ∃ zs : List Int, zs = ds.map fun d => cellF ns 5 - 2 * ((d : Nat) : Int) := ⟨_, rfl⟩
    have lz : zs.length = ds.length := by rw [ez, List.length_map]
    refine lc_it (walk_list (K := K) (a := m) (xs := nV ds)) (fun i H' => Same H2 H' ∧ H' D = some (.lst ((zs.take i).map V.int))) ⟨same_new nD, upd_same ..⟩ (fun i H' _ h => .inl (.inl (h.1 _ _ hm2))) ?_ ?_
    · rintro i x _ H3 hi ⟨s3, d3⟩ ⟨rfl, ex⟩
      rw [nV_len] at hi
      have hx : x = .int (at0 ds i : Nat) := by
        have ex : (nV ds)[i]? = some x := ex
        rw [nV_at0 hi] at ex
        exact (Option.some.inj ex).symm
      subst hx
      refine ⟨rfl, _, rfl, a, ns, 5, rfl, Same.seq s3 ha2, _, rfl, _, _, rfl, rfl, .inl ⟨by decide, by decide⟩, _, _, rfl, rfl, ?_⟩
      refine ⟨_, d3, by rw [List.length_map, List.length_take]; omega, same_put nD s3, ?_⟩
      have ei : zs[i]? = some (cellF ns 5 - 2 * ((at0 ds i : Nat) : Int)) := by rw [ez, List.getElem?_map, of_at0 hi] <;> rfl
      rw [upd_same, List.take_add_one, ei, List.map_append] <;> rfl
    · rintro H3 ⟨s3, d3⟩
      rw [nV_len, List.take_of_length_le (by omega)] at d3
      have er2 : ren zs = r := by
        rw [ez, er, ← ren_cI ds]
        have : (ds.map fun d => cellF ns 5 - 2 * ((d : Nat) : Int)) = (cI ds).map fun d => cellF ns 5 - 2 * d := by
          unfold cI
          rw [List.map_map] <;> rfl
        rw [this]
        exact ren_map fun a b e => by omega
      have hmk : MarksAt K H3 D (ren zs) := ⟨_, by rw [List.length_map]; omega, .inl ⟨zs, rfl, rfl, .inl (.inl (.inl d3))⟩⟩
      rw [er2] at hmk
      exact make_fin hmk (fun _ H' p s4 np hs => hn _ _ ⟨same2 s3 s4, p, rfl, hs⟩) (fun e => absurd e (by omega))
  rintro σ H3 ⟨s3, x, rfl, hx⟩
  -- many
  refine r_mid (fun σ H4 => H4 = H3 ∧ σ = [some (.ref a), some (.ref m), some (.ref g), some (.ref x), none, some (.int (nblk r : Nat)), none, none, none, none, none, none]) (fun D1 hn _ => ?_) ?_
  · refine ⟨_, rfl, g, cI r, rfl, by rw [← nV_cI]; exact .inl (.inl (s3 _ _ hg)), cI_pos rne, fun mz hmz hz => ?_⟩
    obtain rfl := max_mx rne hmz hz
    have e : ((mx r : Nat) : Int) + 1 = ((nblk r : Nat) : Int) := by omega
    exact ⟨_, _, rfl, rfl, hn _ _ ⟨rfl, by rw [← e] <;> rfl⟩⟩
  rintro σ H4 ⟨rfl, rfl⟩
  have ha3 := Same.seq s3 ha2
  have hg3 := s3 _ _ hg
  have hT3 := hT2.ext s3
  -- finer
  refine r_mid (fun σ H5 => ExtN H4 H5 ∧ TabS H5 Pt qLam ∧ ∃ f qs, σ = [some (.ref a), some (.ref m), some (.ref g), some (.ref x), none, some (.int (nblk r : Nat)), some (.ref f), none, none, none, none, none] ∧ SightsT K H5 f qs ∧ SplitsOf r qs) (fun D1 hn _ => ?_) ?_
  · exact ⟨_, rfl, x, r, rfl, hx, r10, hT3, fun H5 f qs e5 t5 hf sq => hn _ _ ⟨e5, t5, f, qs, rfl, hf, sq⟩⟩
  rintro σ H5 ⟨e5, t5, f, qs, rfl, hf, sq⟩
  -- coarser
  refine r_mid (fun σ H6 => ∃ c ts, σ = [some (.ref a), some (.ref m), some (.ref g), some (.ref x), none, some (.int (nblk r : Nat)), some (.ref f), some (.ref c), none, none, none, none] ∧ MergesOf r ts ∧ Bd K Pt H6 a g x f c ns r qs ts) (fun D1 hn _ => ?_) ?_
  · exact ⟨_, rfl, x, r, rfl, hx.ext e5, r10, t5, fun H6 c ts e6 t6 hc st => hn _ _ ⟨c, ts, rfl, st, ExtN.seqL (e5.trans e6) ha3, NL.ext (e5.trans e6) hg3, hx.ext (e5.trans e6), hf.ext e6, hc, t6⟩⟩
  rintro σ H6 ⟨c', ts, rfl, st, bd⟩
  have oq := sq.one hw
  have ot := st.one hw
  have fq := sq.few hw r10
  have ft := st.few r10
  have lq := sq.len
  have lt := st.len
  have emn : (((nblk r : Nat) : Int) * ((nblk r : Nat) - 1)).fdiv 2 = (ts.length : Nat) := by
    have n1 : 1 ≤ nblk r := by omega
    have e1 : ((nblk r : Nat) : Int) * ((nblk r : Nat) - 1) = ((2 * ts.length : Nat) : Int) := by rw [lt]; push_cast [n1]; rfl
    rw [e1, show (2 : Int) = ((2 : Nat) : Int) from rfl, fdivN, Nat.mul_div_cancel_left _ (by decide)]
  -- listed
  refine r_mid (fun σ H7 => Bd K Pt H7 a g x f c' ns r qs ts ∧ σ = [some (.ref a), some (.ref m), some (.ref g), some (.ref x), none, some (.int (nblk r : Nat)), some (.ref f), some (.ref c'), none, none, none, none]) (fun D1 hn _ => ?_) ?_
  · refine ⟨_, rfl, _, rfl, _, rfl, g, r, rfl, bd.row, hw, r0, r10, fun H7 s7 => ?_⟩
    have b7 := bd.same s7
    refine ⟨f, g, r, qs, 1, by rw [lq], b7.fin, b7.row, hw, r0, by omega, .inl rfl, oq, sq.1, fun H8 s8 => ⟨true, rfl, iteF ?_⟩⟩
    exact hn _ _ ⟨b7.same s8, rfl⟩
  rintro σ H7 ⟨bd, rfl⟩
  refine r_mid (fun σ H8 => Bd K Pt H8 a g x f c' ns r qs ts ∧ σ = [some (.ref a), some (.ref m), some (.ref g), some (.ref x), none, some (.int (nblk r : Nat)), some (.ref f), some (.ref c'), none, none, none, none]) (fun D1 hn _ => ?_) ?_
  · refine ⟨_, rfl, _, rfl, _, rfl, _, rfl, _, rfl, _, _, rfl, rfl, _, _, rfl, rfl, .inl ⟨by omega, by omega⟩, _, _, rfl, rfl, ⟨by decide, by decide⟩, ?_⟩
    refine ⟨c', g, r, ts, -1, by rw [← emn], bd.coa, bd.row, hw, r0, by omega, .inr rfl, ot, st.1, fun H8 s8 => ⟨true, rfl, iteF ?_⟩⟩
    exact hn _ _ ⟨bd.same s8, rfl⟩
  rintro σ H8 ⟨bd, rfl⟩
  -- all of them
  refine r_mid (fun σ H9 => Bd K Pt H9 a g x f c' ns r qs ts ∧ σ = [some (.ref a), some (.ref m), some (.ref g), some (.ref x), none, some (.int (nblk r : Nat)), some (.ref f), some (.ref c'), none, none, none, none]) (fun D1 hn _ => ?_) ?_
  · refine ⟨_, rfl, g, _, rfl, .inl (.inl (.inl bd.row)), _, _, rfl, rfl, _, rfl, ?_⟩
    rw [nV_len]
    by_cases h6 : r.length ≤ 6
    · rw [decide_eq_true (show ((r.length : Nat) : Int) ≤ 6 by omega)]
      refine iteT ?_
      exact ⟨_, rfl, _, rfl, _, rfl, f, c', g, qs, ts, r, rfl, bd.fin, bd.coa, bd.row, hw, r0, h6, sq, st, fun H9 s9 => ⟨true, rfl, iteF (hn _ _ ⟨bd.same s9, rfl⟩)⟩⟩
    · rw [decide_eq_false (show ¬ ((r.length : Nat) : Int) ≤ 6 by omega)]
      exact iteF (iteF (hn _ _ ⟨bd, rfl⟩))
  rintro σ H9 ⟨bd, rfl⟩
  -- turns
  refine r_mid (fun σ H10 => Bd K Pt H10 a g x f c' ns r qs ts ∧ ∃ t us, σ = [some (.ref a), some (.ref m), some (.ref g), some (.ref x), none, some (.int (nblk r : Nat)), some (.ref f), some (.ref c'), some (.ref t), none, none, none] ∧ NL H10 t us ∧ us.length = 6) (fun D1 hn _ => ?_) ?_
  · refine ⟨_, rfl, a, ns, 2, rfl, bd.scr, by show 6 ≤ sizeLine; omega, fun p1 n1 => ?_⟩
    rw [show ([V.int 511, V.int 511, V.int 511, V.int 45, V.int 45, V.int 45] : List V) = nV TS from rfl]
    have s1 := same_new (o := .lst (nV TS)) n1
    have b1 : upd H9 p1 (.lst (nV TS)) p1 = some (.lst (nV TS)) := upd_same ..
    generalize upd H9 p1 (.lst (nV TS)) = H1 at s1 b1
    exact ⟨_, p1, TS, rfl, .inl (.inl b1), by decide, by decide, fun H10 t us s2 np ht dl db => hn _ _ ⟨bd.same (same2 s1 s2), t, us, rfl, ht, dl⟩⟩
  rintro σ H10 ⟨bd, t, us, rfl, ht, lus⟩
  -- there and back
  refine r_mid (fun σ H11 => Bd K Pt H11 a g x f c' ns r qs ts ∧ NL H11 t us ∧ ∃ x9, σ = [some (.ref a), some (.ref m), some (.ref g), some (.ref x), none, some (.int (nblk r : Nat)), some (.ref f), some (.ref c'), some (.ref t), x9, none, none]) (fun D1 hn _ => ?_) ?_
  · obtain ⟨ps, g1, g2⟩ := bd.fin
    have lps : ps.length = qs.length := Paired.length g2
    refine ⟨_, rfl, f, _, rfl, .inr (.inl (.inl g1)), _, _, rfl, rfl, _, rfl, ?_⟩
    rw [List.length_map, lps]
    by_cases h0 : 0 < qs.length
    · rw [decide_eq_true (show (0 : Int) < ((qs.length : Nat) : Int) by omega)]
      refine iteT ?_
      refine ⟨_, rfl, f, _, rfl, .inr (.inl (.inl g1)), _, _, rfl, rfl, by show 2 ≤ sizeLine; omega, fun p1 n1 => ?_⟩
      rw [show ([V.int 0, V.int (((ps.map V.ref).length : Nat) - 1)] : List V) = nV [0, qs.length - 1] from by
        have e : (((ps.map V.ref).length : Nat) : Int) - 1 = ((qs.length - 1 : Nat) : Int) := by rw [List.length_map]; omega
        rw [e] <;> rfl]
      have s1 := same_new (o := .lst (nV [0, qs.length - 1])) n1
      have b1 : upd H10 p1 (.lst (nV [0, qs.length - 1])) p1 = some (.lst (nV [0, qs.length - 1])) := upd_same ..
      generalize upd H10 p1 (.lst (nV [0, qs.length - 1])) = H1 at s1 b1
      have ht := s1 _ _ ht
      refine ⟨_, rfl, _, rfl, t, _, rfl, .inl (.inl ht), fun p2 n2 => ?_⟩
      rw [show cutV (nV us) none (some 3) = nV (us.take 3) from (cut_to2 (nV us) (n := 3)).trans List.map_take.symm]
      have s2 := same_new (o := .lst (nV (us.take 3))) n2
      have b2 : upd H1 p2 (.lst (nV (us.take 3))) p2 = some (.lst (nV (us.take 3))) := upd_same ..
      generalize upd H1 p2 (.lst (nV (us.take 3))) = H2 at s2 b2
      have b1 := s2 _ _ b1
      have ht := s2 _ _ ht
      refine ⟨p1, p2, _, _, rfl, rfl, b1, b2, by rw [nV_len, nV_len, List.length_take]; show 2 + _ ≤ _; omega, fun p3 n3 => ?_⟩
      rw [show nV [0, qs.length - 1] ++ nV (us.take 3) = nV ([0, qs.length - 1] ++ us.take 3) from List.map_append.symm]
      obtain ⟨ws, ew⟩ : ∃ ws, ws = [0, qs.length - 1] ++ us.take 3 := ⟨_, rfl⟩
      rw [← ew]
      have s3 := same_new (o := .lst (nV ws)) n3
      have b3 : upd H2 p3 (.lst (nV ws)) p3 = some (.lst (nV ws)) := upd_same ..
      generalize upd H2 p3 (.lst (nV ws)) = H3 at s3 b3
      have ht := s3 _ _ ht
      have b3' := bd.same (same2 s1 (same2 s2 s3))
      refine ⟨p3, rfl, ⟨_, .inl (.inl b3)⟩, ?_⟩
      refine for_it (walk_list (K := K) (a := p3) (xs := nV ws)) (fun i σ H' => NL H' p3 ws ∧ Bd K Pt H' a g x f c' ns r qs ts ∧ NL H' t us ∧ ∃ x9, σ = [some (.ref a), some (.ref m), some (.ref g), some (.ref x), none, some (.int (nblk r : Nat)), some (.ref f), some (.ref c'), some (.ref t), x9, none, none]) ⟨b3, b3', ht, _, rfl⟩ (fun i σ H' _ h => .inl (.inl h.1)) ?_ ?_
      · rintro i y σ _ H4 hi ⟨w4, b4, t4, x9, rfl⟩ ⟨rfl, ex⟩
        rw [nV_len] at hi
        have hy : y = .int (at0 ws i : Nat) := by
          have ex : (nV ws)[i]? = some y := ex
          rw [nV_at0 hi] at ex
          exact (Option.some.inj ex).symm
        subst hy
        obtain ⟨ps, g1, g2⟩ := id b4.fin
        have lps : ps.length = qs.length := Paired.length g2
        obtain ⟨p, q, v1, v2, v3⟩ := pget2 g2 (i := at0 ws i % qs.length) (by rw [lps]; exact Nat.mod_lt _ h0)
        have mq := List.mem_of_getElem? v2
        have lq10 : q.length ≤ 10 := by rw [(oq q mq).2.1]; exact r10
        refine ⟨_, rfl, _, rfl, .inl ⟨_, rfl, _, rfl, f, _, rfl, .inr (.inl (.inl g1)), _, _, rfl, rfl, by rw [List.length_map]; omega, ?_⟩⟩
        refine ⟨f, _, ((at0 ws i % qs.length : Nat) : Int), .ref p, rfl, by rw [List.length_map, lps]; exact congrArg V.int (fmodN _ _), .inl (.inl g1), atI_nat (by rw [List.getElem?_map, v1] <;> rfl), p, q, rfl, v3, lq10, b4.tab, fun H9 t' us' e9 t9 hs9 m9 => ?_⟩
        have b9 := b4.ext e9 t9
        obtain ⟨nd, mr⟩ := sq.back hw mq m9
        refine ⟨_, rfl, t', x, us', r, rfl, hs9, Nat.le_trans (m9.few lq10) (by decide), b9.sight, nd, mr, fun H10 s10 => ⟨true, rfl, iteF ?_⟩⟩
        exact ⟨s10 _ _ (w4.ext e9), b9.same s10, s10 _ _ (t4.ext e9), _, rfl⟩
      · rintro σ H4 ⟨w4, b4, t4, x9, rfl⟩
        exact hn _ _ ⟨b4, t4, _, rfl⟩
    · rw [decide_eq_false (show ¬ (0 : Int) < ((qs.length : Nat) : Int) by omega)]
      exact iteF (hn _ _ ⟨bd, ht, _, rfl⟩)
  rintro σ H11 ⟨bd, ht, x9, rfl⟩
  -- back and there
  refine r_mid (fun σ H12 => Bd K Pt H12 a g x f c' ns r qs ts ∧ NL H12 t us ∧ ∃ x9, σ = [some (.ref a), some (.ref m), some (.ref g), some (.ref x), none, some (.int (nblk r : Nat)), some (.ref f), some (.ref c'), some (.ref t), x9, none, none]) (fun D1 hn _ => ?_) ?_
  · obtain ⟨ps, g1, g2⟩ := bd.coa
    have lps : ps.length = ts.length := Paired.length g2
    refine ⟨_, rfl, c', _, rfl, .inr (.inl (.inl g1)), _, _, rfl, rfl, _, rfl, ?_⟩
    rw [List.length_map, lps]
    by_cases h0 : 0 < ts.length
    · rw [decide_eq_true (show (0 : Int) < ((ts.length : Nat) : Int) by omega)]
      refine iteT ?_
      refine ⟨_, rfl, c', _, rfl, .inr (.inl (.inl g1)), _, _, rfl, rfl, by show 2 ≤ sizeLine; omega, fun p1 n1 => ?_⟩
      rw [show ([V.int 0, V.int (((ps.map V.ref).length : Nat) - 1)] : List V) = nV [0, ts.length - 1] from by
        have e : (((ps.map V.ref).length : Nat) : Int) - 1 = ((ts.length - 1 : Nat) : Int) := by rw [List.length_map]; omega
        rw [e] <;> rfl]
      have s1 := same_new (o := .lst (nV [0, ts.length - 1])) n1
      have b1 : upd H11 p1 (.lst (nV [0, ts.length - 1])) p1 = some (.lst (nV [0, ts.length - 1])) := upd_same ..
      generalize upd H11 p1 (.lst (nV [0, ts.length - 1])) = H1 at s1 b1
      have ht := s1 _ _ ht
      refine ⟨_, rfl, _, rfl, t, _, rfl, .inl (.inl ht), fun p2 n2 => ?_⟩
      rw [show cutV (nV us) (some 3) none = nV (us.drop 3) from (cut_from2 (nV us) (n := 3)).trans nV_drop]
      have s2 := same_new (o := .lst (nV (us.drop 3))) n2
      have b2 : upd H1 p2 (.lst (nV (us.drop 3))) p2 = some (.lst (nV (us.drop 3))) := upd_same ..
      generalize upd H1 p2 (.lst (nV (us.drop 3))) = H2 at s2 b2
      have b1 := s2 _ _ b1
      have ht := s2 _ _ ht
      refine ⟨p1, p2, _, _, rfl, rfl, b1, b2, by rw [nV_len, nV_len, List.length_drop]; show 2 + _ ≤ _; omega, fun p3 n3 => ?_⟩
      rw [show nV [0, ts.length - 1] ++ nV (us.drop 3) = nV ([0, ts.length - 1] ++ us.drop 3) from List.map_append.symm]
      obtain ⟨ws, ew⟩ : ∃ ws, ws = [0, ts.length - 1] ++ us.drop 3 := ⟨_, rfl⟩
      rw [← ew]
      have s3 := same_new (o := .lst (nV ws)) n3
      have b3 : upd H2 p3 (.lst (nV ws)) p3 = some (.lst (nV ws)) := upd_same ..
      generalize upd H2 p3 (.lst (nV ws)) = H3 at s3 b3
      have ht := s3 _ _ ht
      have b3' := bd.same (same2 s1 (same2 s2 s3))
      refine ⟨p3, rfl, ⟨_, .inl (.inl b3)⟩, ?_⟩
      refine for_it (walk_list (K := K) (a := p3) (xs := nV ws)) (fun i σ H' => NL H' p3 ws ∧ Bd K Pt H' a g x f c' ns r qs ts ∧ NL H' t us ∧ ∃ x9, σ = [some (.ref a), some (.ref m), some (.ref g), some (.ref x), none, some (.int (nblk r : Nat)), some (.ref f), some (.ref c'), some (.ref t), x9, none, none]) ⟨b3, b3', ht, _, rfl⟩ (fun i σ H' _ h => .inl (.inl h.1)) ?_ ?_
      · rintro i y σ _ H4 hi ⟨w4, b4, t4, x9, rfl⟩ ⟨rfl, ex⟩
        rw [nV_len] at hi
        have hy : y = .int (at0 ws i : Nat) := by
          have ex : (nV ws)[i]? = some y := ex
          rw [nV_at0 hi] at ex
          exact (Option.some.inj ex).symm
        subst hy
        obtain ⟨ps, g1, g2⟩ := id b4.coa
        have lps : ps.length = ts.length := Paired.length g2
        obtain ⟨p, q, v1, v2, v3⟩ := pget2 g2 (i := at0 ws i % ts.length) (by rw [lps]; exact Nat.mod_lt _ h0)
        have mq := List.mem_of_getElem? v2
        have lq10 : q.length ≤ 10 := by rw [(ot q mq).2.1]; exact r10
        refine ⟨_, rfl, _, rfl, .inl ⟨_, rfl, _, rfl, c', _, rfl, .inr (.inl (.inl g1)), _, _, rfl, rfl, by rw [List.length_map]; omega, ?_⟩⟩
        refine ⟨c', _, ((at0 ws i % ts.length : Nat) : Int), .ref p, rfl, by rw [List.length_map, lps]; exact congrArg V.int (fmodN _ _), .inl (.inl g1), atI_nat (by rw [List.getElem?_map, v1] <;> rfl), p, q, rfl, v3, lq10, b4.tab, fun H9 t' us' e9 t9 hs9 m9 => ?_⟩
        have b9 := b4.ext e9 t9
        obtain ⟨nd, mr⟩ := st.back hw mq m9
        refine ⟨_, rfl, t', x, us', r, rfl, hs9, Nat.le_trans (m9.few (ot q mq).1 lq10) (by decide), b9.sight, nd, mr, fun H10 s10 => ⟨true, rfl, iteF ?_⟩⟩
        exact ⟨s10 _ _ (w4.ext e9), b9.same s10, s10 _ _ (t4.ext e9), _, rfl⟩
      · rintro σ H4 ⟨w4, b4, t4, x9, rfl⟩
        exact hn _ _ ⟨b4, t4, _, rfl⟩
    · rw [decide_eq_false (show ¬ (0 : Int) < ((ts.length : Nat) : Int) by omega)]
      exact iteF (hn _ _ ⟨bd, ht, _, rfl⟩)
  rintro σ H12 ⟨bd, ht, x9, rfl⟩
  -- second
  refine r_mid (fun σ H13 => Bd K Pt H13 a g x f c' ns r qs ts ∧ ∃ v es, σ = [some (.ref a), some (.ref m), some (.ref g), some (.ref x), none, some (.int (nblk r : Nat)), some (.ref f), some (.ref c'), some (.ref t), x9, some (.ref v), none] ∧ NL H13 v es ∧ 0 < es.length ∧ es.length ≤ 5) (fun D1 hn _ => ?_) ?_
  · refine ⟨_, rfl, a, ns, 3, rfl, bd.scr, by show 1 ≤ sizeLine; omega, fun p1 n1 => ?_⟩
    rw [show ([V.int 3] : List V) = nV [3] from rfl]
    have s1 := same_new (o := .lst (nV [3])) n1
    have b1 : upd H12 p1 (.lst (nV [3])) p1 = some (.lst (nV [3])) := upd_same ..
    generalize upd H12 p1 (.lst (nV [3])) = H1 at s1 b1
    have b1' := bd.same s1
    refine ⟨_, rfl, a, ns, 4, rfl, b1'.scr, .inl ⟨_, rfl, _, _, rfl, rfl, by show (5 : Int) ≠ 0; decide, _, _, rfl, rfl, ?_⟩⟩
    have h1 : 0 ≤ (cellF ns 4).fmod 5 := Int.fmod_nonneg_of_pos _ (by decide)
    have h2 : (cellF ns 4).fmod 5 < 5 := Int.fmod_lt_of_pos _ (by decide)
    have ek : ((1 : Int) + (cellF ns 4).fmod 5) = ((1 + ((cellF ns 4).fmod 5).toNat : Nat) : Int) := by omega
    obtain ⟨k, hk⟩ : ∃ k, k = 1 + ((cellF ns 4).fmod 5).toNat := ⟨_, rfl⟩
    rw [← hk] at ek
    dsimp only
    rw [ek]
    refine ⟨p1, ((k : Nat) : Int), _, rfl, rfl, b1, by omega, by omega, by show 1 * _ ≤ _; omega, fun p5 n5 => ?_⟩
    rw [show (List.replicate ((k : Nat) : Int).toNat (nV [3])).flatten = nV (List.replicate k 3) from by
      rw [show ((k : Nat) : Int).toNat = k by omega]
      exact repN k 3]
    have s5 := same_new (o := .lst (nV (List.replicate k 3))) n5
    have b5 : upd H1 p5 (.lst (nV (List.replicate k 3))) p5 = some (.lst (nV (List.replicate k 3))) := upd_same ..
    generalize upd H1 p5 (.lst (nV (List.replicate k 3))) = H5 at s5 b5
    refine ⟨_, p5, List.replicate k 3, rfl, .inl (.inl b5), fun y hy => ?_, by rw [List.length_replicate]; omega, fun H13 v es s2 np hv dl db => ?_⟩
    · rw [(List.mem_replicate.mp hy).2]; decide
    rw [List.length_replicate] at dl
    exact hn _ _ ⟨b1'.same (same2 s5 s2), v, es, rfl, hv, by omega, by omega⟩
  rintro σ H13 ⟨bd, v, es, rfl, hv, v0, v5⟩
  -- third
  obtain ⟨u, eu⟩ : ∃ u, u = ren es := ⟨_, rfl⟩
  have uw : Row u := eu ▸ row_ren es
  have u0 : 0 < u.length := by rw [eu, ren_len]; exact v0
  have u5 : u.length ≤ 5 := by rw [eu, ren_len]; exact v5
  have une : u ≠ [] := List.length_pos_iff.mp u0
  have eux := mx_nblk uw une
  have nbu := nblk_few u
  have mku : ∀ {H' : Hp}, NL H' v es → MarksAt K H' v u := fun {H'} h => by
    refine ⟨(cI es).map V.int, ?_, .inl ⟨cI es, rfl, by rw [eu]; exact (ren_cI es).symm, .inl ?_⟩⟩
    · rw [← nV_cI, nV_len]; omega
    · rw [← nV_cI]; exact .inl (.inl h)
  refine r_mid (fun σ H14 => Bd K Pt H14 a g x f c' ns r qs ts ∧ NL H14 v es ∧ ∃ h, σ = [some (.ref a), some (.ref m), some (.ref g), some (.ref x), none, some (.int (nblk r : Nat)), some (.ref f), some (.ref c'), some (.ref t), x9, some (.ref v), some (.ref h)] ∧ NL H14 h u) (fun D1 hn _ => ?_) ?_
  · refine ⟨_, rfl, v, (cI es).map V.int, u, rfl, ?_, by rw [← nV_cI]; exact .inl (.inl hv), .inl ⟨cI es, rfl, by rw [eu]; exact (ren_cI es).symm⟩, fun H2 h s2 nh hh => hn _ _ ⟨bd.same s2, s2 _ _ hv, h, rfl, hh⟩⟩
    rw [← nV_cI, nV_len]; omega
  rintro σ H14 ⟨bd, hv, h, rfl, hh⟩
  -- the small ones
  refine r_mid (fun σ H15 => Bd K Pt H15 a g x f c' ns r qs ts ∧ NL H15 v es ∧ NL H15 h u ∧ σ = [some (.ref a), some (.ref m), some (.ref g), some (.ref x), none, some (.int (nblk r : Nat)), some (.ref f), some (.ref c'), some (.ref t), x9, some (.ref v), some (.ref h)]) (fun D1 hn _ => ?_) ?_
  · refine ⟨_, rfl, make_fin (mku hv) (fun _ H' p s1 np hs => ?_) fun e => absurd e (by omega)⟩
    refine ⟨p, u, rfl, hs, by omega, bd.tab.ext s1, fun H2 q2 qs2 e2 t2 h2 sq2 => ?_⟩
    have b2 := (bd.same s1).ext e2 t2
    have hh2 := NL.ext e2 (s1 _ _ hh)
    have hv2 := NL.ext e2 (s1 _ _ hv)
    refine ⟨_, rfl, _, rfl, h, u, rfl, hh2, uw, u0, by omega, fun H3 s3 => ?_⟩
    refine ⟨q2, h, u, qs2, 1, by rw [sq2.len], h2.ext (ExtN.of s3), s3 _ _ hh2, uw, u0, by omega, .inl rfl, sq2.one uw, sq2.1, fun H4 s4 => ⟨true, rfl, iteF ?_⟩⟩
    exact hn _ _ ⟨b2.same (same2 s3 s4), s4 _ _ (s3 _ _ hv2), s4 _ _ (s3 _ _ hh2), rfl⟩
  rintro σ H15 ⟨bd, hv, hh, rfl⟩
  refine r_mid (fun σ H16 => Bd K Pt H16 a g x f c' ns r qs ts ∧ σ = [some (.ref a), some (.ref m), some (.ref g), some (.ref x), none, some (.int (nblk r : Nat)), some (.ref f), some (.ref c'), some (.ref t), x9, some (.ref v), some (.ref h)]) (fun D1 hn _ => ?_) ?_
  · refine ⟨_, rfl, make_fin (mku hv) (fun _ H' p s1 np hs => ?_) fun e => absurd e (by omega)⟩
    refine ⟨p, u, rfl, hs, by omega, bd.tab.ext s1, fun H2 q2 qs2 e2 t2 h2 sq2 => ?_⟩
    have b2 := (bd.same s1).ext e2 t2
    have hh2 := NL.ext e2 (s1 _ _ hh)
    refine ⟨_, rfl, _, rfl, _, rfl, h, cI u, rfl, by rw [← nV_cI]; exact .inl (.inl hh2), cI_pos une, fun mz hm hz => ?_⟩
    obtain rfl := max_mx une hm hz
    refine ⟨_, rfl, h, cI u, rfl, by rw [← nV_cI]; exact .inl (.inl hh2), cI_pos une, fun mz hm hz => ?_⟩
    obtain rfl := max_mx une hm hz
    have e9 : (((mx u : Nat) : Int) * ((mx u : Nat) + 1)).fdiv 2 = (qs2.length : Nat) := by
      have l2 := sq2.len
      have n1 : nblk u = mx u + 1 := by omega
      rw [n1, Nat.add_sub_cancel] at l2
      have l2 := l2.trans (Nat.mul_comm _ _)
      have e1 : ((mx u : Nat) : Int) * ((mx u : Nat) + 1) = ((2 * qs2.length : Nat) : Int) := by rw [l2]; push_cast; rfl
      rw [e1, show (2 : Int) = ((2 : Nat) : Int) from rfl, fdivN, Nat.mul_div_cancel_left _ (by decide)]
    refine ⟨_, _, rfl, rfl, _, _, rfl, rfl, .inl ⟨by omega, by omega⟩, _, _, rfl, rfl, ⟨by decide, by decide⟩, ?_⟩
    refine ⟨q2, h, u, qs2, -1, by rw [← e9], h2, hh2, uw, u0, by omega, .inr rfl, sq2.one uw, sq2.1, fun H4 s4 => ⟨true, rfl, iteF ?_⟩⟩
    exact hn _ _ ⟨b2.same s4, rfl⟩
  rintro σ H16 ⟨bd, rfl⟩
  -- once more
  refine r_mid (fun σ H17 => Bd K Pt H17 a g x f c' ns r qs ts ∧ σ = [some (.ref a), some (.ref m), some (.ref g), some (.ref x), none, some (.int (nblk r : Nat)), some (.ref f), some (.ref c'), some (.ref t), x9, some (.ref v), some (.ref h)]) (fun D1 hn _ => ?_) ?_
  · refine ⟨_, rfl, x, r, rfl, bd.sight, r10, bd.tab, fun H2 q2 qs2 e2 t2 h2 sq2 => ?_⟩
    have b2 := bd.ext e2 t2
    obtain ⟨ps, g1, g2⟩ := id b2.fin
    have lps : ps.length = qs.length := Paired.length g2
    refine ⟨_, rfl, _, rfl, f, _, rfl, .inr (.inl (.inl g1)), q2, g, r, qs2, 1, by rw [List.length_map, lps, lq, sq2.len], h2, b2.row, hw, r0, by omega, .inl rfl, sq2.one hw, sq2.1, fun H3 s3 => ⟨true, rfl, iteF ?_⟩⟩
    have b3 := b2.same s3
    refine ⟨_, rfl, x, r, rfl, b3.sight, r10, b3.tab, fun H4 q4 qs4 e4 t4 h4 sq4 => ?_⟩
    have b4 := b3.ext e4 t4
    obtain ⟨ps', g1', g2'⟩ := id b4.coa
    have lps' : ps'.length = ts.length := Paired.length g2'
    have l4 := sq4.len
    have l44 : ts.length = qs4.length := by omega
    refine ⟨_, rfl, _, rfl, _, rfl, c', _, rfl, .inr (.inl (.inl g1')), q4, g, r, qs4, -1, by rw [List.length_map, lps', l44], h4, b4.row, hw, r0, by omega, .inr rfl, sq4.one hw, sq4.1, fun H5 s5 => ⟨true, rfl, iteF ?_⟩⟩
    exact hn _ _ ⟨b4.same s5, rfl⟩
  rintro σ H17 ⟨bd, rfl⟩
  exact ⟨_, rfl, _, rfl, x, g, r, rfl, bd.sight, .inl (.inl bd.row), fun H' _ => hQ H'⟩
end
end K03
set_option Elab.async false
set_option linter.all false
set_option maxRecDepth 100000
set_option maxHeartbeats 4000000
/-! K03: _law_walked_in_turn. -/
namespace K03
open PySem PySem.Spec PyProof.Rows L2 Ms
def spTurn (K : PySem.W.Frag) : Sp := fun vs H Q _ => ∃ (a b : Addr) (n m t : Nat), vs = [.ref a, .ref b, .int (n : Nat), .int (m : Nat), .int (t : Nat)] ∧ 0 < n ∧ n ≤ 8 ∧ 0 < m ∧ m ≤ 8 ∧ RowsAt H a (rowsN n) ∧ RowsAt H b (rowsN m) ∧ ∀ H', Same H H' → Q (.bl true) H'
section
variable {P : Program} {w : World} {K : PySem.W.Frag} {mg : Str → Option Value} {base : Heap}
theorem ok__law_walked_in_turn (T : Tx K mg) : Ok P w K mg base "_law_walked_in_turn" 7 (spTurn K) := by
  have C : COk P w K mg base "Sight" 2 (spInit K) := cok T
  have O_marks_after : Ok P w K mg base "marks_after" 2 (spAfter K) := ok_marks_after T
  have O__law_agrees : Ok P w K mg base "_law_agrees" 3 (spAgrees K) := ok__law_agrees T
  have O__law_walked : Ok P w K mg base "_law_walked" 6 (spWalked K) := ok__law_walked T
  refine ok_of T.a__law_walked_in_turn sc_law_walked_in_turn (fun vs H Q E h => ?_) bi__law_walked_in_turn fun cdv A outer s H vs Q E hr h => ?_
  · obtain ⟨a, b, n, m, t, rfl, _⟩ := h
    rfl
  obtain ⟨a, b, n, m, t, rfl, n0, n8, m0, m8, ha, hb, hQ⟩ := h
  refine ⟨_, (pss_cons (ps_set (i := 5) sc_law_walked_in_turn.nd rfl (by first | exact Or.inl rfl | exact Or.inr rfl) pe_int)
  (pss_cons (ps_for_gen (GS := spAll K) rfl rfl (hr.mono (by decide)) rfl (fun _ _ _ _ h => gen_all T C O_marks_after h) T.a_all_sights (pa_cons (pv 2) pa_nil) (pg_name (i := 6) sc_law_walked_in_turn.nd rfl (by first | exact Or.inl rfl | exact Or.inr rfl))
  (pss_cons (ps_if (pt_cmpR op_ge (pv 5) (pv 4) (nomark _))
    (pss_one ps_break)
    pss_nil)
    (pss_cons (ps_if (PW.pt (pw_or (pt_cmpR op_ge (pv 5) (pe_callB (lenK K) (by rfl) T.f_len boot_len (pa_cons (pv 0) pa_nil)) (nomark _)) (pw_or (pt_not (pt_val (pe_c (E := EN) O__law_agrees hr (by decide) (fun σ => passN σ) (pa_cons (pv 6) (pa_cons (pe_ix (ixL K) (pv 0) (pv 5) (fun _ _ => rfl)) pa_nil))))) (pw_or1 (pt_not (pt_val (pe_c (E := EN) O__law_walked hr (by decide) (fun σ => passN σ) (pa_cons (pv 1) (pa_cons (pv 3) pa_nil)))))))))
    (pss_one (ps_ret pe_bl))
    pss_nil)
    (pss_one (ps_set (i := 5) sc_law_walked_in_turn.nd rfl (by first | exact Or.inl rfl | exact Or.inr rfl) (pe_op op_add (pv 5) pe_int))))))
  (pss_one (ps_ret (pe_cmpR op_eq (pv 5) (pe_callB (call_min2 rfl) (by rfl) T.f_min (by decide +kernel) (pa_cons (pv 4) (pa_cons (pe_callB (lenK K) (by rfl) T.f_len boot_len (pa_cons (pv 0) pa_nil)) pa_nil))) (nomark _)))))), ?_⟩
  refine ⟨_, rfl, _, _, _, ⟨n, n0, n8, rfl, rfl, rfl, rfl⟩, trivial, fun j σ H' => Same H H' ∧ j ≤ t ∧ ∃ x, σ = [some (.ref a), some (.ref b), some (.int (n : Nat)), some (.int (m : Nat)), some (.int (t : Nat)), some (.int (j : Nat)), x], ⟨same_rfl, Nat.zero_le _, _, rfl⟩, ?_, ?_⟩
  · rintro j σ H1 x σg H2 hj ⟨s1, jt, z, rfl⟩ g1 hS ⟨p, r, rfl, er, hp⟩
    have s2 : Same H H2 := same2 s1 g1
    obtain ⟨ls, h1, h2⟩ := ha.same s2
    obtain ⟨l, e1, e2, e3⟩ := RowsAt.get h2 er
    have hl : (ls.map V.ref).length = (rowsN n).length := by rw [List.length_map]; exact Paired.length h2
    refine ⟨_, rfl, _, rfl, _, _, rfl, rfl, _, rfl, ?_⟩
    by_cases hc : t ≤ j
    · rw [decide_eq_true (show ((t : Nat) : Int) ≤ (j : Nat) by omega)]
      refine iteT ?_
      refine ⟨_, rfl, _, rfl, _, rfl, a, _, rfl, .inl (.inl (.inl h1)), _, _, rfl, rfl, ?_⟩
      have e : j = t := by omega
      subst e
      rw [hl, if_neg (show ¬ (((rowsN n).length : Nat) : Int) < (j : Nat) by omega), decide_eq_true rfl]
      exact hQ _ s2
    · rw [decide_eq_false (show ¬ ((t : Nat) : Int) ≤ (j : Nat) by omega)]
      refine iteF ?_
      refine ⟨_, rfl, _, rfl, a, _, rfl, .inl (.inl (.inl h1)), _, _, rfl, rfl, _, rfl, ?_⟩
      rw [hl, decide_eq_false (show ¬ (((rowsN n).length : Nat) : Int) ≤ (j : Nat) by omega)]
      refine iteF ?_
      refine ⟨_, rfl, _, rfl, _, rfl, a, _, (j : Nat), _, rfl, rfl, .inl (.inl h1), atI_nat e2, p, l, r, rfl, hp, .inl (.inl e3), fun H3 s3 => ⟨true, rfl, ?_⟩⟩
      refine iteF ?_
      refine ⟨_, rfl, _, rfl, b, m, rfl, m0, m8, hb.same (same2 s2 s3), fun H4 s4 => ⟨true, rfl, ?_⟩⟩
      refine iteF ?_
      refine ⟨_, rfl, _, _, rfl, rfl, ⟨same2 (same2 s2 s3) s4, by omega, _, rfl⟩, ?_⟩
      obtain ⟨g, r', q1, q2, q3⟩ := hS
      exact ⟨g, r', q1, q2, s4 _ _ (s3 _ _ q3)⟩
  · rintro σ H1 H2 ⟨s1, jt, z, rfl⟩ g1
    obtain ⟨ls, h1, h2⟩ := ha.same (same2 s1 g1)
    have hl : (ls.map V.ref).length = (rowsN n).length := by rw [List.length_map]; exact Paired.length h2
    refine ⟨_, rfl, _, rfl, _, rfl, a, _, rfl, .inl (.inl (.inl h1)), _, _, rfl, rfl, ?_⟩
    have e : (if (((ls.map V.ref).length : Nat) : Int) < (t : Nat) then (((ls.map V.ref).length : Nat) : Int) else (t : Nat)) = ((rowsN n).length : Nat) := by
      rw [hl]
      by_cases q : (((rowsN n).length : Nat) : Int) < (t : Nat)
      · rw [if_pos q]
      · rw [if_neg q]; omega
    rw [e, decide_eq_true rfl]
    exact hQ _ (same2 s1 g1)
end
end K03
set_option Elab.async false
set_option linter.all false
set_option maxRecDepth 100000
set_option maxHeartbeats 4000000
/-! K03: row_after, sight_count. -/
namespace K03
open PySem PySem.Spec PyProof.Rows L2 Ms
def spRowAfter (K : PySem.W.Frag) : Sp := fun vs H Q _ => ∃ (a : Addr) (n : Nat), vs = [.ref a] ∧ n ≤ 60 ∧ NL H a (tri n) ∧ ∀ H' p, Same H H' → H p = none → NL H' p (tri (n + 1)) → Q (.ref p) H'
def spCount (K : PySem.W.Frag) : Sp := fun vs H Q _ => ∃ (n : Nat), vs = [.int (n : Nat)] ∧ 0 < n ∧ n ≤ 60 ∧ ∀ H', Same H H' → Q (.int (goOn (n - 1) 1 : Nat)) H'
theorem tri_take {n i : Nat} {b : Nat} (h : (tri n)[i]? = some b) : (tri n).take (i + 1) = (tri n).take i ++ [b] := by rw [List.take_add_one, h] <;> rfl
theorem nV_app (l m : List Nat) : nV (l ++ m) = nV l ++ nV m := List.map_append
section
variable {P : Program} {w : World} {K : PySem.W.Frag} {mg : Str → Option Value} {base : Heap}
theorem ok_row_after (T : Tx K mg) : Ok P w K mg base "row_after" 2 (spRowAfter K) := by
  refine ok_of T.a_row_after scrow_after (fun vs H Q E h => ?_) bi_row_after fun cdv A outer s H vs Q E hr h => ?_
  · obtain ⟨a, n, rfl, _⟩ := h
    rfl
  obtain ⟨a, n, rfl, n60, ha, hQ⟩ := h
  have big : 4000000 ≤ sizeLine := by decide
  refine ⟨_, (pss_cons (ps_set (i := 1) scrow_after.nd rfl (by first | exact Or.inl rfl | exact Or.inr rfl) (pe_lst (pa_cons (pe_ix (ixL K) (pv 0) (pe_un un_neg pe_int) (fun _ _ => rfl)) pa_nil)))
  (pss_cons (ps_for PassesOwn.never rfl (pi_list (pv 0)) (pg_name (i := 2) scrow_after.nd rfl (by first | exact Or.inl rfl | exact Or.inr rfl))
  (pss_one (ps_expr (pe_bm PySem.F.plainAttrs_list PySem.F.slot_list_append PySem.F.type_list_append mt_append (pv 1) (pa_cons (pe_op op_add (pe_ix (ixL K) (pv 1) (pe_un un_neg pe_int) (fun _ _ => rfl)) (pv 2)) pa_nil)))))
  (pss_one (ps_ret (pv 1))))), ?_⟩
  have hlast : atI (nV (tri n)) (-1) = some (.int (goOn n 1 : Nat)) := by
    have e := tri_take (tri_last n)
    rw [List.take_of_length_le (by rw [tri_len]; omega)] at e
    rw [e, nV_app]
    exact atI_last _ _
  refine ⟨_, rfl, 1, rfl, a, _, _, _, rfl, rfl, .inl (.inl ha), hlast, by show 1 ≤ sizeLine; omega, fun p1 n1 => ?_⟩
  rw [show ([V.int (goOn n 1 : Nat)] : List V) = nV [goOn n 1] from rfl]
  have ha0 := ha
  have s1 := same_new (o := .lst (nV [goOn n 1])) n1
  have b1 : upd H p1 (.lst (nV [goOn n 1])) p1 = some (.lst (nV [goOn n 1])) := upd_same ..
  generalize upd H p1 (.lst (nV [goOn n 1])) = H1 at s1 b1
  have ha := s1 _ _ ha
  have n60' : n + 1 ≤ 61 := by omega
  refine ⟨_, rfl, a, rfl, ⟨_, .inl (.inl ha)⟩, ?_⟩
  refine for_it (walk_list (K := K) (a := a) (xs := nV (tri n))) (fun i σ H' => Same H H' ∧ H' a = some (.lst (nV (tri n))) ∧ NL H' p1 ((tri (n + 1)).take (i + 1)) ∧ ∃ x, σ = [some (.ref a), some (.ref p1), x]) ?_ (fun i σ H' _ h => .inl (.inl h.2.1)) ?_ ?_
  · refine ⟨s1, ha, ?_, _, rfl⟩
    rw [tri_take (tri_first n)]
    exact b1
  · rintro i x σ _ H2 hi ⟨s2, h2, h3, z, rfl⟩ ⟨rfl, ex⟩
    rw [nV_len, tri_len] at hi
    obtain ⟨u, hu⟩ : ∃ u, (tri n)[i]? = some u := ⟨_, getE (by rw [tri_len]; omega)⟩
    obtain ⟨v, hv⟩ : ∃ v, (tri (n + 1))[i]? = some v := ⟨_, getE (by rw [tri_len]; omega)⟩
    have hx : x = .int (u : Nat) := by
      rw [show (nV (tri n))[i]? = some (.int (u : Nat)) from nV_at hu] at ex
      exact (Option.some.inj ex).symm
    subst hx
    have hnext := tri_next (show i ≤ n by omega) hv hu
    have h3' : NL H2 p1 ((tri (n + 1)).take i ++ [v]) := by rw [← tri_take hv]; exact h3
    refine ⟨_, rfl, .inl ⟨rfl, _, .inl (.inl h3)⟩, _, rfl, 1, rfl, p1, _, _, _, rfl, rfl, .inl (.inl h3'), by rw [nV_app]; exact atI_last _ _, _, rfl, _, _, rfl, rfl, p1, _, _, rfl, rfl, h3, by rw [nV_len, List.length_take, tri_len]; omega, ?_⟩
    refine ⟨same_put n1 s2, ?_, ?_, _, rfl⟩
    · rw [upd_ne (ne_of_none ha0 n1)]; exact h2
    · rw [tri_take hnext]
      show upd H2 p1 _ p1 = _
      rw [upd_same, nV_app] <;> rfl
  · rintro σ H2 ⟨s2, h2, h3, z, rfl⟩
    rw [nV_len, tri_len, List.take_of_length_le (by rw [tri_len]; omega)] at h3
    exact ⟨_, rfl, hQ H2 p1 s2 n1 h3⟩
theorem ok_sight_count (T : Tx K mg) : Ok P w K mg base "sight_count" 3 (spCount K) := by
  have O_row_after : Ok P w K mg base "row_after" 2 (spRowAfter K) := ok_row_after T
  refine ok_of T.a_sight_count scsight_count (fun vs H Q E h => ?_) bi_sight_count fun cdv A outer s H vs Q E hr h => ?_
  · obtain ⟨n, rfl, _⟩ := h
    rfl
  obtain ⟨n, rfl, n0, n60, hQ⟩ := h
  have big : 4000000 ≤ sizeLine := by decide
  refine ⟨_, (pss_cons (ps_set (i := 1) scsight_count.nd rfl (by first | exact Or.inl rfl | exact Or.inr rfl) (pe_lst (pa_cons pe_int pa_nil)))
  (pss_cons (ps_for PassesOwn.never rfl (pi_range1 rfl T.f_range (pa_cons (pe_op op_sub (pv 0) pe_int) pa_nil)) (pg_name (i := 2) scsight_count.nd rfl (by first | exact Or.inl rfl | exact Or.inr rfl))
  (pss_one (ps_set (i := 1) scsight_count.nd rfl (by first | exact Or.inl rfl | exact Or.inr rfl) (pe_c (E := EN) O_row_after hr (by decide) (fun σ => passN σ) (pa_cons (pv 1) pa_nil)))))
  (pss_one (ps_ret (pe_ix (ixL K) (pv 1) (pe_un un_neg pe_int) (fun _ _ => rfl)))))), ?_⟩
  refine ⟨by show 1 ≤ sizeLine; omega, fun p1 n1 => ?_⟩
  have s1 := same_new (o := .lst ([V.int 1])) n1
  have b1 : upd H p1 (.lst ([V.int 1])) p1 = some (.lst ([V.int 1])) := upd_same ..
  generalize upd H p1 (.lst ([V.int 1])) = H1 at s1 b1
  refine ⟨_, rfl, _, _, rfl, rfl, _, rfl, by omega, by omega, ?_⟩
  have hk : ((n : Nat) - 1 : Int).toNat = n - 1 := by omega
  rw [hk]
  refine for_it walk_range (fun i σ H' => Same H H' ∧ ∃ x q, σ = [some (.int (n : Nat)), some (.ref q), x] ∧ NL H' q (tri i)) ?_ (fun _ _ _ _ _ => trivial) ?_ ?_
  · exact ⟨s1, _, p1, rfl, b1⟩
  · rintro i x σ _ H2 hi ⟨s2, z, q, rfl, hq⟩ ⟨rfl, rfl⟩
    refine ⟨_, rfl, q, i, rfl, by omega, hq, fun H3 p s3 np hp => ?_⟩
    exact ⟨same2 s2 s3, _, p, rfl, hp⟩
  · rintro σ H2 ⟨s2, z, q, rfl, hq⟩
    have e := tri_take (tri_last (n - 1))
    rw [List.take_of_length_le (by rw [tri_len]; omega)] at e
    have hq' : NL H2 q ((tri (n - 1)).take (n - 1) ++ [goOn (n - 1) 1]) := by rw [← e]; exact hq
    refine ⟨_, rfl, 1, rfl, q, _, _, _, rfl, rfl, .inl (.inl hq'), by rw [nV_app]; exact atI_last _ _, hQ H2 s2⟩
end
end K03
set_option Elab.async false
set_option linter.all false
set_option maxRecDepth 100000
set_option maxHeartbeats 4000000
/-! K03: _law_count, _law_counted. -/
namespace K03
open PySem PySem.Spec PyProof.Rows L2 Ms
def spLawCount (K : PySem.W.Frag) : Sp := fun vs H Q _ => ∃ (n : Nat), vs = [.int (n : Nat)] ∧ 0 < n ∧ n ≤ 60 ∧ ∀ H', Same H H' → Q (.int (goOn (n - 1) 1 : Nat)) H'
def spCounted (K : PySem.W.Frag) : Sp := fun vs H Q _ => ∃ (i : Int), vs = [.int i, .int i] ∧ Q (.bl true) H
def cnts (n : Nat) : List Nat := (List.range (n + 1)).map (stir n)
theorem stir_zero : ∀ n, stir n 0 = 1
  | 0 => rfl
  | n + 1 => stir_zero n
theorem stir_self : ∀ n, stir n n = 1
  | 0 => rfl
  | n + 1 => by
    unfold stir
    rw [stir_out n (n + 1) (by omega), stir_self n, Nat.zero_mul]
theorem sum_upTo (f : Nat → Nat) : ∀ n, ((List.range n).map f).sum = Ms.upTo f n
  | 0 => rfl
  | n + 1 => by
    rw [List.range_succ, List.map_append, List.sum_append, sum_upTo f n]
    show Ms.upTo f n + (f n + 0) = Ms.upTo f n + f n
    rw [Nat.add_zero]
theorem cI_sum (l : List Nat) : (cI l).sum = (l.sum : Nat) := by
  induction l with
  | nil => rfl
  | cons a l ih =>
    show (a : Int) + (cI l).sum = ((a + l.sum : Nat) : Int)
    rw [ih]; omega
theorem cnts_sum (n : Nat) : (cnts n).sum = goOn n 1 := by
  unfold cnts
  rw [sum_upTo]
  have h := stir_goOn n 0
  rw [Nat.add_zero] at h
  refine Eq.trans ?_ h
  exact upTo_congr _ fun i _ => (Nat.mul_one _).symm
theorem cnts_len (n : Nat) : (cnts n).length = n + 1 := by unfold cnts; rw [List.length_map, List.length_range]
theorem cnts_at {n k : Nat} (h : k ≤ n) : (cnts n)[k]? = some (stir n k) := by
  unfold cnts
  rw [List.getElem?_map, List.getElem?_range (by omega)] <;> rfl
section
variable {P : Program} {w : World} {K : PySem.W.Frag} {mg : Str → Option Value} {base : Heap}
theorem ok__law_counted (T : Tx K mg) : Ok P w K mg base "_law_counted" 2 (spCounted K) := by
  have O__law_whole : Ok P w K mg base "_law_whole" 1 spWhole := ok__law_whole T
  refine ok_of T.a__law_counted sc_law_counted (fun vs H Q E h => ?_) bi__law_counted fun cdv A outer s H vs Q E hr h => ?_
  · obtain ⟨i, rfl, _⟩ := h
    rfl
  obtain ⟨i, rfl, hQ⟩ := h
  refine ⟨_, (pss_one (ps_ret (pe_and (pe_c (E := EN) O__law_whole hr (by decide) (fun σ => passN σ) (pa_cons (pv 0) pa_nil)) (pe_one (pe_cmpR op_eq (pv 0) (pv 1) (nomark _)))))), ?_⟩
  refine ⟨_, rfl, i, rfl, true, rfl, ?_⟩
  refine iteT ?_
  refine ⟨_, rfl, _, rfl, rfl, ?_⟩
  rw [decide_eq_true rfl]
  exact hQ
theorem ok__law_count (T : Tx K mg) : Ok P w K mg base "_law_count" 2 (spLawCount K) := by
  refine ok_of T.a__law_count sc_law_count (fun vs H Q E h => ?_) bi__law_count fun cdv A outer s H vs Q E hr h => ?_
  · obtain ⟨n, rfl, _⟩ := h
    rfl
  obtain ⟨n, rfl, n0, n60, hQ⟩ := h
  have big : 4000000 ≤ sizeLine := by decide
  refine ⟨_, (pss_cons (ps_set (i := 1) sc_law_count.nd rfl (by first | exact Or.inl rfl | exact Or.inr rfl) (pe_lst (pa_cons pe_int pa_nil)))
  (pss_cons (ps_for PassesOwn.never rfl (pi_range1 rfl T.f_range (pa_cons (pe_op op_sub (pv 0) pe_int) pa_nil)) (pg_name (i := 2) sc_law_count.nd rfl (by first | exact Or.inl rfl | exact Or.inr rfl))
  (pss_cons (ps_set (i := 3) sc_law_count.nd rfl (by first | exact Or.inl rfl | exact Or.inr rfl) (pe_lst (pa_cons pe_int pa_nil)))
    (pss_cons (ps_for PassesOwn.never rfl (pi_range2 rfl T.f_range (pa_cons pe_int (pa_cons (pe_callB (lenK K) (by rfl) T.f_len boot_len (pa_cons (pv 1) pa_nil)) pa_nil))) (pg_name (i := 4) sc_law_count.nd rfl (by first | exact Or.inl rfl | exact Or.inr rfl))
    (pss_one (ps_expr (pe_bm PySem.F.plainAttrs_list PySem.F.slot_list_append PySem.F.type_list_append mt_append (pv 3) (pa_cons (pe_op op_add (pe_op op_mul (pe_ix (ixL K) (pv 1) (pv 4) (fun _ _ => rfl)) (pe_op op_add (pv 4) pe_int)) (pe_ix (ixL K) (pv 1) (pe_op op_sub (pv 4) pe_int) (fun _ _ => rfl))) pa_nil)))))
    (pss_one (ps_set (i := 1) sc_law_count.nd rfl (by first | exact Or.inl rfl | exact Or.inr rfl) (pe_op op_cat (pv 3) (pe_lst (pa_cons pe_int pa_nil))))))))
  (pss_one (ps_ret (pe_callB (sumQ K (hc := rfl)) (by rfl) T.f_sum (by decide +kernel) (pa_cons (pv 1) pa_nil)))))), ?_⟩
  refine ⟨by show 1 ≤ sizeLine; omega, fun p1 n1 => ?_⟩
  have s1 := same_new (o := .lst ([V.int 1])) n1
  have b1 : upd H p1 (.lst ([V.int 1])) p1 = some (.lst ([V.int 1])) := upd_same ..
  generalize upd H p1 (.lst ([V.int 1])) = H1 at s1 b1
  refine ⟨_, rfl, _, _, rfl, rfl, _, rfl, by omega, by omega, ?_⟩
  have hk : ((n : Nat) - 1 : Int).toNat = n - 1 := by omega
  rw [hk]
  refine for_it walk_range (fun i σ H' => Same H H' ∧ ∃ q x2 x3 x4, σ = [some (.int (n : Nat)), some (.ref q), x2, x3, x4] ∧ H q = none ∧ NL H' q (cnts i)) ?_ (fun _ _ _ _ _ => trivial) ?_ ?_
  · exact ⟨s1, p1, _, _, _, rfl, n1, b1⟩
  · rintro i x σ _ H3 hi ⟨s3, q, x2, x3, x4, rfl, nq, hq⟩ ⟨rfl, rfl⟩
    refine ⟨by show 1 ≤ sizeLine; omega, fun D nD => ?_⟩
    have sD := same_new (o := .lst [V.int 1]) nD
    have bD : upd H3 D (.lst [V.int 1]) D = some (.lst [V.int 1]) := upd_same ..
    generalize upd H3 D (.lst [V.int 1]) = H4 at sD bD
    have q4 := sD _ _ hq
    have qD : q ≠ D := ne_of_none hq nD
    have e1 : ([V.int 1] : List V) = nV ((List.range 1).map (stir (i + 1))) := by
      show _ = nV [stir (i + 1) 0]
      rw [stir_zero] <;> rfl
    rw [e1] at bD
    refine ⟨_, rfl, q, _, rfl, .inl (.inl (.inl q4)), 1, _, rfl, ⟨by omega, by omega, by omega, by rw [nV_len, cnts_len]; omega⟩, ?_⟩
    have hk2 : (((nV (cnts i)).length : Nat) - 1 : Int).toNat = i := by rw [nV_len, cnts_len]; omega
    rw [hk2]
    refine for_it walk_range (fun t σ H' => Same H3 H' ∧ H' q = some (.lst (nV (cnts i))) ∧ NL H' D ((List.range (t + 1)).map (stir (i + 1))) ∧ ∃ x4, σ = [some (.int (n : Nat)), some (.ref q), some (.int (0 + (i : Nat))), some (.ref D), x4]) ?_ (fun _ _ _ _ _ => trivial) ?_ ?_
    · exact ⟨sD, q4, bD, _, rfl⟩
    · rintro t x σ _ H5 ht ⟨s5, q5, d5, x4, rfl⟩ ⟨rfl, rfl⟩
      dsimp only
      have ek : (1 + ((t : Nat) : Int)) = ((t + 1 : Nat) : Int) := by omega
      rw [ek]
      refine ⟨_, rfl, .inl ⟨rfl, _, .inl (.inl d5)⟩, _, rfl, _, rfl, q, _, ((t + 1 : Nat) : Int), _, rfl, rfl, .inl (.inl q5), atI_nat (nV_at (cnts_at (show t + 1 ≤ i by omega))), _, rfl, _, _, rfl, rfl, _, _, rfl, rfl, .inr ⟨by omega, by omega⟩, _, rfl, _, rfl, _, _, rfl, rfl, q, _, ((t + 1 : Nat) - 1 : Int), .int (stir i t : Nat), rfl, rfl, .inl (.inl q5), ?_, ?_⟩
      · rw [show ((t + 1 : Nat) - 1 : Int) = ((t : Nat) : Int) by omega]
        exact atI_nat (nV_at (cnts_at (show t ≤ i by omega)))
      refine ⟨_, _, rfl, rfl, D, _, _, rfl, rfl, d5, by rw [nV_len, List.length_map, List.length_range]; omega, ?_⟩
      refine ⟨same_put nD s5, by rw [upd_ne qD]; exact q5, ?_, _, rfl⟩
      show upd H5 D _ D = _
      rw [upd_same, List.range_succ (n := t + 1), List.map_append, nV_app]
      have ev : ((stir i (t + 1) : Nat) : Int) * ((t + 1 : Nat) + 1) + (stir i t : Nat) = (stir (i + 1) (t + 1) : Nat) := by
        show _ = ((stir i (t + 1) * (t + 2) + stir i t : Nat) : Int)
        push_cast
        rfl
      show some (HO.lst (_ ++ [V.int (((stir i (t + 1) : Nat) : Int) * ((t + 1 : Nat) + 1) + (stir i t : Nat))])) = _
      rw [ev] <;> rfl
    · rintro σ H5 ⟨s5, q5, d5, x4, rfl⟩
      refine ⟨_, rfl, by show 1 ≤ sizeLine; omega, fun p6 n6 => ?_⟩
      have s6 := same_new (o := .lst ([V.int 1])) n6
      have b6 : upd H5 p6 (.lst ([V.int 1])) p6 = some (.lst ([V.int 1])) := upd_same ..
      generalize upd H5 p6 (.lst ([V.int 1])) = H6 at s6 b6
      have d5 := s6 _ _ d5
      refine ⟨D, p6, _, _, rfl, rfl, d5, b6, by rw [nV_len, List.length_map, List.length_range]; show _ + 1 ≤ _; omega, fun p7 n7 => ?_⟩
      have s7 := same_new (o := .lst (nV ((List.range (i + 1)).map (stir (i + 1))) ++ [V.int 1])) n7
      have s9 := same2 s3 (same2 s5 s6)
      refine ⟨same2 s9 s7, p7, _, _, _, rfl, s9.free n7, ?_⟩
      show upd H6 p7 _ p7 = _
      rw [upd_same]
      have e9 : nV ((List.range (i + 1)).map (stir (i + 1))) ++ [V.int 1] = nV (cnts (i + 1)) := by
        show _ = nV ((List.range (i + 1 + 1)).map (stir (i + 1)))
        rw [List.range_succ (n := i + 1), List.map_append, nV_app]
        show _ = _ ++ nV [stir (i + 1) (i + 1)]
        rw [stir_self] <;> rfl
      rw [e9]
  · rintro σ H3 ⟨s3, q, x2, x3, x4, rfl, nq, hq⟩
    refine ⟨_, rfl, q, true, cI (cnts (n - 1)), rfl, ?_, ?_⟩
    · show SqL K H3 q _
      rw [← nV_cI]
      exact .inl (.inl hq)
    · rw [cI_sum, cnts_sum]
      exact hQ _ s3
end
end K03
set_option Elab.async false
set_option linter.all false
set_option maxRecDepth 100000
set_option maxHeartbeats 4000000
/-! K03: _law_parta. -/
namespace K03
open PySem PySem.Spec PyProof.Rows L2 Ms
def spPart (K : PySem.W.Frag) : Sp := fun vs H Q _ => ∃ (a : Addr) (ns : List Int), vs = [.ref a] ∧ SqL K H a (ns.map V.int) ∧ ∀ H', Same H H' → Q (.bl true) H'
def SZ : List Nat := [4, 5, 3, 6, 2, 1]
theorem sz_ok {d : Nat} (h : d < 6) : 0 < at0 SZ d ∧ at0 SZ d ≤ 8 := by
  have : ∀ d : Fin 6, 0 < at0 SZ d.1 ∧ at0 SZ d.1 ≤ 8 := by decide
  exact this ⟨d, h⟩
section
variable {P : Program} {w : World} {K : PySem.W.Frag} {mg : Str → Option Value} {base : Heap}
theorem ok__law_parta (T : Tx K mg) : Ok P w K mg base "_law_parta" 8 (spPart K) := by
  have O__law_cell : Ok P w K mg base "_law_cell" 1 (spCellL K) := ok__law_cell T
  have O__law_digits : Ok P w K mg base "_law_digits" 1 (spDigits K) := ok__law_digits T
  have O__law_rows : Ok P w K mg base "_law_rows" 2 (spRows K) := ok__law_rows T
  have O__law_walked : Ok P w K mg base "_law_walked" 6 (spWalked K) := ok__law_walked T
  have O__law_walked_in_turn : Ok P w K mg base "_law_walked_in_turn" 7 (spTurn K) := ok__law_walked_in_turn T
  have O_sight_count : Ok P w K mg base "sight_count" 3 (spCount K) := ok_sight_count T
  have O__law_count : Ok P w K mg base "_law_count" 2 (spLawCount K) := ok__law_count T
  have O__law_counted : Ok P w K mg base "_law_counted" 2 (spCounted K) := ok__law_counted T
  refine ok_of T.a__law_parta sc_law_parta (fun vs H Q E h => ?_) bi__law_parta fun cdv A outer s H vs Q E hr h => ?_
  · obtain ⟨a, ns, rfl, _⟩ := h
    rfl
  obtain ⟨a, ns, rfl, ha, hQ⟩ := h
  have big : 4000000 ≤ sizeLine := by decide
  refine ⟨_, (pss_cons (ps_set (i := 1) sc_law_parta.nd rfl (by first | exact Or.inl rfl | exact Or.inr rfl) (pe_c (E := EN) O__law_digits hr (by decide) (fun σ => passN σ) (pa_cons (pe_c (E := EN) O__law_cell hr (by decide) (fun σ => passN σ) (pa_cons (pv 0) (pa_cons pe_int pa_nil))) (pa_cons (pe_lst (pa_cons pe_int (pa_cons pe_int (pa_cons pe_int (pa_cons pe_int pa_nil))))) pa_nil))))
  (pss_cons (ps_set (i := 2) sc_law_parta.nd rfl (by first | exact Or.inl rfl | exact Or.inr rfl) (pe_ix (ixL K) (pe_lst (pa_cons pe_int (pa_cons pe_int (pa_cons pe_int (pa_cons pe_int (pa_cons pe_int (pa_cons pe_int pa_nil))))))) (pe_ix (ixL K) (pv 1) pe_int (fun _ _ => rfl)) (fun _ _ => rfl)))
  (pss_cons (ps_if (pt_cmpR (inK K) (pe_ix (ixL K) (pv 1) pe_int (fun _ _ => rfl)) (pe_tup (pa_cons pe_int (pa_cons pe_int pa_nil))) (by rfl))
  (pss_one (ps_set (i := 2) sc_law_parta.nd rfl (by first | exact Or.inl rfl | exact Or.inr rfl) pe_int))
  pss_nil)
  (pss_cons (ps_if (pt_cmpR op_eq (pe_ix (ixL K) (pv 1) pe_int (fun _ _ => rfl)) pe_int (nomark _))
  (pss_one (ps_set (i := 2) sc_law_parta.nd rfl (by first | exact Or.inl rfl | exact Or.inr rfl) pe_int))
  pss_nil)
  (pss_cons (ps_set (i := 3) sc_law_parta.nd rfl (by first | exact Or.inl rfl | exact Or.inr rfl) (pe_c (E := EN) O__law_rows hr (by decide) (fun σ => passN σ) (pa_cons (pv 2) pa_nil)))
  (pss_cons (ps_set (i := 4) sc_law_parta.nd rfl (by first | exact Or.inl rfl | exact Or.inr rfl) (pe_op op_add pe_int (pe_ix (ixL K) (pv 1) pe_int (fun _ _ => rfl))))
  (pss_cons (ps_set (i := 5) sc_law_parta.nd rfl (by first | exact Or.inl rfl | exact Or.inr rfl) (pe_c (E := EN) O__law_rows hr (by decide) (fun σ => passN σ) (pa_cons (pv 4) pa_nil)))
  (pss_cons (ps_if (PW.pt (pw_or (pt_not (pt_val (pe_c (E := EN) O__law_walked_in_turn hr (by decide) (fun σ => passN σ) (pa_cons (pv 3) (pa_cons (pv 5) (pa_cons (pv 2) (pa_cons (pv 4) (pa_cons (pe_ix (ixL K) (pv 1) pe_int (fun _ _ => rfl)) pa_nil)))))))) (pw_or1 (pt_not (pt_val (pe_c (E := EN) O__law_walked hr (by decide) (fun σ => passN σ) (pa_cons (pv 3) (pa_cons (pv 2) pa_nil))))))))
  (pss_one (ps_ret pe_bl))
  pss_nil)
  (pss_cons (ps_if (PW.pt (pw_or (pt_not (pt_val (pe_c (E := EN) O__law_counted hr (by decide) (fun σ => passN σ) (pa_cons (pe_c (E := EN) O_sight_count hr (by decide) (fun σ => passN σ) (pa_cons (pv 2) pa_nil)) (pa_cons (pe_callB (lenK K) (by rfl) T.f_len boot_len (pa_cons (pv 3) pa_nil)) pa_nil))))) (pw_or1 (pt_not (pt_val (pe_c (E := EN) O__law_counted hr (by decide) (fun σ => passN σ) (pa_cons (pe_c (E := EN) O_sight_count hr (by decide) (fun σ => passN σ) (pa_cons (pv 4) pa_nil)) (pa_cons (pe_callB (lenK K) (by rfl) T.f_len boot_len (pa_cons (pv 5) pa_nil)) pa_nil))))))))
  (pss_one (ps_ret pe_bl))
  pss_nil)
  (pss_cons (ps_set (i := 6) sc_law_parta.nd rfl (by first | exact Or.inl rfl | exact Or.inr rfl) (pe_op op_add pe_int (pe_op op_modN (pe_callTy call_int1 (by rfl) T.f_int (by decide +kernel) (pa_cons (pe_c (E := EN) O__law_cell hr (by decide) (fun σ => passN σ) (pa_cons (pv 0) (pa_cons pe_int pa_nil))) pa_nil)) pe_int)))
  (pss_cons (ps_if (PW.pt (pw_or (pt_not (pt_val (pe_c (E := EN) O__law_counted hr (by decide) (fun σ => passN σ) (pa_cons (pe_c (E := EN) O_sight_count hr (by decide) (fun σ => passN σ) (pa_cons (pv 6) pa_nil)) (pa_cons (pe_c (E := EN) O__law_count hr (by decide) (fun σ => passN σ) (pa_cons (pv 6) pa_nil)) pa_nil))))) (pw_or1 (pt_not (pt_val (pe_c (E := EN) O__law_counted hr (by decide) (fun σ => passN σ) (pa_cons (pe_c (E := EN) O_sight_count hr (by decide) (fun σ => passN σ) (pa_cons pe_int pa_nil)) (pa_cons (pe_c (E := EN) O__law_count hr (by decide) (fun σ => passN σ) (pa_cons pe_int pa_nil)) pa_nil))))))))
  (pss_one (ps_ret pe_bl))
  pss_nil)
  (pss_one (ps_ret (pe_c (E := EN) O__law_walked hr (by decide) (fun σ => passN σ) (pa_cons (pv 5) (pa_cons (pv 4) pa_nil)))))))))))))))), ?_⟩
  -- shape
  refine r_mid (fun σ H1 => Same H H1 ∧ ∃ sh ds, σ = [some (.ref a), some (.ref sh), none, none, none, none, none] ∧ NL H1 sh ds ∧ ds.length = 4 ∧ at0 ds 0 < 32 ∧ at0 ds 1 < 6 ∧ at0 ds 2 < 4 ∧ at0 ds 3 < 7) (fun D1 hn _ => ?_) ?_
  · refine ⟨_, rfl, a, ns, 0, rfl, ha, fun z => ⟨by show 4 ≤ sizeLine; omega, fun p1 n1 => ?_⟩⟩
    rw [show ([V.int 32, V.int 6, V.int 4, V.int 7] : List V) = nV [32, 6, 4, 7] from rfl]
    have s1 := same_new (o := .lst (nV [32, 6, 4, 7])) n1
    have b1 : upd H p1 (.lst (nV [32, 6, 4, 7])) p1 = some (.lst (nV [32, 6, 4, 7])) := upd_same ..
    generalize upd H p1 (.lst (nV [32, 6, 4, 7])) = H1 at s1 b1
    refine ⟨z, p1, [32, 6, 4, 7], rfl, .inl (.inl b1), by decide, by decide, fun H2 p ds s2 np hp dl db => ?_⟩
    exact hn _ _ ⟨same2 s1 s2, p, ds, rfl, hp, dl, db 0 (by decide), db 1 (by decide), db 2 (by decide), db 3 (by decide)⟩
  rintro σ H1 ⟨s1, sh, ds, rfl, hsh, dl, d0, d1, d2, d3⟩
  -- size
  refine r_mid (fun σ H2 => Same H1 H2 ∧ ∃ n : Nat, σ = [some (.ref a), some (.ref sh), some (.int (n : Nat)), none, none, none, none] ∧ 0 < n ∧ n ≤ 8) (fun D1 hn _ => ?_) ?_
  · refine ⟨by show 6 ≤ sizeLine; omega, fun p1 n1 => ?_⟩
    rw [show ([V.int 4, V.int 5, V.int 3, V.int 6, V.int 2, V.int 1] : List V) = nV SZ from rfl]
    have s2 := same_new (o := .lst (nV SZ)) n1
    have b2 : upd H1 p1 (.lst (nV SZ)) p1 = some (.lst (nV SZ)) := upd_same ..
    generalize upd H1 p1 (.lst (nV SZ)) = H2 at s2 b2
    refine ⟨_, rfl, sh, _, 1, _, rfl, rfl, .inl (.inl (s2 _ _ hsh)), atI_nat (j := 1) (nV_at0 (i := 1) (by omega)), p1, _, _, _, rfl, rfl, .inl (.inl b2), atI_nat (nV_at0 (show at0 ds 1 < 6 from d1)), ?_⟩
    exact hn _ _ ⟨s2, _, rfl, sz_ok d1⟩
  rintro σ H2 ⟨s2, n, rfl, n0, n8⟩
  have hsh := s2 _ _ hsh
  refine r_mid (fun σ H3 => Same H2 H3 ∧ ∃ n : Nat, σ = [some (.ref a), some (.ref sh), some (.int (n : Nat)), none, none, none, none] ∧ 0 < n ∧ n ≤ 8) (fun D1 hn _ => ?_) ?_
  · refine ⟨_, rfl, sh, _, 0, _, rfl, rfl, .inl (.inl hsh), atI_nat (j := 0) (nV_at0 (i := 0) (by omega)), by show 2 ≤ sizeLine; omega, fun p1 n1 => ?_⟩
    refine ⟨p1, _, rfl, .inr (.inl (.inl (upd_same ..))), rfl, rfl, _, rfl, ?_⟩
    have s3 := same_new (o := .tup [V.int 5, V.int 12]) n1
    generalize (if false = true then !inV (V.int (at0 ds 0 : Nat)) [V.int 5, V.int 12] else inV (V.int (at0 ds 0 : Nat)) [V.int 5, V.int 12]) = c
    cases c with
    | true => exact hn _ _ ⟨s3, 7, rfl, by omega, by omega⟩
    | false => exact hn _ _ ⟨s3, n, rfl, n0, n8⟩
  rintro σ H3 ⟨s3, n, rfl, n0, n8⟩
  have hsh := s3 _ _ hsh
  refine r_mid (fun σ H4 => Same H3 H4 ∧ ∃ n : Nat, σ = [some (.ref a), some (.ref sh), some (.int (n : Nat)), none, none, none, none] ∧ 0 < n ∧ n ≤ 8) (fun D1 hn _ => ?_) ?_
  · refine ⟨_, rfl, sh, _, 0, _, rfl, rfl, .inl (.inl hsh), atI_nat (j := 0) (nV_at0 (i := 0) (by omega)), rfl, _, rfl, ?_⟩
    generalize decide (V.int (at0 ds 0 : Nat) = V.int 19) = c
    cases c with
    | true => exact hn _ _ ⟨same_rfl, 8, rfl, by omega, by omega⟩
    | false => exact hn _ _ ⟨same_rfl, n, rfl, n0, n8⟩
  rintro σ H4 ⟨s4, n, rfl, n0, n8⟩
  have hsh := s4 _ _ hsh
  -- rows, inner
  refine r_mid (fun σ H5 => Same H4 H5 ∧ ∃ r, σ = [some (.ref a), some (.ref sh), some (.int (n : Nat)), some (.ref r), none, none, none] ∧ RowsAt H5 r (rowsN n)) (fun D1 hn _ => ?_) ?_
  · refine ⟨_, rfl, n, rfl, n0, n8, fun H5 p s5 np hp => ?_⟩
    exact hn _ _ ⟨s5, p, rfl, hp⟩
  rintro σ H5 ⟨s5, r, rfl, hr5⟩
  have hsh := s5 _ _ hsh
  refine r_mid (fun σ H6 => Same H5 H6 ∧ ∃ (m : Nat), σ = [some (.ref a), some (.ref sh), some (.int (n : Nat)), some (.ref r), some (.int (m : Nat)), none, none] ∧ 0 < m ∧ m ≤ 8) (fun D1 hn _ => ?_) ?_
  · refine ⟨_, rfl, sh, _, 2, _, rfl, rfl, .inl (.inl hsh), atI_nat (j := 2) (nV_at0 (i := 2) (by omega)), _, _, rfl, rfl, ?_⟩
    have e : ((1 : Int) + (at0 ds 2 : Nat)) = ((1 + at0 ds 2 : Nat) : Int) := by omega
    exact hn _ _ ⟨same_rfl, 1 + at0 ds 2, by rw [← e] <;> rfl, by omega, by omega⟩
  rintro σ H6 ⟨s6, m, rfl, m0, m8⟩
  have hsh := s6 _ _ hsh
  have hr6 := hr5.same s6
  refine r_mid (fun σ H7 => Same H6 H7 ∧ ∃ (q : Addr), σ = [some (.ref a), some (.ref sh), some (.int (n : Nat)), some (.ref r), some (.int (m : Nat)), some (.ref q), none] ∧ RowsAt H7 q (rowsN m)) (fun D1 hn _ => ?_) ?_
  · refine ⟨_, rfl, m, rfl, m0, m8, fun H7 p s7 np hp => ?_⟩
    exact hn _ _ ⟨s7, p, rfl, hp⟩
  rintro σ H7 ⟨s7, q, rfl, hq7⟩
  have hsh := s7 _ _ hsh
  have hr7 := hr6.same s7
  refine r_mid (fun σ H8 => Same H7 H8 ∧ σ = [some (.ref a), some (.ref sh), some (.int (n : Nat)), some (.ref r), some (.int (m : Nat)), some (.ref q), none]) (fun D1 hn _ => ?_) ?_
  · refine ⟨_, rfl, _, rfl, _, rfl, _, rfl, _, rfl, sh, _, 3, _, rfl, rfl, .inl (.inl hsh), atI_nat (j := 3) (nV_at0 (i := 3) (by omega)), r, q, n, m, at0 ds 3, rfl, n0, n8, m0, m8, hr7, hq7, fun H8 s8 => ⟨true, rfl, ?_⟩⟩
    refine iteF ?_
    refine ⟨_, rfl, _, rfl, r, n, rfl, n0, n8, hr7.same s8, fun H9 s9 => ⟨true, rfl, ?_⟩⟩
    refine iteF ?_
    exact hn _ _ ⟨same2 s8 s9, rfl⟩
  rintro σ H8 ⟨s8, rfl⟩
  have hr8 := hr7.same s8
  have hq8 := hq7.same s8
  have cnt : ∀ {n : Nat}, 0 < n → (rowsN n).length = goOn (n - 1) 1 := fun {n} h => rgs_count (n - 1)
  refine r_mid (fun σ H9 => Same H8 H9 ∧ σ = [some (.ref a), some (.ref sh), some (.int (n : Nat)), some (.ref r), some (.int (m : Nat)), some (.ref q), none]) (fun D1 hn _ => ?_) ?_
  · refine ⟨_, rfl, n, rfl, n0, by omega, fun H9 s9 => ?_⟩
    obtain ⟨ls, h1, h2⟩ := hr8.same s9
    refine ⟨_, rfl, r, _, rfl, .inl (.inl (.inl h1)), (goOn (n - 1) 1 : Nat), ?_, true, rfl, ?_⟩
    · rw [List.length_map, Paired.length h2, cnt n0]
    refine iteF ?_
    refine ⟨_, rfl, m, rfl, m0, by omega, fun H10 s10 => ?_⟩
    obtain ⟨ls, h1, h2⟩ := hq8.same (same2 s9 s10)
    refine ⟨_, rfl, q, _, rfl, .inl (.inl (.inl h1)), (goOn (m - 1) 1 : Nat), ?_, true, rfl, ?_⟩
    · rw [List.length_map, Paired.length h2, cnt m0]
    refine iteF ?_
    exact hn _ _ ⟨same2 s9 s10, rfl⟩
  rintro σ H9 ⟨s9, rfl⟩
  have hS : Same H H9 := same2 s1 (same2 s2 (same2 s3 (same2 s4 (same2 s5 (same2 s6 (same2 s7 (same2 s8 s9)))))))
  refine r_mid (fun σ H10 => Same H9 H10 ∧ ∃ k : Nat, σ = [some (.ref a), some (.ref sh), some (.int (n : Nat)), some (.ref r), some (.int (m : Nat)), some (.ref q), some (.int (k : Nat))] ∧ 0 < k ∧ k ≤ 60) (fun D1 hn _ => ?_) ?_
  · refine ⟨_, rfl, a, ns, 1, rfl, Same.seq hS ha, fun z => .inl ⟨z, rfl, ?_⟩⟩
    refine ⟨_, _, rfl, rfl, by show (60 : Int) ≠ 0; decide, _, _, rfl, rfl, ?_⟩
    have h1 : 0 ≤ z.fmod 60 := Int.fmod_nonneg_of_pos _ (by decide)
    have h2 : z.fmod 60 < 60 := Int.fmod_lt_of_pos _ (by decide)
    have e : ((1 : Int) + z.fmod 60) = ((1 + (z.fmod 60).toNat : Nat) : Int) := by omega
    exact hn _ _ ⟨same_rfl, 1 + (z.fmod 60).toNat, by rw [← e] <;> rfl, by omega, by omega⟩
  rintro σ H10 ⟨s10, k, rfl, k0, k60⟩
  refine r_mid (fun σ H11 => Same H10 H11 ∧ σ = [some (.ref a), some (.ref sh), some (.int (n : Nat)), some (.ref r), some (.int (m : Nat)), some (.ref q), some (.int (k : Nat))]) (fun D1 hn _ => ?_) ?_
  · refine ⟨_, rfl, k, rfl, k0, k60, fun H11 s11 => ⟨_, rfl, k, rfl, k0, k60, fun H12 s12 => ⟨_, rfl, true, rfl, ?_⟩⟩⟩
    refine iteF ?_
    refine ⟨60, rfl, by omega, by omega, fun H13 s13 => ⟨60, rfl, by omega, by omega, fun H14 s14 => ⟨_, rfl, true, rfl, ?_⟩⟩⟩
    refine iteF ?_
    exact hn _ _ ⟨same2 s11 (same2 s12 (same2 s13 s14)), rfl⟩
  rintro σ H11 ⟨s11, rfl⟩
  exact ⟨_, rfl, _, rfl, q, m, rfl, m0, m8, hq8.same (same2 s9 (same2 s10 s11)), fun H12 s12 => hQ _ (same2 hS (same2 s10 (same2 s11 s12)))⟩
end
end K03
set_option Elab.async false
set_option linter.all false
set_option maxRecDepth 100000
set_option maxHeartbeats 4000000
/-! K03: law. -/
namespace K03
open PySem PySem.Spec PyProof.Rows L2 Ms Msp LamX
section
variable {P : Program} {w : World} {K : PySem.W.Frag} {mg : Str → Option Value} {base : Heap} {c Pt : Addr}
theorem law_of (T : Tx K mg) (B : TabO K mg base c Pt) {fd : FuncData} (F : FunD K "law" "law" (defArgs slaw) (defBody slaw) (defScope slaw) [] [] (He.ga K "law") fd) : FnOk P w K mg base CX0 9 (He.ga K "law") fd ["script"] (spLaw0 K Pt) := by
  have O__law_parta : Ok P w K mg base "_law_parta" 8 (spPart K) := ok__law_parta T
  have O__law_partb : Ok P w K mg base "_law_partb" 6 (spPartB K Pt) := ok__law_partb T B
  refine F.ok sclaw (fun vs H Q E h => ?_) fun cdv A outer s H vs Q E hr h => ?_
  · obtain ⟨a, ns, rfl, _⟩ := h
    rfl
  obtain ⟨a, ns, rfl, ha, hT, hQ⟩ := h
  refine ⟨_, PSs.nox ((pss_cons (ps_if (pt_not (pt_val (pe_c (E := EN) O__law_parta hr (by decide) (fun σ => passN σ) (pa_cons (pv 0) pa_nil))))
  (pss_one (ps_ret pe_bl))
  pss_nil)
  (pss_one (ps_ret (pe_c (E := EN) O__law_partb hr (by decide) (fun σ => passN σ) (pa_cons (pv 0) pa_nil)))))), ?_⟩
  refine ⟨_, rfl, a, ns, rfl, ha, fun H1 s1 => ⟨true, rfl, iteF ?_⟩⟩
  exact ⟨_, rfl, a, ns, rfl, Same.seq s1 ha, hT.ext s1, fun H2 => hQ H2⟩
end
theorem facts {P : Program} {w : World} {K : PySem.W.Frag} {mg : Str → Option Value} {h : Heap} {f c Pt : Addr} (X : K.In h) (G : h.Ns mainGlobals mg) (hfa : mg ("law" : Str) = some (.ref f)) (cc : SaysM fa fn K) (ht : PySem.W.tabIn K "in_order" = some (c, Pt)) :
    ∃ fd : FuncData, (∀ (s : Shared) (v : Value), BindsTo s fd ⟨[v], []⟩ [("script", v)]) ∧ ∀ base : Heap, K.In base → base.Ns mainGlobals mg → LamX.TabB base mg c Pt → FnOk P w K mg base CX0 9 f fd ["script"] (spLaw0 K Pt) := by
  have T : Tx K mg := tx_of X G cc
  have e := hfa.symm.trans T.gd_law
  cases e
  obtain ⟨fd, F⟩ := T.d_law
  have b := FunD.bindsA (ps := ["script"]) F bi_law
  obtain ⟨c', P', e', _, hc⟩ := ckTab_ok (tab_says cc)
  rw [ht] at e'
  cases e'
  exact ⟨fd, fun s v => b s [v] rfl, fun base _ _ tb => law_of T ⟨tb, hc⟩ F⟩
end K03
set_option Elab.async false
set_option linter.all false
set_option maxRecDepth 100000
set_option maxHeartbeats 4000000
theorem PySem.Challenge.cw_manysights_k03_sights_listed_holds : PySem.Challenge.rw_manysights_k03_sights_listed.Holds :=
  K03.close fun _ _ _ _ _ _ _ _ X G e cc ht => K03.facts X G e cc ht
